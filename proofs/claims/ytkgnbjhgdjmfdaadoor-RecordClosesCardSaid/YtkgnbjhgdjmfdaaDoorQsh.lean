/- The head of step of the reference: its errors. No condition but the lengths. -/
import Derived.Test.YtkgnbjhgdjmfdaaDoorQtc
import Derived.Test.YtkgnbjhgdjmfdaaDoorRpa
import Derived.BigQuiet
namespace Go.Proofs.YtkgnbjhgdjmfdaaDoor
open Go.RowKit Go.Deep Tr

namespace Rc
theorem head3 {r : List Dn} {i : Nat} {s : Dn} (h : (isF s.pkg 0 15 && isF s.lin 0 1023 && isF s.knd 1 8) = false) : stepE r i s = 3 := by
  have h1 : headE r i s = 3 := by
    unfold headE
    rw [if_pos]
    cases h1 : isF s.pkg 0 15 <;> cases h2 : isF s.lin 0 1023 <;> cases h3 : isF s.knd 1 8 <;> simp_all
  rw [step_head (by rw [h1]; decide), h1]
theorem head5 {r : List Dn} {i : Nat} {s : Dn} (h : (isF s.pkg 0 15 && isF s.lin 0 1023 && isF s.knd 1 8) = true) (ho : ordE r i s = true) : stepE r i s = 5 := by
  have h1 : headE r i s = 5 := by
    unfold headE
    rw [if_neg, if_pos ho]
    cases h1 : isF s.pkg 0 15 <;> cases h2 : isF s.lin 0 1023 <;> cases h3 : isF s.knd 1 8 <;> simp_all
  rw [step_head (by rw [h1]; decide), h1]
theorem head1 {r : List Dn} {i : Nat} {s : Dn} (h : (isF s.pkg 0 15 && isF s.lin 0 1023 && isF s.knd 1 8) = true) (ho : ordE r i s = false) : headE r i s = if !isF (s.rds.length : Int) 1 1024 then 1 else 0 := by
  unfold headE
  rw [if_neg, if_neg (by rw [ho]; decide)]
  cases h1 : isF s.pkg 0 15 <;> cases h2 : isF s.lin 0 1023 <;> cases h3 : isF s.knd 1 8 <;> simp_all
end Rc
set_option maxHeartbeats 16000000 in
set_option maxRecDepth 100000 in
theorem qstep_h (r : List Dn) (i : Nat) (hi : i < r.length) (A : Option Addr) (c : Nat) (w : World) (hA : RcAt w A r) (hS : Sht r) (hR : (Rc.isF r[i].pkg 0 15 && Rc.isF r[i].lin 0 1023 && Rc.isF r[i].knd 1 8) = false) :
    Calls Tryd.prog 30 #[.slice A r.length c, .int .i64 i] w fun e w' => e = .returned (.int .i64 (Rc.stepE r i r[i])) ∧ Below w.heap.size w w' := by
  have HA := Lib.hid hA
  obtain ⟨g0, o, rfl, hg, hc⟩ := hA.st i hi
  have hd0 := hc 0 _ rfl
  have hd1 := hc 1 _ rfl
  have hd2 := hc 2 _ rfl
  have hd3 := hc 3 _ rfl
  have hd4 := hc 4 _ rfl
  have hd5 := hc 5 _ rfl
  rw [show o + i * 6 + 0 = o + i * 6 from rfl] at hd0
  have y2 : (i : Int) < (r.length : Int) := by omega
  have hrl := hA.rl
  have htl := hA.tl r[i] (List.getElem_mem hi)
  have HRD := Lib.hid (hA.rd r[i] (List.getElem_mem hi))
  have HP := Lib.hid (hS.p r[i] (List.getElem_mem hi))
  generalize r[i] = x at *
  clear hc hA hS
  have hbx : Below w.heap.size w (w.alloc (dnO x)) := (Below.refl _ _).alloc (Nat.le_refl _) _
  have hxn := heap_alloc_new w (dnO x)
  obtain ⟨V, hV⟩ : ∃ V, V = Rc.stepE r i x := ⟨_, rfl⟩
  rw [← hV]
  have HVV := Lib.hid hV
  clear hV
  by_cases a1 : x.pkg < 0
  · have da1 : decide (x.pkg < 0) = true := decide_eq_true a1
    have HT := Lib.hid (show V = 3 by
      rw [HVV.out]
      exact Rc.head3 hR)
    clear HVV hR
    go_enter Tryd.func30, Tryd.ntmps30
    go_wp2_with fail
    first | go_ret3 | go_ret2 | go_ret
    exact ⟨by rw [HT.out]; rfl, hbx⟩
  have da1 : decide (x.pkg < 0) = false := decide_eq_false a1
  by_cases a2 : 16 ≤ x.pkg
  · have da2 : decide (16 ≤ x.pkg) = true := decide_eq_true a2
    have HT := Lib.hid (show V = 3 by
      rw [HVV.out]
      exact Rc.head3 hR)
    clear HVV hR
    go_enter Tryd.func30, Tryd.ntmps30
    go_wp2_with fail
    first | go_ret3 | go_ret2 | go_ret
    exact ⟨by rw [HT.out]; rfl, hbx⟩
  have da2 : decide (16 ≤ x.pkg) = false := decide_eq_false a2
  by_cases a3 : x.lin < 0
  · have da3 : decide (x.lin < 0) = true := decide_eq_true a3
    have HT := Lib.hid (show V = 3 by
      rw [HVV.out]
      exact Rc.head3 hR)
    clear HVV hR
    go_enter Tryd.func30, Tryd.ntmps30
    go_wp2_with fail
    first | go_ret3 | go_ret2 | go_ret
    exact ⟨by rw [HT.out]; rfl, hbx⟩
  have da3 : decide (x.lin < 0) = false := decide_eq_false a3
  by_cases a4 : 1024 ≤ x.lin
  · have da4 : decide (1024 ≤ x.lin) = true := decide_eq_true a4
    have HT := Lib.hid (show V = 3 by
      rw [HVV.out]
      exact Rc.head3 hR)
    clear HVV hR
    go_enter Tryd.func30, Tryd.ntmps30
    go_wp2_with fail
    first | go_ret3 | go_ret2 | go_ret
    exact ⟨by rw [HT.out]; rfl, hbx⟩
  have da4 : decide (1024 ≤ x.lin) = false := decide_eq_false a4
  by_cases a5 : x.knd < 1
  · have da5 : decide (x.knd < 1) = true := decide_eq_true a5
    have HT := Lib.hid (show V = 3 by
      rw [HVV.out]
      exact Rc.head3 hR)
    clear HVV hR
    go_enter Tryd.func30, Tryd.ntmps30
    go_wp2_with fail
    first | go_ret3 | go_ret2 | go_ret
    exact ⟨by rw [HT.out]; rfl, hbx⟩
  have da5 : decide (x.knd < 1) = false := decide_eq_false a5
  by_cases a6 : 8 < x.knd
  · have da6 : decide (8 < x.knd) = true := decide_eq_true a6
    have HT := Lib.hid (show V = 3 by
      rw [HVV.out]
      exact Rc.head3 hR)
    clear HVV hR
    go_enter Tryd.func30, Tryd.ntmps30
    go_wp2_with fail
    first | go_ret3 | go_ret2 | go_ret
    exact ⟨by rw [HT.out]; rfl, hbx⟩
  have da6 : decide (8 < x.knd) = false := decide_eq_false a6
  exact absurd hR (by unfold Rc.isF; simp; omega)
set_option maxHeartbeats 16000000 in
set_option maxRecDepth 100000 in
theorem qstep_o (r : List Dn) (i : Nat) (hi : i < r.length) (A : Option Addr) (c : Nat) (w : World) (hA : RcAt w A r) (hS : Sht r) (hR : (Rc.isF r[i].pkg 0 15 && Rc.isF r[i].lin 0 1023 && Rc.isF r[i].knd 1 8) = true) (h0 : 0 < i) (ho : Rc.ordE r i r[i] = true) :
    Calls Tryd.prog 30 #[.slice A r.length c, .int .i64 i] w fun e w' => e = .returned (.int .i64 (Rc.stepE r i r[i])) ∧ Below w.heap.size w w' := by
  have HA := Lib.hid hA
  obtain ⟨g0, o, rfl, hg, hc⟩ := hA.st i hi
  have hd0 := hc 0 _ rfl
  have hd1 := hc 1 _ rfl
  have hd2 := hc 2 _ rfl
  have hd3 := hc 3 _ rfl
  have hd4 := hc 4 _ rfl
  have hd5 := hc 5 _ rfl
  rw [show o + i * 6 + 0 = o + i * 6 from rfl] at hd0
  have y2 : (i : Int) < (r.length : Int) := by omega
  have hrl := hA.rl
  have htl := hA.tl r[i] (List.getElem_mem hi)
  have HRD := Lib.hid (hA.rd r[i] (List.getElem_mem hi))
  have HP := Lib.hid (hS.p r[i] (List.getElem_mem hi))
  have hb00 : i - 1 < r.length := by omega
  obtain ⟨b, hbg, hcb⟩ : ∃ b, r[i - 1]? = some b ∧ ∀ k u, (Rc.dnV b)[k]? = some u → w.cell? ⟨g0, o + (i - 1) * 6 + k, none⟩ = some u := by
    obtain ⟨g1, o1, e1, _, hc1⟩ := hA.st (i - 1) hb00
    injection e1 with e1
    injection e1 with e1 e2 _
    subst e1 e2
    exact ⟨r[i - 1], List.getElem?_eq_getElem hb00, hc1⟩
  have hq0 : Rc.ordE r i r[i] = !Rc.fol r[i] b := by unfold Rc.ordE; rw [decide_eq_true h0, hbg, Bool.true_and]
  clear hb00
  generalize r[i] = x at *
  clear hc hA hS
  have hbx : Below w.heap.size w (w.alloc (dnO x)) := (Below.refl _ _).alloc (Nat.le_refl _) _
  have hxn := heap_alloc_new w (dnO x)
  obtain ⟨V, hV⟩ : ∃ V, V = Rc.stepE r i x := ⟨_, rfl⟩
  rw [← hV]
  have HVV := Lib.hid hV
  clear hV
  have HT := Lib.hid (show V = 5 by rw [HVV.out]; exact Rc.head5 hR ho)
  have da1 : decide (x.pkg < 0) = false := decide_eq_false (by intro h; revert hR; unfold Rc.isF; simp; omega)
  have da2 : decide (16 ≤ x.pkg) = false := decide_eq_false (by intro h; revert hR; unfold Rc.isF; simp; omega)
  have da3 : decide (x.lin < 0) = false := decide_eq_false (by intro h; revert hR; unfold Rc.isF; simp; omega)
  have da4 : decide (1024 ≤ x.lin) = false := decide_eq_false (by intro h; revert hR; unfold Rc.isF; simp; omega)
  have da5 : decide (x.knd < 1) = false := decide_eq_false (by intro h; revert hR; unfold Rc.isF; simp; omega)
  have da6 : decide (8 < x.knd) = false := decide_eq_false (by intro h; revert hR; unfold Rc.isF; simp; omega)
  have HR := Lib.hid hR
  clear hR
  rw [hq0] at ho
  clear HVV hq0
  have b1 : decide ((0 : Int) < (i : Int)) = true := decide_eq_true (by omega)
  have b1n : decide (0 < i) = true := decide_eq_true h0
  clear hbg
  obtain ⟨jj, hjj⟩ : ∃ j, j = i - 1 := ⟨_, rfl⟩
  rw [← hjj] at hcb
  have wj : IntKind.i64.wrap ((i : Int) - 1) = (jj : Int) := (IntWalk.i64_in _ (by omega)).trans (by omega)
  have y1 : (jj : Int) < (r.length : Int) := by omega
  have k0 := (hbx.cell (p := ⟨g0, o + jj * 6, none⟩) hg).trans (hcb 0 _ rfl)
  have k1 := (hbx.cell (p := ⟨g0, o + jj * 6 + 1, none⟩) hg).trans (hcb 1 _ rfl)
  have k2 := (hbx.cell (p := ⟨g0, o + jj * 6 + 2, none⟩) hg).trans (hcb 2 _ rfl)
  have k3 := (hbx.cell (p := ⟨g0, o + jj * 6 + 3, none⟩) hg).trans (hcb 3 _ rfl)
  have k4 := (hbx.cell (p := ⟨g0, o + jj * 6 + 4, none⟩) hg).trans (hcb 4 _ rfl)
  have k5 := (hbx.cell (p := ⟨g0, o + jj * 6 + 5, none⟩) hg).trans (hcb 5 _ rfl)
  clear hcb hjj h0
  have hdb := hbx.drew
  by_cases o1 : x.pkg < b.pkg
  · have do1 : decide (x.pkg < b.pkg) = true := decide_eq_true o1
    clear ho o1
    go_enter Tryd.func30, Tryd.ntmps30
    go_upto_region 4 with (fail)
    go_region
    go_wp2_with fail
    first | go_ret3 | go_ret2 | go_ret
    exact ⟨by rw [HT.out]; rfl, by first | exact hbx | exact hdb⟩
  have do1 : decide (x.pkg < b.pkg) = false := decide_eq_false o1
  by_cases o2 : x.pkg = b.pkg
  · have do2 : (x.pkg == b.pkg) = true := by rw [beq_iff_eq]; exact o2
    have o3 : x.lin ≤ b.lin := by
      revert ho; unfold Rc.fol; rw [if_pos o2]; simp
    have do3 : decide (x.lin ≤ b.lin) = true := decide_eq_true o3
    clear ho o1 o2 o3
    go_enter Tryd.func30, Tryd.ntmps30
    go_upto_region 4 with (fail)
    go_region
    go_wp2_with fail
    first | go_ret3 | go_ret2 | go_ret
    exact ⟨by rw [HT.out]; rfl, by first | exact hbx | exact hdb⟩
  · exact absurd ho (by unfold Rc.fol; rw [if_neg o2]; simp; omega)
end Go.Proofs.YtkgnbjhgdjmfdaaDoor
