/- among and touched of the reference.
The head of step of the reference: its errors. No condition but the lengths.
The first step, in the reference.
A step of the package of the one before it, in the reference.
A step of a later package than the one before it, in the reference. -/
import Derived.Test.YtjemffgidhgfjaaGreatDoorRkChk
import Derived.Test.YtjemffgidhgfjaaGreatDoorRkRpa
import Derived.BigQuiet
section
namespace Go.Proofs.YtjemffgidhgfjaaGreatDoor.Rk
open Go.RowKit Go.Deep Tr

namespace Rc
theorem touched_some {r : List Dn} {p : List UInt8} {d : List UInt8} : ∀ {m n : Nat}, m ≤ n → touched r m p = some d → touched r n p = some d := fun {m n} h ht => by
  induction h with
  | refl => exact ht
  | @step k hk ih =>
    by_cases hi : k < r.length
    · rw [touched_succ hi, ih]
    · unfold touched at ih ⊢
      rw [List.take_of_length_le (by omega)] at ih ⊢
      exact ih
theorem touched_all {r : List Dn} {p : List UInt8} {n : Nat} (h : r.length ≤ n) : touched r n p = touched r r.length p := by
  unfold touched
  rw [List.take_of_length_le h, List.take_length]
end Rc
namespace Rc
/-- Where a path stands in the first n; -1 if it does not. -/
def amI (l : List Tch) (n : Nat) (p : List UInt8) : Int := match (l.take n).findIdx? (fun t => t.pth == p) with | some i => (i : Int) | none => -1
theorem amI_some {l : List Tch} {n k : Nat} {p : List UInt8} (hn : n ≤ l.length) (hk : k < n) (hb : (l.take k).any (fun t => t.pth == p) = false) (h : ((l[k]'(by omega)).pth == p) = true) : amI l n p = (k : Int) := by
  have e : (l.take n).findIdx? (fun t => t.pth == p) = some k := by
    rw [List.findIdx?_eq_some_iff_getElem]
    refine ⟨by rw [List.length_take]; omega, by rw [List.getElem_take]; exact h, fun j hj => ?_⟩
    rw [List.getElem_take]
    intro hc
    have : (l.take k).any (fun t => t.pth == p) = true := List.any_eq_true.2 ⟨l[j]'(by omega), List.mem_take_iff_getElem.2 ⟨j, by omega, rfl⟩, hc⟩
    rw [hb] at this; cases this
  unfold amI
  rw [e]
theorem amI_none {l : List Tch} {n : Nat} {p : List UInt8} (hb : (l.take n).any (fun t => t.pth == p) = false) : amI l n p = -1 := by
  have e : (l.take n).findIdx? (fun t => t.pth == p) = none := by
    rw [List.findIdx?_eq_none_iff]
    intro t ht
    cases h : (t.pth == p) with
    | false => rfl
    | true => rw [List.any_eq_true.2 ⟨t, ht, h⟩] at hb; cases hb
  unfold amI
  rw [e]
theorem amI_iff (l : List Tch) (n : Nat) (p : List UInt8) : decide (0 ≤ amI l n p) = among l n p ∧ -1 ≤ amI l n p ∧ amI l n p ≤ l.length := by
  unfold amI among
  cases h : (l.take n).findIdx? (fun t => t.pth == p) with
  | none =>
    rw [List.findIdx?_eq_none_iff] at h
    have : (l.take n).any (fun t => t.pth == p) = false := by
      rw [List.any_eq_false]; intro t ht; have := h t ht; simpa using this
    rw [this]
    dsimp only
    exact ⟨rfl, by omega, by omega⟩
  | some i =>
    obtain ⟨h1, h2, _⟩ := List.findIdx?_eq_some_iff_getElem.1 h
    rw [List.any_eq_true.2 ⟨_, List.getElem_mem h1, h2⟩]
    rw [List.length_take] at h1
    dsimp only
    exact ⟨decide_eq_true (by omega), by omega, by omega⟩
end Rc
set_option maxHeartbeats 4000000 in
set_option maxRecDepth 100000 in
theorem qamongI_any (l : List Tch) (n : Nat) (p : List UInt8) (A : Option Addr) (c : Nat) (w : World) (hA : Rc.TcAt w w.heap.size A l) (hn : n ≤ l.length) (hl : l.length ≤ 140737488351232) :
    Calls Tryz.prog 109 #[.slice A l.length c, .int .i64 (n : Int), .string (str p)] w fun e w' => e = .returned (.int .i64 (Rc.amI l n p)) ∧ w' = w := by
  have HA := Lib.hid hA
  have HY := Lib.hid (fun (k : Nat) (hk : k < n) (hb : (l.take k).any (fun t => t.pth == p) = false) (h : ((l[k]'(by omega)).pth == p) = true) => Rc.amI_some hn hk hb h)
  have HN := Lib.hid (fun (hb : (l.take n).any (fun t => t.pth == p) = false) => Rc.amI_none hb)
  generalize Rc.amI l n p = V at *
  clear hA
  go_enter Tryz.func109, Tryz.ntmps109
  go_wp2_with fail
  go_loopw [7] (fun s4 wr => ∃ k : Nat, s4 = .int .i64 k ∧ k ≤ n ∧ (l.take k).any (fun t => t.pth == p) = false ∧ wr = w) (fun s4 _ => n - (intOf s4).toNat)
  case atStart => exact ⟨0, rfl, Nat.zero_le _, by simp, rfl⟩
  case round =>
    obtain ⟨k, rfl, hk, hall, hw⟩ := hrel
    have HW := Lib.hid hw
    have HAL := Lib.hid hall
    clear hall hw
    by_cases hlt : k < n
    · have c1 : decide ((k : Int) < (n : Int)) = true := decide_eq_true (by omega)
      have c1n : decide (k < n) = true := decide_eq_true hlt
      have y1 : (k : Int) < (l.length : Int) := by omega
      have hkl : k < l.length := by omega
      obtain ⟨g, o, rfl, hg, hc⟩ := HA.out k hkl
      have hd0 := hc 0 _ rfl
      rw [show o + k * 2 + 0 = o + k * 2 from rfl] at hd0
      rw [← HW.out] at hd0
      clear hc
      have HNO := Lib.hid (show (l[k].pth == p) = false → (l.take (k + 1)).any (fun t => t.pth == p) = false from fun h => by
        rw [List.take_succ_eq_append_getElem hkl, List.any_append, HAL.out]; simp [h])
      have HYES := Lib.hid (show (l[k].pth == p) = true → V = (k : Int) from fun h => HY.out k hlt HAL.out h)
      generalize l[k] = t at *
      have hv : ((str t.pth).toList == (str p).toList) = (t.pth == p) := by rw [strL, strL]
      cases he : t.pth == p with
      | true =>
        rw [he] at hv
        have HT := Lib.hid (HYES.out he)
        clear HNO HYES he
        go_wp2_with fail
        first | go_ret2 | go_ret
        exact ⟨by rw [HT.out]; rfl, HW.out⟩
      | false =>
        rw [he] at hv
        have HT := Lib.hid (HNO.out he)
        clear HNO HYES he
        go_wp2_with fail
        go_roundw
        case rel => exact ⟨k + 1, by go_num, by omega, HT.out, HW.out⟩
        case measure => simp [intOf]; omega
    · have c1 : decide ((k : Int) < (n : Int)) = false := decide_eq_false (by omega)
      have c1n : decide (k < n) = false := decide_eq_false hlt
      have HT := Lib.hid (show V = -1 from HN.out (by
        have hkn : k = n := by omega
        subst hkn
        exact HAL.out))
      go_wp2_with fail
      go_ret
      exact ⟨by rw [HT.out]; rfl, HW.out⟩
theorem qamong_any (l : List Tch) (n : Nat) (p : List UInt8) (A : Option Addr) (c : Nat) (w : World) (hA : Rc.TcAt w w.heap.size A l) (hn : n ≤ l.length) (hl : l.length ≤ 140737488351232) :
    Calls Tryz.prog 109 #[.slice A l.length c, .int .i64 (n : Int), .string (str p)] w fun e w' => (∃ z : Int, e = .returned (.int .i64 z) ∧ decide (0 ≤ z) = Rc.among l n p ∧ -1 ≤ z ∧ z ≤ 140737488351232) ∧ w = w' :=
  (qamongI_any l n p A c w hA hn hl).mono fun e w' h => by
    obtain ⟨h1, h2, h3⟩ := Rc.amI_iff l n p
    exact ⟨⟨_, h.1, h1, h2, by omega⟩, h.2.symm⟩
set_option maxHeartbeats 8000000 in
set_option maxRecDepth 100000 in
theorem qtouched_any (r : List Dn) (n : Nat) (p : List UInt8) (A : Option Addr) (c : Nat) (w : World) (hA : RcAt w A r) (hn : n ≤ r.length) :
    Calls Tryz.prog 108 #[.slice A r.length c, .int .i64 (n : Int), .string (str p)] w fun e w' => (∃ (d : List UInt8) (b : Bool), e = .returned (.tuple #[.string (str d), .bool b]) ∧ (b = true → Rc.touched r n p = some d) ∧ (b = false → Rc.touched r n p = none)) ∧ Below w.heap.size w w' := by
  have HA := Lib.hid hA
  have hrl := hA.rl
  clear hA
  go_enter Tryz.func108, Tryz.ntmps108
  go_wp2_with fail
  go_loopw [8] (fun s8 wr => ∃ k : Nat, s8 = .int .i64 k ∧ k ≤ n ∧ Rc.touched r k p = none ∧ Below w.heap.size w wr) (fun s8 _ => n - (intOf s8).toNat)
  case atStart => exact ⟨0, rfl, Nat.zero_le _, rfl, Below.refl _ _⟩
  case round =>
    obtain ⟨k, rfl, hk, htn, hb⟩ := hrel
    have HTN := Lib.hid htn
    clear htn
    by_cases hlt : k < n
    · have c1 : decide ((k : Int) < (n : Int)) = true := decide_eq_true (by omega)
      have c1n : decide (k < n) = true := decide_eq_true hlt
      have c2 : decide ((k : Int) < (r.length : Int)) = true := decide_eq_true (by omega)
      have c2n : decide (k < r.length) = true := decide_eq_true (by omega)
      have y1 : (k : Int) < (r.length : Int) := by omega
      have hkr : k < r.length := by omega
      obtain ⟨g0, o, rfl, hg, hc⟩ := HA.out.st k hkr
      have HC := Lib.hid hc
      have hmem := List.getElem_mem hkr
      have HRD := Lib.hid (HA.out.rd r[k] hmem)
      have htl := HA.out.tl r[k] hmem
      have HSC := Lib.hid (Rc.touched_succ hkr p)
      rw [HTN.out] at HSC
      have HUP := Lib.hid (fun d (h : Rc.touched r (k + 1) p = some d) => Rc.touched_some (n := n) (by omega) h)
      clear hc hmem
      generalize r[k] = x at *
      have HBO := Lib.hid hb
      go_wp2_with fail
      go_loopw [9] (fun s9 wr => ∃ j : Nat, s9 = .int .i64 j ∧ j ≤ x.rds.length ∧ (x.rds.take j).find? (fun t => t.pth == p) = none ∧ Below w.heap.size w wr) (fun s9 _ => x.rds.length - (intOf s9).toNat)
      case atStart => exact ⟨0, rfl, Nat.zero_le _, rfl, by first | exact hb | exact hb.drew⟩
      case round =>
        obtain ⟨j, rfl, hj, hnf, hbj⟩ := hrel
        have HNF := Lib.hid hnf
        have HBJ := Lib.hid hbj
        clear hnf
        have hd3 := (hbj.cell (p := ⟨g0, o + k * 6 + 3, none⟩) hg).trans (HC.out 3 _ rfl)
        have hd4 := (hbj.cell (p := ⟨g0, o + k * 6 + 4, none⟩) hg).trans (HC.out 4 _ rfl)
        have hd5 := (hbj.cell (p := ⟨g0, o + k * 6 + 5, none⟩) hg).trans (HC.out 5 _ rfl)
        by_cases hlj : j < x.rds.length
        · have d1 : decide ((j : Int) < (x.rds.length : Int)) = true := decide_eq_true (by omega)
          have d1n : decide (j < x.rds.length) = true := decide_eq_true hlj
          have y3 : (j : Int) < (x.rds.length : Int) := by omega
          obtain ⟨g1, o1, hxA, hg1, hc1⟩ := HRD.out j hlj
          rw [hxA] at hd3
          have e0 := (hbj.cell (p := ⟨g1, o1 + j * 2 + 0, none⟩) hg1).trans (hc1 0 _ rfl)
          have e1 := (hbj.cell (p := ⟨g1, o1 + j * 2 + 1, none⟩) hg1).trans (hc1 1 _ rfl)
          rw [show o1 + j * 2 + 0 = o1 + j * 2 from rfl] at e0
          have HNO := Lib.hid (show (x.rds[j].pth == p) = false → (x.rds.take (j + 1)).find? (fun t => t.pth == p) = none from fun h => by
            rw [List.take_succ_eq_append_getElem hlj, List.find?_append, HNF.out]; simp [h])
          have HYES := Lib.hid (show (x.rds[j].pth == p) = true → Rc.touched r n p = some x.rds[j].dig from fun h => HUP.out _ (by
            rw [HSC.out]
            have h2 : (Rc.tcs x).find? (fun t => t.pth == p) = some x.rds[j] := by
              unfold Rc.tcs
              rw [List.find?_append]
              have h3 : x.rds.find? (fun t => t.pth == p) = some x.rds[j] := by
                have h4 : (x.rds.take (j + 1)).find? (fun t => t.pth == p) = some x.rds[j] := by
                  rw [List.take_succ_eq_append_getElem hlj, List.find?_append, HNF.out, List.find?_cons, h]; rfl
                have h5 := List.find?_append (xs := x.rds.take (j + 1)) (ys := x.rds.drop (j + 1)) (p := fun t => t.pth == p)
                rw [List.take_append_drop, h4] at h5
                exact h5
              rw [h3]; rfl
            rw [h2]; rfl))
          clear hxA hc1 HSC HUP hbj
          generalize x.rds[j] = t at *
          have hv : ((str t.pth).toList == (str p).toList) = (t.pth == p) := by rw [strL, strL]
          cases he : t.pth == p with
          | true =>
            rw [he] at hv
            have HT := Lib.hid (HYES.out he)
            clear HNO HYES he
            go_wp2_with fail
            first | go_ret3 | go_ret2 | go_ret
            exact ⟨⟨t.dig, true, rfl, fun _ => HT.out, fun h => (by cases h)⟩, HBJ.out⟩
          | false =>
            rw [he] at hv
            have HT := Lib.hid (HNO.out he)
            clear HNO HYES he
            go_wp2_with fail
            go_roundw
            case rel => exact ⟨j + 1, by go_num, by omega, HT.out, HBJ.out⟩
            case measure => simp [intOf]; omega
        · have d1 : decide ((j : Int) < (x.rds.length : Int)) = false := decide_eq_false (by omega)
          have d1n : decide (j < x.rds.length) = false := decide_eq_false hlj
          have HNA := Lib.hid (show x.rds.find? (fun t => t.pth == p) = none by
            have := HNF.out
            rwa [List.take_of_length_le (by omega)] at this)
          have HNO := Lib.hid (show (x.wr.pth == p) = false → Rc.touched r (k + 1) p = none from fun h => by
            rw [HSC.out]
            unfold Rc.tcs
            rw [List.find?_append, HNA.out, List.find?_cons, h]; rfl)
          have HYES := Lib.hid (show (x.wr.pth == p) = true → Rc.touched r n p = some x.wr.dig from fun h => HUP.out _ (by
            rw [HSC.out]
            unfold Rc.tcs
            rw [List.find?_append, HNA.out, List.find?_cons, h]; rfl))
          clear HSC HUP hbj
          have hv : ((str x.wr.pth).toList == (str p).toList) = (x.wr.pth == p) := by rw [strL, strL]
          cases he : x.wr.pth == p with
          | true =>
            rw [he] at hv
            have HT := Lib.hid (HYES.out he)
            clear HNO HYES he
            go_wp2_with fail
            first | go_ret3 | go_ret2 | go_ret
            exact ⟨⟨x.wr.dig, true, rfl, fun _ => HT.out, fun h => (by cases h)⟩, HBJ.out⟩
          | false =>
            rw [he] at hv
            have HT := Lib.hid (HNO.out he)
            clear HNO HYES he
            go_wp2_with fail
            go_roundw
            case rel => exact ⟨k + 1, by go_num, by omega, HT.out, HBJ.out⟩
            case measure => simp [intOf]; omega
    · have c1 : decide ((k : Int) < (n : Int)) = false := decide_eq_false (by omega)
      have c1n : decide (k < n) = false := decide_eq_false hlt
      have hkn : k = n := by omega
      have HT := Lib.hid (show Rc.touched r n p = none by rw [← hkn]; exact HTN.out)
      have HB := Lib.hid hb
      clear hb
      go_wp2_with fail
      first | go_ret3 | go_ret2 | go_ret
      exact ⟨⟨[], false, rfl, fun h => (by cases h), fun _ => HT.out⟩, HB.out⟩
end Go.Proofs.YtjemffgidhgfjaaGreatDoor.Rk
end
section
namespace Go.Proofs.YtjemffgidhgfjaaGreatDoor.Rk
open Go.RowKit Go.Deep Tr

namespace Rc
theorem head3 {r : List Dn} {i : Nat} {s : Dn} (h : (isF s.pkg 0 15 && isF s.lin 0 1023 && isF s.knd 1 8) = false) : stepE r i s = 3 := by
  have h1 : headE r i s = 3 := by
    unfold headE
    rw [if_pos]
    cases h1 : isF s.pkg 0 15 <;> cases h2 : isF s.lin 0 1023 <;> cases h3 : isF s.knd 1 8 <;> simp_all
  rw [step_head (by rw [h1]; decide), h1]
theorem head5 {r : List Dn} {i : Nat} {s : Dn} (h : (isF s.pkg 0 15 && isF s.lin 0 1023 && isF s.knd 1 8) = true) (ho : ordE r i s = true) : stepE r i s = 5 := by
  have h1 : headE r i s = 5 := by
    unfold headE
    rw [if_neg, if_pos ho]
    cases h1 : isF s.pkg 0 15 <;> cases h2 : isF s.lin 0 1023 <;> cases h3 : isF s.knd 1 8 <;> simp_all
  rw [step_head (by rw [h1]; decide), h1]
theorem head1 {r : List Dn} {i : Nat} {s : Dn} (h : (isF s.pkg 0 15 && isF s.lin 0 1023 && isF s.knd 1 8) = true) (ho : ordE r i s = false) : headE r i s = if !isF (s.rds.length : Int) 1 1024 then 1 else 0 := by
  unfold headE
  rw [if_neg, if_neg (by rw [ho]; decide)]
  cases h1 : isF s.pkg 0 15 <;> cases h2 : isF s.lin 0 1023 <;> cases h3 : isF s.knd 1 8 <;> simp_all
end Rc
set_option maxHeartbeats 16000000 in
set_option maxRecDepth 100000 in
theorem qstep_h (r : List Dn) (i : Nat) (hi : i < r.length) (A : Option Addr) (c : Nat) (w : World) (hA : RcAt w A r) (hS : Sht r) (hR : (Rc.isF r[i].pkg 0 15 && Rc.isF r[i].lin 0 1023 && Rc.isF r[i].knd 1 8) = false) :
    Calls Tryz.prog 73 #[.slice A r.length c, .int .i64 i] w fun e w' => e = .returned (.int .i64 (Rc.stepE r i r[i])) ∧ Below w.heap.size w w' := by
  have HA := Lib.hid hA
  obtain ⟨g0, o, rfl, hg, hc⟩ := hA.st i hi
  have hd0 := hc 0 _ rfl
  have hd1 := hc 1 _ rfl
  have hd2 := hc 2 _ rfl
  have hd3 := hc 3 _ rfl
  have hd4 := hc 4 _ rfl
  have hd5 := hc 5 _ rfl
  rw [show o + i * 6 + 0 = o + i * 6 from rfl] at hd0
  have y2 : (i : Int) < (r.length : Int) := by omega
  have hrl := hA.rl
  have htl := hA.tl r[i] (List.getElem_mem hi)
  have HRD := Lib.hid (hA.rd r[i] (List.getElem_mem hi))
  have HP := Lib.hid (hS.p r[i] (List.getElem_mem hi))
  generalize r[i] = x at *
  clear hc hA hS
  have hbx : Below w.heap.size w (w.alloc (dnO x)) := (Below.refl _ _).alloc (Nat.le_refl _) _
  have hxn := heap_alloc_new w (dnO x)
  obtain ⟨V, hV⟩ : ∃ V, V = Rc.stepE r i x := ⟨_, rfl⟩
  rw [← hV]
  have HVV := Lib.hid hV
  clear hV
  by_cases a1 : x.pkg < 0
  · have da1 : decide (x.pkg < 0) = true := decide_eq_true a1
    have HT := Lib.hid (show V = 3 by
      rw [HVV.out]
      exact Rc.head3 hR)
    clear HVV hR
    go_enter Tryz.func73, Tryz.ntmps73
    go_wp2_with fail
    first | go_ret3 | go_ret2 | go_ret
    exact ⟨by rw [HT.out]; rfl, hbx⟩
  have da1 : decide (x.pkg < 0) = false := decide_eq_false a1
  by_cases a2 : 16 ≤ x.pkg
  · have da2 : decide (16 ≤ x.pkg) = true := decide_eq_true a2
    have HT := Lib.hid (show V = 3 by
      rw [HVV.out]
      exact Rc.head3 hR)
    clear HVV hR
    go_enter Tryz.func73, Tryz.ntmps73
    go_wp2_with fail
    first | go_ret3 | go_ret2 | go_ret
    exact ⟨by rw [HT.out]; rfl, hbx⟩
  have da2 : decide (16 ≤ x.pkg) = false := decide_eq_false a2
  by_cases a3 : x.lin < 0
  · have da3 : decide (x.lin < 0) = true := decide_eq_true a3
    have HT := Lib.hid (show V = 3 by
      rw [HVV.out]
      exact Rc.head3 hR)
    clear HVV hR
    go_enter Tryz.func73, Tryz.ntmps73
    go_wp2_with fail
    first | go_ret3 | go_ret2 | go_ret
    exact ⟨by rw [HT.out]; rfl, hbx⟩
  have da3 : decide (x.lin < 0) = false := decide_eq_false a3
  by_cases a4 : 1024 ≤ x.lin
  · have da4 : decide (1024 ≤ x.lin) = true := decide_eq_true a4
    have HT := Lib.hid (show V = 3 by
      rw [HVV.out]
      exact Rc.head3 hR)
    clear HVV hR
    go_enter Tryz.func73, Tryz.ntmps73
    go_wp2_with fail
    first | go_ret3 | go_ret2 | go_ret
    exact ⟨by rw [HT.out]; rfl, hbx⟩
  have da4 : decide (1024 ≤ x.lin) = false := decide_eq_false a4
  by_cases a5 : x.knd < 1
  · have da5 : decide (x.knd < 1) = true := decide_eq_true a5
    have HT := Lib.hid (show V = 3 by
      rw [HVV.out]
      exact Rc.head3 hR)
    clear HVV hR
    go_enter Tryz.func73, Tryz.ntmps73
    go_wp2_with fail
    first | go_ret3 | go_ret2 | go_ret
    exact ⟨by rw [HT.out]; rfl, hbx⟩
  have da5 : decide (x.knd < 1) = false := decide_eq_false a5
  by_cases a6 : 8 < x.knd
  · have da6 : decide (8 < x.knd) = true := decide_eq_true a6
    have HT := Lib.hid (show V = 3 by
      rw [HVV.out]
      exact Rc.head3 hR)
    clear HVV hR
    go_enter Tryz.func73, Tryz.ntmps73
    go_wp2_with fail
    first | go_ret3 | go_ret2 | go_ret
    exact ⟨by rw [HT.out]; rfl, hbx⟩
  have da6 : decide (8 < x.knd) = false := decide_eq_false a6
  exact absurd hR (by unfold Rc.isF; simp; omega)
set_option maxHeartbeats 16000000 in
set_option maxRecDepth 100000 in
theorem qstep_o (r : List Dn) (i : Nat) (hi : i < r.length) (A : Option Addr) (c : Nat) (w : World) (hA : RcAt w A r) (hS : Sht r) (hR : (Rc.isF r[i].pkg 0 15 && Rc.isF r[i].lin 0 1023 && Rc.isF r[i].knd 1 8) = true) (h0 : 0 < i) (ho : Rc.ordE r i r[i] = true) :
    Calls Tryz.prog 73 #[.slice A r.length c, .int .i64 i] w fun e w' => e = .returned (.int .i64 (Rc.stepE r i r[i])) ∧ Below w.heap.size w w' := by
  have HA := Lib.hid hA
  obtain ⟨g0, o, rfl, hg, hc⟩ := hA.st i hi
  have hd0 := hc 0 _ rfl
  have hd1 := hc 1 _ rfl
  have hd2 := hc 2 _ rfl
  have hd3 := hc 3 _ rfl
  have hd4 := hc 4 _ rfl
  have hd5 := hc 5 _ rfl
  rw [show o + i * 6 + 0 = o + i * 6 from rfl] at hd0
  have y2 : (i : Int) < (r.length : Int) := by omega
  have hrl := hA.rl
  have htl := hA.tl r[i] (List.getElem_mem hi)
  have HRD := Lib.hid (hA.rd r[i] (List.getElem_mem hi))
  have HP := Lib.hid (hS.p r[i] (List.getElem_mem hi))
  have hb00 : i - 1 < r.length := by omega
  obtain ⟨b, hbg, hcb⟩ : ∃ b, r[i - 1]? = some b ∧ ∀ k u, (Rc.dnV b)[k]? = some u → w.cell? ⟨g0, o + (i - 1) * 6 + k, none⟩ = some u := by
    obtain ⟨g1, o1, e1, _, hc1⟩ := hA.st (i - 1) hb00
    injection e1 with e1
    injection e1 with e1 e2 _
    subst e1 e2
    exact ⟨r[i - 1], List.getElem?_eq_getElem hb00, hc1⟩
  have hq0 : Rc.ordE r i r[i] = !Rc.fol r[i] b := by unfold Rc.ordE; rw [decide_eq_true h0, hbg, Bool.true_and]
  clear hb00
  generalize r[i] = x at *
  clear hc hA hS
  have hbx : Below w.heap.size w (w.alloc (dnO x)) := (Below.refl _ _).alloc (Nat.le_refl _) _
  have hxn := heap_alloc_new w (dnO x)
  obtain ⟨V, hV⟩ : ∃ V, V = Rc.stepE r i x := ⟨_, rfl⟩
  rw [← hV]
  have HVV := Lib.hid hV
  clear hV
  have HT := Lib.hid (show V = 5 by rw [HVV.out]; exact Rc.head5 hR ho)
  have da1 : decide (x.pkg < 0) = false := decide_eq_false (by intro h; revert hR; unfold Rc.isF; simp; omega)
  have da2 : decide (16 ≤ x.pkg) = false := decide_eq_false (by intro h; revert hR; unfold Rc.isF; simp; omega)
  have da3 : decide (x.lin < 0) = false := decide_eq_false (by intro h; revert hR; unfold Rc.isF; simp; omega)
  have da4 : decide (1024 ≤ x.lin) = false := decide_eq_false (by intro h; revert hR; unfold Rc.isF; simp; omega)
  have da5 : decide (x.knd < 1) = false := decide_eq_false (by intro h; revert hR; unfold Rc.isF; simp; omega)
  have da6 : decide (8 < x.knd) = false := decide_eq_false (by intro h; revert hR; unfold Rc.isF; simp; omega)
  have HR := Lib.hid hR
  clear hR
  rw [hq0] at ho
  clear HVV hq0
  have b1 : decide ((0 : Int) < (i : Int)) = true := decide_eq_true (by omega)
  have b1n : decide (0 < i) = true := decide_eq_true h0
  clear hbg
  obtain ⟨jj, hjj⟩ : ∃ j, j = i - 1 := ⟨_, rfl⟩
  rw [← hjj] at hcb
  have wj : IntKind.i64.wrap ((i : Int) - 1) = (jj : Int) := (IntWalk.i64_in _ (by omega)).trans (by omega)
  have y1 : (jj : Int) < (r.length : Int) := by omega
  have k0 := (hbx.cell (p := ⟨g0, o + jj * 6, none⟩) hg).trans (hcb 0 _ rfl)
  have k1 := (hbx.cell (p := ⟨g0, o + jj * 6 + 1, none⟩) hg).trans (hcb 1 _ rfl)
  have k2 := (hbx.cell (p := ⟨g0, o + jj * 6 + 2, none⟩) hg).trans (hcb 2 _ rfl)
  have k3 := (hbx.cell (p := ⟨g0, o + jj * 6 + 3, none⟩) hg).trans (hcb 3 _ rfl)
  have k4 := (hbx.cell (p := ⟨g0, o + jj * 6 + 4, none⟩) hg).trans (hcb 4 _ rfl)
  have k5 := (hbx.cell (p := ⟨g0, o + jj * 6 + 5, none⟩) hg).trans (hcb 5 _ rfl)
  clear hcb hjj h0
  have hdb := hbx.drew
  by_cases o1 : x.pkg < b.pkg
  · have do1 : decide (x.pkg < b.pkg) = true := decide_eq_true o1
    clear ho o1
    go_enter Tryz.func73, Tryz.ntmps73
    go_upto_region 4 with (fail)
    go_region
    go_wp2_with fail
    first | go_ret3 | go_ret2 | go_ret
    exact ⟨by rw [HT.out]; rfl, by first | exact hbx | exact hdb⟩
  have do1 : decide (x.pkg < b.pkg) = false := decide_eq_false o1
  by_cases o2 : x.pkg = b.pkg
  · have do2 : (x.pkg == b.pkg) = true := by rw [beq_iff_eq]; exact o2
    have o3 : x.lin ≤ b.lin := by
      revert ho; unfold Rc.fol; rw [if_pos o2]; simp
    have do3 : decide (x.lin ≤ b.lin) = true := decide_eq_true o3
    clear ho o1 o2 o3
    go_enter Tryz.func73, Tryz.ntmps73
    go_upto_region 4 with (fail)
    go_region
    go_wp2_with fail
    first | go_ret3 | go_ret2 | go_ret
    exact ⟨by rw [HT.out]; rfl, by first | exact hbx | exact hdb⟩
  · exact absurd ho (by unfold Rc.fol; rw [if_neg o2]; simp; omega)
end Go.Proofs.YtjemffgidhgfjaaGreatDoor.Rk
end
section
namespace Go.Proofs.YtjemffgidhgfjaaGreatDoor.Rk
open Go.RowKit Go.Deep Tr
set_option maxHeartbeats 16000000 in
set_option maxRecDepth 100000 in
theorem qstep_0 (r : List Dn) (i : Nat) (hi : i < r.length) (A : Option Addr) (c : Nat) (w : World) (hA : RcAt w A r) (hS : Sht r) (hR : (Rc.isF r[i].pkg 0 15 && Rc.isF r[i].lin 0 1023 && Rc.isF r[i].knd 1 8) = true) (h0 : i = 0) :
    Calls Tryz.prog 73 #[.slice A r.length c, .int .i64 i] w fun e w' => e = .returned (.int .i64 (Rc.stepE r i r[i])) ∧ Below w.heap.size w w' := by
  have HA := Lib.hid hA
  obtain ⟨g0, o, rfl, hg, hc⟩ := hA.st i hi
  have hd0 := hc 0 _ rfl
  have hd1 := hc 1 _ rfl
  have hd2 := hc 2 _ rfl
  have hd3 := hc 3 _ rfl
  have hd4 := hc 4 _ rfl
  have hd5 := hc 5 _ rfl
  rw [show o + i * 6 + 0 = o + i * 6 from rfl] at hd0
  have y2 : (i : Int) < (r.length : Int) := by omega
  have hrl := hA.rl
  have htl := hA.tl r[i] (List.getElem_mem hi)
  have HRD := Lib.hid (hA.rd r[i] (List.getElem_mem hi))
  have HP := Lib.hid (hS.p r[i] (List.getElem_mem hi))
  generalize r[i] = x at *
  clear hc hA hS
  have hbx : Below w.heap.size w (w.alloc (dnO x)) := (Below.refl _ _).alloc (Nat.le_refl _) _
  have hxn := heap_alloc_new w (dnO x)
  obtain ⟨V, hV⟩ : ∃ V, V = Rc.stepE r i x := ⟨_, rfl⟩
  rw [← hV]
  have HVV := Lib.hid hV
  clear hV
  have da1 : decide (x.pkg < 0) = false := decide_eq_false (by intro h; revert hR; unfold Rc.isF; simp; omega)
  have da2 : decide (16 ≤ x.pkg) = false := decide_eq_false (by intro h; revert hR; unfold Rc.isF; simp; omega)
  have da3 : decide (x.lin < 0) = false := decide_eq_false (by intro h; revert hR; unfold Rc.isF; simp; omega)
  have da4 : decide (1024 ≤ x.lin) = false := decide_eq_false (by intro h; revert hR; unfold Rc.isF; simp; omega)
  have da5 : decide (x.knd < 1) = false := decide_eq_false (by intro h; revert hR; unfold Rc.isF; simp; omega)
  have da6 : decide (8 < x.knd) = false := decide_eq_false (by intro h; revert hR; unfold Rc.isF; simp; omega)
  have HR := Lib.hid hR
  clear hR
  subst h0
  have hq : Rc.ordE r 0 x = false := by unfold Rc.ordE; rw [decide_eq_false (by omega), Bool.false_and]
  rw [Nat.zero_mul, Nat.add_zero] at hd0 hd1 hd2 hd3 hd4 hd5
  rw [show ((0 : Nat) : Int) = 0 from rfl]
  by_cases hz : 0 < x.rds.length ∧ x.rds.length ≤ 1024
  · have e0 : ((x.rds.length : Int) == 0) = false := by rw [beq_eq_false_iff_ne]; omega
    have e1 : decide ((1024 : Int) < (x.rds.length : Int)) = false := decide_eq_false (by omega)
    have e1n : decide (1024 < x.rds.length) = false := decide_eq_false (by omega)
    have e2 : decide (x.rds.length = 0) = false := decide_eq_false (by omega)
    go_enter Tryz.func73, Tryz.ntmps73
    go_upto_region 4 with (fail)
    go_region
    go_wp2_with fail
    have HX := Lib.hid hxn
    have HH := Lib.hid (show Rc.headE r 0 x = 0 by rw [Rc.head1 HR.out hq]; unfold Rc.isF; simp; omega)
    have HBX := Lib.hid hbx
    clear hd0 hd1 hd2 hd3 hd4 hd5 hbx hxn
    go_loopw [6] (fun s6 wr => ∃ j : Nat, s6 = .int .i64 j ∧ j ≤ x.rds.length + 1 ∧ (∀ k (h : k < (Rc.tcs x).length), k < j → Rc.tchE r 0 x k (Rc.tcs x)[k] = 0) ∧ wr.heap[w.heap.size]? = some (dnO x) ∧ Below w.heap.size w wr) (fun s6 _ => x.rds.length + 1 - (intOf s6).toNat)
    case atStart => exact ⟨0, rfl, Nat.zero_le _, fun k _ h => (by omega), HX.out, by first | exact HBX.out | exact HBX.out.drew⟩
    case round =>
      obtain ⟨j, rfl, hj, hall, hxr, hb⟩ := hrel
      have HAL := Lib.hid hall
      have HB := Lib.hid hb
      have HXR := Lib.hid hxr
      clear hall
      have l3 : wr.cell? ⟨w.heap.size, 3, none⟩ = some (.slice x.A x.rds.length x.c) := by rw [cell_of_row _ _ _ _ _ _ hxr]; rfl
      have l4 : wr.cell? ⟨w.heap.size, 4, none⟩ = some (.string (str x.wr.pth)) := by rw [cell_of_row _ _ _ _ _ _ hxr]; rfl
      have l5 : wr.cell? ⟨w.heap.size, 5, none⟩ = some (.string (str x.wr.dig)) := by rw [cell_of_row _ _ _ _ _ _ hxr]; rfl
      have l5' : wr.cell? ⟨w.heap.size, 4 + 1, none⟩ = some (.string (str x.wr.dig)) := l5
      have hxl := blk_lt hxr
      by_cases hlt : j < x.rds.length
      · have m1 : decide ((j : Int) ≤ (x.rds.length : Int)) = true := decide_eq_true (by omega)
        have m1n : decide (j ≤ x.rds.length) = true := decide_eq_true (by omega)
        have m2 : decide ((j : Int) < (x.rds.length : Int)) = true := decide_eq_true (by omega)
        have m2n : decide (j < x.rds.length) = true := decide_eq_true hlt
        have y3 : (j : Int) < (x.rds.length : Int) := by omega
        obtain ⟨g1, o1, hxA, hg1, hc1⟩ := HRD.out j hlt
        rw [hxA] at l3
        have HAX := Lib.hid hxA
        clear hxA
        have e0 := (hb.cell (p := ⟨g1, o1 + j * 2 + 0, none⟩) hg1).trans (hc1 0 _ rfl)
        have e1 := (hb.cell (p := ⟨g1, o1 + j * 2 + 1, none⟩) hg1).trans (hc1 1 _ rfl)
        rw [show o1 + j * 2 + 0 = o1 + j * 2 from rfl] at e0
        have hbw : Below w.heap.size w (wr.alloc (tcO x.wr)) := hb.alloc hb.size _
        have e0a := (hbw.cell (p := ⟨g1, o1 + j * 2 + 0, none⟩) hg1).trans (hc1 0 _ rfl)
        have e1a := (hbw.cell (p := ⟨g1, o1 + j * 2 + 1, none⟩) hg1).trans (hc1 1 _ rfl)
        rw [show o1 + j * 2 + 0 = o1 + j * 2 from rfl] at e0a
        have hjt : j < (Rc.tcs x).length := by rw [Rc.tcs_len]; omega
        have hget := Rc.tcs_get hlt hjt
        have HPT := Lib.hid (HP.out x.rds[j] (List.mem_append_left _ (List.getElem_mem hlt)))
        clear hc1 hbw
        generalize x.rds[j] = t at *
        have hbt : Below w.heap.size w (wr.alloc (tcO t)) := hb.alloc hb.size _
        have HBT := Lib.hid hbt
        have htn := heap_alloc_new wr (tcO t)
        have hxt := (blk_alloc_lt wr (tcO t) _ hxl).trans hxr
        have cP := qPath_any (str t.pth) (wr.alloc (tcO t)) (by rw [str_size]; have := HPT.out; omega)
        rw [show (str t.pth).data.toList = t.pth from rfl] at cP
        have cT := qtouched_any r 0 t.pth (some ⟨g0, o, none⟩) c (wr.alloc (tcO t)) (HA.out.next hbt) (by omega)
        try rw [show ((0 : Nat) : Int) = 0 from rfl] at cT
        have HFL := Lib.hid (fun (h : Rc.tchE r 0 x j t ≠ 0) => show V = Rc.tchE r 0 x j t by
          rw [HVV.out]
          have := Rc.step_file HH.out hjt (fun k hk => HAL.out k (by omega) hk) (by rw [hget]; exact h)
          rw [hget] at this
          exact this)
        have HTN := Lib.hid (fun (h : Rc.tchE r 0 x j t = 0) k (hk : k < (Rc.tcs x).length) (hkj : k < j + 1) => show Rc.tchE r 0 x k (Rc.tcs x)[k] = 0 by
          by_cases e : k = j
          · subst e; rw [hget]; exact h
          · exact HAL.out k hk (by omega))
        have HTC := Lib.hid (show Rc.tchE r 0 x j t = if !Tre.pathOk t.pth then 2 else if t.dig.length ≠ 32 then 17 else if Rc.among x.rds j t.pth || (decide (j = x.rds.length) && (Rc.touched r 0 t.pth).isSome) then 6 else match Rc.touched r 0 t.pth with | some d => if d = t.dig then 0 else 9 | none => 0 from rfl)
        have hsz := str_size t.dig
        clear hget hb hbt
        cases hpo : Tre.pathOk t.pth with
        | false =>
          rw [hpo] at cP
          have HT := Lib.hid (show V = 2 by
            have h1 : Rc.tchE r 0 x j t = 2 := by rw [HTC.out, hpo]; rfl
            rw [HFL.out (by rw [h1]; decide), h1])
          clear hpo HFL HTN cT
          go_wp2_with fail
          with_reducible refine cP.mono ?_
          rintro e w5 ⟨rfl, rfl⟩
          go_wp2_with fail
          first | go_ret3 | go_ret2 | go_ret
          exact ⟨by rw [HT.out]; rfl, HBT.out⟩
        | true =>
          rw [hpo] at cP
          by_cases hdl : t.dig.length = 32
          · have d1 : decide ((t.dig.length : Int) = 32) = true := by rw [hdl]; rfl
            have d2 : ((t.dig.length : Int) != 32) = false := by rw [hdl]; rfl
            have HTD := Lib.hid (show Rc.tchE r 0 x j t = if Rc.among x.rds j t.pth || (decide (j = x.rds.length) && (Rc.touched r 0 t.pth).isSome) then 6 else match Rc.touched r 0 t.pth with | some d => if d = t.dig then 0 else 9 | none => 0 by rw [HTC.out, hpo, if_neg (by decide), if_neg (by rw [hdl]; decide)])
            clear hpo
            go_wp2_with fail
            with_reducible refine cP.mono ?_
            rintro e w5 ⟨rfl, rfl⟩
            clear cP
            go_wp2_with fail
            with_reducible refine cT.mono ?_
            clear cT
            rintro e w6 ⟨⟨d, bb, rfl, hb1, hb2⟩, hb6⟩
            have HB6 := Lib.hid (HBT.out.trans (hb6.mono HBT.out.size))
            have hx6 := (hb6.block _ (blk_lt hxt)).trans hxt
            have ht6 := (hb6.block _ (blk_lt htn)).trans htn
            have n3 : w6.cell? ⟨w.heap.size, 3, none⟩ = some (.slice (some ⟨g1, o1, none⟩) x.rds.length x.c) := by rw [cell_of_row _ _ _ _ _ _ hx6]; first | rfl | (rw [← HAX.out]; rfl)
            have t0 : w6.cell? ⟨wr.heap.size, 0, none⟩ = some (.string (str t.pth)) := by rw [cell_of_row _ _ _ _ _ _ ht6]; rfl
            have t1 : w6.cell? ⟨wr.heap.size, 1, none⟩ = some (.string (str t.dig)) := by rw [cell_of_row _ _ _ _ _ _ ht6]; rfl
            have cA := qamong_any x.rds j t.pth ((some ⟨g1, o1, none⟩)) x.c w6 (by have := HRD.out; rw [HAX.out] at this; exact (this.keep HB6.out).mono HB6.out.size) (by omega) htl
            have HX6 := Lib.hid hx6
            clear hb6 hxt htn hx6 ht6
            have m3 : ((j : Int) == (x.rds.length : Int)) = false := by rw [beq_eq_false_iff_ne]; omega
            have HTE := Lib.hid (show Rc.tchE r 0 x j t = if Rc.among x.rds j t.pth then 6 else match Rc.touched r 0 t.pth with | some d => if d = t.dig then 0 else 9 | none => 0 by rw [HTD.out, decide_eq_false (by omega : ¬ j = x.rds.length), Bool.false_and, Bool.or_false])
            go_wp2_with fail
            with_reducible refine cA.mono ?_
            clear cA
            rintro e w7 ⟨⟨z, rfl, hz, _, _⟩, rfl⟩
            cases ham : Rc.among x.rds j t.pth with
            | true =>
              rw [ham] at hz
              have HT := Lib.hid (show V = 6 by
                have h1 : Rc.tchE r 0 x j t = 6 := by rw [HTE.out, ham]; rfl
                rw [HFL.out (by rw [h1]; decide), h1])
              clear ham HFL HTN hb1 hb2
              go_wp2_with fail
              first | go_ret3 | go_ret2 | go_ret
              exact ⟨by rw [HT.out]; rfl, HB6.out⟩
            | false =>
              rw [ham] at hz
              have HTF := Lib.hid (show Rc.tchE r 0 x j t = match Rc.touched r 0 t.pth with | some d => if d = t.dig then 0 else 9 | none => 0 by rw [HTE.out, ham]; rfl)
              clear ham
              cases bb with
              | false =>
                have HN := Lib.hid (HTN.out (by rw [HTF.out, hb2 rfl]))
                clear HFL HTN hb1 hb2
                go_wp2_with fail
                go_roundw
                case rel => exact ⟨j + 1, by go_num, by omega, HN.out, HX6.out, HB6.out⟩
                case measure => simp [intOf]; omega
              | true =>
                by_cases hde : d = t.dig
                · have n1 : ((str d).toList == (str t.dig).toList) = true := by rw [strL, strL, beq_iff_eq]; exact hde
                  have HN := Lib.hid (HTN.out (by rw [HTF.out, hb1 rfl]; exact if_pos hde))
                  clear HFL HTN hb1 hb2 hde
                  go_wp2_with fail
                  go_roundw
                  case rel => exact ⟨j + 1, by go_num, by omega, HN.out, HX6.out, HB6.out⟩
                  case measure => simp [intOf]; omega
                · have n1 : ((str d).toList == (str t.dig).toList) = false := by rw [strL, strL, beq_eq_false_iff_ne]; exact hde
                  have HT := Lib.hid (show V = 9 by
                    have h1 : Rc.tchE r 0 x j t = 9 := by rw [HTF.out, hb1 rfl]; exact if_neg hde
                    rw [HFL.out (by rw [h1]; decide), h1])
                  clear HFL HTN hb1 hb2 hde
                  go_wp2_with fail
                  first | go_ret3 | go_ret2 | go_ret
                  exact ⟨by rw [HT.out]; rfl, HB6.out⟩
          · have d1 : decide ((t.dig.length : Int) = 32) = false := decide_eq_false (by omega)
            have d2 : ((t.dig.length : Int) != 32) = true := by rw [bne_iff_ne]; omega
            have HT := Lib.hid (show V = 17 by
              have h1 : Rc.tchE r 0 x j t = 17 := by rw [HTC.out, hpo, if_neg (by decide), if_pos hdl]
              rw [HFL.out (by rw [h1]; decide), h1])
            clear hpo HFL HTN cT hdl
            go_wp2_with fail
            with_reducible refine cP.mono ?_
            rintro e w5 ⟨rfl, rfl⟩
            go_wp2_with fail
            first | go_ret3 | go_ret2 | go_ret
            exact ⟨by rw [HT.out]; rfl, HBT.out⟩
      · have m2 : decide ((j : Int) < (x.rds.length : Int)) = false := decide_eq_false (by omega)
        have m2n : decide (j < x.rds.length) = false := decide_eq_false hlt
        by_cases heq : j = x.rds.length
        · have m1 : decide ((j : Int) ≤ (x.rds.length : Int)) = true := decide_eq_true (by omega)
          have m1n : decide (j ≤ x.rds.length) = true := decide_eq_true (by omega)
          subst heq
          have hjt : x.rds.length < (Rc.tcs x).length := by rw [Rc.tcs_len]; omega
          have hget : (Rc.tcs x)[x.rds.length] = x.wr := by
            unfold Rc.tcs
            exact List.getElem_concat_length rfl _
          have HPT := Lib.hid (HP.out x.wr (List.mem_append_right _ (List.mem_singleton.2 rfl)))
          have HAX := Lib.hid (show x.A = x.A from rfl)
          obtain ⟨t, ht⟩ : ∃ t, t = x.wr := ⟨_, rfl⟩
          rw [← ht] at l4 l5 l5' hget HPT
          clear ht
          have hbt : Below w.heap.size w (wr.alloc (tcO t)) := hb.alloc hb.size _
          have HBT := Lib.hid hbt
          have htn := heap_alloc_new wr (tcO t)
          have hxt := (blk_alloc_lt wr (tcO t) _ hxl).trans hxr
          have cP := qPath_any (str t.pth) (wr.alloc (tcO t)) (by rw [str_size]; have := HPT.out; omega)
          rw [show (str t.pth).data.toList = t.pth from rfl] at cP
          have cT := qtouched_any r 0 t.pth (some ⟨g0, o, none⟩) c (wr.alloc (tcO t)) (HA.out.next hbt) (by omega)
          try rw [show ((0 : Nat) : Int) = 0 from rfl] at cT
          have HFL := Lib.hid (fun (h : Rc.tchE r 0 x x.rds.length t ≠ 0) => show V = Rc.tchE r 0 x x.rds.length t by
            rw [HVV.out]
            have := Rc.step_file HH.out hjt (fun k hk => HAL.out k (by omega) hk) (by rw [hget]; exact h)
            rw [hget] at this
            exact this)
          have HTN := Lib.hid (fun (h : Rc.tchE r 0 x x.rds.length t = 0) k (hk : k < (Rc.tcs x).length) (hkj : k < x.rds.length + 1) => show Rc.tchE r 0 x k (Rc.tcs x)[k] = 0 by
            by_cases e : k = x.rds.length
            · subst e; rw [hget]; exact h
            · exact HAL.out k hk (by omega))
          have HTC := Lib.hid (show Rc.tchE r 0 x x.rds.length t = if !Tre.pathOk t.pth then 2 else if t.dig.length ≠ 32 then 17 else if Rc.among x.rds x.rds.length t.pth || (decide (x.rds.length = x.rds.length) && (Rc.touched r 0 t.pth).isSome) then 6 else match Rc.touched r 0 t.pth with | some d => if d = t.dig then 0 else 9 | none => 0 from rfl)
          have hsz := str_size t.dig
          clear hget hb hbt
          cases hpo : Tre.pathOk t.pth with
          | false =>
            rw [hpo] at cP
            have HT := Lib.hid (show V = 2 by
              have h1 : Rc.tchE r 0 x x.rds.length t = 2 := by rw [HTC.out, hpo]; rfl
              rw [HFL.out (by rw [h1]; decide), h1])
            clear hpo HFL HTN cT
            go_wp2_with fail
            with_reducible refine cP.mono ?_
            rintro e w5 ⟨rfl, rfl⟩
            go_wp2_with fail
            first | go_ret3 | go_ret2 | go_ret
            exact ⟨by rw [HT.out]; rfl, HBT.out⟩
          | true =>
            rw [hpo] at cP
            by_cases hdl : t.dig.length = 32
            · have d1 : decide ((t.dig.length : Int) = 32) = true := by rw [hdl]; rfl
              have d2 : ((t.dig.length : Int) != 32) = false := by rw [hdl]; rfl
              have HTD := Lib.hid (show Rc.tchE r 0 x x.rds.length t = if Rc.among x.rds x.rds.length t.pth || (decide (x.rds.length = x.rds.length) && (Rc.touched r 0 t.pth).isSome) then 6 else match Rc.touched r 0 t.pth with | some d => if d = t.dig then 0 else 9 | none => 0 by rw [HTC.out, hpo, if_neg (by decide), if_neg (by rw [hdl]; decide)])
              clear hpo
              go_wp2_with fail
              with_reducible refine cP.mono ?_
              rintro e w5 ⟨rfl, rfl⟩
              clear cP
              go_wp2_with fail
              with_reducible refine cT.mono ?_
              clear cT
              rintro e w6 ⟨⟨d, bb, rfl, hb1, hb2⟩, hb6⟩
              have HB6 := Lib.hid (HBT.out.trans (hb6.mono HBT.out.size))
              have hx6 := (hb6.block _ (blk_lt hxt)).trans hxt
              have ht6 := (hb6.block _ (blk_lt htn)).trans htn
              have n3 : w6.cell? ⟨w.heap.size, 3, none⟩ = some (.slice x.A x.rds.length x.c) := by rw [cell_of_row _ _ _ _ _ _ hx6]; first | rfl | (rw [← HAX.out]; rfl)
              have t0 : w6.cell? ⟨wr.heap.size, 0, none⟩ = some (.string (str t.pth)) := by rw [cell_of_row _ _ _ _ _ _ ht6]; rfl
              have t1 : w6.cell? ⟨wr.heap.size, 1, none⟩ = some (.string (str t.dig)) := by rw [cell_of_row _ _ _ _ _ _ ht6]; rfl
              have cA := qamong_any x.rds x.rds.length t.pth (x.A) x.c w6 (by have := HRD.out; exact (this.keep HB6.out).mono HB6.out.size) (by omega) htl
              have HX6 := Lib.hid hx6
              clear hb6 hxt htn hx6 ht6
              have HTE := Lib.hid (show Rc.tchE r 0 x x.rds.length t = if Rc.among x.rds x.rds.length t.pth || (Rc.touched r 0 t.pth).isSome then 6 else match Rc.touched r 0 t.pth with | some d => if d = t.dig then 0 else 9 | none => 0 by rw [HTD.out]; simp)
              go_wp2_with fail
              with_reducible refine cA.mono ?_
              clear cA
              rintro e w7 ⟨⟨z, rfl, hz, _, _⟩, rfl⟩
              cases ham : Rc.among x.rds x.rds.length t.pth with
              | true =>
                rw [ham] at hz
                have HT := Lib.hid (show V = 6 by
                  have h1 : Rc.tchE r 0 x x.rds.length t = 6 := by rw [HTE.out, ham]; rfl
                  rw [HFL.out (by rw [h1]; decide), h1])
                clear ham HFL HTN hb1 hb2
                go_wp2_with fail
                first | go_ret3 | go_ret2 | go_ret
                exact ⟨by rw [HT.out]; rfl, HB6.out⟩
              | false =>
                rw [ham] at hz
                have HTF := Lib.hid (show Rc.tchE r 0 x x.rds.length t = if (Rc.touched r 0 t.pth).isSome then 6 else match Rc.touched r 0 t.pth with | some d => if d = t.dig then 0 else 9 | none => 0 by rw [HTE.out, ham]; rfl)
                clear ham
                cases bb with
                | false =>
                  have HN := Lib.hid (HTN.out (by rw [HTF.out, hb2 rfl]; first | done | rfl))
                  clear HFL HTN hb1 hb2
                  go_wp2_with fail
                  go_roundw
                  case rel => exact ⟨x.rds.length + 1, by go_num, by omega, HN.out, HX6.out, HB6.out⟩
                  case measure => simp [intOf]
                | true =>
                  have HT := Lib.hid (show V = 6 by
                    have h1 : Rc.tchE r 0 x x.rds.length t = 6 := by rw [HTF.out, hb1 rfl]; rfl
                    rw [HFL.out (by rw [h1]; decide), h1])
                  clear HFL HTN hb1 hb2
                  go_wp2_with fail
                  first | go_ret3 | go_ret2 | go_ret
                  exact ⟨by rw [HT.out]; rfl, HB6.out⟩
            · have d1 : decide ((t.dig.length : Int) = 32) = false := decide_eq_false (by omega)
              have d2 : ((t.dig.length : Int) != 32) = true := by rw [bne_iff_ne]; omega
              have HT := Lib.hid (show V = 17 by
                have h1 : Rc.tchE r 0 x x.rds.length t = 17 := by rw [HTC.out, hpo, if_neg (by decide), if_pos hdl]
                rw [HFL.out (by rw [h1]; decide), h1])
              clear hpo HFL HTN cT hdl
              go_wp2_with fail
              with_reducible refine cP.mono ?_
              rintro e w5 ⟨rfl, rfl⟩
              go_wp2_with fail
              first | go_ret3 | go_ret2 | go_ret
              exact ⟨by rw [HT.out]; rfl, HBT.out⟩
        · have m1 : decide ((j : Int) ≤ (x.rds.length : Int)) = false := decide_eq_false (by omega)
          have m1n : decide (j ≤ x.rds.length) = false := decide_eq_false (by omega)
          have HT := Lib.hid (show V = 0 by
            rw [HVV.out]
            exact Rc.step_zero HH.out fun k hk => HAL.out k hk (by rw [Rc.tcs_len] at hk; omega))
          clear hb
          go_wp2_with fail
          first | go_ret3 | go_ret2 | go_ret
          exact ⟨by rw [HT.out]; rfl, HB.out⟩
  · have HT := Lib.hid (show V = 1 by
      have h1 : Rc.headE r 0 x = 1 := by rw [Rc.head1 HR.out hq]; unfold Rc.isF; simp; omega
      rw [HVV.out, Rc.step_head (by rw [h1]; decide), h1])
    have hdb := hbx.drew
    clear HVV hq
    by_cases hz0 : x.rds.length = 0
    · have e0 : ((x.rds.length : Int) == 0) = true := by rw [beq_iff_eq]; omega
      clear hz0 hz
      go_enter Tryz.func73, Tryz.ntmps73
      go_upto_region 4 with (fail)
      go_region
      go_wp2_with fail
      first | go_ret3 | go_ret2 | go_ret
      exact ⟨by rw [HT.out]; rfl, by first | exact hbx | exact hdb | exact ((Below.refl _ _).alloc (Nat.le_refl _) _).drew⟩
    · have e0 : ((x.rds.length : Int) == 0) = false := by rw [beq_eq_false_iff_ne]; omega
      have e1 : decide ((1024 : Int) < (x.rds.length : Int)) = true := decide_eq_true (by omega)
      have e1n : decide (1024 < x.rds.length) = true := decide_eq_true (by omega)
      clear hz
      go_enter Tryz.func73, Tryz.ntmps73
      go_upto_region 4 with (fail)
      go_region
      go_wp2_with fail
      first | go_ret3 | go_ret2 | go_ret
      exact ⟨by rw [HT.out]; rfl, by first | exact hbx | exact hdb | exact ((Below.refl _ _).alloc (Nat.le_refl _) _).drew⟩
end Go.Proofs.YtjemffgidhgfjaaGreatDoor.Rk
end
section
namespace Go.Proofs.YtjemffgidhgfjaaGreatDoor.Rk
open Go.RowKit Go.Deep Tr
set_option maxHeartbeats 16000000 in
set_option maxRecDepth 100000 in
theorem qstep_s (r : List Dn) (i : Nat) (hi : i < r.length) (A : Option Addr) (c : Nat) (w : World) (hA : RcAt w A r) (hS : Sht r) (hR : (Rc.isF r[i].pkg 0 15 && Rc.isF r[i].lin 0 1023 && Rc.isF r[i].knd 1 8) = true) (h0 : 0 < i) (ho : Rc.ordE r i r[i] = false) (hp : ∀ b, r[i - 1]? = some b → r[i].pkg = b.pkg) :
    Calls Tryz.prog 73 #[.slice A r.length c, .int .i64 i] w fun e w' => e = .returned (.int .i64 (Rc.stepE r i r[i])) ∧ Below w.heap.size w w' := by
  have HA := Lib.hid hA
  obtain ⟨g0, o, rfl, hg, hc⟩ := hA.st i hi
  have hd0 := hc 0 _ rfl
  have hd1 := hc 1 _ rfl
  have hd2 := hc 2 _ rfl
  have hd3 := hc 3 _ rfl
  have hd4 := hc 4 _ rfl
  have hd5 := hc 5 _ rfl
  rw [show o + i * 6 + 0 = o + i * 6 from rfl] at hd0
  have y2 : (i : Int) < (r.length : Int) := by omega
  have hrl := hA.rl
  have htl := hA.tl r[i] (List.getElem_mem hi)
  have HRD := Lib.hid (hA.rd r[i] (List.getElem_mem hi))
  have HP := Lib.hid (hS.p r[i] (List.getElem_mem hi))
  have hb00 : i - 1 < r.length := by omega
  obtain ⟨b, hbg, hcb⟩ : ∃ b, r[i - 1]? = some b ∧ ∀ k u, (Rc.dnV b)[k]? = some u → w.cell? ⟨g0, o + (i - 1) * 6 + k, none⟩ = some u := by
    obtain ⟨g1, o1, e1, _, hc1⟩ := hA.st (i - 1) hb00
    injection e1 with e1
    injection e1 with e1 e2 _
    subst e1 e2
    exact ⟨r[i - 1], List.getElem?_eq_getElem hb00, hc1⟩
  have hq0 : Rc.ordE r i r[i] = !Rc.fol r[i] b := by unfold Rc.ordE; rw [decide_eq_true h0, hbg, Bool.true_and]
  clear hb00
  have o2 := hp b hbg
  clear hp
  generalize r[i] = x at *
  clear hc hA hS
  have hbx : Below w.heap.size w (w.alloc (dnO x)) := (Below.refl _ _).alloc (Nat.le_refl _) _
  have hxn := heap_alloc_new w (dnO x)
  obtain ⟨V, hV⟩ : ∃ V, V = Rc.stepE r i x := ⟨_, rfl⟩
  rw [← hV]
  have HVV := Lib.hid hV
  clear hV
  have da1 : decide (x.pkg < 0) = false := decide_eq_false (by intro h; revert hR; unfold Rc.isF; simp; omega)
  have da2 : decide (16 ≤ x.pkg) = false := decide_eq_false (by intro h; revert hR; unfold Rc.isF; simp; omega)
  have da3 : decide (x.lin < 0) = false := decide_eq_false (by intro h; revert hR; unfold Rc.isF; simp; omega)
  have da4 : decide (1024 ≤ x.lin) = false := decide_eq_false (by intro h; revert hR; unfold Rc.isF; simp; omega)
  have da5 : decide (x.knd < 1) = false := decide_eq_false (by intro h; revert hR; unfold Rc.isF; simp; omega)
  have da6 : decide (8 < x.knd) = false := decide_eq_false (by intro h; revert hR; unfold Rc.isF; simp; omega)
  have HR := Lib.hid hR
  clear hR
  have b1 : decide ((0 : Int) < (i : Int)) = true := decide_eq_true (by omega)
  have b1n : decide (0 < i) = true := decide_eq_true h0
  clear hbg
  obtain ⟨jj, hjj⟩ : ∃ j, j = i - 1 := ⟨_, rfl⟩
  rw [← hjj] at hcb
  have wj : IntKind.i64.wrap ((i : Int) - 1) = (jj : Int) := (IntWalk.i64_in _ (by omega)).trans (by omega)
  have y1 : (jj : Int) < (r.length : Int) := by omega
  have k0 := (hbx.cell (p := ⟨g0, o + jj * 6, none⟩) hg).trans (hcb 0 _ rfl)
  have k1 := (hbx.cell (p := ⟨g0, o + jj * 6 + 1, none⟩) hg).trans (hcb 1 _ rfl)
  have k2 := (hbx.cell (p := ⟨g0, o + jj * 6 + 2, none⟩) hg).trans (hcb 2 _ rfl)
  have k3 := (hbx.cell (p := ⟨g0, o + jj * 6 + 3, none⟩) hg).trans (hcb 3 _ rfl)
  have k4 := (hbx.cell (p := ⟨g0, o + jj * 6 + 4, none⟩) hg).trans (hcb 4 _ rfl)
  have k5 := (hbx.cell (p := ⟨g0, o + jj * 6 + 5, none⟩) hg).trans (hcb 5 _ rfl)
  clear hcb hjj h0
  have hdb := hbx.drew
  have hq := ho
  have do1 : decide (x.pkg < b.pkg) = false := decide_eq_false (by omega)
  have do2 : (x.pkg == b.pkg) = true := by rw [beq_iff_eq]; exact o2
  have do3 : decide (x.lin ≤ b.lin) = false := decide_eq_false (by
    rw [hq0] at ho; revert ho; unfold Rc.fol; rw [if_pos o2]; simp)
  clear o2 hq0 ho
  by_cases hz : 0 < x.rds.length ∧ x.rds.length ≤ 1024
  · have e0 : ((x.rds.length : Int) == 0) = false := by rw [beq_eq_false_iff_ne]; omega
    have e1 : decide ((1024 : Int) < (x.rds.length : Int)) = false := decide_eq_false (by omega)
    have e1n : decide (1024 < x.rds.length) = false := decide_eq_false (by omega)
    have e2 : decide (x.rds.length = 0) = false := decide_eq_false (by omega)
    go_enter Tryz.func73, Tryz.ntmps73
    go_upto_region 4 with (fail)
    go_quiet (fail)
    go_wp2_with fail
    clear k0 k1 k2 k3 k4 k5
    have HX := Lib.hid hxn
    have HH := Lib.hid (show Rc.headE r i x = 0 by rw [Rc.head1 HR.out hq]; unfold Rc.isF; simp; omega)
    have HBX := Lib.hid hbx
    clear hd0 hd1 hd2 hd3 hd4 hd5 hbx hxn
    go_loopw [6] (fun s6 wr => ∃ j : Nat, s6 = .int .i64 j ∧ j ≤ x.rds.length + 1 ∧ (∀ k (h : k < (Rc.tcs x).length), k < j → Rc.tchE r i x k (Rc.tcs x)[k] = 0) ∧ wr.heap[w.heap.size]? = some (dnO x) ∧ Below w.heap.size w wr) (fun s6 _ => x.rds.length + 1 - (intOf s6).toNat)
    case atStart => exact ⟨0, rfl, Nat.zero_le _, fun k _ h => (by omega), HX.out, by first | exact below_drewN HBX.out nq | exact HBX.out | exact HBX.out.drew⟩
    case round =>
      obtain ⟨j, rfl, hj, hall, hxr, hb⟩ := hrel
      have HAL := Lib.hid hall
      have HB := Lib.hid hb
      have HXR := Lib.hid hxr
      clear hall
      have l3 : wr.cell? ⟨w.heap.size, 3, none⟩ = some (.slice x.A x.rds.length x.c) := by rw [cell_of_row _ _ _ _ _ _ hxr]; rfl
      have l4 : wr.cell? ⟨w.heap.size, 4, none⟩ = some (.string (str x.wr.pth)) := by rw [cell_of_row _ _ _ _ _ _ hxr]; rfl
      have l5 : wr.cell? ⟨w.heap.size, 5, none⟩ = some (.string (str x.wr.dig)) := by rw [cell_of_row _ _ _ _ _ _ hxr]; rfl
      have l5' : wr.cell? ⟨w.heap.size, 4 + 1, none⟩ = some (.string (str x.wr.dig)) := l5
      have hxl := blk_lt hxr
      by_cases hlt : j < x.rds.length
      · have m1 : decide ((j : Int) ≤ (x.rds.length : Int)) = true := decide_eq_true (by omega)
        have m1n : decide (j ≤ x.rds.length) = true := decide_eq_true (by omega)
        have m2 : decide ((j : Int) < (x.rds.length : Int)) = true := decide_eq_true (by omega)
        have m2n : decide (j < x.rds.length) = true := decide_eq_true hlt
        have y3 : (j : Int) < (x.rds.length : Int) := by omega
        obtain ⟨g1, o1, hxA, hg1, hc1⟩ := HRD.out j hlt
        rw [hxA] at l3
        have HAX := Lib.hid hxA
        clear hxA
        have e0 := (hb.cell (p := ⟨g1, o1 + j * 2 + 0, none⟩) hg1).trans (hc1 0 _ rfl)
        have e1 := (hb.cell (p := ⟨g1, o1 + j * 2 + 1, none⟩) hg1).trans (hc1 1 _ rfl)
        rw [show o1 + j * 2 + 0 = o1 + j * 2 from rfl] at e0
        have hbw : Below w.heap.size w (wr.alloc (tcO x.wr)) := hb.alloc hb.size _
        have e0a := (hbw.cell (p := ⟨g1, o1 + j * 2 + 0, none⟩) hg1).trans (hc1 0 _ rfl)
        have e1a := (hbw.cell (p := ⟨g1, o1 + j * 2 + 1, none⟩) hg1).trans (hc1 1 _ rfl)
        rw [show o1 + j * 2 + 0 = o1 + j * 2 from rfl] at e0a
        have hjt : j < (Rc.tcs x).length := by rw [Rc.tcs_len]; omega
        have hget := Rc.tcs_get hlt hjt
        have HPT := Lib.hid (HP.out x.rds[j] (List.mem_append_left _ (List.getElem_mem hlt)))
        clear hc1 hbw
        generalize x.rds[j] = t at *
        have hbt : Below w.heap.size w (wr.alloc (tcO t)) := hb.alloc hb.size _
        have HBT := Lib.hid hbt
        have htn := heap_alloc_new wr (tcO t)
        have hxt := (blk_alloc_lt wr (tcO t) _ hxl).trans hxr
        have cP := qPath_any (str t.pth) (wr.alloc (tcO t)) (by rw [str_size]; have := HPT.out; omega)
        rw [show (str t.pth).data.toList = t.pth from rfl] at cP
        have cT := qtouched_any r i t.pth (some ⟨g0, o, none⟩) c (wr.alloc (tcO t)) (HA.out.next hbt) (by omega)
        try rw [show ((0 : Nat) : Int) = 0 from rfl] at cT
        have HFL := Lib.hid (fun (h : Rc.tchE r i x j t ≠ 0) => show V = Rc.tchE r i x j t by
          rw [HVV.out]
          have := Rc.step_file HH.out hjt (fun k hk => HAL.out k (by omega) hk) (by rw [hget]; exact h)
          rw [hget] at this
          exact this)
        have HTN := Lib.hid (fun (h : Rc.tchE r i x j t = 0) k (hk : k < (Rc.tcs x).length) (hkj : k < j + 1) => show Rc.tchE r i x k (Rc.tcs x)[k] = 0 by
          by_cases e : k = j
          · subst e; rw [hget]; exact h
          · exact HAL.out k hk (by omega))
        have HTC := Lib.hid (show Rc.tchE r i x j t = if !Tre.pathOk t.pth then 2 else if t.dig.length ≠ 32 then 17 else if Rc.among x.rds j t.pth || (decide (j = x.rds.length) && (Rc.touched r i t.pth).isSome) then 6 else match Rc.touched r i t.pth with | some d => if d = t.dig then 0 else 9 | none => 0 from rfl)
        have hsz := str_size t.dig
        clear hget hb hbt
        cases hpo : Tre.pathOk t.pth with
        | false =>
          rw [hpo] at cP
          have HT := Lib.hid (show V = 2 by
            have h1 : Rc.tchE r i x j t = 2 := by rw [HTC.out, hpo]; rfl
            rw [HFL.out (by rw [h1]; decide), h1])
          clear hpo HFL HTN cT
          go_wp2_with fail
          with_reducible refine cP.mono ?_
          rintro e w5 ⟨rfl, rfl⟩
          go_wp2_with fail
          first | go_ret3 | go_ret2 | go_ret
          exact ⟨by rw [HT.out]; rfl, HBT.out⟩
        | true =>
          rw [hpo] at cP
          by_cases hdl : t.dig.length = 32
          · have d1 : decide ((t.dig.length : Int) = 32) = true := by rw [hdl]; rfl
            have d2 : ((t.dig.length : Int) != 32) = false := by rw [hdl]; rfl
            have HTD := Lib.hid (show Rc.tchE r i x j t = if Rc.among x.rds j t.pth || (decide (j = x.rds.length) && (Rc.touched r i t.pth).isSome) then 6 else match Rc.touched r i t.pth with | some d => if d = t.dig then 0 else 9 | none => 0 by rw [HTC.out, hpo, if_neg (by decide), if_neg (by rw [hdl]; decide)])
            clear hpo
            go_wp2_with fail
            with_reducible refine cP.mono ?_
            rintro e w5 ⟨rfl, rfl⟩
            clear cP
            go_wp2_with fail
            with_reducible refine cT.mono ?_
            clear cT
            rintro e w6 ⟨⟨d, bb, rfl, hb1, hb2⟩, hb6⟩
            have HB6 := Lib.hid (HBT.out.trans (hb6.mono HBT.out.size))
            have hx6 := (hb6.block _ (blk_lt hxt)).trans hxt
            have ht6 := (hb6.block _ (blk_lt htn)).trans htn
            have n3 : w6.cell? ⟨w.heap.size, 3, none⟩ = some (.slice (some ⟨g1, o1, none⟩) x.rds.length x.c) := by rw [cell_of_row _ _ _ _ _ _ hx6]; first | rfl | (rw [← HAX.out]; rfl)
            have t0 : w6.cell? ⟨wr.heap.size, 0, none⟩ = some (.string (str t.pth)) := by rw [cell_of_row _ _ _ _ _ _ ht6]; rfl
            have t1 : w6.cell? ⟨wr.heap.size, 1, none⟩ = some (.string (str t.dig)) := by rw [cell_of_row _ _ _ _ _ _ ht6]; rfl
            have cA := qamong_any x.rds j t.pth ((some ⟨g1, o1, none⟩)) x.c w6 (by have := HRD.out; rw [HAX.out] at this; exact (this.keep HB6.out).mono HB6.out.size) (by omega) htl
            have HX6 := Lib.hid hx6
            clear hb6 hxt htn hx6 ht6
            have m3 : ((j : Int) == (x.rds.length : Int)) = false := by rw [beq_eq_false_iff_ne]; omega
            have HTE := Lib.hid (show Rc.tchE r i x j t = if Rc.among x.rds j t.pth then 6 else match Rc.touched r i t.pth with | some d => if d = t.dig then 0 else 9 | none => 0 by rw [HTD.out, decide_eq_false (by omega : ¬ j = x.rds.length), Bool.false_and, Bool.or_false])
            go_wp2_with fail
            with_reducible refine cA.mono ?_
            clear cA
            rintro e w7 ⟨⟨z, rfl, hz, _, _⟩, rfl⟩
            cases ham : Rc.among x.rds j t.pth with
            | true =>
              rw [ham] at hz
              have HT := Lib.hid (show V = 6 by
                have h1 : Rc.tchE r i x j t = 6 := by rw [HTE.out, ham]; rfl
                rw [HFL.out (by rw [h1]; decide), h1])
              clear ham HFL HTN hb1 hb2
              go_wp2_with fail
              first | go_ret3 | go_ret2 | go_ret
              exact ⟨by rw [HT.out]; rfl, HB6.out⟩
            | false =>
              rw [ham] at hz
              have HTF := Lib.hid (show Rc.tchE r i x j t = match Rc.touched r i t.pth with | some d => if d = t.dig then 0 else 9 | none => 0 by rw [HTE.out, ham]; rfl)
              clear ham
              cases bb with
              | false =>
                have HN := Lib.hid (HTN.out (by rw [HTF.out, hb2 rfl]))
                clear HFL HTN hb1 hb2
                go_wp2_with fail
                go_roundw
                case rel => exact ⟨j + 1, by go_num, by omega, HN.out, HX6.out, HB6.out⟩
                case measure => simp [intOf]; omega
              | true =>
                by_cases hde : d = t.dig
                · have n1 : ((str d).toList == (str t.dig).toList) = true := by rw [strL, strL, beq_iff_eq]; exact hde
                  have HN := Lib.hid (HTN.out (by rw [HTF.out, hb1 rfl]; exact if_pos hde))
                  clear HFL HTN hb1 hb2 hde
                  go_wp2_with fail
                  go_roundw
                  case rel => exact ⟨j + 1, by go_num, by omega, HN.out, HX6.out, HB6.out⟩
                  case measure => simp [intOf]; omega
                · have n1 : ((str d).toList == (str t.dig).toList) = false := by rw [strL, strL, beq_eq_false_iff_ne]; exact hde
                  have HT := Lib.hid (show V = 9 by
                    have h1 : Rc.tchE r i x j t = 9 := by rw [HTF.out, hb1 rfl]; exact if_neg hde
                    rw [HFL.out (by rw [h1]; decide), h1])
                  clear HFL HTN hb1 hb2 hde
                  go_wp2_with fail
                  first | go_ret3 | go_ret2 | go_ret
                  exact ⟨by rw [HT.out]; rfl, HB6.out⟩
          · have d1 : decide ((t.dig.length : Int) = 32) = false := decide_eq_false (by omega)
            have d2 : ((t.dig.length : Int) != 32) = true := by rw [bne_iff_ne]; omega
            have HT := Lib.hid (show V = 17 by
              have h1 : Rc.tchE r i x j t = 17 := by rw [HTC.out, hpo, if_neg (by decide), if_pos hdl]
              rw [HFL.out (by rw [h1]; decide), h1])
            clear hpo HFL HTN cT hdl
            go_wp2_with fail
            with_reducible refine cP.mono ?_
            rintro e w5 ⟨rfl, rfl⟩
            go_wp2_with fail
            first | go_ret3 | go_ret2 | go_ret
            exact ⟨by rw [HT.out]; rfl, HBT.out⟩
      · have m2 : decide ((j : Int) < (x.rds.length : Int)) = false := decide_eq_false (by omega)
        have m2n : decide (j < x.rds.length) = false := decide_eq_false hlt
        by_cases heq : j = x.rds.length
        · have m1 : decide ((j : Int) ≤ (x.rds.length : Int)) = true := decide_eq_true (by omega)
          have m1n : decide (j ≤ x.rds.length) = true := decide_eq_true (by omega)
          subst heq
          have hjt : x.rds.length < (Rc.tcs x).length := by rw [Rc.tcs_len]; omega
          have hget : (Rc.tcs x)[x.rds.length] = x.wr := by
            unfold Rc.tcs
            exact List.getElem_concat_length rfl _
          have HPT := Lib.hid (HP.out x.wr (List.mem_append_right _ (List.mem_singleton.2 rfl)))
          have HAX := Lib.hid (show x.A = x.A from rfl)
          obtain ⟨t, ht⟩ : ∃ t, t = x.wr := ⟨_, rfl⟩
          rw [← ht] at l4 l5 l5' hget HPT
          clear ht
          have hbt : Below w.heap.size w (wr.alloc (tcO t)) := hb.alloc hb.size _
          have HBT := Lib.hid hbt
          have htn := heap_alloc_new wr (tcO t)
          have hxt := (blk_alloc_lt wr (tcO t) _ hxl).trans hxr
          have cP := qPath_any (str t.pth) (wr.alloc (tcO t)) (by rw [str_size]; have := HPT.out; omega)
          rw [show (str t.pth).data.toList = t.pth from rfl] at cP
          have cT := qtouched_any r i t.pth (some ⟨g0, o, none⟩) c (wr.alloc (tcO t)) (HA.out.next hbt) (by omega)
          try rw [show ((0 : Nat) : Int) = 0 from rfl] at cT
          have HFL := Lib.hid (fun (h : Rc.tchE r i x x.rds.length t ≠ 0) => show V = Rc.tchE r i x x.rds.length t by
            rw [HVV.out]
            have := Rc.step_file HH.out hjt (fun k hk => HAL.out k (by omega) hk) (by rw [hget]; exact h)
            rw [hget] at this
            exact this)
          have HTN := Lib.hid (fun (h : Rc.tchE r i x x.rds.length t = 0) k (hk : k < (Rc.tcs x).length) (hkj : k < x.rds.length + 1) => show Rc.tchE r i x k (Rc.tcs x)[k] = 0 by
            by_cases e : k = x.rds.length
            · subst e; rw [hget]; exact h
            · exact HAL.out k hk (by omega))
          have HTC := Lib.hid (show Rc.tchE r i x x.rds.length t = if !Tre.pathOk t.pth then 2 else if t.dig.length ≠ 32 then 17 else if Rc.among x.rds x.rds.length t.pth || (decide (x.rds.length = x.rds.length) && (Rc.touched r i t.pth).isSome) then 6 else match Rc.touched r i t.pth with | some d => if d = t.dig then 0 else 9 | none => 0 from rfl)
          have hsz := str_size t.dig
          clear hget hb hbt
          cases hpo : Tre.pathOk t.pth with
          | false =>
            rw [hpo] at cP
            have HT := Lib.hid (show V = 2 by
              have h1 : Rc.tchE r i x x.rds.length t = 2 := by rw [HTC.out, hpo]; rfl
              rw [HFL.out (by rw [h1]; decide), h1])
            clear hpo HFL HTN cT
            go_wp2_with fail
            with_reducible refine cP.mono ?_
            rintro e w5 ⟨rfl, rfl⟩
            go_wp2_with fail
            first | go_ret3 | go_ret2 | go_ret
            exact ⟨by rw [HT.out]; rfl, HBT.out⟩
          | true =>
            rw [hpo] at cP
            by_cases hdl : t.dig.length = 32
            · have d1 : decide ((t.dig.length : Int) = 32) = true := by rw [hdl]; rfl
              have d2 : ((t.dig.length : Int) != 32) = false := by rw [hdl]; rfl
              have HTD := Lib.hid (show Rc.tchE r i x x.rds.length t = if Rc.among x.rds x.rds.length t.pth || (decide (x.rds.length = x.rds.length) && (Rc.touched r i t.pth).isSome) then 6 else match Rc.touched r i t.pth with | some d => if d = t.dig then 0 else 9 | none => 0 by rw [HTC.out, hpo, if_neg (by decide), if_neg (by rw [hdl]; decide)])
              clear hpo
              go_wp2_with fail
              with_reducible refine cP.mono ?_
              rintro e w5 ⟨rfl, rfl⟩
              clear cP
              go_wp2_with fail
              with_reducible refine cT.mono ?_
              clear cT
              rintro e w6 ⟨⟨d, bb, rfl, hb1, hb2⟩, hb6⟩
              have HB6 := Lib.hid (HBT.out.trans (hb6.mono HBT.out.size))
              have hx6 := (hb6.block _ (blk_lt hxt)).trans hxt
              have ht6 := (hb6.block _ (blk_lt htn)).trans htn
              have n3 : w6.cell? ⟨w.heap.size, 3, none⟩ = some (.slice x.A x.rds.length x.c) := by rw [cell_of_row _ _ _ _ _ _ hx6]; first | rfl | (rw [← HAX.out]; rfl)
              have t0 : w6.cell? ⟨wr.heap.size, 0, none⟩ = some (.string (str t.pth)) := by rw [cell_of_row _ _ _ _ _ _ ht6]; rfl
              have t1 : w6.cell? ⟨wr.heap.size, 1, none⟩ = some (.string (str t.dig)) := by rw [cell_of_row _ _ _ _ _ _ ht6]; rfl
              have cA := qamong_any x.rds x.rds.length t.pth (x.A) x.c w6 (by have := HRD.out; exact (this.keep HB6.out).mono HB6.out.size) (by omega) htl
              have HX6 := Lib.hid hx6
              clear hb6 hxt htn hx6 ht6
              have HTE := Lib.hid (show Rc.tchE r i x x.rds.length t = if Rc.among x.rds x.rds.length t.pth || (Rc.touched r i t.pth).isSome then 6 else match Rc.touched r i t.pth with | some d => if d = t.dig then 0 else 9 | none => 0 by rw [HTD.out]; simp)
              go_wp2_with fail
              with_reducible refine cA.mono ?_
              clear cA
              rintro e w7 ⟨⟨z, rfl, hz, _, _⟩, rfl⟩
              cases ham : Rc.among x.rds x.rds.length t.pth with
              | true =>
                rw [ham] at hz
                have HT := Lib.hid (show V = 6 by
                  have h1 : Rc.tchE r i x x.rds.length t = 6 := by rw [HTE.out, ham]; rfl
                  rw [HFL.out (by rw [h1]; decide), h1])
                clear ham HFL HTN hb1 hb2
                go_wp2_with fail
                first | go_ret3 | go_ret2 | go_ret
                exact ⟨by rw [HT.out]; rfl, HB6.out⟩
              | false =>
                rw [ham] at hz
                have HTF := Lib.hid (show Rc.tchE r i x x.rds.length t = if (Rc.touched r i t.pth).isSome then 6 else match Rc.touched r i t.pth with | some d => if d = t.dig then 0 else 9 | none => 0 by rw [HTE.out, ham]; rfl)
                clear ham
                cases bb with
                | false =>
                  have HN := Lib.hid (HTN.out (by rw [HTF.out, hb2 rfl]; first | done | rfl))
                  clear HFL HTN hb1 hb2
                  go_wp2_with fail
                  go_roundw
                  case rel => exact ⟨x.rds.length + 1, by go_num, by omega, HN.out, HX6.out, HB6.out⟩
                  case measure => simp [intOf]
                | true =>
                  have HT := Lib.hid (show V = 6 by
                    have h1 : Rc.tchE r i x x.rds.length t = 6 := by rw [HTF.out, hb1 rfl]; rfl
                    rw [HFL.out (by rw [h1]; decide), h1])
                  clear HFL HTN hb1 hb2
                  go_wp2_with fail
                  first | go_ret3 | go_ret2 | go_ret
                  exact ⟨by rw [HT.out]; rfl, HB6.out⟩
            · have d1 : decide ((t.dig.length : Int) = 32) = false := decide_eq_false (by omega)
              have d2 : ((t.dig.length : Int) != 32) = true := by rw [bne_iff_ne]; omega
              have HT := Lib.hid (show V = 17 by
                have h1 : Rc.tchE r i x x.rds.length t = 17 := by rw [HTC.out, hpo, if_neg (by decide), if_pos hdl]
                rw [HFL.out (by rw [h1]; decide), h1])
              clear hpo HFL HTN cT hdl
              go_wp2_with fail
              with_reducible refine cP.mono ?_
              rintro e w5 ⟨rfl, rfl⟩
              go_wp2_with fail
              first | go_ret3 | go_ret2 | go_ret
              exact ⟨by rw [HT.out]; rfl, HBT.out⟩
        · have m1 : decide ((j : Int) ≤ (x.rds.length : Int)) = false := decide_eq_false (by omega)
          have m1n : decide (j ≤ x.rds.length) = false := decide_eq_false (by omega)
          have HT := Lib.hid (show V = 0 by
            rw [HVV.out]
            exact Rc.step_zero HH.out fun k hk => HAL.out k hk (by rw [Rc.tcs_len] at hk; omega))
          clear hb
          go_wp2_with fail
          first | go_ret3 | go_ret2 | go_ret
          exact ⟨by rw [HT.out]; rfl, HB.out⟩
  · have HT := Lib.hid (show V = 1 by
      have h1 : Rc.headE r i x = 1 := by rw [Rc.head1 HR.out hq]; unfold Rc.isF; simp; omega
      rw [HVV.out, Rc.step_head (by rw [h1]; decide), h1])
    have hdb := hbx.drew
    clear HVV hq
    by_cases hz0 : x.rds.length = 0
    · have e0 : ((x.rds.length : Int) == 0) = true := by rw [beq_iff_eq]; omega
      clear hz0 hz
      go_enter Tryz.func73, Tryz.ntmps73
      go_upto_region 4 with (fail)
      go_quiet (fail)
      go_wp2_with fail
      first | go_ret3 | go_ret2 | go_ret
      exact ⟨by rw [HT.out]; rfl, by first | exact below_drewN hbx nq | exact hbx | exact hdb | exact ((Below.refl _ _).alloc (Nat.le_refl _) _).drew⟩
    · have e0 : ((x.rds.length : Int) == 0) = false := by rw [beq_eq_false_iff_ne]; omega
      have e1 : decide ((1024 : Int) < (x.rds.length : Int)) = true := decide_eq_true (by omega)
      have e1n : decide (1024 < x.rds.length) = true := decide_eq_true (by omega)
      clear hz
      go_enter Tryz.func73, Tryz.ntmps73
      go_upto_region 4 with (fail)
      go_quiet (fail)
      go_wp2_with fail
      first | go_ret3 | go_ret2 | go_ret
      exact ⟨by rw [HT.out]; rfl, by first | exact below_drewN hbx nq | exact hbx | exact hdb | exact ((Below.refl _ _).alloc (Nat.le_refl _) _).drew⟩
end Go.Proofs.YtjemffgidhgfjaaGreatDoor.Rk
end
section
namespace Go.Proofs.YtjemffgidhgfjaaGreatDoor.Rk
open Go.RowKit Go.Deep Tr
set_option maxHeartbeats 16000000 in
set_option maxRecDepth 100000 in
theorem qstep_l (r : List Dn) (i : Nat) (hi : i < r.length) (A : Option Addr) (c : Nat) (w : World) (hA : RcAt w A r) (hS : Sht r) (hR : (Rc.isF r[i].pkg 0 15 && Rc.isF r[i].lin 0 1023 && Rc.isF r[i].knd 1 8) = true) (h0 : 0 < i) (ho : Rc.ordE r i r[i] = false) (hp : ∀ b, r[i - 1]? = some b → r[i].pkg ≠ b.pkg) :
    Calls Tryz.prog 73 #[.slice A r.length c, .int .i64 i] w fun e w' => e = .returned (.int .i64 (Rc.stepE r i r[i])) ∧ Below w.heap.size w w' := by
  have HA := Lib.hid hA
  obtain ⟨g0, o, rfl, hg, hc⟩ := hA.st i hi
  have hd0 := hc 0 _ rfl
  have hd1 := hc 1 _ rfl
  have hd2 := hc 2 _ rfl
  have hd3 := hc 3 _ rfl
  have hd4 := hc 4 _ rfl
  have hd5 := hc 5 _ rfl
  rw [show o + i * 6 + 0 = o + i * 6 from rfl] at hd0
  have y2 : (i : Int) < (r.length : Int) := by omega
  have hrl := hA.rl
  have htl := hA.tl r[i] (List.getElem_mem hi)
  have HRD := Lib.hid (hA.rd r[i] (List.getElem_mem hi))
  have HP := Lib.hid (hS.p r[i] (List.getElem_mem hi))
  have hb00 : i - 1 < r.length := by omega
  obtain ⟨b, hbg, hcb⟩ : ∃ b, r[i - 1]? = some b ∧ ∀ k u, (Rc.dnV b)[k]? = some u → w.cell? ⟨g0, o + (i - 1) * 6 + k, none⟩ = some u := by
    obtain ⟨g1, o1, e1, _, hc1⟩ := hA.st (i - 1) hb00
    injection e1 with e1
    injection e1 with e1 e2 _
    subst e1 e2
    exact ⟨r[i - 1], List.getElem?_eq_getElem hb00, hc1⟩
  have hq0 : Rc.ordE r i r[i] = !Rc.fol r[i] b := by unfold Rc.ordE; rw [decide_eq_true h0, hbg, Bool.true_and]
  clear hb00
  have o2 := hp b hbg
  clear hp
  generalize r[i] = x at *
  clear hc hA hS
  have hbx : Below w.heap.size w (w.alloc (dnO x)) := (Below.refl _ _).alloc (Nat.le_refl _) _
  have hxn := heap_alloc_new w (dnO x)
  obtain ⟨V, hV⟩ : ∃ V, V = Rc.stepE r i x := ⟨_, rfl⟩
  rw [← hV]
  have HVV := Lib.hid hV
  clear hV
  have da1 : decide (x.pkg < 0) = false := decide_eq_false (by intro h; revert hR; unfold Rc.isF; simp; omega)
  have da2 : decide (16 ≤ x.pkg) = false := decide_eq_false (by intro h; revert hR; unfold Rc.isF; simp; omega)
  have da3 : decide (x.lin < 0) = false := decide_eq_false (by intro h; revert hR; unfold Rc.isF; simp; omega)
  have da4 : decide (1024 ≤ x.lin) = false := decide_eq_false (by intro h; revert hR; unfold Rc.isF; simp; omega)
  have da5 : decide (x.knd < 1) = false := decide_eq_false (by intro h; revert hR; unfold Rc.isF; simp; omega)
  have da6 : decide (8 < x.knd) = false := decide_eq_false (by intro h; revert hR; unfold Rc.isF; simp; omega)
  have HR := Lib.hid hR
  clear hR
  have b1 : decide ((0 : Int) < (i : Int)) = true := decide_eq_true (by omega)
  have b1n : decide (0 < i) = true := decide_eq_true h0
  clear hbg
  obtain ⟨jj, hjj⟩ : ∃ j, j = i - 1 := ⟨_, rfl⟩
  rw [← hjj] at hcb
  have wj : IntKind.i64.wrap ((i : Int) - 1) = (jj : Int) := (IntWalk.i64_in _ (by omega)).trans (by omega)
  have y1 : (jj : Int) < (r.length : Int) := by omega
  have k0 := (hbx.cell (p := ⟨g0, o + jj * 6, none⟩) hg).trans (hcb 0 _ rfl)
  have k1 := (hbx.cell (p := ⟨g0, o + jj * 6 + 1, none⟩) hg).trans (hcb 1 _ rfl)
  have k2 := (hbx.cell (p := ⟨g0, o + jj * 6 + 2, none⟩) hg).trans (hcb 2 _ rfl)
  have k3 := (hbx.cell (p := ⟨g0, o + jj * 6 + 3, none⟩) hg).trans (hcb 3 _ rfl)
  have k4 := (hbx.cell (p := ⟨g0, o + jj * 6 + 4, none⟩) hg).trans (hcb 4 _ rfl)
  have k5 := (hbx.cell (p := ⟨g0, o + jj * 6 + 5, none⟩) hg).trans (hcb 5 _ rfl)
  clear hcb hjj h0
  have hdb := hbx.drew
  have hq := ho
  have do1 : decide (x.pkg < b.pkg) = false := decide_eq_false (by
    rw [hq0] at ho; revert ho; unfold Rc.fol; rw [if_neg o2]; simp; omega)
  have do2 : (x.pkg == b.pkg) = false := by rw [beq_eq_false_iff_ne]; exact o2
  clear o2 hq0 ho
  by_cases hz : 0 < x.rds.length ∧ x.rds.length ≤ 1024
  · have e0 : ((x.rds.length : Int) == 0) = false := by rw [beq_eq_false_iff_ne]; omega
    have e1 : decide ((1024 : Int) < (x.rds.length : Int)) = false := decide_eq_false (by omega)
    have e1n : decide (1024 < x.rds.length) = false := decide_eq_false (by omega)
    have e2 : decide (x.rds.length = 0) = false := decide_eq_false (by omega)
    go_enter Tryz.func73, Tryz.ntmps73
    go_upto_region 4 with (fail)
    go_quiet (fail)
    go_wp2_with fail
    clear k0 k1 k2 k3 k4 k5
    have HX := Lib.hid hxn
    have HH := Lib.hid (show Rc.headE r i x = 0 by rw [Rc.head1 HR.out hq]; unfold Rc.isF; simp; omega)
    have HBX := Lib.hid hbx
    clear hd0 hd1 hd2 hd3 hd4 hd5 hbx hxn
    go_loopw [6] (fun s6 wr => ∃ j : Nat, s6 = .int .i64 j ∧ j ≤ x.rds.length + 1 ∧ (∀ k (h : k < (Rc.tcs x).length), k < j → Rc.tchE r i x k (Rc.tcs x)[k] = 0) ∧ wr.heap[w.heap.size]? = some (dnO x) ∧ Below w.heap.size w wr) (fun s6 _ => x.rds.length + 1 - (intOf s6).toNat)
    case atStart => exact ⟨0, rfl, Nat.zero_le _, fun k _ h => (by omega), HX.out, by first | exact below_drewN HBX.out nq | exact HBX.out | exact HBX.out.drew⟩
    case round =>
      obtain ⟨j, rfl, hj, hall, hxr, hb⟩ := hrel
      have HAL := Lib.hid hall
      have HB := Lib.hid hb
      have HXR := Lib.hid hxr
      clear hall
      have l3 : wr.cell? ⟨w.heap.size, 3, none⟩ = some (.slice x.A x.rds.length x.c) := by rw [cell_of_row _ _ _ _ _ _ hxr]; rfl
      have l4 : wr.cell? ⟨w.heap.size, 4, none⟩ = some (.string (str x.wr.pth)) := by rw [cell_of_row _ _ _ _ _ _ hxr]; rfl
      have l5 : wr.cell? ⟨w.heap.size, 5, none⟩ = some (.string (str x.wr.dig)) := by rw [cell_of_row _ _ _ _ _ _ hxr]; rfl
      have l5' : wr.cell? ⟨w.heap.size, 4 + 1, none⟩ = some (.string (str x.wr.dig)) := l5
      have hxl := blk_lt hxr
      by_cases hlt : j < x.rds.length
      · have m1 : decide ((j : Int) ≤ (x.rds.length : Int)) = true := decide_eq_true (by omega)
        have m1n : decide (j ≤ x.rds.length) = true := decide_eq_true (by omega)
        have m2 : decide ((j : Int) < (x.rds.length : Int)) = true := decide_eq_true (by omega)
        have m2n : decide (j < x.rds.length) = true := decide_eq_true hlt
        have y3 : (j : Int) < (x.rds.length : Int) := by omega
        obtain ⟨g1, o1, hxA, hg1, hc1⟩ := HRD.out j hlt
        rw [hxA] at l3
        have HAX := Lib.hid hxA
        clear hxA
        have e0 := (hb.cell (p := ⟨g1, o1 + j * 2 + 0, none⟩) hg1).trans (hc1 0 _ rfl)
        have e1 := (hb.cell (p := ⟨g1, o1 + j * 2 + 1, none⟩) hg1).trans (hc1 1 _ rfl)
        rw [show o1 + j * 2 + 0 = o1 + j * 2 from rfl] at e0
        have hbw : Below w.heap.size w (wr.alloc (tcO x.wr)) := hb.alloc hb.size _
        have e0a := (hbw.cell (p := ⟨g1, o1 + j * 2 + 0, none⟩) hg1).trans (hc1 0 _ rfl)
        have e1a := (hbw.cell (p := ⟨g1, o1 + j * 2 + 1, none⟩) hg1).trans (hc1 1 _ rfl)
        rw [show o1 + j * 2 + 0 = o1 + j * 2 from rfl] at e0a
        have hjt : j < (Rc.tcs x).length := by rw [Rc.tcs_len]; omega
        have hget := Rc.tcs_get hlt hjt
        have HPT := Lib.hid (HP.out x.rds[j] (List.mem_append_left _ (List.getElem_mem hlt)))
        clear hc1 hbw
        generalize x.rds[j] = t at *
        have hbt : Below w.heap.size w (wr.alloc (tcO t)) := hb.alloc hb.size _
        have HBT := Lib.hid hbt
        have htn := heap_alloc_new wr (tcO t)
        have hxt := (blk_alloc_lt wr (tcO t) _ hxl).trans hxr
        have cP := qPath_any (str t.pth) (wr.alloc (tcO t)) (by rw [str_size]; have := HPT.out; omega)
        rw [show (str t.pth).data.toList = t.pth from rfl] at cP
        have cT := qtouched_any r i t.pth (some ⟨g0, o, none⟩) c (wr.alloc (tcO t)) (HA.out.next hbt) (by omega)
        try rw [show ((0 : Nat) : Int) = 0 from rfl] at cT
        have HFL := Lib.hid (fun (h : Rc.tchE r i x j t ≠ 0) => show V = Rc.tchE r i x j t by
          rw [HVV.out]
          have := Rc.step_file HH.out hjt (fun k hk => HAL.out k (by omega) hk) (by rw [hget]; exact h)
          rw [hget] at this
          exact this)
        have HTN := Lib.hid (fun (h : Rc.tchE r i x j t = 0) k (hk : k < (Rc.tcs x).length) (hkj : k < j + 1) => show Rc.tchE r i x k (Rc.tcs x)[k] = 0 by
          by_cases e : k = j
          · subst e; rw [hget]; exact h
          · exact HAL.out k hk (by omega))
        have HTC := Lib.hid (show Rc.tchE r i x j t = if !Tre.pathOk t.pth then 2 else if t.dig.length ≠ 32 then 17 else if Rc.among x.rds j t.pth || (decide (j = x.rds.length) && (Rc.touched r i t.pth).isSome) then 6 else match Rc.touched r i t.pth with | some d => if d = t.dig then 0 else 9 | none => 0 from rfl)
        have hsz := str_size t.dig
        clear hget hb hbt
        cases hpo : Tre.pathOk t.pth with
        | false =>
          rw [hpo] at cP
          have HT := Lib.hid (show V = 2 by
            have h1 : Rc.tchE r i x j t = 2 := by rw [HTC.out, hpo]; rfl
            rw [HFL.out (by rw [h1]; decide), h1])
          clear hpo HFL HTN cT
          go_wp2_with fail
          with_reducible refine cP.mono ?_
          rintro e w5 ⟨rfl, rfl⟩
          go_wp2_with fail
          first | go_ret3 | go_ret2 | go_ret
          exact ⟨by rw [HT.out]; rfl, HBT.out⟩
        | true =>
          rw [hpo] at cP
          by_cases hdl : t.dig.length = 32
          · have d1 : decide ((t.dig.length : Int) = 32) = true := by rw [hdl]; rfl
            have d2 : ((t.dig.length : Int) != 32) = false := by rw [hdl]; rfl
            have HTD := Lib.hid (show Rc.tchE r i x j t = if Rc.among x.rds j t.pth || (decide (j = x.rds.length) && (Rc.touched r i t.pth).isSome) then 6 else match Rc.touched r i t.pth with | some d => if d = t.dig then 0 else 9 | none => 0 by rw [HTC.out, hpo, if_neg (by decide), if_neg (by rw [hdl]; decide)])
            clear hpo
            go_wp2_with fail
            with_reducible refine cP.mono ?_
            rintro e w5 ⟨rfl, rfl⟩
            clear cP
            go_wp2_with fail
            with_reducible refine cT.mono ?_
            clear cT
            rintro e w6 ⟨⟨d, bb, rfl, hb1, hb2⟩, hb6⟩
            have HB6 := Lib.hid (HBT.out.trans (hb6.mono HBT.out.size))
            have hx6 := (hb6.block _ (blk_lt hxt)).trans hxt
            have ht6 := (hb6.block _ (blk_lt htn)).trans htn
            have n3 : w6.cell? ⟨w.heap.size, 3, none⟩ = some (.slice (some ⟨g1, o1, none⟩) x.rds.length x.c) := by rw [cell_of_row _ _ _ _ _ _ hx6]; first | rfl | (rw [← HAX.out]; rfl)
            have t0 : w6.cell? ⟨wr.heap.size, 0, none⟩ = some (.string (str t.pth)) := by rw [cell_of_row _ _ _ _ _ _ ht6]; rfl
            have t1 : w6.cell? ⟨wr.heap.size, 1, none⟩ = some (.string (str t.dig)) := by rw [cell_of_row _ _ _ _ _ _ ht6]; rfl
            have cA := qamong_any x.rds j t.pth ((some ⟨g1, o1, none⟩)) x.c w6 (by have := HRD.out; rw [HAX.out] at this; exact (this.keep HB6.out).mono HB6.out.size) (by omega) htl
            have HX6 := Lib.hid hx6
            clear hb6 hxt htn hx6 ht6
            have m3 : ((j : Int) == (x.rds.length : Int)) = false := by rw [beq_eq_false_iff_ne]; omega
            have HTE := Lib.hid (show Rc.tchE r i x j t = if Rc.among x.rds j t.pth then 6 else match Rc.touched r i t.pth with | some d => if d = t.dig then 0 else 9 | none => 0 by rw [HTD.out, decide_eq_false (by omega : ¬ j = x.rds.length), Bool.false_and, Bool.or_false])
            go_wp2_with fail
            with_reducible refine cA.mono ?_
            clear cA
            rintro e w7 ⟨⟨z, rfl, hz, _, _⟩, rfl⟩
            cases ham : Rc.among x.rds j t.pth with
            | true =>
              rw [ham] at hz
              have HT := Lib.hid (show V = 6 by
                have h1 : Rc.tchE r i x j t = 6 := by rw [HTE.out, ham]; rfl
                rw [HFL.out (by rw [h1]; decide), h1])
              clear ham HFL HTN hb1 hb2
              go_wp2_with fail
              first | go_ret3 | go_ret2 | go_ret
              exact ⟨by rw [HT.out]; rfl, HB6.out⟩
            | false =>
              rw [ham] at hz
              have HTF := Lib.hid (show Rc.tchE r i x j t = match Rc.touched r i t.pth with | some d => if d = t.dig then 0 else 9 | none => 0 by rw [HTE.out, ham]; rfl)
              clear ham
              cases bb with
              | false =>
                have HN := Lib.hid (HTN.out (by rw [HTF.out, hb2 rfl]))
                clear HFL HTN hb1 hb2
                go_wp2_with fail
                go_roundw
                case rel => exact ⟨j + 1, by go_num, by omega, HN.out, HX6.out, HB6.out⟩
                case measure => simp [intOf]; omega
              | true =>
                by_cases hde : d = t.dig
                · have n1 : ((str d).toList == (str t.dig).toList) = true := by rw [strL, strL, beq_iff_eq]; exact hde
                  have HN := Lib.hid (HTN.out (by rw [HTF.out, hb1 rfl]; exact if_pos hde))
                  clear HFL HTN hb1 hb2 hde
                  go_wp2_with fail
                  go_roundw
                  case rel => exact ⟨j + 1, by go_num, by omega, HN.out, HX6.out, HB6.out⟩
                  case measure => simp [intOf]; omega
                · have n1 : ((str d).toList == (str t.dig).toList) = false := by rw [strL, strL, beq_eq_false_iff_ne]; exact hde
                  have HT := Lib.hid (show V = 9 by
                    have h1 : Rc.tchE r i x j t = 9 := by rw [HTF.out, hb1 rfl]; exact if_neg hde
                    rw [HFL.out (by rw [h1]; decide), h1])
                  clear HFL HTN hb1 hb2 hde
                  go_wp2_with fail
                  first | go_ret3 | go_ret2 | go_ret
                  exact ⟨by rw [HT.out]; rfl, HB6.out⟩
          · have d1 : decide ((t.dig.length : Int) = 32) = false := decide_eq_false (by omega)
            have d2 : ((t.dig.length : Int) != 32) = true := by rw [bne_iff_ne]; omega
            have HT := Lib.hid (show V = 17 by
              have h1 : Rc.tchE r i x j t = 17 := by rw [HTC.out, hpo, if_neg (by decide), if_pos hdl]
              rw [HFL.out (by rw [h1]; decide), h1])
            clear hpo HFL HTN cT hdl
            go_wp2_with fail
            with_reducible refine cP.mono ?_
            rintro e w5 ⟨rfl, rfl⟩
            go_wp2_with fail
            first | go_ret3 | go_ret2 | go_ret
            exact ⟨by rw [HT.out]; rfl, HBT.out⟩
      · have m2 : decide ((j : Int) < (x.rds.length : Int)) = false := decide_eq_false (by omega)
        have m2n : decide (j < x.rds.length) = false := decide_eq_false hlt
        by_cases heq : j = x.rds.length
        · have m1 : decide ((j : Int) ≤ (x.rds.length : Int)) = true := decide_eq_true (by omega)
          have m1n : decide (j ≤ x.rds.length) = true := decide_eq_true (by omega)
          subst heq
          have hjt : x.rds.length < (Rc.tcs x).length := by rw [Rc.tcs_len]; omega
          have hget : (Rc.tcs x)[x.rds.length] = x.wr := by
            unfold Rc.tcs
            exact List.getElem_concat_length rfl _
          have HPT := Lib.hid (HP.out x.wr (List.mem_append_right _ (List.mem_singleton.2 rfl)))
          have HAX := Lib.hid (show x.A = x.A from rfl)
          obtain ⟨t, ht⟩ : ∃ t, t = x.wr := ⟨_, rfl⟩
          rw [← ht] at l4 l5 l5' hget HPT
          clear ht
          have hbt : Below w.heap.size w (wr.alloc (tcO t)) := hb.alloc hb.size _
          have HBT := Lib.hid hbt
          have htn := heap_alloc_new wr (tcO t)
          have hxt := (blk_alloc_lt wr (tcO t) _ hxl).trans hxr
          have cP := qPath_any (str t.pth) (wr.alloc (tcO t)) (by rw [str_size]; have := HPT.out; omega)
          rw [show (str t.pth).data.toList = t.pth from rfl] at cP
          have cT := qtouched_any r i t.pth (some ⟨g0, o, none⟩) c (wr.alloc (tcO t)) (HA.out.next hbt) (by omega)
          try rw [show ((0 : Nat) : Int) = 0 from rfl] at cT
          have HFL := Lib.hid (fun (h : Rc.tchE r i x x.rds.length t ≠ 0) => show V = Rc.tchE r i x x.rds.length t by
            rw [HVV.out]
            have := Rc.step_file HH.out hjt (fun k hk => HAL.out k (by omega) hk) (by rw [hget]; exact h)
            rw [hget] at this
            exact this)
          have HTN := Lib.hid (fun (h : Rc.tchE r i x x.rds.length t = 0) k (hk : k < (Rc.tcs x).length) (hkj : k < x.rds.length + 1) => show Rc.tchE r i x k (Rc.tcs x)[k] = 0 by
            by_cases e : k = x.rds.length
            · subst e; rw [hget]; exact h
            · exact HAL.out k hk (by omega))
          have HTC := Lib.hid (show Rc.tchE r i x x.rds.length t = if !Tre.pathOk t.pth then 2 else if t.dig.length ≠ 32 then 17 else if Rc.among x.rds x.rds.length t.pth || (decide (x.rds.length = x.rds.length) && (Rc.touched r i t.pth).isSome) then 6 else match Rc.touched r i t.pth with | some d => if d = t.dig then 0 else 9 | none => 0 from rfl)
          have hsz := str_size t.dig
          clear hget hb hbt
          cases hpo : Tre.pathOk t.pth with
          | false =>
            rw [hpo] at cP
            have HT := Lib.hid (show V = 2 by
              have h1 : Rc.tchE r i x x.rds.length t = 2 := by rw [HTC.out, hpo]; rfl
              rw [HFL.out (by rw [h1]; decide), h1])
            clear hpo HFL HTN cT
            go_wp2_with fail
            with_reducible refine cP.mono ?_
            rintro e w5 ⟨rfl, rfl⟩
            go_wp2_with fail
            first | go_ret3 | go_ret2 | go_ret
            exact ⟨by rw [HT.out]; rfl, HBT.out⟩
          | true =>
            rw [hpo] at cP
            by_cases hdl : t.dig.length = 32
            · have d1 : decide ((t.dig.length : Int) = 32) = true := by rw [hdl]; rfl
              have d2 : ((t.dig.length : Int) != 32) = false := by rw [hdl]; rfl
              have HTD := Lib.hid (show Rc.tchE r i x x.rds.length t = if Rc.among x.rds x.rds.length t.pth || (decide (x.rds.length = x.rds.length) && (Rc.touched r i t.pth).isSome) then 6 else match Rc.touched r i t.pth with | some d => if d = t.dig then 0 else 9 | none => 0 by rw [HTC.out, hpo, if_neg (by decide), if_neg (by rw [hdl]; decide)])
              clear hpo
              go_wp2_with fail
              with_reducible refine cP.mono ?_
              rintro e w5 ⟨rfl, rfl⟩
              clear cP
              go_wp2_with fail
              with_reducible refine cT.mono ?_
              clear cT
              rintro e w6 ⟨⟨d, bb, rfl, hb1, hb2⟩, hb6⟩
              have HB6 := Lib.hid (HBT.out.trans (hb6.mono HBT.out.size))
              have hx6 := (hb6.block _ (blk_lt hxt)).trans hxt
              have ht6 := (hb6.block _ (blk_lt htn)).trans htn
              have n3 : w6.cell? ⟨w.heap.size, 3, none⟩ = some (.slice x.A x.rds.length x.c) := by rw [cell_of_row _ _ _ _ _ _ hx6]; first | rfl | (rw [← HAX.out]; rfl)
              have t0 : w6.cell? ⟨wr.heap.size, 0, none⟩ = some (.string (str t.pth)) := by rw [cell_of_row _ _ _ _ _ _ ht6]; rfl
              have t1 : w6.cell? ⟨wr.heap.size, 1, none⟩ = some (.string (str t.dig)) := by rw [cell_of_row _ _ _ _ _ _ ht6]; rfl
              have cA := qamong_any x.rds x.rds.length t.pth (x.A) x.c w6 (by have := HRD.out; exact (this.keep HB6.out).mono HB6.out.size) (by omega) htl
              have HX6 := Lib.hid hx6
              clear hb6 hxt htn hx6 ht6
              have HTE := Lib.hid (show Rc.tchE r i x x.rds.length t = if Rc.among x.rds x.rds.length t.pth || (Rc.touched r i t.pth).isSome then 6 else match Rc.touched r i t.pth with | some d => if d = t.dig then 0 else 9 | none => 0 by rw [HTD.out]; simp)
              go_wp2_with fail
              with_reducible refine cA.mono ?_
              clear cA
              rintro e w7 ⟨⟨z, rfl, hz, _, _⟩, rfl⟩
              cases ham : Rc.among x.rds x.rds.length t.pth with
              | true =>
                rw [ham] at hz
                have HT := Lib.hid (show V = 6 by
                  have h1 : Rc.tchE r i x x.rds.length t = 6 := by rw [HTE.out, ham]; rfl
                  rw [HFL.out (by rw [h1]; decide), h1])
                clear ham HFL HTN hb1 hb2
                go_wp2_with fail
                first | go_ret3 | go_ret2 | go_ret
                exact ⟨by rw [HT.out]; rfl, HB6.out⟩
              | false =>
                rw [ham] at hz
                have HTF := Lib.hid (show Rc.tchE r i x x.rds.length t = if (Rc.touched r i t.pth).isSome then 6 else match Rc.touched r i t.pth with | some d => if d = t.dig then 0 else 9 | none => 0 by rw [HTE.out, ham]; rfl)
                clear ham
                cases bb with
                | false =>
                  have HN := Lib.hid (HTN.out (by rw [HTF.out, hb2 rfl]; first | done | rfl))
                  clear HFL HTN hb1 hb2
                  go_wp2_with fail
                  go_roundw
                  case rel => exact ⟨x.rds.length + 1, by go_num, by omega, HN.out, HX6.out, HB6.out⟩
                  case measure => simp [intOf]
                | true =>
                  have HT := Lib.hid (show V = 6 by
                    have h1 : Rc.tchE r i x x.rds.length t = 6 := by rw [HTF.out, hb1 rfl]; rfl
                    rw [HFL.out (by rw [h1]; decide), h1])
                  clear HFL HTN hb1 hb2
                  go_wp2_with fail
                  first | go_ret3 | go_ret2 | go_ret
                  exact ⟨by rw [HT.out]; rfl, HB6.out⟩
            · have d1 : decide ((t.dig.length : Int) = 32) = false := decide_eq_false (by omega)
              have d2 : ((t.dig.length : Int) != 32) = true := by rw [bne_iff_ne]; omega
              have HT := Lib.hid (show V = 17 by
                have h1 : Rc.tchE r i x x.rds.length t = 17 := by rw [HTC.out, hpo, if_neg (by decide), if_pos hdl]
                rw [HFL.out (by rw [h1]; decide), h1])
              clear hpo HFL HTN cT hdl
              go_wp2_with fail
              with_reducible refine cP.mono ?_
              rintro e w5 ⟨rfl, rfl⟩
              go_wp2_with fail
              first | go_ret3 | go_ret2 | go_ret
              exact ⟨by rw [HT.out]; rfl, HBT.out⟩
        · have m1 : decide ((j : Int) ≤ (x.rds.length : Int)) = false := decide_eq_false (by omega)
          have m1n : decide (j ≤ x.rds.length) = false := decide_eq_false (by omega)
          have HT := Lib.hid (show V = 0 by
            rw [HVV.out]
            exact Rc.step_zero HH.out fun k hk => HAL.out k hk (by rw [Rc.tcs_len] at hk; omega))
          clear hb
          go_wp2_with fail
          first | go_ret3 | go_ret2 | go_ret
          exact ⟨by rw [HT.out]; rfl, HB.out⟩
  · have HT := Lib.hid (show V = 1 by
      have h1 : Rc.headE r i x = 1 := by rw [Rc.head1 HR.out hq]; unfold Rc.isF; simp; omega
      rw [HVV.out, Rc.step_head (by rw [h1]; decide), h1])
    have hdb := hbx.drew
    clear HVV hq
    by_cases hz0 : x.rds.length = 0
    · have e0 : ((x.rds.length : Int) == 0) = true := by rw [beq_iff_eq]; omega
      clear hz0 hz
      go_enter Tryz.func73, Tryz.ntmps73
      go_upto_region 4 with (fail)
      go_quiet (fail)
      go_wp2_with fail
      first | go_ret3 | go_ret2 | go_ret
      exact ⟨by rw [HT.out]; rfl, by first | exact below_drewN hbx nq | exact hbx | exact hdb | exact ((Below.refl _ _).alloc (Nat.le_refl _) _).drew⟩
    · have e0 : ((x.rds.length : Int) == 0) = false := by rw [beq_eq_false_iff_ne]; omega
      have e1 : decide ((1024 : Int) < (x.rds.length : Int)) = true := decide_eq_true (by omega)
      have e1n : decide (1024 < x.rds.length) = true := decide_eq_true (by omega)
      clear hz
      go_enter Tryz.func73, Tryz.ntmps73
      go_upto_region 4 with (fail)
      go_quiet (fail)
      go_wp2_with fail
      first | go_ret3 | go_ret2 | go_ret
      exact ⟨by rw [HT.out]; rfl, by first | exact below_drewN hbx nq | exact hbx | exact hdb | exact ((Below.refl _ _).alloc (Nat.le_refl _) _).drew⟩
end Go.Proofs.YtjemffgidhgfjaaGreatDoor.Rk
end
