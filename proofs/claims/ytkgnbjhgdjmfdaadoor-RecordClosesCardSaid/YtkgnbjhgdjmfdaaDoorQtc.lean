/- among and touched of the reference. -/
import Derived.Test.YtkgnbjhgdjmfdaaDoorChk
namespace Go.Proofs.YtkgnbjhgdjmfdaaDoor
open Go.RowKit Go.Deep Tr

namespace Rc
theorem touched_some {r : List Dn} {p : List UInt8} {d : List UInt8} : ∀ {m n : Nat}, m ≤ n → touched r m p = some d → touched r n p = some d := fun {m n} h ht => by
  induction h with
  | refl => exact ht
  | @step k hk ih =>
    by_cases hi : k < r.length
    · rw [touched_succ hi, ih]
    · unfold touched at ih ⊢
      rw [List.take_of_length_le (by omega)] at ih ⊢
      exact ih
theorem touched_all {r : List Dn} {p : List UInt8} {n : Nat} (h : r.length ≤ n) : touched r n p = touched r r.length p := by
  unfold touched
  rw [List.take_of_length_le h, List.take_length]
end Rc
namespace Rc
/-- Where a path stands in the first n; -1 if it does not. -/
def amI (l : List Tch) (n : Nat) (p : List UInt8) : Int := match (l.take n).findIdx? (fun t => t.pth == p) with | some i => (i : Int) | none => -1
theorem amI_some {l : List Tch} {n k : Nat} {p : List UInt8} (hn : n ≤ l.length) (hk : k < n) (hb : (l.take k).any (fun t => t.pth == p) = false) (h : ((l[k]'(by omega)).pth == p) = true) : amI l n p = (k : Int) := by
  have e : (l.take n).findIdx? (fun t => t.pth == p) = some k := by
    rw [List.findIdx?_eq_some_iff_getElem]
    refine ⟨by rw [List.length_take]; omega, by rw [List.getElem_take]; exact h, fun j hj => ?_⟩
    rw [List.getElem_take]
    intro hc
    have : (l.take k).any (fun t => t.pth == p) = true := List.any_eq_true.2 ⟨l[j]'(by omega), List.mem_take_iff_getElem.2 ⟨j, by omega, rfl⟩, hc⟩
    rw [hb] at this; cases this
  unfold amI
  rw [e]
theorem amI_none {l : List Tch} {n : Nat} {p : List UInt8} (hb : (l.take n).any (fun t => t.pth == p) = false) : amI l n p = -1 := by
  have e : (l.take n).findIdx? (fun t => t.pth == p) = none := by
    rw [List.findIdx?_eq_none_iff]
    intro t ht
    cases h : (t.pth == p) with
    | false => rfl
    | true => rw [List.any_eq_true.2 ⟨t, ht, h⟩] at hb; cases hb
  unfold amI
  rw [e]
theorem amI_iff (l : List Tch) (n : Nat) (p : List UInt8) : decide (0 ≤ amI l n p) = among l n p ∧ -1 ≤ amI l n p ∧ amI l n p ≤ l.length := by
  unfold amI among
  cases h : (l.take n).findIdx? (fun t => t.pth == p) with
  | none =>
    rw [List.findIdx?_eq_none_iff] at h
    have : (l.take n).any (fun t => t.pth == p) = false := by
      rw [List.any_eq_false]; intro t ht; have := h t ht; simpa using this
    rw [this]
    dsimp only
    exact ⟨rfl, by omega, by omega⟩
  | some i =>
    obtain ⟨h1, h2, _⟩ := List.findIdx?_eq_some_iff_getElem.1 h
    rw [List.any_eq_true.2 ⟨_, List.getElem_mem h1, h2⟩]
    rw [List.length_take] at h1
    dsimp only
    exact ⟨decide_eq_true (by omega), by omega, by omega⟩
end Rc
set_option maxHeartbeats 4000000 in
set_option maxRecDepth 100000 in
theorem qamongI_any (l : List Tch) (n : Nat) (p : List UInt8) (A : Option Addr) (c : Nat) (w : World) (hA : Rc.TcAt w w.heap.size A l) (hn : n ≤ l.length) (hl : l.length ≤ 140737488351232) :
    Calls Tryd.prog 40 #[.slice A l.length c, .int .i64 (n : Int), .string (str p)] w fun e w' => e = .returned (.int .i64 (Rc.amI l n p)) ∧ w' = w := by
  have HA := Lib.hid hA
  have HY := Lib.hid (fun (k : Nat) (hk : k < n) (hb : (l.take k).any (fun t => t.pth == p) = false) (h : ((l[k]'(by omega)).pth == p) = true) => Rc.amI_some hn hk hb h)
  have HN := Lib.hid (fun (hb : (l.take n).any (fun t => t.pth == p) = false) => Rc.amI_none hb)
  generalize Rc.amI l n p = V at *
  clear hA
  go_enter Tryd.func40, Tryd.ntmps40
  go_wp2_with fail
  go_loopw [7] (fun s4 wr => ∃ k : Nat, s4 = .int .i64 k ∧ k ≤ n ∧ (l.take k).any (fun t => t.pth == p) = false ∧ wr = w) (fun s4 _ => n - (intOf s4).toNat)
  case atStart => exact ⟨0, rfl, Nat.zero_le _, by simp, rfl⟩
  case round =>
    obtain ⟨k, rfl, hk, hall, hw⟩ := hrel
    have HW := Lib.hid hw
    have HAL := Lib.hid hall
    clear hall hw
    by_cases hlt : k < n
    · have c1 : decide ((k : Int) < (n : Int)) = true := decide_eq_true (by omega)
      have c1n : decide (k < n) = true := decide_eq_true hlt
      have y1 : (k : Int) < (l.length : Int) := by omega
      have hkl : k < l.length := by omega
      obtain ⟨g, o, rfl, hg, hc⟩ := HA.out k hkl
      have hd0 := hc 0 _ rfl
      rw [show o + k * 2 + 0 = o + k * 2 from rfl] at hd0
      rw [← HW.out] at hd0
      clear hc
      have HNO := Lib.hid (show (l[k].pth == p) = false → (l.take (k + 1)).any (fun t => t.pth == p) = false from fun h => by
        rw [List.take_succ_eq_append_getElem hkl, List.any_append, HAL.out]; simp [h])
      have HYES := Lib.hid (show (l[k].pth == p) = true → V = (k : Int) from fun h => HY.out k hlt HAL.out h)
      generalize l[k] = t at *
      have hv : ((str t.pth).toList == (str p).toList) = (t.pth == p) := by rw [strL, strL]
      cases he : t.pth == p with
      | true =>
        rw [he] at hv
        have HT := Lib.hid (HYES.out he)
        clear HNO HYES he
        go_wp2_with fail
        first | go_ret2 | go_ret
        exact ⟨by rw [HT.out]; rfl, HW.out⟩
      | false =>
        rw [he] at hv
        have HT := Lib.hid (HNO.out he)
        clear HNO HYES he
        go_wp2_with fail
        go_roundw
        case rel => exact ⟨k + 1, by go_num, by omega, HT.out, HW.out⟩
        case measure => simp [intOf]; omega
    · have c1 : decide ((k : Int) < (n : Int)) = false := decide_eq_false (by omega)
      have c1n : decide (k < n) = false := decide_eq_false hlt
      have HT := Lib.hid (show V = -1 from HN.out (by
        have hkn : k = n := by omega
        subst hkn
        exact HAL.out))
      go_wp2_with fail
      go_ret
      exact ⟨by rw [HT.out]; rfl, HW.out⟩
theorem qamong_any (l : List Tch) (n : Nat) (p : List UInt8) (A : Option Addr) (c : Nat) (w : World) (hA : Rc.TcAt w w.heap.size A l) (hn : n ≤ l.length) (hl : l.length ≤ 140737488351232) :
    Calls Tryd.prog 40 #[.slice A l.length c, .int .i64 (n : Int), .string (str p)] w fun e w' => (∃ z : Int, e = .returned (.int .i64 z) ∧ decide (0 ≤ z) = Rc.among l n p ∧ -1 ≤ z ∧ z ≤ 140737488351232) ∧ w = w' :=
  (qamongI_any l n p A c w hA hn hl).mono fun e w' h => by
    obtain ⟨h1, h2, h3⟩ := Rc.amI_iff l n p
    exact ⟨⟨_, h.1, h1, h2, by omega⟩, h.2.symm⟩
set_option maxHeartbeats 8000000 in
set_option maxRecDepth 100000 in
theorem qtouched_any (r : List Dn) (n : Nat) (p : List UInt8) (A : Option Addr) (c : Nat) (w : World) (hA : RcAt w A r) (hn : n ≤ r.length) :
    Calls Tryd.prog 53 #[.slice A r.length c, .int .i64 (n : Int), .string (str p)] w fun e w' => (∃ (d : List UInt8) (b : Bool), e = .returned (.tuple #[.string (str d), .bool b]) ∧ (b = true → Rc.touched r n p = some d) ∧ (b = false → Rc.touched r n p = none)) ∧ Below w.heap.size w w' := by
  have HA := Lib.hid hA
  have hrl := hA.rl
  clear hA
  go_enter Tryd.func53, Tryd.ntmps53
  go_wp2_with fail
  go_loopw [8] (fun s8 wr => ∃ k : Nat, s8 = .int .i64 k ∧ k ≤ n ∧ Rc.touched r k p = none ∧ Below w.heap.size w wr) (fun s8 _ => n - (intOf s8).toNat)
  case atStart => exact ⟨0, rfl, Nat.zero_le _, rfl, Below.refl _ _⟩
  case round =>
    obtain ⟨k, rfl, hk, htn, hb⟩ := hrel
    have HTN := Lib.hid htn
    clear htn
    by_cases hlt : k < n
    · have c1 : decide ((k : Int) < (n : Int)) = true := decide_eq_true (by omega)
      have c1n : decide (k < n) = true := decide_eq_true hlt
      have c2 : decide ((k : Int) < (r.length : Int)) = true := decide_eq_true (by omega)
      have c2n : decide (k < r.length) = true := decide_eq_true (by omega)
      have y1 : (k : Int) < (r.length : Int) := by omega
      have hkr : k < r.length := by omega
      obtain ⟨g0, o, rfl, hg, hc⟩ := HA.out.st k hkr
      have HC := Lib.hid hc
      have hmem := List.getElem_mem hkr
      have HRD := Lib.hid (HA.out.rd r[k] hmem)
      have htl := HA.out.tl r[k] hmem
      have HSC := Lib.hid (Rc.touched_succ hkr p)
      rw [HTN.out] at HSC
      have HUP := Lib.hid (fun d (h : Rc.touched r (k + 1) p = some d) => Rc.touched_some (n := n) (by omega) h)
      clear hc hmem
      generalize r[k] = x at *
      have HBO := Lib.hid hb
      go_wp2_with fail
      go_loopw [9] (fun s9 wr => ∃ j : Nat, s9 = .int .i64 j ∧ j ≤ x.rds.length ∧ (x.rds.take j).find? (fun t => t.pth == p) = none ∧ Below w.heap.size w wr) (fun s9 _ => x.rds.length - (intOf s9).toNat)
      case atStart => exact ⟨0, rfl, Nat.zero_le _, rfl, by first | exact hb | exact hb.drew⟩
      case round =>
        obtain ⟨j, rfl, hj, hnf, hbj⟩ := hrel
        have HNF := Lib.hid hnf
        have HBJ := Lib.hid hbj
        clear hnf
        have hd3 := (hbj.cell (p := ⟨g0, o + k * 6 + 3, none⟩) hg).trans (HC.out 3 _ rfl)
        have hd4 := (hbj.cell (p := ⟨g0, o + k * 6 + 4, none⟩) hg).trans (HC.out 4 _ rfl)
        have hd5 := (hbj.cell (p := ⟨g0, o + k * 6 + 5, none⟩) hg).trans (HC.out 5 _ rfl)
        by_cases hlj : j < x.rds.length
        · have d1 : decide ((j : Int) < (x.rds.length : Int)) = true := decide_eq_true (by omega)
          have d1n : decide (j < x.rds.length) = true := decide_eq_true hlj
          have y3 : (j : Int) < (x.rds.length : Int) := by omega
          obtain ⟨g1, o1, hxA, hg1, hc1⟩ := HRD.out j hlj
          rw [hxA] at hd3
          have e0 := (hbj.cell (p := ⟨g1, o1 + j * 2 + 0, none⟩) hg1).trans (hc1 0 _ rfl)
          have e1 := (hbj.cell (p := ⟨g1, o1 + j * 2 + 1, none⟩) hg1).trans (hc1 1 _ rfl)
          rw [show o1 + j * 2 + 0 = o1 + j * 2 from rfl] at e0
          have HNO := Lib.hid (show (x.rds[j].pth == p) = false → (x.rds.take (j + 1)).find? (fun t => t.pth == p) = none from fun h => by
            rw [List.take_succ_eq_append_getElem hlj, List.find?_append, HNF.out]; simp [h])
          have HYES := Lib.hid (show (x.rds[j].pth == p) = true → Rc.touched r n p = some x.rds[j].dig from fun h => HUP.out _ (by
            rw [HSC.out]
            have h2 : (Rc.tcs x).find? (fun t => t.pth == p) = some x.rds[j] := by
              unfold Rc.tcs
              rw [List.find?_append]
              have h3 : x.rds.find? (fun t => t.pth == p) = some x.rds[j] := by
                have h4 : (x.rds.take (j + 1)).find? (fun t => t.pth == p) = some x.rds[j] := by
                  rw [List.take_succ_eq_append_getElem hlj, List.find?_append, HNF.out, List.find?_cons, h]; rfl
                have h5 := List.find?_append (xs := x.rds.take (j + 1)) (ys := x.rds.drop (j + 1)) (p := fun t => t.pth == p)
                rw [List.take_append_drop, h4] at h5
                exact h5
              rw [h3]; rfl
            rw [h2]; rfl))
          clear hxA hc1 HSC HUP hbj
          generalize x.rds[j] = t at *
          have hv : ((str t.pth).toList == (str p).toList) = (t.pth == p) := by rw [strL, strL]
          cases he : t.pth == p with
          | true =>
            rw [he] at hv
            have HT := Lib.hid (HYES.out he)
            clear HNO HYES he
            go_wp2_with fail
            first | go_ret3 | go_ret2 | go_ret
            exact ⟨⟨t.dig, true, rfl, fun _ => HT.out, fun h => (by cases h)⟩, HBJ.out⟩
          | false =>
            rw [he] at hv
            have HT := Lib.hid (HNO.out he)
            clear HNO HYES he
            go_wp2_with fail
            go_roundw
            case rel => exact ⟨j + 1, by go_num, by omega, HT.out, HBJ.out⟩
            case measure => simp [intOf]; omega
        · have d1 : decide ((j : Int) < (x.rds.length : Int)) = false := decide_eq_false (by omega)
          have d1n : decide (j < x.rds.length) = false := decide_eq_false hlj
          have HNA := Lib.hid (show x.rds.find? (fun t => t.pth == p) = none by
            have := HNF.out
            rwa [List.take_of_length_le (by omega)] at this)
          have HNO := Lib.hid (show (x.wr.pth == p) = false → Rc.touched r (k + 1) p = none from fun h => by
            rw [HSC.out]
            unfold Rc.tcs
            rw [List.find?_append, HNA.out, List.find?_cons, h]; rfl)
          have HYES := Lib.hid (show (x.wr.pth == p) = true → Rc.touched r n p = some x.wr.dig from fun h => HUP.out _ (by
            rw [HSC.out]
            unfold Rc.tcs
            rw [List.find?_append, HNA.out, List.find?_cons, h]; rfl))
          clear HSC HUP hbj
          have hv : ((str x.wr.pth).toList == (str p).toList) = (x.wr.pth == p) := by rw [strL, strL]
          cases he : x.wr.pth == p with
          | true =>
            rw [he] at hv
            have HT := Lib.hid (HYES.out he)
            clear HNO HYES he
            go_wp2_with fail
            first | go_ret3 | go_ret2 | go_ret
            exact ⟨⟨x.wr.dig, true, rfl, fun _ => HT.out, fun h => (by cases h)⟩, HBJ.out⟩
          | false =>
            rw [he] at hv
            have HT := Lib.hid (HNO.out he)
            clear HNO HYES he
            go_wp2_with fail
            go_roundw
            case rel => exact ⟨k + 1, by go_num, by omega, HT.out, HBJ.out⟩
            case measure => simp [intOf]; omega
    · have c1 : decide ((k : Int) < (n : Int)) = false := decide_eq_false (by omega)
      have c1n : decide (k < n) = false := decide_eq_false hlt
      have hkn : k = n := by omega
      have HT := Lib.hid (show Rc.touched r n p = none by rw [← hkn]; exact HTN.out)
      have HB := Lib.hid hb
      clear hb
      go_wp2_with fail
      first | go_ret3 | go_ret2 | go_ret
      exact ⟨⟨[], false, rfl, fun h => (by cases h), fun _ => HT.out⟩, HB.out⟩
end Go.Proofs.YtkgnbjhgdjmfdaaDoor
