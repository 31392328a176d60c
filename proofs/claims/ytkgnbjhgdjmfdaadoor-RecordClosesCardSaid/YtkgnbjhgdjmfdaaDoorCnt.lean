/- slices.Contains at numbers and texts, slices.IsSorted at texts in order. No condition but the lengths. -/
import Derived.Test.YtkgnbjhgdjmfdaaDoorEqn
import Derived.BigQuiet
namespace Go.Proofs.YtkgnbjhgdjmfdaaDoor
open Go.RowKit Go.Deep Go.Maps Tr

theorem containsIn_any (l : List Int) (x : Int) (A : Option Addr) (c : Nat) (w : World) (hA : Rc.InAt w w.heap.size A l) (hl : l.length ≤ 100000) :
    Calls Tryd.prog 25 #[.slice A l.length c, .int .i64 x] w fun e w' => e = .returned (.bool (l.contains x)) ∧ w' = w := by
  by_cases h0 : l.length = 0
  · have := List.length_eq_zero_iff.1 h0
    subst this
    exact Tryd.slices_Contains_int_empty A c x w
  · obtain ⟨g, o, rfl, _, _⟩ := hA.row (by omega)
    refine (Tryd.slices_Contains_int g o l.length c l x w (Nat.le_refl _) (by omega) (in_zs hA)).mono fun e w' h => ?_
    rw [List.take_length] at h
    exact h
theorem containsSt_any (l : List (List UInt8)) (x : List UInt8) (A : Option Addr) (c : Nat) (w : World) (hA : Rc.StAt w w.heap.size A l) (hl : l.length ≤ 10000000) :
    Calls Tryd.prog 24 #[.slice A l.length c, .string (str x)] w fun e w' => e = .returned (.bool (l.contains x)) ∧ w' = w := by
  by_cases h0 : l.length = 0
  · have := List.length_eq_zero_iff.1 h0
    subst this
    exact Tryd.slices_Contains_string_empty A c (str x) w
  · obtain ⟨g, o, rfl, _, _⟩ := hA.row (by omega)
    refine (Tryd.slices_Contains_string g o l.length c (l.map str) (str x) w (by rw [List.length_map]; exact Nat.le_refl _) (by omega) (st_zs hA)).mono fun e w' h => ?_
    have e1 : (l.map str).take l.length = l.map str := List.take_of_length_le (by rw [List.length_map]; exact Nat.le_refl _)
    rw [e1] at h
    refine ⟨?_, h.2⟩
    rw [h.1]
    congr 2
    rw [Bool.eq_iff_iff, Lib.containsS_iff, List.contains_iff_mem, List.mem_map]
    constructor
    · rintro ⟨y, hy, e⟩
      have : y = x := by
        have h2 := congrArg ByteArray.toList e
        rwa [strL, strL] at h2
      rw [← this]; exact hy
    · exact fun h => ⟨x, h, rfl⟩
set_option maxHeartbeats 2000000 in
theorem isNaNS_any (s : ByteArray) (w : World) : Calls Tryd.prog 60 #[.string s] w fun e w' => e = .returned (.bool false) ∧ w' = w := by
  have h1 : (s.toList == s.toList) = true := beq_self_eq_true _
  go_enter Tryd.func60, Tryd.ntmps60
  go_wp2_with fail
  go_ret
  first | done | exact ⟨rfl, rfl⟩ | simp
set_option maxHeartbeats 2000000 in
theorem lessS_any (a b : ByteArray) (w : World) (h : Op.bytesLess a.toList b.toList = false) : Calls Tryd.prog 43 #[.string a, .string b] w fun e w' => e = .returned (.bool false) ∧ w' = w := by
  have cc := isNaNS_any a w
  go_enter Tryd.func43, Tryd.ntmps43
  go_wp2_with fail
  with_reducible refine cc.mono ?_
  clear cc
  rintro e w1 ⟨rfl, hw⟩
  have HW := Lib.hid hw
  clear hw
  go_wp2_with fail
  first | go_ret3 | go_ret2 | go_ret
  exact ⟨rfl, HW.out⟩
set_option maxHeartbeats 8000000 in
set_option maxRecDepth 100000 in
theorem sortedSt_any (l : List (List UInt8)) (A : Option Addr) (c : Nat) (w : World) (hA : Rc.StAt w w.heap.size A l) (hl : l.length ≤ 10000000) (hs : l.Pairwise fun a b => leB a b = true) :
    Calls Tryd.prog 23 #[.slice A l.length c] w fun e w' => e = .returned (.bool true) ∧ Below w.heap.size w w' := by
  have HA := Lib.hid hA
  have HS := Lib.hid (show ∀ j (h : j + 1 < l.length), Op.bytesLess l[j + 1] l[j] = false from fun j h => by
    have := List.pairwise_iff_getElem.1 hs j (j + 1) (by omega) h (by omega)
    simp only [leB, decide_eq_true_eq] at this
    rw [bytesLess_eq, decide_eq_false_iff_not]
    exact fun hc => absurd this (by simpa using hc))
  clear hA hs
  have hw0 : IntKind.i64.wrap ((l.length : Int) - 1) = (l.length : Int) - 1 := IntWalk.i64_in _ (by omega)
  go_enter Tryd.func23, Tryd.ntmps23
  go_wp2_with fail
  clear hw0
  go_loopw [3] (fun s3 wr => ∃ k : Int, s3 = .int .i64 k ∧ k < (l.length : Int) ∧ Below w.heap.size w wr) (fun s3 _ => (intOf s3).toNat)
  case atStart => exact ⟨_, rfl, by omega, Below.refl _ _⟩
  case round =>
    obtain ⟨k, rfl, hk, hb⟩ := hrel
    by_cases h0 : 0 < k
    · have b1 : decide (0 < k) = true := decide_eq_true h0
      obtain ⟨j, rfl⟩ : ∃ j : Nat, k = ((j + 1 : Nat) : Int) := ⟨k.toNat - 1, by omega⟩
      have hj : j + 1 < l.length := by omega
      have hle := HS.out j hj
      obtain ⟨g, o, rfl, hg, hc⟩ := HA.out.row (by omega)
      have e1 : wr.cell? ⟨g, o + (j + 1), none⟩ = some (.string (str l[j + 1])) := by
        have h := hc (j + 1) hj 0 _ rfl
        rw [Nat.mul_one] at h
        exact (hb.cell (p := ⟨g, o + (j + 1), none⟩) hg).trans h
      have e0 : wr.cell? ⟨g, o + j, none⟩ = some (.string (str l[j])) := by
        have h := hc j (by omega) 0 _ rfl
        rw [Nat.mul_one] at h
        exact (hb.cell (p := ⟨g, o + j, none⟩) hg).trans h
      have t1 := fun w => lessS_any (str l[j + 1]) (str l[j]) w (by rw [strL, strL]; exact hle)
      have x1 : IntKind.i64.wrap (((j + 1 : Nat) : Int) - 1) = (j : Int) := by rw [show ((j + 1 : Nat) : Int) - 1 = (j : Int) by omega]; exact IntWalk.i64_in _ (by omega)
      have y1 : ((j + 1 : Nat) : Int) < (l.length : Int) := by omega
      have y2 : (j : Int) < (l.length : Int) := by omega
      have hbb := hb
      generalize l[j + 1] = z1 at *
      generalize l[j] = z0 at *
      clear hle hc hb h0
      go_upto_region 4 with (fail)
      go_quiet ((go_at_call 43; exact Calls.quiet_of_same (t1 _)))
      have HB := Lib.hid (below_drewN hbb nq)
      generalize wr.drewN nq = w1 at *
      clear hbb e0 e1 t1
      go_wp2_with fail
      go_roundw
      case rel => exact ⟨(j : Int), rfl, by omega, HB.out⟩
      case measure => simp only [intOf]; omega
    · have b1 : decide (0 < k) = false := decide_eq_false h0
      have HB := Lib.hid hb
      clear hb
      go_wp2_with fail
      go_ret
      exact ⟨rfl, HB.out⟩
end Go.Proofs.YtkgnbjhgdjmfdaaDoor
