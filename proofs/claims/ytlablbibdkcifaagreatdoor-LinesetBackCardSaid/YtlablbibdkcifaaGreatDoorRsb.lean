/- span, behind and Right of the reference. No condition but a path's length. -/
import Derived.Test.YtlablbibdkcifaaGreatDoorRpa
namespace Go.Proofs.YtlablbibdkcifaaGreatDoor
open Go.RowKit Go.Deep Tr

set_option maxHeartbeats 4000000 in
set_option maxRecDepth 100000 in
theorem qspan_any (s : Ls.Sp) (w : World) (hp : s.path.length ≤ 1000000) : Calls Tryz.prog 55 #[spA s] w fun e w' => e = .returned (.bool (Tre.pathOk s.path && Ls.isSp s.lo s.hi)) ∧ Below w.heap.size w w' := by
  rw [spA_def]
  have HV := Lib.hid (show Ls.isSp s.lo s.hi = (decide (0 ≤ s.lo) && (decide (s.lo < s.hi) && decide (s.hi ≤ 1024))) from rfl)
  have hb0 : Below w.heap.size w (w.alloc (.cells #[.string (str s.path), .int .i64 s.lo, .int .i64 s.hi] 32)) := (Below.refl _ _).alloc (Nat.le_refl _) _
  have cc := qPath_any (str s.path) (w.alloc (.cells #[.string (str s.path), .int .i64 s.lo, .int .i64 s.hi] 32)) (by rw [str_size]; omega)
  rw [str_data] at cc
  generalize Ls.isSp s.lo s.hi = v at *
  generalize Tre.pathOk s.path = pv at *
  rcases Bool.eq_false_or_eq_true (decide ((0 : Int) ≤ s.lo)) with c0 | c0 <;> rcases Bool.eq_false_or_eq_true (decide (s.lo < s.hi)) with c1 | c1 <;> rcases Bool.eq_false_or_eq_true (decide (s.hi ≤ (1024 : Int))) with c2 | c2 <;> cases pv
  all_goals
    have HT := HV.out
    rw [c0, c1, c2] at HT
    have HX := Lib.hid HT
    clear HT HV
    go_enter Tryz.func55, Tryz.ntmps55
    go_wp2_with fail
    with_reducible refine cc.mono ?_
    clear cc
    rintro e w' ⟨rfl, rfl⟩
    go_wp2_with fail
    go_ret
    exact ⟨by rw [HX.out]; rfl, hb0⟩
set_option maxHeartbeats 4000000 in
set_option maxRecDepth 100000 in
theorem qbehind_any (b s : Ls.Sp) (w : World) : Calls Tryz.prog 47 #[spA b, spA s] w fun e w' => e = .returned (.bool (Ls.fol s b)) ∧ Below w.heap.size w w' := by
  rw [spA_def, spA_def]
  have HV := Lib.hid (show Ls.fol s b = if s.path = b.path then decide (b.hi < s.lo) else Op.bytesLess b.path s.path from rfl)
  generalize Ls.fol s b = v at *
  have hb0 : Below w.heap.size w ((w.alloc (.cells #[.string (str b.path), .int .i64 b.lo, .int .i64 b.hi] 32)).alloc (.cells #[.string (str s.path), .int .i64 s.lo, .int .i64 s.hi] 32)) := ((Below.refl _ _).alloc (Nat.le_refl _) _).alloc (by simp) _
  by_cases hp : s.path = b.path
  · have e1 : ((str b.path).toList == (str s.path).toList) = true := by rw [hp]; simp
    have e2 : Op.bytesLess (str b.path).toList (str s.path).toList = false := by rw [hp, strL]; exact Tre.bl_irr _
    have HT := Lib.hid (HV.out.trans (if_pos hp))
    clear HV hp
    generalize hd : decide (b.hi < s.lo) = d at *
    go_enter Tryz.func47, Tryz.ntmps47
    go_wp2_with fail
    go_ret
    exact ⟨by rw [HT.out]; first | rfl | rw [hd], hb0⟩
  · have e1 : ((str b.path).toList == (str s.path).toList) = false := by rw [beq_eq_false_iff_ne, strL, strL]; exact fun e => hp e.symm
    have HT := Lib.hid (HV.out.trans (if_neg hp))
    have hd : Op.bytesLess (str b.path).toList (str s.path).toList = Op.bytesLess b.path s.path := by rw [strL, strL]
    clear HV hp
    generalize Op.bytesLess b.path s.path = d at *
    cases d with
    | true =>
      go_enter Tryz.func47, Tryz.ntmps47
      go_wp2_with fail
      go_ret
      exact ⟨by rw [HT.out]; rfl, hb0⟩
    | false =>
      go_enter Tryz.func47, Tryz.ntmps47
      go_wp2_with fail
      go_ret
      exact ⟨by rw [HT.out]; rfl, hb0⟩
end Go.Proofs.YtlablbibdkcifaaGreatDoor
