/- before of the reference; rows of lines at places of their own. No condition but the lengths. -/
import Derived.Test.YtlablbibdkcifaaGreatDoorRls
namespace Go.Proofs.YtlablbibdkcifaaGreatDoor
open Go.RowKit Go.Deep Tr

def lnA (x : Ls.Ln) : Value := .agg #[.string (str x.1), .int .i64 x.2]
theorem lnA_def (x : Ls.Ln) : lnA x = .agg #[.string (str x.1), .int .i64 x.2] := rfl
set_option maxHeartbeats 4000000 in
set_option maxRecDepth 100000 in
theorem qbefore_any (b s : Ls.Ln) (w : World) : Calls Tryz.prog 77 #[lnA b, lnA s] w fun e w' => e = .returned (.bool (Ls.bfr b s)) ∧ Below w.heap.size w w' := by
  rw [lnA_def, lnA_def]
  have HV := Lib.hid (show Ls.bfr b s = (Op.bytesLess b.1 s.1 || (decide (b.1 = s.1) && decide (b.2 < s.2))) from rfl)
  generalize Ls.bfr b s = v at *
  have hb0 : Below w.heap.size w ((w.alloc (.cells #[.string (str b.1), .int .i64 b.2] 44)).alloc (.cells #[.string (str s.1), .int .i64 s.2] 44)) := ((Below.refl _ _).alloc (Nat.le_refl _) _).alloc (by simp) _
  by_cases hp : b.1 = s.1
  · have e1 : ((str b.1).toList == (str s.1).toList) = true := by rw [hp]; simp
    have e2 : Op.bytesLess (str b.1).toList (str s.1).toList = false := by rw [hp, strL]; exact Tre.bl_irr _
    have HT := Lib.hid (show v = decide (b.2 < s.2) by rw [HV.out, hp, Tre.bl_irr, decide_eq_true rfl]; simp)
    clear HV hp
    generalize hd : decide (b.2 < s.2) = d at *
    go_enter Tryz.func77, Tryz.ntmps77
    go_wp2_with fail
    go_ret
    exact ⟨by rw [HT.out]; first | rfl | rw [hd], hb0⟩
  · have e1 : ((str b.1).toList == (str s.1).toList) = false := by rw [beq_eq_false_iff_ne, strL, strL]; exact hp
    have HT := Lib.hid (show v = Op.bytesLess b.1 s.1 by rw [HV.out, decide_eq_false hp]; simp)
    have hd : Op.bytesLess (str b.1).toList (str s.1).toList = Op.bytesLess b.1 s.1 := by rw [strL, strL]
    clear HV hp
    generalize Op.bytesLess b.1 s.1 = d at *
    cases d with
    | true =>
      go_enter Tryz.func77, Tryz.ntmps77
      go_wp2_with fail
      go_ret
      exact ⟨by rw [HT.out]; rfl, hb0⟩
    | false =>
      go_enter Tryz.func77, Tryz.ntmps77
      go_wp2_with fail
      go_ret
      exact ⟨by rw [HT.out]; rfl, hb0⟩
theorem own_mono {w : World} {B B' e size n : Nat} {v : Value} {xs : List Value} (h : w.ownsRow B e size v n xs) (hB : B' ≤ B) : w.ownsRow B' e size v n xs := by
  rcases h with ⟨h1, ⟨rfl, h2⟩ | ⟨g, cap, cur, rfl, h2, h3⟩⟩
  · exact ⟨h1, .inl ⟨rfl, h2⟩⟩
  · exact ⟨h1, .inr ⟨g, cap, cur, rfl, Nat.le_trans hB h2, h3⟩⟩
/-- A row of lines at a place of its own. -/
def RowL (w : World) (B g cap : Nat) (l : List Ls.Ln) : Prop := w.ownsRow B 44 2 (.slice (some ⟨g, 0, none⟩) l.length cap) l.length (Ls.lnsV l)
theorem RowL.at_ {w : World} {B g cap : Nat} {l : List Ls.Ln} (h : RowL w B g cap l) : l.length ≤ cap ∧ cap ≤ maxLen ∧ g < w.heap.size ∧ ∀ j, j < l.length * 2 → ∀ u, (Ls.lnsV l)[j]? = some u → w.cell? ⟨g, j, none⟩ = some u := by
  unfold RowL at h
  have hg := (h.lt g rfl).2
  rcases h.2 with ⟨hv, _⟩ | ⟨g', cap', cur, hv, hb, hgg, h1, h2, _, _⟩
  · cases hv
  · injection hv with hv _ hc
    injection hv with hv
    injection hv with hv
    subst hv hc
    exact ⟨h1, h2, (Array.getElem?_eq_some_iff.1 hgg).1, fun j hj u hu => by rw [h.cellAt _ hj]; exact hu⟩
theorem row_some {w : World} {B e size n : Nat} {v : Value} {xs : List Value} (h : w.ownsRow B e size v n xs) (hv : v ≠ .slice none 0 0) : ∃ g c, v = .slice (some ⟨g, 0, none⟩) n c := by
  rcases h.2 with ⟨rfl, _⟩ | ⟨g, cap, cur, rfl, _⟩
  · exact absurd rfl hv
  · exact ⟨g, cap, rfl⟩
namespace Ls
theorem lnsV_take (l : List Ln) (k : Nat) (hk : k ≤ l.length) : lnsV (l.take k) = (lnsV l).take (k * 2) := by
  have h : lnsV l = lnsV (l.take k) ++ lnsV (l.drop k) := by rw [← lnsV_app, List.take_append_drop]
  rw [h, List.take_left' (by rw [lnsV_len, List.length_take, Nat.min_eq_left hk])]
theorem lnsV_drop (l : List Ln) (k : Nat) (hk : k ≤ l.length) : lnsV (l.drop k) = (lnsV l).drop (k * 2) := by
  have h : lnsV l = lnsV (l.take k) ++ lnsV (l.drop k) := by rw [← lnsV_app, List.take_append_drop]
  rw [h, List.drop_left' (by rw [lnsV_len, List.length_take, Nat.min_eq_left hk])]
end Ls
end Go.Proofs.YtlablbibdkcifaaGreatDoor
