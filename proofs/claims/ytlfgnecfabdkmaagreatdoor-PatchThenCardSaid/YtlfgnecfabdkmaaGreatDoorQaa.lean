/- Apply of the reference. No condition but the lengths. -/
import Derived.Test.YtlfgnecfabdkmaaGreatDoorQap
namespace Go.Proofs.YtlfgnecfabdkmaaGreatDoor
open Go.RowKit Go.Deep Tr

set_option maxHeartbeats 8000000 in
set_option maxRecDepth 100000 in
theorem qApply_any (p : Pc.Pa) (A : Option Addr) (c : Nat) (s : ByteArray) (w : World) (hP : PaOk w p A) (hs : s.size ≤ 1000000) :
    Calls Tryz.prog 21 #[paV p A c, .string s] w fun e w' => e = .returned (apV (Pc.apply p s.data.toList)) ∧ Below w.heap.size w w' := by
  have hb0 : Below w.heap.size w (w.alloc (.cells #[.string (str p.base), .slice A p.hs.length c] 24)) := (Below.refl _ _).alloc (Nat.le_refl _) _
  have bx0 : Bp (w.alloc (.cells #[.string (str p.base), .slice A p.hs.length c] 24)) w.heap.size p A c := heap_alloc_new w _
  have ca := qapply_any p A c s _ (hP.next hb0) hs
  have HAC := Lib.hid (Pc.apply_cases p s.data.toList)
  have HV := Lib.hid (apV_def (Pc.apply p s.data.toList))
  generalize apV (Pc.apply p s.data.toList) = V at *
  obtain ⟨k0, k1⟩ := bx0.cells
  rw [paV_def] at ca ⊢
  clear hP bx0
  go_enter Tryz.func21, Tryz.ntmps21
  go_wp2_with fail
  with_reducible refine ca.mono ?_
  clear ca k0 k1
  rintro x w1 ⟨v1, v2, rfl, hb1, hor⟩
  have HB := Lib.hid (hb0.trans (hb1.mono hb0.size))
  clear hb0 hb1
  by_cases he : (Pc.apply p s.data.toList).2 ≠ 0
  · have HE := Lib.hid (show V = .tuple #[.string ⟨#[]⟩, .int .i64 (Pc.apply p s.data.toList).2] by
      rcases HAC.out with h | h
      · rw [HV.out, h.2]; rfl
      · exact absurd h.1 he)
    have n0 : ((Pc.apply p s.data.toList).2 != 0) = true := bne_iff_ne.2 he
    clear he hor HAC HV
    generalize Pc.apply p s.data.toList = R at *
    go_wp2_with fail
    go_ret2
    exact ⟨by rw [HE.out]; rfl, HB.out⟩
  · rcases hor with h | ⟨t, a, b, A1, A2, c1, c2, h0, L, rfl, rfl, hA1, hA2, q1, q2, q3, q4⟩
    · exact absurd h he
    obtain ⟨l1, l2, l3, l4, l5, l6⟩ := Pc.lines_ok L.now
    have hcl := (Pc.led_of h0)
    have hbl : ∀ l ∈ b, l.length ≤ 1000000000 := fun l hl => by
      rcases lines_cases t with ⟨he, _⟩ | ⟨l', e1, _, _, e4⟩
      · rw [L.now] at he; exact absurd rfl he
      · rw [L.now] at e1
        injection e1 with e1
        subst e1
        have := e4 l hl
        have := text_len L.now
        omega
    have cj := qJoin_any A1 c1 b w1 hA1 (by omega) hbl q1
    rw [joinV_def, l5] at cj
    dsimp only at cj
    have HT := Lib.hid (show V = .tuple #[.string (str t), .int .i64 0] by rw [HV.out, h0])
    rw [h0]
    clear he h0 L hA1 hA2 l1 l2 l3 l4 l5 l6 hbl hcl HAC
    go_wp2_with fail
    with_reducible refine cj.mono ?_
    clear cj
    rintro e w6 ⟨rfl, hb6⟩
    have hres := HB.out.trans (hb6.mono HB.out.size)
    clear hb6
    go_wp2_with fail
    go_ret2
    exact ⟨by rw [HT.out]; rfl, hres⟩
end Go.Proofs.YtlfgnecfabdkmaaGreatDoor
