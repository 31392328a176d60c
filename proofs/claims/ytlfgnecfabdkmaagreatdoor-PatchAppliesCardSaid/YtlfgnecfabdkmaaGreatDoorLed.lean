/- What applying a patch gives, for the walks; a patch in a variable. No condition. -/
import Derived.Test.YtlfgnecfabdkmaaGreatDoorFew
namespace Go.Proofs.YtlfgnecfabdkmaaGreatDoor
open Go.RowKit Go.Deep Tr

theorem led_ok {w : World} {A : Option Addr} {p : Pc.Pa} {data s : List UInt8} {a b : List (List UInt8)} (h : Pc.Led p data s a b) (hA : HsAt w w.heap.size A p.hs) : PaOk w p A := by
  refine ⟨hA, ?_, ?_, fun x hx l hl => ?_⟩
  · have := (valid_all h.valid).1
    omega
  · rcases h.base with e | e
    · rw [e]; simp
    · rw [e, dig_len]; omega
  · have h1 := ls_change p.hs a h.all x hx l hl
    rw [← h.chg] at h1
    have h2 := text_len h.now
    rcases lines_cases s with ⟨he, _⟩ | ⟨l', e1, _, _, e4⟩
    · rw [h.now] at he; exact absurd rfl he
    · rw [h.now] at e1
      injection e1 with e1
      subst e1
      have := e4 l h1
      omega
theorem led_len {p : Pc.Pa} {data s : List UInt8} {a b : List (List UInt8)} (h : Pc.Led p data s a b) : p.hs.length ≤ 1000000000 ∧ ∀ x ∈ p.hs, x.ls.length ≤ 1000000000 := by
  refine ⟨by have := (valid_all h.valid).1; omega, fun x hx => ?_⟩
  have := Pc.isHunk_num (h.all x hx)
  omega
theorem invert_of_apply {p : Pc.Pa} {d : List UInt8} (h : (Pc.invert p d).2 = 0) : (Pc.apply p d).2 = 0 := by
  by_cases e : (Pc.apply p d).2 = 0
  · exact e
  · rw [invert_def, if_pos e] at h
    exact absurd h e
/-- A patch in a variable. -/
def Bp (w : World) (pb : Nat) (p : Pc.Pa) (A : Option Addr) (c : Nat) : Prop := w.heap[pb]? = some (.cells #[.string (str p.base), .slice A p.hs.length c] 24 (0, 0))
theorem Bp.next {w w' : World} {pb c : Nat} {p : Pc.Pa} {A : Option Addr} (h : Bp w pb p A c) (hb : Below w.heap.size w w') : Bp w' pb p A c := (hb.block _ (blk_lt h)).trans h
theorem Bp.cells {w : World} {pb c : Nat} {p : Pc.Pa} {A : Option Addr} (h : Bp w pb p A c) : w.cell? ⟨pb, 0, none⟩ = some (.string (str p.base)) ∧ w.cell? ⟨pb, 1, none⟩ = some (.slice A p.hs.length c) := ⟨by rw [cell_of_row _ _ _ _ _ _ h]; rfl, by rw [cell_of_row _ _ _ _ _ _ h]; rfl⟩
end Go.Proofs.YtlfgnecfabdkmaaGreatDoor
