/- The functions that Mount and Under hand to walk. No condition but the lengths. -/
import Derived.Test.YtjgjkbkpdpacnaaGreatDoorQjo
namespace Go.Proofs.YtjgjkbkpdpacnaaGreatDoor
open Go.RowKit

def mountF (d : List UInt8) (f : Tre.Fl) : Tre.Fl := ⟨d ++ 47 :: f.path, f.data⟩
def underF (d : List UInt8) (f : Tre.Fl) : Tre.Fl := ⟨if Tre.below f.path d = true then f.path.drop (d.length + 1) else [], f.data⟩
set_option maxHeartbeats 2000000 in
set_option maxRecDepth 100000 in
theorem mountFn (b : Nat) (f : Tre.Fl) (p : ByteArray) (w : World) (k0 : w.cell? ⟨b, 0, none⟩ = some (.string p)) (hp : p.size ≤ 1000000000) (hf : f.path.length ≤ 1000000000) :
    Calls Tryz.prog 58 #[flV f, .pointer (some ⟨b, 0, none⟩)] w fun x w' => x = .returned (.tuple #[flV (mountF p.data.toList f), .bool true]) ∧ Below w.heap.size w w' := by
  unfold flV mountF
  have hb0 : Below w.heap.size w (w.alloc (.cells #[.string (str f.path), .string (str f.data)] 31)) := (Below.refl _ _).alloc (Nat.le_refl _) _
  have hlt := World.block_lt_of_cell? w _ k0
  have hz : (str f.path).size ≤ 1000000000 := by rw [str_size]; exact hf
  have hz2 : (p ++ ⟨#[47]⟩).size ≤ 1000000001 := by rw [ByteArray.size_append]; show _ + 1 ≤ _; omega
  have HEQ := Lib.hid (show p ++ ⟨#[47]⟩ ++ str f.path = str (p.data.toList ++ 47 :: f.path) by
    rw [show (⟨#[47]⟩ : ByteArray) = str [47] from rfl, ← str_of p, str_app, str_app, str_data]; simp)
  go_enter Tryz.func58, Tryz.ntmps58
  go_wp2_with fail
  rw [HEQ.out]
  exact bodyPost_ret (v := .tuple #[.agg #[.string (str (p.data.toList ++ 47 :: f.path)), .string (str f.data)], .bool true]) (by simp [results, Tryz.results58, go_sem]) rfl ⟨rfl, by first | exact hb0.alloc hb0.size _ | exact (((hb0.alloc hb0.size _).setCell (by simp) _).setCell (by simp) _)⟩
set_option maxHeartbeats 2000000 in
set_option maxRecDepth 100000 in
theorem underFn (b : Nat) (f : Tre.Fl) (p : ByteArray) (w : World) (k0 : w.cell? ⟨b, 0, none⟩ = some (.string p)) :
    Calls Tryz.prog 60 #[flV f, .pointer (some ⟨b, 0, none⟩)] w fun x w' => x = .returned (.tuple #[flV (underF p.data.toList f), .bool (Tre.below f.path p.data.toList)]) ∧ Below w.heap.size w w' := by
  unfold flV underF
  have hb0 : Below w.heap.size w (w.alloc (.cells #[.string (str f.path), .string (str f.data)] 31)) := (Below.refl _ _).alloc (Nat.le_refl _) _
  have hlt := World.block_lt_of_cell? w _ k0
  have hcall : ∀ w, Calls Tryz.prog 61 #[.string (str f.path), .string p] w fun e w' => e = .returned (.tuple #[.string (str (if Tre.below f.path p.data.toList = true then f.path.drop (p.data.toList.length + 1) else [])), .bool (Tre.below f.path p.data.toList)]) ∧ w = w' := fun w => (inside_any (str f.path) p w).mono fun e w' h => ⟨by
    rw [h.1, insideV, str_data]
    cases Tre.below f.path p.data.toList <;> rfl, h.2⟩
  generalize (if Tre.below f.path p.data.toList = true then f.path.drop (p.data.toList.length + 1) else []) = r at *
  generalize Tre.below f.path p.data.toList = q at *
  go_enter Tryz.func60, Tryz.ntmps60
  go_wp2_with (go_at_call 61; (with_reducible refine (hcall _).mono ?_); rintro e w' ⟨rfl, rfl⟩)
  exact bodyPost_ret (v := .tuple #[.agg #[.string (str r), .string (str f.data)], .bool q]) (by simp [results, Tryz.results60, go_sem]) rfl ⟨rfl, by first | exact hb0.alloc hb0.size _ | exact (((hb0.alloc hb0.size _).setCell (by simp) _).setCell (by simp) _)⟩
end Go.Proofs.YtjgjkbkpdpacnaaGreatDoor
