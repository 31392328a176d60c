/- The reference's letters, names and numbers. No condition but the string's length. -/
import Derived.Test.YtkkkiacbikbalaaDoorSam
namespace Go.Proofs.YtkkkiacbikbalaaDoor
open Go.RowKit

set_option maxHeartbeats 1000000 in
set_option maxRecDepth 100000 in
theorem qLetter_any (c : UInt8) (w : World) :
    Calls Tryd.prog 70 #[.int .u8 (c.toNat : Int)] w fun e w' => e = .returned (.bool (Tok.isLet c)) ∧ w = w' := by
  have hc := c.toNat_lt
  have HV := Lib.hid (show Tok.isLet c = decide ((97 ≤ c.toNat ∧ c.toNat ≤ 122) ∨ c.toNat = 95) from rfl)
  generalize Tok.isLet c = v at *
  rcases Nat.lt_or_ge c.toNat 97 with h1 | h1
  · by_cases h2 : c.toNat = 95
    · have q : ((c.toNat : Int) == 95) = true := by rw [beq_iff_eq]; omega
      have HT := Lib.hid (show v = true by rw [HV.out]; simp; omega)
      clear h2 HV
      go_enter Tryd.func70, Tryd.ntmps70
      go_wp2
      go_ret
      exact ⟨ret_bool (by rw [HT.out]), rfl⟩
    · have q : ((c.toNat : Int) == 95) = false := by rw [beq_eq_false_iff_ne]; omega
      have HT := Lib.hid (show v = false by rw [HV.out]; simp; omega)
      clear h2 HV
      go_enter Tryd.func70, Tryd.ntmps70
      go_wp2
      go_ret
      exact ⟨ret_bool (by rw [HT.out]), rfl⟩
  · rcases Nat.lt_or_ge 122 c.toNat with h3 | h3
    · have q2 : decide ((c.toNat : Int) ≤ 122) = false := by simp; omega
      have q : ((c.toNat : Int) == 95) = false := by rw [beq_eq_false_iff_ne]; omega
      have HT := Lib.hid (show v = false by rw [HV.out]; simp; omega)
      clear HV
      go_enter Tryd.func70, Tryd.ntmps70
      go_wp2
      go_ret
      exact ⟨ret_bool (by rw [HT.out]), rfl⟩
    · have q2 : decide ((c.toNat : Int) ≤ 122) = true := by simp; omega
      have HT := Lib.hid (show v = true by rw [HV.out]; simp; omega)
      clear HV
      go_enter Tryd.func70, Tryd.ntmps70
      go_wp2
      go_ret
      exact ⟨ret_bool (by rw [HT.out]), rfl⟩
set_option maxHeartbeats 1000000 in
set_option maxRecDepth 100000 in
theorem qDigit_any (c : UInt8) (w : World) :
    Calls Tryd.prog 71 #[.int .u8 (c.toNat : Int)] w fun e w' => e = .returned (.bool (Tok.isDig c)) ∧ w = w' := by
  have hc := c.toNat_lt
  have HV := Lib.hid (show Tok.isDig c = decide (48 ≤ c.toNat ∧ c.toNat ≤ 57) from rfl)
  generalize Tok.isDig c = v at *
  rcases Nat.lt_or_ge c.toNat 48 with h1 | h1
  · have HT := Lib.hid (show v = false by rw [HV.out]; simp; omega)
    clear HV
    go_enter Tryd.func71, Tryd.ntmps71
    go_wp2
    go_ret
    exact ⟨ret_bool (by rw [HT.out]), rfl⟩
  · rcases Nat.lt_or_ge 57 c.toNat with h3 | h3
    · have q2 : decide ((c.toNat : Int) ≤ 57) = false := by simp; omega
      have HT := Lib.hid (show v = false by rw [HV.out]; simp; omega)
      clear HV
      go_enter Tryd.func71, Tryd.ntmps71
      go_wp2
      go_ret
      exact ⟨ret_bool (by rw [HT.out]), rfl⟩
    · have q2 : decide ((c.toNat : Int) ≤ 57) = true := by simp; omega
      have HT := Lib.hid (show v = true by rw [HV.out]; simp; omega)
      clear HV
      go_enter Tryd.func71, Tryd.ntmps71
      go_wp2
      go_ret
      exact ⟨ret_bool (by rw [HT.out]), rfl⟩
/-- The slice value's cells are these strings; they lie below block B. -/
def StrsAt (w : World) (B : Nat) (A : Option Addr) (ss : List (List UInt8)) : Prop := ∀ i (h : i < ss.length), ∃ g o, A = some ⟨g, o, none⟩ ∧ g < B ∧ w.cell? ⟨g, o + i, none⟩ = some (.string (str ss[i]))
theorem strs_new (w : World) (t : TypeId) (ss : List (List UInt8)) (vs : Array Value) (h : vs.toList = ss.map fun l => Value.string (str l)) : StrsAt (w.alloc (.cells vs t)) (w.alloc (.cells vs t)).heap.size (some ⟨w.heap.size, 0, none⟩) ss := fun i hi => by
  refine ⟨w.heap.size, 0, rfl, by simp, ?_⟩
  rw [cell_of_row _ _ _ _ _ _ (heap_alloc_new w _), Nat.zero_add, ← Array.getElem?_toList, h]
  simp [hi]
theorem StrsAt.drew {w w' : World} {B B' : Nat} {A : Option Addr} {ss : List (List UInt8)} (h : StrsAt w B A ss) (hb : Below B' w w') (hB : B ≤ B') : StrsAt w' B A ss := fun i hi => by
  obtain ⟨g, o, e, hg, hc⟩ := h i hi
  exact ⟨g, o, e, hg, (hb.cell (p := ⟨g, o + i, none⟩) (by show g < B'; omega)).trans hc⟩
def symW (w : World) : World := w.alloc (.cells #[.string ⟨#[124, 124]⟩, .string ⟨#[38, 38]⟩, .string ⟨#[61, 61]⟩, .string ⟨#[33, 61]⟩, .string ⟨#[60, 61]⟩, .string ⟨#[62, 61]⟩, .string ⟨#[60, 60]⟩, .string ⟨#[62, 62]⟩, .string ⟨#[124]⟩, .string ⟨#[94]⟩, .string ⟨#[38]⟩, .string ⟨#[60]⟩, .string ⟨#[62]⟩, .string ⟨#[43]⟩, .string ⟨#[45]⟩, .string ⟨#[42]⟩, .string ⟨#[47]⟩, .string ⟨#[37]⟩, .string ⟨#[126]⟩, .string ⟨#[33]⟩, .string ⟨#[40]⟩, .string ⟨#[41]⟩, .string ⟨#[44]⟩, .string ⟨#[61]⟩] 9)
set_option maxHeartbeats 2000000 in
set_option maxRecDepth 100000 in
theorem symbols_any (w : World) :
    Calls Tryd.prog 73 #[] w fun e w' => e = .returned (.slice (some ⟨w.heap.size, 0, none⟩) 24 24) ∧ w' = symW w := by
  go_enter Tryd.func73, Tryd.ntmps73
  go_wp2_with fail
  go_ret
  exact ⟨rfl, rfl⟩
theorem symW_at (w : World) : StrsAt (symW w) (symW w).heap.size (some ⟨w.heap.size, 0, none⟩) Tok.symsL := strs_new w _ _ _ rfl
theorem symW_on (w : World) (n : Nat) (h : w.heap.size = n) : StrsAt (symW w) (symW w).heap.size (some ⟨n, 0, none⟩) Tok.symsL := h ▸ symW_at w
theorem symW_below (w : World) : Below w.heap.size w (symW w) := (Below.refl _ _).alloc (Nat.le_refl _) _
def kwW (w : World) : World := w.alloc (.cells #[.string ⟨#[108, 101, 116]⟩, .string ⟨#[115, 101, 116]⟩, .string ⟨#[105, 102]⟩, .string ⟨#[101, 108, 115, 101]⟩, .string ⟨#[119, 104, 105, 108, 101]⟩, .string ⟨#[114, 101, 116, 117, 114, 110]⟩, .string ⟨#[100, 111]⟩, .string ⟨#[111, 117, 116]⟩, .string ⟨#[115, 116, 111, 114, 101]⟩, .string ⟨#[108, 111, 97, 100]⟩, .string ⟨#[105, 110]⟩, .string ⟨#[105, 110, 99, 108, 117, 100, 101]⟩, .string ⟨#[100, 101, 102, 105, 110, 101]⟩, .string ⟨#[117, 110, 100, 101, 102]⟩, .string ⟨#[119, 104, 101, 110]⟩, .string ⟨#[117, 110, 108, 101, 115, 115]⟩, .string ⟨#[110, 111, 116, 101]⟩, .string ⟨#[101, 120, 116, 101, 114, 110]⟩, .string ⟨#[101, 120, 112, 111, 114, 116]⟩, .string ⟨#[119, 101, 97, 107]⟩, .string ⟨#[102, 110]⟩, .string ⟨#[100, 97, 116, 97]⟩] 9)
theorem kwW_at (w : World) : StrsAt (kwW w) (kwW w).heap.size (some ⟨w.heap.size, 0, none⟩) Tok.kwsL := strs_new w _ _ _ rfl
end Go.Proofs.YtkkkiacbikbalaaDoor
