/- The examples of the chapter hold. Condition: the library's table of powers of ten lies in its variable. -/
import Derived.Test.YtmbgblfoadojnaaDoorSame
namespace Go.Proofs.YtmbgblfoadojnaaDoor
open Go.RowKit

def exD : ByteArray := ⟨#[50, 59, 49, 59, 50, 48, 59, 50, 58, 97, 98, 44, 55]⟩
theorem num_1024 : numV 1024 = .tuple #[.string ⟨#[49, 48, 50, 52, 59]⟩, .int .i64 0] := by
  rw [numV_ok _ (by decide)]
  have : encN 1024 = [49, 48, 50, 52, 59] := by unfold encN Cod.num; simp [Cod.dec_big, Cod.dec_small]
  rw [this]; rfl
theorem txt_ab : txtV ⟨#[97, 98]⟩ = .tuple #[.string ⟨#[50, 58, 97, 98, 44]⟩, .int .i64 0] := by
  rw [txtV_ok _ (by decide)]
  have : encS ⟨#[97, 98]⟩ = [50, 58, 97, 98, 44] := by unfold encS Cod.txt; simp [Cod.dec_small]
  rw [this]; rfl
theorem nums_ex : numsV [1, 20] = .tuple #[.string ⟨#[50, 59, 49, 59, 50, 48, 59]⟩, .int .i64 0] := by
  unfold numsV
  rw [if_neg (by decide), if_pos (by decide)]
  have : Cod.num [(1 : Int), 20].length ++ [(1 : Int), 20].flatMap encN = [50, 59, 49, 59, 50, 48, 59] := by unfold encN Cod.num; simp [Cod.dec_big, Cod.dec_small]
  rw [this]; rfl
theorem txts_ex : txtsV [⟨#[]⟩, ⟨#[120]⟩] = .tuple #[.string ⟨#[50, 59, 48, 58, 44, 49, 58, 120, 44]⟩, .int .i64 0] := by
  unfold txtsV
  rw [if_neg (by decide), if_pos (by decide)]
  have : Cod.num [(⟨#[]⟩ : ByteArray), ⟨#[120]⟩].length ++ [(⟨#[]⟩ : ByteArray), ⟨#[120]⟩].flatMap encS = [50, 59, 48, 58, 44, 49, 58, 120, 44] := by
    have s0 : (⟨#[]⟩ : ByteArray).size = 0 := rfl
    have s1 : (⟨#[120]⟩ : ByteArray).size = 1 := rfl
    unfold encS Cod.txt Cod.num; simp [Cod.dec_small, s0, s1]
  rw [this]; rfl
theorem rd_1 : Cod.list (Cod.number 0 20) ⟨exD.data.toList, 0⟩ = ([1, 20], ⟨[50, 58, 97, 98, 44, 55], 0⟩) := by rfl
theorem rd_2 : Cod.text 2 ⟨[50, 58, 97, 98, 44, 55], 0⟩ = ([97, 98], ⟨[55], 0⟩) := by rfl
theorem rd_3 : Cod.number 0 9 ⟨[55], 0⟩ = (0, ⟨[], 13⟩) := by rfl

theorem cells_new (w : World) (vs : List Value) (t : TypeId) : CellsAt (w.alloc (.cells vs.toArray t)) (w.alloc (.cells vs.toArray t)).heap.size (some ⟨w.heap.size, 0, none⟩) vs := fun i hi => by
  refine ⟨w.heap.size, 0, rfl, by simp, ?_⟩
  rw [cell_of_row _ _ _ _ _ _ (heap_alloc_new w _), Nat.zero_add]
  simp [hi]
theorem owns_kept {w w' : World} {B b n : Nat} {e : TypeId} {v : Value} {xs : List Value} (h : w.ownsRow B e 1 v n xs) (hg : w.grownBy w' (some b)) (hb : b < B) : w'.ownsRow B e 1 v n xs := h.kept hg (by
  have hl := h.lt
  cases hv : v.ownBlock with
  | none => exact .inl rfl
  | some k => exact .inr (fun hx => by have := (hl k hv).1; cases hx; omega))
set_option maxHeartbeats 4000000 in
set_option maxRecDepth 100000 in
theorem awake_any (w : World) (hT : Tabs w) :
    Calls Tryd.prog 10 #[] w fun e w' => e = .returned (.bool true) ∧ Below w.heap.size w w' := by
  go_enter Tryd.func10, Tryd.ntmps10
  go_wp2_with fail
  refine (number_any 1024 _ hT).mono ?_
  rw [num_1024]
  rintro e w1 ⟨rfl, hb1⟩
  go_wp2_with fail
  refine (text_any _ w1 (hT.below hb1)).mono ?_
  rw [txt_ab]
  rintro e w2 ⟨rfl, hb2⟩
  replace hb1 := hb1.trans (hb2.mono hb1.size)
  clear hb2
  go_wp2_with fail
  have hA : CellsAt (w2.alloc (.cells #[.int .i64 1, .int .i64 20] 3)) (w2.alloc (.cells #[.int .i64 1, .int .i64 20] 3)).heap.size (some ⟨w2.heap.size, 0, none⟩) (intsOf [1, 20]) := cells_new w2 (intsOf [1, 20]) 3
  have hb2 := hb1.alloc hb1.size (.cells #[.int .i64 1, .int .i64 20] 3)
  have hcall := nums_any _ 2 [1, 20] _ (hT.below hb2) hA
  rw [nums_ex] at hcall
  refine hcall.mono ?_
  clear hcall hA
  rintro e w3 ⟨rfl, hb3⟩
  replace hb1 := hb2.trans (hb3.mono hb2.size)
  clear hb2 hb3
  go_wp2_with fail
  have hA : CellsAt (w3.alloc (.cells #[.string ⟨#[]⟩, .string ⟨#[120]⟩] 9)) (w3.alloc (.cells #[.string ⟨#[]⟩, .string ⟨#[120]⟩] 9)).heap.size (some ⟨w3.heap.size, 0, none⟩) (strsOf [⟨#[]⟩, ⟨#[120]⟩]) := cells_new w3 (strsOf [⟨#[]⟩, ⟨#[120]⟩]) 9
  have hb2 := hb1.alloc hb1.size (.cells #[.string ⟨#[]⟩, .string ⟨#[120]⟩] 9)
  have hcall := txts_any _ 2 [⟨#[]⟩, ⟨#[120]⟩] _ (hT.below hb2) hA
  rw [txts_ex] at hcall
  refine hcall.mono ?_
  clear hcall hA
  rintro e w4 ⟨rfl, hb3⟩
  replace hb1 := hb2.trans (hb3.mono hb2.size)
  clear hb2 hb3
  go_wp2_with fail
  refine (newReader_any exD w4).mono ?_
  rintro e w5 ⟨rfl, hr, hb2⟩
  obtain ⟨b, hb⟩ : ∃ b, b = w4.heap.size := ⟨_, rfl⟩
  rw [← hb] at hr
  rw [← hb]
  have hwb : w.heap.size ≤ b := by rw [hb]; exact hb1.size
  replace hb1 := hb1.trans (hb2.mono hb1.size)
  have HB := Lib.hid hb
  clear hb2 hb
  go_wp2_with fail
  have hcall := rdNumbers_any b 0 20 exD 0 w5 hr (by decide)
  rw [rd_1] at hcall
  refine hcall.mono ?_
  clear hcall
  rintro e w6 hgot
  obtain ⟨v, rfl, hown, hr6, hg6⟩ := hgot
  have hb5 : b < w5.heap.size := hr.lt
  replace hb1 := hb1.trans (below_grown hg6 hwb hb1.size)
  clear hg6 hr
  go_wp2_with fail
  have hcall := rdText_any b 2 _ 0 w6 hr6 (by decide)
  rw [str_data, rd_2] at hcall
  refine hcall.mono ?_
  clear hcall
  rintro e w7 ⟨rfl, hr7, hg7⟩
  rw [show str [97, 98] = ⟨#[97, 98]⟩ from rfl]
  replace hown := owns_kept hown hg7 hb5
  replace hb1 := hb1.trans (below_grown hg7 hwb hb1.size)
  clear hg7 hr6
  go_wp2_with fail
  refine (left_any b _ _ w7 hr7).mono ?_
  rintro e w7' ⟨rfl, rfl⟩
  rw [show ((str [55]).size : Int) = 1 from rfl]
  go_wp2_with fail
  have hcall := rdNumber_any b 0 9 _ 0 w7 hr7 (by decide)
  rw [str_data, rd_3] at hcall
  refine hcall.mono ?_
  clear hcall
  rintro e w8 ⟨rfl, hr8, hg8⟩
  replace hown := owns_kept hown hg8 hb5
  replace hb1 := hb1.trans (below_grown hg8 hwb hb1.size)
  clear hg8 hr7
  obtain ⟨A, c, rfl, hA⟩ := owns_cells hown
  clear hown
  go_wp2_with fail
  have hA1 : CellsAt (w8.alloc (.cells #[.int .i64 1, .int .i64 20] 3)) (w8.alloc (.cells #[.int .i64 1, .int .i64 20] 3)).heap.size A (intsOf [1, 20]) := fun i hi => by
    obtain ⟨g, o, e, hg, hc⟩ := hA i hi
    exact ⟨g, o, e, by simp; omega, (((Below.refl w8.heap.size w8).alloc (Nat.le_refl _) _).cell (p := ⟨g, o + i, none⟩) hg).trans hc⟩
  have hA2 : CellsAt (w8.alloc (.cells #[.int .i64 1, .int .i64 20] 3)) (w8.alloc (.cells #[.int .i64 1, .int .i64 20] 3)).heap.size (some ⟨w8.heap.size, 0, none⟩) (intsOf [1, 20]) := cells_new w8 (intsOf [1, 20]) 3
  have hr9 := hr8.alloc (.cells #[.int .i64 1, .int .i64 20] 3)
  have hb2 := hb1.alloc hb1.size (.cells #[.int .i64 1, .int .i64 20] 3)
  refine (sameNumbers_true A _ c 2 [1, 20] _ hA1 hA2 (by decide)).mono ?_
  rintro e w9 ⟨rfl, hb9⟩
  replace hr9 := hr9.below hb9
  replace hb1 := hb2.trans (hb9.mono hb2.size)
  clear hb2 hb9 hA1 hA2 hA hr8
  go_wp2_with fail
  refine (err_any b _ _ w9 hr9).mono ?_
  rintro e w9' ⟨rfl, rfl⟩
  go_wp2_with fail
  refine (left_any b _ _ w9 hr9).mono ?_
  rintro e w9' ⟨rfl, rfl⟩
  rw [show ((str []).size : Int) = 0 from rfl]
  go_wp2_with fail
  refine (close_any b _ _ w9 hr9).mono ?_
  rintro e w9' ⟨rfl, rfl⟩
  rw [show closeI (str []) 13 = 13 from rfl]
  go_wp2_with fail
  go_ret
  exact ⟨rfl, hb1⟩
end Go.Proofs.YtmbgblfoadojnaaDoor
