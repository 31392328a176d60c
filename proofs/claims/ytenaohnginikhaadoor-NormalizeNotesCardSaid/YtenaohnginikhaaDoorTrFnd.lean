/- Find and Lines on both sides. Condition: bytealg's MaxLen lies in its variable. -/
import Derived.Test.YtenaohnginikhaaDoorTrBel
namespace Go.Proofs.YtenaohnginikhaaDoor.Tr
open Go.RowKit

/-- The slice value's cells are these files; they lie below block B. -/
def FlsAt (w : World) (B : Nat) (A : Option Addr) (ts : List Tre.Fl) : Prop := ∀ i (h : i < ts.length), ∃ g o, A = some ⟨g, o, none⟩ ∧ g < B ∧ w.cell? ⟨g, o + i * 2, none⟩ = some (.string (str ts[i].path)) ∧ w.cell? ⟨g, o + i * 2 + 1, none⟩ = some (.string (str ts[i].data))
theorem FlsAt.below {w w' : World} {B B' : Nat} {A : Option Addr} {ts : List Tre.Fl} (h : FlsAt w B A ts) (hb : Below B' w w') (hB : B ≤ B') : FlsAt w' B A ts := fun i hi => by
  obtain ⟨g, o, e, hg, hc, hd⟩ := h i hi
  exact ⟨g, o, e, hg, (hb.cell (p := ⟨g, o + i * 2, none⟩) (by show g < B'; omega)).trans hc, (hb.cell (p := ⟨g, o + i * 2 + 1, none⟩) (by show g < B'; omega)).trans hd⟩
theorem FlsAt.next {w w' : World} {A : Option Addr} {ts : List Tre.Fl} (h : FlsAt w w.heap.size A ts) (hb : Below w.heap.size w w') : FlsAt w' w'.heap.size A ts := fun i hi => by
  obtain ⟨g, o, e, hg, hc⟩ := h.below hb (Nat.le_refl _) i hi
  exact ⟨g, o, e, Nat.lt_of_lt_of_le hg hb.size, hc⟩
def flOf (f : Tre.Fl) : List Value := [.string (str f.path), .string (str f.data)]
def flsOf (ts : List Tre.Fl) : List Value := ts.flatMap flOf
theorem flsOf_snoc (ts : List Tre.Fl) (f : Tre.Fl) : flsOf ts ++ [.string (str f.path), .string (str f.data)] = flsOf (ts ++ [f]) := by simp [flsOf, flOf]
theorem list_drop {α : Type} (l : List α) (k : Nat) (h : k < l.length) : l.drop k = l[k] :: l.drop (k + 1) := List.drop_eq_getElem_cons h
def findV (t : List Tre.Fl) (p : List UInt8) : Value := .tuple #[.string (str (Tre.find t p).1), .bool (Tre.find t p).2]
theorem find_nil (p : List UInt8) : findV [] p = .tuple #[.string ⟨#[]⟩, .bool false] := rfl
theorem find_hit (f : Tre.Fl) (t : List Tre.Fl) (p : List UInt8) (h : f.path = p) : findV (f :: t) p = .tuple #[.string (str f.data), .bool true] := by
  unfold findV Tre.find; rw [List.find?_cons_of_pos (by simpa using h)]
theorem find_miss (f : Tre.Fl) (t : List Tre.Fl) (p : List UInt8) (h : ¬ f.path = p) : findV (f :: t) p = findV t p := by
  unfold findV Tre.find; rw [List.find?_cons_of_neg (by simpa using h)]
theorem str_list (l : List UInt8) : (str l).toList = l := by rw [ByteArray.toList_eq]; rfl
/-- What Lines returns. -/
def GotL (w : World) (R : List (List UInt8) × Int) : Ending → World → Prop := fun x w' => ∃ v, x = .returned (.tuple #[v, .int .i64 R.2]) ∧ w'.ownsRow w.heap.size 9 1 v R.1.length (strs R.1) ∧ Below w.heap.size w w'
theorem lines_def (s : List UInt8) : Tre.lines s = if 65536 < s.length ∨ 1024 < (Tre.split 10 s).length then ([], 10) else (Tre.split 10 s, 0) := rfl
set_option maxHeartbeats 4000000 in
set_option maxRecDepth 100000 in
theorem lines_any (s : ByteArray) (w : World) (hs : s.size ≤ 1000000000) (hM : MaxAt w) :
    Calls Tryd.prog 26 #[.string s] w (GotL w (Tre.lines s.data.toList)) := by
  have HV := Lib.hid (lines_def s.data.toList)
  generalize Tre.lines s.data.toList = R at *
  rw [size_data] at HV
  have hcnt := Tre.split_count 10 s.data.toList
  by_cases hbig : 65536 < s.size
  · have b0 : decide ((65536 : Int) < s.size) = true := by simp; omega
    have b0n : decide (65536 < s.size) = true := by simp; omega
    have HT := Lib.hid (show R = ([], 10) by rw [HV.out, if_pos (.inl hbig)])
    clear HV hcnt
    go_enter Tryd.func26, Tryd.ntmps26
    go_wp2_with fail
    go_ret2
    rw [HT.out]
    exact ⟨_, rfl, World.ownsRow_nil _ _ _ _, Below.refl _ _⟩
  have b0 : decide ((65536 : Int) < s.size) = false := by simp; omega
  have b0n : decide (65536 < s.size) = false := by simp; omega
  have hc1 : ∀ w, Calls Tryd.prog 19 #[.string s, .string ⟨#[10]⟩] w fun e w' => e = .returned (.int .i64 (s.data.toList.count 10 : Nat)) ∧ w = w' := fun w => (Tryd.strings_Count_one s 10 w).mono fun e w' h => ⟨h.1, h.2.symm⟩
  by_cases h8 : 1024 ≤ s.data.toList.count 10
  · have b1 : decide ((1024 : Int) ≤ (s.data.toList.count 10 : Nat)) = true := decide_eq_true (by omega)
    have HT := Lib.hid (show R = ([], 10) by rw [HV.out, if_pos (.inr (by omega))])
    clear HV hcnt h8
    generalize s.data.toList.count 10 = n at *
    go_enter Tryd.func26, Tryd.ntmps26
    go_wp2_with (go_at_call 19; (with_reducible refine (hc1 _).mono ?_); rintro e w' ⟨rfl, rfl⟩)
    go_ret2
    rw [HT.out]
    exact ⟨_, rfl, World.ownsRow_nil _ _ _ _, Below.refl _ _⟩
  have b1 : decide ((1024 : Int) ≤ (s.data.toList.count 10 : Nat)) = false := decide_eq_false (by omega)
  have HT := Lib.hid (show R = (Tre.split 10 s.data.toList, 0) by rw [HV.out, if_neg (by omega)])
  have hcall := cut_any s 10 w hs hM
  clear HV hcnt h8
  generalize s.data.toList.count 10 = n at *
  generalize Tre.split 10 s.data.toList = P at *
  go_enter Tryd.func26, Tryd.ntmps26
  go_wp2_with (go_at_call 19; (with_reducible refine (hc1 _).mono ?_); rintro e w' ⟨rfl, rfl⟩)
  with_reducible refine hcall.mono ?_
  clear hcall hc1 b1
  rintro e w1 ⟨v1, rfl, hown, hb⟩
  go_wp2_with fail
  go_ret2
  rw [HT.out]
  exact ⟨_, rfl, hown, hb⟩
end Go.Proofs.YtenaohnginikhaaDoor.Tr
