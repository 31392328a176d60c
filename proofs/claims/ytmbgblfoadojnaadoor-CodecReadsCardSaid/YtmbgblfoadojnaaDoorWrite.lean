/- Four values written one behind another. Condition: the library's table of powers of ten lies in its variable. -/
import Derived.Test.YtmbgblfoadojnaaDoorAwake
import Derived.Test.YtmbgblfoadojnaaDoorNLaw
namespace Go.Proofs.YtmbgblfoadojnaaDoor
open Go.RowKit

/-- A numeral, a text, numbers and texts in a row. -/
def encAll (n : Int) (s : ByteArray) (ns : List Int) (ss : List ByteArray) : List UInt8 := encN n ++ encS s ++ (Cod.num ns.length ++ ns.flatMap encN) ++ (Cod.num ss.length ++ ss.flatMap encS)
def allOk (n : Int) (s : ByteArray) (ns : List Int) (ss : List ByteArray) : Prop := okN n = true ∧ okS s = true ∧ (ns.length ≤ 1024 ∧ ns.all okN = true) ∧ ss.length ≤ 1024 ∧ ss.all okS = true
theorem numsV_ok (zs : List Int) (h : zs.length ≤ 1024) (h2 : zs.all okN = true) : numsV zs = .tuple #[.string (str (Cod.num zs.length ++ zs.flatMap encN)), .int .i64 0] := by unfold numsV; rw [if_neg (by omega), if_pos h2]
theorem txtsV_ok (zs : List ByteArray) (h : zs.length ≤ 1024) (h2 : zs.all okS = true) : txtsV zs = .tuple #[.string (str (Cod.num zs.length ++ zs.flatMap encS)), .int .i64 0] := by unfold txtsV; rw [if_neg (by omega), if_pos h2]
theorem flat_le {α : Type} (f : α → List UInt8) (m : Nat) : ∀ (zs : List α), (∀ z ∈ zs, (f z).length ≤ m) → (zs.flatMap f).length ≤ m * zs.length
  | [], _ => by simp
  | z :: zs, h => by
    have h1 := h z (by simp)
    have h2 := flat_le f m zs fun y hy => h y (by simp [hy])
    rw [List.flatMap_cons, List.length_append, List.length_cons, Nat.mul_add, Nat.mul_one]
    omega
theorem nums_le (zs : List Int) (h : zs.length ≤ 1024) (h2 : zs.all okN = true) : (Cod.num zs.length ++ zs.flatMap encN).length ≤ 80000000 := by
  have h3 := flat_le encN 70000 zs fun z hz => encN_len z (List.all_eq_true.1 h2 z hz)
  have h4 := num_len zs.length (by omega)
  rw [List.length_append]
  have : 70000 * zs.length ≤ 70000 * 1024 := Nat.mul_le_mul_left _ h
  omega
theorem txts_le (zs : List ByteArray) (h : zs.length ≤ 1024) (h2 : zs.all okS = true) : (Cod.num zs.length ++ zs.flatMap encS).length ≤ 80000000 := by
  have h3 := flat_le encS 70000 zs fun z hz => encS_len z (List.all_eq_true.1 h2 z hz)
  have h4 := num_len zs.length (by omega)
  rw [List.length_append]
  have : 70000 * zs.length ≤ 70000 * 1024 := Nat.mul_le_mul_left _ h
  omega

theorem CellsAt.up {w w' : World} {A : Option Addr} {vs : List Value} (h : CellsAt w w.heap.size A vs) (hb : Below w.heap.size w w') : CellsAt w' w'.heap.size A vs := fun i hi => by
  obtain ⟨g, o, e, hg, hc⟩ := h i hi
  exact ⟨g, o, e, Nat.lt_of_lt_of_le hg hb.size, (hb.cell (p := ⟨g, o + i, none⟩) hg).trans hc⟩

set_option maxHeartbeats 4000000 in
set_option maxRecDepth 100000 in
theorem write_ok (n : Int) (s : ByteArray) (A : Option Addr) (c : Nat) (ns : List Int) (A' : Option Addr) (c' : Nat) (ss : List ByteArray) (w : World) (hT : Tabs w) (hA : CellsAt w w.heap.size A (intsOf ns)) (hA' : CellsAt w w.heap.size A' (strsOf ss)) (h : allOk n s ns ss) :
    Calls Tryd.prog 35 #[.agg #[.int .i64 n, .string s, .slice A ns.length c, .slice A' ss.length c']] w fun e w' => e = .returned (.tuple #[.string (str (encAll n s ns ss)), .bool true]) ∧ Below w.heap.size w w' := by
  obtain ⟨h1, h2, ⟨h3, h4⟩, h5, h6⟩ := h
  have v1 := Lib.hid (numV_ok n h1)
  have v2 := Lib.hid (txtV_ok s h2)
  have v3 := Lib.hid (numsV_ok ns h3 h4)
  have v4 := Lib.hid (txtsV_ok ss h5 h6)
  have e1 := encN_len n h1
  have e2 := encS_len s h2
  have e3 := nums_le ns h3 h4
  have e4 := txts_le ss h5 h6
  have HE := Lib.hid (show str (encN n) ++ str (encS s) ++ str (Cod.num ns.length ++ ns.flatMap encN) ++ str (Cod.num ss.length ++ ss.flatMap encS) = str (encAll n s ns ss) by rw [str_app, str_app, str_app]; rfl)
  generalize encN n = x1 at *
  generalize encS s = x2 at *
  generalize Cod.num ns.length ++ ns.flatMap encN = x3 at *
  generalize Cod.num ss.length ++ ss.flatMap encS = x4 at *
  have z1 : (str x1 ++ str x2).size ≤ 200000 := by rw [str_app, str_size, List.length_append]; omega
  have z2 : (str x1 ++ str x2 ++ str x3).size ≤ 90000000 := by rw [str_app, str_app, str_size, List.length_append, List.length_append]; omega
  have z3 : (str x1 ++ str x2 ++ str x3 ++ str x4).size ≤ 200000000 := by rw [str_app, str_app, str_app, str_size, List.length_append, List.length_append, List.length_append]; omega
  have y1 : (str x1).size ≤ 70000 := by rw [str_size]; exact e1
  have y2 : (str x2).size ≤ 70000 := by rw [str_size]; exact e2
  have y3 : (str x3).size ≤ 80000000 := by rw [str_size]; exact e3
  have y4 : (str x4).size ≤ 80000000 := by rw [str_size]; exact e4
  obtain ⟨W, hW⟩ : ∃ W, W = w.alloc (.cells #[.int .i64 n, .string s, .slice A ns.length c, .slice A' ss.length c'] 51) := ⟨_, rfl⟩
  have hb0 : Below w.heap.size w W := by rw [hW]; exact (Below.refl w.heap.size w).alloc (Nat.le_refl _) _
  have hlt : w.heap.size < W.heap.size := by rw [hW]; simp
  have k1 : W.cell? ⟨w.heap.size, 1, none⟩ = some (.string s) := by rw [hW]; go_simp
  have k2 : W.cell? ⟨w.heap.size, 2, none⟩ = some (.slice A ns.length c) := by rw [hW]; go_simp
  have k3 : W.cell? ⟨w.heap.size, 3, none⟩ = some (.slice A' ss.length c') := by rw [hW]; go_simp
  obtain ⟨b, hb⟩ : ∃ b, b = w.heap.size := ⟨_, rfl⟩
  have HB := Lib.hid hb
  have HW := Lib.hid hW
  clear h1 h2 h3 h4 h5 h6 e1 e2 e3 e4 hb
  go_enter Tryd.func35, Tryd.ntmps35
  go_wp2_with fail
  rw [← hW, ← HB.out]
  rw [← HB.out] at k1 k2 k3 hlt
  clear hW
  have hcall := number_any n W (hT.below hb0)
  with_reducible refine hcall.mono ?_
  clear hcall
  rw [v1.out]
  rintro e w1 ⟨rfl, hb1⟩
  replace k1 := (hb1.cell (p := ⟨b, 1, none⟩) hlt).trans k1
  replace k2 := (hb1.cell (p := ⟨b, 2, none⟩) hlt).trans k2
  replace k3 := (hb1.cell (p := ⟨b, 3, none⟩) hlt).trans k3
  replace hlt := Nat.lt_of_lt_of_le hlt hb1.size
  replace hb0 := hb0.trans (hb1.mono hb0.size)
  clear hb1
  go_wp2_with fail
  have hcall := text_any s w1 (hT.below hb0)
  with_reducible refine hcall.mono ?_
  clear hcall
  rw [v2.out]
  rintro e w2 ⟨rfl, hb1⟩
  replace k2 := (hb1.cell (p := ⟨b, 2, none⟩) hlt).trans k2
  replace k3 := (hb1.cell (p := ⟨b, 3, none⟩) hlt).trans k3
  replace hlt := Nat.lt_of_lt_of_le hlt hb1.size
  replace hb0 := hb0.trans (hb1.mono hb0.size)
  clear hb1 k1
  go_wp2_with fail
  have hA2 := hA.up hb0
  have hcall := nums_any A c ns w2 (hT.below hb0) hA2
  with_reducible refine hcall.mono ?_
  clear hcall
  rw [v3.out]
  rintro e w3 ⟨rfl, hb1⟩
  replace k3 := (hb1.cell (p := ⟨b, 3, none⟩) hlt).trans k3
  replace hlt := Nat.lt_of_lt_of_le hlt hb1.size
  replace hb0 := hb0.trans (hb1.mono hb0.size)
  clear hb1 k2 hA2
  go_wp2_with fail
  have hA2 := hA'.up hb0
  have hcall := txts_any A' c' ss w3 (hT.below hb0) hA2
  with_reducible refine hcall.mono ?_
  clear hcall
  rw [v4.out]
  rintro e w4 ⟨rfl, hb1⟩
  replace hb0 := hb0.trans (hb1.mono hb0.size)
  clear hb1 k3 hA2
  go_wp2_with fail
  go_ret2
  exact ⟨by rw [← HE.out]; rfl, hb0⟩
end Go.Proofs.YtmbgblfoadojnaaDoor
