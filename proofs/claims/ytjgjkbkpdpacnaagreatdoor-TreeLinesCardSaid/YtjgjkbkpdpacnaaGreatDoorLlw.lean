/- The law of TreeLines. Condition: the tables of digest, codec and the library lie. -/
import Derived.Test.YtjgjkbkpdpacnaaGreatDoorPq1
import Derived.Test.YtjgjkbkpdpacnaaGreatDoorFws
import Derived.Test.YtjgjkbkpdpacnaaGreatDoorJoi
import Derived.Test.YtjgjkbkpdpacnaaGreatDoorQjo
namespace Go.Proofs.YtjgjkbkpdpacnaaGreatDoor
open Go.RowKit Go.Deep

theorem sum_take1 (l : List (List UInt8)) (k : Nat) (h : k < l.length) : ((l.take (k + 1)).map List.length).sum = ((l.take k).map List.length).sum + l[k].length := by
  rw [List.take_succ_eq_append_getElem h, List.map_append, List.sum_append]; simp
theorem eqs_true (A A' : Option Addr) (c c' : Nat) (l : List (List UInt8)) (w : World) (hA : CellsAt w w.heap.size A (strs l)) (hA' : CellsAt w w.heap.size A' (strs l)) (hl : l.length ≤ 1000000000) :
    Calls Tryz.prog 36 #[.slice A l.length c, .slice A' l.length c'] w fun e w' => e = .returned (.bool true) ∧ Below w.heap.size w w' := by
  by_cases h0 : l.length = 0
  · rw [h0]
    exact (Tryz.slices_Equal_string_empty A A' c 0 c' w (by omega)).mono fun e w' ⟨h1, h2⟩ => ⟨by rw [h1]; rfl, by rw [h2]; exact Below.refl _ _⟩
  · obtain ⟨g, o, rfl, hg, _⟩ := hA 0 (by rw [strs_len]; omega)
    obtain ⟨g', o', rfl, hg', _⟩ := hA' 0 (by rw [strs_len]; omega)
    have hcell : ∀ (g o : Nat), CellsAt w w.heap.size (some ⟨g, o, none⟩) (strs l) → ∀ j, j < (l.map str).length → w.cell? ⟨g, o + j, none⟩ = some (.string ((l.map str).getD j ByteArray.empty)) := fun g o h j hj => by
      have hj2 : j < l.length := by simpa using hj
      obtain ⟨g1, o1, e, _, hc⟩ := h j (by rw [strs_len]; exact hj2)
      have e2 := Option.some.inj e
      injection e2 with e3 e4 _
      subst e3; subst e4
      rw [strs_get l j hj2] at hc
      rw [hc]
      simp [List.getD, hj2]
    refine (Tryz.slices_Equal_string g o l.length c g' o' l.length c' (l.map str) (l.map str) w (by simp) (by simp) (by omega) (by omega) (hcell g o hA) (hcell g' o' hA')).mono ?_
    rintro e w' ⟨rfl, q, rfl⟩
    exact ⟨by simp, ⟨rfl, rfl, rfl, Nat.le_refl _, fun _ _ => rfl⟩⟩
/-- What Lines asks of an argument. -/
structure LinedOk (w : World) (AL : Option Addr) (cL : Nat) (ls : List (List UInt8)) (t : Tr) : Prop where
  cells : CellsAt w w.heap.size AL (strs ls)
  each : ∀ l ∈ ls, l.length ≤ 200000000000000
  cap : ls.length ≤ cL
  tree : TrOk w t
  tcap : t.ts.length ≤ t.c
  tcap2 : t.c ≤ maxLen
theorem LinedOk.next {w w' : World} {AL : Option Addr} {cL : Nat} {ls : List (List UInt8)} {t : Tr} (h : LinedOk w AL cL ls t) (hb : Below w.heap.size w w') : LinedOk w' AL cL ls t :=
  ⟨fun i hi => by
    obtain ⟨g, o, e, hg, hc⟩ := h.cells i hi
    exact ⟨g, o, e, Nat.lt_of_lt_of_le hg hb.size, (hb.cell (p := ⟨g, o + i, none⟩) hg).trans hc⟩, h.each, h.cap, ⟨h.tree.at_.next hb, h.tree.len, h.tree.each⟩, h.tcap, h.tcap2⟩
theorem cells_next {w w' : World} {A : Option Addr} {xs : List Value} (h : CellsAt w w.heap.size A xs) (hb : Below w.heap.size w w') : CellsAt w' w'.heap.size A xs := fun i hi => by
  obtain ⟨g, o, e, hg, hc⟩ := h i hi
  exact ⟨g, o, e, Nat.lt_of_lt_of_le hg hb.size, (hb.cell (p := ⟨g, o + i, none⟩) hg).trans hc⟩
theorem repl_len (ts : List Tre.Fl) (p : List UInt8) (n : Int) (text : List UInt8) : (Tre.repl ts p n text).1.length ≤ ts.length := by
  rw [repl_def]
  repeat' split
  all_goals first | simp [Tre.setPath] | simp
set_option maxHeartbeats 8000000 in
set_option maxRecDepth 100000 in
theorem lines_law (s : ByteArray) (AL : Option Addr) (cL : Nat) (ls : List (List UInt8)) (t : Tr) (p : ByteArray) (n : Int) (text : ByteArray) (w : World) (hI : IdAt w) (ho : LinedOk w AL cL ls t) (hs : s.size ≤ 9223372036854775807) (hps : p.size ≤ 9223372036854775807) (hts : text.size ≤ 9223372036854775807) :
    Calls Tryz.prog 6 #[.agg #[.string s, .slice AL ls.length cL, .slice t.A t.ts.length t.c, .string p, .int .i64 n, .string text]] w fun e w' => e = .returned (.bool true) ∧ Below w.heap.size w w' := by
  have hb0 : Below w.heap.size w (w.alloc (.cells #[.string s, .slice AL ls.length cL, .slice t.A t.ts.length t.c, .string p, .int .i64 n, .string text] 47)) := (Below.refl _ _).alloc (Nat.le_refl _) _
  have hN0 := heap_alloc_new w (.cells #[.string s, .slice AL ls.length cL, .slice t.A t.ts.length t.c, .string p, .int .i64 n, .string text] 47)
  have hbs : w.heap.size < (w.alloc (.cells #[.string s, .slice AL ls.length cL, .slice t.A t.ts.length t.c, .string p, .int .i64 n, .string text] 47)).heap.size := by simp
  have haw := awake_any _ (hI.below hb0)
  go_enter Tryz.func6, Tryz.ntmps6
  go_wp2_with fail
  generalize w.alloc (.cells #[.string s, .slice AL ls.length cL, .slice t.A t.ts.length t.c, .string p, .int .i64 n, .string text] 47) = W at *
  with_reducible refine haw.mono ?_
  clear haw
  rintro x w1 ⟨rfl, hb1⟩
  have hN1 := (hb1.block w.heap.size hbs).trans hN0
  have hb01 := hb0.trans (hb1.mono (Nat.le_of_lt hbs))
  have hI1 := hI.below hb01
  have ho1 := ho.next hb01
  have hlt1 : w.heap.size < w1.heap.size := Nat.lt_of_lt_of_le hbs hb1.size
  clear hI ho hb0 hb1 hN0 hbs
  have k0 : w1.cell? ⟨w.heap.size, 0, none⟩ = some (.string s) := by rw [cell_of_row _ _ _ _ _ _ hN1]; rfl
  have k1 : w1.cell? ⟨w.heap.size, 1, none⟩ = some (.slice AL ls.length cL) := by rw [cell_of_row _ _ _ _ _ _ hN1]; rfl
  have k2 : w1.cell? ⟨w.heap.size, 2, none⟩ = some (.slice t.A t.ts.length t.c) := by rw [cell_of_row _ _ _ _ _ _ hN1]; rfl
  have k3 : w1.cell? ⟨w.heap.size, 3, none⟩ = some (.string p) := by rw [cell_of_row _ _ _ _ _ _ hN1]; rfl
  have k4 : w1.cell? ⟨w.heap.size, 4, none⟩ = some (.int .i64 n) := by rw [cell_of_row _ _ _ _ _ _ hN1]; rfl
  have k5 : w1.cell? ⟨w.heap.size, 5, none⟩ = some (.string text) := by rw [cell_of_row _ _ _ _ _ _ hN1]; rfl
  generalize hbb : w.heap.size = b at *
  go_wp2_with fail
  go_region
  have hbX : Below w1.heap.size w1 (w1.alloc (.cells #[.string p, .int .i64 n] 45)).drew := ((Below.refl _ _).alloc (Nat.le_refl _) _).drew
  have hM2 : (w1.alloc (.cells #[.string p, .int .i64 n] 45)).drew.heap[w1.heap.size]? = some (.cells #[.string p, .int .i64 n] 45) := heap_alloc_new w1 _
  have hl2 : w1.heap.size < (w1.alloc (.cells #[.string p, .int .i64 n] 45)).drew.heap.size := by simp
  have hI2 := hI1.below hbX
  have ho2 := ho1.next hbX
  have hb02 := hb01.trans (hbX.mono (Nat.le_of_lt hlt1))
  clear hI1 ho1 hb01 hN1 k0 k1 k2 k3 k4 k5
  generalize hlb : w1.heap.size = lb at *
  generalize (w1.alloc (.cells #[.string p, .int .i64 n] 45)).drew = w2 at *
  clear hbX
  have q0 : w2.cell? ⟨lb, 0, none⟩ = some (.string p) := by rw [cell_of_row _ _ _ _ _ _ hM2]; rfl
  have q1 : w2.cell? ⟨lb, 1, none⟩ = some (.int .i64 n) := by rw [cell_of_row _ _ _ _ _ _ hM2]; rfl
  have hbw2 : b ≤ w2.heap.size := by omega
  by_cases h1 : 3000 < s.size
  · have b1 : decide ((3000 : Int) < (s.size : Int)) = true := by simp; omega
    have b1n : decide (3000 < s.size) = true := by simp; omega
    go_wp2_with fail
    go_ret
    exact ⟨rfl, by rw [hbb]; exact hb02⟩
  have b1 : decide ((3000 : Int) < (s.size : Int)) = false := by simp; omega
  have b1n : decide (3000 < s.size) = false := by simp; omega
  by_cases h2 : 1100 < ls.length
  · have b2 : decide ((1100 : Int) < (ls.length : Int)) = true := by simp; omega
    have b2n : decide (1100 < ls.length) = true := by simp; omega
    go_wp2_with fail
    go_ret
    exact ⟨rfl, by rw [hbb]; exact hb02⟩
  have b2 : decide ((1100 : Int) < (ls.length : Int)) = false := by simp; omega
  have b2n : decide (1100 < ls.length) = false := by simp; omega
  have hfew := few_one t w2 ho2.tree
  have h3' : (decide ((300 : Int) < (p.size : Int)) = true ∧ decide (300 < p.size) = true) ∨ (decide ((300 : Int) < (p.size : Int)) = false ∧ decide (300 < p.size) = false) := by
    by_cases h : 300 < p.size
    · exact .inl ⟨by simp; omega, by simp; omega⟩
    · exact .inr ⟨by simp; omega, by simp; omega⟩
  have h4' : (decide ((300 : Int) < (text.size : Int)) = true ∧ decide (300 < text.size) = true) ∨ (decide ((300 : Int) < (text.size : Int)) = false ∧ decide (300 < text.size) = false) := by
    by_cases h : 300 < text.size
    · exact .inl ⟨by simp; omega, by simp; omega⟩
    · exact .inr ⟨by simp; omega, by simp; omega⟩
  go_wp2_with fail
  with_reducible refine hfew.mono ?_
  clear hfew
  rintro x w3 ⟨⟨bb, rfl, hfw⟩, hb3⟩
  have hM3 := (hb3.block lb hl2).trans hM2
  have hl3 : lb < w3.heap.size := Nat.lt_of_lt_of_le hl2 hb3.size
  have hI3 := hI2.below hb3
  have ho3 := ho2.next hb3
  have hb03 := hb02.trans (hb3.mono hbw2)
  clear hI2 ho2 hb02 hb3 hM2 q0 q1 hbw2
  have q0 : w3.cell? ⟨lb, 0, none⟩ = some (.string p) := by rw [cell_of_row _ _ _ _ _ _ hM3]; rfl
  have q1 : w3.cell? ⟨lb, 1, none⟩ = some (.int .i64 n) := by rw [cell_of_row _ _ _ _ _ _ hM3]; rfl
  have hbw3 : b ≤ w3.heap.size := by omega
  cases bb with
  | false =>
    clear hfw
    go_wp2_with fail
    go_ret
    exact ⟨rfl, by rw [hbb]; exact hb03⟩
  | true =>
  obtain ⟨hL, hn⟩ := hfw rfl
  clear hfw
  rcases h3' with ⟨b3, b3n⟩ | ⟨b3, b3n⟩
  · go_wp2_with fail
    go_ret
    exact ⟨rfl, by rw [hbb]; exact hb03⟩
  rcases h4' with ⟨b4, b4n⟩ | ⟨b4, b4n⟩
  · go_wp2_with fail
    go_ret
    exact ⟨rfl, by rw [hbb]; exact hb03⟩
  have hp3 : p.size ≤ 300 := by simp at b3n; exact b3n
  have ht3 : text.size ≤ 300 := by simp at b4n; exact b4n
  go_wp2_with fail
  clear b1 b1n b2 b2n b3 b3n b4 b4n q0 q1
  have HC := Lib.hid ho3.cells
  go_loopw [8, 62] (fun v i wr => ∃ k : Nat, k ≤ ls.length ∧ i = .int .i64 k ∧ v = .int .i64 (((ls.take k).map List.length).sum : Nat) ∧ ((ls.take k).map List.length).sum ≤ k * 200000000000000 ∧ wr = w3) (fun _ i _ => ls.length - (intOf i).toNat)
  case atStart => exact ⟨0, by omega, rfl, by simp, by simp, rfl⟩
  case round =>
    obtain ⟨k, hk, rfl, rfl, hsum, hw⟩ := hrel
    have hw2 := hw.symm
    clear hw
    subst hw2
    by_cases hlt : k < ls.length
    · have b1 : decide ((k : Int) < ls.length) = true := by simp; omega
      have b1n : decide (k < ls.length) = true := by simp; omega
      obtain ⟨g, o, rfl, hg, hc0⟩ := HC.out k (by rw [strs_len]; exact hlt)
      rw [strs_get ls k hlt] at hc0
      have HS := Lib.hid (sum_take1 ls k hlt)
      have hel := ho3.each ls[k] (List.getElem_mem hlt)
      generalize ls[k] = l at *
      have HZ := Lib.hid (str_size l)
      have hel2 : (str l).size ≤ 200000000000000 := by rw [str_size]; exact hel
      generalize ((ls.take k).map List.length).sum = s0 at *
      have hk3 : k ≤ 1100 := by omega
      have hs0 : s0 ≤ 220000000000000000 := by
        have := Nat.mul_le_mul_right 200000000000000 hk3
        omega
      go_wp2_with fail
      go_roundw
      case rel => exact ⟨k + 1, by omega, by go_num, by rw [HS.out, Value.int.injEq]; exact ⟨rfl, by have := HZ.out; omega⟩, by rw [HS.out, Nat.add_mul]; omega, by first | rfl | trivial⟩
      case measure => simp [intOf]; omega
    · have b1 : decide ((k : Int) < ls.length) = false := by simp; omega
      have b1n : decide (k < ls.length) = false := by simp; omega
      obtain rfl : k = ls.length := by omega
      rw [List.take_length] at *
      have HLL := Lib.hid (fun l (hl : l ∈ ls) => le_sum (ls.map List.length) l.length (List.mem_map.2 ⟨l, hl, rfl⟩))
      generalize (ls.map List.length).sum = s0 at *
      by_cases hbig : 3000 < s0
      · have b2 : decide ((3000 : Int) < (s0 : Int)) = true := by simp; omega
        have b2n : decide (3000 < s0) = true := by simp; omega
        go_wp2_with fail
        go_ret
        exact ⟨rfl, by rw [hbb]; exact hb03⟩
      have b2 : decide ((3000 : Int) < (s0 : Int)) = false := by simp; omega
      have b2n : decide (3000 < s0) = false := by simp; omega
      have hM4 := hM3
      have hc1 := lines_any s w3 (by omega) hI3.max
      have hc2 := fun w' (_ : Below w3.heap.size w3 w') => qLines_any s w' (by omega)
      have hje : ∀ l ∈ ls, l.length ≤ 1000000000 := fun l hl => by have := HLL.out l hl; omega
      have hc3 := fun w' (h : Below w3.heap.size w3 w') => join_any AL cL ls w' (ho3.next h).cells (by omega) hje ho3.cap
      have hc4 := fun w' (h : Below w3.heap.size w3 w') => qJoin_any AL cL ls w' (ho3.next h).cells (by omega) hje ho3.cap
      have hc5 := fun w' (h : Below w3.heap.size w3 w') => replace_any t.A t.c t.ts p n text w' (ho3.next h).tree.at_ (by omega) hL (hI3.below h).max ho3.tcap ho3.tcap2 (by omega)
      have hc6 := fun w' (h : Below w3.heap.size w3 w') => qReplace_any t.A t.c t.ts p n text w' (ho3.next h).tree.at_ (by omega) hL ho3.tcap ho3.tcap2 (by omega) (by omega)
      have hlr := lines_count s.data.toList
      have hrl := repl_len t.ts p.data.toList n text.data.toList
      rw [joinV_def] at hc3 hc4
      clear ho3 hI3 HC HLL
      generalize Tre.lines s.data.toList = L at *
      generalize Tre.join ls = J at *
      generalize Tre.repl t.ts p.data.toList n text.data.toList = E at *
      obtain ⟨L1, L2⟩ := L
      obtain ⟨J1, J2⟩ := J
      obtain ⟨E1, E2⟩ := E
      dsimp only at hlr hrl hc3 hc4
      go_wp2_with fail
      with_reducible refine hc1.mono ?_
      clear hc1
      rintro x w4 ⟨v4, rfl, ho4, hb4⟩
      dsimp only at ho4
      have hq := hc2 w4 hb4
      clear hc2
      obtain ⟨A4, k4, rfl, hA4⟩ := owns_cells ho4
      clear ho4
      go_wp2_with fail
      with_reducible refine hq.mono ?_
      clear hq
      rintro x w5 ⟨v5, rfl, ho5, hb5⟩
      dsimp only at ho5
      obtain ⟨A5, k5, rfl, hA5⟩ := owns_cells ho5
      clear ho5
      have hA4 := cells_next hA4 hb5
      have hb35 := hb4.trans (hb5.mono hb4.size)
      have hq := hc3 w5 hb35
      clear hc3 hb4 hb5
      go_wp2_with fail
      with_reducible refine hq.mono ?_
      clear hq
      rintro x w6 ⟨rfl, hb6⟩
      have hA4 := cells_next hA4 hb6
      have hA5 := cells_next hA5 hb6
      have hb36 := hb35.trans (hb6.mono hb35.size)
      have hq := hc4 w6 hb36
      clear hc4 hb6 hb35
      go_wp2_with fail
      with_reducible refine hq.mono ?_
      clear hq
      rintro x w7 ⟨rfl, hb7⟩
      have hA4 := cells_next hA4 hb7
      have hA5 := cells_next hA5 hb7
      have hb37 := hb36.trans (hb7.mono hb36.size)
      have hM7 := (hb37.block lb hl3).trans hM3
      have hl7 : lb < w7.heap.size := Nat.lt_of_lt_of_le hl3 hb37.size
      have q0 : w7.cell? ⟨lb, 0, none⟩ = some (.string p) := by rw [cell_of_row _ _ _ _ _ _ hM7]; rfl
      have q1 : w7.cell? ⟨lb, 1, none⟩ = some (.int .i64 n) := by rw [cell_of_row _ _ _ _ _ _ hM7]; rfl
      have hq := hc5 w7 hb37
      clear hc5 hb7 hb36
      go_wp2_with fail
      with_reducible refine hq.mono ?_
      clear hq q0 q1
      rintro x w8 ⟨v8, rfl, ho8, hb8⟩
      dsimp only at ho8
      obtain ⟨A8, k8, rfl, hA8⟩ := owns_fls ho8
      clear ho8
      have hA4 := cells_next hA4 hb8
      have hA5 := cells_next hA5 hb8
      have hb38 := hb37.trans (hb8.mono hb37.size)
      have hM8 := (hb8.block lb hl7).trans hM7
      have hl8 : lb < w8.heap.size := Nat.lt_of_lt_of_le hl7 hb8.size
      have q0 : w8.cell? ⟨lb, 0, none⟩ = some (.string p) := by rw [cell_of_row _ _ _ _ _ _ hM8]; rfl
      have q1 : w8.cell? ⟨lb, 1, none⟩ = some (.int .i64 n) := by rw [cell_of_row _ _ _ _ _ _ hM8]; rfl
      have hq := hc6 w8 hb38
      clear hc6 hb8 hb37 hM7
      go_wp2_with fail
      with_reducible refine hq.mono ?_
      clear hq q0 q1
      rintro x w9 ⟨v9, rfl, ho9, hb9⟩
      dsimp only at ho9
      obtain ⟨A9, k9, rfl, hA9⟩ := owns_fls ho9
      clear ho9
      have hA4 := cells_next hA4 hb9
      have hA5 := cells_next hA5 hb9
      have hA8 := hA8.next hb9
      have hb39 := hb38.trans (hb9.mono hb38.size)
      have hq := eqs_true A4 A5 k4 k5 L1 w9 hA4 hA5 (by omega)
      have e1 : decide (L2 = L2) = true := decide_eq_true rfl
      have e2 : decide (J2 = J2) = true := decide_eq_true rfl
      have e3 : decide (E2 = E2) = true := decide_eq_true rfl
      have e4 : ((str J1).toList == (str J1).toList) = true := by simp
      clear hb9 hb38 hM8 hA4 hA5
      go_wp2_with fail
      with_reducible refine hq.mono ?_
      clear hq
      rintro x w10 ⟨rfl, hb10⟩
      have hb310 := hb39.trans (hb10.mono hb39.size)
      have hq := same_true A8 A9 k8 k9 E1 w10 (hA8.next hb10) (hA9.next hb10) (by omega)
      clear hb10 hb39 hA8 hA9
      go_wp2_with fail
      with_reducible refine hq.mono ?_
      clear hq
      rintro x w11 ⟨rfl, hb11⟩
      have hb311 := hb310.trans (hb11.mono hb310.size)
      go_wp2_with fail
      go_ret
      exact ⟨by first | rfl | simp, by rw [hbb]; exact hb03.trans (hb311.mono hbw3)⟩
end Go.Proofs.YtjgjkbkpdpacnaaGreatDoor
