/- The law CodecReturns returns true. Condition: the library's table of powers of ten lies in its variable. -/
import Derived.Test.YthkijcombpmfeaaDoorFew
namespace Go.Proofs.YthkijcombpmfeaaDoor
open Go.RowKit

theorem encAll_le {n : Int} {s : ByteArray} {ns : List Int} {ss : List ByteArray} (h : allOk n s ns ss) : (encAll n s ns ss).length ≤ 170000000 := by
  obtain ⟨h1, h2, ⟨h3, h4⟩, h5, h6⟩ := h
  have e1 := encN_len n h1
  have e2 := encS_len s h2
  have e3 := nums_le ns h3 h4
  have e4 := txts_le ss h5 h6
  rw [List.length_append] at e3 e4
  unfold encAll
  simp only [List.length_append]
  omega
theorem all_forth {n : Int} {s : ByteArray} {ns : List Int} {ss : List ByteArray} (h : allOk n s ns ss) (q : List UInt8) : ∃ L1 L2 L3 L4 : List UInt8, encAll n s ns ss ++ q = L1 ∧
    Cod.number 0 281474976710656 ⟨L1, 0⟩ = (n, ⟨L2, 0⟩) ∧ Cod.text 65536 ⟨L2, 0⟩ = (s.data.toList, ⟨L3, 0⟩) ∧ Cod.list (Cod.number 0 281474976710656) ⟨L3, 0⟩ = (ns, ⟨L4, 0⟩) ∧ Cod.list (nextT 65536) ⟨L4, 0⟩ = (ss, ⟨q, 0⟩) ∧
    L2.length ≤ L1.length ∧ L3.length ≤ L1.length ∧ L4.length ≤ L1.length := by
  obtain ⟨h1, h2, ⟨h3, h4⟩, h5, h6⟩ := h
  refine ⟨_, _, _, _, ?_, num_next n h1 _, txt_next s h2 _, nums_next ns h3 h4 _, txts_next ss h5 h6 q, ?_, ?_, ?_⟩
  · unfold encAll; simp only [List.append_assoc]
  · simp only [List.length_append]; omega
  · simp only [List.length_append]; omega
  · simp only [List.length_append]; omega

set_option maxHeartbeats 8000000 in
set_option maxRecDepth 100000 in
theorem returns_law (n : Int) (s : ByteArray) (A : Option Addr) (c : Nat) (ns : List Int) (A' : Option Addr) (c' : Nat) (ss : List ByteArray) (t : ByteArray) (w : World) (hT : Tabs w) (hA : CellsAt w w.heap.size A (intsOf ns)) (hA' : CellsAt w w.heap.size A' (strsOf ss)) (hl : ss.length ≤ 9223372036854775807) :
    Calls Tryd.prog 6 #[.agg #[.int .i64 n, .string s, .slice A ns.length c, .slice A' ss.length c'], .string t] w fun e w' => e = .returned (.bool true) ∧ Below w.heap.size w w' := by
  obtain ⟨W, hW⟩ : ∃ W, W = w.alloc (.cells #[.int .i64 n, .string s, .slice A ns.length c, .slice A' ss.length c'] 51) := ⟨_, rfl⟩
  have hb0 : Below w.heap.size w W := by rw [hW]; exact (Below.refl w.heap.size w).alloc (Nat.le_refl _) _
  have hlt : w.heap.size < W.heap.size := by rw [hW]; simp
  have k0 : W.cell? ⟨w.heap.size, 0, none⟩ = some (.int .i64 n) := by rw [hW]; go_simp
  have k1 : W.cell? ⟨w.heap.size, 1, none⟩ = some (.string s) := by rw [hW]; go_simp
  have k2 : W.cell? ⟨w.heap.size, 2, none⟩ = some (.slice A ns.length c) := by rw [hW]; go_simp
  have k3 : W.cell? ⟨w.heap.size, 3, none⟩ = some (.slice A' ss.length c') := by rw [hW]; go_simp
  obtain ⟨b0, hb⟩ : ∃ b, b = w.heap.size := ⟨_, rfl⟩
  have HB := Lib.hid hb
  clear hb
  go_enter Tryd.func6, Tryd.ntmps6
  go_wp2_with fail
  rw [← hW, ← HB.out]
  rw [← HB.out] at k0 k1 k2 k3 hlt
  clear hW
  refine (awake_any W (hT.below hb0)).mono ?_
  rintro e w1 ⟨rfl, hb1⟩
  replace k0 := (hb1.cell (p := ⟨b0, 0, none⟩) hlt).trans k0
  replace k1 := (hb1.cell (p := ⟨b0, 1, none⟩) hlt).trans k1
  replace k2 := (hb1.cell (p := ⟨b0, 2, none⟩) hlt).trans k2
  replace k3 := (hb1.cell (p := ⟨b0, 3, none⟩) hlt).trans k3
  replace hlt := Nat.lt_of_lt_of_le hlt hb1.size
  replace hb0 := hb0.trans (hb1.mono hb0.size)
  clear hb1
  go_wp2_with fail
  have hcall := few_any n s A c ns A' c' ss w1 (hA'.up hb0) hl
  with_reducible refine hcall.mono ?_
  clear hcall
  rintro e w2 ⟨⟨r, rfl⟩, hb1⟩
  replace k0 := (hb1.cell (p := ⟨b0, 0, none⟩) hlt).trans k0
  replace k1 := (hb1.cell (p := ⟨b0, 1, none⟩) hlt).trans k1
  replace k2 := (hb1.cell (p := ⟨b0, 2, none⟩) hlt).trans k2
  replace k3 := (hb1.cell (p := ⟨b0, 3, none⟩) hlt).trans k3
  replace hlt := Nat.lt_of_lt_of_le hlt hb1.size
  replace hb0 := hb0.trans (hb1.mono hb0.size)
  clear hb1
  have hd : r = false ∨ (r = true ∧ decide ((100 : Int) < t.size) = true) ∨ (r = true ∧ decide ((100 : Int) < t.size) = false ∧ t.size ≤ 100) := by
    cases r with
    | false => exact .inl rfl
    | true =>
      by_cases h : 100 < t.size
      · exact .inr (.inl ⟨rfl, by simp; omega⟩)
      · exact .inr (.inr ⟨rfl, by simp; omega, by omega⟩)
  rcases hd with rfl | ⟨rfl, d1⟩ | ⟨rfl, d1, ht⟩
  · go_wp2_with fail
    go_ret
    exact ⟨rfl, hb0⟩
  · go_wp2_with fail
    go_ret
    exact ⟨rfl, hb0⟩
  · by_cases hok : allOk n s ns ss
    · go_wp2_with fail
      have hcall := write_ok n s A c ns A' c' ss w2 (hT.below hb0) (hA.up hb0) (hA'.up hb0) hok
      with_reducible refine hcall.mono ?_
      clear hcall
      rintro e w3 ⟨rfl, hb1⟩
      replace k0 := (hb1.cell (p := ⟨b0, 0, none⟩) hlt).trans k0
      replace k1 := (hb1.cell (p := ⟨b0, 1, none⟩) hlt).trans k1
      replace k2 := (hb1.cell (p := ⟨b0, 2, none⟩) hlt).trans k2
      replace k3 := (hb1.cell (p := ⟨b0, 3, none⟩) hlt).trans k3
      replace hlt := Nat.lt_of_lt_of_le hlt hb1.size
      replace hb0 := hb0.trans (hb1.mono hb0.size)
      clear hb1
      have hel := encAll_le hok
      obtain ⟨L1, L2, L3, L4, g0, g1, g2, g3, g4, l2, l3, l4⟩ := all_forth hok t.data.toList
      have hj : str (encAll n s ns ss) ++ t = str L1 := by rw [← g0, ← str_app, str_of]
      have hL1 : L1.length ≤ 180000000 := by
        rw [← g0, List.length_append]
        have : t.data.toList.length = t.size := rfl
        omega
      have hjs : (str L1).size ≤ 180000000 := by rw [str_size]; exact hL1
      have hos : (str (encAll n s ns ss)).size ≤ 170000000 := by rw [str_size]; exact hel
      have hnl : ns.length ≤ 1024 := hok.2.2.1.1
      have hsl : ss.length ≤ 1024 := hok.2.2.2.1
      generalize str (encAll n s ns ss) = out at *
      have hjz : (out ++ t).size ≤ 180000000 := by rw [hj]; exact hjs
      have HJ := Lib.hid hj
      have HS := Lib.hid (str_of s)
      have HQ := Lib.hid (str_of t)
      clear hj g0 hok hel
      go_wp2_with fail
      rw [HJ.out]
      have hcall := newReader_any (str L1) w3
      with_reducible refine hcall.mono ?_
      clear hcall
      rintro e w4 ⟨rfl, hr, hb1⟩
      obtain ⟨b, hb⟩ : ∃ b, b = w3.heap.size := ⟨_, rfl⟩
      rw [← hb] at hr
      rw [← hb]
      have hwb : w.heap.size ≤ b := by rw [hb]; exact hb0.size
      have hbs : b0 + 1 ≤ b := by rw [hb]; exact hlt
      replace k0 := (hb1.cell (p := ⟨b0, 0, none⟩) hlt).trans k0
      replace k1 := (hb1.cell (p := ⟨b0, 1, none⟩) hlt).trans k1
      replace k2 := (hb1.cell (p := ⟨b0, 2, none⟩) hlt).trans k2
      replace k3 := (hb1.cell (p := ⟨b0, 3, none⟩) hlt).trans k3
      replace hlt := Nat.lt_of_lt_of_le hlt hb1.size
      replace hb0 := hb0.trans (hb1.mono hb0.size)
      clear hb1 hb
      go_wp2_with fail
      have hcall := rdNumber_at b 0 281474976710656 ⟨L1, 0⟩ w4 hr (by show L1.length ≤ _; omega)
      rw [g1] at hcall
      with_reducible refine hcall.mono ?_
      clear hcall
      rintro e w5 ⟨rfl, hr5, hg⟩
      have hbc := below_grown hg hbs hlt
      replace k0 := (hbc.cell (p := ⟨b0, 0, none⟩) (Nat.lt_succ_self b0)).trans k0
      replace k1 := (hbc.cell (p := ⟨b0, 1, none⟩) (Nat.lt_succ_self b0)).trans k1
      replace k2 := (hbc.cell (p := ⟨b0, 2, none⟩) (Nat.lt_succ_self b0)).trans k2
      replace k3 := (hbc.cell (p := ⟨b0, 3, none⟩) (Nat.lt_succ_self b0)).trans k3
      replace hlt := Nat.lt_of_lt_of_le hlt hbc.size
      replace hb0 := hb0.trans (below_grown hg hwb hb0.size)
      clear hg hbc hr
      go_wp2_with fail
      have hcall := rdText_at b 65536 ⟨L2, 0⟩ w5 hr5 (by show L2.length ≤ _; omega)
      rw [g2] at hcall
      with_reducible refine hcall.mono ?_
      clear hcall
      rw [HS.out]
      rintro e w6 ⟨rfl, hr6, hg⟩
      have hbc := below_grown hg hbs hlt
      replace k0 := (hbc.cell (p := ⟨b0, 0, none⟩) (Nat.lt_succ_self b0)).trans k0
      replace k1 := (hbc.cell (p := ⟨b0, 1, none⟩) (Nat.lt_succ_self b0)).trans k1
      replace k2 := (hbc.cell (p := ⟨b0, 2, none⟩) (Nat.lt_succ_self b0)).trans k2
      replace k3 := (hbc.cell (p := ⟨b0, 3, none⟩) (Nat.lt_succ_self b0)).trans k3
      replace hlt := Nat.lt_of_lt_of_le hlt hbc.size
      replace hb0 := hb0.trans (below_grown hg hwb hb0.size)
      clear hg hbc hr5
      go_wp2_with fail
      have hcall := rdNumbers_at b 0 281474976710656 ⟨L3, 0⟩ w6 hr6 (by show L3.length ≤ _; omega)
      rw [g3] at hcall
      with_reducible refine hcall.mono ?_
      clear hcall
      rintro e w7 hgot
      obtain ⟨v, rfl, hown, hr7, hg⟩ := hgot
      have hb6 : b < w6.heap.size := hr6.lt
      have hbc := below_grown hg hbs hlt
      replace k0 := (hbc.cell (p := ⟨b0, 0, none⟩) (Nat.lt_succ_self b0)).trans k0
      replace k1 := (hbc.cell (p := ⟨b0, 1, none⟩) (Nat.lt_succ_self b0)).trans k1
      replace k2 := (hbc.cell (p := ⟨b0, 2, none⟩) (Nat.lt_succ_self b0)).trans k2
      replace k3 := (hbc.cell (p := ⟨b0, 3, none⟩) (Nat.lt_succ_self b0)).trans k3
      replace hlt := Nat.lt_of_lt_of_le hlt hbc.size
      replace hb0 := hb0.trans (below_grown hg hwb hb0.size)
      clear hg hbc hr6
      go_wp2_with fail
      have hcall := rdTexts_at b 65536 ⟨L4, 0⟩ w7 hr7 (by show L4.length ≤ _; omega)
      rw [g4] at hcall
      with_reducible refine hcall.mono ?_
      clear hcall
      rintro e w8 hgot
      obtain ⟨v', rfl, hown', hr8, hg⟩ := hgot
      have hbc := below_grown hg hbs hlt
      replace k0 := (hbc.cell (p := ⟨b0, 0, none⟩) (Nat.lt_succ_self b0)).trans k0
      replace k1 := (hbc.cell (p := ⟨b0, 1, none⟩) (Nat.lt_succ_self b0)).trans k1
      replace k2 := (hbc.cell (p := ⟨b0, 2, none⟩) (Nat.lt_succ_self b0)).trans k2
      replace k3 := (hbc.cell (p := ⟨b0, 3, none⟩) (Nat.lt_succ_self b0)).trans k3
      replace hlt := Nat.lt_of_lt_of_le hlt hbc.size
      replace hown := owns_kept hown hg hb6
      replace hb0 := hb0.trans (below_grown hg hwb hb0.size)
      clear hg hbc hr7 hb6
      obtain ⟨A1, c1, rfl, hA1⟩ := owns_cells hown
      obtain ⟨A1', c1', rfl, hA1'⟩ := owns_cells hown'
      clear hown hown'
      replace hr8 : RdAt w8 b t 0 := by
        have h8 : RdAt w8 b (str t.data.toList) 0 := hr8
        rw [HQ.out] at h8
        exact h8
      go_wp2_with fail
      have hcall := sameNumbers_true A1 A c1 c ns w8 hA1 (hA.up hb0) (by omega)
      with_reducible refine hcall.mono ?_
      clear hcall
      rintro e w9 ⟨rfl, hbc⟩
      replace k0 := (hbc.cell (p := ⟨b0, 0, none⟩) hlt).trans k0
      replace k1 := (hbc.cell (p := ⟨b0, 1, none⟩) hlt).trans k1
      replace k2 := (hbc.cell (p := ⟨b0, 2, none⟩) hlt).trans k2
      replace k3 := (hbc.cell (p := ⟨b0, 3, none⟩) hlt).trans k3
      replace hlt := Nat.lt_of_lt_of_le hlt hbc.size
      replace hb0 := hb0.trans (hbc.mono hb0.size)
      replace hr8 := hr8.below hbc
      replace hA1' := hA1'.up hbc
      clear hbc
      go_wp2_with fail
      have hcall := sameTexts_true A1' A' c1' c' ss w9 hA1' (hA'.up hb0) (by omega)
      with_reducible refine hcall.mono ?_
      clear hcall
      rintro e w10 ⟨rfl, hbc⟩
      replace hb0 := hb0.trans (hbc.mono hb0.size)
      replace hr8 := hr8.below hbc
      clear hbc hA1 hA1' hA hA' k0 k1 k2 k3
      go_wp2_with fail
      refine (err_any b _ _ _ hr8).mono ?_
      rintro e w11 ⟨rfl, rfl⟩
      go_wp2_with fail
      refine (left_any b _ _ _ hr8).mono ?_
      rintro e w11 ⟨rfl, rfl⟩
      go_wp2_with fail
      refine (close_any b _ _ _ hr8).mono ?_
      rintro e w11 ⟨rfl, rfl⟩
      by_cases h0 : t.size = 0
      · rw [show closeI t 0 = 0 from if_pos h0]
        obtain rfl : t = ⟨#[]⟩ := by
          apply ByteArray.ext
          exact Array.eq_empty_of_size_eq_zero h0
        clear h0
        go_wp2_with fail
        go_ret
        exact ⟨rfl, hb0⟩
      · rw [show closeI t 0 = 17 from if_neg h0]
        have hne : (!t.toList.isEmpty) = true := nonempty_of h0
        have hne2 : t.toList.isEmpty = false := by simpa using hne
        have hne3 : (t.toList == []) = false := by
          cases hh : t.toList with
          | nil => rw [hh] at hne2; cases hne2
          | cons => rfl
        clear h0
        go_wp2_with fail
        go_ret
        exact ⟨rfl, hb0⟩
    · go_wp2_with fail
      have hcall := write_bad n s A c ns A' c' ss w2 (hT.below hb0) (hA.up hb0) (hA'.up hb0) hok
      with_reducible refine hcall.mono ?_
      clear hcall
      rintro e w3 ⟨⟨o, rfl⟩, hb1⟩
      replace hb0 := hb0.trans (hb1.mono hb0.size)
      clear hb1
      go_wp2_with fail
      go_ret
      exact ⟨rfl, hb0⟩
end Go.Proofs.YthkijcombpmfeaaDoor
