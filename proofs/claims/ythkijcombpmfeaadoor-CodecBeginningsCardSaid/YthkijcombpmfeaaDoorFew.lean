/- Whether values are few; values that are not all writable; what four reads read of what was written. Condition: the library's table of powers of ten lies in its variable. -/
import Derived.Test.YthkijcombpmfeaaDoorAll
namespace Go.Proofs.YthkijcombpmfeaaDoor
open Go.RowKit

set_option maxHeartbeats 4000000 in
set_option maxRecDepth 100000 in
theorem few_any (n : Int) (s : ByteArray) (A : Option Addr) (c : Nat) (ns : List Int) (A' : Option Addr) (c' : Nat) (ss : List ByteArray) (w : World) (hA' : CellsAt w w.heap.size A' (strsOf ss)) (hl : ss.length ≤ 9223372036854775807) :
    Calls Tryd.prog 34 #[.agg #[.int .i64 n, .string s, .slice A ns.length c, .slice A' ss.length c']] w fun e w' => (∃ r, e = .returned (.bool r)) ∧ Below w.heap.size w w' := by
  have hd1 : ∃ r1, decide ((s.size : Int) ≤ 500) = r1 ∧ decide (s.size ≤ 500) = r1 := ⟨_, by rw [decide_eq_decide]; omega, rfl⟩
  have hd2 : ∃ r1, decide ((ns.length : Int) ≤ 30) = r1 ∧ decide (ns.length ≤ 30) = r1 := ⟨_, by rw [decide_eq_decide]; omega, rfl⟩
  have hd3 : ∃ r1, decide ((ss.length : Int) ≤ 10) = r1 ∧ decide (ss.length ≤ 10) = r1 := ⟨_, by rw [decide_eq_decide]; omega, rfl⟩
  obtain ⟨r1, d1, d1n⟩ := hd1
  obtain ⟨r2, d2, d2n⟩ := hd2
  obtain ⟨r3, d3, d3n⟩ := hd3
  obtain ⟨W, hW⟩ : ∃ W, W = w.alloc (.cells #[.int .i64 n, .string s, .slice A ns.length c, .slice A' ss.length c'] 51) := ⟨_, rfl⟩
  have hb0 : Below w.heap.size w W := by rw [hW]; exact (Below.refl w.heap.size w).alloc (Nat.le_refl _) _
  have k1 : W.cell? ⟨w.heap.size, 1, none⟩ = some (.string s) := by rw [hW]; go_simp
  have k2 : W.cell? ⟨w.heap.size, 2, none⟩ = some (.slice A ns.length c) := by rw [hW]; go_simp
  have k3 : W.cell? ⟨w.heap.size, 3, none⟩ = some (.slice A' ss.length c') := by rw [hW]; go_simp
  have hA2 := hA'.up hb0
  obtain ⟨b, hb⟩ : ∃ b, b = w.heap.size := ⟨_, rfl⟩
  have HB := Lib.hid hb
  clear hb
  go_enter Tryd.func34, Tryd.ntmps34
  go_upto_region 1 with fail
  rw [← hW, ← HB.out]
  rw [← HB.out] at k1 k2 k3
  clear hW hA'
  go_wp2_with fail
  go_loopw [8] (fun v wr => ∃ k : Nat, k ≤ ss.length ∧ v = .int .i64 k ∧ wr = W) (fun v _ => ss.length - (intOf v).toNat)
  case atStart => exact ⟨0, by omega, rfl, rfl⟩
  case round =>
    obtain ⟨k, hk, rfl, rfl⟩ := hrel
    by_cases hlt : k < ss.length
    · obtain ⟨g, o, rfl, hg, hc0⟩ := hA2 k (by simp [strsOf]; exact hlt)
      have hc : wr.cell? ⟨g, o + k, none⟩ = some (Value.string ss[k]) := by simpa [strsOf] using hc0
      clear hc0
      cases hz : decide ((200 : Int) < ss[k].size) with
      | true =>
        go_wp2_with fail
        go_ret
        exact ⟨⟨_, rfl⟩, hb0⟩
      | false =>
        go_wp2_with fail
        go_roundw
        case rel => exact ⟨k + 1, by omega, by go_num, trivial⟩
        case measure => simp [intOf]; omega
    · cases r1 <;> cases r2 <;> cases r3
      all_goals
        go_wp2_with fail
        go_ret
        exact ⟨⟨_, rfl⟩, hb0⟩

theorem numV_form (n : Int) : ∃ (x : ByteArray) (y : Int), numV n = .tuple #[.string x, .int .i64 y] ∧ x.size ≤ 80000000 ∧ (y == 0) = okN n := by
  cases h : okN n with
  | true => exact ⟨_, _, numV_ok n h, by rw [str_size]; exact Nat.le_trans (encN_len n h) (by omega), rfl⟩
  | false => exact ⟨_, _, numV_bad n h, by decide, rfl⟩
theorem txtV_form (s : ByteArray) : ∃ (x : ByteArray) (y : Int), txtV s = .tuple #[.string x, .int .i64 y] ∧ x.size ≤ 80000000 ∧ (y == 0) = okS s := by
  cases h : okS s with
  | true => exact ⟨_, _, txtV_ok s h, by rw [str_size]; exact Nat.le_trans (encS_len s h) (by omega), rfl⟩
  | false => exact ⟨_, _, txtV_bad s h, by decide, rfl⟩
theorem numsV_form (zs : List Int) : ∃ (x : ByteArray) (y : Int), numsV zs = .tuple #[.string x, .int .i64 y] ∧ x.size ≤ 80000000 ∧ (y == 0) = (decide (zs.length ≤ 1024) && zs.all okN) := by
  by_cases h : zs.length ≤ 1024
  · cases h2 : zs.all okN with
    | true => exact ⟨_, _, numsV_ok zs h h2, by rw [str_size]; exact nums_le zs h h2, by simp [h]⟩
    | false => exact ⟨⟨#[]⟩, 3, by unfold numsV; rw [if_neg (by omega), if_neg (by rw [h2]; decide)], by decide, by simp⟩
  · exact ⟨⟨#[]⟩, 10, by unfold numsV; rw [if_pos (by omega)], by decide, by simp [h]⟩
theorem txtsV_form (zs : List ByteArray) : ∃ (x : ByteArray) (y : Int), txtsV zs = .tuple #[.string x, .int .i64 y] ∧ x.size ≤ 80000000 ∧ (y == 0) = (decide (zs.length ≤ 1024) && zs.all okS) := by
  by_cases h : zs.length ≤ 1024
  · cases h2 : zs.all okS with
    | true => exact ⟨_, _, txtsV_ok zs h h2, by rw [str_size]; exact txts_le zs h h2, by simp [h]⟩
    | false => exact ⟨⟨#[]⟩, 10, by unfold txtsV; rw [if_neg (by omega), if_neg (by rw [h2]; decide)], by decide, by simp⟩
  · exact ⟨⟨#[]⟩, 10, by unfold txtsV; rw [if_pos (by omega)], by decide, by simp [h]⟩
theorem not_ok {n : Int} {s : ByteArray} {ns : List Int} {ss : List ByteArray} {y1 y2 y3 y4 : Int} (h : ¬ allOk n s ns ss) (h1 : (y1 == 0) = okN n) (h2 : (y2 == 0) = okS s) (h3 : (y3 == 0) = (decide (ns.length ≤ 1024) && ns.all okN)) (h4 : (y4 == 0) = (decide (ss.length ≤ 1024) && ss.all okS)) :
    (y1 == 0) = false ∨ ((y1 == 0) = true ∧ (y2 == 0) = false) ∨ ((y1 == 0) = true ∧ (y2 == 0) = true ∧ (y3 == 0) = false) ∨ ((y1 == 0) = true ∧ (y2 == 0) = true ∧ (y3 == 0) = true ∧ (y4 == 0) = false) := by
  cases a1 : (y1 == 0) with
  | false => exact .inl rfl
  | true =>
    cases a2 : (y2 == 0) with
    | false => exact .inr (.inl ⟨rfl, rfl⟩)
    | true =>
      cases a3 : (y3 == 0) with
      | false => exact .inr (.inr (.inl ⟨rfl, rfl, rfl⟩))
      | true =>
        cases a4 : (y4 == 0) with
        | false => exact .inr (.inr (.inr ⟨rfl, rfl, rfl, rfl⟩))
        | true =>
          rw [a1] at h1; rw [a2] at h2; rw [a3] at h3; rw [a4] at h4
          exact absurd ⟨h1.symm, h2.symm, by simpa using h3.symm, by simpa using h4.symm⟩ h

set_option maxHeartbeats 4000000 in
set_option maxRecDepth 100000 in
theorem write_bad (n : Int) (s : ByteArray) (A : Option Addr) (c : Nat) (ns : List Int) (A' : Option Addr) (c' : Nat) (ss : List ByteArray) (w : World) (hT : Tabs w) (hA : CellsAt w w.heap.size A (intsOf ns)) (hA' : CellsAt w w.heap.size A' (strsOf ss)) (h : ¬ allOk n s ns ss) :
    Calls Tryd.prog 35 #[.agg #[.int .i64 n, .string s, .slice A ns.length c, .slice A' ss.length c']] w fun e w' => (∃ o, e = .returned (.tuple #[.string o, .bool false])) ∧ Below w.heap.size w w' := by
  obtain ⟨x1, y1, v1, e1, f1⟩ := numV_form n
  obtain ⟨x2, y2, v2, e2, f2⟩ := txtV_form s
  obtain ⟨x3, y3, v3, e3, f3⟩ := numsV_form ns
  obtain ⟨x4, y4, v4, e4, f4⟩ := txtsV_form ss
  have hno := not_ok h f1 f2 f3 f4
  replace v1 := Lib.hid v1
  replace v2 := Lib.hid v2
  replace v3 := Lib.hid v3
  replace v4 := Lib.hid v4
  have z1 : (x1 ++ x2).size ≤ 160000000 := by simp; omega
  have z2 : (x1 ++ x2 ++ x3).size ≤ 240000000 := by simp; omega
  have z3 : (x1 ++ x2 ++ x3 ++ x4).size ≤ 320000000 := by simp; omega
  obtain ⟨W, hW⟩ : ∃ W, W = w.alloc (.cells #[.int .i64 n, .string s, .slice A ns.length c, .slice A' ss.length c'] 51) := ⟨_, rfl⟩
  have hb0 : Below w.heap.size w W := by rw [hW]; exact (Below.refl w.heap.size w).alloc (Nat.le_refl _) _
  have hlt : w.heap.size < W.heap.size := by rw [hW]; simp
  have k1 : W.cell? ⟨w.heap.size, 1, none⟩ = some (.string s) := by rw [hW]; go_simp
  have k2 : W.cell? ⟨w.heap.size, 2, none⟩ = some (.slice A ns.length c) := by rw [hW]; go_simp
  have k3 : W.cell? ⟨w.heap.size, 3, none⟩ = some (.slice A' ss.length c') := by rw [hW]; go_simp
  obtain ⟨b, hb⟩ : ∃ b, b = w.heap.size := ⟨_, rfl⟩
  have HB := Lib.hid hb
  clear h f1 f2 f3 f4 hb
  go_enter Tryd.func35, Tryd.ntmps35
  go_wp2_with fail
  rw [← hW, ← HB.out]
  rw [← HB.out] at k1 k2 k3 hlt
  clear hW
  have hcall := number_any n W (hT.below hb0)
  with_reducible refine hcall.mono ?_
  clear hcall
  rw [v1.out]
  rintro e w1 ⟨rfl, hb1⟩
  replace k1 := (hb1.cell (p := ⟨b, 1, none⟩) hlt).trans k1
  replace k2 := (hb1.cell (p := ⟨b, 2, none⟩) hlt).trans k2
  replace k3 := (hb1.cell (p := ⟨b, 3, none⟩) hlt).trans k3
  replace hlt := Nat.lt_of_lt_of_le hlt hb1.size
  replace hb0 := hb0.trans (hb1.mono hb0.size)
  clear hb1
  go_wp2_with fail
  have hcall := text_any s w1 (hT.below hb0)
  with_reducible refine hcall.mono ?_
  clear hcall
  rw [v2.out]
  rintro e w2 ⟨rfl, hb1⟩
  replace k2 := (hb1.cell (p := ⟨b, 2, none⟩) hlt).trans k2
  replace k3 := (hb1.cell (p := ⟨b, 3, none⟩) hlt).trans k3
  replace hlt := Nat.lt_of_lt_of_le hlt hb1.size
  replace hb0 := hb0.trans (hb1.mono hb0.size)
  clear hb1 k1
  go_wp2_with fail
  have hA2 := hA.up hb0
  have hcall := nums_any A c ns w2 (hT.below hb0) hA2
  with_reducible refine hcall.mono ?_
  clear hcall
  rw [v3.out]
  rintro e w3 ⟨rfl, hb1⟩
  replace k3 := (hb1.cell (p := ⟨b, 3, none⟩) hlt).trans k3
  replace hlt := Nat.lt_of_lt_of_le hlt hb1.size
  replace hb0 := hb0.trans (hb1.mono hb0.size)
  clear hb1 k2 hA2
  go_wp2_with fail
  have hA2 := hA'.up hb0
  have hcall := txts_any A' c' ss w3 (hT.below hb0) hA2
  with_reducible refine hcall.mono ?_
  clear hcall
  rw [v4.out]
  rintro e w4 ⟨rfl, hb1⟩
  replace hb0 := hb0.trans (hb1.mono hb0.size)
  clear hb1 k3 hA2
  rcases hno with d1 | ⟨d1, d2⟩ | ⟨d1, d2, d3⟩ | ⟨d1, d2, d3, d4⟩
  all_goals
    go_wp2_with fail
    go_ret2
    exact ⟨⟨_, rfl⟩, hb0⟩

/-- What four reads read of what was written. -/
theorem num_next (n : Int) (h : okN n = true) (rest : List UInt8) : Cod.number 0 281474976710656 ⟨encN n ++ rest, 0⟩ = (n, ⟨rest, 0⟩) := by
  have h1 : 0 ≤ n ∧ n ≤ 281474976710656 := by simpa [okN] using h
  have h2 := Cod.number_num n.toNat (by omega) 0 281474976710656 (by omega) (by omega) rest
  rw [Int.toNat_of_nonneg h1.1] at h2
  exact h2
theorem txt_next (s : ByteArray) (h : okS s = true) (rest : List UInt8) : Cod.text 65536 ⟨encS s ++ rest, 0⟩ = (s.data.toList, ⟨rest, 0⟩) := by
  have h1 : s.data.toList.length ≤ 65536 := by
    have : s.size ≤ 65536 := by simpa [okS] using h
    exact this
  exact Cod.text_txt s.data.toList h1 65536 (by omega) rest
theorem nextT_next (s : ByteArray) (h : okS s = true) (rest : List UInt8) : nextT 65536 ⟨encS s ++ rest, 0⟩ = (s, ⟨rest, 0⟩) := by
  unfold nextT
  rw [txt_next s h rest, str_of]
theorem nums_next (zs : List Int) (h : zs.length ≤ 1024) (h2 : zs.all okN = true) (rest : List UInt8) : Cod.list (Cod.number 0 281474976710656) ⟨Cod.num zs.length ++ zs.flatMap encN ++ rest, 0⟩ = (zs, ⟨rest, 0⟩) := by
  rw [List.append_assoc]
  exact Cod.list_back _ encN zs h (fun x hx r => num_next x (List.all_eq_true.1 h2 x hx) r) rest
theorem txts_next (zs : List ByteArray) (h : zs.length ≤ 1024) (h2 : zs.all okS = true) (rest : List UInt8) : Cod.list (nextT 65536) ⟨Cod.num zs.length ++ zs.flatMap encS ++ rest, 0⟩ = (zs, ⟨rest, 0⟩) := by
  rw [List.append_assoc]
  exact Cod.list_back _ encS zs h (fun x hx r => nextT_next x (List.all_eq_true.1 h2 x hx) r) rest
end Go.Proofs.YthkijcombpmfeaaDoor
