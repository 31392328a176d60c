/- The head lines of hunks with few lines: parseHead of the program. No condition. -/
import Derived.Test.YtlfgnecfabdkmaaGreatDoorInv
import Derived.Lib.Atoi
import Derived.Lib.SmallJoins
namespace Go.Proofs.YtlfgnecfabdkmaaGreatDoor
open Go.RowKit Go.Deep Tr

theorem atoi_digit : ∀ n : Nat, n < 10 → 1 ≤ n → Lib.atoi [UInt8.ofNat (48 + n)] = some (n : Int) := by decide +kernel
theorem dec_digit (n : Nat) (h : n < 10) : Lib.decDigits n = [UInt8.ofNat (48 + n)] := by rw [Lib.decDigits, dif_pos h]
theorem keep3 {w w1 : World} {v0 v1 v2 : Value} {T : TypeId} (h : w1.heap[w.heap.size]? = some (.cells #[v0, v1, v2] T (0, 0))) :
    w1.cell? ⟨w.heap.size, 0, none⟩ = some v0 ∧ w1.cell? ⟨w.heap.size, 1, none⟩ = some v1 ∧ w1.cell? ⟨w.heap.size, 2, none⟩ = some v2 ∧ w1.frozen? ⟨w.heap.size, 0, none⟩ = false ∧ w1.frozen? ⟨w.heap.size, 1, none⟩ = false ∧ w1.frozen? ⟨w.heap.size, 2, none⟩ = false :=
  ⟨by rw [cell_of_row _ _ _ _ _ _ h]; rfl, by rw [cell_of_row _ _ _ _ _ _ h]; rfl, by rw [cell_of_row _ _ _ _ _ _ h]; rfl, frozen_of_row _ _ _ _ _ h, frozen_of_row _ _ _ _ _ h, frozen_of_row _ _ _ _ _ h⟩
theorem cut_yes (p d : List UInt8) (w : World) : Calls Tryz.prog 44 #[.string (str (p ++ d)), .string (str p)] w fun e w' => e = .returned (.tuple #[.string (str d), .bool true]) ∧ w = w' := (Tryz.strings_CutPrefix (str (p ++ d)) (str p) w).mono fun e w' h => by
  have hp : Lib.hasPrefix (str (p ++ d)).data.toList (str p).data.toList = true := by
    rw [str_data, str_data]; unfold Lib.hasPrefix; simp
  refine ⟨?_, h.2.symm⟩
  rw [h.1, hp]
  have : Lib.trimPrefix (str (p ++ d)).data.toList (str p).data.toList = d := by
    unfold Lib.trimPrefix
    rw [hp, if_pos rfl, str_data, str_data]; simp
  rw [this]; rfl
theorem cut_no (s p : List UInt8) (h0 : p.isPrefixOf s = false) (w : World) : Calls Tryz.prog 44 #[.string (str s), .string (str p)] w fun e w' => e = .returned (.tuple #[.string (str s), .bool false]) ∧ w = w' := (Tryz.strings_CutPrefix (str s) (str p) w).mono fun e w' h => by
  have hp : Lib.hasPrefix (str s).data.toList (str p).data.toList = false := h0
  refine ⟨?_, h.2.symm⟩
  rw [h.1, hp]
  have : Lib.trimPrefix (str s).data.toList (str p).data.toList = s := by
    unfold Lib.trimPrefix
    rw [hp, if_neg (by simp)]
    exact str_data s
  rw [this]; rfl
set_option maxHeartbeats 4000000 in
set_option maxRecDepth 100000 in
theorem head_1 (n : Nat) (h1 : 1 ≤ n) (h9 : n < 10) (w : World) : Calls Tryz.prog 46 #[.string (str ([107, 101, 101, 112, 32] ++ [UInt8.ofNat (48 + n)]))] w fun e w' => e = .returned (.tuple #[.agg #[.int .i64 1, .int .i64 n, .slice none 0 0], .bool true]) ∧ Below w.heap.size w w' := by
  have hb0 : Below w.heap.size w (w.alloc (.cells #[.int .i64 0, .int .i64 0, .slice none 0 0] 54)) := (Below.refl _ _).alloc (Nat.le_refl _) _
  have hk0 := heap_alloc_new w (.cells #[.int .i64 0, .int .i64 0, .slice none 0 0] 54)
  have hat := fun w => Tryz.strconv_Atoi (str [UInt8.ofNat (48 + n)]) (n : Int) (by rw [str_size]; simp) (atoi_digit n h9 h1) w
  have hit := fun w => Tryz.strconv_Itoa_small n (by omega) w
  rw [dec_digit n h9] at hit
  have hw := fun (k : Int) w => wordOf_any k w
  have hyes := fun w => cut_yes [107, 101, 101, 112, 32] [UInt8.ofNat (48 + n)] w
  have hix0 : ∀ w, Sem.run Tryz.prog (Instr.index 96 (.agg #[.int .i64 1, .int .i64 2, .int .i64 3]) (.int .i64 0)) w = .ok (.int .i64 1) w := fun w => rfl
  have hs3 : Tryz.prog.types[3].size = 1 := rfl
  generalize [UInt8.ofNat (48 + n)] = d at *
  generalize str ([107, 101, 101, 112, 32] ++ d) = ln at *
  have g0 : decide ((0 : Int) < (n : Int)) = true := decide_eq_true (by omega)
  have g0n : decide (0 < n) = true := decide_eq_true (by omega)
  have g1 : ((str d).toList == (str d).toList) = true := by simp
  go_enter Tryz.func46, Tryz.ntmps46
  go_wp2_with fail
  go_loopw [11] (fun s11 wr => ∃ i : Nat, i < 1 ∧ s11 = .int .i64 i ∧ Below w.heap.size w wr ∧ wr.heap[w.heap.size]? = some (.cells #[.int .i64 0, .int .i64 0, .slice none 0 0] 54 (0, 0))) (fun s11 _ => 1 - (intOf s11).toNat)
  case atStart => exact ⟨0, by omega, rfl, hb0, hk0⟩
  case round =>
    clear hb0 hk0
    obtain ⟨i, hi, rfl, hb, hk⟩ := hrel
    obtain rfl : i = 0 := by omega
    have c1 := hw 1 wr
    have c2 := hyes wr
    rw [show str (Pc.word 1) = str [107, 101, 101, 112, 32] from rfl] at c1
    go_wp2_with (first | (go_at_call 34; (with_reducible refine c1.mono ?_); rintro e w' ⟨rfl, rfl⟩) | (go_at_call 44; (with_reducible refine c2.mono ?_); rintro e w' ⟨rfl, rfl⟩))
    have c3 := hat wr
    with_reducible refine c3.mono ?_
    clear c3 c1 c2
    rintro e w3 ⟨rfl, t, rfl⟩
    have hb3 := Go.Joins.below_bytesWorld wr.heap.size wr 5 t (Nat.le_refl _)
    have hk3 := (hb3.block _ (blk_lt hk)).trans hk
    have hb03 := hb.trans (hb3.mono hb.size)
    generalize Lib.bytesWorld wr 5 t = w3 at *
    obtain ⟨r0, r1, r2, f0, f1, f2⟩ := keep3 hk3
    have c4 := hit w3
    rw [show (⟨d.toArray⟩ : ByteArray) = str d from rfl] at c4
    have HB := Lib.hid (((hb03.setCell (p := ⟨w.heap.size, 0, none⟩) (Nat.le_refl _) (.int .i64 1)).setCell (p := ⟨w.heap.size, 1, none⟩) (Nat.le_refl _) (.int .i64 n)).setCell (p := ⟨w.heap.size, 2, none⟩) (Nat.le_refl _) (.slice none 0 0))
    clear hb3 hk3 hb03 hb hk
    go_wp2_with (go_at_call 35; (with_reducible refine c4.mono ?_); rintro e w' ⟨rfl, rfl⟩)
    exact bodyPost_ret (v := .tuple #[.agg #[.int .i64 1, .int .i64 n, .slice none 0 0], .bool true]) (by simp [results, Tryz.results46, go_sem, r0, r1, r2]) rfl ⟨rfl, HB.out⟩
set_option maxHeartbeats 4000000 in
set_option maxRecDepth 100000 in
theorem head_2 (n : Nat) (h1 : 1 ≤ n) (h9 : n < 10) (w : World) : Calls Tryz.prog 46 #[.string (str ([100, 114, 111, 112, 32] ++ [UInt8.ofNat (48 + n)]))] w fun e w' => e = .returned (.tuple #[.agg #[.int .i64 2, .int .i64 n, .slice none 0 0], .bool true]) ∧ Below w.heap.size w w' := by
  have hb0 : Below w.heap.size w (w.alloc (.cells #[.int .i64 0, .int .i64 0, .slice none 0 0] 54)) := (Below.refl _ _).alloc (Nat.le_refl _) _
  have hk0 := heap_alloc_new w (.cells #[.int .i64 0, .int .i64 0, .slice none 0 0] 54)
  have hat := fun w => Tryz.strconv_Atoi (str [UInt8.ofNat (48 + n)]) (n : Int) (by rw [str_size]; simp) (atoi_digit n h9 h1) w
  have hit := fun w => Tryz.strconv_Itoa_small n (by omega) w
  rw [dec_digit n h9] at hit
  have hw := fun (k : Int) w => wordOf_any k w
  have hyes := fun w => cut_yes [100, 114, 111, 112, 32] [UInt8.ofNat (48 + n)] w
  have hno1 := fun w => cut_no ([100, 114, 111, 112, 32] ++ [UInt8.ofNat (48 + n)]) [107, 101, 101, 112, 32] (by simp [List.isPrefixOf]) w
  have hix0 : ∀ w, Sem.run Tryz.prog (Instr.index 96 (.agg #[.int .i64 1, .int .i64 2, .int .i64 3]) (.int .i64 0)) w = .ok (.int .i64 1) w := fun w => rfl
  have hix1 : ∀ w, Sem.run Tryz.prog (Instr.index 96 (.agg #[.int .i64 1, .int .i64 2, .int .i64 3]) (.int .i64 1)) w = .ok (.int .i64 2) w := fun w => rfl
  have hs3 : Tryz.prog.types[3].size = 1 := rfl
  generalize [UInt8.ofNat (48 + n)] = d at *
  generalize str ([100, 114, 111, 112, 32] ++ d) = ln at *
  have g0 : decide ((0 : Int) < (n : Int)) = true := decide_eq_true (by omega)
  have g0n : decide (0 < n) = true := decide_eq_true (by omega)
  have g1 : ((str d).toList == (str d).toList) = true := by simp
  go_enter Tryz.func46, Tryz.ntmps46
  go_wp2_with fail
  go_loopw [11] (fun s11 wr => ∃ i : Nat, i < 2 ∧ s11 = .int .i64 i ∧ Below w.heap.size w wr ∧ wr.heap[w.heap.size]? = some (.cells #[.int .i64 0, .int .i64 0, .slice none 0 0] 54 (0, 0))) (fun s11 _ => 2 - (intOf s11).toNat)
  case atStart => exact ⟨0, by omega, rfl, hb0, hk0⟩
  case round =>
    clear hb0 hk0
    obtain ⟨i, hi, rfl, hb, hk⟩ := hrel
    by_cases e0 : i = 0
    · subst e0
      have c1 := hw 1 wr
      have c2 := hno1 wr
      rw [show str (Pc.word 1) = str [107, 101, 101, 112, 32] from rfl] at c1
      go_wp2_with (first | (go_at_call 34; (with_reducible refine c1.mono ?_); rintro e w' ⟨rfl, rfl⟩) | (go_at_call 44; (with_reducible refine c2.mono ?_); rintro e w' ⟨rfl, rfl⟩))
      go_roundw
      case rel => exact ⟨1, by omega, by first | rfl | go_num, hb, hk⟩
      case measure => first | (simp [intOf]; done) | (simp [intOf]; omega)
    obtain rfl : i = 1 := by omega
    have c1 := hw 2 wr
    have c2 := hyes wr
    rw [show str (Pc.word 2) = str [100, 114, 111, 112, 32] from rfl] at c1
    go_wp2_with (first | (go_at_call 34; (with_reducible refine c1.mono ?_); rintro e w' ⟨rfl, rfl⟩) | (go_at_call 44; (with_reducible refine c2.mono ?_); rintro e w' ⟨rfl, rfl⟩))
    have c3 := hat wr
    with_reducible refine c3.mono ?_
    clear c3 c1 c2
    rintro e w3 ⟨rfl, t, rfl⟩
    have hb3 := Go.Joins.below_bytesWorld wr.heap.size wr 5 t (Nat.le_refl _)
    have hk3 := (hb3.block _ (blk_lt hk)).trans hk
    have hb03 := hb.trans (hb3.mono hb.size)
    generalize Lib.bytesWorld wr 5 t = w3 at *
    obtain ⟨r0, r1, r2, f0, f1, f2⟩ := keep3 hk3
    have c4 := hit w3
    rw [show (⟨d.toArray⟩ : ByteArray) = str d from rfl] at c4
    have HB := Lib.hid (((hb03.setCell (p := ⟨w.heap.size, 0, none⟩) (Nat.le_refl _) (.int .i64 2)).setCell (p := ⟨w.heap.size, 1, none⟩) (Nat.le_refl _) (.int .i64 n)).setCell (p := ⟨w.heap.size, 2, none⟩) (Nat.le_refl _) (.slice none 0 0))
    clear hb3 hk3 hb03 hb hk
    go_wp2_with (go_at_call 35; (with_reducible refine c4.mono ?_); rintro e w' ⟨rfl, rfl⟩)
    exact bodyPost_ret (v := .tuple #[.agg #[.int .i64 2, .int .i64 n, .slice none 0 0], .bool true]) (by simp [results, Tryz.results46, go_sem, r0, r1, r2]) rfl ⟨rfl, HB.out⟩
set_option maxHeartbeats 4000000 in
set_option maxRecDepth 100000 in
theorem head_3 (n : Nat) (h1 : 1 ≤ n) (h9 : n < 10) (w : World) : Calls Tryz.prog 46 #[.string (str ([97, 100, 100, 32] ++ [UInt8.ofNat (48 + n)]))] w fun e w' => e = .returned (.tuple #[.agg #[.int .i64 3, .int .i64 n, .slice none 0 0], .bool true]) ∧ Below w.heap.size w w' := by
  have hb0 : Below w.heap.size w (w.alloc (.cells #[.int .i64 0, .int .i64 0, .slice none 0 0] 54)) := (Below.refl _ _).alloc (Nat.le_refl _) _
  have hk0 := heap_alloc_new w (.cells #[.int .i64 0, .int .i64 0, .slice none 0 0] 54)
  have hat := fun w => Tryz.strconv_Atoi (str [UInt8.ofNat (48 + n)]) (n : Int) (by rw [str_size]; simp) (atoi_digit n h9 h1) w
  have hit := fun w => Tryz.strconv_Itoa_small n (by omega) w
  rw [dec_digit n h9] at hit
  have hw := fun (k : Int) w => wordOf_any k w
  have hyes := fun w => cut_yes [97, 100, 100, 32] [UInt8.ofNat (48 + n)] w
  have hno1 := fun w => cut_no ([97, 100, 100, 32] ++ [UInt8.ofNat (48 + n)]) [107, 101, 101, 112, 32] (by simp [List.isPrefixOf]) w
  have hno2 := fun w => cut_no ([97, 100, 100, 32] ++ [UInt8.ofNat (48 + n)]) [100, 114, 111, 112, 32] (by simp [List.isPrefixOf]) w
  have hix0 : ∀ w, Sem.run Tryz.prog (Instr.index 96 (.agg #[.int .i64 1, .int .i64 2, .int .i64 3]) (.int .i64 0)) w = .ok (.int .i64 1) w := fun w => rfl
  have hix1 : ∀ w, Sem.run Tryz.prog (Instr.index 96 (.agg #[.int .i64 1, .int .i64 2, .int .i64 3]) (.int .i64 1)) w = .ok (.int .i64 2) w := fun w => rfl
  have hix2 : ∀ w, Sem.run Tryz.prog (Instr.index 96 (.agg #[.int .i64 1, .int .i64 2, .int .i64 3]) (.int .i64 2)) w = .ok (.int .i64 3) w := fun w => rfl
  have hs3 : Tryz.prog.types[3].size = 1 := rfl
  generalize [UInt8.ofNat (48 + n)] = d at *
  generalize str ([97, 100, 100, 32] ++ d) = ln at *
  have g0 : decide ((0 : Int) < (n : Int)) = true := decide_eq_true (by omega)
  have g0n : decide (0 < n) = true := decide_eq_true (by omega)
  have g1 : ((str d).toList == (str d).toList) = true := by simp
  go_enter Tryz.func46, Tryz.ntmps46
  go_wp2_with fail
  go_loopw [11] (fun s11 wr => ∃ i : Nat, i < 3 ∧ s11 = .int .i64 i ∧ Below w.heap.size w wr ∧ wr.heap[w.heap.size]? = some (.cells #[.int .i64 0, .int .i64 0, .slice none 0 0] 54 (0, 0))) (fun s11 _ => 3 - (intOf s11).toNat)
  case atStart => exact ⟨0, by omega, rfl, hb0, hk0⟩
  case round =>
    clear hb0 hk0
    obtain ⟨i, hi, rfl, hb, hk⟩ := hrel
    by_cases e0 : i = 0
    · subst e0
      have c1 := hw 1 wr
      have c2 := hno1 wr
      rw [show str (Pc.word 1) = str [107, 101, 101, 112, 32] from rfl] at c1
      go_wp2_with (first | (go_at_call 34; (with_reducible refine c1.mono ?_); rintro e w' ⟨rfl, rfl⟩) | (go_at_call 44; (with_reducible refine c2.mono ?_); rintro e w' ⟨rfl, rfl⟩))
      go_roundw
      case rel => exact ⟨1, by omega, by first | rfl | go_num, hb, hk⟩
      case measure => first | (simp [intOf]; done) | (simp [intOf]; omega)
    by_cases e1 : i = 1
    · subst e1
      have c1 := hw 2 wr
      have c2 := hno2 wr
      rw [show str (Pc.word 2) = str [100, 114, 111, 112, 32] from rfl] at c1
      go_wp2_with (first | (go_at_call 34; (with_reducible refine c1.mono ?_); rintro e w' ⟨rfl, rfl⟩) | (go_at_call 44; (with_reducible refine c2.mono ?_); rintro e w' ⟨rfl, rfl⟩))
      go_roundw
      case rel => exact ⟨2, by omega, by first | rfl | go_num, hb, hk⟩
      case measure => first | (simp [intOf]; done) | (simp [intOf]; omega)
    obtain rfl : i = 2 := by omega
    have c1 := hw 3 wr
    have c2 := hyes wr
    rw [show str (Pc.word 3) = str [97, 100, 100, 32] from rfl] at c1
    go_wp2_with (first | (go_at_call 34; (with_reducible refine c1.mono ?_); rintro e w' ⟨rfl, rfl⟩) | (go_at_call 44; (with_reducible refine c2.mono ?_); rintro e w' ⟨rfl, rfl⟩))
    have c3 := hat wr
    with_reducible refine c3.mono ?_
    clear c3 c1 c2
    rintro e w3 ⟨rfl, t, rfl⟩
    have hb3 := Go.Joins.below_bytesWorld wr.heap.size wr 5 t (Nat.le_refl _)
    have hk3 := (hb3.block _ (blk_lt hk)).trans hk
    have hb03 := hb.trans (hb3.mono hb.size)
    generalize Lib.bytesWorld wr 5 t = w3 at *
    obtain ⟨r0, r1, r2, f0, f1, f2⟩ := keep3 hk3
    have c4 := hit w3
    rw [show (⟨d.toArray⟩ : ByteArray) = str d from rfl] at c4
    have HB := Lib.hid (((hb03.setCell (p := ⟨w.heap.size, 0, none⟩) (Nat.le_refl _) (.int .i64 3)).setCell (p := ⟨w.heap.size, 1, none⟩) (Nat.le_refl _) (.int .i64 n)).setCell (p := ⟨w.heap.size, 2, none⟩) (Nat.le_refl _) (.slice none 0 0))
    clear hb3 hk3 hb03 hb hk
    go_wp2_with (go_at_call 35; (with_reducible refine c4.mono ?_); rintro e w' ⟨rfl, rfl⟩)
    exact bodyPost_ret (v := .tuple #[.agg #[.int .i64 3, .int .i64 n, .slice none 0 0], .bool true]) (by simp [results, Tryz.results46, go_sem, r0, r1, r2]) rfl ⟨rfl, HB.out⟩
end Go.Proofs.YtlfgnecfabdkmaaGreatDoor
