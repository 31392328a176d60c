/- The reference's codes of words, hashes, and whether words are few. No condition but the words' lengths. -/
import Derived.Test.YtkmldaelgbkfbaaDoorRef
import Derived.Deep.QuietTactic
import Derived.BigQuiet
namespace Go.Proofs.YtkmldaelgbkfbaaDoor
open Go.RowKit Go.Deep
namespace Rl
theorem below_drewN (w : World) (n : Nat) : Below w.heap.size w (w.drewN n) := ⟨rfl, rfl, rfl, Nat.le_refl _, fun _ _ => rfl⟩
set_option maxHeartbeats 4000000 in
set_option maxRecDepth 100000 in
theorem qcode_any (s : ByteArray) (w : World) (hs : s.size ≤ 1000000000) :
    Calls Tryd.prog 56 #[.string s] w fun e w' => e = .returned (.int .i64 (code s.data.toList : Int)) ∧ Below w.heap.size w w' := by
  go_enter Tryd.func56, Tryd.ntmps56
  go_wp2_with fail
  go_loopw [3, 4] (fun c i wr => ∃ k : Nat, k ≤ s.size ∧ i = .int .i64 k ∧ c = .int .i64 (code (s.data.toList.take k) : Int) ∧ Below w.heap.size w wr) (fun _ i _ => s.size - (intOf i).toNat)
  case atStart => exact ⟨0, by omega, rfl, by rw [List.take_zero]; rfl, Below.refl _ _⟩
  case round =>
    obtain ⟨k, hk, rfl, rfl, hb⟩ := hrel
    have hcl := code_lt (s.data.toList.take k)
    by_cases hlt : k < s.size
    · have b1 : decide ((k : Int) < (s.size : Int)) = true := decide_eq_true (by omega)
      have b1n : decide (k < s.size) = true := decide_eq_true hlt
      have y1 : (k : Int) < (s.size : Int) := by omega
      have HT := Lib.hid (show code (s.data.toList.take (k + 1)) = (code (s.data.toList.take k) * 257 % P + (s[k].toNat + 1)) % P by
        rw [take_s s k hlt, code_snoc, mp, ← Nat.add_assoc]; rfl)
      generalize code (s.data.toList.take k) = c at *
      have hc := s[k].toNat_lt
      have c1 := fun w => times_257 c hcl w
      have hm : c * 257 % P < P := Nat.mod_lt _ P_pos
      generalize c * 257 % P = m at *
      have c2 := fun w => add_any m (s[k].toNat + 1) (Nat.le_of_lt hm) (by simp only [P_val]; omega) w
      rw [show ((s[k].toNat + 1 : Nat) : Int) = (s[k].toNat : Int) + 1 by omega] at c2
      have u1 : IntKind.i64.wrap (s[k].toNat : Int) = (s[k].toNat : Int) := by rw [IntKind.wrap_i64]; omega
      have u2 : wrap64 (s[k].toNat : Int) = (s[k].toNat : Int) := by unfold wrap64; omega
      have u3 : IntKind.i64.wrap ((s[k].toNat : Int) + 1) = (s[k].toNat : Int) + 1 := by rw [IntKind.wrap_i64]; omega
      have u4 : wrap64 ((s[k].toNat : Int) + 1) = (s[k].toNat : Int) + 1 := by unfold wrap64; omega
      generalize (m + (s[k].toNat + 1)) % P = c3 at *
      have HB := Lib.hid hb
      clear hcl hm hb
      go_wp2_with fail
      go_quiet ((first | (go_at_call 55; exact Calls.quiet_of_same ((c1 _).mono fun e w' h => ⟨h.1, h.2.symm⟩)) | (go_at_call 54; exact Calls.quiet_of_same ((c2 _).mono fun e w' h => ⟨h.1, h.2.symm⟩))))
      have HB2 := Lib.hid (HB.out.trans ((below_drewN wr nq).mono HB.out.size))
      go_wp2_with fail
      go_roundw
      case rel => exact ⟨k + 1, by omega, by go_num, by rw [HT.out], HB2.out⟩
      case measure => simp [intOf]; omega
    · have hks : k = s.size := by omega
      have HR := Lib.hid (show code (s.data.toList.take k) = code s.data.toList by rw [List.take_of_length_le (by rw [hks]; exact Nat.le_refl _)])
      generalize code (s.data.toList.take k) = c at *
      have b1 : decide ((k : Int) < (s.size : Int)) = false := decide_eq_false (by omega)
      have b1n : decide (k < s.size) = false := decide_eq_false hlt
      have HB := Lib.hid hb
      clear hks hcl hb
      go_wp2_with fail
      go_ret
      exact ⟨ret_int (by rw [HR.out]), HB.out⟩
set_option maxHeartbeats 4000000 in
set_option maxRecDepth 100000 in
theorem next_any (h : Nat) (s : ByteArray) (w : World) (hh : h < P) (hs : s.size ≤ 1000000000) :
    Calls Tryd.prog 46 #[.int .i64 (h : Int), .string s] w fun e w' => e = .returned (.int .i64 (hashF h s.data.toList : Int)) ∧ Below w.heap.size w w' := by
  have c1 := times_B h hh w
  have c2 := qcode_any s w hs
  have hc := code_lt s.data.toList
  have HT := Lib.hid (show hashF h s.data.toList = (h * B % P + (code s.data.toList + 1) % P) % P by
    unfold hashF; rw [← Nat.add_mod, Nat.add_assoc])
  generalize hashF h s.data.toList = v at *
  generalize code s.data.toList = c at *
  have c3 := fun w => add_1 c (Nat.le_of_lt hc) w
  have h1 : h * B % P ≤ P := Nat.le_of_lt (Nat.mod_lt _ P_pos)
  have h2 : (c + 1) % P ≤ P := Nat.le_of_lt (Nat.mod_lt _ P_pos)
  generalize h * B % P = x at *
  generalize (c + 1) % P = y at *
  have c4 := fun w => add_any x y h1 h2 w
  rw [← HT.out] at c4
  clear hh hc h1 h2 HT hs
  go_enter Tryd.func46, Tryd.ntmps46
  go_wp2_with (go_at_call 55; (with_reducible refine c1.mono ?_); rintro e w' ⟨rfl, rfl⟩)
  (with_reducible refine c2.mono ?_); rintro e w2 ⟨rfl, hb⟩
  have HB := Lib.hid hb
  clear hb
  have c3 := c3 w2
  have c4 := c4 w2
  go_wp2_with (first
    | (go_at_call 54; (with_reducible refine c3.mono ?_); rintro e w' ⟨rfl, rfl⟩)
    | (go_at_call 54; (with_reducible refine c4.mono ?_); rintro e w' ⟨rfl, rfl⟩))
  go_ret
  exact ⟨rfl, HB.out⟩
set_option maxHeartbeats 4000000 in
set_option maxRecDepth 100000 in
theorem qhash_any (l : List Lx) (A : Option Addr) (c : Nat) (w : World) (hA : LxAt w w.heap.size A l) (hl : l.length ≤ 100000) (hs : Sht l) :
    Calls Tryd.prog 36 #[.slice A l.length c] w fun e w' => e = .returned (.int .i64 (hash (txs l) : Int)) ∧ Below w.heap.size w w' := by
  have HAA := Lib.hid hA
  have HS := Lib.hid hs
  clear hA hs
  go_enter Tryd.func36, Tryd.ntmps36
  go_wp2_with fail
  go_loopw [3, 4] (fun s3 s8 wr => ∃ k : Nat, s8 = .int .i64 k ∧ k ≤ l.length ∧ s3 = .int .i64 (hash (txs (l.take k)) : Int) ∧ Below w.heap.size w wr) (fun _ s8 _ => l.length - (intOf s8).toNat)
  case atStart => exact ⟨0, rfl, by omega, by rw [List.take_zero]; rfl, Below.refl _ _⟩
  case round =>
    obtain ⟨k, rfl, hk, rfl, hb⟩ := hrel
    have hh := hash_lt (txs (l.take k))
    by_cases hlt : k < l.length
    · have b1 : decide ((k : Int) < (l.length : Int)) = true := decide_eq_true (by omega)
      have b1n : decide (k < l.length) = true := decide_eq_true hlt
      have y2 : (k : Int) < (l.length : Int) := by omega
      have HT := Lib.hid (show hash (txs (l.take (k + 1))) = (hash (txs (l.take k)) * B + code l[k].tx + 1) % P by rw [txs_take l k hlt, hash_snoc]; rfl)
      have hz := HS.out l[k] (List.getElem_mem hlt)
      obtain ⟨g0, o, rfl, hg, hd0, hd1⟩ := (HAA.out.next hb) k hlt
      generalize l[k] = x at *
      obtain ⟨t, n⟩ := x
      dsimp only [] at hd0 hd1 HT hz
      have cc := next_any (hash (txs (l.take k))) (str t) wr hh (by rw [str_size]; exact hz)
      rw [show hashF (hash (txs (l.take k))) (str t).data.toList = hash (txs (l.take (k + 1))) by rw [HT.out]; rfl] at cc
      clear HT
      generalize hq : hash (txs (l.take (k + 1))) = h2 at *
      have HQ := Lib.hid hq
      clear hq
      generalize hash (txs (l.take k)) = h1 at *
      have HBA := Lib.hid hb
      clear hz hh hb
      go_wp2_with fail
      (with_reducible refine cc.mono ?_); rintro e w4 ⟨rfl, hb4⟩
      have HB4 := Lib.hid (HBA.out.trans (hb4.mono HBA.out.size))
      clear cc hb4 hd0 hd1
      go_wp2_with fail
      go_roundw
      case rel => exact ⟨k + 1, by go_num, by omega, by rw [HQ.out], HB4.out⟩
      case measure => simp [intOf]; omega
    · have b1 : decide ((k : Int) < (l.length : Int)) = false := decide_eq_false (by omega)
      have b1n : decide (k < l.length) = false := decide_eq_false hlt
      have HB := Lib.hid hb
      have HR := Lib.hid (show hash (txs (l.take k)) = hash (txs l) by rw [List.take_of_length_le (by omega)])
      generalize hash (txs (l.take k)) = h1 at *
      clear hb hh
      go_wp2_with fail
      go_ret
      exact ⟨ret_int (by rw [HR.out]), HB.out⟩
set_option maxHeartbeats 4000000 in
set_option maxRecDepth 100000 in
theorem few_any (l : List Lx) (A : Option Addr) (c : Nat) (w : World) (hA : LxAt w w.heap.size A l) (hl : l.length ≤ 140737488351232) :
    Calls Tryd.prog 6 #[.slice A l.length c] w fun e w' => ∃ b, e = .returned (.bool b) ∧ (b = true → l.length ≤ 40 ∧ ∀ x ∈ l, (str x.tx).size ≤ 40) ∧ w = w' := by
  have HAA := Lib.hid hA
  clear hA
  by_cases h1 : 40 < l.length
  · have d1 : decide ((40 : Int) < (l.length : Int)) = true := decide_eq_true (by omega)
    have d1n : decide (40 < l.length) = true := decide_eq_true h1
    go_enter Tryd.func6, Tryd.ntmps6
    go_wp2_with fail
    go_ret
    exact ⟨_, rfl, (fun h => by cases h), rfl⟩
  have d1 : decide ((40 : Int) < (l.length : Int)) = false := decide_eq_false (by omega)
  have d1n : decide (40 < l.length) = false := decide_eq_false h1
  go_enter Tryd.func6, Tryd.ntmps6
  go_wp2_with fail
  go_loopw [3] (fun s3 wr => ∃ k : Nat, s3 = .int .i64 k ∧ k ≤ l.length ∧ (∀ x ∈ l.take k, (str x.tx).size ≤ 40) ∧ wr = w) (fun s3 _ => l.length - (intOf s3).toNat)
  case atStart => exact ⟨0, rfl, by omega, (fun x hx => by rw [List.take_zero] at hx; cases hx), rfl⟩
  case round =>
    obtain ⟨k, rfl, hk, hal, rfl⟩ := hrel
    have HAL := Lib.hid hal
    clear hal
    by_cases hlt : k < l.length
    · have b1 : decide ((k : Int) < (l.length : Int)) = true := decide_eq_true (by omega)
      have b1n : decide (k < l.length) = true := decide_eq_true hlt
      have y2 : (k : Int) < (l.length : Int) := by omega
      obtain ⟨g0, o, rfl, hg, hd0, _⟩ := HAA.out k hlt
      have HE := Lib.hid (show ∀ y, y ∈ l.take (k + 1) ↔ y ∈ l.take k ∨ y = l[k] from fun y => by rw [List.take_succ_eq_append_getElem hlt, List.mem_append, List.mem_singleton])
      generalize l[k] = x at *
      generalize hst : str x.tx = s at *
      have HST := Lib.hid hst
      clear hst
      by_cases h3 : 40 < s.size
      · have d3 : decide ((40 : Int) < (s.size : Int)) = true := decide_eq_true (by omega)
        have d3n : decide (40 < s.size) = true := decide_eq_true h3
        go_wp2_with fail
        go_ret
        exact ⟨_, rfl, (fun h => by cases h), rfl⟩
      have d3 : decide ((40 : Int) < (s.size : Int)) = false := decide_eq_false (by omega)
      have d3n : decide (40 < s.size) = false := decide_eq_false h3
      go_wp2_with fail
      go_roundw
      case rel => exact ⟨k + 1, by go_num, by omega, (fun y hy => by
        rcases (HE.out y).1 hy with h | h
        · exact HAL.out y h
        · rw [h, HST.out]; omega), (by first | rfl | trivial)⟩
      case measure => simp [intOf]; omega
    · have b1 : decide ((k : Int) < (l.length : Int)) = false := decide_eq_false (by omega)
      have b1n : decide (k < l.length) = false := decide_eq_false hlt
      have HL := Lib.hid h1
      have HK := Lib.hid hlt
      go_wp2_with fail
      go_ret
      exact ⟨_, rfl, (fun _ => ⟨by have := HL.out; omega, fun x hx => HAL.out x (by rw [List.take_of_length_le (by have := HK.out; omega)]; exact hx)⟩), rfl⟩
end Rl
end Go.Proofs.YtkmldaelgbkfbaaDoor
