/- Numbers of at most four digits: decimal.Parse of the program, Number of the reference. Condition: the table of powers and strconv's errors lie in their variables. -/
import Derived.Test.YtenaohnginikhaaDoorCdNum
import Derived.Test.YtenaohnginikhaaDoorTrPat
import Derived.Test.YtenaohnginikhaaDoorTrSpl
import Derived.Test.YtenaohnginikhaaDoorShelf
import Derived.WalkKit
import Derived.WalkSpells
import Derived.WalkLawsBesides
import Derived.Lib.Hide
import Derived.Lib.AtoiAllCases
import Derived.Lib.SmallJoins
import Derived.Deep.RegionWith
import Derived.Laws.IdiomStrings
import Derived.Lib.OwnKind
import Derived.Deep.RegionHeld3
import Derived.Deep.LoopGhost
namespace Go.Proofs.YtenaohnginikhaaDoor
open Go.RowKit Go.Deep Tr
theorem strL (l : List UInt8) : (str l).toList = l := ByteArray.toList_eq _
namespace Ls
abbrev LN := List UInt8
end Ls
namespace Ls
/-- The number that at most four digits in normal form stand for. -/
def numC (d : LN) : Option Nat :=
  match Cd.Cod.scan 9999 59 (d ++ [59]) 0 false with
  | .ok m [] => some m
  | _ => none
theorem numC_dec {n : Nat} (h : n ≤ 9999) : numC (Lib.decDigits n) = some n := by
  unfold numC
  rw [Cd.Cod.scan_num 9999 59 (by decide) n h []]
theorem numC_back {d : LN} {n : Nat} (h : numC d = some n) : d = Lib.decDigits n ∧ n ≤ 9999 := by
  unfold numC at h
  split at h
  · rename_i m he
    obtain ⟨h1, h2⟩ := Cd.Cod.scan_back 9999 59 _ m [] he
    injection h with h
    subst h
    exact ⟨List.append_cancel_right h2, h1⟩
  · cases h
theorem numC_none {d : LN} (h : ∀ n, n ≤ 9999 → d ≠ Lib.decDigits n) : numC d = none := by
  cases hn : numC d with
  | none => rfl
  | some n => exact absurd (numC_back hn).1 (h n (numC_back hn).2)
theorem dec_digits : ∀ (n : Nat), ∀ c ∈ Lib.decDigits n, 48 ≤ c.toNat ∧ c.toNat ≤ 57 := by
  intro n
  induction n using Nat.strongRecOn with
  | _ n ih =>
    intro c hc
    by_cases h : n < 10
    · rw [Cd.Cod.dec_small h, List.mem_singleton] at hc
      rw [hc, Cd.Cod.digit_nat h]; omega
    · rw [Cd.Cod.dec_big h, List.mem_append, List.mem_singleton] at hc
      rcases hc with hc | hc
      · exact ih (n / 10) (by omega) c hc
      · rw [hc, Cd.Cod.digit_nat (show n % 10 < 10 by omega)]; omega
theorem dec_first : ∀ (n : Nat), ∃ c r, Lib.decDigits n = c :: r ∧ (c.toNat = 48 → n = 0) := by
  intro n
  induction n using Nat.strongRecOn with
  | _ n ih =>
    by_cases h : n < 10
    · exact ⟨_, [], Cd.Cod.dec_small h, fun e => by rw [Cd.Cod.digit_nat h] at e; omega⟩
    · obtain ⟨c, r, h1, h2⟩ := ih (n / 10) (by omega)
      exact ⟨c, r ++ [UInt8.ofNat (48 + n % 10)], by rw [Cd.Cod.dec_big h, h1, List.cons_append], fun e => by have := h2 e; omega⟩
theorem numC_long {d : LN} (h : 4 < d.length) : numC d = none := by
  refine numC_none fun n hn e => ?_
  have h1 : ∀ k, k ≤ 4 → ∀ n, n < 10 ^ k → (Lib.decDigits n).length ≤ max 1 k := by
    intro k
    induction k with
    | zero => intro _ n hn; obtain rfl : n = 0 := by simpa using hn
              rw [Cd.Cod.dec_small (by omega)]; simp
    | succ k ih =>
      intro hk n hn
      by_cases c : n < 10
      · rw [Cd.Cod.dec_small c]; simp
      · rw [Cd.Cod.dec_big c, List.length_append, List.length_singleton]
        have hn' : n / 10 < 10 ^ k := by rw [Nat.pow_succ] at hn; omega
        have := ih (by omega) (n / 10) hn'
        have : 1 ≤ k := by
          rcases Nat.eq_zero_or_pos k with rfl | h
          · simp at hn; omega
          · exact h
        omega
  have := h1 4 (by omega) n (by omega)
  rw [e] at h
  omega
theorem pu_dec : ∀ (n : Nat), n ≤ 9999 → ∀ rest, Lib.parseUint10 0 (Lib.decDigits n ++ rest) = Lib.parseUint10 n rest := by
  intro n
  induction n using Nat.strongRecOn with
  | _ n ih =>
    intro hn rest
    by_cases h : n < 10
    · rw [Cd.Cod.dec_small h, List.singleton_append, Lib.parseUint10, Cd.Cod.digit_nat h, if_pos (by omega), if_neg (by omega), if_neg (by omega)]
      congr 1
      omega
    · rw [Cd.Cod.dec_big h, List.append_assoc, ih (n / 10) (by omega) (by omega), List.singleton_append, Lib.parseUint10, Cd.Cod.digit_nat (show n % 10 < 10 by omega), if_pos (by omega), if_neg (by omega), if_neg (by omega)]
      congr 1
      omega
theorem atoi_dec {n : Nat} (h : n ≤ 9999) : Lib.atoiAll (Lib.decDigits n) = .ok (n : Int) := by
  obtain ⟨c, r, hd, _⟩ := dec_first n
  have hc := dec_digits n c (by rw [hd]; simp)
  have hp := pu_dec n h []
  rw [List.append_nil] at hp
  unfold Lib.atoiAll
  rw [hd]
  dsimp only
  rw [if_neg (by omega)]
  unfold Lib.parseMag
  rw [if_neg (by simp), ← hd, hp]
  simp only [Lib.parseUint10]
  rw [if_neg (by omega), if_neg (by omega), if_neg (by omega)]
theorem numC_of {d : LN} {v : Int} (hl : d.length ≤ 4) (hd : Lib.decDigits v.toNat = d) : numC d = some v.toNat := by
  have h1 : v.toNat ≤ 9999 := by
    rcases Nat.lt_or_ge v.toNat 10000 with h | h
    · omega
    · exfalso
      have h5 : ∀ k n, 10 ^ k ≤ n → k + 1 ≤ (Lib.decDigits n).length := by
        intro k
        induction k with
        | zero => intro n _; obtain ⟨c, r, hd, _⟩ := dec_first n; rw [hd]; simp
        | succ k ih =>
          intro n hn
          have hp : 0 < 10 ^ k := Nat.pos_of_ne_zero (by simp)
          have hn2 : 10 * 10 ^ k ≤ n := by rw [Nat.pow_succ] at hn; omega
          rw [Cd.Cod.dec_big (by omega), List.length_append, List.length_singleton]
          have := ih (n / 10) (by omega)
          omega
      have := h5 4 v.toNat (by omega)
      rw [hd] at this
      omega
  rw [← hd]
  exact numC_dec h1
theorem numC_ne {d : LN} {v : Int} (h : Lib.atoiAll d = .ok v) (hd : ¬ (0 ≤ v ∧ Lib.decDigits v.toNat = d)) : numC d = none :=
  numC_none fun n hn e => by
    rw [e, atoi_dec hn] at h
    injection h with h
    exact hd ⟨by omega, by rw [← h, e]; simp⟩
theorem numC_no {d : LN} (h : ∀ v, Lib.atoiAll d ≠ .ok v) : numC d = none :=
  numC_none fun n hn e => by rw [e] at h; exact h _ (atoi_dec hn)
end Ls
structure ErrAt (w : World) : Prop where
  syn : ∃ ev, w.cell? ⟨3, 0, none⟩ = some ev ∧ (ev = .nilIface ∨ ∃ te pe, ev = .iface te pe)
  rng : ∃ ev, w.cell? ⟨4, 0, none⟩ = some ev ∧ (ev = .nilIface ∨ ∃ te pe, ev = .iface te pe)
theorem ErrAt.below {w w' : World} (h : ErrAt w) (hb : Below w.heap.size w w') : ErrAt w' := by
  obtain ⟨⟨e1, h1, k1⟩, ⟨e2, h2, k2⟩⟩ := h
  exact ⟨⟨e1, (hb.cell (p := ⟨3, 0, none⟩) (World.block_lt_of_cell? w _ h1)).trans h1, k1⟩, ⟨e2, (hb.cell (p := ⟨4, 0, none⟩) (World.block_lt_of_cell? w _ h2)).trans h2, k2⟩⟩
theorem atoi_any (d : List UInt8) (hd : d.length ≤ 1000000000) (w : World) (hE : ErrAt w) : Calls Tryd.prog 72 #[.string (str d)] w fun e w' => Below w.heap.size w w' ∧ ((∃ v : Int, Lib.atoiAll d = .ok v ∧ e = .returned (.tuple #[.int .i64 v, .nilIface])) ∨ (Ls.numC d = none ∧ ∃ (v : Int) (T N : Nat), e = .returned (.tuple #[.int .i64 v, .iface T (.pointer (some ⟨N, 0, none⟩))]))) := by
  have hs : (str d).size ≤ 1000000000 := by rw [str_size]; exact hd
  cases h : Lib.atoiAll d
  case ok v =>
    refine (Tryd.strconv_Atoi_ok (str d) (by omega) v (by rw [str_data]; exact h) w).mono fun e w' hh => ?_
    obtain ⟨rfl, hw⟩ := hh
    refine ⟨?_, .inl ⟨v, rfl, rfl⟩⟩
    rcases hw with rfl | ⟨t, rfl⟩
    · exact Below.refl _ _
    · exact Go.Joins.below_bytesWorld w.heap.size w 5 t (Nat.le_refl _)
  case range =>
    obtain ⟨ev, h1, h2⟩ := hE.rng
    refine (Tryd.strconv_Atoi_range (str d) (by omega) (by rw [str_data]; exact h) ev w h1 h2).mono fun e w' hh => ?_
    obtain ⟨N, rfl, _, _, hb⟩ := hh
    exact ⟨hb, .inr ⟨Ls.numC_no (fun v e => by rw [h] at e; cases e), _, _, _, rfl⟩⟩
  obtain ⟨ev, h1, h2⟩ := hE.syn
  refine (Tryd.strconv_Atoi_syntax (str d) (by omega) (by rw [str_data]; exact h) ev w h1 h2).mono fun e w' hh => ?_
  obtain ⟨N, rfl, _, _, hb⟩ := hh
  exact ⟨hb, .inr ⟨Ls.numC_no (fun v e => by rw [h] at e; cases e), _, _, _, rfl⟩⟩
/-- What decimal.Parse returns. -/
def GotDc (w : World) (o : Option Nat) : Ending → World → Prop := fun e w' => ((∃ n : Nat, o = some n ∧ n ≤ 9999 ∧ e = .returned (.tuple #[.int .i64 (n : Int), .bool true])) ∨ (o = none ∧ e = .returned (.tuple #[.int .i64 0, .bool false]))) ∧ Below w.heap.size w w'
set_option maxHeartbeats 8000000 in
set_option maxRecDepth 100000 in
theorem decimal_any (d : List UInt8) (hd : d.length ≤ 1000000000) (w : World) (hE : ErrAt w) (hT : Cd.Tabs w) : Calls Tryd.prog 53 #[.string (str d), .int .i64 4] w (GotDc w (Ls.numC d)) := by
  have hds := str_size d
  by_cases h4 : 4 < d.length
  · have g1 : decide ((4 : Int) < ((str d).size : Int)) = true := decide_eq_true (by omega)
    have g1n : decide (4 < (str d).size) = true := decide_eq_true (by omega)
    have HN := Lib.hid (Ls.numC_long h4)
    clear hds
    go_enter Tryd.func53, Tryd.ntmps53
    go_wp2_with fail
    first | go_ret3 | go_ret2 | go_ret
    exact ⟨.inr ⟨HN.out, rfl⟩, Below.refl _ _⟩
  have g1 : decide ((4 : Int) < ((str d).size : Int)) = false := decide_eq_false (by omega)
  have g1n : decide (4 < (str d).size) = false := decide_eq_false (by omega)
  have c3 := atoi_any d hd w hE
  have HT := Lib.hid hT
  have H4 := Lib.hid (show d.length ≤ 4 by omega)
  clear hds hE hT h4
  go_enter Tryd.func53, Tryd.ntmps53
  go_wp2_with fail
  with_reducible refine c3.mono ?_
  clear c3
  rintro e w3 ⟨hb3, hor⟩
  rcases hor with ⟨v, hv, rfl⟩ | ⟨hv, v, T, N, rfl⟩
  · have hvb := Lib.atoiAll_bounds hv
    by_cases hv0 : 0 ≤ v
    · have g0 : decide (v < (0 : Int)) = false := decide_eq_false (by omega)
      obtain ⟨m, rfl⟩ : ∃ m : Nat, v = m := ⟨v.toNat, by omega⟩
      have c4 : Calls Tryd.prog 73 #[.int .i64 (m : Int)] w3 fun e w' => e = .returned (.string (str (Lib.decDigits m))) ∧ Below w3.heap.size w3 w' := Cd.itoa_any m (by omega) w3 (HT.out.below hb3)
      have HV := Lib.hid hv
      have HB3 := Lib.hid hb3
      clear hv hb3
      go_wp2_with fail
      with_reducible refine c4.mono ?_
      clear c4
      rintro e w4 ⟨rfl, hb4⟩
      have HB4 := Lib.hid (HB3.out.trans (hb4.mono HB3.out.size))
      clear hb4
      by_cases hvd : Lib.decDigits m = d
      · have q : ((str (Lib.decDigits m)).toList == (str d).toList) = true := by rw [hvd]; simp
        have q2 : ((str (Lib.decDigits m)).toList != (str d).toList) = false := by rw [hvd]; simp
        have HN := Lib.hid (show Ls.numC d = some m from Ls.numC_of (v := (m : Int)) H4.out hvd)
        clear hvd
        go_wp2_with fail
        first | go_ret3 | go_ret2 | go_ret
        exact ⟨.inl ⟨m, HN.out, (Ls.numC_back HN.out).2, rfl⟩, HB4.out⟩
      · have q : ((str (Lib.decDigits m)).toList == (str d).toList) = false := by rw [strL, strL, beq_eq_false_iff_ne]; exact hvd
        have q2 : ((str (Lib.decDigits m)).toList != (str d).toList) = true := by rw [strL, strL, bne_iff_ne]; exact hvd
        have HN := Lib.hid (show Ls.numC d = none from Ls.numC_ne HV.out (fun h => hvd h.2))
        clear hvd
        go_wp2_with fail
        first | go_ret3 | go_ret2 | go_ret
        exact ⟨.inr ⟨HN.out, rfl⟩, HB4.out⟩
    · have g0 : decide (v < (0 : Int)) = true := decide_eq_true (by omega)
      have HN := Lib.hid (show Ls.numC d = none from Ls.numC_ne hv (fun h => hv0 h.1))
      have HB3 := Lib.hid hb3
      clear hv hb3 hv0
      go_wp2_with fail
      first | go_ret3 | go_ret2 | go_ret
      exact ⟨.inr ⟨HN.out, rfl⟩, HB3.out⟩
  · have HN := Lib.hid hv
    have HB3 := Lib.hid hb3
    clear hv hb3
    go_wp2_with fail
    first | go_ret3 | go_ret2 | go_ret
    exact ⟨.inr ⟨HN.out, rfl⟩, HB3.out⟩
namespace Ls
/-- What the loop of Number knows. -/
def NumS (d : LN) (i n : Nat) : Prop := (i = 0 ∧ n = 0) ∨ (1 ≤ i ∧ d.take i = Lib.decDigits n ∧ n < 10 ^ i ∧ (2 ≤ d.length → 1 ≤ n))
theorem NumS.bound {d : LN} {i n : Nat} (h : NumS d i n) (hi : i ≤ 4) : n ≤ 9999 := by
  rcases h with ⟨_, h⟩ | ⟨_, _, h, _⟩
  · omega
  · have : 10 ^ i ≤ 10 ^ 4 := Nat.pow_le_pow_right (by omega) hi
    omega
theorem NumS.step {d : LN} {i n : Nat} (h : NumS d i n) (hi : i < d.length) (h1 : 48 ≤ d[i].toNat) (h2 : d[i].toNat ≤ 57) (h0 : 2 ≤ d.length → ∀ (_ : 0 < d.length), d[0].toNat ≠ 48) : NumS d (i + 1) (10 * n + (d[i].toNat - 48)) := by
  refine .inr ⟨by omega, ?_, ?_, fun hl => ?_⟩
  · rcases h with ⟨rfl, rfl⟩ | ⟨ha, hb, hc, hd⟩
    · have hs : 10 * 0 + (d[0].toNat - 48) < 10 := by omega
      rw [Cd.Cod.dec_small hs, List.take_succ_eq_append_getElem hi, List.take_zero, List.nil_append]
      congr 1
      apply UInt8.toNat_inj.1
      rw [Cd.Cod.digit_nat hs]
      omega
    · have hn1 := hd (by omega)
      have hb10 : ¬ 10 * n + (d[i].toNat - 48) < 10 := by omega
      rw [Cd.Cod.dec_big hb10, List.take_succ_eq_append_getElem hi, hb]
      congr 1
      · congr 1; omega
      · congr 1
        apply UInt8.toNat_inj.1
        rw [Cd.Cod.digit_nat (by omega)]
        omega
  · rcases h with ⟨rfl, rfl⟩ | ⟨ha, hb, hc, hd⟩
    · simp; omega
    · rw [Nat.pow_succ]; omega
  · rcases h with ⟨rfl, rfl⟩ | ⟨ha, hb, hc, hd⟩
    · have := h0 hl (by omega); omega
    · have := hd hl; omega
theorem NumS.done {d : LN} {i n : Nat} (h : NumS d i n) (hi : i = d.length) (h1 : 1 ≤ d.length) (h4 : d.length ≤ 4) : numC d = some n := by
  have hb := h.bound (by omega)
  rcases h with ⟨h, _⟩ | ⟨_, h, _, _⟩
  · omega
  · rw [List.take_of_length_le (by omega)] at h
    rw [h]
    exact numC_dec hb
theorem numC_bad {d : LN} {c : UInt8} (hc : c ∈ d) (h : c.toNat < 48 ∨ 57 < c.toNat) : numC d = none := numC_none fun n _ e => by
  rw [e] at hc
  have := dec_digits n c hc
  omega
theorem numC_nil : numC [] = none := numC_none fun n _ e => by obtain ⟨c, t, h1, _⟩ := dec_first n; rw [h1] at e; cases e
theorem numC_zero {d : LN} (hl : 2 ≤ d.length) (h : d[0].toNat = 48) : numC d = none := numC_none fun n _ e => by
  obtain ⟨c, t, h1, h2⟩ := dec_first n
  have hc : d[0] = c := by
    have : d[0]? = some c := by rw [e, h1]; rfl
    rw [List.getElem?_eq_getElem (by omega)] at this
    exact Option.some.inj this
  have hn := h2 (by rw [← hc]; exact h)
  rw [e, hn, Cd.Cod.dec_small (by omega)] at hl
  simp at hl
end Ls
set_option maxHeartbeats 8000000 in
set_option maxRecDepth 100000 in
theorem qnumber_any (s : ByteArray) (w : World) (hs : s.size ≤ 1000000) : Calls Tryd.prog 57 #[.string s, .int .i64 4] w (GotDc w (Ls.numC s.data.toList)) := by
  by_cases hs1 : s.size < 1
  · have a1 : decide ((s.size : Int) < (1 : Int)) = true := decide_eq_true (by omega)
    have a1n : decide (s.size < 1) = true := decide_eq_true hs1
    have a1z : decide ((s.size : Int) = 0) = true := decide_eq_true (by omega)
    have HN := Lib.hid (show Ls.numC s.data.toList = none by
      have : s.data.toList = [] := List.length_eq_zero_iff.1 (by rw [size_data]; omega)
      rw [this]; exact Ls.numC_nil)
    generalize Ls.numC s.data.toList = V at *
    go_enter Tryd.func57, Tryd.ntmps57
    go_wp2_with fail
    first | go_ret3 | go_ret2 | go_ret
    exact ⟨.inr ⟨HN.out, rfl⟩, Below.refl _ _⟩
  have a1 : decide ((s.size : Int) < (1 : Int)) = false := decide_eq_false (by omega)
  have a1n : decide (s.size < 1) = false := decide_eq_false hs1
  by_cases hs4 : 4 < s.size
  · have a2 : decide ((4 : Int) < (s.size : Int)) = true := decide_eq_true (by omega)
    have a2n : decide (4 < s.size) = true := decide_eq_true hs4
    have HN := Lib.hid (show Ls.numC s.data.toList = none from Ls.numC_long (by rw [size_data]; exact hs4))
    generalize Ls.numC s.data.toList = V at *
    go_enter Tryd.func57, Tryd.ntmps57
    go_wp2_with fail
    first | go_ret3 | go_ret2 | go_ret
    exact ⟨.inr ⟨HN.out, rfl⟩, Below.refl _ _⟩
  have a2 : decide ((4 : Int) < (s.size : Int)) = false := decide_eq_false (by omega)
  have a2n : decide (4 < s.size) = false := decide_eq_false hs4
  have hsl : ∀ i (h : i < s.size), s.data.toList[i]'(by rw [size_data]; exact h) = s[i] := fun i h => by
    have := get_d s i h
    rw [List.getElem?_eq_getElem (by rw [size_data]; exact h)] at this
    exact Option.some.inj this
  have HSL := Lib.hid hsl
  have p0 : (0 : Int) < (s.size : Int) := by omega
  have p0n : 0 < s.size := by omega
  by_cases hz : 1 < s.size ∧ ∀ h : 0 < s.size, s[0].toNat = 48
  · have hz0 := hz.2 p0n
    have a3 : decide ((1 : Int) < (s.size : Int)) = true := decide_eq_true (by omega)
    have a3n : decide (1 < s.size) = true := decide_eq_true hz.1
    have a4 : ((s[0].toNat : Int) == 48) = true := by rw [beq_iff_eq, hz0]; rfl
    have a4n : (s[0].toNat == 48) = true := by rw [beq_iff_eq, hz0]
    have HN := Lib.hid (show Ls.numC s.data.toList = none from Ls.numC_zero (by rw [size_data]; omega) (by rw [HSL.out 0 p0n]; exact hz0))
    generalize Ls.numC s.data.toList = V at *
    clear hz hz0 hsl
    go_enter Tryd.func57, Tryd.ntmps57
    go_wp2_with fail
    first | go_ret3 | go_ret2 | go_ret
    exact ⟨.inr ⟨HN.out, rfl⟩, Below.refl _ _⟩
  have H0 := Lib.hid (show 2 ≤ s.data.toList.length → ∀ (_ : 0 < s.data.toList.length), s.data.toList[0].toNat ≠ 48 from fun h1 h2 e => hz ⟨by rw [size_data] at h1; omega, fun h => by rw [← HSL.out 0 h]; exact e⟩)
  have hor : (decide ((1 : Int) < (s.size : Int)) = false ∧ decide (1 < s.size) = false) ∨ (decide ((1 : Int) < (s.size : Int)) = true ∧ decide (1 < s.size) = true ∧ ((s[0].toNat : Int) == 48) = false ∧ (s[0].toNat == 48) = false) := by
    by_cases h1 : 1 < s.size
    · have : s[0].toNat ≠ 48 := fun e => hz ⟨h1, fun _ => e⟩
      exact .inr ⟨decide_eq_true (by omega), decide_eq_true h1, by rw [beq_eq_false_iff_ne]; omega, by rw [beq_eq_false_iff_ne]; exact this⟩
    · exact .inl ⟨decide_eq_false (by omega), decide_eq_false h1⟩
  have HI := Lib.hid (show Ls.NumS s.data.toList 0 0 from .inl ⟨rfl, rfl⟩)
  clear hz hsl
  have h14 : 1 ≤ s.size ∧ s.size ≤ 4 := by omega
  rcases hor with ⟨a3, a3n⟩ | ⟨a3, a3n, a4, a4n⟩
  all_goals
    go_enter Tryd.func57, Tryd.ntmps57
    go_wp2_with fail
    go_loopw [6, 7] (fun s6 s7 wr => ∃ n i : Nat, s6 = .int .i64 n ∧ s7 = .int .i64 i ∧ i ≤ s.size ∧ Ls.NumS s.data.toList i n ∧ w = wr) (fun _ s7 _ => s.size - (intOf s7).toNat)
    case atStart => exact ⟨0, 0, rfl, rfl, by omega, HI.out, rfl⟩
    case round =>
      clear HI
      obtain ⟨n, i, rfl, rfl, hi, hS, rfl⟩ := hrel
      have hn := hS.bound (by omega)
      by_cases hlt : i < s.size
      · have c0 : decide ((i : Int) < (s.size : Int)) = true := decide_eq_true (by omega)
        have c0n : decide (i < s.size) = true := decide_eq_true hlt
        have c2 : (i : Int) < (s.size : Int) := by omega
        have hmem : s[i] ∈ s.data.toList := by rw [← HSL.out i hlt]; exact List.getElem_mem _
        have hst := hS.step (by rw [size_data]; exact hlt)
        rw [HSL.out i hlt] at hst
        have HST := Lib.hid hst
        have HMB := Lib.hid (fun h => Ls.numC_bad hmem h)
        have hu := s[i].toNat_lt
        clear hst hmem hS
        by_cases h48 : s[i].toNat < 48
        · have d1 : decide ((s[i].toNat : Int) < (48 : Int)) = true := decide_eq_true (by omega)
          have d1n : decide (s[i].toNat < 48) = true := decide_eq_true h48
          have HN := Lib.hid (HMB.out (.inl h48))
          clear h48 HMB HST
          go_wp2_with fail
          first | go_ret3 | go_ret2 | go_ret
          exact ⟨.inr ⟨HN.out, rfl⟩, Below.refl _ _⟩
        have d1 : decide ((s[i].toNat : Int) < (48 : Int)) = false := decide_eq_false (by omega)
        have d1n : decide (s[i].toNat < 48) = false := decide_eq_false h48
        by_cases h57 : 57 < s[i].toNat
        · have d2 : decide ((57 : Int) < (s[i].toNat : Int)) = true := decide_eq_true (by omega)
          have d2n : decide (57 < s[i].toNat) = true := decide_eq_true h57
          have HN := Lib.hid (HMB.out (.inr h57))
          clear h57 HMB HST
          go_wp2_with fail
          first | go_ret3 | go_ret2 | go_ret
          exact ⟨.inr ⟨HN.out, rfl⟩, Below.refl _ _⟩
        have d2 : decide ((57 : Int) < (s[i].toNat : Int)) = false := decide_eq_false (by omega)
        have d2n : decide (57 < s[i].toNat) = false := decide_eq_false h57
        have HG := Lib.hid (HST.out (by omega) (by omega) H0.out)
        clear HMB HST
        obtain ⟨g, hg⟩ : ∃ g : Nat, s[i].toNat = g + 48 := ⟨s[i].toNat - 48, by omega⟩
        have hg9 : g ≤ 9 := by omega
        have e1 : (s[i].toNat : Int) - 48 = (g : Int) := by omega
        have e2 : IntKind.u8.wrap ((s[i].toNat : Int) - 48) = (g : Int) := by rw [e1, IntKind.wrap_u8']; omega
        have e3 : IntKind.i64.wrap (g : Int) = (g : Int) := IntWalk.i64_in _ (by omega)
        have e4 : IntKind.i64.wrap (10 * (n : Int)) = 10 * (n : Int) := IntWalk.i64_in _ (by omega)
        have e5 : IntKind.i64.wrap (10 * (n : Int) + (g : Int)) = 10 * (n : Int) + (g : Int) := IntWalk.i64_in _ (by omega)
        have e6 : IntKind.u8.wrap (g : Int) = (g : Int) := by rw [IntKind.wrap_u8']; omega
        have HGN := Lib.hid (show Ls.NumS s.data.toList (i + 1) (10 * n + g) by have h := HG.out; rwa [hg, Nat.add_sub_cancel] at h)
        clear hg HG h48 h57
        go_wp2_with fail
        go_roundw
        case rel => exact ⟨10 * n + g, i + 1, by first | rfl | go_num | (congr 1), by go_num, by omega, HGN.out, by first | rfl | trivial⟩
        case measure => simp [intOf]; omega
      · have c0 : decide ((i : Int) < (s.size : Int)) = false := decide_eq_false (by omega)
        have c0n : decide (i < s.size) = false := decide_eq_false hlt
        have HN := Lib.hid (hS.done (by rw [size_data]; omega) (by rw [size_data]; omega) (by rw [size_data]; omega))
        clear hS
        go_wp2_with fail
        first | go_ret3 | go_ret2 | go_ret
        exact ⟨.inl ⟨n, HN.out, hn, rfl⟩, Below.refl _ _⟩
end Go.Proofs.YtenaohnginikhaaDoor
