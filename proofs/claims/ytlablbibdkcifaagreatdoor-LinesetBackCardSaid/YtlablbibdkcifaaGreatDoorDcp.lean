/- decimal.Parse, strings.Cut at one byte and parse (of one line) of the program. Condition: bytealg's MaxLen, the table of powers and strconv's errors lie in their variables. -/
import Derived.Test.YtlablbibdkcifaaGreatDoorPls
import Derived.Test.YtlablbibdkcifaaGreatDoorPrn
import Derived.Test.YtlablbibdkcifaaGreatDoorVld
import Derived.Lib.AtoiAllCases
import Derived.Lib.SmallJoins
namespace Go.Proofs.YtlablbibdkcifaaGreatDoor
open Go.RowKit Go.Deep Tr

namespace Ls
theorem pu_dec : ∀ (n : Nat), n ≤ 9999 → ∀ rest, Lib.parseUint10 0 (Lib.decDigits n ++ rest) = Lib.parseUint10 n rest := by
  intro n
  induction n using Nat.strongRecOn with
  | _ n ih =>
    intro hn rest
    by_cases h : n < 10
    · rw [Cd.Cod.dec_small h, List.singleton_append, Lib.parseUint10, Cd.Cod.digit_nat h, if_pos (by omega), if_neg (by omega), if_neg (by omega)]
      congr 1
      omega
    · rw [Cd.Cod.dec_big h, List.append_assoc, ih (n / 10) (by omega) (by omega), List.singleton_append, Lib.parseUint10, Cd.Cod.digit_nat (show n % 10 < 10 by omega), if_pos (by omega), if_neg (by omega), if_neg (by omega)]
      congr 1
      omega
theorem atoi_dec {n : Nat} (h : n ≤ 9999) : Lib.atoiAll (Lib.decDigits n) = .ok (n : Int) := by
  obtain ⟨c, r, hd, _⟩ := dec_first n
  have hc := dec_digits n c (by rw [hd]; simp)
  have hp := pu_dec n h []
  rw [List.append_nil] at hp
  unfold Lib.atoiAll
  rw [hd]
  dsimp only
  rw [if_neg (by omega)]
  unfold Lib.parseMag
  rw [if_neg (by simp), ← hd, hp]
  simp only [Lib.parseUint10]
  rw [if_neg (by omega), if_neg (by omega), if_neg (by omega)]
theorem numC_of {d : LN} {v : Int} (hl : d.length ≤ 4) (hd : Lib.decDigits v.toNat = d) : numC d = some v.toNat := by
  have h1 : v.toNat ≤ 9999 := by
    rcases Nat.lt_or_ge v.toNat 10000 with h | h
    · omega
    · exfalso
      have h5 : ∀ k n, 10 ^ k ≤ n → k + 1 ≤ (Lib.decDigits n).length := by
        intro k
        induction k with
        | zero => intro n _; obtain ⟨c, r, hd, _⟩ := dec_first n; rw [hd]; simp
        | succ k ih =>
          intro n hn
          have hp : 0 < 10 ^ k := Nat.pos_of_ne_zero (by simp)
          have hn2 : 10 * 10 ^ k ≤ n := by rw [Nat.pow_succ] at hn; omega
          rw [Cd.Cod.dec_big (by omega), List.length_append, List.length_singleton]
          have := ih (n / 10) (by omega)
          omega
      have := h5 4 v.toNat (by omega)
      rw [hd] at this
      omega
  rw [← hd]
  exact numC_dec h1
theorem numC_ne {d : LN} {v : Int} (h : Lib.atoiAll d = .ok v) (hd : ¬ (0 ≤ v ∧ Lib.decDigits v.toNat = d)) : numC d = none :=
  numC_none fun n hn e => by
    rw [e, atoi_dec hn] at h
    injection h with h
    exact hd ⟨by omega, by rw [← h, e]; simp⟩
theorem numC_no {d : LN} (h : ∀ v, Lib.atoiAll d ≠ .ok v) : numC d = none :=
  numC_none fun n hn e => by rw [e] at h; exact h _ (atoi_dec hn)
theorem idx_cut (c : UInt8) (l : LN) : Lib.cut l [c] = (cutL c l, cutR c l, l.contains c) := by
  have hi : ∀ l : LN, ((∀ x ∈ l, x ≠ c) → Lib.index l [c] = -1) ∧ ∀ a r, l = a ++ c :: r → (∀ x ∈ a, x ≠ c) → Lib.index l [c] = (a.length : Int) := by
    intro l
    induction l with
    | nil => exact ⟨fun _ => rfl, fun a r e => by cases a <;> cases e⟩
    | cons y t ih =>
      have hpre : ([c] : List UInt8).isPrefixOf (y :: t) = (c == y) := by simp [List.isPrefixOf]
      refine ⟨fun h => ?_, fun a r e ha => ?_⟩
      · have hy : (c == y) = false := by rw [beq_eq_false_iff_ne]; exact fun e => h y (by simp) e.symm
        unfold Lib.index
        rw [hpre, hy, if_neg (by decide), ih.1 fun x hx => h x (by simp [hx])]
        rfl
      · cases a with
        | nil =>
          obtain ⟨rfl, rfl⟩ : y = c ∧ t = r := by simpa using e
          unfold Lib.index
          rw [hpre, if_pos (by simp)]
          rfl
        | cons z a =>
          obtain ⟨rfl, rfl⟩ : y = z ∧ t = a ++ c :: r := by simpa using e
          have hy : (c == y) = false := by rw [beq_eq_false_iff_ne]; exact fun e => ha y (by simp) e.symm
          unfold Lib.index
          rw [hpre, hy, if_neg (by decide), ih.2 a r rfl fun x hx => ha x (by simp [hx]), if_neg (by rw [beq_iff_eq]; omega)]
          simp
  unfold Lib.cut
  rcases cut_at c l with h | ⟨a, r, rfl, h⟩
  · rw [(hi l).1 h, if_neg (by omega), (cut_no h).1, (cut_no h).2]
    have : l.contains c = false := by rw [Bool.eq_false_iff]; intro hc; rw [List.contains_iff_mem] at hc; exact h c hc rfl
    rw [this]
  · rw [(hi _).2 a r rfl h, if_pos (by omega), (cut_yes h).1, (cut_yes h).2]
    simp
end Ls
structure ErrAt (w : World) : Prop where
  syn : ∃ ev, w.cell? ⟨2, 0, none⟩ = some ev ∧ (ev = .nilIface ∨ ∃ te pe, ev = .iface te pe)
  rng : ∃ ev, w.cell? ⟨3, 0, none⟩ = some ev ∧ (ev = .nilIface ∨ ∃ te pe, ev = .iface te pe)
theorem ErrAt.below {w w' : World} (h : ErrAt w) (hb : Below w.heap.size w w') : ErrAt w' := by
  obtain ⟨⟨e1, h1, k1⟩, ⟨e2, h2, k2⟩⟩ := h
  exact ⟨⟨e1, (hb.cell (p := ⟨2, 0, none⟩) (World.block_lt_of_cell? w _ h1)).trans h1, k1⟩, ⟨e2, (hb.cell (p := ⟨3, 0, none⟩) (World.block_lt_of_cell? w _ h2)).trans h2, k2⟩⟩
theorem atoi_any (d : List UInt8) (hd : d.length ≤ 1000000000) (w : World) (hE : ErrAt w) : Calls Tryz.prog 81 #[.string (str d)] w fun e w' => Below w.heap.size w w' ∧ ((∃ v : Int, Lib.atoiAll d = .ok v ∧ e = .returned (.tuple #[.int .i64 v, .nilIface])) ∨ (Ls.numC d = none ∧ ∃ (v : Int) (T N : Nat), e = .returned (.tuple #[.int .i64 v, .iface T (.pointer (some ⟨N, 0, none⟩))]))) := by
  have hs : (str d).size ≤ 1000000000 := by rw [str_size]; exact hd
  cases h : Lib.atoiAll d
  case ok v =>
    refine (Tryz.strconv_Atoi_ok (str d) (by omega) v (by rw [str_data]; exact h) w).mono fun e w' hh => ?_
    obtain ⟨rfl, hw⟩ := hh
    refine ⟨?_, .inl ⟨v, rfl, rfl⟩⟩
    rcases hw with rfl | ⟨t, rfl⟩
    · exact Below.refl _ _
    · exact Go.Joins.below_bytesWorld w.heap.size w 5 t (Nat.le_refl _)
  case range =>
    obtain ⟨ev, h1, h2⟩ := hE.rng
    refine (Tryz.strconv_Atoi_range (str d) (by omega) (by rw [str_data]; exact h) ev w h1 h2).mono fun e w' hh => ?_
    obtain ⟨N, rfl, _, _, hb⟩ := hh
    exact ⟨hb, .inr ⟨Ls.numC_no (fun v e => by rw [h] at e; cases e), _, _, _, rfl⟩⟩
  obtain ⟨ev, h1, h2⟩ := hE.syn
  refine (Tryz.strconv_Atoi_syntax (str d) (by omega) (by rw [str_data]; exact h) ev w h1 h2).mono fun e w' hh => ?_
  obtain ⟨N, rfl, _, _, hb⟩ := hh
  exact ⟨hb, .inr ⟨Ls.numC_no (fun v e => by rw [h] at e; cases e), _, _, _, rfl⟩⟩
theorem cut_any (c : UInt8) (p : List UInt8) (w : World) (hp : p.length ≤ 1000000000) (hM : MaxAt w) :
    Calls Tryz.prog 42 #[.string (str p), .string ⟨#[c]⟩] w fun e w' => e = .returned (.tuple #[.string (str (Ls.cutL c p)), .string (str (Ls.cutR c p)), .bool (p.contains c)]) ∧ Below w.heap.size w w' := by
  obtain ⟨m, hm⟩ := hM
  have h := Tryz.strings_Cut (str p) ⟨#[c]⟩ m w (by rw [str_size]; omega) hm
  rw [show (str p).data.toList = p from by simp [str], show (⟨#[c]⟩ : ByteArray).data.toList = [c] from rfl, Ls.idx_cut] at h
  refine h.mono fun e w' hh => ?_
  obtain ⟨h1, n, rfl⟩ := hh
  exact ⟨h1, below_drewN' n⟩
/-- What decimal.Parse returns. -/
def GotDc (w : World) (o : Option Nat) : Ending → World → Prop := fun e w' => ((∃ n : Nat, o = some n ∧ n ≤ 9999 ∧ e = .returned (.tuple #[.int .i64 (n : Int), .bool true])) ∨ (o = none ∧ e = .returned (.tuple #[.int .i64 0, .bool false]))) ∧ Below w.heap.size w w'
set_option maxHeartbeats 8000000 in
set_option maxRecDepth 100000 in
theorem decimal_any (d : List UInt8) (hd : d.length ≤ 1000000000) (w : World) (hE : ErrAt w) (hT : Cd.Tabs w) : Calls Tryz.prog 64 #[.string (str d), .int .i64 4] w (GotDc w (Ls.numC d)) := by
  have hds := str_size d
  by_cases h4 : 4 < d.length
  · have g1 : decide ((4 : Int) < ((str d).size : Int)) = true := decide_eq_true (by omega)
    have g1n : decide (4 < (str d).size) = true := decide_eq_true (by omega)
    have HN := Lib.hid (Ls.numC_long h4)
    clear hds
    go_enter Tryz.func64, Tryz.ntmps64
    go_wp2_with fail
    first | go_ret3 | go_ret2 | go_ret
    exact ⟨.inr ⟨HN.out, rfl⟩, Below.refl _ _⟩
  have g1 : decide ((4 : Int) < ((str d).size : Int)) = false := decide_eq_false (by omega)
  have g1n : decide (4 < (str d).size) = false := decide_eq_false (by omega)
  have c3 := atoi_any d hd w hE
  have HT := Lib.hid hT
  have H4 := Lib.hid (show d.length ≤ 4 by omega)
  clear hds hE hT h4
  go_enter Tryz.func64, Tryz.ntmps64
  go_wp2_with fail
  with_reducible refine c3.mono ?_
  clear c3
  rintro e w3 ⟨hb3, hor⟩
  rcases hor with ⟨v, hv, rfl⟩ | ⟨hv, v, T, N, rfl⟩
  · have hvb := Lib.atoiAll_bounds hv
    by_cases hv0 : 0 ≤ v
    · have g0 : decide (v < (0 : Int)) = false := decide_eq_false (by omega)
      obtain ⟨m, rfl⟩ : ∃ m : Nat, v = m := ⟨v.toNat, by omega⟩
      have c4 : Calls Tryz.prog 39 #[.int .i64 (m : Int)] w3 fun e w' => e = .returned (.string (str (Lib.decDigits m))) ∧ Below w3.heap.size w3 w' := Cd.itoa_any m (by omega) w3 (HT.out.below hb3)
      have HV := Lib.hid hv
      have HB3 := Lib.hid hb3
      clear hv hb3
      go_wp2_with fail
      with_reducible refine c4.mono ?_
      clear c4
      rintro e w4 ⟨rfl, hb4⟩
      have HB4 := Lib.hid (HB3.out.trans (hb4.mono HB3.out.size))
      clear hb4
      by_cases hvd : Lib.decDigits m = d
      · have q : ((str (Lib.decDigits m)).toList == (str d).toList) = true := by rw [hvd]; simp
        have q2 : ((str (Lib.decDigits m)).toList != (str d).toList) = false := by rw [hvd]; simp
        have HN := Lib.hid (show Ls.numC d = some m from Ls.numC_of (v := (m : Int)) H4.out hvd)
        clear hvd
        go_wp2_with fail
        first | go_ret3 | go_ret2 | go_ret
        exact ⟨.inl ⟨m, HN.out, (Ls.numC_back HN.out).2, rfl⟩, HB4.out⟩
      · have q : ((str (Lib.decDigits m)).toList == (str d).toList) = false := by rw [strL, strL, beq_eq_false_iff_ne]; exact hvd
        have q2 : ((str (Lib.decDigits m)).toList != (str d).toList) = true := by rw [strL, strL, bne_iff_ne]; exact hvd
        have HN := Lib.hid (show Ls.numC d = none from Ls.numC_ne HV.out (fun h => hvd h.2))
        clear hvd
        go_wp2_with fail
        first | go_ret3 | go_ret2 | go_ret
        exact ⟨.inr ⟨HN.out, rfl⟩, HB4.out⟩
    · have g0 : decide (v < (0 : Int)) = true := decide_eq_true (by omega)
      have HN := Lib.hid (show Ls.numC d = none from Ls.numC_ne hv (fun h => hv0 h.1))
      have HB3 := Lib.hid hb3
      clear hv hb3 hv0
      go_wp2_with fail
      first | go_ret3 | go_ret2 | go_ret
      exact ⟨.inr ⟨HN.out, rfl⟩, HB3.out⟩
  · have HN := Lib.hid hv
    have HB3 := Lib.hid hb3
    clear hv hb3
    go_wp2_with fail
    first | go_ret3 | go_ret2 | go_ret
    exact ⟨.inr ⟨HN.out, rfl⟩, HB3.out⟩
end Go.Proofs.YtlablbibdkcifaaGreatDoor
