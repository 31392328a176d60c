/- Parse of a patch as a plain function: hunks out of lines, there and back; Parse behind Print, Print behind Parse. No condition.
The head lines as the program reads them (a number of any size), and that Parse ends alike. No condition.
The head line of a hunk, any line: parseHead of the program. Condition: the errors of strconv and the tables lie.
Parse of the program, any text. Condition: the variables that the program reads lie.
The reference's head lines: Count, number, after. No condition but the lengths. -/
import Derived.Test.YtmmdldicafbjdaaGreatDoorKp3
import Derived.Test.YtmmdldicafbjdaaGreatDoorCdCod
import Derived.Test.YtmmdldicafbjdaaGreatDoorPm2
import Derived.Lib.AtoiAllCases
import Derived.Test.YtmmdldicafbjdaaGreatDoorPm1
import Derived.Test.YtmmdldicafbjdaaGreatDoorQof
import Derived.Test.YtmmdldicafbjdaaGreatDoorTrFnd
section
namespace Go.Proofs.YtmmdldicafbjdaaGreatDoor
open Tr
namespace Pc

/-- The number that digits in normal form stand for (1 to 1024), else 0. -/
def numL (d : List UInt8) : Nat :=
  match Cd.Cod.scan 1024 59 (d ++ [59]) 0 false with
  | .ok m [] => m
  | _ => 0
theorem numL_dec {n : Nat} (h : n ≤ 1024) : numL (Lib.decDigits n) = n := by
  unfold numL
  rw [Cd.Cod.scan_num 1024 59 (by decide) n h []]
theorem numL_back {d : List UInt8} (h : numL d ≠ 0) : d = Lib.decDigits (numL d) ∧ numL d ≤ 1024 := by
  unfold numL at h ⊢
  split at h
  · rename_i m he
    obtain ⟨h1, h2⟩ := Cd.Cod.scan_back 1024 59 _ m [] he
    exact ⟨List.append_cancel_right h2, h1⟩
  · exact absurd rfl h
/-- The kind and the number that a head line names. -/
def headN (x : List UInt8) : Option (Int × Nat) :=
  if (word 1).isPrefixOf x = true then (if numL (x.drop 5) = 0 then none else some (1, numL (x.drop 5)))
  else if (word 2).isPrefixOf x = true then (if numL (x.drop 5) = 0 then none else some (2, numL (x.drop 5)))
  else if (word 3).isPrefixOf x = true then (if numL (x.drop 4) = 0 then none else some (3, numL (x.drop 4)))
  else none
theorem headN_head {h : Hk} (hh : isHunk h = true) : headN (headL h) = some (h.kind, h.n.toNat) := by
  obtain ⟨⟨n1, n2⟩, hk, _⟩ := isHunk_num hh
  have hc := numL_dec (n := h.n.toNat) (by omega)
  have h0 : ¬ h.n.toNat = 0 := by omega
  unfold headL headN
  rcases hk with e | e | e
  · rw [e, if_pos (by simp [word]), show (word 1 ++ Lib.decDigits h.n.toNat).drop 5 = Lib.decDigits h.n.toNat from rfl, hc, if_neg h0]
  · rw [e, if_neg (by simp [word]), if_pos (by simp [word]), show (word 2 ++ Lib.decDigits h.n.toNat).drop 5 = Lib.decDigits h.n.toNat from rfl, hc, if_neg h0]
  · rw [e, if_neg (by simp [word]), if_neg (by simp [word]), if_pos (by simp [word]), show (word 3 ++ Lib.decDigits h.n.toNat).drop 4 = Lib.decDigits h.n.toNat from rfl, hc, if_neg h0]
theorem prefix_cut {p x : List UInt8} (h : p.isPrefixOf x = true) : x = p ++ x.drop p.length := by
  obtain ⟨t, rfl⟩ := List.isPrefixOf_iff_prefix.1 h
  simp
theorem headN_back {x : List UInt8} {k : Int} {n : Nat} (h : headN x = some (k, n)) : (k = 1 ∨ k = 2 ∨ k = 3) ∧ 1 ≤ n ∧ n ≤ 1024 ∧ x = word k ++ Lib.decDigits n := by
  have key : ∀ (c : Int) (m : Nat), (word c).isPrefixOf x = true → m = (word c).length → (if numL (x.drop m) = 0 then none else some (c, numL (x.drop m))) = some (k, n) → k = c ∧ 1 ≤ n ∧ n ≤ 1024 ∧ x = word c ++ Lib.decDigits n := by
    intro c m hp hm hi
    split at hi
    · cases hi
    · rename_i h0
      injection hi with hi
      injection hi with h1 h2
      obtain ⟨b1, b2⟩ := numL_back h0
      have hx := prefix_cut hp
      rw [← hm] at hx
      subst h1 h2
      refine ⟨rfl, by omega, b2, ?_⟩
      rw [← b1]
      exact hx
  unfold headN at h
  split at h
  · rename_i hp
    obtain ⟨rfl, z⟩ := key 1 5 hp rfl h
    exact ⟨.inl rfl, z⟩
  · split at h
    · rename_i hp
      obtain ⟨rfl, z⟩ := key 2 5 hp rfl h
      exact ⟨.inr (.inl rfl), z⟩
    · split at h
      · rename_i hp
        obtain ⟨rfl, z⟩ := key 3 4 hp rfl h
        exact ⟨.inr (.inr rfl), z⟩
      · cases h
/-- The hunks of lines. -/
def hunksOf : Nat → List (List UInt8) → Option (List Hk)
  | _, [] => some []
  | 0, _ :: _ => none
  | f + 1, x :: t =>
    match headN x with
    | none => none
    | some (k, n) => if k = 3 then (if t.length < n then none else (hunksOf f (t.drop n)).map (⟨3, (n : Int), t.take n⟩ :: ·)) else (hunksOf f t).map (⟨k, (n : Int), []⟩ :: ·)
theorem hunksOf_body : ∀ (hs : List Hk) (f : Nat), (bodyL hs).length ≤ f → (∀ h ∈ hs, isHunk h = true) → hunksOf f (bodyL hs) = some hs
  | [], f, _, _ => by cases f <;> rfl
  | h :: t, 0, hf, _ => by simp [bodyL] at hf
  | h :: t, f + 1, hf, ha => by
    have hh := ha h (by simp)
    have ht := fun x hx => ha x (List.mem_cons_of_mem h hx)
    obtain ⟨⟨n1, n2⟩, hk, hl⟩ := isHunk_num hh
    have hl2 : (h.kind = 3 → (h.ls.length : Int) = h.n) ∧ (h.kind ≠ 3 → h.ls = []) := by
      unfold isHunk at hh
      refine ⟨fun e => ?_, fun e => ?_⟩
      · rw [if_neg (by omega), if_pos e] at hh
        simp only [Bool.and_eq_true, decide_eq_true_eq] at hh
        exact hh.2
      · rw [if_pos (by omega)] at hh
        simp only [Bool.and_eq_true, decide_eq_true_eq] at hh
        exact List.length_eq_zero_iff.1 hh.2
    simp only [bodyL, List.length_cons, List.length_append, List.cons_append] at hf
    rw [show bodyL (h :: t) = headL h :: (h.ls ++ bodyL t) from by simp [bodyL], hunksOf, headN_head hh]
    dsimp only
    by_cases e : h.kind = 3
    · have e2 := hl2.1 e
      have e3 : h.n.toNat = h.ls.length := by omega
      rw [if_pos e, if_neg (by rw [List.length_append]; omega), e3, List.drop_left, List.take_left, hunksOf_body t f (by omega) ht]
      have : (⟨3, ((h.ls.length : Nat) : Int), h.ls⟩ : Hk) = h := by rw [e2, ← e]
      rw [this]
      rfl
    · have e2 := hl2.2 e
      rw [if_neg e, e2, List.nil_append, hunksOf_body t f (by omega) ht]
      have : (⟨h.kind, ((h.n.toNat : Nat) : Int), []⟩ : Hk) = h := by rw [show ((h.n.toNat : Nat) : Int) = h.n by omega, ← e2]
      rw [this]
      rfl
theorem hunksOf_back : ∀ (f : Nat) (l : List (List UInt8)) (hs : List Hk), hunksOf f l = some hs → bodyL hs = l ∧ ∀ h ∈ hs, isHunk h = true
  | f, [], hs, h => by
    have : hs = [] := by cases f <;> (rw [hunksOf] at h; exact (Option.some.inj h).symm)
    subst this
    exact ⟨rfl, fun h hh => by simp at hh⟩
  | 0, _ :: _, hs, h => by rw [hunksOf] at h; cases h
  | f + 1, x :: t, hs, h => by
    rw [hunksOf] at h
    split at h
    · cases h
    · rename_i k n hx
      obtain ⟨hk, n1, n2, rfl⟩ := headN_back hx
      have hnn : isNum (n : Int) = true := (isNum_iff _).2 ⟨by omega, by omega⟩
      split at h
      · rename_i hk3
        subst hk3
        split at h
        · cases h
        · rename_i hlt
          obtain ⟨r, hr, rfl⟩ := Option.map_eq_some_iff.1 h
          obtain ⟨b1, b2⟩ := hunksOf_back f _ r hr
          refine ⟨?_, fun y hy => ?_⟩
          · simp only [bodyL, headL, b1, Int.toNat_natCast, List.cons_append, List.take_append_drop]
          · rcases List.mem_cons.1 hy with rfl | hy
            · unfold isHunk
              rw [if_neg (by dsimp only; omega), if_pos rfl, hnn]
              simp only [Bool.true_and, decide_eq_true_eq, List.length_take]
              omega
            · exact b2 y hy
      · rename_i hk3
        obtain ⟨r, hr, rfl⟩ := Option.map_eq_some_iff.1 h
        obtain ⟨b1, b2⟩ := hunksOf_back f _ r hr
        refine ⟨?_, fun y hy => ?_⟩
        · simp only [bodyL, headL, b1, Int.toNat_natCast, List.cons_append, List.nil_append]
        · rcases List.mem_cons.1 hy with rfl | hy
          · unfold isHunk
            rw [if_pos (by dsimp only; omega), hnn]
            rfl
          · exact b2 y hy
/-- The digest that 64 hexadecimal digits stand for. -/
def unhex (t : List UInt8) : Option (List UInt8) := if t.length = 64 ∧ Dg.AllHex t 64 then some (Dg.parS ⟨t.toArray⟩).data.toList else none
def fin (b : List UInt8) (o : Option (List Hk)) : Pa × Int :=
  match o with
  | none => (⟨[], []⟩, 4)
  | some hs => if valid ⟨b, hs⟩ = true then (⟨b, hs⟩, 0) else (⟨[], []⟩, 4)
theorem fin_ok {b : List UInt8} {hs : List Hk} (hv : valid ⟨b, hs⟩ = true) : fin b (some hs) = (⟨b, hs⟩, 0) := if_pos hv
def parseL (l : List (List UInt8)) : Pa × Int :=
  match l with
  | [] => (⟨[], []⟩, 4)
  | x :: t => if baseW.isPrefixOf x = true then (match unhex (x.drop 5) with | none => (⟨[], []⟩, 4) | some b => fin b (hunksOf t.length t)) else fin [] (hunksOf (t.length + 1) (x :: t))
def parse (text : List UInt8) : Pa × Int := if (Tre.lines text).2 ≠ 0 then (⟨[], []⟩, (Tre.lines text).2) else parseL (Tre.lines text).1
theorem unhex_hex {b : List UInt8} (h : b.length = 32) : unhex (hex b) = some b := by
  have hs : (⟨b.toArray⟩ : ByteArray).size = 32 := h
  have h1 := Dg.par_hex ⟨b.toArray⟩ hs
  unfold Dg.parV at h1
  unfold unhex hex
  split at h1
  · rename_i hc
    rw [if_pos ⟨hc.1, hc.2⟩]
    injection h1 with h1
    simp only [List.cons.injEq, Array.mk.injEq, Value.string.injEq, and_true] at h1
    rw [show (⟨(Dg.hexS ⟨b.toArray⟩).data.toList.toArray⟩ : ByteArray) = Dg.hexS ⟨b.toArray⟩ by simp, h1]
  · rename_i hc
    injection h1 with h1
    simp at h1
theorem hex_unhex {t b : List UInt8} (h : unhex t = some b) : hex b = t ∧ b.length = 32 := by
  unfold unhex at h
  split at h
  · rename_i hc
    injection h with h
    subst h
    have hs : (⟨t.toArray⟩ : ByteArray).size = 64 := hc.1
    have h1 := Dg.hex_par ⟨t.toArray⟩ hs (by simpa using hc.2)
    refine ⟨?_, Dg.parS_size _⟩
    unfold hex
    rw [show (⟨(Dg.parS ⟨t.toArray⟩).data.toList.toArray⟩ : ByteArray) = Dg.parS ⟨t.toArray⟩ by simp, h1]
  · cases h
theorem noBase (h : Hk) : baseW.isPrefixOf (headL h) = false := by
  unfold headL word
  split
  · rfl
  · split <;> rfl
/-- Parse behind Print. -/
theorem parse_print {p : Pa} (hv : valid p = true) : parse (Tre.joined (printL p)) = (p, 0) := by
  obtain ⟨hsh, hba, hjo⟩ := valid_parts hv
  obtain ⟨_, j2, j3, _, _⟩ := join_ok hjo
  have hall := (shape_len hsh).2.2
  unfold parse
  rw [j2, if_neg (by simp)]
  dsimp only
  obtain ⟨b, hs⟩ := p
  unfold printL at j3 ⊢
  dsimp only at *
  by_cases hb : b = []
  · subst hb
    rw [if_pos rfl, List.nil_append] at j3 ⊢
    cases hs with
    | nil => exact absurd rfl j3
    | cons h t =>
      have hx := hunksOf_body (h :: t) (bodyL (h :: t)).length (Nat.le_refl _) hall
      rw [show bodyL (h :: t) = headL h :: (h.ls ++ bodyL t) from by simp [bodyL]] at hx ⊢
      unfold parseL
      dsimp only
      rw [if_neg (by rw [noBase]; decide)]
      rw [List.length_cons] at hx
      rw [hx]
      exact fin_ok hv
  · rw [if_neg hb, List.cons_append, List.nil_append]
    have hbl : b.length = 32 := by
      unfold baseOk at hba
      simpa [hb] using hba
    unfold parseL
    dsimp only
    rw [if_pos (by simp [baseW]), show (baseW ++ hex b).drop 5 = hex b from rfl, unhex_hex hbl]
    dsimp only
    rw [hunksOf_body hs _ (Nat.le_refl _) hall]
    exact fin_ok hv
theorem fin_back {b : List UInt8} {o : Option (List Hk)} {p : Pa} (h : fin b o = (p, 0)) : ∃ hs, o = some hs ∧ p = ⟨b, hs⟩ ∧ valid p = true := by
  unfold fin at h
  split at h
  · cases (Prod.mk.inj h).2
  · rename_i hs
    split at h
    · rename_i hv
      have := (Prod.mk.inj h).1
      subst this
      exact ⟨hs, rfl, rfl, hv⟩
    · cases (Prod.mk.inj h).2
/-- Print behind Parse. -/
theorem print_parse {text : List UInt8} {p : Pa} (h : parse text = (p, 0)) : print p = (text, 0) := by
  unfold parse at h
  split at h
  · rename_i he
    exact absurd (Prod.mk.inj h).2 he
  · rename_i he
    obtain ⟨l, hl⟩ : ∃ l, Tre.lines text = (l, 0) := ⟨(Tre.lines text).1, Prod.ext rfl (by simpa using he)⟩
    obtain ⟨_, _, _, l4, _, _⟩ := lines_ok hl
    rw [hl] at h
    dsimp only at h
    have key : valid p = true ∧ printL p = l := by
      unfold parseL at h
      split at h
      · cases (Prod.mk.inj h).2
      · rename_i x t
        split at h
        · rename_i hp
          split at h
          · cases (Prod.mk.inj h).2
          · rename_i b hub
            obtain ⟨hs, h1, rfl, h3⟩ := fin_back h
            obtain ⟨b1, b2⟩ := hex_unhex hub
            obtain ⟨c1, _⟩ := hunksOf_back _ _ _ h1
            refine ⟨h3, ?_⟩
            unfold printL
            dsimp only
            rw [if_neg (by intro e; rw [e] at b2; simp at b2), b1, c1]
            have hx := prefix_cut hp
            rw [show baseW.length = 5 from rfl] at hx
            rw [← hx]
            rfl
        · obtain ⟨hs, h1, rfl, h3⟩ := fin_back h
          obtain ⟨c1, _⟩ := hunksOf_back _ _ _ h1
          refine ⟨h3, ?_⟩
          unfold printL
          dsimp only
          rw [if_pos rfl, c1]
          rfl
    unfold print
    rw [if_pos key.1, key.2, l4]
end Pc
end Go.Proofs.YtmmdldicafbjdaaGreatDoor
end
section
namespace Go.Proofs.YtmmdldicafbjdaaGreatDoor
open Tr
namespace Pc

theorem pu_dec : ∀ (n : Nat), n ≤ 1024 → ∀ rest, Lib.parseUint10 0 (Lib.decDigits n ++ rest) = Lib.parseUint10 n rest := by
  intro n
  induction n using Nat.strongRecOn with
  | _ n ih =>
    intro hn rest
    by_cases h : n < 10
    · rw [Cd.Cod.dec_small h, List.singleton_append, Lib.parseUint10, Cd.Cod.digit_nat h, if_pos (by omega), if_neg (by omega), if_neg (by omega)]
      congr 1
      omega
    · rw [Cd.Cod.dec_big h, List.append_assoc, ih (n / 10) (by omega) (by omega), List.singleton_append, Lib.parseUint10, Cd.Cod.digit_nat (show n % 10 < 10 by omega), if_pos (by omega), if_neg (by omega), if_neg (by omega)]
      congr 1
      omega
theorem dec_cons : ∀ (n : Nat), ∃ c r, Lib.decDigits n = c :: r ∧ 48 ≤ c.toNat ∧ c.toNat ≤ 57 := by
  intro n
  induction n using Nat.strongRecOn with
  | _ n ih =>
    by_cases h : n < 10
    · exact ⟨_, [], Cd.Cod.dec_small h, by rw [Cd.Cod.digit_nat h]; omega, by rw [Cd.Cod.digit_nat h]; omega⟩
    · obtain ⟨c, r, h1, h2, h3⟩ := ih (n / 10) (by omega)
      exact ⟨c, r ++ [UInt8.ofNat (48 + n % 10)], by rw [Cd.Cod.dec_big h, h1, List.cons_append], h2, h3⟩
theorem atoi_dec {n : Nat} (h : n ≤ 1024) : Lib.atoiAll (Lib.decDigits n) = .ok (n : Int) := by
  obtain ⟨c, r, hd, h1, h2⟩ := dec_cons n
  have hp := pu_dec n h []
  rw [List.append_nil] at hp
  unfold Lib.atoiAll
  rw [hd]
  dsimp only
  rw [if_neg (by omega)]
  unfold Lib.parseMag
  rw [if_neg (by simp), ← hd, hp]
  simp only [Lib.parseUint10]
  rw [if_neg (by omega), if_neg (by omega), if_neg (by omega)]
/-- The number of a head line as the program reads it. -/
def numP (d : List UInt8) : Option Nat :=
  match Lib.atoiAll d with
  | .ok v => if 0 < v ∧ Lib.decDigits v.toNat = d then some v.toNat else none
  | _ => none
theorem numP_dec {n : Nat} (h1 : 1 ≤ n) (h : n ≤ 1024) : numP (Lib.decDigits n) = some n := by
  unfold numP
  rw [atoi_dec h]
  exact if_pos ⟨by omega, rfl⟩
theorem numP_back {d : List UInt8} {n : Nat} (h : numP d = some n) : d = Lib.decDigits n ∧ 1 ≤ n := by
  unfold numP at h
  split at h
  · split at h
    · rename_i hc
      injection h with h
      subst h
      exact ⟨hc.2.symm, by omega⟩
    · cases h
  · cases h
theorem numP_L {d : List UInt8} {n : Nat} (h : numP d = some n) (hn : n ≤ 1024) : numL d = n := by
  obtain ⟨h1, _⟩ := numP_back h
  rw [h1]
  exact numL_dec hn
theorem numL_P {d : List UInt8} (h : ¬ numL d = 0) : numP d = some (numL d) := by
  obtain ⟨h1, h2⟩ := numL_back h
  have := numP_dec (n := numL d) (by omega) h2
  rwa [← h1] at this
def headP (x : List UInt8) : Option (Int × Nat) :=
  if (word 1).isPrefixOf x = true then (numP (x.drop 5)).map fun n => (1, n)
  else if (word 2).isPrefixOf x = true then (numP (x.drop 5)).map fun n => (2, n)
  else if (word 3).isPrefixOf x = true then (numP (x.drop 4)).map fun n => (3, n)
  else none
theorem headN_P {x : List UInt8} {k : Int} {n : Nat} (h : headN x = some (k, n)) : headP x = some (k, n) := by
  have key : ∀ (c : Int) (m : Nat), (if numL (x.drop m) = 0 then none else some (c, numL (x.drop m))) = some (k, n) → ((numP (x.drop m)).map fun n => (c, n)) = some (k, n) := by
    intro c m hi
    split at hi
    · cases hi
    · rename_i h0
      rw [numL_P h0]
      exact hi
  unfold headN at h
  unfold headP
  split at h
  · rw [if_pos (by assumption)]; exact key _ _ h
  · rw [if_neg (by assumption)]
    split at h
    · rw [if_pos (by assumption)]; exact key _ _ h
    · rw [if_neg (by assumption)]
      split at h
      · rw [if_pos (by assumption)]; exact key _ _ h
      · cases h
theorem headP_N {x : List UInt8} {k : Int} {n : Nat} (h : headP x = some (k, n)) (hn : n ≤ 1024) : headN x = some (k, n) := by
  have key : ∀ (c : Int) (m : Nat), ((numP (x.drop m)).map fun n => (c, n)) = some (k, n) → (if numL (x.drop m) = 0 then none else some (c, numL (x.drop m))) = some (k, n) := by
    intro c m hi
    obtain ⟨z, hz, he⟩ := Option.map_eq_some_iff.1 hi
    injection he with h1 h2
    subst h2
    have h3 := (numP_back hz).2
    rw [numP_L hz hn, if_neg (by omega), h1]
  unfold headP at h
  unfold headN
  split at h
  · rw [if_pos (by assumption)]; exact key _ _ h
  · rw [if_neg (by assumption)]
    split at h
    · rw [if_pos (by assumption)]; exact key _ _ h
    · rw [if_neg (by assumption)]
      split at h
      · rw [if_pos (by assumption)]; exact key _ _ h
      · cases h
/-- The hunks of lines as the program reads them. -/
def hunksP : Nat → List (List UInt8) → Option (List Hk)
  | _, [] => some []
  | 0, _ :: _ => none
  | f + 1, x :: t =>
    match headP x with
    | none => none
    | some (k, n) => if k = 3 then (if t.length < n then none else (hunksP f (t.drop n)).map (⟨3, (n : Int), t.take n⟩ :: ·)) else (hunksP f t).map (⟨k, (n : Int), []⟩ :: ·)
theorem hunksOf_P : ∀ (f : Nat) (l : List (List UInt8)) (hs : List Hk), hunksOf f l = some hs → hunksP f l = some hs
  | f, [], hs, h => by cases f <;> (rw [hunksOf] at h; rw [hunksP]; exact h)
  | 0, _ :: _, hs, h => by rw [hunksOf] at h; cases h
  | f + 1, x :: t, hs, h => by
    rw [hunksOf] at h
    split at h
    · cases h
    · rename_i k n hx
      rw [hunksP, headN_P hx]
      dsimp only
      split at h
      · rw [if_pos (by assumption)]
        split at h
        · cases h
        · rw [if_neg (by assumption)]
          obtain ⟨r, hr, he⟩ := Option.map_eq_some_iff.1 h
          rw [hunksOf_P f _ r hr, Option.map_some, he]
      · rw [if_neg (by assumption)]
        obtain ⟨r, hr, he⟩ := Option.map_eq_some_iff.1 h
        rw [hunksOf_P f _ r hr, Option.map_some, he]
theorem hunksP_of : ∀ (f : Nat) (l : List (List UInt8)) (hs : List Hk), hunksP f l = some hs → (∀ h ∈ hs, h.n ≤ 1024) → hunksOf f l = some hs
  | f, [], hs, h, _ => by cases f <;> (rw [hunksP] at h; rw [hunksOf]; exact h)
  | 0, _ :: _, hs, h, _ => by rw [hunksP] at h; cases h
  | f + 1, x :: t, hs, h, ha => by
    rw [hunksP] at h
    split at h
    · cases h
    · rename_i k n hx
      split at h
      · rename_i hk
        split at h
        · cases h
        · rename_i hlt
          obtain ⟨r, hr, he⟩ := Option.map_eq_some_iff.1 h
          have hn : n ≤ 1024 := by
            have := ha ⟨3, (n : Int), t.take n⟩ (by rw [← he]; exact List.mem_cons_self ..)
            dsimp only at this
            omega
          rw [hunksOf, headP_N hx hn]
          dsimp only
          rw [if_pos hk, if_neg hlt, hunksP_of f _ r hr fun y hy => ha y (by rw [← he]; exact List.mem_cons_of_mem _ hy), Option.map_some, he]
      · rename_i hk
        obtain ⟨r, hr, he⟩ := Option.map_eq_some_iff.1 h
        have hn : n ≤ 1024 := by
          have := ha ⟨k, (n : Int), []⟩ (by rw [← he]; exact List.mem_cons_self ..)
          dsimp only at this
          omega
        rw [hunksOf, headP_N hx hn]
        dsimp only
        rw [if_neg hk, hunksP_of f _ r hr fun y hy => ha y (by rw [← he]; exact List.mem_cons_of_mem _ hy), Option.map_some, he]
/-- Both ways of reading end alike. -/
theorem fin_same (b : List UInt8) (f : Nat) (l : List (List UInt8)) : fin b (hunksP f l) = fin b (hunksOf f l) := by
  cases ho : hunksOf f l with
  | some hs => rw [hunksOf_P f l hs ho]
  | none =>
    cases hp : hunksP f l with
    | none => rfl
    | some hs =>
      show (if valid ⟨b, hs⟩ = true then (⟨b, hs⟩, 0) else ((⟨[], []⟩ : Pa), (4 : Int))) = (⟨[], []⟩, 4)
      rw [if_neg]
      intro hv
      have hall := (shape_len (valid_parts hv).1).2.2
      have := hunksP_of f l hs hp fun h hh => by
        have := isHunk_num (hall h hh)
        omega
      rw [ho] at this
      cases this
end Pc
end Go.Proofs.YtmmdldicafbjdaaGreatDoor
end
section
namespace Go.Proofs.YtmmdldicafbjdaaGreatDoor
open Go.RowKit Go.Deep Tr

structure ErrAt (w : World) : Prop where
  syn : ∃ ev, w.cell? ⟨3, 0, none⟩ = some ev ∧ (ev = .nilIface ∨ ∃ te pe, ev = .iface te pe)
  rng : ∃ ev, w.cell? ⟨4, 0, none⟩ = some ev ∧ (ev = .nilIface ∨ ∃ te pe, ev = .iface te pe)
theorem ErrAt.below {w w' : World} (h : ErrAt w) (hb : Below w.heap.size w w') : ErrAt w' := by
  obtain ⟨⟨e1, h1, k1⟩, ⟨e2, h2, k2⟩⟩ := h
  exact ⟨⟨e1, (hb.cell (p := ⟨3, 0, none⟩) (World.block_lt_of_cell? w _ h1)).trans h1, k1⟩, ⟨e2, (hb.cell (p := ⟨4, 0, none⟩) (World.block_lt_of_cell? w _ h2)).trans h2, k2⟩⟩
/-- Atoi at any string: the number, or an error that is none of nothing. -/
theorem atoi_any (d : List UInt8) (hd : d.length ≤ 1000000000) (w : World) (hE : ErrAt w) : Calls Tryz.prog 55 #[.string (str d)] w fun e w' => Below w.heap.size w w' ∧ ((∃ v : Int, Lib.atoiAll d = .ok v ∧ e = .returned (.tuple #[.int .i64 v, .nilIface])) ∨ (Pc.numP d = none ∧ ∃ (v : Int) (T N : Nat), e = .returned (.tuple #[.int .i64 v, .iface T (.pointer (some ⟨N, 0, none⟩))]))) := by
  have hs : (str d).size ≤ 1000000000 := by rw [str_size]; exact hd
  cases h : Lib.atoiAll d
  case ok v =>
    refine (Tryz.strconv_Atoi_ok (str d) (by omega) v (by rw [str_data]; exact h) w).mono fun e w' hh => ?_
    obtain ⟨rfl, hw⟩ := hh
    refine ⟨?_, .inl ⟨v, rfl, rfl⟩⟩
    rcases hw with rfl | ⟨t, rfl⟩
    · exact Below.refl _ _
    · exact Go.Joins.below_bytesWorld w.heap.size w 5 t (Nat.le_refl _)
  case range =>
    obtain ⟨ev, h1, h2⟩ := hE.rng
    refine (Tryz.strconv_Atoi_range (str d) (by omega) (by rw [str_data]; exact h) ev w h1 h2).mono fun e w' hh => ?_
    obtain ⟨N, rfl, _, _, hb⟩ := hh
    exact ⟨hb, .inr ⟨by unfold Pc.numP; rw [h], _, _, _, rfl⟩⟩
  obtain ⟨ev, h1, h2⟩ := hE.syn
  refine (Tryz.strconv_Atoi_syntax (str d) (by omega) (by rw [str_data]; exact h) ev w h1 h2).mono fun e w' hh => ?_
  obtain ⟨N, rfl, _, _, hb⟩ := hh
  exact ⟨hb, .inr ⟨by unfold Pc.numP; rw [h], _, _, _, rfl⟩⟩
/-- Which kind's word begins the line. -/
theorem headP_of (x : List UInt8) (i : Nat) (hi : i < 3) (hno : ∀ j : Nat, j < i → (Pc.word ((j : Int) + 1)).isPrefixOf x = false) (hp : (Pc.word ((i : Int) + 1)).isPrefixOf x = true) : Pc.headP x = (Pc.numP (x.drop (Pc.word ((i : Int) + 1)).length)).map fun n => ((i : Int) + 1, n) := by
  unfold Pc.headP
  rcases (show i = 0 ∨ i = 1 ∨ i = 2 by omega) with rfl | rfl | rfl
  · rw [if_pos (show (Pc.word 1).isPrefixOf x = true from hp)]; rfl
  · rw [if_neg (by rw [show Pc.word 1 = Pc.word (((0 : Nat) : Int) + 1) from rfl, hno 0 (by omega)]; decide), if_pos (show (Pc.word 2).isPrefixOf x = true from hp)]; rfl
  · rw [if_neg (by rw [show Pc.word 1 = Pc.word (((0 : Nat) : Int) + 1) from rfl, hno 0 (by omega)]; decide), if_neg (by rw [show Pc.word 2 = Pc.word (((1 : Nat) : Int) + 1) from rfl, hno 1 (by omega)]; decide), if_pos (show (Pc.word 3).isPrefixOf x = true from hp)]; rfl
theorem headP_none (x : List UInt8) (hno : ∀ j : Nat, j < 3 → (Pc.word ((j : Int) + 1)).isPrefixOf x = false) : Pc.headP x = none := by
  unfold Pc.headP
  rw [if_neg (by rw [show Pc.word 1 = Pc.word (((0 : Nat) : Int) + 1) from rfl, hno 0 (by omega)]; decide), if_neg (by rw [show Pc.word 2 = Pc.word (((1 : Nat) : Int) + 1) from rfl, hno 1 (by omega)]; decide), if_neg (by rw [show Pc.word 3 = Pc.word (((2 : Nat) : Int) + 1) from rfl, hno 2 (by omega)]; decide)]
/-- What parseHead returns. -/
def GotHd (w : World) (o : Option (Int × Nat)) : Ending → World → Prop := fun e w' => Below w.heap.size w w' ∧ ((∃ (k : Int) (n : Nat), o = some (k, n) ∧ n ≤ 9223372036854775807 ∧ e = .returned (.tuple #[.agg #[.int .i64 k, .int .i64 n, .slice none 0 0], .bool true])) ∨ (o = none ∧ ∃ k n : Int, e = .returned (.tuple #[.agg #[.int .i64 k, .int .i64 n, .slice none 0 0], .bool false])))
set_option maxHeartbeats 8000000 in
set_option maxRecDepth 100000 in
theorem headG_any (x : List UInt8) (hx : x.length ≤ 1000000000) (w : World) (hE : ErrAt w) (hT : Cd.Tabs w) : Calls Tryz.prog 32 #[.string (str x)] w (GotHd w (Pc.headP x)) := by
  have hb0 : Below w.heap.size w (w.alloc (.cells #[.int .i64 0, .int .i64 0, .slice none 0 0] 47)) := (Below.refl _ _).alloc (Nat.le_refl _) _
  have hk0 := heap_alloc_new w (.cells #[.int .i64 0, .int .i64 0, .slice none 0 0] 47)
  have hix : ∀ (i : Nat), i < 3 → ∀ w, Sem.run Tryz.prog (Instr.index 85 (.agg #[.int .i64 1, .int .i64 2, .int .i64 3]) (.int .i64 (i : Int))) w = .ok (.int .i64 ((i : Int) + 1)) w := fun i hi w => by
    rcases (show i = 0 ∨ i = 1 ∨ i = 2 by omega) with rfl | rfl | rfl <;> rfl
  have hs3 : Tryz.prog.types[3].size = 1 := rfl
  have HE := Lib.hid hE
  have HT := Lib.hid hT
  clear hE hT
  go_enter Tryz.func32, Tryz.ntmps32
  go_wp2_with fail
  go_loopw [11] (fun s11 wr => ∃ i : Nat, i ≤ 3 ∧ s11 = .int .i64 i ∧ (∀ j : Nat, j < i → (Pc.word ((j : Int) + 1)).isPrefixOf x = false) ∧ Below w.heap.size w wr ∧ wr.heap[w.heap.size]? = some (.cells #[.int .i64 0, .int .i64 0, .slice none 0 0] 47 (0, 0))) (fun s11 _ => 3 - (intOf s11).toNat)
  case atStart => exact ⟨0, by omega, rfl, fun j hj => by omega, hb0, hk0⟩
  case round =>
    clear hb0 hk0
    obtain ⟨i, hi, rfl, hno, hb, hk⟩ := hrel
    have HNO := Lib.hid hno
    clear hno
    by_cases hi3 : i < 3
    · have b1 : decide ((i : Int) < 3) = true := decide_eq_true (by omega)
      have b1n : decide (i < 3) = true := decide_eq_true hi3
      have hixi := hix i hi3
      have c1 := wordOf_any ((i : Int) + 1) wr
      by_cases hp : (Pc.word ((i : Int) + 1)).isPrefixOf x = true
      · have HP := Lib.hid (headP_of x i hi3 HNO.out hp)
        have c2 := cut_yes (Pc.word ((i : Int) + 1)) (x.drop (Pc.word ((i : Int) + 1)).length) wr
        rw [← Pc.prefix_cut hp] at c2
        have hdl : (x.drop (Pc.word ((i : Int) + 1)).length).length ≤ 1000000000 := by rw [List.length_drop]; omega
        have c3 := atoi_any (x.drop (Pc.word ((i : Int) + 1)).length) hdl wr (HE.out.below hb)
        generalize x.drop (Pc.word ((i : Int) + 1)).length = d at *
        generalize Pc.word ((i : Int) + 1) = wd at *
        clear hp hix
        go_wp2_with (first | (go_at_call 20; (with_reducible refine c1.mono ?_); rintro e w' ⟨rfl, rfl⟩) | (go_at_call 30; (with_reducible refine c2.mono ?_); rintro e w' ⟨rfl, rfl⟩))
        with_reducible refine c3.mono ?_
        clear c3 c2 c1
        rintro e w3 ⟨hb3, hor⟩
        have hk3 := (hb3.block _ (blk_lt hk)).trans hk
        have hb03 := hb.trans (hb3.mono hb.size)
        obtain ⟨r0, r1, r2, f0, f1, f2⟩ := keep3 hk3
        rcases hor with ⟨v, hv, rfl⟩ | ⟨hv, v, T, N, rfl⟩
        · have hvb := Lib.atoiAll_bounds hv
          have HB := Lib.hid (((hb03.setCell (p := ⟨w.heap.size, 0, none⟩) (Nat.le_refl _) (.int .i64 ((i : Int) + 1))).setCell (p := ⟨w.heap.size, 1, none⟩) (Nat.le_refl _) (.int .i64 v)).setCell (p := ⟨w.heap.size, 2, none⟩) (Nat.le_refl _) (.slice none 0 0))
          by_cases hv0 : 0 < v
          · have g0 : decide ((0 : Int) < v) = true := decide_eq_true hv0
            have hTb := HT.out.below hb03
            have c4 := itoa_int v (by omega) hvb.2 w3 hTb
            clear HB r0 r1 r2 f0 f1 f2
            go_wp2_with fail
            with_reducible refine c4.mono ?_
            clear c4
            rintro e w4 ⟨rfl, hb4⟩
            have hk4 := (hb4.block _ (blk_lt hk3)).trans hk3
            have hb04 := hb03.trans (hb4.mono hb03.size)
            obtain ⟨r0, r1, r2, f0, f1, f2⟩ := keep3 hk4
            have HB := Lib.hid (((hb04.setCell (p := ⟨w.heap.size, 0, none⟩) (Nat.le_refl _) (.int .i64 ((i : Int) + 1))).setCell (p := ⟨w.heap.size, 1, none⟩) (Nat.le_refl _) (.int .i64 v)).setCell (p := ⟨w.heap.size, 2, none⟩) (Nat.le_refl _) (.slice none 0 0))
            by_cases hvd : Lib.decDigits v.toNat = d
            · obtain ⟨m, rfl⟩ : ∃ m : Nat, v = m := ⟨v.toNat, by omega⟩
              have q : ((str (Lib.decDigits m)).toList == (str d).toList) = true := by rw [← hvd]; simp
              have q1 : (str (Lib.decDigits m)).toList = (str d).toList := by rw [← hvd]; rfl
              have HN := Lib.hid (show Pc.numP d = some m by unfold Pc.numP; rw [hv]; exact if_pos ⟨hv0, hvd⟩)
              have hm : m ≤ 9223372036854775807 := by omega
              clear hb3 hk3 hb03 hb hk hv hb4 hk4 hb04 hTb hvd
              go_wp2_with fail
              exact bodyPost_ret (v := .tuple #[.agg #[.int .i64 ((i : Int) + 1), .int .i64 (m : Int), .slice none 0 0], .bool true]) (by simp [results, Tryz.results32, go_sem, r0, r1, r2]) rfl ⟨HB.out, .inl ⟨(i : Int) + 1, m, by rw [HP.out, HN.out]; rfl, hm, rfl⟩⟩
            · have q : ((str (Lib.decDigits v.toNat)).toList == (str d).toList) = false := by rw [str_list, str_list, beq_eq_false_iff_ne]; exact hvd
              have HN := Lib.hid (show Pc.numP d = none by unfold Pc.numP; rw [hv]; exact if_neg (fun h => hvd h.2))
              clear hb3 hk3 hb03 hb hk hv hb4 hk4 hb04 hTb hvd
              go_wp2_with fail
              exact bodyPost_ret (v := .tuple #[.agg #[.int .i64 ((i : Int) + 1), .int .i64 v, .slice none 0 0], .bool false]) (by simp [results, Tryz.results32, go_sem, r0, r1, r2]) rfl ⟨HB.out, .inr ⟨by rw [HP.out, HN.out]; rfl, _, _, rfl⟩⟩
          · have g0 : decide ((0 : Int) < v) = false := decide_eq_false hv0
            have HN := Lib.hid (show Pc.numP d = none by unfold Pc.numP; rw [hv]; exact if_neg (fun h => hv0 h.1))
            clear hb3 hk3 hb03 hb hk hv
            go_wp2_with fail
            exact bodyPost_ret (v := .tuple #[.agg #[.int .i64 ((i : Int) + 1), .int .i64 v, .slice none 0 0], .bool false]) (by simp [results, Tryz.results32, go_sem, r0, r1, r2]) rfl ⟨HB.out, .inr ⟨by rw [HP.out, HN.out]; rfl, _, _, rfl⟩⟩
        · have HB := Lib.hid (((hb03.setCell (p := ⟨w.heap.size, 0, none⟩) (Nat.le_refl _) (.int .i64 ((i : Int) + 1))).setCell (p := ⟨w.heap.size, 1, none⟩) (Nat.le_refl _) (.int .i64 v)).setCell (p := ⟨w.heap.size, 2, none⟩) (Nat.le_refl _) (.slice none 0 0))
          have HN := Lib.hid hv
          clear hb3 hk3 hb03 hb hk hv
          go_wp2_with fail
          exact bodyPost_ret (v := .tuple #[.agg #[.int .i64 ((i : Int) + 1), .int .i64 v, .slice none 0 0], .bool false]) (by simp [results, Tryz.results32, go_sem, r0, r1, r2]) rfl ⟨HB.out, .inr ⟨by rw [HP.out, HN.out]; rfl, _, _, rfl⟩⟩
      · have hpf : (Pc.word ((i : Int) + 1)).isPrefixOf x = false := eq_false_of_ne_true hp
        have c2 := cut_no x (Pc.word ((i : Int) + 1)) hpf wr
        have HN2 := Lib.hid (show ∀ j : Nat, j < i + 1 → (Pc.word ((j : Int) + 1)).isPrefixOf x = false from fun j hj => by
          by_cases e : j = i
          · subst e; exact hpf
          · exact HNO.out j (by omega))
        generalize Pc.word ((i : Int) + 1) = wd at *
        clear hp hpf hix
        go_wp2_with (first | (go_at_call 20; (with_reducible refine c1.mono ?_); rintro e w' ⟨rfl, rfl⟩) | (go_at_call 30; (with_reducible refine c2.mono ?_); rintro e w' ⟨rfl, rfl⟩))
        go_roundw
        case rel => exact ⟨i + 1, by omega, by first | rfl | go_num, HN2.out, hb, hk⟩
        case measure => first | (simp [intOf]; done) | (simp [intOf]; omega)
    · obtain rfl : i = 3 := by omega
      have HN := Lib.hid (headP_none x HNO.out)
      obtain ⟨r0, r1, r2, f0, f1, f2⟩ := keep3 hk
      have HB := Lib.hid (((hb.setCell (p := ⟨w.heap.size, 0, none⟩) (Nat.le_refl _) (.int .i64 0)).setCell (p := ⟨w.heap.size, 1, none⟩) (Nat.le_refl _) (.int .i64 0)).setCell (p := ⟨w.heap.size, 2, none⟩) (Nat.le_refl _) (.slice none 0 0))
      clear hb hk hix
      go_wp2_with fail
      exact bodyPost_ret (v := .tuple #[.agg #[.int .i64 0, .int .i64 0, .slice none 0 0], .bool false]) (by simp [results, Tryz.results32, go_sem, r0, r1, r2]) rfl ⟨HB.out, .inr ⟨HN.out, _, _, rfl⟩⟩
end Go.Proofs.YtmmdldicafbjdaaGreatDoor
end
section
namespace Go.Proofs.YtmmdldicafbjdaaGreatDoor
open Go.RowKit Go.Deep Tr

theorem dparse_any (t : List UInt8) (w : World) : Calls Tryz.prog 31 #[.string (str t)] w fun e w' => Below w.heap.size w w' ∧ ((∃ b, Pc.unhex t = some b ∧ e = .returned (.tuple #[.string (str b), .int .i64 0])) ∨ (Pc.unhex t = none ∧ e = .returned (.tuple #[.string ⟨#[]⟩, .int .i64 4]))) := by
  refine (Dg.parse_any (str t) w).mono fun e w' h => ⟨h.2, ?_⟩
  have h1 := h.1
  unfold Dg.parV at h1
  unfold Pc.unhex
  rw [str_data, str_size] at h1
  split at h1
  · rename_i hc
    rw [if_pos hc]
    exact .inl ⟨_, rfl, by rw [h1, str_of]; rfl⟩
  · rename_i hc
    rw [if_neg hc]
    exact .inr ⟨rfl, h1⟩
namespace Pc
theorem headP_kind {x : List UInt8} {k : Int} {n : Nat} (h : headP x = some (k, n)) : (k = 1 ∨ k = 2 ∨ k = 3) ∧ 1 ≤ n := by
  have key : ∀ (c : Int) (m : Nat), ((numP (x.drop m)).map fun n => (c, n)) = some (k, n) → k = c ∧ 1 ≤ n := by
    intro c m hi
    obtain ⟨z, hz, he⟩ := Option.map_eq_some_iff.1 hi
    injection he with h1 h2
    subst h2
    exact ⟨h1.symm, (numP_back hz).2⟩
  unfold headP at h
  split at h
  · obtain ⟨rfl, z⟩ := key _ _ h; exact ⟨.inl rfl, z⟩
  · split at h
    · obtain ⟨rfl, z⟩ := key _ _ h; exact ⟨.inr (.inl rfl), z⟩
    · split at h
      · obtain ⟨rfl, z⟩ := key _ _ h; exact ⟨.inr (.inr rfl), z⟩
      · cases h
/-- What is left to be read behind some hunks. -/
def left (b : List UInt8) (acc : List Hk) (f : Nat) (l : List (List UInt8)) : Pa × Int := fin b ((hunksP f l).map fun r => acc ++ r)
theorem left_end (b : List UInt8) (acc : List Hk) (f : Nat) : left b acc f [] = fin b (some acc) := by
  unfold left
  cases f <;> simp [hunksP]
theorem left_start (b : List UInt8) (f : Nat) (l : List (List UInt8)) : left b [] f l = fin b (hunksP f l) := by
  unfold left
  cases hunksP f l <;> rfl
theorem left_bad {b : List UInt8} {acc : List Hk} {f : Nat} {x : List UInt8} {t : List (List UInt8)} (h : headP x = none) : left b acc (f + 1) (x :: t) = (⟨[], []⟩, 4) := by
  unfold left
  rw [hunksP, h]
  rfl
theorem left_short {b : List UInt8} {acc : List Hk} {f n : Nat} {x : List UInt8} {t : List (List UInt8)} (h : headP x = some (3, n)) (hn : t.length < n) : left b acc (f + 1) (x :: t) = (⟨[], []⟩, 4) := by
  unfold left
  rw [hunksP, h]
  dsimp only
  rw [if_pos rfl, if_pos hn]
  rfl
theorem left_add {b : List UInt8} {acc : List Hk} {f n : Nat} {x : List UInt8} {t : List (List UInt8)} (h : headP x = some (3, n)) (hn : ¬ t.length < n) : left b acc (f + 1) (x :: t) = left b (acc ++ [⟨3, n, t.take n⟩]) f (t.drop n) := by
  unfold left
  rw [hunksP, h]
  dsimp only
  rw [if_pos rfl, if_neg hn, Option.map_map]
  congr 2
  funext r
  simp
theorem left_keep {b : List UInt8} {acc : List Hk} {f n : Nat} {k : Int} {x : List UInt8} {t : List (List UInt8)} (h : headP x = some (k, n)) (hk : k ≠ 3) : left b acc (f + 1) (x :: t) = left b (acc ++ [⟨k, n, []⟩]) f t := by
  unfold left
  rw [hunksP, h]
  dsimp only
  rw [if_neg hk, Option.map_map]
  congr 2
  funext r
  simp
end Pc
namespace Pc
/-- Parse as the program reads it. -/
def parseM (l : List (List UInt8)) : Pa × Int :=
  match l with
  | [] => (⟨[], []⟩, 4)
  | x :: t => if baseW.isPrefixOf x = true then (match unhex (x.drop 5) with | none => (⟨[], []⟩, 4) | some b => fin b (hunksP t.length t)) else fin [] (hunksP (t.length + 1) (x :: t))
def parseQ (text : List UInt8) : Pa × Int := if (Tre.lines text).2 ≠ 0 then (⟨[], []⟩, (Tre.lines text).2) else parseM (Tre.lines text).1
theorem parseQ_def (text : List UInt8) : parseQ text = if (Tre.lines text).2 ≠ 0 then (⟨[], []⟩, (Tre.lines text).2) else parseM (Tre.lines text).1 := rfl
theorem parseM_base {x : List UInt8} {t : List (List UInt8)} (h : baseW.isPrefixOf x = true) : parseM (x :: t) = (match unhex (x.drop 5) with | none => (⟨[], []⟩, 4) | some b => fin b (hunksP t.length t)) := if_pos h
theorem parseM_none {x : List UInt8} {t : List (List UInt8)} (h : baseW.isPrefixOf x = false) : parseM (x :: t) = fin [] (hunksP (t.length + 1) (x :: t)) := if_neg (by rw [h]; decide)
theorem parseQ_eq (text : List UInt8) : parseQ text = parse text := by
  unfold parseQ parse
  split
  · rfl
  · generalize (Tre.lines text).1 = l
    unfold parseM parseL
    cases l with
    | nil => rfl
    | cons x t =>
      dsimp only
      split
      · cases unhex (x.drop 5) with
        | none => rfl
        | some b => exact fin_same _ _ _
      · exact fin_same _ _ _
end Pc
theorem own_posP {w : World} {B : Nat} {e : TypeId} {n : Nat} {v : Value} {xs : List Value} (h : w.ownsRow B e 1 v n xs) (hn : 0 < n) : ∃ A cap, v = .slice A n cap ∧ n ≤ cap ∧ cap ≤ maxLen ∧ CellsAt w w.heap.size A xs := by
  obtain ⟨g, cap, rfl, _, _, h1, h2, _⟩ := own_pos h hn
  obtain ⟨A, c, he, hA⟩ := owns_cells h
  injection he with he _ hc
  subst he hc
  exact ⟨_, _, rfl, h1, h2, hA⟩
set_option maxHeartbeats 16000000 in
set_option maxRecDepth 100000 in
theorem parseG_any (s : ByteArray) (w : World) (hI : IdAt w) (hE : ErrAt w) (hss : s.size ≤ 1000000000) :
    Calls Tryz.prog 10 #[.string s] w (GotPa w (Pc.parseQ s.data.toList)) := by
  have HD := Lib.hid (Pc.parseQ_def s.data.toList)
  generalize Pc.parseQ s.data.toList = R at *
  obtain ⟨i0, hi0, hz0, hz1, hz2⟩ := info_parts infoS
  obtain ⟨ih, hih, hzh0, hzh1, hzh2⟩ := info_parts infoH
  have hb0 : Below w.heap.size w (w.alloc (.cells #[.string ⟨#[]⟩, .slice none 0 0] 24)) := (Below.refl _ _).alloc (Nat.le_refl _) _
  have hk0 := heap_alloc_new w (.cells #[.string ⟨#[]⟩, .slice none 0 0] 24)
  have hl1 := lines_any s _ hss (hI.below hb0).max
  go_enter Tryz.func10, Tryz.ntmps10
  go_wp2_with fail
  with_reducible refine hl1.mono ?_
  clear hl1
  rintro x w1 ⟨v1, rfl, ho1, hb1⟩
  have hb01 := hb0.trans (hb1.mono hb0.size)
  have hk1 := (hb1.block _ (blk_lt hk0)).trans hk0
  have hsz1 : w.heap.size < w1.heap.size := blk_lt hk1
  have HI1 := Lib.hid (hI.below hb01)
  have HE1 := Lib.hid (hE.below hb01)
  clear hb0 hk0 hb1 hI hE
  rcases lines_cases s.data.toList with ⟨he, hl⟩ | ⟨ll, hl, a1, a2, a3⟩
  · have HD1 := Lib.hid (HD.out.trans (if_pos he))
    rw [hl] at ho1 HD1 ⊢
    obtain ⟨A1, c1, rfl, _⟩ := owns_cells ho1
    clear HD he hl ho1
    have HT := Lib.hid (HD1.out)
    obtain ⟨y1, y2, r0, r1, f0, f1⟩ := fin_patch (.string ⟨#[]⟩) (.slice none 0 0) (Nat.le_refl _) hk1 hb01 (hsT_nil w1 none)
    have Q1 := Lib.hid y1
    have Q2 := Lib.hid y2
    clear y1 y2
    go_wp2_with fail
    exact bodyPost_ret (v := .tuple #[.agg #[.string ⟨#[]⟩, .slice none 0 0], .int .i64 10]) (by simp [results, Tryz.results10, go_sem, r0, r1]) rfl ⟨none, 0, by rw [HT.out]; rfl, by rw [HT.out]; exact Q1.out, Q2.out⟩
  · have HD1 := Lib.hid (HD.out.trans (if_neg (by rw [hl]; simp)))
    have hsl := text_len hl
    rw [hl] at ho1 HD1 ⊢
    dsimp only at ho1
    obtain ⟨A1, ca, rfl, hca, hcam, hA1⟩ := own_posP ho1 (by omega)
    have HYY := Lib.hid (show ∀ y ∈ ll, y.length ≤ 1000000 from fun y hy => by have := a3 y hy; omega)
    clear HD hl ho1 a3
    cases ll with
    | nil => simp at a1
    | cons x0 t0 =>
    obtain ⟨ga, oa, rfl, hga, hcl⟩ := cells_row hA1 (by simp [strs])
    have hd0 : w1.cell? ⟨ga, oa, none⟩ = some (.string (str x0)) := hcl 0 _ rfl
    have HLD := Lib.hid (cells_drop hA1 1)
    rw [show (List.drop 1 (x0 :: t0)) = t0 from rfl] at HLD
    have hBW : Below w1.heap.size w1 (w1.alloc (.cells #[.string ⟨#[]⟩, .slice none 0 0] 24)) := (Below.refl _ _).alloc (Nat.le_refl _) _
    have HPB := Lib.hid (heap_alloc_new w1 (.cells #[.string ⟨#[]⟩, .slice none 0 0] 24))
    have hd1 := (hBW.cell (p := ⟨ga, oa, none⟩) hga).trans hd0
    have hk2 := (hBW.block _ (blk_lt hk1)).trans hk1
    have hg0 : (0 : Int) < ((t0.length + 1 : Nat) : Int) := by omega
    rw [List.length_cons] at a1 a2 hca ⊢
    clear hcl hd0 a1
    by_cases hpb : Pc.baseW.isPrefixOf x0 = true
    · have HD2 := Lib.hid (HD1.out.trans (Pc.parseM_base hpb))
      have hcp := fun w => cut_yes Pc.baseW (x0.drop 5) w
      have hx0 := Pc.prefix_cut hpb
      rw [show Pc.baseW.length = 5 from rfl] at hx0
      rw [← hx0, ← baseW_str] at hcp
      clear hx0 hpb HD1
      generalize x0.drop 5 = hx at *
      generalize str x0 = ln at *
      go_wp2_with (go_at_call 30; (with_reducible refine (hcp _).mono ?_); rintro e w' ⟨rfl, rfl⟩)
      have hdp := dparse_any hx (w1.alloc (.cells #[.string ⟨#[]⟩, .slice none 0 0] 24))
      with_reducible refine hdp.mono ?_
      clear hdp hcp
      rintro e w2 ⟨hb2, hor⟩
      have hb12 := hBW.trans (hb2.mono hBW.size)
      have hp2 := (hb2.block _ (blk_lt HPB.out)).trans HPB.out
      have hk3 := (hb2.block _ (blk_lt hk2)).trans hk2
      have p0 : w2.cell? ⟨w1.heap.size, 0, none⟩ = some (.string ⟨#[]⟩) := by rw [cell_of_row _ _ _ _ _ _ hp2]; rfl
      have pf := frozen_of_row w2 w1.heap.size 0 _ _ hp2
      rcases hor with ⟨b, hub, rfl⟩ | ⟨hub, rfl⟩
      · have HBL := Lib.hid (show b.length ≤ 1000000000 by have := (Pc.hex_unhex hub).2; omega)
        rw [hub] at HD2
        have HRR0 := Lib.hid (show R = Pc.left b [] t0.length t0 from HD2.out.trans (Pc.left_start b t0.length t0).symm)
        have HCB := Lib.hid (show Cb (w2.setCell ⟨w1.heap.size, 0, none⟩ (.string (str b))) w1.heap.size w1.heap.size w.heap.size b [] (.slice none 0 0) from ⟨by exact heap_setCell_same w2 w1.heap.size 0 _ _ _ hp2, (blk_setCell_other _ _ _ _ (show w.heap.size ≠ w1.heap.size by omega)).trans hk3, World.ownsRow_nil _ _ _ _, fun x hx => by simp at hx, Nat.le_refl _, by omega⟩)
        have HBS := Lib.hid (show Below w1.heap.size w1 (w2.setCell ⟨w1.heap.size, 0, none⟩ (.string (str b))) from hb12.setCell (Nat.le_refl _) _)
        clear hb2 hb12 hp2 hk3 hub HD2 HPB hd1 hBW hk2 hk1
        go_upto_region 10 with (fail)
        generalize w2.setCell ⟨w1.heap.size, 0, none⟩ (.string (str b)) = wS at *
        clear p0 pf
        go_cut [4] (fun s4 wx => ∃ (A0 : Option Addr) (c0 : Nat), s4 = .slice A0 t0.length c0 ∧ CellsAt w1 w1.heap.size A0 (strs t0) ∧ t0.length ≤ c0 ∧ c0 ≤ maxLen ∧ wx = wS)
        case first =>
          by_cases hc1 : ca = 1
          · subst hc1
            have hz : t0.length = 0 := by omega
            go_wp2_with fail
            go_meet
            exact ⟨some ⟨ga, oa, none⟩, 0, by first | rfl | (simp; done) | (simp; omega), fun i hi => by rw [strs_len] at hi; omega, by omega, by unfold maxLen; omega, rfl⟩
          · go_wp2_with fail
            go_meet
            exact ⟨some ⟨ga, oa + 1, none⟩, ca - 1, by first | rfl | (simp; done), HLD.out, by omega, by omega, rfl⟩
        case rest =>
        obtain ⟨A0, c0, rfl, hA0, hca0, hcam0, rfl⟩ := hcut
        have HA0 := Lib.hid hA0
        have HLL := Lib.hid (show ∀ y ∈ t0, y.length ≤ 1000000 from fun y hy => HYY.out y (List.mem_cons_of_mem _ hy))
        have hlen0 : t0.length ≤ 1024 := by omega
        clear hA0 HLD hA1 hca hcam HYY
        generalize t0 = rest0 at *
        have HRR := HRR0
        clear HRR0
        go_wp2_with fail
        go_loopw [4] (fun s4 wr => ∃ (rest : List (List UInt8)) (A' : Option Addr) (c' : Nat) (l : List Hc) (v : Value) (f : Nat), s4 = .slice A' rest.length c' ∧ CellsAt w1 w1.heap.size A' (strs rest) ∧ rest.length ≤ c' ∧ c' ≤ maxLen ∧ rest.length ≤ f ∧ l.length + rest.length ≤ 1024 ∧ (∀ y ∈ rest, y.length ≤ 1000000) ∧ (∀ h ∈ l.map (·.h), ∀ y ∈ h.ls, y.length ≤ 1000000) ∧ R = Pc.left b (l.map (·.h)) f rest ∧ Cb wr w1.heap.size w1.heap.size w.heap.size b l v ∧ Below w1.heap.size w1 wr) (fun s4 _ => slLen s4)
        case atStart => exact ⟨rest0, _, _, [], .slice none 0 0, rest0.length, rfl, HA0.out, hca0, hcam0, Nat.le_refl _, by simpa using hlen0, HLL.out, by simp, HRR.out, HCB.out, HBS.out⟩
        case round =>
          clear HCB HBS HA0 hca0 hcam0 hlen0 HRR HLL
          obtain ⟨rest, A', c', l, v, f, rfl, hL, hc', hcm, hf, hll, hry, hly, hR, hCb, hb⟩ := hrel
          have HRY := Lib.hid hry
          have HLY := Lib.hid hly
          have HR := Lib.hid hR
          have HC := Lib.hid hCb
          clear hry hly hR hCb
          cases rest with
          | cons x rest1 =>
            rw [List.length_cons] at hc' hf hll
            obtain ⟨f, rfl⟩ : ∃ f' : Nat, f = f' + 1 := ⟨f - 1, by omega⟩
            obtain ⟨g', o', rfl, hg', hcell⟩ := cells_row hL (by simp [strs])
            have hd0 : wr.cell? ⟨g', o', none⟩ = some (.string (str x)) := (hb.cell (p := ⟨g', o', none⟩) hg').trans (hcell 0 _ rfl)
            have HLD := Lib.hid (cells_drop hL 1)
            have g0 : decide ((0 : Int) < ((rest1.length + 1 : Nat) : Int)) = true := decide_eq_true (by omega)
            have g0n : decide (0 < rest1.length + 1) = true := decide_eq_true (by omega)
            rw [List.length_cons]
            rw [show (List.drop 1 (x :: rest1)) = rest1 from rfl] at HLD
            clear hL hcell
            have hhw := headG_any x (by have := HRY.out x (List.mem_cons_self ..); omega) wr (HE1.out.below hb) (HI1.out.below hb).tabs
            go_wp2_with fail
            with_reducible refine hhw.mono ?_
            clear hhw
            rintro e w3 ⟨hb3, hor⟩
            have hb13 := hb.trans (hb3.mono hb.size)
            rcases hor with ⟨kd, m, ho, hm9, rfl⟩ | ⟨ho, kd, m, rfl⟩
            · have HO := Lib.hid ho
              obtain ⟨hkd, hm1⟩ := Pc.headP_kind ho
              clear ho
              go_upto_region 13 with (fail)
              go_cut [4] from 39 to 86 (fun s4 wx => ∃ (A2 : Option Addr) (c2 : Nat), s4 = .slice A2 rest1.length c2 ∧ CellsAt w1 w1.heap.size A2 (strs rest1) ∧ rest1.length ≤ c2 ∧ c2 ≤ maxLen ∧ wx = w3.alloc (.cells #[.int .i64 kd, .int .i64 m, .slice none 0 0] 47))
              case first =>
                by_cases hc1 : c' = 1
                · subst hc1
                  have hz : rest1.length = 0 := by omega
                  go_wp2_with fail
                  go_meet
                  exact ⟨some ⟨g', o', none⟩, 0, by first | rfl | (simp; done) | (simp; omega), fun i hi => by rw [strs_len] at hi; omega, by omega, by unfold maxLen; omega, rfl⟩
                · go_wp2_with fail
                  go_meet
                  exact ⟨some ⟨g', o' + 1, none⟩, c' - 1, by first | rfl | (simp; done), HLD.out, by omega, by omega, rfl⟩
              case rest =>
              obtain ⟨A2, c2, rfl, hL2, hc2, hcm2, rfl⟩ := hcut
              clear hd0 g0 g0n HLD hcm hg' hc'
              have hbW : Below w1.heap.size w1 (w3.alloc (.cells #[.int .i64 kd, .int .i64 m, .slice none 0 0] 47)) := hb13.alloc hb13.size _
              have hbrW : Below wr.heap.size wr (w3.alloc (.cells #[.int .i64 kd, .int .i64 m, .slice none 0 0] 47)) := hb3.alloc hb3.size _
              have hCw := HC.out.next hbrW
              have hblk := heap_alloc_new w3 (.cells #[.int .i64 kd, .int .i64 m, .slice none 0 0] 47)
              have hq : w1.heap.size ≤ w3.heap.size := hb13.size
              have hqr : wr.heap.size ≤ w3.heap.size := hb3.size
              clear hb3 hb13
              generalize w3.alloc (.cells #[.int .i64 kd, .int .i64 m, .slice none 0 0] 47) = W at *
              generalize w3.heap.size = q at *
              have hWs := hbW.size
              have p1 : W.cell? ⟨w1.heap.size, 1, none⟩ = some v := by rw [cell_of_row _ _ _ _ _ _ hCw.pat]; rfl
              have e0 : W.cell? ⟨q, 0, none⟩ = some (.int .i64 kd) := by rw [cell_of_row _ _ _ _ _ _ hblk]; rfl
              have e1 : W.cell? ⟨q, 1, none⟩ = some (.int .i64 m) := by rw [cell_of_row _ _ _ _ _ _ hblk]; rfl
              have e2 : W.cell? ⟨q, 2, none⟩ = some (.slice none 0 0) := by rw [cell_of_row _ _ _ _ _ _ hblk]; rfl
              by_cases hk3 : kd = 3
              · subst hk3
                clear hkd
                by_cases hmr : rest1.length < m
                · have g3 : decide ((rest1.length : Int) < (m : Int)) = true := decide_eq_true (by omega)
                  have g3n : decide (rest1.length < m) = true := decide_eq_true hmr
                  have hbw := hb01.trans (hbW.mono hb01.size)
                  have HT := Lib.hid (HR.out.trans (Pc.left_short HO.out hmr))
                  obtain ⟨y1, y2, r0, r1, f0, f1⟩ := fin_patch (.string ⟨#[]⟩) (.slice none 0 0) (Nat.le_refl _) hCw.res hbw (hsT_nil W none)
                  have Q1 := Lib.hid y1
                  have Q2 := Lib.hid y2
                  clear y1 y2
                  go_wp2_with fail
                  exact bodyPost_ret (v := .tuple #[.agg #[.string ⟨#[]⟩, .slice none 0 0], .int .i64 4]) (by simp [results, Tryz.results10, go_sem, r0, r1]) rfl ⟨none, 0, by rw [HT.out]; rfl, by rw [HT.out]; exact Q1.out, Q2.out⟩
                · have g3 : decide ((rest1.length : Int) < (m : Int)) = false := decide_eq_false (by omega)
                  have g3n : decide (rest1.length < m) = false := decide_eq_false hmr
                  have HR3 := Lib.hid (HR.out.trans (Pc.left_add HO.out hmr))
                  obtain ⟨xs, hxs⟩ : ∃ xs, rest1.take m = xs := ⟨_, rfl⟩
                  have hxl : xs.length = m := by rw [← hxs, List.length_take]; omega
                  have hLx : CellsAt w1 w1.heap.size A2 (strs xs) := by
                    have := cells_take hL2 m
                    rwa [hxs] at this
                  rw [hxs] at HR3
                  have HXY := Lib.hid (show ∀ y ∈ xs, y.length ≤ 1000000 from fun y hy => HRY.out y (List.mem_cons_of_mem _ (List.mem_of_mem_take (hxs ▸ hy))))
                  have HDY := Lib.hid (show ∀ y ∈ rest1.drop m, y.length ≤ 1000000 from fun y hy => HRY.out y (List.mem_cons_of_mem _ (List.mem_of_mem_drop hy)))
                  clear hxs
                  have hmc : m ≤ c2 := by omega
                  obtain ⟨g2, o2, rfl, hg2, hcell⟩ := cells_row hLx (by rw [strs_len]; omega)
                  have hcw := fun j u h => (hbW.drew.cell (p := ⟨g2, o2 + j, none⟩) hg2).trans (hcell j u h)
                  have HBK := Lib.hid hblk
                  clear hblk hcell
                  go_upto_region 17 with (fail)
                  go_cut [] from 39 to 86 (fun wx => ∃ (A9 : Option Addr) (c9 : Nat), wx.heap[q]? = some (.cells #[.int .i64 3, .int .i64 m, .slice A9 m c9] 47 (0, 0)) ∧ LnS wx ⟨⟨3, m, xs⟩, A9, c9⟩ ∧ Below wr.heap.size wr wx ∧ Below w1.heap.size w1 wx)
                  case first =>
                    go_region_law (refine step_append_lies _ (by rfl) _ _ _ (by rfl) W.heap.size 9 i0 _ 1 16 Tryz.underlying45 hi0 hz0 hz1 hz2 rfl (by omega) (.slice none 0 0) 0 _ (by rfl) (World.ownsRow_nil _ _ _ _) ⟨g2, o2, none⟩ m c2 (strs xs) (by rfl) (by rw [strs_len, Nat.mul_one]; exact hxl) (fun j u hj => by rw [addr_addS]; exact hcw j u hj) (strs_one _) (by omega) (by unfold maxLen; omega) (by omega) (Nat.le_refl _) W.heap.size rfl ?_; intro gg cap w6 hown6 hgrow hat hlt6; have b6 := blk_grown0 (w := W.drew) (q := q) HBK.out hgrow (fun h => by cases h); have e26 : w6.cell? ⟨q, 2, none⟩ = some (.slice none 0 0) := (by rw [cell_of_row _ _ _ _ _ _ b6]; rfl); have f26 := frozen_of_row w6 q 2 _ _ b6)
                    all_goals
                      go_wp2_with fail
                      go_meet
                      rw [Nat.zero_add, List.nil_append] at hown6
                      have hbD : Below W.heap.size W w6 := grown_own0 (Below.refl W.heap.size W).drew hgrow (fun k hk => by cases hk)
                      have hbr6 : Below wr.heap.size wr w6 := hbrW.trans (hbD.mono hbrW.size)
                      have hb16 : Below w1.heap.size w1 w6 := hbW.trans (hbD.mono hbW.size)
                      have hown7 : w6.ownsRow W.heap.size 9 1 (.slice (some ⟨gg, 0, none⟩) xs.length cap) xs.length (strs xs) := by rw [hxl]; exact hown6
                      obtain ⟨A9, c9, he9, hln9⟩ := own_lns hown7
                      injection he9 with he9 _ he9c
                      subst he9 he9c
                      exact ⟨some ⟨gg, 0, none⟩, cap, by first | exact heap_setCell_same w6 q 2 _ _ _ b6 | simpa using heap_setCell_same w6 q 2 _ _ _ b6, by first | exact (hln9 _ _).keep (KeptS.set b6 (.inl rfl)) | simpa using (hln9 3 m).keep (KeptS.set (i := 2) b6 (.inl rfl)), by first | exact hbr6.setCell (p := ⟨q, 2, none⟩) hqr _ | simpa using hbr6.setCell (p := ⟨q, 2, none⟩) hqr _, by first | exact hb16.setCell (p := ⟨q, 2, none⟩) hq _ | simpa using hb16.setCell (p := ⟨q, 2, none⟩) hq _⟩
                  case rest =>
                  obtain ⟨A9, c9, hblk9, hln9, hb9, hb19⟩ := hcut
                  have hC9 := HC.out.next hb9
                  clear e0 e1 e2 p1 hWs
                  have e0 : wc.cell? ⟨q, 0, none⟩ = some (.int .i64 3) := by rw [cell_of_row _ _ _ _ _ _ hblk9]; rfl
                  have e1 : wc.cell? ⟨q, 1, none⟩ = some (.int .i64 m) := by rw [cell_of_row _ _ _ _ _ _ hblk9]; rfl
                  have e2 : wc.cell? ⟨q, 2, none⟩ = some (.slice A9 m c9) := by rw [cell_of_row _ _ _ _ _ _ hblk9]; rfl
                  have p1 : wc.cell? ⟨w1.heap.size, 1, none⟩ = some v := by rw [cell_of_row _ _ _ _ _ _ hC9.pat]; rfl
                  have hWs := hb19.size
                  have HDL := Lib.hid (cells_drop hL2 m)
                  have HLY2 := Lib.hid (show ∀ h ∈ (l ++ [(⟨⟨3, (m : Int), xs⟩, A9, c9⟩ : Hc)]).map (·.h), ∀ y ∈ h.ls, y.length ≤ 1000000 from fun h hh => by
                    rw [List.map_append] at hh
                    rcases List.mem_append.1 hh with hh | hh
                    · exact HLY.out h hh
                    · simp only [List.map_cons, List.map_nil, List.mem_singleton] at hh
                      subst hh
                      exact HXY.out)
                  clear hCw hbW hbrW hcw HBK hLx hblk9 hL2
                  subst hxl
                  by_cases hcap : c2 = xs.length
                  · subst hcap
                    go_wp2_with (at_builtin; refine wpList_append_lies _ (by rfl) _ _ 22 (by rfl) w1.heap.size 47 ih _ 3 40 Tryz.underlying22 hih hzh0 hzh1 hzh2 rfl (by omega) v l.length _ (by rfl) (hC9.row.alloc _) ⟨wc.heap.size, 0, none⟩ 1 1 [_, _, _] (by rfl) (by rfl) (World.news_of_block (cs := #[_, _, _]) (t := 47) (fr := (0, 0)) (heap_alloc_new wc _)) (by simp [Value.oneCell']) (by omega) (by unfold maxLen; omega) (by omega) (by simp; omega) (wc.heap.size + 1) (by simp) ?_; intro gg cap w6 hown6 hgrow hat hlt6; obtain ⟨z1, z2, z3, z4, z5⟩ := hC9.add (W := wc.alloc _) ⟨⟨3, xs.length, xs⟩, A9, c9⟩ ((Below.refl _ _).alloc (Nat.le_refl _) _) hb19.size (by rw [hcsV_app, hcsV_one]; exact hown6) hgrow (hln9.keep (KeptS.of ((Below.refl _ _).alloc (Nat.le_refl _) _))))
                    go_roundw
                    case rel => exact ⟨rest1.drop xs.length, some ⟨g2, o2, none⟩, xs.length - xs.length, _, _, f, by first | rfl | (simp; done) | (simp; omega), fun i hi => by rw [strs_len, List.length_drop] at hi; omega, by rw [List.length_drop]; omega, by unfold maxLen at *; omega, by rw [List.length_drop]; omega, by rw [List.length_append, List.length_singleton, List.length_drop]; omega, HDY.out, HLY2.out, by rw [List.map_append]; exact HR3.out, z1, hb19.trans z2⟩
                    case measure => first | (show _ - _ < rest1.length + 1; omega) | (show 0 < rest1.length + 1; omega)
                  · go_wp2_with (at_builtin; refine wpList_append_lies _ (by rfl) _ _ 22 (by rfl) w1.heap.size 47 ih _ 3 40 Tryz.underlying22 hih hzh0 hzh1 hzh2 rfl (by omega) v l.length _ (by rfl) (hC9.row.alloc _) ⟨wc.heap.size, 0, none⟩ 1 1 [_, _, _] (by rfl) (by rfl) (World.news_of_block (cs := #[_, _, _]) (t := 47) (fr := (0, 0)) (heap_alloc_new wc _)) (by simp [Value.oneCell']) (by omega) (by unfold maxLen; omega) (by omega) (by simp; omega) (wc.heap.size + 1) (by simp) ?_; intro gg cap w6 hown6 hgrow hat hlt6; obtain ⟨z1, z2, z3, z4, z5⟩ := hC9.add (W := wc.alloc _) ⟨⟨3, xs.length, xs⟩, A9, c9⟩ ((Below.refl _ _).alloc (Nat.le_refl _) _) hb19.size (by rw [hcsV_app, hcsV_one]; exact hown6) hgrow (hln9.keep (KeptS.of ((Below.refl _ _).alloc (Nat.le_refl _) _))))
                    go_roundw
                    case rel => exact ⟨rest1.drop xs.length, some ⟨g2, o2 + xs.length, none⟩, c2 - xs.length, _, _, f, by first | rfl | (simp; done) | (simp; omega), HDL.out, by rw [List.length_drop]; omega, by unfold maxLen at *; omega, by rw [List.length_drop]; omega, by rw [List.length_append, List.length_singleton, List.length_drop]; omega, HDY.out, HLY2.out, by rw [List.map_append]; exact HR3.out, z1, hb19.trans z2⟩
                    case measure => first | (show _ - _ < rest1.length + 1; omega) | (show 0 < rest1.length + 1; omega)
              · have b3 : (kd == 3) = false := by rw [beq_eq_false_iff_ne]; exact hk3
                have HR3 := Lib.hid (HR.out.trans (Pc.left_keep HO.out hk3))
                have HDY := Lib.hid (show ∀ y ∈ rest1, y.length ≤ 1000000 from fun y hy => HRY.out y (List.mem_cons_of_mem _ hy))
                have HLY2 := Lib.hid (show ∀ h ∈ (l ++ [(⟨⟨kd, (m : Int), []⟩, none, 0⟩ : Hc)]).map (·.h), ∀ y ∈ h.ls, y.length ≤ 1000000 from fun h hh => by
                  rw [List.map_append] at hh
                  rcases List.mem_append.1 hh with hh | hh
                  · exact HLY.out h hh
                  · simp only [List.map_cons, List.map_nil, List.mem_singleton] at hh
                    subst hh
                    intro y hy
                    simp at hy)
                clear hblk
                go_wp2_with (at_builtin; refine wpList_append_lies _ (by rfl) _ _ 22 (by rfl) w1.heap.size 47 ih _ 3 40 Tryz.underlying22 hih hzh0 hzh1 hzh2 rfl (by omega) v l.length _ (by rfl) (hCw.row.alloc _) ⟨W.heap.size, 0, none⟩ 1 1 [_, _, _] (by rfl) (by rfl) (World.news_of_block (cs := #[_, _, _]) (t := 47) (fr := (0, 0)) (heap_alloc_new W _)) (by simp [Value.oneCell']) (by omega) (by unfold maxLen; omega) (by omega) (by simp; omega) (W.heap.size + 1) (by simp) ?_; intro gg cap w6 hown6 hgrow hat hlt6; obtain ⟨z1, z2, z3, z4, z5⟩ := hCw.add (W := W.alloc _) ⟨⟨kd, m, []⟩, none, 0⟩ ((Below.refl _ _).alloc (Nat.le_refl _) _) hbW.size (by rw [hcsV_app, hcsV_one]; exact hown6) hgrow ⟨Nat.le_refl _, Nat.zero_le _, .inl rfl⟩)
                go_roundw
                case rel => exact ⟨rest1, A2, c2, _, _, f, rfl, hL2, hc2, hcm2, by omega, by rw [List.length_append, List.length_singleton]; omega, HDY.out, HLY2.out, by rw [List.map_append]; exact HR3.out, z1, hbW.trans z2⟩
                case measure => show rest1.length < rest1.length + 1; omega
            · have HO := Lib.hid ho
              clear ho
              have hbW : Below w1.heap.size w1 (w3.alloc (.cells #[.int .i64 kd, .int .i64 m, .slice none 0 0] 47)) := hb13.alloc hb13.size _
              have hCw := HC.out.next (show Below wr.heap.size wr (w3.alloc (.cells #[.int .i64 kd, .int .i64 m, .slice none 0 0] 47)) from hb3.alloc hb3.size _)
              have hbw := hb01.trans (hbW.mono hb01.size)
              by_cases hc1 : c' = 1
              · subst hc1
                have hz : rest1.length = 0 := by omega
                have HT := Lib.hid (HR.out.trans (Pc.left_bad HO.out))
                obtain ⟨y1, y2, r0, r1, f0, f1⟩ := fin_patch (.string ⟨#[]⟩) (.slice none 0 0) (Nat.le_refl _) hCw.res hbw (hsT_nil _ none)
                have Q1 := Lib.hid y1
                have Q2 := Lib.hid y2
                clear y1 y2
                go_wp2_with fail
                exact bodyPost_ret (v := .tuple #[.agg #[.string ⟨#[]⟩, .slice none 0 0], .int .i64 4]) (by simp [results, Tryz.results10, go_sem, r0, r1]) rfl ⟨none, 0, by rw [HT.out]; rfl, by rw [HT.out]; exact Q1.out, Q2.out⟩
              · skip
                have HT := Lib.hid (HR.out.trans (Pc.left_bad HO.out))
                obtain ⟨y1, y2, r0, r1, f0, f1⟩ := fin_patch (.string ⟨#[]⟩) (.slice none 0 0) (Nat.le_refl _) hCw.res hbw (hsT_nil _ none)
                have Q1 := Lib.hid y1
                have Q2 := Lib.hid y2
                clear y1 y2
                go_wp2_with fail
                exact bodyPost_ret (v := .tuple #[.agg #[.string ⟨#[]⟩, .slice none 0 0], .int .i64 4]) (by simp [results, Tryz.results10, go_sem, r0, r1]) rfl ⟨none, 0, by rw [HT.out]; rfl, by rw [HT.out]; exact Q1.out, Q2.out⟩
          | nil =>
            have hCp := HC.out
            obtain ⟨A2, c2, rfl, hHT⟩ := hCp.hsT
            have hpat := hCp.pat
            have hres := hCp.res
            have HD2 := Lib.hid (show R = if Pc.valid ⟨b, l.map (·.h)⟩ = true then (⟨b, l.map (·.h)⟩, 0) else (⟨[], []⟩, 4) from HR.out.trans (Pc.left_end _ _ _))
            have hnl : (l.map (·.h)).length ≤ 1024 := by rw [List.length_map]; omega
            have hea := HLY.out
            generalize l.map (·.h) = hs at *
            have p0 : wr.cell? ⟨w1.heap.size, 0, none⟩ = some (.string (str b)) := by rw [cell_of_row _ _ _ _ _ _ hpat]; rfl
            have p1 : wr.cell? ⟨w1.heap.size, 1, none⟩ = some (.slice A2 hs.length c2) := by rw [cell_of_row _ _ _ _ _ _ hpat]; rfl
            have hbw : Below w.heap.size w wr := hb01.trans (hb.mono hb01.size)
            have hv := isValid_any ⟨b, hs⟩ A2 c2 wr ⟨hHT.at_, by show hs.length ≤ _; omega, HBL.out, hea⟩ (HI1.out.below hb).tabs
            rw [paV_def] at hv
            dsimp only at hv
            clear HLY HRY HR HC hL hc' hcm hf hll hb hCp hnl hea
            go_wp2_with fail
            with_reducible refine hv.mono ?_
            clear hv
            rintro x w5 ⟨rfl, hb5⟩
            have hb05 := hbw.trans (hb5.mono hbw.size)
            have hk5 := (hb5.block _ (blk_lt hres)).trans hres
            have hpat5 := (hb5.block _ (blk_lt hpat)).trans hpat
            have hHT5 := hHT.next hb5
            have q0 : w5.cell? ⟨w1.heap.size, 0, none⟩ = some (.string (str b)) := by rw [cell_of_row _ _ _ _ _ _ hpat5]; rfl
            have q1 : w5.cell? ⟨w1.heap.size, 1, none⟩ = some (.slice A2 hs.length c2) := by rw [cell_of_row _ _ _ _ _ _ hpat5]; rfl
            clear p0 p1 hres hpat hpat5 hHT hb5 hbw
            by_cases hva : Pc.valid ⟨b, hs⟩ = true
            · have HT := Lib.hid (HD2.out.trans (if_pos hva))
              rw [hva]
              obtain ⟨z1, z2, r0, r1, f0, f1⟩ := fin_patch (.string (str b)) (.slice A2 hs.length c2) (Nat.le_refl _) hk5 hb05 hHT5
              have Q1 := Lib.hid z1
              have Q2 := Lib.hid z2
              clear z1 z2 hk5 hb05 hHT5 hva HD2
              go_wp2_with fail
              exact bodyPost_ret (v := .tuple #[.agg #[.string (str b), .slice A2 hs.length c2], .int .i64 0]) (by simp [results, Tryz.results10, go_sem, r0, r1]) rfl ⟨A2, c2, by rw [HT.out]; rfl, by rw [HT.out]; exact Q1.out, Q2.out⟩
            · have hvf : Pc.valid ⟨b, hs⟩ = false := by simpa using hva
              rw [hvf]
              have HT := Lib.hid (HD2.out.trans (if_neg hva))
              obtain ⟨y1, y2, r0, r1, f0, f1⟩ := fin_patch (.string ⟨#[]⟩) (.slice none 0 0) (Nat.le_refl _) hk5 hb05 (hsT_nil w5 none)
              have Q1 := Lib.hid y1
              have Q2 := Lib.hid y2
              clear y1 y2
              go_wp2_with fail
              exact bodyPost_ret (v := .tuple #[.agg #[.string ⟨#[]⟩, .slice none 0 0], .int .i64 4]) (by simp [results, Tryz.results10, go_sem, r0, r1]) rfl ⟨none, 0, by rw [HT.out]; rfl, by rw [HT.out]; exact Q1.out, Q2.out⟩
      · rw [hub] at HD2
        have hbw := (hb01.trans (hb12.mono hb01.size)).setCell (p := ⟨w1.heap.size, 0, none⟩) (Nat.le_of_lt hsz1) (.string ⟨#[]⟩)
        have hres := (blk_setCell_other w2 ⟨w1.heap.size, 0, none⟩ (.string ⟨#[]⟩) w.heap.size (show w.heap.size ≠ w1.heap.size by omega)).trans hk3
        clear hb2 hb12 hp2 hk3 hub HPB hd1 hBW hk2 hk1
        have HT := Lib.hid (HD2.out)
        obtain ⟨y1, y2, r0, r1, f0, f1⟩ := fin_patch (.string ⟨#[]⟩) (.slice none 0 0) (Nat.le_refl _) hres hbw (hsT_nil _ none)
        have Q1 := Lib.hid y1
        have Q2 := Lib.hid y2
        clear y1 y2
        go_wp2_with fail
        exact bodyPost_ret (v := .tuple #[.agg #[.string ⟨#[]⟩, .slice none 0 0], .int .i64 4]) (by simp [results, Tryz.results10, go_sem, r0, r1]) rfl ⟨none, 0, by rw [HT.out]; rfl, by rw [HT.out]; exact Q1.out, Q2.out⟩
    · have hpf : Pc.baseW.isPrefixOf x0 = false := eq_false_of_ne_true hpb
      have HD2 := Lib.hid (HD1.out.trans (Pc.parseM_none hpf))
      have hcp := fun w => cut_no x0 Pc.baseW hpf w
      rw [← baseW_str] at hcp
      obtain ⟨b, hb0⟩ : ∃ b : List UInt8, b = [] := ⟨_, rfl⟩
      obtain ⟨rest0, hr0⟩ : ∃ rest0, rest0 = x0 :: t0 := ⟨_, rfl⟩
      have HBL := Lib.hid (show b.length ≤ 1000000000 by rw [hb0]; simp)
      have HRR := Lib.hid (show R = Pc.left b [] rest0.length rest0 from HD2.out.trans (by rw [hb0, hr0]; exact (Pc.left_start [] (t0.length + 1) (x0 :: t0)).symm))
      have HCB := Lib.hid (show Cb (w1.alloc (.cells #[.string ⟨#[]⟩, .slice none 0 0] 24)) w1.heap.size w1.heap.size w.heap.size b [] (.slice none 0 0) from ⟨by rw [hb0]; exact HPB.out, hk2, World.ownsRow_nil _ _ _ _, fun x hx => by simp at hx, Nat.le_refl _, by omega⟩)
      have HBS := Lib.hid hBW
      have HLL := Lib.hid (show ∀ y ∈ rest0, y.length ≤ 1000000 from by rw [hr0]; exact HYY.out)
      have hln : rest0.length = t0.length + 1 := by rw [hr0]; rfl
      have hlen0 : rest0.length ≤ 1024 := by omega
      have HA0 := Lib.hid (show CellsAt w1 w1.heap.size (some ⟨ga, oa, none⟩) (strs rest0) by rw [hr0]; exact hA1)
      have hca0 : rest0.length ≤ ca := by omega
      have hcam0 := hcam
      rw [← hln]
      have hg1 : (0 : Int) < (rest0.length : Int) := by omega
      clear hpb hpf HD1 HD2 HYY HLD hA1 hca hcam hb0 hr0 HPB hBW hk2 hk1 a2 hln hg0
      generalize str x0 = ln at *
      go_wp2_with (go_at_call 30; (with_reducible refine (hcp _).mono ?_); rintro e w' ⟨rfl, rfl⟩)
      clear hcp hd1
      go_loopw [4] (fun s4 wr => ∃ (rest : List (List UInt8)) (A' : Option Addr) (c' : Nat) (l : List Hc) (v : Value) (f : Nat), s4 = .slice A' rest.length c' ∧ CellsAt w1 w1.heap.size A' (strs rest) ∧ rest.length ≤ c' ∧ c' ≤ maxLen ∧ rest.length ≤ f ∧ l.length + rest.length ≤ 1024 ∧ (∀ y ∈ rest, y.length ≤ 1000000) ∧ (∀ h ∈ l.map (·.h), ∀ y ∈ h.ls, y.length ≤ 1000000) ∧ R = Pc.left b (l.map (·.h)) f rest ∧ Cb wr w1.heap.size w1.heap.size w.heap.size b l v ∧ Below w1.heap.size w1 wr) (fun s4 _ => slLen s4)
      case atStart => exact ⟨rest0, _, _, [], .slice none 0 0, rest0.length, rfl, HA0.out, hca0, hcam0, Nat.le_refl _, by simpa using hlen0, HLL.out, by simp, HRR.out, HCB.out, HBS.out⟩
      case round =>
        clear HCB HBS HA0 hca0 hcam0 hlen0 HRR HLL
        obtain ⟨rest, A', c', l, v, f, rfl, hL, hc', hcm, hf, hll, hry, hly, hR, hCb, hb⟩ := hrel
        have HRY := Lib.hid hry
        have HLY := Lib.hid hly
        have HR := Lib.hid hR
        have HC := Lib.hid hCb
        clear hry hly hR hCb
        cases rest with
        | cons x rest1 =>
          rw [List.length_cons] at hc' hf hll
          obtain ⟨f, rfl⟩ : ∃ f' : Nat, f = f' + 1 := ⟨f - 1, by omega⟩
          obtain ⟨g', o', rfl, hg', hcell⟩ := cells_row hL (by simp [strs])
          have hd0 : wr.cell? ⟨g', o', none⟩ = some (.string (str x)) := (hb.cell (p := ⟨g', o', none⟩) hg').trans (hcell 0 _ rfl)
          have HLD := Lib.hid (cells_drop hL 1)
          have g0 : decide ((0 : Int) < ((rest1.length + 1 : Nat) : Int)) = true := decide_eq_true (by omega)
          have g0n : decide (0 < rest1.length + 1) = true := decide_eq_true (by omega)
          rw [List.length_cons]
          rw [show (List.drop 1 (x :: rest1)) = rest1 from rfl] at HLD
          clear hL hcell
          have hhw := headG_any x (by have := HRY.out x (List.mem_cons_self ..); omega) wr (HE1.out.below hb) (HI1.out.below hb).tabs
          go_wp2_with fail
          with_reducible refine hhw.mono ?_
          clear hhw
          rintro e w3 ⟨hb3, hor⟩
          have hb13 := hb.trans (hb3.mono hb.size)
          rcases hor with ⟨kd, m, ho, hm9, rfl⟩ | ⟨ho, kd, m, rfl⟩
          · have HO := Lib.hid ho
            obtain ⟨hkd, hm1⟩ := Pc.headP_kind ho
            clear ho
            go_upto_region 13 with (fail)
            go_cut [4] from 39 to 86 (fun s4 wx => ∃ (A2 : Option Addr) (c2 : Nat), s4 = .slice A2 rest1.length c2 ∧ CellsAt w1 w1.heap.size A2 (strs rest1) ∧ rest1.length ≤ c2 ∧ c2 ≤ maxLen ∧ wx = w3.alloc (.cells #[.int .i64 kd, .int .i64 m, .slice none 0 0] 47))
            case first =>
              by_cases hc1 : c' = 1
              · subst hc1
                have hz : rest1.length = 0 := by omega
                go_wp2_with fail
                go_meet
                exact ⟨some ⟨g', o', none⟩, 0, by first | rfl | (simp; done) | (simp; omega), fun i hi => by rw [strs_len] at hi; omega, by omega, by unfold maxLen; omega, rfl⟩
              · go_wp2_with fail
                go_meet
                exact ⟨some ⟨g', o' + 1, none⟩, c' - 1, by first | rfl | (simp; done), HLD.out, by omega, by omega, rfl⟩
            case rest =>
            obtain ⟨A2, c2, rfl, hL2, hc2, hcm2, rfl⟩ := hcut
            clear hd0 g0 g0n HLD hcm hg' hc'
            have hbW : Below w1.heap.size w1 (w3.alloc (.cells #[.int .i64 kd, .int .i64 m, .slice none 0 0] 47)) := hb13.alloc hb13.size _
            have hbrW : Below wr.heap.size wr (w3.alloc (.cells #[.int .i64 kd, .int .i64 m, .slice none 0 0] 47)) := hb3.alloc hb3.size _
            have hCw := HC.out.next hbrW
            have hblk := heap_alloc_new w3 (.cells #[.int .i64 kd, .int .i64 m, .slice none 0 0] 47)
            have hq : w1.heap.size ≤ w3.heap.size := hb13.size
            have hqr : wr.heap.size ≤ w3.heap.size := hb3.size
            clear hb3 hb13
            generalize w3.alloc (.cells #[.int .i64 kd, .int .i64 m, .slice none 0 0] 47) = W at *
            generalize w3.heap.size = q at *
            have hWs := hbW.size
            have p1 : W.cell? ⟨w1.heap.size, 1, none⟩ = some v := by rw [cell_of_row _ _ _ _ _ _ hCw.pat]; rfl
            have e0 : W.cell? ⟨q, 0, none⟩ = some (.int .i64 kd) := by rw [cell_of_row _ _ _ _ _ _ hblk]; rfl
            have e1 : W.cell? ⟨q, 1, none⟩ = some (.int .i64 m) := by rw [cell_of_row _ _ _ _ _ _ hblk]; rfl
            have e2 : W.cell? ⟨q, 2, none⟩ = some (.slice none 0 0) := by rw [cell_of_row _ _ _ _ _ _ hblk]; rfl
            by_cases hk3 : kd = 3
            · subst hk3
              clear hkd
              by_cases hmr : rest1.length < m
              · have g3 : decide ((rest1.length : Int) < (m : Int)) = true := decide_eq_true (by omega)
                have g3n : decide (rest1.length < m) = true := decide_eq_true hmr
                have hbw := hb01.trans (hbW.mono hb01.size)
                have HT := Lib.hid (HR.out.trans (Pc.left_short HO.out hmr))
                obtain ⟨y1, y2, r0, r1, f0, f1⟩ := fin_patch (.string ⟨#[]⟩) (.slice none 0 0) (Nat.le_refl _) hCw.res hbw (hsT_nil W none)
                have Q1 := Lib.hid y1
                have Q2 := Lib.hid y2
                clear y1 y2
                go_wp2_with fail
                exact bodyPost_ret (v := .tuple #[.agg #[.string ⟨#[]⟩, .slice none 0 0], .int .i64 4]) (by simp [results, Tryz.results10, go_sem, r0, r1]) rfl ⟨none, 0, by rw [HT.out]; rfl, by rw [HT.out]; exact Q1.out, Q2.out⟩
              · have g3 : decide ((rest1.length : Int) < (m : Int)) = false := decide_eq_false (by omega)
                have g3n : decide (rest1.length < m) = false := decide_eq_false hmr
                have HR3 := Lib.hid (HR.out.trans (Pc.left_add HO.out hmr))
                obtain ⟨xs, hxs⟩ : ∃ xs, rest1.take m = xs := ⟨_, rfl⟩
                have hxl : xs.length = m := by rw [← hxs, List.length_take]; omega
                have hLx : CellsAt w1 w1.heap.size A2 (strs xs) := by
                  have := cells_take hL2 m
                  rwa [hxs] at this
                rw [hxs] at HR3
                have HXY := Lib.hid (show ∀ y ∈ xs, y.length ≤ 1000000 from fun y hy => HRY.out y (List.mem_cons_of_mem _ (List.mem_of_mem_take (hxs ▸ hy))))
                have HDY := Lib.hid (show ∀ y ∈ rest1.drop m, y.length ≤ 1000000 from fun y hy => HRY.out y (List.mem_cons_of_mem _ (List.mem_of_mem_drop hy)))
                clear hxs
                have hmc : m ≤ c2 := by omega
                obtain ⟨g2, o2, rfl, hg2, hcell⟩ := cells_row hLx (by rw [strs_len]; omega)
                have hcw := fun j u h => (hbW.drew.cell (p := ⟨g2, o2 + j, none⟩) hg2).trans (hcell j u h)
                have HBK := Lib.hid hblk
                clear hblk hcell
                go_upto_region 17 with (fail)
                go_cut [] from 39 to 86 (fun wx => ∃ (A9 : Option Addr) (c9 : Nat), wx.heap[q]? = some (.cells #[.int .i64 3, .int .i64 m, .slice A9 m c9] 47 (0, 0)) ∧ LnS wx ⟨⟨3, m, xs⟩, A9, c9⟩ ∧ Below wr.heap.size wr wx ∧ Below w1.heap.size w1 wx)
                case first =>
                  go_region_law (refine step_append_lies _ (by rfl) _ _ _ (by rfl) W.heap.size 9 i0 _ 1 16 Tryz.underlying45 hi0 hz0 hz1 hz2 rfl (by omega) (.slice none 0 0) 0 _ (by rfl) (World.ownsRow_nil _ _ _ _) ⟨g2, o2, none⟩ m c2 (strs xs) (by rfl) (by rw [strs_len, Nat.mul_one]; exact hxl) (fun j u hj => by rw [addr_addS]; exact hcw j u hj) (strs_one _) (by omega) (by unfold maxLen; omega) (by omega) (Nat.le_refl _) W.heap.size rfl ?_; intro gg cap w6 hown6 hgrow hat hlt6; have b6 := blk_grown0 (w := W.drew) (q := q) HBK.out hgrow (fun h => by cases h); have e26 : w6.cell? ⟨q, 2, none⟩ = some (.slice none 0 0) := (by rw [cell_of_row _ _ _ _ _ _ b6]; rfl); have f26 := frozen_of_row w6 q 2 _ _ b6)
                  all_goals
                    go_wp2_with fail
                    go_meet
                    rw [Nat.zero_add, List.nil_append] at hown6
                    have hbD : Below W.heap.size W w6 := grown_own0 (Below.refl W.heap.size W).drew hgrow (fun k hk => by cases hk)
                    have hbr6 : Below wr.heap.size wr w6 := hbrW.trans (hbD.mono hbrW.size)
                    have hb16 : Below w1.heap.size w1 w6 := hbW.trans (hbD.mono hbW.size)
                    have hown7 : w6.ownsRow W.heap.size 9 1 (.slice (some ⟨gg, 0, none⟩) xs.length cap) xs.length (strs xs) := by rw [hxl]; exact hown6
                    obtain ⟨A9, c9, he9, hln9⟩ := own_lns hown7
                    injection he9 with he9 _ he9c
                    subst he9 he9c
                    exact ⟨some ⟨gg, 0, none⟩, cap, by first | exact heap_setCell_same w6 q 2 _ _ _ b6 | simpa using heap_setCell_same w6 q 2 _ _ _ b6, by first | exact (hln9 _ _).keep (KeptS.set b6 (.inl rfl)) | simpa using (hln9 3 m).keep (KeptS.set (i := 2) b6 (.inl rfl)), by first | exact hbr6.setCell (p := ⟨q, 2, none⟩) hqr _ | simpa using hbr6.setCell (p := ⟨q, 2, none⟩) hqr _, by first | exact hb16.setCell (p := ⟨q, 2, none⟩) hq _ | simpa using hb16.setCell (p := ⟨q, 2, none⟩) hq _⟩
                case rest =>
                obtain ⟨A9, c9, hblk9, hln9, hb9, hb19⟩ := hcut
                have hC9 := HC.out.next hb9
                clear e0 e1 e2 p1 hWs
                have e0 : wc.cell? ⟨q, 0, none⟩ = some (.int .i64 3) := by rw [cell_of_row _ _ _ _ _ _ hblk9]; rfl
                have e1 : wc.cell? ⟨q, 1, none⟩ = some (.int .i64 m) := by rw [cell_of_row _ _ _ _ _ _ hblk9]; rfl
                have e2 : wc.cell? ⟨q, 2, none⟩ = some (.slice A9 m c9) := by rw [cell_of_row _ _ _ _ _ _ hblk9]; rfl
                have p1 : wc.cell? ⟨w1.heap.size, 1, none⟩ = some v := by rw [cell_of_row _ _ _ _ _ _ hC9.pat]; rfl
                have hWs := hb19.size
                have HDL := Lib.hid (cells_drop hL2 m)
                have HLY2 := Lib.hid (show ∀ h ∈ (l ++ [(⟨⟨3, (m : Int), xs⟩, A9, c9⟩ : Hc)]).map (·.h), ∀ y ∈ h.ls, y.length ≤ 1000000 from fun h hh => by
                  rw [List.map_append] at hh
                  rcases List.mem_append.1 hh with hh | hh
                  · exact HLY.out h hh
                  · simp only [List.map_cons, List.map_nil, List.mem_singleton] at hh
                    subst hh
                    exact HXY.out)
                clear hCw hbW hbrW hcw HBK hLx hblk9 hL2
                subst hxl
                by_cases hcap : c2 = xs.length
                · subst hcap
                  go_wp2_with (at_builtin; refine wpList_append_lies _ (by rfl) _ _ 22 (by rfl) w1.heap.size 47 ih _ 3 40 Tryz.underlying22 hih hzh0 hzh1 hzh2 rfl (by omega) v l.length _ (by rfl) (hC9.row.alloc _) ⟨wc.heap.size, 0, none⟩ 1 1 [_, _, _] (by rfl) (by rfl) (World.news_of_block (cs := #[_, _, _]) (t := 47) (fr := (0, 0)) (heap_alloc_new wc _)) (by simp [Value.oneCell']) (by omega) (by unfold maxLen; omega) (by omega) (by simp; omega) (wc.heap.size + 1) (by simp) ?_; intro gg cap w6 hown6 hgrow hat hlt6; obtain ⟨z1, z2, z3, z4, z5⟩ := hC9.add (W := wc.alloc _) ⟨⟨3, xs.length, xs⟩, A9, c9⟩ ((Below.refl _ _).alloc (Nat.le_refl _) _) hb19.size (by rw [hcsV_app, hcsV_one]; exact hown6) hgrow (hln9.keep (KeptS.of ((Below.refl _ _).alloc (Nat.le_refl _) _))))
                  go_roundw
                  case rel => exact ⟨rest1.drop xs.length, some ⟨g2, o2, none⟩, xs.length - xs.length, _, _, f, by first | rfl | (simp; done) | (simp; omega), fun i hi => by rw [strs_len, List.length_drop] at hi; omega, by rw [List.length_drop]; omega, by unfold maxLen at *; omega, by rw [List.length_drop]; omega, by rw [List.length_append, List.length_singleton, List.length_drop]; omega, HDY.out, HLY2.out, by rw [List.map_append]; exact HR3.out, z1, hb19.trans z2⟩
                  case measure => first | (show _ - _ < rest1.length + 1; omega) | (show 0 < rest1.length + 1; omega)
                · go_wp2_with (at_builtin; refine wpList_append_lies _ (by rfl) _ _ 22 (by rfl) w1.heap.size 47 ih _ 3 40 Tryz.underlying22 hih hzh0 hzh1 hzh2 rfl (by omega) v l.length _ (by rfl) (hC9.row.alloc _) ⟨wc.heap.size, 0, none⟩ 1 1 [_, _, _] (by rfl) (by rfl) (World.news_of_block (cs := #[_, _, _]) (t := 47) (fr := (0, 0)) (heap_alloc_new wc _)) (by simp [Value.oneCell']) (by omega) (by unfold maxLen; omega) (by omega) (by simp; omega) (wc.heap.size + 1) (by simp) ?_; intro gg cap w6 hown6 hgrow hat hlt6; obtain ⟨z1, z2, z3, z4, z5⟩ := hC9.add (W := wc.alloc _) ⟨⟨3, xs.length, xs⟩, A9, c9⟩ ((Below.refl _ _).alloc (Nat.le_refl _) _) hb19.size (by rw [hcsV_app, hcsV_one]; exact hown6) hgrow (hln9.keep (KeptS.of ((Below.refl _ _).alloc (Nat.le_refl _) _))))
                  go_roundw
                  case rel => exact ⟨rest1.drop xs.length, some ⟨g2, o2 + xs.length, none⟩, c2 - xs.length, _, _, f, by first | rfl | (simp; done) | (simp; omega), HDL.out, by rw [List.length_drop]; omega, by unfold maxLen at *; omega, by rw [List.length_drop]; omega, by rw [List.length_append, List.length_singleton, List.length_drop]; omega, HDY.out, HLY2.out, by rw [List.map_append]; exact HR3.out, z1, hb19.trans z2⟩
                  case measure => first | (show _ - _ < rest1.length + 1; omega) | (show 0 < rest1.length + 1; omega)
            · have b3 : (kd == 3) = false := by rw [beq_eq_false_iff_ne]; exact hk3
              have HR3 := Lib.hid (HR.out.trans (Pc.left_keep HO.out hk3))
              have HDY := Lib.hid (show ∀ y ∈ rest1, y.length ≤ 1000000 from fun y hy => HRY.out y (List.mem_cons_of_mem _ hy))
              have HLY2 := Lib.hid (show ∀ h ∈ (l ++ [(⟨⟨kd, (m : Int), []⟩, none, 0⟩ : Hc)]).map (·.h), ∀ y ∈ h.ls, y.length ≤ 1000000 from fun h hh => by
                rw [List.map_append] at hh
                rcases List.mem_append.1 hh with hh | hh
                · exact HLY.out h hh
                · simp only [List.map_cons, List.map_nil, List.mem_singleton] at hh
                  subst hh
                  intro y hy
                  simp at hy)
              clear hblk
              go_wp2_with (at_builtin; refine wpList_append_lies _ (by rfl) _ _ 22 (by rfl) w1.heap.size 47 ih _ 3 40 Tryz.underlying22 hih hzh0 hzh1 hzh2 rfl (by omega) v l.length _ (by rfl) (hCw.row.alloc _) ⟨W.heap.size, 0, none⟩ 1 1 [_, _, _] (by rfl) (by rfl) (World.news_of_block (cs := #[_, _, _]) (t := 47) (fr := (0, 0)) (heap_alloc_new W _)) (by simp [Value.oneCell']) (by omega) (by unfold maxLen; omega) (by omega) (by simp; omega) (W.heap.size + 1) (by simp) ?_; intro gg cap w6 hown6 hgrow hat hlt6; obtain ⟨z1, z2, z3, z4, z5⟩ := hCw.add (W := W.alloc _) ⟨⟨kd, m, []⟩, none, 0⟩ ((Below.refl _ _).alloc (Nat.le_refl _) _) hbW.size (by rw [hcsV_app, hcsV_one]; exact hown6) hgrow ⟨Nat.le_refl _, Nat.zero_le _, .inl rfl⟩)
              go_roundw
              case rel => exact ⟨rest1, A2, c2, _, _, f, rfl, hL2, hc2, hcm2, by omega, by rw [List.length_append, List.length_singleton]; omega, HDY.out, HLY2.out, by rw [List.map_append]; exact HR3.out, z1, hbW.trans z2⟩
              case measure => show rest1.length < rest1.length + 1; omega
          · have HO := Lib.hid ho
            clear ho
            have hbW : Below w1.heap.size w1 (w3.alloc (.cells #[.int .i64 kd, .int .i64 m, .slice none 0 0] 47)) := hb13.alloc hb13.size _
            have hCw := HC.out.next (show Below wr.heap.size wr (w3.alloc (.cells #[.int .i64 kd, .int .i64 m, .slice none 0 0] 47)) from hb3.alloc hb3.size _)
            have hbw := hb01.trans (hbW.mono hb01.size)
            by_cases hc1 : c' = 1
            · subst hc1
              have hz : rest1.length = 0 := by omega
              have HT := Lib.hid (HR.out.trans (Pc.left_bad HO.out))
              obtain ⟨y1, y2, r0, r1, f0, f1⟩ := fin_patch (.string ⟨#[]⟩) (.slice none 0 0) (Nat.le_refl _) hCw.res hbw (hsT_nil _ none)
              have Q1 := Lib.hid y1
              have Q2 := Lib.hid y2
              clear y1 y2
              go_wp2_with fail
              exact bodyPost_ret (v := .tuple #[.agg #[.string ⟨#[]⟩, .slice none 0 0], .int .i64 4]) (by simp [results, Tryz.results10, go_sem, r0, r1]) rfl ⟨none, 0, by rw [HT.out]; rfl, by rw [HT.out]; exact Q1.out, Q2.out⟩
            · skip
              have HT := Lib.hid (HR.out.trans (Pc.left_bad HO.out))
              obtain ⟨y1, y2, r0, r1, f0, f1⟩ := fin_patch (.string ⟨#[]⟩) (.slice none 0 0) (Nat.le_refl _) hCw.res hbw (hsT_nil _ none)
              have Q1 := Lib.hid y1
              have Q2 := Lib.hid y2
              clear y1 y2
              go_wp2_with fail
              exact bodyPost_ret (v := .tuple #[.agg #[.string ⟨#[]⟩, .slice none 0 0], .int .i64 4]) (by simp [results, Tryz.results10, go_sem, r0, r1]) rfl ⟨none, 0, by rw [HT.out]; rfl, by rw [HT.out]; exact Q1.out, Q2.out⟩
        | nil =>
          have hCp := HC.out
          obtain ⟨A2, c2, rfl, hHT⟩ := hCp.hsT
          have hpat := hCp.pat
          have hres := hCp.res
          have HD2 := Lib.hid (show R = if Pc.valid ⟨b, l.map (·.h)⟩ = true then (⟨b, l.map (·.h)⟩, 0) else (⟨[], []⟩, 4) from HR.out.trans (Pc.left_end _ _ _))
          have hnl : (l.map (·.h)).length ≤ 1024 := by rw [List.length_map]; omega
          have hea := HLY.out
          generalize l.map (·.h) = hs at *
          have p0 : wr.cell? ⟨w1.heap.size, 0, none⟩ = some (.string (str b)) := by rw [cell_of_row _ _ _ _ _ _ hpat]; rfl
          have p1 : wr.cell? ⟨w1.heap.size, 1, none⟩ = some (.slice A2 hs.length c2) := by rw [cell_of_row _ _ _ _ _ _ hpat]; rfl
          have hbw : Below w.heap.size w wr := hb01.trans (hb.mono hb01.size)
          have hv := isValid_any ⟨b, hs⟩ A2 c2 wr ⟨hHT.at_, by show hs.length ≤ _; omega, HBL.out, hea⟩ (HI1.out.below hb).tabs
          rw [paV_def] at hv
          dsimp only at hv
          clear HLY HRY HR HC hL hc' hcm hf hll hb hCp hnl hea
          go_wp2_with fail
          with_reducible refine hv.mono ?_
          clear hv
          rintro x w5 ⟨rfl, hb5⟩
          have hb05 := hbw.trans (hb5.mono hbw.size)
          have hk5 := (hb5.block _ (blk_lt hres)).trans hres
          have hpat5 := (hb5.block _ (blk_lt hpat)).trans hpat
          have hHT5 := hHT.next hb5
          have q0 : w5.cell? ⟨w1.heap.size, 0, none⟩ = some (.string (str b)) := by rw [cell_of_row _ _ _ _ _ _ hpat5]; rfl
          have q1 : w5.cell? ⟨w1.heap.size, 1, none⟩ = some (.slice A2 hs.length c2) := by rw [cell_of_row _ _ _ _ _ _ hpat5]; rfl
          clear p0 p1 hres hpat hpat5 hHT hb5 hbw
          by_cases hva : Pc.valid ⟨b, hs⟩ = true
          · have HT := Lib.hid (HD2.out.trans (if_pos hva))
            rw [hva]
            obtain ⟨z1, z2, r0, r1, f0, f1⟩ := fin_patch (.string (str b)) (.slice A2 hs.length c2) (Nat.le_refl _) hk5 hb05 hHT5
            have Q1 := Lib.hid z1
            have Q2 := Lib.hid z2
            clear z1 z2 hk5 hb05 hHT5 hva HD2
            go_wp2_with fail
            exact bodyPost_ret (v := .tuple #[.agg #[.string (str b), .slice A2 hs.length c2], .int .i64 0]) (by simp [results, Tryz.results10, go_sem, r0, r1]) rfl ⟨A2, c2, by rw [HT.out]; rfl, by rw [HT.out]; exact Q1.out, Q2.out⟩
          · have hvf : Pc.valid ⟨b, hs⟩ = false := by simpa using hva
            rw [hvf]
            have HT := Lib.hid (HD2.out.trans (if_neg hva))
            obtain ⟨y1, y2, r0, r1, f0, f1⟩ := fin_patch (.string ⟨#[]⟩) (.slice none 0 0) (Nat.le_refl _) hk5 hb05 (hsT_nil w5 none)
            have Q1 := Lib.hid y1
            have Q2 := Lib.hid y2
            clear y1 y2
            go_wp2_with fail
            exact bodyPost_ret (v := .tuple #[.agg #[.string ⟨#[]⟩, .slice none 0 0], .int .i64 4]) (by simp [results, Tryz.results10, go_sem, r0, r1]) rfl ⟨none, 0, by rw [HT.out]; rfl, by rw [HT.out]; exact Q1.out, Q2.out⟩
end Go.Proofs.YtmmdldicafbjdaaGreatDoor
end
section
namespace Go.Proofs.YtmmdldicafbjdaaGreatDoor.Cd
open Go.RowKit

theorem get_s (s : ByteArray) (k : Nat) (h : k < s.size) : s.data.toList.drop k = s[k] :: s.data.toList.drop (k + 1) := by
  have hl : k < s.data.toList.length := h
  rw [List.drop_eq_getElem_cons hl]
  rfl

/-- What Count returns. -/
def cntV (most : Nat) (ec : UInt8) (l : List UInt8) : Value := match Cod.scan most ec l 0 false with
  | .ok n rest => .tuple #[.int .i64 n, .int .i64 ((l.length - rest.length - 1 : Nat) : Int), .bool false]
  | .short => .tuple #[.int .i64 0, .int .i64 (-1), .bool true]
  | .corrupt => .tuple #[.int .i64 0, .int .i64 (-1), .bool false]

set_option maxHeartbeats 4000000 in
set_option maxRecDepth 100000 in
theorem count_any (most : Nat) (ec : UInt8) (s : ByteArray) (w : World) (hs : s.size ≤ 1000000000) (hm : most ≤ 281474976710656) :
    Calls Tryz.prog 57 #[.string s, .int .i64 (most : Int), .int .u8 (ec.toNat : Int)] w fun x w' => x = .returned (cntV most ec s.data.toList) ∧ w = w' := by
  go_enter Tryz.func57, Tryz.ntmps57
  go_wp2_with fail
  go_loop [9, 10] (fun n a => ∃ i m : Nat, i ≤ s.size ∧ a = .int .i64 i ∧ n = .int .i64 m ∧ m ≤ most ∧ Cod.scan most ec s.data.toList 0 false = Cod.scan most ec (s.data.toList.drop i) m (decide (0 < i))) (fun _ a => s.size - (intOf a).toNat)
  case atStart => exact ⟨0, 0, by omega, rfl, rfl, by omega, by simp⟩
  case round =>
    obtain ⟨i, m, hi, rfl, rfl, hmm, hsc⟩ := hrel
    by_cases hlt : i < s.size
    · rw [get_s s i hlt, Cod.scan] at hsc
      have HSC := Lib.hid hsc
      clear hsc
      have hcl := s[i].toNat_lt
      have hb1 : decide ((i : Int) < (s.size : Int)) = true := by simp; omega
      have hb2 : decide (i < s.size) = true := by simp; omega
      obtain ⟨c, hc⟩ : ∃ c, s[i] = c := ⟨_, rfl⟩
      have hget : s[i] = c := hc
      rw [hc] at HSC hcl
      obtain ⟨L, hL⟩ : ∃ L, s.data.toList.length - (s.data.toList.drop (i + 1)).length - 1 = L := ⟨_, rfl⟩
      have hLi : L = i := by
        rw [← hL, List.length_drop]
        have : s.data.toList.length = s.size := rfl
        omega
      by_cases hA : c = ec ∧ 0 < i
      · obtain ⟨hce, h0⟩ := hA
        have q1 : ((c.toNat : Int) == (ec.toNat : Int)) = true := by rw [hce]; simp
        have q1n : (c.toNat == ec.toNat) = true := by rw [hce]; simp
        have q2 : decide (0 < (i : Int)) = true := by simp; omega
        have q2n : decide (0 < i) = true := by simp; omega
        have hok : Cod.scan most ec s.data.toList 0 false = .ok m (s.data.toList.drop (i + 1)) := by
          rw [HSC.out]; exact if_pos ⟨hce, by simp; omega⟩
        have HV := Lib.hid (show cntV most ec s.data.toList = .tuple #[.int .i64 m, .int .i64 (i : Int), .bool false] by unfold cntV; rw [hok]; simp only; rw [hL, hLi])
        clear hok hce hL hLi
        go_wp2_with fail
        go_ret3
        exact ⟨by rw [HV.out]; rfl, rfl⟩
      · have hn : Cod.scan most ec s.data.toList 0 false = if c.toNat < 48 ∨ 57 < c.toNat ∨ (decide (0 < i) = true ∧ m = 0) ∨ most < 10 * m + (c.toNat - 48) then .corrupt else Cod.scan most ec (s.data.toList.drop (i + 1)) (10 * m + (c.toNat - 48)) true := by
          rw [HSC.out]; exact if_neg (fun hh => hA ⟨hh.1, by simpa using hh.2⟩)
        have q12 : (((c.toNat : Int) == (ec.toNat : Int)) = true ∧ (c.toNat == ec.toNat) = true ∧ decide (0 < (i : Int)) = false ∧ decide (0 < i) = false) ∨ (((c.toNat : Int) == (ec.toNat : Int)) = false ∧ (c.toNat == ec.toNat) = false) := by
          by_cases hce : c = ec
          · left
            have : ¬ 0 < i := fun h0 => hA ⟨hce, h0⟩
            exact ⟨by rw [hce]; simp, by rw [hce]; simp, by simp; omega, by simp; omega⟩
          · right
            have hne : c.toNat ≠ ec.toNat := fun hh => hce (UInt8.toNat_inj.1 hh)
            exact ⟨by rw [beq_eq_false_iff_ne]; omega, by rw [beq_eq_false_iff_ne]; exact hne⟩
        have hi3 : (decide (0 < (i : Int)) = false ∧ decide (0 < i) = false) ∨ (decide (0 < (i : Int)) = true ∧ decide (0 < i) = true) := by
          by_cases h0 : 0 < i
          · exact .inr ⟨by simp; omega, by simp; omega⟩
          · exact .inl ⟨by simp; omega, by simp; omega⟩
        clear HSC hA hL hLi
        by_cases h1 : c.toNat < 48
        · have r1 : decide ((c.toNat : Int) < 48) = true := by simp; omega
          have r1n : decide (c.toNat < 48) = true := by simp; omega
          rcases q12 with ⟨q1, q1n, q2, q2n⟩ | ⟨q1, q1n⟩
          all_goals
            clear hi3
            have hbad : Cod.scan most ec s.data.toList 0 false = .corrupt := by rw [hn]; exact if_pos (.inl h1)
            have HV := Lib.hid (show cntV most ec s.data.toList = .tuple #[.int .i64 0, .int .i64 (-1), .bool false] by unfold cntV; rw [hbad])
            clear hbad hn
            go_wp2_with fail
            go_ret3
            exact ⟨by rw [HV.out]; rfl, rfl⟩
        · have r1 : decide ((c.toNat : Int) < 48) = false := by simp; omega
          have r1n : decide (c.toNat < 48) = false := by simp; omega
          by_cases h2 : 57 < c.toNat
          · have r2 : decide ((57 : Int) < (c.toNat : Int)) = true := by simp; omega
            have r2n : decide (57 < c.toNat) = true := by simp; omega
            rcases q12 with ⟨q1, q1n, q2, q2n⟩ | ⟨q1, q1n⟩
            all_goals
              clear hi3
              have hbad : Cod.scan most ec s.data.toList 0 false = .corrupt := by rw [hn]; exact if_pos (.inr (.inl h2))
              have HV := Lib.hid (show cntV most ec s.data.toList = .tuple #[.int .i64 0, .int .i64 (-1), .bool false] by unfold cntV; rw [hbad])
              clear hbad hn
              go_wp2_with fail
              go_ret3
              exact ⟨by rw [HV.out]; rfl, rfl⟩
          · have r2 : decide ((57 : Int) < (c.toNat : Int)) = false := by simp; omega
            have r2n : decide (57 < c.toNat) = false := by simp; omega
            by_cases h3 : 0 < i ∧ m = 0
            · have q2 : decide (0 < (i : Int)) = true := by simp; omega
              have q2n : decide (0 < i) = true := by simp; omega
              have r3 : ((m : Int) == 0) = true := by rw [h3.2]; rfl
              have r3n : (m == 0) = true := by rw [h3.2]; rfl
              have hwhy : decide (0 < i) = true ∧ m = 0 := ⟨by simp; omega, h3.2⟩
              have HW := Lib.hid hwhy
              clear hwhy h3 hi3
              rcases q12 with ⟨q1, q1n, q2', q2n'⟩ | ⟨q1, q1n⟩
              · rw [q2] at q2'; cases q2'
              · have hbad : Cod.scan most ec s.data.toList 0 false = .corrupt := by rw [hn]; exact if_pos (.inr (.inr (.inl HW.out)))
                have HV := Lib.hid (show cntV most ec s.data.toList = .tuple #[.int .i64 0, .int .i64 (-1), .bool false] by unfold cntV; rw [hbad])
                clear hbad hn
                go_wp2_with fail
                go_ret3
                exact ⟨by rw [HV.out]; rfl, rfl⟩
            · obtain ⟨d, hd⟩ : ∃ d : Nat, c.toNat = d + 48 := ⟨c.toNat - 48, by omega⟩
              have hd9 : d ≤ 9 := by omega
              have u1 : (c.toNat : Int) - 48 = (d : Int) := by omega
              have u2 : IntKind.u8.wrap (d : Int) = (d : Int) := by rw [IntKind.wrap_u8']; omega
              have u3 : IntKind.i64.wrap (d : Int) = (d : Int) := IntWalk.i64_in _ (by omega)
              have u4 : IntKind.i64.wrap (10 * (m : Int)) = 10 * (m : Int) := IntWalk.i64_in _ (by omega)
              have u5 : IntKind.i64.wrap (10 * (m : Int) + (d : Int)) = 10 * (m : Int) + (d : Int) := IntWalk.i64_in _ (by omega)
              have h3' : (decide (0 < (i : Int)) = false ∧ decide (0 < i) = false) ∨ (decide (0 < (i : Int)) = true ∧ decide (0 < i) = true ∧ ((m : Int) == 0) = false ∧ (m == 0) = false) := by
                by_cases h0 : 0 < i
                · exact .inr ⟨by simp; omega, by simp; omega, by rw [beq_eq_false_iff_ne]; omega, by rw [beq_eq_false_iff_ne]; omega⟩
                · exact .inl ⟨by simp; omega, by simp; omega⟩
              have q3 : (((c.toNat : Int) == (ec.toNat : Int)) = true ∧ (c.toNat == ec.toNat) = true ∧ decide (0 < (i : Int)) = false ∧ decide (0 < i) = false) ∨ (((c.toNat : Int) == (ec.toNat : Int)) = false ∧ (c.toNat == ec.toNat) = false ∧ decide (0 < (i : Int)) = false ∧ decide (0 < i) = false) ∨ (((c.toNat : Int) == (ec.toNat : Int)) = false ∧ (c.toNat == ec.toNat) = false ∧ decide (0 < (i : Int)) = true ∧ decide (0 < i) = true ∧ ((m : Int) == 0) = false ∧ (m == 0) = false) := by
                rcases q12 with hq | ⟨hq1, hq2⟩
                · exact .inl hq
                · rcases h3' with ⟨a1, a2⟩ | ⟨a1, a2, a3, a4⟩
                  · exact .inr (.inl ⟨hq1, hq2, a1, a2⟩)
                  · exact .inr (.inr ⟨hq1, hq2, a1, a2, a3, a4⟩)
              clear q12 h3' hi3
              by_cases h4 : (most : Int) < 10 * (m : Int) + (d : Int)
              · have r4 : decide ((most : Int) < 10 * (m : Int) + (d : Int)) = true := by simp; omega
                have hbad : Cod.scan most ec s.data.toList 0 false = .corrupt := by rw [hn]; exact if_pos (.inr (.inr (.inr (by omega))))
                have HV := Lib.hid (show cntV most ec s.data.toList = .tuple #[.int .i64 0, .int .i64 (-1), .bool false] by unfold cntV; rw [hbad])
                clear hbad hn h3 hd hmm
                rcases q3 with ⟨q1, q1n, q2, q2n⟩ | ⟨q1, q1n, q2, q2n⟩ | ⟨q1, q1n, q2, q2n, r3, r3n⟩
                all_goals
                  go_wp2_with fail
                  go_ret3
                  exact ⟨by rw [HV.out]; rfl, rfl⟩
              · have r4 : decide ((most : Int) < 10 * (m : Int) + (d : Int)) = false := by simp; omega
                have hgo : Cod.scan most ec s.data.toList 0 false = Cod.scan most ec (s.data.toList.drop (i + 1)) (10 * m + d) (decide (0 < i + 1)) := by
                  rw [hn, if_neg (by
                    simp only [decide_eq_true_eq]
                    omega), show c.toNat - 48 = d by omega]
                  congr 1
                  all_goals simp
                have HG := Lib.hid hgo
                have hmm2 : 10 * m + d ≤ most := by omega
                clear hn hgo h3 hmm hd
                rcases q3 with ⟨q1, q1n, q2, q2n⟩ | ⟨q1, q1n, q2, q2n⟩ | ⟨q1, q1n, q2, q2n, r3, r3n⟩
                all_goals
                  go_wp2_with fail
                  go_round
                  case rel => exact ⟨i + 1, 10 * m + d, by omega, by go_num, by push_cast; rfl, hmm2, HG.out⟩
                  case measure => simp [intOf]; omega
    · have hin : i = s.size := by omega
      have hdr : s.data.toList.drop i = [] := by rw [hin]; exact List.drop_of_length_le (Nat.le_refl _)
      rw [hdr, Cod.scan] at hsc
      have HV := Lib.hid (show cntV most ec s.data.toList = .tuple #[.int .i64 0, .int .i64 (-1), .bool true] by unfold cntV; rw [hsc])
      have hb1 : decide ((i : Int) < (s.size : Int)) = false := by simp; omega
      have hb2 : decide (i < s.size) = false := by simp; omega
      clear hsc hdr hin
      go_wp2_with fail
      go_ret3
      exact ⟨by rw [HV.out]; rfl, rfl⟩
end Go.Proofs.YtmmdldicafbjdaaGreatDoor.Cd
namespace Go.Proofs.YtmmdldicafbjdaaGreatDoor
open Go.RowKit Go.Deep Tr

theorem str_app (a b : List UInt8) : str a ++ str b = str (a ++ b) := by
  apply ByteArray.ext
  rw [ByteArray.data_append]
  simp [str]
set_option maxHeartbeats 4000000 in
set_option maxRecDepth 100000 in
theorem qnumber_any (d : List UInt8) (hd : d.length ≤ 1000000) (w : World) : Calls Tryz.prog 36 #[.string (str d)] w fun e w' => e = .returned (.int .i64 (Pc.numL d : Int)) ∧ w' = w := by
  have hc := Cd.count_any 1024 59 (str (d ++ [59])) w (by rw [str_size, List.length_append, List.length_singleton]; omega) (by omega)
  rw [str_data, ← str_app] at hc
  rw [show str [59] = ⟨#[59]⟩ from rfl, show (((1024 : Nat) : Int)) = 1024 from rfl, show (((59 : UInt8).toNat : Nat) : Int) = 59 from rfl] at hc
  have hs := str_size d
  have HN := Lib.hid (show ∃ (n : Nat) (m : Int) (b : Bool), Cd.cntV 1024 59 (d ++ [59]) = .tuple #[.int .i64 n, .int .i64 m, .bool b] ∧ ((m = (d.length : Int) ∧ n = Pc.numL d) ∨ (m ≠ (d.length : Int) ∧ Pc.numL d = 0)) by
    unfold Cd.cntV Pc.numL
    cases h : Cd.Cod.scan 1024 59 (d ++ [59]) 0 false with
    | short => exact ⟨0, -1, true, rfl, .inr ⟨by omega, rfl⟩⟩
    | corrupt => exact ⟨0, -1, false, rfl, .inr ⟨by omega, rfl⟩⟩
    | ok m rest =>
      dsimp only
      cases rest with
      | nil => exact ⟨m, _, false, rfl, .inl ⟨by simp, rfl⟩⟩
      | cons y t =>
        refine ⟨m, _, false, rfl, .inr ⟨?_, rfl⟩⟩
        obtain ⟨_, h2⟩ := Cd.Cod.scan_back 1024 59 _ m _ h
        have h3 := congrArg List.length h2
        simp only [List.length_append, List.length_cons, List.length_nil] at h3 ⊢
        omega)
  obtain ⟨n, m, b, hv, hor⟩ := HN.out
  rw [hv] at hc
  clear HN hv
  generalize Pc.numL d = R at *
  go_enter Tryz.func36, Tryz.ntmps36
  go_wp2_with fail
  with_reducible refine hc.mono ?_
  clear hc
  rintro e w' ⟨rfl, rfl⟩
  rcases hor with ⟨rfl, rfl⟩ | ⟨hm, rfl⟩
  · have q : (((d.length : Nat) : Int) != (d.length : Int)) = false := by simp
    go_wp2_with fail
    go_ret
    exact ⟨rfl, rfl⟩
  · have q : (m != (d.length : Int)) = true := bne_iff_ne.2 hm
    go_wp2_with fail
    go_ret
    exact ⟨rfl, rfl⟩
set_option maxHeartbeats 4000000 in
set_option maxRecDepth 100000 in
theorem qafter_any (p x : List UInt8) (w : World) : Calls Tryz.prog 34 #[.string (str x), .string (str p)] w fun e w' => ((p.isPrefixOf x = true ∧ e = .returned (.tuple #[.string (str (x.drop p.length)), .bool true])) ∨ (p.isPrefixOf x = false ∧ e = .returned (.tuple #[.string ⟨#[]⟩, .bool false]))) ∧ w' = w := by
  have h1 := str_size x
  have h2 := str_size p
  by_cases hlt : x.length < p.length
  · have hf : p.isPrefixOf x = false := by
      refine eq_false_of_ne_true fun h => ?_
      have := (List.isPrefixOf_iff_prefix.1 h).length_le
      omega
    have q : decide ((x.length : Int) < (p.length : Int)) = true := decide_eq_true (by omega)
    have qn : decide (x.length < p.length) = true := decide_eq_true hlt
    go_enter Tryz.func34, Tryz.ntmps34
    go_wp2_with fail
    go_ret2
    exact ⟨.inr ⟨hf, rfl⟩, rfl⟩
  · have q : decide ((x.length : Int) < (p.length : Int)) = false := decide_eq_false (by omega)
    have qn : decide (x.length < p.length) = false := decide_eq_false hlt
    have z1 : (p.length : Int) ≤ (x.length : Int) := by omega
    have s1 : (str x).extract 0 p.length = str (x.take p.length) := by
      apply ByteArray.ext
      simp [str]
    have s2 : (str x).extract p.length x.length = str (x.drop p.length) := by
      apply ByteArray.ext
      simp [str]
      exact List.take_of_length_le (by rw [List.length_drop]; omega)
    by_cases hp1 : p.isPrefixOf x = true
    · have e : x.take p.length = p := List.prefix_iff_eq_take.1 (List.isPrefixOf_iff_prefix.1 hp1) |>.symm
      have q3 : ((str (x.take p.length)).toList != (str p).toList) = false := by rw [e]; simp
      have q4 : ((str (x.take p.length)).toList == (str p).toList) = true := by rw [e]; simp
      go_enter Tryz.func34, Tryz.ntmps34
      go_wp2_with fail
      go_ret2
      exact ⟨.inl ⟨hp1, rfl⟩, rfl⟩
    · have hpf : p.isPrefixOf x = false := eq_false_of_ne_true hp1
      have e : ¬ x.take p.length = p := fun e => hp1 (List.isPrefixOf_iff_prefix.2 (List.prefix_iff_eq_take.2 e.symm))
      have q3 : ((str (x.take p.length)).toList != (str p).toList) = true := by rw [str_list, str_list, bne_iff_ne]; exact e
      have q4 : ((str (x.take p.length)).toList == (str p).toList) = false := by rw [str_list, str_list, beq_eq_false_iff_ne]; exact e
      go_enter Tryz.func34, Tryz.ntmps34
      go_wp2_with fail
      go_ret2
      exact ⟨.inr ⟨hpf, rfl⟩, rfl⟩
end Go.Proofs.YtmmdldicafbjdaaGreatDoor
end
