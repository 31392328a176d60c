/- Numbers, texts and lists as bytes, and reading them, as plain functions. No condition.
Number and Text return the bytes of a number and of a text, or the error. Condition: the library's table of powers of ten lies in its variable.
A builder of a string that the call has made itself: what is written into it, byte for byte. No condition.
Text, and lists of numbers and of texts, return their bytes, or the error. Condition: the library's table of powers of ten lies in its variable.
Lists of numbers and of texts return their bytes, or the error. Condition: the library's table of powers of ten lies in its variable.
The reference's numerals. No condition but a bound. -/
import Derived.Lib.ItoaNum
import Derived.Test.YtlfgnecfabdkmaaGreatDoorShelf
import Derived.Test.YtlfgnecfabdkmaaGreatDoorRows
import Derived.WalkKit
import Derived.WalkSpells
import Derived.WalkLawsBesides
import Derived.Lib.Hide
import Derived.Lib.AppendIntMem
import Derived.Lib.ItoaLen
import Derived.Deep.DeepCutAuto
import Derived.Deep.LoopGhost
import Derived.Lib.Builder
import Derived.Lib.AppendStr
import Derived.Laws.Externs
import Derived.Deep.RegionWith
import Derived.Laws.IdiomStrings
section
namespace Go.Proofs.YtlfgnecfabdkmaaGreatDoor.Cd
namespace Cod
open Go.Lib (decDigits)

/-- The bytes of a number, and of a text. -/
def num (n : Nat) : List UInt8 := decDigits n ++ [59]
def txt (s : List UInt8) : List UInt8 := decDigits s.length ++ (58 :: (s ++ [44]))
/-- What scanning for a number finds. -/
inductive Found where
  | ok (n : Nat) (rest : List UInt8)
  | short
  | corrupt
/-- The digits of a number of at most 'most' and the byte e behind them: n is what was read by now, b whether something was read. -/
def scan (most : Nat) (e : UInt8) : List UInt8 → Nat → Bool → Found
  | [], _, _ => .short
  | c :: l, n, b =>
    if c = e ∧ b = true then .ok n l
    else if c.toNat < 48 ∨ 57 < c.toNat ∨ (b = true ∧ n = 0) ∨ most < 10 * n + (c.toNat - 48) then .corrupt
    else scan most e l (10 * n + (c.toNat - 48)) true

theorem dec_small {n : Nat} (h : n < 10) : decDigits n = [UInt8.ofNat (48 + n)] := by rw [decDigits, dif_pos h]
theorem dec_big {n : Nat} (h : ¬ n < 10) : decDigits n = decDigits (n / 10) ++ [UInt8.ofNat (48 + n % 10)] := by rw [decDigits, dif_neg h]
theorem digit_nat {d : Nat} (h : d < 10) : (UInt8.ofNat (48 + d)).toNat = 48 + d := by rw [UInt8.toNat_ofNat']; omega
theorem of_digit {c : UInt8} (h1 : 48 ≤ c.toNat) (h2 : c.toNat ≤ 57) : UInt8.ofNat (48 + (c.toNat - 48)) = c := by
  rw [show 48 + (c.toNat - 48) = c.toNat by omega, UInt8.ofNat_toNat]

/-- The digits of a number are taken in. -/
theorem scan_dec (most : Nat) (e : UInt8) (he : e.toNat < 48 ∨ 57 < e.toNat) : ∀ (n : Nat), n ≤ most → ∀ rest, scan most e (decDigits n ++ rest) 0 false = scan most e rest n true := by
  intro n
  induction n using Nat.strongRecOn with
  | _ n ih =>
    intro hn rest
    by_cases h : n < 10
    · rw [dec_small h, List.singleton_append, scan, if_neg (by simp), if_neg (by rw [digit_nat h]; simp; omega), digit_nat h]
      congr 1; omega
    · rw [dec_big h, List.append_assoc, ih (n / 10) (by omega) (by omega), List.singleton_append, scan]
      have hd : n % 10 < 10 := Nat.mod_lt _ (by decide)
      have hne : UInt8.ofNat (48 + n % 10) ≠ e := fun hc => by rw [← hc, digit_nat hd] at he; omega
      rw [if_neg (fun hc => hne hc.1), if_neg (by rw [digit_nat hd]; omega), digit_nat hd]
      congr 1; omega
theorem scan_num (most : Nat) (e : UInt8) (he : e.toNat < 48 ∨ 57 < e.toNat) (n : Nat) (hn : n ≤ most) (rest : List UInt8) : scan most e (decDigits n ++ e :: rest) 0 false = .ok n rest := by
  rw [scan_dec most e he n hn, scan, if_pos ⟨rfl, rfl⟩]

/-- What was found is what stood there. -/
theorem scan_ok (most : Nat) (e : UInt8) : ∀ (l : List UInt8) (n : Nat) (b : Bool) (m : Nat) (rest : List UInt8), n ≤ most → scan most e l n b = .ok m rest →
    m ≤ most ∧ ∃ ds, l = ds ++ e :: rest ∧ (b = true → decDigits m = decDigits n ++ ds) ∧ (b = false → n = 0 → decDigits m = ds)
  | [], _, _, _, _, _, h => by rw [scan] at h; cases h
  | c :: l, n, b, m, rest, hn, h => by
    rw [scan] at h
    by_cases h1 : c = e ∧ b = true
    · rw [if_pos h1] at h
      cases h
      exact ⟨hn, [], by rw [h1.1]; rfl, fun _ => by simp, fun hb => by rw [h1.2] at hb; cases hb⟩
    · rw [if_neg h1] at h
      by_cases h2 : c.toNat < 48 ∨ 57 < c.toNat ∨ (b = true ∧ n = 0) ∨ most < 10 * n + (c.toNat - 48)
      · rw [if_pos h2] at h; cases h
      · rw [if_neg h2] at h
        obtain ⟨hm, ds, hl, hd, _⟩ := scan_ok most e l _ true m rest (by omega) h
        refine ⟨hm, c :: ds, by rw [hl]; rfl, fun hb => ?_, fun hb h0 => ?_⟩
        · have hn0 : n ≠ 0 := fun h0 => h2 (.inr (.inr (.inl ⟨hb, h0⟩)))
          rw [hd rfl, dec_big (by omega), show (10 * n + (c.toNat - 48)) / 10 = n by omega, show (10 * n + (c.toNat - 48)) % 10 = c.toNat - 48 by omega, of_digit (by omega) (by omega), List.append_assoc]
          rfl
        · rw [hd rfl, dec_small (by omega), show 48 + (10 * n + (c.toNat - 48)) = 48 + (c.toNat - 48) by omega, of_digit (by omega) (by omega)]
          rfl
theorem scan_back (most : Nat) (e : UInt8) (l : List UInt8) (m : Nat) (rest : List UInt8) (h : scan most e l 0 false = .ok m rest) : m ≤ most ∧ l = decDigits m ++ e :: rest := by
  obtain ⟨hm, ds, hl, _, hd⟩ := scan_ok most e l 0 false m rest (Nat.zero_le _) h
  exact ⟨hm, by rw [hd rfl rfl]; exact hl⟩
/-- More bytes behind change nothing but a short end. -/
theorem scan_more (most : Nat) (e : UInt8) (q : List UInt8) : ∀ (p : List UInt8) (n : Nat) (b : Bool), (∀ m r, scan most e p n b = .ok m r → scan most e (p ++ q) n b = .ok m (r ++ q)) ∧ (scan most e p n b = .corrupt → scan most e (p ++ q) n b = .corrupt)
  | [], n, b => ⟨fun _ _ h => (by rw [scan] at h; cases h), fun h => (by rw [scan] at h; cases h)⟩
  | c :: p, n, b => by
    rw [List.cons_append, scan, scan]
    by_cases h1 : c = e ∧ b = true
    · rw [if_pos h1, if_pos h1]
      exact ⟨fun m r h => (by cases h; rfl), fun h => by cases h⟩
    · rw [if_neg h1, if_neg h1]
      by_cases h2 : c.toNat < 48 ∨ 57 < c.toNat ∨ (b = true ∧ n = 0) ∨ most < 10 * n + (c.toNat - 48)
      · rw [if_pos h2, if_pos h2]
        exact ⟨fun _ _ h => (by cases h), fun _ => rfl⟩
      · rw [if_neg h2, if_neg h2]
        exact scan_more most e q p _ true

/-! ### A reader -/
/-- Its rest, and its error. -/
structure Rd where
  rest : List UInt8
  err : Int
def digits (most : Nat) (e : UInt8) (r : Rd) : Nat × Rd :=
  if r.err = 0 then
    match scan most e r.rest 0 false with
    | .ok n l => (n, ⟨l, 0⟩)
    | .short => (0, ⟨[], 13⟩)
    | .corrupt => (0, ⟨[], 17⟩)
  else (0, r)
def number (low high : Int) (r : Rd) : Int × Rd :=
  let p := digits 281474976710656 59 r
  if p.2.err = 0 ∧ ((p.1 : Int) < low ∨ high < (p.1 : Int)) then (0, ⟨[], 3⟩) else ((p.1 : Int), p.2)
def text (most : Int) (r : Rd) : List UInt8 × Rd :=
  let p := digits 65536 58 r
  if p.2.err = 0 then
    if p.2.rest.length ≤ p.1 then ([], ⟨[], 13⟩)
    else if p.2.rest.getD p.1 0 = 44 then
      if most < (p.1 : Int) then ([], ⟨[], 10⟩) else (p.2.rest.take p.1, ⟨p.2.rest.drop (p.1 + 1), 0⟩)
    else ([], ⟨[], 17⟩)
  else ([], p.2)
def loop {α : Type} (next : Rd → α × Rd) : Nat → Rd → List α → List α × Rd
  | 0, r, acc => (acc, r)
  | k + 1, r, acc => if (next r).2.err = 0 then loop next k (next r).2 (acc ++ [(next r).1]) else ([], (next r).2)
def list {α : Type} (next : Rd → α × Rd) (r : Rd) : List α × Rd := loop next (number 0 1024 r).1.toNat (number 0 1024 r).2 []
end Cod
end Go.Proofs.YtlfgnecfabdkmaaGreatDoor.Cd
end
section
namespace Go.Proofs.YtlfgnecfabdkmaaGreatDoor.Cd
open Go.RowKit

/-- The library's table lies where the text lays it. -/
def Tabs (w : World) : Prop := Lib.TabIs Tryz.prog w "internal/strconv.uint64pow10" .u64 Lib.pow10Tab
theorem Tabs.below {w w' : World} (h : Tabs w) (hb : Below w.heap.size w w') : Tabs w' := by
  unfold Tabs Lib.TabIs World.var? at *
  cases hg : Tryz.prog.globalNamed "internal/strconv.uint64pow10" with
  | none => simp [hg] at h
  | some g =>
    simp only [hg, Option.bind_some] at h ⊢
    have hlt : g < w.heap.size := by
      rcases Nat.lt_or_ge g w.heap.size with h' | h'
      · exact h'
      · rw [Array.getElem?_eq_none h'] at h; simp at h
    rw [hb.block g hlt]
    exact h
/-- Bytes as a string. -/
def str (l : List UInt8) : ByteArray := ⟨l.toArray⟩
theorem str_data (l : List UInt8) : (str l).data.toList = l := rfl
theorem str_app (a b : List UInt8) : str a ++ str b = str (a ++ b) := by
  apply ByteArray.ext; simp [str]
theorem str_size (l : List UInt8) : (str l).size = l.length := by show l.toArray.size = _; simp
theorem dec_len (n : Nat) (h : n ≤ 9223372036854775807) : (Lib.decDigits n).length ≤ 21 := by
  have := Lib.itoa_length_le (n : Int) (by omega) (by omega)
  rwa [Lib.itoa_nonneg] at this
theorem itoa_any (n : Nat) (hn : n ≤ 9223372036854775807) (w : World) (hT : Tabs w) :
    Calls Tryz.prog 35 #[.int .i64 (n : Int)] w fun e w' => e = .returned (.string (str (Lib.decDigits n))) ∧ Below w.heap.size w w' :=
  (Tryz.strconv_Itoa (n : Int) (by omega) (by omega) w hT).mono fun e w' ⟨h1, k, os, h2⟩ => ⟨by rw [h1, Lib.itoa_nonneg]; rfl, by rw [h2]; exact Lib.below_grow _ w (Nat.le_refl _) k os⟩

/-- What Number returns. -/
def numV (n : Int) : Value := if n < 0 ∨ 281474976710656 < n then .tuple #[.string ⟨#[]⟩, .int .i64 3] else .tuple #[.string (str (Cod.num n.toNat)), .int .i64 0]
end Go.Proofs.YtlfgnecfabdkmaaGreatDoor.Cd
end
section
namespace Go.Proofs.YtlfgnecfabdkmaaGreatDoor.Cd
open Go.RowKit

theorem infoB : (Tryz.prog.info? 118).map (·.size) = some 2 := by kernel_rfl
theorem liesB : liesAt Tryz.prog Tryz.prog.depth 118 (2 / Tryz.prog.cellsOf 118) 0 118 1 = true := by kernel_rfl
theorem info8 : (Tryz.prog.info? 5).map (fun i => (i.zero, i.size, i.bytes)) = some (some (.int .u8 0), 1, 1) := by kernel_rfl
/-- Block b, from B on, is a builder that holds these bytes; 'p' says whether it was written. -/
def Bld (w : World) (B b : Nat) (p : Value) (l : List UInt8) : Prop := Lib.BuilderAt 118 5 B b p (Lib.byteCells l) w

set_option maxHeartbeats 1000000 in
set_option maxRecDepth 100000 in
theorem check_used (b : Nat) (w : World) (h0 : w.cell? ⟨b, 0, none⟩ = some (.pointer (some ⟨b, 0, none⟩))) :
    Calls Tryz.prog 101 #[.pointer (some ⟨b, 0, none⟩)] w fun e w' => e = .returned (.tuple #[]) ∧ w = w' := by
  obtain ⟨j, hj, _⟩ := Option.map_eq_some_iff.1 infoB
  go_enter Tryz.func101, Tryz.ntmps101
  go_wp2
  rw [Lib.run_neq_ptr_same w _ Tryz.underlying116 hj]
  go_wp2
  go_end0
  exact ⟨rfl, rfl⟩
set_option maxHeartbeats 1000000 in
set_option maxRecDepth 100000 in
theorem check_fresh (b : Nat) (w : World) (h0 : w.cell? ⟨b, 0, none⟩ = some (.pointer none)) (hsh : w.shape? b = some (118, 2)) (hfz : w.frozen? ⟨b, 0, none⟩ = false) :
    Calls Tryz.prog 101 #[.pointer (some ⟨b, 0, none⟩)] w fun e w' => e = .returned (.tuple #[]) ∧ w' = w.setCell ⟨b, 0, none⟩ (.pointer (some ⟨b, 0, none⟩)) := by
  obtain ⟨j, hj, hjs⟩ := Option.map_eq_some_iff.1 infoB
  go_enter Tryz.func101, Tryz.ntmps101
  go_wp2
  rw [Lib.run_to_unsafe w ⟨b, 0, none⟩ Tryz.underlying116 Tryz.underlying154 hj (by rw [hjs]; decide) hsh (Nat.zero_lt_succ 1)]
  simp only [Result.andThen]
  rw [Oper.upon_value]
  go_wp2
  rw [run_callFunc_extern Tryz.func123 (by kernel_rfl) (by kernel_rfl) (by kernel_rfl) (e := Extern.AbiNoEscape.same) (by kernel_rfl), Lib.run_noEscape]
  simp only [Result.andThen]
  rw [Oper.upon_value]
  go_wp2
  rw [Lib.run_from_unsafe w ⟨b, 0, none⟩ Tryz.underlying154 Tryz.underlying116 hj hsh liesB]
  simp only [Result.andThen]
  rw [Oper.upon_value]
  go_wp2
  go_end0
  exact ⟨rfl, rfl⟩
theorem check_any (B b : Nat) (p : Value) (hp : p = .pointer none ∨ p = .pointer (some ⟨b, 0, none⟩)) (l : List UInt8) (w : World) (h : Bld w B b p l) :
    Calls Tryz.prog 101 #[.pointer (some ⟨b, 0, none⟩)] w fun e w' => e = .returned (.tuple #[]) ∧ Bld w' B b (.pointer (some ⟨b, 0, none⟩)) l ∧ Below B w w' := by
  rcases hp with rfl | rfl
  · refine (check_fresh b w h.cell0 h.shape h.frozen0).mono ?_
    rintro e w' ⟨rfl, rfl⟩
    exact ⟨rfl, h.used _, (Below.refl B w).setCell (p := ⟨b, 0, none⟩) h.1 _⟩
  · refine (check_used b w h.cell0).mono ?_
    rintro e w' ⟨rfl, rfl⟩
    exact ⟨rfl, h, Below.refl B _⟩
set_option maxHeartbeats 2000000 in
set_option maxRecDepth 100000 in
theorem writeString_any (B b : Nat) (p : Value) (hp : p = .pointer none ∨ p = .pointer (some ⟨b, 0, none⟩)) (l : List UInt8) (s : ByteArray) (w : World) (h : Bld w B b p l) (hlen : l.length + s.size ≤ 1000000000) (hBw : B ≤ w.heap.size) :
    Calls Tryz.prog 82 #[.pointer (some ⟨b, 0, none⟩), .string s] w fun e w' => e = .returned (.tuple #[.int .i64 s.size, .nilIface]) ∧ Bld w' B b (.pointer (some ⟨b, 0, none⟩)) (l ++ s.data.toList) ∧ Below B w w' := by
  obtain ⟨i0, hi, hz0, hz1, hz2⟩ := info_parts info8
  have hL := Lib.byteCells_length l
  go_enter Tryz.func82, Tryz.ntmps82
  go_wp2_with fail
  refine (check_any B b p hp l _ h).mono ?_
  rintro e w1 ⟨rfl, h1, hb1⟩
  obtain ⟨hB, v, hbk, hown, hne⟩ := h1
  have c1 : w1.cell? ⟨b, 1, none⟩ = some v := by rw [Lib.cell_of_heap hbk]; rfl
  go_wp2_with (at_builtin; refine Lib.wpList_append_own_string _ rfl _ _ 89 9 rfl B 5 i0 Tryz.underlying89 Tryz.underlying9 hi hz0 hz1 hz2 _ _ _ rfl hown s rfl ?c3 ?c4 ?c5 ?_)
  case c3 => unfold maxLen; omega
  case c4 => omega
  case c5 => have := hb1.size; omega
  intro v' w2 hown' hgrow _
  have hlt : b < w1.heap.size := (Array.getElem?_eq_some_iff.1 hbk).1
  have hb2 : w2.heap[b]? = some (.cells #[.pointer (some ⟨b, 0, none⟩), v] 118 (0, 0)) := by
    rw [hgrow.block b hlt (fun e => hne e.symm)]
    exact hbk
  have d1 : w2.cell? ⟨b, 1, none⟩ = some v := by rw [Lib.cell_of_heap hb2]; rfl
  have f1 : w2.frozen? ⟨b, 1, none⟩ = false := Lib.frozen_of_heap hb2 1
  obtain ⟨ao, n', cap, rfl⟩ : ∃ ao n' cap, v' = .slice ao n' cap := by
    rcases hown'.2 with ⟨hv, _⟩ | ⟨g, cap, cur, hv, _⟩
    · exact ⟨_, _, _, hv⟩
    · exact ⟨_, _, _, hv⟩
  clear hL
  go_wp2_with fail
  go_ret2
  refine ⟨rfl, ?_, (hb1.grown hgrow (by have := hb1.size; omega) (fun k hk => (hown.lt k hk).1)).setCell (p := ⟨b, 1, none⟩) hB _⟩
  unfold Bld
  rw [Lib.byteCells_append]
  exact Lib.BuilderAt.put (T := 118) (e := 5) hB hb2 (bs' := Lib.byteCells l ++ Lib.strCells s) (by simpa [Lib.strCells_length, Lib.byteCells_length] using hown') (by decide)
theorem string_any (B b : Nat) (p : Value) (hp : p = .pointer none ∨ p = .pointer (some ⟨b, 0, none⟩)) (l : List UInt8) (w : World) (h : Bld w B b p l) (hBw : B ≤ w.heap.size) :
    Calls Tryz.prog 83 #[.pointer (some ⟨b, 0, none⟩)] w fun e w' => e = .returned (.string (str l)) ∧ Below B w w' :=
  Tryz.Builder_String_any B b l w (by rcases hp with rfl | rfl; exact .inl h; exact .inr h) hBw
theorem bld_new (w : World) : Bld (w.alloc (.cells #[.pointer none, .slice none 0 0] 118)) w.heap.size w.heap.size (.pointer none) [] :=
  ⟨Nat.le_refl _, .slice none 0 0, heap_alloc_new w _, World.ownsRow_nil _ _ _ _, by simp [Value.ownBlock]⟩
end Go.Proofs.YtlfgnecfabdkmaaGreatDoor.Cd
end
section
namespace Go.Proofs.YtlfgnecfabdkmaaGreatDoor.Cd
open Go.RowKit

/-- What Text returns. -/
def txtV (s : ByteArray) : Value := if 65536 < s.size then .tuple #[.string ⟨#[]⟩, .int .i64 10] else .tuple #[.string (str (Cod.txt s.data.toList)), .int .i64 0]
theorem str_of (s : ByteArray) : str s.data.toList = s := by apply ByteArray.ext; simp [str]
theorem txt_eq (s : ByteArray) : str (Lib.decDigits s.size) ++ ⟨#[58]⟩ ++ s ++ ⟨#[44]⟩ = str (Cod.txt s.data.toList) := by
  have h1 : (⟨#[58]⟩ : ByteArray) = str [58] := rfl
  have h2 : (⟨#[44]⟩ : ByteArray) = str [44] := rfl
  rw [h1, h2]
  conv => lhs; rw [← str_of s]
  rw [str_app, str_app, str_app]
  unfold Cod.txt
  rw [show s.data.toList.length = s.size from rfl, str_size]
  simp [show s.data.toList.length = s.size from rfl]
theorem txt_len (s : ByteArray) (h : s.size ≤ 65536) : (Cod.txt s.data.toList).length ≤ 70000 := by
  have := dec_len s.size (by omega)
  unfold Cod.txt
  rw [show s.data.toList.length = s.size from rfl]
  simp
  omega
theorem num_len (n : Nat) (h : n ≤ 281474976710656) : (Cod.num n).length ≤ 22 := by
  have := dec_len n (by omega)
  unfold Cod.num; simp; omega
end Go.Proofs.YtlfgnecfabdkmaaGreatDoor.Cd
end
section
namespace Go.Proofs.YtlfgnecfabdkmaaGreatDoor.Cd
open Go.RowKit

/-- The slice value's cells are these values; they lie below block B. -/
def CellsAt (w : World) (B : Nat) (A : Option Addr) (vs : List Value) : Prop := ∀ i (h : i < vs.length), ∃ g o, A = some ⟨g, o, none⟩ ∧ g < B ∧ w.cell? ⟨g, o + i, none⟩ = some vs[i]
theorem CellsAt.below {w w' : World} {B B' : Nat} {A : Option Addr} {vs : List Value} (h : CellsAt w B A vs) (hb : Below B' w w') (hB : B ≤ B') : CellsAt w' B A vs := fun i hi => by
  obtain ⟨g, o, e, hg, hc⟩ := h i hi
  exact ⟨g, o, e, hg, (hb.cell (p := ⟨g, o + i, none⟩) (by show g < B'; omega)).trans hc⟩
theorem Bld.below {w w' : World} {B b : Nat} {p : Value} {l : List UInt8} (h : Bld w B b p l) (hb : Below w.heap.size w w') : Bld w' B b p l := by
  obtain ⟨hB, v, hbk, hown, hne⟩ := h
  exact ⟨hB, v, (hb.block b (Array.getElem?_eq_some_iff.1 hbk).1).trans hbk, hown.kept (row := none) ⟨hb.os, hb.tape, hb.output, hb.size, fun k hk _ => hb.block k hk⟩ (by cases hv : v.ownBlock <;> simp), hne⟩
theorem all_snoc {α : Type} (p : α → Bool) (zs : List α) (k : Nat) (h : k < zs.length) : (zs.take (k + 1)).all p = ((zs.take k).all p && p zs[k]) := by
  rw [List.take_succ_eq_append_getElem h, List.all_append]; simp
def intsOf (zs : List Int) : List Value := zs.map (Value.int .i64)
def strsOf (ss : List ByteArray) : List Value := ss.map Value.string
def okN (n : Int) : Bool := decide (0 ≤ n ∧ n ≤ 281474976710656)
def okS (s : ByteArray) : Bool := decide (s.size ≤ 65536)
def encN (n : Int) : List UInt8 := Cod.num n.toNat
def encS (s : ByteArray) : List UInt8 := Cod.txt s.data.toList
theorem numV_ok (n : Int) (h : okN n = true) : numV n = .tuple #[.string (str (encN n)), .int .i64 0] := by
  have : 0 ≤ n ∧ n ≤ 281474976710656 := by simpa [okN] using h
  exact if_neg (by omega)
theorem numV_bad (n : Int) (h : okN n = false) : numV n = .tuple #[.string ⟨#[]⟩, .int .i64 3] := by
  have : ¬ (0 ≤ n ∧ n ≤ 281474976710656) := by simpa [okN] using h
  exact if_pos (by omega)
theorem txtV_ok (s : ByteArray) (h : okS s = true) : txtV s = .tuple #[.string (str (encS s)), .int .i64 0] := by
  have : s.size ≤ 65536 := by simpa [okS] using h
  exact if_neg (by omega)
theorem txtV_bad (s : ByteArray) (h : okS s = false) : txtV s = .tuple #[.string ⟨#[]⟩, .int .i64 10] := by
  have : ¬ s.size ≤ 65536 := by simpa [okS] using h
  exact if_pos (by omega)
theorem encN_len (n : Int) (h : okN n = true) : (encN n).length ≤ 70000 := by
  have : 0 ≤ n ∧ n ≤ 281474976710656 := by simpa [okN] using h
  have := num_len n.toNat (by omega)
  unfold encN; omega
theorem encS_len (s : ByteArray) (h : okS s = true) : (encS s).length ≤ 70000 := txt_len s (by simpa [okS] using h)
theorem flat_snoc {α : Type} (f : α → List UInt8) (zs : List α) (k : Nat) (h : k < zs.length) : (zs.take (k + 1)).flatMap f = (zs.take k).flatMap f ++ f zs[k] := by
  rw [List.take_succ_eq_append_getElem h, List.flatMap_append]; simp

/-- What Numbers returns. -/
def numsV (zs : List Int) : Value := if 1024 < zs.length then .tuple #[.string ⟨#[]⟩, .int .i64 10] else if zs.all okN = true then .tuple #[.string (str (Cod.num zs.length ++ zs.flatMap encN)), .int .i64 0] else .tuple #[.string ⟨#[]⟩, .int .i64 3]
/-- What Texts returns. -/
def txtsV (zs : List ByteArray) : Value := if 1024 < zs.length then .tuple #[.string ⟨#[]⟩, .int .i64 10] else if zs.all okS = true then .tuple #[.string (str (Cod.num zs.length ++ zs.flatMap encS)), .int .i64 0] else .tuple #[.string ⟨#[]⟩, .int .i64 10]
end Go.Proofs.YtlfgnecfabdkmaaGreatDoor.Cd
end
section
namespace Go.Proofs.YtlfgnecfabdkmaaGreatDoor.Cd
open Go.RowKit

theorem bcell {W w1 : World} (hb : Below W.heap.size W w1) : (∀ b o, b < W.heap.size → w1.cell? ⟨b, o, none⟩ = W.cell? ⟨b, o, none⟩) ∧ (∀ b o, b < W.heap.size → w1.frozen? ⟨b, o, none⟩ = W.frozen? ⟨b, o, none⟩) :=
  ⟨fun b o h => hb.cell (p := ⟨b, o, none⟩) h, fun b o h => hb.frozen (p := ⟨b, o, none⟩) h⟩
/-- 'string([]byte{c})'. -/
theorem one_str (W : World) (g : Nat) (x : Int) (c : UInt8) (hx : x = (c.toNat : Int)) (h : W.cell? ⟨g, 0, none⟩ = some (.int .u8 x)) :
    (convert 89 9 (.slice (some ⟨g, 0, none⟩) 1 1)).run Tryz.prog W = .ok (.string (str [c])) W :=
  run_convert_bytes_back W 89 9 5 ⟨g, 0, none⟩ 1 [c] Tryz.underlying89 Tryz.underlying5 Tryz.underlying9 (fun j hj => by
    have h0 : j = 0 := by simpa using hj
    subst h0
    have hadd : (⟨g, 0, none⟩ : Addr).add 0 = ⟨g, 0, none⟩ := by simp [Addr.add]
    rw [hadd, h, hx]; rfl)
theorem dig_nat (d : Nat) (h : d < 10) : 48 + (d : Int) = ((UInt8.ofNat (48 + d)).toNat : Int) := by rw [Cod.digit_nat h]; omega

set_option maxHeartbeats 4000000 in
set_option maxRecDepth 100000 in
theorem decimal_any : ∀ (n : Nat), n ≤ 9223372036854775807 → ∀ (w : World), Calls Tryz.prog 66 #[.int .i64 (n : Int)] w fun e w' => e = .returned (.string (str (Lib.decDigits n))) ∧ Below w.heap.size w w' := by
  intro n
  induction n using Nat.strongRecOn with
  | _ n ih =>
    intro hn w
    by_cases h : n < 10
    · have hd0 := Cod.dec_small h
      have hdn := dig_nat n h
      generalize UInt8.ofNat (48 + n) = c at *
      have hd := Lib.hid hd0
      have b1 : decide ((n : Int) < 10) = true := by simp; omega
      have hcv := fun (W : World) (g : Nat) => one_str W g (48 + (n : Int)) c hdn
      clear hd0 hdn
      go_enter Tryz.func66, Tryz.ntmps66
      go_wp2_with fail
      go_ret
      exact ⟨by rw [hd.out]; rfl, (Below.refl _ _).alloc (Nat.le_refl _) _⟩
    · have hd := Lib.hid (Cod.dec_big h)
      have b1 : decide ((n : Int) < 10) = false := by simp; omega
      obtain ⟨q, hq⟩ : ∃ q, q = n / 10 := ⟨_, rfl⟩
      obtain ⟨r, hr⟩ : ∃ r, r = n % 10 := ⟨_, rfl⟩
      have hr10 : r < 10 := by omega
      have hih := ih q (by omega) (by omega)
      have i1 : ((n : Int)).tdiv 10 = (q : Int) := by rw [Int.tdiv_eq_ediv_of_nonneg (by omega)]; omega
      have i2 : ((n : Int)).tmod 10 = (r : Int) := by rw [Int.tmod_eq_emod_of_nonneg (by omega)]; omega
      have n1 : (n : Int) / 10 = (q : Int) := by omega
      have n2 : (n : Int) % 10 = (r : Int) := by omega
      have i3 : IntKind.i64.wrap (q : Int) = (q : Int) := IntWalk.i64_in _ (by omega)
      have i4 : IntKind.i64.wrap (r : Int) = (r : Int) := IntWalk.i64_in _ (by omega)
      have i5 : IntKind.i64.wrap (48 + (r : Int)) = 48 + (r : Int) := IntWalk.i64_in _ (by omega)
      have i6 : IntKind.u8.wrap (48 + (r : Int)) = 48 + (r : Int) := by rw [IntKind.wrap_u8']; omega
      have hdn := dig_nat r hr10
      have hlen := dec_len q (by omega)
      rw [← str_size] at hlen
      have hE : str (Lib.decDigits q) ++ str [UInt8.ofNat (48 + r)] = str (Lib.decDigits n) := by rw [str_app, hd.out, hq, hr]
      generalize UInt8.ofNat (48 + r) = c at *
      have hcv := fun (W : World) (g : Nat) => one_str W g (48 + (r : Int)) c hdn
      have hs1 : (str [c]).size ≤ 1 := by rw [str_size]; simp
      have HE := Lib.hid hE
      clear hE hq hr hdn
      go_enter Tryz.func66, Tryz.ntmps66
      go_wp2_with fail
      go_region_with (go_at_call 66; refine (hih _).mono ?_; rintro e w2 ⟨rfl, hb⟩; obtain ⟨hc, hf⟩ := bcell hb)
      all_goals
        go_wp2_with fail
        go_ret
        refine ⟨by rw [← HE.out]; rfl, ?_⟩
        first
          | exact Below.alloc (⟨hb.os, hb.tape, hb.output, hb.size, hb.block⟩ : Below w.heap.size w w2) (show w.heap.size ≤ w2.heap.size from hb.size) _
          | exact Below.trans (((Below.refl w.heap.size w).alloc (Nat.le_refl _) _).drew) (hb.mono (by simp))
end Go.Proofs.YtlfgnecfabdkmaaGreatDoor.Cd
end
