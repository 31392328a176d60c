/- The law DigestTexts returns true. Condition: the round constants lie in their variable. -/
import Derived.Test.YtkcpncgngblooaaDoorRefPar
import Derived.Test.YtkcpncgngblooaaDoorAwake
namespace Go.Proofs.YtkcpncgngblooaaDoor
open Go.RowKit

/-- What Hex returns. -/
def hexV (s : ByteArray) : Value := if s.size = 32 then .tuple #[.string (hexS s), .int .i64 0] else .tuple #[.string ⟨#[]⟩, .int .i64 1]
theorem hex_any (s : ByteArray) (w : World) : Calls Tryd.prog 19 #[.string s] w fun e w' => e = .returned (hexV s) ∧ Below w.heap.size w w' := by
  unfold hexV
  split
  · next h => exact hex_good s h w
  · next h => exact (hex_bad s h w).mono fun e w' h => ⟨h.1, h.2 ▸ Below.refl _ _⟩
theorem refHex_any (s : ByteArray) (w : World) : Calls Tryd.prog 20 #[.string s] w fun e w' => e = .returned (hexV s) ∧ Below w.heap.size w w' := by
  unfold hexV
  split
  · next h => exact refHex_good s h w
  · next h => exact (refHex_bad s h w).mono fun e w' h => ⟨h.1, h.2 ▸ Below.refl _ _⟩
theorem hexV_cases (s : ByteArray) : (∃ a, hexV s = .tuple #[.string a, .int .i64 0] ∧ parV a = .tuple #[.string s, .int .i64 0]) ∨ hexV s = .tuple #[.string ⟨#[]⟩, .int .i64 1] := by
  by_cases h : s.size = 32
  · exact .inl ⟨hexS s, if_pos h, par_hex s h⟩
  · exact .inr (if_neg h)
theorem parV_cases (t : ByteArray) : (∃ c, parV t = .tuple #[.string c, .int .i64 0] ∧ hexV c = .tuple #[.string t, .int .i64 0]) ∨ parV t = .tuple #[.string ⟨#[]⟩, .int .i64 4] := by
  by_cases h : t.size = 64 ∧ AllHex t.data.toList 64
  · refine .inl ⟨parS t, if_pos h, ?_⟩
    unfold hexV
    rw [if_pos (parS_size t), hex_par t h.1 h.2]
  · exact .inr (if_neg h)

set_option maxHeartbeats 4000000 in
set_option maxRecDepth 100000 in
theorem texts_short (s t : ByteArray) (w : World) (hC : Consts w) (hs : s.size ≤ 100) (ht : t.size ≤ 100) :
    Calls Tryd.prog 8 #[.string s, .string t] w fun e w' => e = .returned (.bool true) ∧ Below w.heap.size w w' := by
  have da : decide ((100 : Int) < s.size) = false := by simp; omega
  have db : decide ((100 : Int) < t.size) = false := by simp; omega
  rcases hexV_cases s with ⟨a, hA, hP⟩ | hA <;> rcases parV_cases t with ⟨c, hT, hH⟩ | hT
  all_goals
    go_enter Tryd.func8, Tryd.ntmps8
    go_wp2_with fail
    refine (awake_any _ hC).mono ?_
    rintro e w1 ⟨rfl, hb1⟩
    go_wp2_with fail
    refine (hex_any s _).mono ?_
    rw [hA]
    rintro e w2 ⟨rfl, hb2⟩
    replace hb1 := hb1.trans (hb2.mono hb1.size)
    clear hb2
    go_wp2_with fail
    refine (refHex_any s _).mono ?_
    rw [hA]
    rintro e w3 ⟨rfl, hb2⟩
    replace hb1 := hb1.trans (hb2.mono hb1.size)
    clear hb2
    go_wp2_with fail
    refine (parse_any t _).mono ?_
    rw [hT]
    rintro e w4 ⟨rfl, hb2⟩
    replace hb1 := hb1.trans (hb2.mono hb1.size)
    clear hb2
    go_wp2_with fail
    refine (refParse_any t _).mono ?_
    rw [hT]
    rintro e w5 ⟨rfl, hb2⟩
    replace hb1 := hb1.trans (hb2.mono hb1.size)
    clear hb2 hA hT
    go_wp2_with fail
  · refine (parse_any a _).mono ?_
    rw [hP]
    rintro e w6 ⟨rfl, hb2⟩
    replace hb1 := hb1.trans (hb2.mono hb1.size)
    clear hb2 hP
    go_wp2_with fail
    refine (hex_any c _).mono ?_
    rw [hH]
    rintro e w7 ⟨rfl, hb2⟩
    replace hb1 := hb1.trans (hb2.mono hb1.size)
    clear hb2 hH
    go_wp2_with fail
    go_ret
    exact ⟨rfl, hb1⟩
  · refine (parse_any a _).mono ?_
    rw [hP]
    rintro e w6 ⟨rfl, hb2⟩
    replace hb1 := hb1.trans (hb2.mono hb1.size)
    clear hb2 hP
    go_wp2_with fail
    go_ret
    exact ⟨rfl, hb1⟩
  · refine (hex_any c _).mono ?_
    rw [hH]
    rintro e w7 ⟨rfl, hb2⟩
    replace hb1 := hb1.trans (hb2.mono hb1.size)
    clear hb2 hH
    go_wp2_with fail
    go_ret
    exact ⟨rfl, hb1⟩
  · go_ret
    exact ⟨rfl, hb1⟩

set_option maxHeartbeats 4000000 in
set_option maxRecDepth 100000 in
theorem texts_long (s t : ByteArray) (w : World) (hC : Consts w) (h : 100 < s.size ∨ 100 < t.size) :
    Calls Tryd.prog 8 #[.string s, .string t] w fun e w' => e = .returned (.bool true) ∧ Below w.heap.size w w' := by
  by_cases ha : 100 < s.size
  · have da : decide ((100 : Int) < s.size) = true := by simp; omega
    clear h ha
    go_enter Tryd.func8, Tryd.ntmps8
    go_wp2_with fail
    refine (awake_any _ hC).mono ?_
    rintro e w1 ⟨rfl, hb1⟩
    go_wp2_with fail
    go_ret
    exact ⟨rfl, hb1⟩
  · have da : decide ((100 : Int) < s.size) = false := by simp; omega
    have db : decide ((100 : Int) < t.size) = true := by simp; omega
    clear h ha
    go_enter Tryd.func8, Tryd.ntmps8
    go_wp2_with fail
    refine (awake_any _ hC).mono ?_
    rintro e w1 ⟨rfl, hb1⟩
    go_wp2_with fail
    go_ret
    exact ⟨rfl, hb1⟩
theorem texts_law (s t : ByteArray) (w : World) (hC : Consts w) :
    Calls Tryd.prog 8 #[.string s, .string t] w fun e w' => e = .returned (.bool true) ∧ Below w.heap.size w w' := by
  by_cases h : 100 < s.size ∨ 100 < t.size
  · exact texts_long s t w hC h
  · exact texts_short s t w hC (by omega) (by omega)
end Go.Proofs.YtkcpncgngblooaaDoor
