/- Number of the reference, at four digits. No condition but lengths. -/
import Derived.Test.YtlablbibdkcifaaGreatDoorRct
import Derived.Test.YtlablbibdkcifaaGreatDoorDcp
namespace Go.Proofs.YtlablbibdkcifaaGreatDoor
open Go.RowKit Go.Deep Tr

namespace Ls
/-- What the loop of Number knows. -/
def NumS (d : LN) (i n : Nat) : Prop := (i = 0 ∧ n = 0) ∨ (1 ≤ i ∧ d.take i = Lib.decDigits n ∧ n < 10 ^ i ∧ (2 ≤ d.length → 1 ≤ n))
theorem NumS.bound {d : LN} {i n : Nat} (h : NumS d i n) (hi : i ≤ 4) : n ≤ 9999 := by
  rcases h with ⟨_, h⟩ | ⟨_, _, h, _⟩
  · omega
  · have : 10 ^ i ≤ 10 ^ 4 := Nat.pow_le_pow_right (by omega) hi
    omega
theorem NumS.step {d : LN} {i n : Nat} (h : NumS d i n) (hi : i < d.length) (h1 : 48 ≤ d[i].toNat) (h2 : d[i].toNat ≤ 57) (h0 : 2 ≤ d.length → ∀ (_ : 0 < d.length), d[0].toNat ≠ 48) : NumS d (i + 1) (10 * n + (d[i].toNat - 48)) := by
  refine .inr ⟨by omega, ?_, ?_, fun hl => ?_⟩
  · rcases h with ⟨rfl, rfl⟩ | ⟨ha, hb, hc, hd⟩
    · have hs : 10 * 0 + (d[0].toNat - 48) < 10 := by omega
      rw [Cd.Cod.dec_small hs, List.take_succ_eq_append_getElem hi, List.take_zero, List.nil_append]
      congr 1
      apply UInt8.toNat_inj.1
      rw [Cd.Cod.digit_nat hs]
      omega
    · have hn1 := hd (by omega)
      have hb10 : ¬ 10 * n + (d[i].toNat - 48) < 10 := by omega
      rw [Cd.Cod.dec_big hb10, List.take_succ_eq_append_getElem hi, hb]
      congr 1
      · congr 1; omega
      · congr 1
        apply UInt8.toNat_inj.1
        rw [Cd.Cod.digit_nat (by omega)]
        omega
  · rcases h with ⟨rfl, rfl⟩ | ⟨ha, hb, hc, hd⟩
    · simp; omega
    · rw [Nat.pow_succ]; omega
  · rcases h with ⟨rfl, rfl⟩ | ⟨ha, hb, hc, hd⟩
    · have := h0 hl (by omega); omega
    · have := hd hl; omega
theorem NumS.done {d : LN} {i n : Nat} (h : NumS d i n) (hi : i = d.length) (h1 : 1 ≤ d.length) (h4 : d.length ≤ 4) : numC d = some n := by
  have hb := h.bound (by omega)
  rcases h with ⟨h, _⟩ | ⟨_, h, _, _⟩
  · omega
  · rw [List.take_of_length_le (by omega)] at h
    rw [h]
    exact numC_dec hb
theorem numC_bad {d : LN} {c : UInt8} (hc : c ∈ d) (h : c.toNat < 48 ∨ 57 < c.toNat) : numC d = none := numC_none fun n _ e => by
  rw [e] at hc
  have := dec_digits n c hc
  omega
theorem numC_nil : numC [] = none := numC_none fun n _ e => by obtain ⟨c, t, h1, _⟩ := dec_first n; rw [h1] at e; cases e
theorem numC_zero {d : LN} (hl : 2 ≤ d.length) (h : d[0].toNat = 48) : numC d = none := numC_none fun n _ e => by
  obtain ⟨c, t, h1, h2⟩ := dec_first n
  have hc : d[0] = c := by
    have : d[0]? = some c := by rw [e, h1]; rfl
    rw [List.getElem?_eq_getElem (by omega)] at this
    exact Option.some.inj this
  have hn := h2 (by rw [← hc]; exact h)
  rw [e, hn, Cd.Cod.dec_small (by omega)] at hl
  simp at hl
end Ls
set_option maxHeartbeats 8000000 in
set_option maxRecDepth 100000 in
theorem qnumber_any (s : ByteArray) (w : World) (hs : s.size ≤ 1000000) : Calls Tryz.prog 65 #[.string s, .int .i64 4] w (GotDc w (Ls.numC s.data.toList)) := by
  by_cases hs1 : s.size < 1
  · have a1 : decide ((s.size : Int) < (1 : Int)) = true := decide_eq_true (by omega)
    have a1n : decide (s.size < 1) = true := decide_eq_true hs1
    have a1z : decide ((s.size : Int) = 0) = true := decide_eq_true (by omega)
    have HN := Lib.hid (show Ls.numC s.data.toList = none by
      have : s.data.toList = [] := List.length_eq_zero_iff.1 (by rw [size_data]; omega)
      rw [this]; exact Ls.numC_nil)
    generalize Ls.numC s.data.toList = V at *
    go_enter Tryz.func65, Tryz.ntmps65
    go_wp2_with fail
    first | go_ret3 | go_ret2 | go_ret
    exact ⟨.inr ⟨HN.out, rfl⟩, Below.refl _ _⟩
  have a1 : decide ((s.size : Int) < (1 : Int)) = false := decide_eq_false (by omega)
  have a1n : decide (s.size < 1) = false := decide_eq_false hs1
  by_cases hs4 : 4 < s.size
  · have a2 : decide ((4 : Int) < (s.size : Int)) = true := decide_eq_true (by omega)
    have a2n : decide (4 < s.size) = true := decide_eq_true hs4
    have HN := Lib.hid (show Ls.numC s.data.toList = none from Ls.numC_long (by rw [size_data]; exact hs4))
    generalize Ls.numC s.data.toList = V at *
    go_enter Tryz.func65, Tryz.ntmps65
    go_wp2_with fail
    first | go_ret3 | go_ret2 | go_ret
    exact ⟨.inr ⟨HN.out, rfl⟩, Below.refl _ _⟩
  have a2 : decide ((4 : Int) < (s.size : Int)) = false := decide_eq_false (by omega)
  have a2n : decide (4 < s.size) = false := decide_eq_false hs4
  have hsl : ∀ i (h : i < s.size), s.data.toList[i]'(by rw [size_data]; exact h) = s[i] := fun i h => by
    have := get_d s i h
    rw [List.getElem?_eq_getElem (by rw [size_data]; exact h)] at this
    exact Option.some.inj this
  have HSL := Lib.hid hsl
  have p0 : (0 : Int) < (s.size : Int) := by omega
  have p0n : 0 < s.size := by omega
  by_cases hz : 1 < s.size ∧ ∀ h : 0 < s.size, s[0].toNat = 48
  · have hz0 := hz.2 p0n
    have a3 : decide ((1 : Int) < (s.size : Int)) = true := decide_eq_true (by omega)
    have a3n : decide (1 < s.size) = true := decide_eq_true hz.1
    have a4 : ((s[0].toNat : Int) == 48) = true := by rw [beq_iff_eq, hz0]; rfl
    have a4n : (s[0].toNat == 48) = true := by rw [beq_iff_eq, hz0]
    have HN := Lib.hid (show Ls.numC s.data.toList = none from Ls.numC_zero (by rw [size_data]; omega) (by rw [HSL.out 0 p0n]; exact hz0))
    generalize Ls.numC s.data.toList = V at *
    clear hz hz0 hsl
    go_enter Tryz.func65, Tryz.ntmps65
    go_wp2_with fail
    first | go_ret3 | go_ret2 | go_ret
    exact ⟨.inr ⟨HN.out, rfl⟩, Below.refl _ _⟩
  have H0 := Lib.hid (show 2 ≤ s.data.toList.length → ∀ (_ : 0 < s.data.toList.length), s.data.toList[0].toNat ≠ 48 from fun h1 h2 e => hz ⟨by rw [size_data] at h1; omega, fun h => by rw [← HSL.out 0 h]; exact e⟩)
  have hor : (decide ((1 : Int) < (s.size : Int)) = false ∧ decide (1 < s.size) = false) ∨ (decide ((1 : Int) < (s.size : Int)) = true ∧ decide (1 < s.size) = true ∧ ((s[0].toNat : Int) == 48) = false ∧ (s[0].toNat == 48) = false) := by
    by_cases h1 : 1 < s.size
    · have : s[0].toNat ≠ 48 := fun e => hz ⟨h1, fun _ => e⟩
      exact .inr ⟨decide_eq_true (by omega), decide_eq_true h1, by rw [beq_eq_false_iff_ne]; omega, by rw [beq_eq_false_iff_ne]; exact this⟩
    · exact .inl ⟨decide_eq_false (by omega), decide_eq_false h1⟩
  have HI := Lib.hid (show Ls.NumS s.data.toList 0 0 from .inl ⟨rfl, rfl⟩)
  clear hz hsl
  have h14 : 1 ≤ s.size ∧ s.size ≤ 4 := by omega
  rcases hor with ⟨a3, a3n⟩ | ⟨a3, a3n, a4, a4n⟩
  all_goals
    go_enter Tryz.func65, Tryz.ntmps65
    go_wp2_with fail
    go_loopw [6, 7] (fun s6 s7 wr => ∃ n i : Nat, s6 = .int .i64 n ∧ s7 = .int .i64 i ∧ i ≤ s.size ∧ Ls.NumS s.data.toList i n ∧ w = wr) (fun _ s7 _ => s.size - (intOf s7).toNat)
    case atStart => exact ⟨0, 0, rfl, rfl, by omega, HI.out, rfl⟩
    case round =>
      clear HI
      obtain ⟨n, i, rfl, rfl, hi, hS, rfl⟩ := hrel
      have hn := hS.bound (by omega)
      by_cases hlt : i < s.size
      · have c0 : decide ((i : Int) < (s.size : Int)) = true := decide_eq_true (by omega)
        have c0n : decide (i < s.size) = true := decide_eq_true hlt
        have c2 : (i : Int) < (s.size : Int) := by omega
        have hmem : s[i] ∈ s.data.toList := by rw [← HSL.out i hlt]; exact List.getElem_mem _
        have hst := hS.step (by rw [size_data]; exact hlt)
        rw [HSL.out i hlt] at hst
        have HST := Lib.hid hst
        have HMB := Lib.hid (fun h => Ls.numC_bad hmem h)
        have hu := s[i].toNat_lt
        clear hst hmem hS
        by_cases h48 : s[i].toNat < 48
        · have d1 : decide ((s[i].toNat : Int) < (48 : Int)) = true := decide_eq_true (by omega)
          have d1n : decide (s[i].toNat < 48) = true := decide_eq_true h48
          have HN := Lib.hid (HMB.out (.inl h48))
          clear h48 HMB HST
          go_wp2_with fail
          first | go_ret3 | go_ret2 | go_ret
          exact ⟨.inr ⟨HN.out, rfl⟩, Below.refl _ _⟩
        have d1 : decide ((s[i].toNat : Int) < (48 : Int)) = false := decide_eq_false (by omega)
        have d1n : decide (s[i].toNat < 48) = false := decide_eq_false h48
        by_cases h57 : 57 < s[i].toNat
        · have d2 : decide ((57 : Int) < (s[i].toNat : Int)) = true := decide_eq_true (by omega)
          have d2n : decide (57 < s[i].toNat) = true := decide_eq_true h57
          have HN := Lib.hid (HMB.out (.inr h57))
          clear h57 HMB HST
          go_wp2_with fail
          first | go_ret3 | go_ret2 | go_ret
          exact ⟨.inr ⟨HN.out, rfl⟩, Below.refl _ _⟩
        have d2 : decide ((57 : Int) < (s[i].toNat : Int)) = false := decide_eq_false (by omega)
        have d2n : decide (57 < s[i].toNat) = false := decide_eq_false h57
        have HG := Lib.hid (HST.out (by omega) (by omega) H0.out)
        clear HMB HST
        obtain ⟨g, hg⟩ : ∃ g : Nat, s[i].toNat = g + 48 := ⟨s[i].toNat - 48, by omega⟩
        have hg9 : g ≤ 9 := by omega
        have e1 : (s[i].toNat : Int) - 48 = (g : Int) := by omega
        have e2 : IntKind.u8.wrap ((s[i].toNat : Int) - 48) = (g : Int) := by rw [e1, IntKind.wrap_u8']; omega
        have e3 : IntKind.i64.wrap (g : Int) = (g : Int) := IntWalk.i64_in _ (by omega)
        have e4 : IntKind.i64.wrap (10 * (n : Int)) = 10 * (n : Int) := IntWalk.i64_in _ (by omega)
        have e5 : IntKind.i64.wrap (10 * (n : Int) + (g : Int)) = 10 * (n : Int) + (g : Int) := IntWalk.i64_in _ (by omega)
        have e6 : IntKind.u8.wrap (g : Int) = (g : Int) := by rw [IntKind.wrap_u8']; omega
        have HGN := Lib.hid (show Ls.NumS s.data.toList (i + 1) (10 * n + g) by have h := HG.out; rwa [hg, Nat.add_sub_cancel] at h)
        clear hg HG h48 h57
        go_wp2_with fail
        go_roundw
        case rel => exact ⟨10 * n + g, i + 1, by first | rfl | go_num | (congr 1), by go_num, by omega, HGN.out, by first | rfl | trivial⟩
        case measure => simp [intOf]; omega
      · have c0 : decide ((i : Int) < (s.size : Int)) = false := decide_eq_false (by omega)
        have c0n : decide (i < s.size) = false := decide_eq_false hlt
        have HN := Lib.hid (hS.done (by rw [size_data]; omega) (by rw [size_data]; omega) (by rw [size_data]; omega))
        clear hS
        go_wp2_with fail
        first | go_ret3 | go_ret2 | go_ret
        exact ⟨.inl ⟨n, HN.out, hn, rfl⟩, Below.refl _ _⟩
end Go.Proofs.YtlablbibdkcifaaGreatDoor
