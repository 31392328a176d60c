/- The law CodecCanonical returns true. Condition: the library's table of powers of ten lies in its variable. -/
import Derived.Test.YthkijcombpmfeaaDoorAll
namespace Go.Proofs.YthkijcombpmfeaaDoor
open Go.RowKit

theorem cut_front (s : ByteArray) (x r : List UInt8) (h : s.data.toList = x ++ r) : s.extract 0 x.length = str x := by
  rw [← str_of s, h, ext_take, List.take_left]
theorem size_parts (s : ByteArray) (x r : List UInt8) (h : s.data.toList = x ++ r) : s.size = x.length + r.length := by
  rw [← str_of s, h, str_size, List.length_append]

set_option maxHeartbeats 4000000 in
set_option maxRecDepth 100000 in
theorem canonical_law (s : ByteArray) (w : World) (hT : Tabs w) :
    Calls Tryd.prog 8 #[.string s] w fun e w' => e = .returned (.bool true) ∧ Below w.heap.size w w' := by
  by_cases h : 1000 < s.size
  · have d : decide ((1000 : Int) < s.size) = true := by simp; omega
    clear h
    go_enter Tryd.func8, Tryd.ntmps8
    go_wp2_with fail
    refine (awake_any w hT).mono ?_
    rintro e w1 ⟨rfl, hb1⟩
    go_wp2_with fail
    go_ret
    exact ⟨rfl, hb1⟩
  · have d : decide ((1000 : Int) < s.size) = false := by simp; omega
    have hss : s.size ≤ 1000 := by omega
    have hs : s.data.toList.length ≤ 1000 := hss
    obtain ⟨R1, e1⟩ : ∃ R, Cod.number 0 281474976710656 ⟨s.data.toList, 0⟩ = R := ⟨_, rfl⟩
    obtain ⟨R2, e2⟩ : ∃ R, Cod.text 65536 R1.2 = R := ⟨_, rfl⟩
    obtain ⟨R3, e3⟩ : ∃ R, Cod.list (Cod.number 0 281474976710656) R2.2 = R := ⟨_, rfl⟩
    obtain ⟨R4, e4⟩ : ∃ R, Cod.list (nextT 65536) R3.2 = R := ⟨_, rfl⟩
    have l1 : R1.2.rest.length ≤ 1000 := by rw [← e1]; exact Nat.le_trans (Cod.number_short _ _ _) hs
    have l2 : R2.2.rest.length ≤ 1000 := by rw [← e2]; exact Nat.le_trans (Cod.text_short _ _) l1
    have l3 : R3.2.rest.length ≤ 1000 := by rw [← e3]; exact Nat.le_trans (list_short _ (Cod.number_short _ _) _) l2
    have ALL := all_back s.data.toList R1 R2 R3 R4 e1 e2 e3 e4
    have E1 := Lib.hid e1
    have E2 := Lib.hid e2
    have E3 := Lib.hid e3
    have E4 := Lib.hid e4
    have hlaw : (∃ k : Nat, decide (R4.2.err = 0) = true ∧ allOk R1.1 (str R2.1) R3.1 R4.1 ∧ s.extract 0 k = str (encAll R1.1 (str R2.1) R3.1 R4.1) ∧ s.size = k + (str R4.2.rest).size) ∨ decide (R4.2.err = 0) = false := by
      by_cases h0 : R4.2.err = 0
      · obtain ⟨h1, h2⟩ := ALL h0
        exact .inl ⟨_, by simp [h0], h2, cut_front s _ _ h1, by rw [str_size]; exact size_parts s _ _ h1⟩
      · exact .inr (by simp [h0])
    clear ALL e1 e2 e3 e4 h
    go_enter Tryd.func8, Tryd.ntmps8
    go_wp2_with fail
    refine (awake_any w hT).mono ?_
    rintro e w1 ⟨rfl, hb1⟩
    go_wp2_with fail
    refine (newReader_any s w1).mono ?_
    rintro e w2 ⟨rfl, hr, hb2⟩
    obtain ⟨b, hb⟩ : ∃ b, b = w1.heap.size := ⟨_, rfl⟩
    rw [← hb] at hr
    rw [← hb]
    have hwb : w.heap.size ≤ b := by rw [hb]; exact hb1.size
    replace hb1 := hb1.trans (hb2.mono hb1.size)
    clear hb2 hb
    go_wp2_with fail
    have hcall := rdNumber_any b 0 281474976710656 s 0 w2 hr (by show s.data.toList.length ≤ _; omega)
    rw [E1.out] at hcall
    with_reducible refine hcall.mono ?_
    clear hcall
    rintro e w3 ⟨rfl, hr3, hg⟩
    replace hb1 := hb1.trans (below_grown hg hwb hb1.size)
    clear hg hr
    go_wp2_with fail
    have hcall := rdText_at b 65536 R1.2 w3 hr3 (by omega)
    rw [E2.out] at hcall
    with_reducible refine hcall.mono ?_
    clear hcall
    rintro e w4 ⟨rfl, hr4, hg⟩
    replace hb1 := hb1.trans (below_grown hg hwb hb1.size)
    clear hg hr3
    go_wp2_with fail
    have hcall := rdNumbers_at b 0 281474976710656 R2.2 w4 hr4 (by omega)
    rw [E3.out] at hcall
    with_reducible refine hcall.mono ?_
    clear hcall
    rintro e w5 hgot
    obtain ⟨v, rfl, hown, hr5, hg⟩ := hgot
    have hb4 : b < w4.heap.size := hr4.lt
    replace hb1 := hb1.trans (below_grown hg hwb hb1.size)
    clear hg hr4
    go_wp2_with fail
    have hcall := rdTexts_at b 65536 R3.2 w5 hr5 (by omega)
    rw [E4.out] at hcall
    with_reducible refine hcall.mono ?_
    clear hcall
    rintro e w6 hgot
    obtain ⟨v', rfl, hown', hr6, hg⟩ := hgot
    replace hown := owns_kept hown hg hb4
    replace hb1 := hb1.trans (below_grown hg hwb hb1.size)
    clear hg hr5 hb4
    obtain ⟨A, c, rfl, hA⟩ := owns_cells hown
    obtain ⟨A', c', rfl, hA'⟩ := owns_cells hown'
    clear hown hown'
    go_wp2_with fail
    have hr7 := hr6.alloc (.cells #[.int .i64 R1.1, .string (str R2.1), .slice A R3.1.length c, .slice A' R4.1.length c'] 51)
    have hb2 := hb1.alloc hb1.size (.cells #[.int .i64 R1.1, .string (str R2.1), .slice A R3.1.length c, .slice A' R4.1.length c'] 51)
    have hA7 : CellsAt _ _ A (intsOf R3.1) := hA.up ((Below.refl w6.heap.size w6).alloc (Nat.le_refl _) (.cells #[.int .i64 R1.1, .string (str R2.1), .slice A R3.1.length c, .slice A' R4.1.length c'] 51))
    have hA7' : CellsAt _ _ A' (strsOf R4.1) := hA'.up ((Below.refl w6.heap.size w6).alloc (Nat.le_refl _) (.cells #[.int .i64 R1.1, .string (str R2.1), .slice A R3.1.length c, .slice A' R4.1.length c'] 51))
    clear hr6 hb1 hA hA'
    refine (err_any b _ _ _ hr7).mono ?_
    rintro e w7 ⟨rfl, rfl⟩
    rcases hlaw with ⟨k, q0, hok, hcut, hsz⟩ | q0
    · have q1 : (R4.2.err != 0) = false := by simpa using q0
      go_wp2_with fail
      have hcall := write_ok R1.1 (str R2.1) A c R3.1 A' c' R4.1 _ (hT.below hb2) hA7 hA7' hok
      with_reducible refine hcall.mono ?_
      clear hcall
      rintro e w8 ⟨rfl, hb8⟩
      replace hr7 := hr7.below hb8
      replace hb2 := hb2.trans (hb8.mono hb2.size)
      clear hb8 hA7 hA7'
      go_wp2_with fail
      refine (left_any b _ _ _ hr7).mono ?_
      rintro e w9 ⟨rfl, rfl⟩
      generalize str R4.2.rest = rest at *
      have p1 : (0 : Int) ≤ (rest.size : Int) := by omega
      have p1d : decide ((0 : Int) ≤ (rest.size : Int)) = true := by simp
      have p2 : (rest.size : Int) ≤ (s.size : Int) := by omega
      have p2d : decide ((rest.size : Int) ≤ (s.size : Int)) = true := by simp; omega
      have p2n : decide (rest.size ≤ s.size) = true := by simp; omega
      have p3 : (s.size : Int) - (rest.size : Int) = (k : Int) := by omega
      have p4 : IntKind.i64.wrap (k : Int) = (k : Int) := IntWalk.i64_in _ (by omega)
      have p5 : (0 : Int) ≤ (k : Int) := by omega
      have p6 : (k : Int) ≤ (s.size : Int) := by omega
      have HC := Lib.hid hcut
      generalize str (encAll R1.1 (str R2.1) R3.1 R4.1) = out at *
      clear hcut hsz hs hss d
      go_wp2_with fail
      go_ret
      exact ⟨by rw [HC.out]; simp, hb2⟩
    · have q1 : (R4.2.err != 0) = true := by simpa using q0
      go_wp2_with fail
      go_ret
      exact ⟨rfl, hb2⟩
end Go.Proofs.YthkijcombpmfeaaDoor
