/- The reference's reader: a number. No condition but the string's length. -/
import Derived.Test.YtmbgblfoadojnaaDoorQrd
namespace Go.Proofs.YtmbgblfoadojnaaDoor
open Go.RowKit

set_option maxHeartbeats 2000000 in
set_option maxRecDepth 100000 in
theorem qNumber_any (b : Nat) (low high : Int) (s : ByteArray) (err : Int) (w : World) (h : QdAt w b s err) (hs : s.size ≤ 1000000000) :
    Calls Tryd.prog 21 #[.pointer (some ⟨b, 0, none⟩), .int .i64 low, .int .i64 high] w fun x w' =>
      x = .returned (.int .i64 (Cod.number low high ⟨s.data.toList, err⟩).1) ∧ QdAt w' b (str (Cod.number low high ⟨s.data.toList, err⟩).2.rest) (Cod.number low high ⟨s.data.toList, err⟩).2.err ∧ w.grownBy w' (some b) := by
  have c0 := h.c0
  have c1 := h.c1
  have f0 := h.fr 0
  by_cases he : err = 0
  · subst he
    have HN := Lib.hid (show Cod.number low high ⟨s.data.toList, 0⟩ = (let p := Cod.digits 281474976710656 59 ⟨s.data.toList, 0⟩; if p.2.err = 0 ∧ ((p.1 : Int) < low ∨ high < (p.1 : Int)) then (0, ⟨[], 3⟩) else ((p.1 : Int), p.2)) from rfl)
    have hc : Calls Tryd.prog 42 #[.string s, .int .i64 281474976710656, .int .u8 59] w _ := count_any 281474976710656 59 s w hs (by omega)
    have hcases := cnt_cases 281474976710656 59 s
    generalize Cod.number low high ⟨s.data.toList, 0⟩ = D at *
    generalize cntV 281474976710656 59 s.data.toList = V at *
    generalize Cod.digits 281474976710656 59 ⟨s.data.toList, 0⟩ = p at *
    rcases hcases with ⟨n, i, rfl, hn, hi, rfl⟩ | ⟨rfl, rfl⟩ | ⟨rfl, rfl⟩
    · have i1 : decide ((i : Int) < 0) = false := by simp
      have i2 : IntKind.i64.wrap ((i : Int) + 1) = (i : Int) + 1 := IntWalk.i64_in _ (by omega)
      have i3 : (0 : Int) ≤ (i : Int) + 1 := by omega
      have i4 : (i : Int) + 1 ≤ (s.size : Int) := by omega
      have i5 : ((i : Int) + 1).toNat = i + 1 := by omega
      have hX := Lib.hid (ext_str s (i + 1))
      by_cases hA : (n : Int) < low
      · have q1 : decide ((n : Int) < low) = true := by simp; omega
        have HV := Lib.hid (show D = (0, ⟨[], 3⟩) by rw [HN.out]; simp only; rw [if_pos ⟨trivial, .inl hA⟩])
        clear hA i2 i3 i4 i5 hn hi
        go_enter Tryd.func21, Tryd.ntmps21
        go_wp2_with fail
        with_reducible refine hc.mono ?_
        clear hc
        rintro x w1 ⟨rfl, rfl⟩
        go_wp2_with fail
        refine (qfail_any b _ _ 3 _ h).mono ?_
        rintro x w2 ⟨rfl, h2, hg2⟩
        go_wp2_with fail
        go_ret
        exact ⟨by rw [HV.out]; rfl, by rw [HV.out]; exact h2, hg2⟩
      · have q1 : decide ((n : Int) < low) = false := by simp; omega
        by_cases hB : high < (n : Int)
        · have q2 : decide (high < (n : Int)) = true := by simp; omega
          have HV := Lib.hid (show D = (0, ⟨[], 3⟩) by rw [HN.out]; simp only; rw [if_pos ⟨trivial, .inr hB⟩])
          clear hA hB i2 i3 i4 i5 hn hi
          go_enter Tryd.func21, Tryd.ntmps21
          go_wp2_with fail
          with_reducible refine hc.mono ?_
          clear hc
          rintro x w1 ⟨rfl, rfl⟩
          go_wp2_with fail
          refine (qfail_any b _ _ 3 _ h).mono ?_
          rintro x w2 ⟨rfl, h2, hg2⟩
          go_wp2_with fail
          go_ret
          exact ⟨by rw [HV.out]; rfl, by rw [HV.out]; exact h2, hg2⟩
        · have q2 : decide (high < (n : Int)) = false := by simp; omega
          have HV := Lib.hid (show D = ((n : Int), ⟨s.data.toList.drop (i + 1), 0⟩) by rw [HN.out]; simp only; rw [if_neg (fun hh => hh.2.elim hA hB)])
          clear hA hB hn
          go_enter Tryd.func21, Tryd.ntmps21
          go_wp2_with fail
          with_reducible refine hc.mono ?_
          clear hc
          rintro x w1 ⟨rfl, rfl⟩
          go_wp2_with fail
          go_ret
          have hr := (h.set0 (s.extract (i + 1) s.size)).cast hX.out
          exact ⟨by rw [HV.out]; rfl, by rw [HV.out]; exact hr, grown_set _ _ _ _⟩
    · have HV := Lib.hid (show D = (0, ⟨[], 13⟩) by rw [HN.out]; simp only; rw [if_neg (fun hh => by cases hh.1)]; rfl)
      go_enter Tryd.func21, Tryd.ntmps21
      go_wp2_with fail
      with_reducible refine hc.mono ?_
      clear hc
      rintro x w1 ⟨rfl, rfl⟩
      go_wp2_with fail
      refine (qfail_any b _ _ 13 _ h).mono ?_
      rintro x w2 ⟨rfl, h2, hg2⟩
      go_wp2_with fail
      go_ret
      exact ⟨by rw [HV.out]; rfl, by rw [HV.out]; exact h2, hg2⟩
    · have HV := Lib.hid (show D = (0, ⟨[], 17⟩) by rw [HN.out]; simp only; rw [if_neg (fun hh => by cases hh.1)]; rfl)
      go_enter Tryd.func21, Tryd.ntmps21
      go_wp2_with fail
      with_reducible refine hc.mono ?_
      clear hc
      rintro x w1 ⟨rfl, rfl⟩
      go_wp2_with fail
      refine (qfail_any b _ _ 17 _ h).mono ?_
      rintro x w2 ⟨rfl, h2, hg2⟩
      go_wp2_with fail
      go_ret
      exact ⟨by rw [HV.out]; rfl, by rw [HV.out]; exact h2, hg2⟩
  · have hv := Lib.hid ((Cod.number_stops low high).1 ⟨s.data.toList, err⟩ he)
    have q0 : (err != 0) = true := by simpa using he
    clear he
    go_enter Tryd.func21, Tryd.ntmps21
    go_wp2_with fail
    go_ret
    exact ⟨by rw [hv.out]; rfl, by rw [hv.out]; exact h.cast (str_of s).symm, grown_refl _ _⟩
end Go.Proofs.YtmbgblfoadojnaaDoor
