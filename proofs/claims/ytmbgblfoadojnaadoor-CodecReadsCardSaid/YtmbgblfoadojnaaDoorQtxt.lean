/- The reference's reader: a text. No condition but the string's length. -/
import Derived.Test.YtmbgblfoadojnaaDoorQnum
namespace Go.Proofs.YtmbgblfoadojnaaDoor
open Go.RowKit

set_option maxHeartbeats 2000000 in
set_option maxRecDepth 100000 in
theorem qText_any (b : Nat) (most : Int) (s : ByteArray) (err : Int) (w : World) (h : QdAt w b s err) (hs : s.size ≤ 1000000000) :
    Calls Tryd.prog 23 #[.pointer (some ⟨b, 0, none⟩), .int .i64 most] w fun x w' =>
      x = .returned (.string (str (Cod.text most ⟨s.data.toList, err⟩).1)) ∧ QdAt w' b (str (Cod.text most ⟨s.data.toList, err⟩).2.rest) (Cod.text most ⟨s.data.toList, err⟩).2.err ∧ w.grownBy w' (some b) := by
  have c0 := h.c0
  have c1 := h.c1
  have f0 := h.fr 0
  by_cases he : err = 0
  · subst he
    have HN := Lib.hid (show Cod.text most ⟨s.data.toList, 0⟩ = (let p := Cod.digits 65536 58 ⟨s.data.toList, 0⟩; if p.2.err = 0 then if p.2.rest.length ≤ p.1 then ([], ⟨[], 13⟩) else if p.2.rest.getD p.1 0 = 44 then if most < (p.1 : Int) then ([], ⟨[], 10⟩) else (p.2.rest.take p.1, ⟨p.2.rest.drop (p.1 + 1), 0⟩) else ([], ⟨[], 17⟩) else ([], p.2)) from rfl)
    have hc : Calls Tryd.prog 42 #[.string s, .int .i64 65536, .int .u8 58] w _ := count_any 65536 58 s w hs (by omega)
    have hcases := cnt_cases 65536 58 s
    generalize Cod.text most ⟨s.data.toList, 0⟩ = D at *
    generalize cntV 65536 58 s.data.toList = V at *
    generalize Cod.digits 65536 58 ⟨s.data.toList, 0⟩ = p at *
    rcases hcases with ⟨n, i, rfl, hnb, hi, rfl⟩ | ⟨rfl, rfl⟩ | ⟨rfl, rfl⟩
    · have i1 : decide ((i : Int) < 0) = false := by simp
      have i2 : IntKind.i64.wrap ((i : Int) + 1) = (i : Int) + 1 := IntWalk.i64_in _ (by omega)
      have i3 : (0 : Int) ≤ (i : Int) + 1 := by omega
      have i4 : (i : Int) + 1 ≤ (s.size : Int) := by omega
      have i5 : ((i : Int) + 1).toNat = i + 1 := by omega
      have hX := Lib.hid (ext_str s (i + 1))
      have hls : (s.data.toList.drop (i + 1)).length ≤ 1000000000 := by
        rw [List.length_drop]
        have : s.data.toList.length = s.size := rfl
        omega
      go_enter Tryd.func23, Tryd.ntmps23
      go_wp2_with fail
      with_reducible refine hc.mono ?_
      clear hc
      rintro x w1 ⟨rfl, rfl⟩
      go_upto_region 10 with (fail)
      rw [hX.out]
      have hN := HN.out
      simp only [if_pos] at hN
      clear i1 i2 i3 i4 i5 hX HN
      generalize s.data.toList.drop (i + 1) = l at *
      have hsz := str_size l
      by_cases ha : l.length ≤ n
      · have q1 : decide (((str l).size : Int) ≤ (n : Int)) = true := by simp; omega
        have q1n : decide ((str l).size ≤ n) = true := by simp; omega
        rw [if_pos ha] at hN
        have HV := Lib.hid hN
        clear hN hsz ha
        go_wp2_with fail
        refine (qfail_any b _ _ 13 _ h).mono ?_
        rintro x w2 ⟨rfl, h2, hg2⟩
        go_wp2_with fail
        go_ret
        exact ⟨by rw [HV.out]; rfl, by rw [HV.out]; exact h2, hg2⟩
      · have q1 : decide (((str l).size : Int) ≤ (n : Int)) = false := by simp; omega
        have q1n : decide ((str l).size ≤ n) = false := by simp; omega
        rw [if_neg ha] at hN
        have hn : n < (str l).size := by omega
        have hni : (n : Int) < ((str l).size : Int) := by omega
        have hg := str_get l n hn
        by_cases hcm : l.getD n 0 = 44
        · have q2 : (((str l)[n].toNat : Int) != 44) = false := by rw [hg, hcm]; rfl
          have q2n : ((str l)[n].toNat != 44) = false := by rw [hg, hcm]; rfl
          rw [if_pos hcm] at hN
          by_cases hm : most < (n : Int)
          · have q3 : decide (most < (n : Int)) = true := by simp; omega
            rw [if_pos hm] at hN
            have HV := Lib.hid hN
            clear hN hsz hg hcm
            go_wp2_with fail
            refine (qfail_any b _ _ 10 _ h).mono ?_
            rintro x w2 ⟨rfl, h2, hg2⟩
            go_wp2_with fail
            go_ret
            exact ⟨by rw [HV.out]; rfl, by rw [HV.out]; exact h2, hg2⟩
          · have q3 : decide (most < (n : Int)) = false := by simp; omega
            rw [if_neg hm] at hN
            have HV := Lib.hid hN
            have HT := Lib.hid (ext_take l n)
            have HDr := Lib.hid (ext_drop l (n + 1))
            have hsl : (str l).size ≤ 1000000000 := by omega
            clear hN hsz hg hcm
            go_wp2_with fail
            go_ret
            have hr := (h.set0 ((str l).extract (n + 1) (str l).size)).cast HDr.out
            exact ⟨by rw [HV.out, ← HT.out]; rfl, by rw [HV.out]; exact hr, grown_set _ _ _ _⟩
        · have hne : (l.getD n 0).toNat ≠ 44 := fun hh => hcm (UInt8.toNat_inj.1 hh)
          have q2 : (((str l)[n].toNat : Int) != 44) = true := by rw [hg, bne_iff_ne]; omega
          have q2n : ((str l)[n].toNat != 44) = true := by rw [hg, bne_iff_ne]; exact hne
          rw [if_neg hcm] at hN
          have HV := Lib.hid hN
          clear hN hsz hg hcm hne
          go_wp2_with fail
          refine (qfail_any b _ _ 17 _ h).mono ?_
          rintro x w2 ⟨rfl, h2, hg2⟩
          go_wp2_with fail
          go_ret
          exact ⟨by rw [HV.out]; rfl, by rw [HV.out]; exact h2, hg2⟩
    · have HV := Lib.hid (show D = ([], ⟨[], 13⟩) by rw [HN.out]; simp only; rw [if_neg (by decide)])
      go_enter Tryd.func23, Tryd.ntmps23
      go_wp2_with fail
      with_reducible refine hc.mono ?_
      clear hc
      rintro x w1 ⟨rfl, rfl⟩
      go_wp2_with fail
      refine (qfail_any b _ _ 13 _ h).mono ?_
      rintro x w2 ⟨rfl, h2, hg2⟩
      go_wp2_with fail
      go_ret
      exact ⟨by rw [HV.out]; rfl, by rw [HV.out]; exact h2, hg2⟩
    · have HV := Lib.hid (show D = ([], ⟨[], 17⟩) by rw [HN.out]; simp only; rw [if_neg (by decide)])
      go_enter Tryd.func23, Tryd.ntmps23
      go_wp2_with fail
      with_reducible refine hc.mono ?_
      clear hc
      rintro x w1 ⟨rfl, rfl⟩
      go_wp2_with fail
      refine (qfail_any b _ _ 17 _ h).mono ?_
      rintro x w2 ⟨rfl, h2, hg2⟩
      go_wp2_with fail
      go_ret
      exact ⟨by rw [HV.out]; rfl, by rw [HV.out]; exact h2, hg2⟩
  · have hv := Lib.hid ((Cod.text_stops most).1 ⟨s.data.toList, err⟩ he)
    have q0 : (err != 0) = true := by simpa using he
    clear he
    go_enter Tryd.func23, Tryd.ntmps23
    go_wp2_with fail
    go_ret
    exact ⟨by rw [hv.out]; rfl, by rw [hv.out]; exact h.cast (str_of s).symm, grown_refl _ _⟩
end Go.Proofs.YtmbgblfoadojnaaDoor
