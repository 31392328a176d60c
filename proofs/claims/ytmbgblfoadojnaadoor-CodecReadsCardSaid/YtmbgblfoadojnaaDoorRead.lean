/- Number and Text of a reader. No condition but the string's length. -/
import Derived.Test.YtmbgblfoadojnaaDoorDig
namespace Go.Proofs.YtmbgblfoadojnaaDoor
open Go.RowKit

set_option maxHeartbeats 2000000 in
set_option maxRecDepth 100000 in
theorem rdNumber_any (b : Nat) (low high : Int) (s : ByteArray) (err : Int) (w : World) (h : RdAt w b s err) (hs : s.size ≤ 1000000000) :
    Calls Tryd.prog 20 #[.pointer (some ⟨b, 0, none⟩), .int .i64 low, .int .i64 high] w fun x w' =>
      x = .returned (.int .i64 (Cod.number low high ⟨s.data.toList, err⟩).1) ∧ RdAt w' b (str (Cod.number low high ⟨s.data.toList, err⟩).2.rest) (Cod.number low high ⟨s.data.toList, err⟩).2.err ∧ w.grownBy w' (some b) := by
  have hc : Calls Tryd.prog 40 #[.pointer (some ⟨b, 0, none⟩), .int .i64 281474976710656, .int .u8 59] w _ := digits_any b 281474976710656 59 s err w h hs (by omega)
  have HN := Lib.hid (show Cod.number low high ⟨s.data.toList, err⟩ = (let p := Cod.digits 281474976710656 59 ⟨s.data.toList, err⟩; if p.2.err = 0 ∧ ((p.1 : Int) < low ∨ high < (p.1 : Int)) then (0, ⟨[], 3⟩) else ((p.1 : Int), p.2)) from rfl)
  generalize Cod.number low high ⟨s.data.toList, err⟩ = D at *
  generalize Cod.digits 281474976710656 59 ⟨s.data.toList, err⟩ = p at *
  obtain ⟨n, ⟨l, e1⟩⟩ := p
  go_enter Tryd.func20, Tryd.ntmps20
  go_wp2_with fail
  refine hc.mono ?_
  clear hc
  rintro x w1 ⟨rfl, h1, hg1⟩
  have c1 := h1.c1
  have hN := HN.out
  by_cases he : e1 = 0
  · have q0 : (e1 == 0) = true := by rw [he]; rfl
    by_cases ha : (n : Int) < low
    · have q1 : decide ((n : Int) < low) = true := by simp; omega
      rw [if_pos ⟨he, .inl ha⟩] at hN
      have HV := Lib.hid hN
      clear hN he
      go_wp2_with fail
      refine (fail_any b _ e1 3 w1 h1).mono ?_
      rintro x w2 ⟨rfl, h2, hg2⟩
      go_wp2_with fail
      go_ret
      exact ⟨by rw [HV.out]; rfl, by rw [HV.out]; exact h2, grown_trans hg1 hg2⟩
    · have q1 : decide ((n : Int) < low) = false := by simp; omega
      by_cases hb : high < (n : Int)
      · have q2 : decide (high < (n : Int)) = true := by simp; omega
        rw [if_pos ⟨he, .inr hb⟩] at hN
        have HV := Lib.hid hN
        clear hN he
        go_wp2_with fail
        refine (fail_any b _ e1 3 w1 h1).mono ?_
        rintro x w2 ⟨rfl, h2, hg2⟩
        go_wp2_with fail
        go_ret
        exact ⟨by rw [HV.out]; rfl, by rw [HV.out]; exact h2, grown_trans hg1 hg2⟩
      · have q2 : decide (high < (n : Int)) = false := by simp; omega
        rw [if_neg (by omega)] at hN
        have HV := Lib.hid hN
        clear hN he
        go_wp2_with fail
        go_ret
        exact ⟨by rw [HV.out]; rfl, by rw [HV.out]; exact h1, hg1⟩
  · have q0 : (e1 == 0) = false := by rw [beq_eq_false_iff_ne]; exact he
    rw [if_neg (fun hh => he hh.1)] at hN
    have HV := Lib.hid hN
    clear hN he
    go_wp2_with fail
    go_ret
    exact ⟨by rw [HV.out]; rfl, by rw [HV.out]; exact h1, hg1⟩

set_option maxHeartbeats 1000000 in
theorem clone_any (s : ByteArray) (hs : s.size ≤ 1000000000) (w : World) :
    Calls Tryd.prog 44 #[.string s] w fun x w' => x = .returned (.string s) ∧ Below w.heap.size w w' := by
  go_enter Tryd.func44, Tryd.ntmps44
  go_wp2_with fail
  refine (Tryd.stringslite_Clone s _ (by omega)).mono ?_
  rintro x w1 ⟨rfl, hb⟩
  go_wp2_with fail
  go_ret
  exact ⟨rfl, hb⟩
theorem ext_take (l : List UInt8) (n : Nat) : (str l).extract 0 n = str (l.take n) := by
  rw [← str_of ((str l).extract 0 n)]
  congr 1
  rw [ByteArray.data_extract, Array.toList_extract]
  simp only [List.extract_eq_take_drop, List.drop_zero, Nat.sub_zero]
  rfl
theorem ext_drop (l : List UInt8) (n : Nat) : (str l).extract n (str l).size = str (l.drop n) := ext_str (str l) n
theorem str_get (l : List UInt8) (n : Nat) (h : n < (str l).size) : (str l)[n] = l.getD n 0 := by
  have hl : n < l.length := by rwa [str_size] at h
  rw [List.getD_eq_getElem?_getD, List.getElem?_eq_getElem hl]
  rfl
theorem RdAt.err {w : World} {b : Nat} {s : ByteArray} {e k : Int} (h : RdAt w b s e) (he : e = k) : RdAt w b s k := he ▸ h
theorem RdAt.below {w w' : World} {b : Nat} {s : ByteArray} {e : Int} (h : RdAt w b s e) (hb : Below w.heap.size w w') : RdAt w' b s e := (hb.block b h.lt).trans h

set_option maxHeartbeats 2000000 in
set_option maxRecDepth 100000 in
theorem rdText_any (b : Nat) (most : Int) (s : ByteArray) (err : Int) (w : World) (h : RdAt w b s err) (hs : s.size ≤ 1000000000) :
    Calls Tryd.prog 22 #[.pointer (some ⟨b, 0, none⟩), .int .i64 most] w fun x w' =>
      x = .returned (.string (str (Cod.text most ⟨s.data.toList, err⟩).1)) ∧ RdAt w' b (str (Cod.text most ⟨s.data.toList, err⟩).2.rest) (Cod.text most ⟨s.data.toList, err⟩).2.err ∧ w.grownBy w' (some b) := by
  have hc : Calls Tryd.prog 40 #[.pointer (some ⟨b, 0, none⟩), .int .i64 65536, .int .u8 58] w _ := digits_any b 65536 58 s err w h hs (by omega)
  have hlen := Cod.digits_short 65536 58 ⟨s.data.toList, err⟩
  have HN := Lib.hid (show Cod.text most ⟨s.data.toList, err⟩ = (let p := Cod.digits 65536 58 ⟨s.data.toList, err⟩; if p.2.err = 0 then if p.2.rest.length ≤ p.1 then ([], ⟨[], 13⟩) else if p.2.rest.getD p.1 0 = 44 then if most < (p.1 : Int) then ([], ⟨[], 10⟩) else (p.2.rest.take p.1, ⟨p.2.rest.drop (p.1 + 1), 0⟩) else ([], ⟨[], 17⟩) else ([], p.2)) from rfl)
  generalize Cod.text most ⟨s.data.toList, err⟩ = D at *
  generalize Cod.digits 65536 58 ⟨s.data.toList, err⟩ = p at *
  obtain ⟨n, ⟨l, e1⟩⟩ := p
  have hls : l.length ≤ 1000000000 := by have h1 : l.length ≤ s.data.toList.length := hlen; have h2 : s.data.toList.length = s.size := rfl; omega
  clear hlen
  go_enter Tryd.func22, Tryd.ntmps22
  go_wp2_with fail
  refine hc.mono ?_
  clear hc
  rintro x w1 ⟨rfl, h1, hg1⟩
  have c0 := h1.c0
  have c1 := h1.c1
  have f0 := h1.fr 0
  have hN := HN.out
  have hsz := str_size l
  by_cases he : e1 = 0
  · have q0 : (e1 != 0) = false := by rw [he]; rfl
    rw [if_pos he] at hN
    by_cases ha : l.length ≤ n
    · have q1 : decide (((str l).size : Int) ≤ (n : Int)) = true := by simp; omega
      have q1n : decide ((str l).size ≤ n) = true := by simp; omega
      rw [if_pos ha] at hN
      have HV := Lib.hid hN
      clear hN he hsz
      go_wp2_with fail
      refine (fail_any b _ e1 13 w1 h1).mono ?_
      rintro x w2 ⟨rfl, h2, hg2⟩
      go_wp2_with fail
      go_ret
      exact ⟨by rw [HV.out]; rfl, by rw [HV.out]; exact h2, grown_trans hg1 hg2⟩
    · have q1 : decide (((str l).size : Int) ≤ (n : Int)) = false := by simp; omega
      have q1n : decide ((str l).size ≤ n) = false := by simp; omega
      rw [if_neg ha] at hN
      have hn : n < (str l).size := by omega
      have hni : (n : Int) < ((str l).size : Int) := by omega
      have hg := str_get l n hn
      by_cases hcm : l.getD n 0 = 44
      · have q2 : (((str l)[n].toNat : Int) != 44) = false := by rw [hg, hcm]; rfl
        have q2n : ((str l)[n].toNat != 44) = false := by rw [hg, hcm]; rfl
        rw [if_pos hcm] at hN
        by_cases hm : most < (n : Int)
        · have q3 : decide (most < (n : Int)) = true := by simp; omega
          rw [if_pos hm] at hN
          have HV := Lib.hid hN
          clear hN he hsz hg hcm
          go_wp2_with fail
          refine (fail_any b _ e1 10 w1 h1).mono ?_
          rintro x w2 ⟨rfl, h2, hg2⟩
          go_wp2_with fail
          go_ret
          exact ⟨by rw [HV.out]; rfl, by rw [HV.out]; exact h2, grown_trans hg1 hg2⟩
        · have q3 : decide (most < (n : Int)) = false := by simp; omega
          rw [if_neg hm] at hN
          have HV := Lib.hid hN
          have HT := Lib.hid (ext_take l n)
          have HDr := Lib.hid (ext_drop l (n + 1))
          have hts : ((str l).extract 0 n).size ≤ 1000000000 := by rw [ext_take, str_size, List.length_take]; omega
          have hsl : (str l).size ≤ 1000000000 := by omega
          have HE := Lib.hid he
          clear hN hsz hg hcm
          go_wp2_with fail
          refine (clone_any _ hts w1).mono ?_
          rintro x w2 ⟨rfl, hb2⟩
          have h2 := h1.below hb2
          have d0 := h2.c0
          have g0 := h2.fr 0
          clear c0 c1 f0 h1
          go_wp2_with fail
          go_ret
          have hr := (h2.set0 ((str l).extract (n + 1) (str l).size)).cast HDr.out
          refine ⟨by rw [HV.out, HT.out]; rfl, by rw [HV.out]; exact hr.err HE.out, grown_trans hg1 (grown_trans (grown_below hb2 _) (grown_set _ _ _ _))⟩
      · have hne : (l.getD n 0).toNat ≠ 44 := fun hh => hcm (UInt8.toNat_inj.1 hh)
        have q2 : (((str l)[n].toNat : Int) != 44) = true := by rw [hg, bne_iff_ne]; omega
        have q2n : ((str l)[n].toNat != 44) = true := by rw [hg, bne_iff_ne]; exact hne
        rw [if_neg hcm] at hN
        have HV := Lib.hid hN
        clear hN he hsz hg hcm hne
        go_wp2_with fail
        refine (fail_any b _ e1 17 w1 h1).mono ?_
        rintro x w2 ⟨rfl, h2, hg2⟩
        go_wp2_with fail
        go_ret
        exact ⟨by rw [HV.out]; rfl, by rw [HV.out]; exact h2, grown_trans hg1 hg2⟩
  · have q0 : (e1 != 0) = true := by rw [bne_iff_ne]; exact he
    rw [if_neg he] at hN
    have HV := Lib.hid hN
    clear hN he hsz
    go_wp2_with fail
    go_ret
    exact ⟨by rw [HV.out]; rfl, by rw [HV.out]; exact h1, hg1⟩
end Go.Proofs.YtmbgblfoadojnaaDoor
