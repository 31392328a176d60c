/- The reference's numbers, texts and lists. No condition. -/
import Derived.Test.YtmbgblfoadojnaaDoorRefDec
namespace Go.Proofs.YtmbgblfoadojnaaDoor
open Go.RowKit

set_option maxHeartbeats 1000000 in
set_option maxRecDepth 100000 in
theorem refNumber_any (n : Int) (w : World) :
    Calls Tryd.prog 12 #[.int .i64 n] w fun e w' => e = .returned (numV n) ∧ Below w.heap.size w w' := by
  by_cases h0 : n < 0
  · have hv := Lib.hid (show numV n = .tuple #[.string ⟨#[]⟩, .int .i64 3] from if_pos (.inl h0))
    go_enter Tryd.func12, Tryd.ntmps12
    go_wp2_with fail
    go_ret2
    exact ⟨by rw [hv.out]; rfl, Below.refl _ _⟩
  · by_cases h1 : 281474976710656 < n
    · have hv := Lib.hid (show numV n = .tuple #[.string ⟨#[]⟩, .int .i64 3] from if_pos (.inr h1))
      go_enter Tryd.func12, Tryd.ntmps12
      go_wp2_with fail
      go_ret2
      exact ⟨by rw [hv.out]; rfl, Below.refl _ _⟩
    · obtain ⟨m, rfl⟩ := Int.eq_ofNat_of_zero_le (show 0 ≤ n by omega)
      have hv := Lib.hid (show numV (m : Int) = .tuple #[.string (str (Cod.num m)), .int .i64 0] from if_neg (by omega))
      have hlen := dec_len m (by omega)
      rw [← str_size] at hlen
      have HS := Lib.hid (show str (Lib.decDigits m) ++ ⟨#[59]⟩ = str (Cod.num m) from str_app _ [59])
      go_enter Tryd.func12, Tryd.ntmps12
      go_wp2_with fail
      refine (decimal_any m (by omega) _).mono ?_
      rintro e w1 ⟨rfl, hb⟩
      go_wp2_with fail
      rw [HS.out]
      go_ret2
      exact ⟨by rw [hv.out]; rfl, hb⟩
set_option maxHeartbeats 1000000 in
set_option maxRecDepth 100000 in
theorem refText_any (s : ByteArray) (w : World) :
    Calls Tryd.prog 16 #[.string s] w fun e w' => e = .returned (txtV s) ∧ Below w.heap.size w w' := by
  by_cases h : 65536 < s.size
  · have hv := Lib.hid (show txtV s = .tuple #[.string ⟨#[]⟩, .int .i64 10] from if_pos h)
    have d : decide ((65536 : Int) < s.size) = true := by simp; omega
    clear h
    go_enter Tryd.func16, Tryd.ntmps16
    go_wp2_with fail
    go_ret2
    exact ⟨by rw [hv.out]; rfl, Below.refl _ _⟩
  · have hv := Lib.hid (show txtV s = .tuple #[.string (str (Cod.txt s.data.toList)), .int .i64 0] from if_neg h)
    have d : decide ((65536 : Int) < s.size) = false := by simp; omega
    have hlen := dec_len s.size (by omega)
    rw [← str_size] at hlen
    have hle : s.size ≤ 65536 := by omega
    have HE := Lib.hid (txt_eq s)
    go_enter Tryd.func16, Tryd.ntmps16
    go_wp2_with fail
    refine (decimal_any s.size (by omega) _).mono ?_
    rintro e w1 ⟨rfl, hb⟩
    have hl1 : (str (Lib.decDigits s.size) ++ ⟨#[58]⟩).size ≤ 22 := by
      rw [show (⟨#[58]⟩ : ByteArray) = str [58] from rfl, str_app, str_size]; simp; rw [str_size] at hlen; omega
    have hl2 : (str (Lib.decDigits s.size) ++ ⟨#[58]⟩ ++ s).size ≤ 65558 := by simp at hl1 ⊢; omega
    go_wp2_with fail
    go_ret2
    exact ⟨by rw [hv.out, ← HE.out]; rfl, hb⟩

set_option maxHeartbeats 4000000 in
set_option maxRecDepth 100000 in
theorem refNumbers_short (A : Option Addr) (c : Nat) (zs : List Int) (hl : zs.length ≤ 1024) (w : World) (hA : CellsAt w w.heap.size A (intsOf zs)) :
    Calls Tryd.prog 14 #[.slice A zs.length c] w fun e w' => e = .returned (numsV zs) ∧ Below w.heap.size w w' := by
  have d : decide ((1024 : Int) < zs.length) = false := by simp; omega
  have hlen0 := num_len zs.length (by omega)
  have hlend := dec_len zs.length (by omega)
  rw [← str_size] at hlend
  have HS0 := Lib.hid (show str (Lib.decDigits zs.length) ++ ⟨#[59]⟩ = str (Cod.num zs.length) from str_app _ [59])
  go_enter Tryd.func14, Tryd.ntmps14
  go_wp2_with fail
  refine (decimal_any zs.length (by omega) _).mono ?_
  rintro e w1 ⟨rfl, hb0⟩
  go_wp2_with fail
  rw [HS0.out]
  go_loopw [4, 18] (fun o v wr => ∃ (k : Nat) (l : List UInt8), k ≤ zs.length ∧ v = .int .i64 k ∧ o = .string (str l) ∧ l = Cod.num zs.length ++ (zs.take k).flatMap encN ∧ (zs.take k).all okN = true ∧ l.length ≤ 22 + 70000 * k ∧ Below w.heap.size w wr) (fun _ v _ => zs.length - (intOf v).toNat)
  case atStart => exact ⟨0, Cod.num zs.length, by omega, rfl, rfl, by simp, by simp, by omega, hb0⟩
  case round =>
    clear hb0
    obtain ⟨k, l, hk, rfl, rfl, hl1, hall, hfl, hb0⟩ := hrel
    have HALL := Lib.hid hall
    have HL1 := Lib.hid hl1
    clear hall hl1
    by_cases hlt : k < zs.length
    · obtain ⟨g, o, rfl, hg, hc0⟩ := hA k (by simp [intsOf]; exact hlt)
      have hc : wr.cell? ⟨g, o + k, none⟩ = some (Value.int .i64 zs[k]) := by
        have := (hb0.cell (p := ⟨g, o + k, none⟩) hg).trans hc0
        simpa [intsOf] using this
      have HSN := Lib.hid (all_snoc okN zs k hlt)
      have HFL := Lib.hid (flat_snoc encN zs k hlt)
      clear hc0
      cases hz : okN zs[k] with
      | true =>
        have hv := Lib.hid (numV_ok zs[k] hz)
        have hle := encN_len zs[k] hz
        have hall2 : (zs.take (k + 1)).all okN = true := by rw [HSN.out, HALL.out, hz]; rfl
        have HALL2 := Lib.hid hall2
        have hl2 : l ++ encN zs[k] = Cod.num zs.length ++ (zs.take (k + 1)).flatMap encN := by rw [HL1.out, List.append_assoc, ← HFL.out]
        have HL2 := Lib.hid hl2
        have hsa : (str l).size ≤ 80000000 := by rw [str_size]; omega
        have hsb : (str (encN zs[k])).size ≤ 70000 := by rw [str_size]; exact hle
        have HAP := Lib.hid (str_app l (encN zs[k]))
        clear hz hall2 hl2
        go_wp2_with fail
        have hcall := refNumber_any zs[k] wr
        with_reducible refine hcall.mono ?_
        clear hcall
        rw [hv.out]
        rintro e w3 ⟨rfl, hb3⟩
        replace hb0 := hb0.trans (hb3.mono hb0.size)
        clear hb3
        go_wp2_with fail
        rw [HAP.out]
        go_roundw
        case rel => exact ⟨k + 1, l ++ encN zs[k], by omega, by go_num, rfl, HL2.out, HALL2.out, by rw [List.length_append]; omega, hb0⟩
        case measure => simp [intOf]; omega
      | false =>
        have hv := Lib.hid (numV_bad zs[k] hz)
        have hbad : zs.all okN = false := by
          rw [List.all_eq_false]
          exact ⟨zs[k], List.getElem_mem hlt, by simp [hz]⟩
        have HV := Lib.hid (show numsV zs = .tuple #[.string ⟨#[]⟩, .int .i64 3] by unfold numsV; rw [if_neg (by omega), if_neg (by rw [hbad]; decide)])
        clear hz hbad
        go_wp2_with fail
        have hcall := refNumber_any zs[k] wr
        with_reducible refine hcall.mono ?_
        clear hcall
        rw [hv.out]
        rintro e w3 ⟨rfl, hb3⟩
        replace hb0 := hb0.trans (hb3.mono hb0.size)
        clear hb3
        go_wp2_with fail
        go_ret2
        exact ⟨by rw [HV.out]; rfl, hb0⟩
    · obtain ⟨n, hn⟩ : ∃ n, n = zs.length := ⟨_, rfl⟩
      have hkn : k = n := by omega
      have hall := HALL.out
      have hl1 := HL1.out
      rw [hkn, hn, List.take_length] at hall hl1
      have HV := Lib.hid (show numsV zs = .tuple #[.string (str l), .int .i64 0] by unfold numsV; rw [if_neg (by omega), if_pos hall, hl1])
      have b9 : decide ((k : Int) < (zs.length : Int)) = false := by simp; omega
      have b9n : decide (k < zs.length) = false := by simp; omega
      clear hall hl1 hn hkn hfl
      go_wp2_with fail
      go_ret2
      exact ⟨by rw [HV.out]; rfl, hb0⟩
set_option maxHeartbeats 1000000 in
set_option maxRecDepth 100000 in
theorem refNumbers_any (A : Option Addr) (c : Nat) (zs : List Int) (w : World) (hA : CellsAt w w.heap.size A (intsOf zs)) :
    Calls Tryd.prog 14 #[.slice A zs.length c] w fun e w' => e = .returned (numsV zs) ∧ Below w.heap.size w w' := by
  by_cases h : 1024 < zs.length
  · have d : decide ((1024 : Int) < zs.length) = true := by simp; omega
    have HV := Lib.hid (show numsV zs = .tuple #[.string ⟨#[]⟩, .int .i64 10] from if_pos h)
    clear h
    go_enter Tryd.func14, Tryd.ntmps14
    go_wp2_with fail
    go_ret2
    exact ⟨by rw [HV.out]; rfl, Below.refl _ _⟩
  · exact refNumbers_short A c zs (by omega) w hA

set_option maxHeartbeats 4000000 in
set_option maxRecDepth 100000 in
theorem refTexts_short (A : Option Addr) (c : Nat) (zs : List ByteArray) (hl : zs.length ≤ 1024) (w : World) (hA : CellsAt w w.heap.size A (strsOf zs)) :
    Calls Tryd.prog 18 #[.slice A zs.length c] w fun e w' => e = .returned (txtsV zs) ∧ Below w.heap.size w w' := by
  have d : decide ((1024 : Int) < zs.length) = false := by simp; omega
  have hlen0 := num_len zs.length (by omega)
  have hlend := dec_len zs.length (by omega)
  rw [← str_size] at hlend
  have HS0 := Lib.hid (show str (Lib.decDigits zs.length) ++ ⟨#[59]⟩ = str (Cod.num zs.length) from str_app _ [59])
  go_enter Tryd.func18, Tryd.ntmps18
  go_wp2_with fail
  refine (decimal_any zs.length (by omega) _).mono ?_
  rintro e w1 ⟨rfl, hb0⟩
  go_wp2_with fail
  rw [HS0.out]
  go_loopw [4, 18] (fun o v wr => ∃ (k : Nat) (l : List UInt8), k ≤ zs.length ∧ v = .int .i64 k ∧ o = .string (str l) ∧ l = Cod.num zs.length ++ (zs.take k).flatMap encS ∧ (zs.take k).all okS = true ∧ l.length ≤ 22 + 70000 * k ∧ Below w.heap.size w wr) (fun _ v _ => zs.length - (intOf v).toNat)
  case atStart => exact ⟨0, Cod.num zs.length, by omega, rfl, rfl, by simp, by simp, by omega, hb0⟩
  case round =>
    clear hb0
    obtain ⟨k, l, hk, rfl, rfl, hl1, hall, hfl, hb0⟩ := hrel
    have HALL := Lib.hid hall
    have HL1 := Lib.hid hl1
    clear hall hl1
    by_cases hlt : k < zs.length
    · obtain ⟨g, o, rfl, hg, hc0⟩ := hA k (by simp [strsOf]; exact hlt)
      have hc : wr.cell? ⟨g, o + k, none⟩ = some (Value.string zs[k]) := by
        have := (hb0.cell (p := ⟨g, o + k, none⟩) hg).trans hc0
        simpa [strsOf] using this
      have HSN := Lib.hid (all_snoc okS zs k hlt)
      have HFL := Lib.hid (flat_snoc encS zs k hlt)
      clear hc0
      cases hz : okS zs[k] with
      | true =>
        have hv := Lib.hid (txtV_ok zs[k] hz)
        have hle := encS_len zs[k] hz
        have hall2 : (zs.take (k + 1)).all okS = true := by rw [HSN.out, HALL.out, hz]; rfl
        have HALL2 := Lib.hid hall2
        have hl2 : l ++ encS zs[k] = Cod.num zs.length ++ (zs.take (k + 1)).flatMap encS := by rw [HL1.out, List.append_assoc, ← HFL.out]
        have HL2 := Lib.hid hl2
        have hsa : (str l).size ≤ 80000000 := by rw [str_size]; omega
        have hsb : (str (encS zs[k])).size ≤ 70000 := by rw [str_size]; exact hle
        have HAP := Lib.hid (str_app l (encS zs[k]))
        clear hz hall2 hl2
        go_wp2_with fail
        have hcall := refText_any zs[k] wr
        with_reducible refine hcall.mono ?_
        clear hcall
        rw [hv.out]
        rintro e w3 ⟨rfl, hb3⟩
        replace hb0 := hb0.trans (hb3.mono hb0.size)
        clear hb3
        go_wp2_with fail
        rw [HAP.out]
        go_roundw
        case rel => exact ⟨k + 1, l ++ encS zs[k], by omega, by go_num, rfl, HL2.out, HALL2.out, by rw [List.length_append]; omega, hb0⟩
        case measure => simp [intOf]; omega
      | false =>
        have hv := Lib.hid (txtV_bad zs[k] hz)
        have hbad : zs.all okS = false := by
          rw [List.all_eq_false]
          exact ⟨zs[k], List.getElem_mem hlt, by simp [hz]⟩
        have HV := Lib.hid (show txtsV zs = .tuple #[.string ⟨#[]⟩, .int .i64 10] by unfold txtsV; rw [if_neg (by omega), if_neg (by rw [hbad]; decide)])
        clear hz hbad
        go_wp2_with fail
        have hcall := refText_any zs[k] wr
        with_reducible refine hcall.mono ?_
        clear hcall
        rw [hv.out]
        rintro e w3 ⟨rfl, hb3⟩
        replace hb0 := hb0.trans (hb3.mono hb0.size)
        clear hb3
        go_wp2_with fail
        go_ret2
        exact ⟨by rw [HV.out]; rfl, hb0⟩
    · obtain ⟨n, hn⟩ : ∃ n, n = zs.length := ⟨_, rfl⟩
      have hkn : k = n := by omega
      have hall := HALL.out
      have hl1 := HL1.out
      rw [hkn, hn, List.take_length] at hall hl1
      have HV := Lib.hid (show txtsV zs = .tuple #[.string (str l), .int .i64 0] by unfold txtsV; rw [if_neg (by omega), if_pos hall, hl1])
      have b9 : decide ((k : Int) < (zs.length : Int)) = false := by simp; omega
      have b9n : decide (k < zs.length) = false := by simp; omega
      clear hall hl1 hn hkn hfl
      go_wp2_with fail
      go_ret2
      exact ⟨by rw [HV.out]; rfl, hb0⟩
set_option maxHeartbeats 1000000 in
set_option maxRecDepth 100000 in
theorem refTexts_any (A : Option Addr) (c : Nat) (zs : List ByteArray) (w : World) (hA : CellsAt w w.heap.size A (strsOf zs)) :
    Calls Tryd.prog 18 #[.slice A zs.length c] w fun e w' => e = .returned (txtsV zs) ∧ Below w.heap.size w w' := by
  by_cases h : 1024 < zs.length
  · have d : decide ((1024 : Int) < zs.length) = true := by simp; omega
    have HV := Lib.hid (show txtsV zs = .tuple #[.string ⟨#[]⟩, .int .i64 10] from if_pos h)
    clear h
    go_enter Tryd.func18, Tryd.ntmps18
    go_wp2_with fail
    go_ret2
    exact ⟨by rw [HV.out]; rfl, Below.refl _ _⟩
  · exact refTexts_short A c zs (by omega) w hA
end Go.Proofs.YtmbgblfoadojnaaDoor
