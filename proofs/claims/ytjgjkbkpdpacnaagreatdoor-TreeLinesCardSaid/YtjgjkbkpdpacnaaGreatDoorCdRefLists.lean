/- The reference's numbers, texts and lists. No condition. -/
import Derived.Test.YtjgjkbkpdpacnaaGreatDoorCdRefDec
namespace Go.Proofs.YtjgjkbkpdpacnaaGreatDoor.Cd
open Go.RowKit

set_option maxHeartbeats 1000000 in
set_option maxRecDepth 100000 in
theorem refText_any (s : ByteArray) (w : World) :
    Calls Tryz.prog 108 #[.string s] w fun e w' => e = .returned (txtV s) ∧ Below w.heap.size w w' := by
  by_cases h : 65536 < s.size
  · have hv := Lib.hid (show txtV s = .tuple #[.string ⟨#[]⟩, .int .i64 10] from if_pos h)
    have d : decide ((65536 : Int) < s.size) = true := by simp; omega
    clear h
    go_enter Tryz.func108, Tryz.ntmps108
    go_wp2_with fail
    go_ret2
    exact ⟨by rw [hv.out]; rfl, Below.refl _ _⟩
  · have hv := Lib.hid (show txtV s = .tuple #[.string (str (Cod.txt s.data.toList)), .int .i64 0] from if_neg h)
    have d : decide ((65536 : Int) < s.size) = false := by simp; omega
    have hlen := dec_len s.size (by omega)
    rw [← str_size] at hlen
    have hle : s.size ≤ 65536 := by omega
    have HE := Lib.hid (txt_eq s)
    go_enter Tryz.func108, Tryz.ntmps108
    go_wp2_with fail
    refine (decimal_any s.size (by omega) _).mono ?_
    rintro e w1 ⟨rfl, hb⟩
    have hl1 : (str (Lib.decDigits s.size) ++ ⟨#[58]⟩).size ≤ 22 := by
      rw [show (⟨#[58]⟩ : ByteArray) = str [58] from rfl, str_app, str_size]; simp; rw [str_size] at hlen; omega
    have hl2 : (str (Lib.decDigits s.size) ++ ⟨#[58]⟩ ++ s).size ≤ 65558 := by simp at hl1 ⊢; omega
    go_wp2_with fail
    go_ret2
    exact ⟨by rw [hv.out, ← HE.out]; rfl, hb⟩

set_option maxHeartbeats 4000000 in
set_option maxRecDepth 100000 in
theorem refTexts_short (A : Option Addr) (c : Nat) (zs : List ByteArray) (hl : zs.length ≤ 1024) (w : World) (hA : CellsAt w w.heap.size A (strsOf zs)) :
    Calls Tryz.prog 87 #[.slice A zs.length c] w fun e w' => e = .returned (txtsV zs) ∧ Below w.heap.size w w' := by
  have d : decide ((1024 : Int) < zs.length) = false := by simp; omega
  have hlen0 := num_len zs.length (by omega)
  have hlend := dec_len zs.length (by omega)
  rw [← str_size] at hlend
  have HS0 := Lib.hid (show str (Lib.decDigits zs.length) ++ ⟨#[59]⟩ = str (Cod.num zs.length) from str_app _ [59])
  go_enter Tryz.func87, Tryz.ntmps87
  go_wp2_with fail
  refine (decimal_any zs.length (by omega) _).mono ?_
  rintro e w1 ⟨rfl, hb0⟩
  go_wp2_with fail
  rw [HS0.out]
  go_loopw [4, 18] (fun o v wr => ∃ (k : Nat) (l : List UInt8), k ≤ zs.length ∧ v = .int .i64 k ∧ o = .string (str l) ∧ l = Cod.num zs.length ++ (zs.take k).flatMap encS ∧ (zs.take k).all okS = true ∧ l.length ≤ 22 + 70000 * k ∧ Below w.heap.size w wr) (fun _ v _ => zs.length - (intOf v).toNat)
  case atStart => exact ⟨0, Cod.num zs.length, by omega, rfl, rfl, by simp, by simp, by omega, hb0⟩
  case round =>
    clear hb0
    obtain ⟨k, l, hk, rfl, rfl, hl1, hall, hfl, hb0⟩ := hrel
    have HALL := Lib.hid hall
    have HL1 := Lib.hid hl1
    clear hall hl1
    by_cases hlt : k < zs.length
    · obtain ⟨g, o, rfl, hg, hc0⟩ := hA k (by simp [strsOf]; exact hlt)
      have hc : wr.cell? ⟨g, o + k, none⟩ = some (Value.string zs[k]) := by
        have := (hb0.cell (p := ⟨g, o + k, none⟩) hg).trans hc0
        simpa [strsOf] using this
      have HSN := Lib.hid (all_snoc okS zs k hlt)
      have HFL := Lib.hid (flat_snoc encS zs k hlt)
      clear hc0
      cases hz : okS zs[k] with
      | true =>
        have hv := Lib.hid (txtV_ok zs[k] hz)
        have hle := encS_len zs[k] hz
        have hall2 : (zs.take (k + 1)).all okS = true := by rw [HSN.out, HALL.out, hz]; rfl
        have HALL2 := Lib.hid hall2
        have hl2 : l ++ encS zs[k] = Cod.num zs.length ++ (zs.take (k + 1)).flatMap encS := by rw [HL1.out, List.append_assoc, ← HFL.out]
        have HL2 := Lib.hid hl2
        have hsa : (str l).size ≤ 80000000 := by rw [str_size]; omega
        have hsb : (str (encS zs[k])).size ≤ 70000 := by rw [str_size]; exact hle
        have HAP := Lib.hid (str_app l (encS zs[k]))
        clear hz hall2 hl2
        go_wp2_with fail
        have hcall := refText_any zs[k] wr
        with_reducible refine hcall.mono ?_
        clear hcall
        rw [hv.out]
        rintro e w3 ⟨rfl, hb3⟩
        replace hb0 := hb0.trans (hb3.mono hb0.size)
        clear hb3
        go_wp2_with fail
        rw [HAP.out]
        go_roundw
        case rel => exact ⟨k + 1, l ++ encS zs[k], by omega, by go_num, rfl, HL2.out, HALL2.out, by rw [List.length_append]; omega, hb0⟩
        case measure => simp [intOf]; omega
      | false =>
        have hv := Lib.hid (txtV_bad zs[k] hz)
        have hbad : zs.all okS = false := by
          rw [List.all_eq_false]
          exact ⟨zs[k], List.getElem_mem hlt, by simp [hz]⟩
        have HV := Lib.hid (show txtsV zs = .tuple #[.string ⟨#[]⟩, .int .i64 10] by unfold txtsV; rw [if_neg (by omega), if_neg (by rw [hbad]; decide)])
        clear hz hbad
        go_wp2_with fail
        have hcall := refText_any zs[k] wr
        with_reducible refine hcall.mono ?_
        clear hcall
        rw [hv.out]
        rintro e w3 ⟨rfl, hb3⟩
        replace hb0 := hb0.trans (hb3.mono hb0.size)
        clear hb3
        go_wp2_with fail
        go_ret2
        exact ⟨by rw [HV.out]; rfl, hb0⟩
    · obtain ⟨n, hn⟩ : ∃ n, n = zs.length := ⟨_, rfl⟩
      have hkn : k = n := by omega
      have hall := HALL.out
      have hl1 := HL1.out
      rw [hkn, hn, List.take_length] at hall hl1
      have HV := Lib.hid (show txtsV zs = .tuple #[.string (str l), .int .i64 0] by unfold txtsV; rw [if_neg (by omega), if_pos hall, hl1])
      have b9 : decide ((k : Int) < (zs.length : Int)) = false := by simp; omega
      have b9n : decide (k < zs.length) = false := by simp; omega
      clear hall hl1 hn hkn hfl
      go_wp2_with fail
      go_ret2
      exact ⟨by rw [HV.out]; rfl, hb0⟩
set_option maxHeartbeats 1000000 in
set_option maxRecDepth 100000 in
theorem refTexts_any (A : Option Addr) (c : Nat) (zs : List ByteArray) (w : World) (hA : CellsAt w w.heap.size A (strsOf zs)) :
    Calls Tryz.prog 87 #[.slice A zs.length c] w fun e w' => e = .returned (txtsV zs) ∧ Below w.heap.size w w' := by
  by_cases h : 1024 < zs.length
  · have d : decide ((1024 : Int) < zs.length) = true := by simp; omega
    have HV := Lib.hid (show txtsV zs = .tuple #[.string ⟨#[]⟩, .int .i64 10] from if_pos h)
    clear h
    go_enter Tryz.func87, Tryz.ntmps87
    go_wp2_with fail
    go_ret2
    exact ⟨by rw [HV.out]; rfl, Below.refl _ _⟩
  · exact refTexts_short A c zs (by omega) w hA
end Go.Proofs.YtjgjkbkpdpacnaaGreatDoor.Cd
