/- The law TokenNumbers returns true. Condition: the library's error of ranges lies in its variable. -/
import Derived.Test.YtlbddfaebmcckaaDoorAwk
import Derived.Lib.ItoaLen
namespace Go.Proofs.YtlbddfaebmcckaaDoor
open Go.RowKit

theorem dec_len (n : Nat) (h : n ≤ 9223372036854775807) : (Lib.decDigits n).length ≤ 21 := by
  have := Lib.itoa_length_le (n : Int) (by omega) (by omega)
  rwa [Lib.itoa_nonneg] at this
theorem digit_text (m : Nat) : Utf8.encode (48 + (m : Int) % 10) = str [UInt8.ofNat (48 + m % 10)] := by
  have h : (m : Int) % 10 = ((m % 10 : Nat) : Int) := by omega
  rw [h]
  have hd : m % 10 < 10 := Nat.mod_lt _ (by decide)
  generalize m % 10 = d at *
  have : d = 0 ∨ d = 1 ∨ d = 2 ∨ d = 3 ∨ d = 4 ∨ d = 5 ∨ d = 6 ∨ d = 7 ∨ d = 8 ∨ d = 9 := by omega
  rcases this with rfl | rfl | rfl | rfl | rfl | rfl | rfl | rfl | rfl | rfl <;> decide +kernel
theorem repeat_blank (b : Nat) : (⟨(Lib.repeatL (⟨#[32]⟩ : ByteArray).data.toList b).toArray⟩ : ByteArray) = str (List.replicate b 32) := by
  have := Lib.repeatL_replicate 32 1 b
  rw [Nat.mul_one] at this
  show str (Lib.repeatL [32] b) = _
  rw [show ([32] : List UInt8) = List.replicate 1 32 from rfl, this]
set_option maxHeartbeats 4000000 in
set_option maxRecDepth 100000 in
theorem numbers_nat (n : Nat) (hn : n ≤ 4294967295) (b : Nat) (hbl : b ≤ 255) (w : World) (hE : Errs w) :
    Calls Tryd.prog 9 #[.int .u32 (n : Int), .int .u8 (b : Int)] w fun e w' => e = .returned (.bool true) ∧ Below w.heap.size w w' := by
  have hdl := dec_len n (by omega)
  go_enter Tryd.func9, Tryd.ntmps9
  go_wp2_with fail
  refine (awake_any w hE).mono ?_
  rintro e w1 ⟨rfl, hb⟩
  go_wp2_with fail
  go_loop [5, 6] (fun v i => ∃ (m : Nat) (d : List UInt8), m ≤ 4294967295 ∧ i = .int .u32 m ∧ v = .string (str d) ∧ Lib.decDigits n = Lib.decDigits m ++ d) (fun _ i => (intOf i).toNat)
  case atStart => exact ⟨n, [], hn, rfl, rfl, by simp⟩
  case round =>
    obtain ⟨m, d, hm, rfl, rfl, hd⟩ := hrel
    have hdd : d.length ≤ 21 := by rw [hd] at hdl; simp at hdl; omega
    have hds : (str d).size ≤ 21 := by rw [str_size]; exact hdd
    have hu := digit_text m
    have hus : (Utf8.encode (48 + (m : Int) % 10)).size ≤ 1 := by rw [hu, str_size]; simp
    by_cases h10 : m < 10
    · have b1 : decide ((m : Int) < 10) = true := by simp; omega
      have b1n : decide (m < 10) = true := by simp; omega
      have hS : Utf8.encode (48 + (m : Int) % 10) ++ str d = str (Lib.decDigits n) := by
        rw [hu, str_app, hd, Tok.dec_small h10, Nat.mod_eq_of_lt h10]
      have HS := Lib.hid hS
      clear hS hu hd hdd
      have hr := Tryd.strings_Repeat ⟨#[32]⟩ b w1 (by omega) (by show 1 * b ≤ _; omega)
      rw [repeat_blank] at hr
      have htok := fun w hE => tokens_any (str (List.replicate b 32 ++ Lib.decDigits n ++ [32])) w (by rw [str_size]; simp; omega) hE
      rw [str_data] at htok
      have hsc : Tok.tokens (List.replicate b 32 ++ Lib.decDigits n ++ [32]) = ([⟨2, Lib.decDigits n⟩], 0) := by
        unfold Tok.tokens
        rw [if_neg (by simp; omega)]
        exact Tok.scan_number n hn b
      rw [hsc] at htok
      have hnum := fun w hE => number_any (str (Lib.decDigits n)) w (by rw [str_size]; omega) hE
      rw [str_data] at hnum
      unfold numV at hnum
      rw [Tok.number_dec n hn] at hnum
      have hs1 : (str (List.replicate b 32)).size ≤ 255 := by rw [str_size]; simp; omega
      have hs2 : (str (Lib.decDigits n)).size ≤ 21 := by rw [str_size]; exact hdl
      have HJ := Lib.hid (show str (List.replicate b 32) ++ str (Lib.decDigits n) ++ ⟨#[32]⟩ = str (List.replicate b 32 ++ Lib.decDigits n ++ [32]) by
        rw [show (⟨#[32]⟩ : ByteArray) = str [32] from rfl, str_app, str_app])
      clear hsc
      generalize str (List.replicate b 32 ++ Lib.decDigits n ++ [32]) = L at *
      generalize str (List.replicate b 32) = R at *
      go_wp2_with fail
      with_reducible refine hr.mono ?_
      rintro e w2 ⟨rfl, hb2⟩
      rw [HS.out]
      generalize hDD : str (Lib.decDigits n) = DD at *
      have HDD := Lib.hid hDD
      clear hDD hr HS
      replace hb := hb.trans (hb2.mono hb.size)
      clear hb2
      have hs3 : (R ++ DD).size ≤ 276 := by simp; omega
      go_wp2_with fail
      rw [HJ.out]
      with_reducible refine (htok w2 (hE.below hb)).mono ?_
      rintro e w3 ⟨v, rfl, hown, hb2⟩
      replace hb := hb.trans (hb2.mono hb.size)
      clear hb2 htok
      obtain ⟨A, c, rfl, hA⟩ := owns_tks hown
      clear hown
      go_wp2_with fail
      with_reducible refine (hnum w3 (hE.below hb)).mono ?_
      rintro e w4 ⟨rfl, hb2⟩
      replace hA := hA.next hb2
      replace hb := hb.trans (hb2.mono hb.size)
      clear hb2 hnum
      obtain ⟨g, o, rfl, _, hc0, hc1⟩ := hA 0 (by simp)
      simp only [List.getElem_cons_zero, Nat.zero_mul, Nat.add_zero] at hc0 hc1
      rw [HDD.out] at hc1
      clear hA
      go_wp2_with fail
      go_ret
      exact ⟨rfl, hb⟩
    · have b1 : decide ((m : Int) < 10) = false := by simp; omega
      have b1n : decide (m < 10) = false := by simp; omega
      have hS : Utf8.encode (48 + (m : Int) % 10) ++ str d = str (UInt8.ofNat (48 + m % 10) :: d) := by
        rw [hu, str_app]; rfl
      have HS := Lib.hid hS
      have HD := Lib.hid (show Lib.decDigits n = Lib.decDigits (m / 10) ++ (UInt8.ofNat (48 + m % 10) :: d) by
        rw [hd, Tok.dec_big h10, List.append_assoc]; rfl)
      clear hS hu hd hdd
      go_wp2_with fail
      go_round
      case rel => exact ⟨m / 10, UInt8.ofNat (48 + m % 10) :: d, by omega, by go_num, by rw [HS.out], HD.out⟩
      case measure => simp [intOf]; omega
theorem numbers_law (n b : Int) (w : World) (hE : Errs w) (hn : (Lit.int .u32 n).wf = true) (hb : (Lit.int .u8 b).wf = true) :
    Calls Tryd.prog 9 #[.int .u32 n, .int .u8 b] w fun e w' => e = .returned (.bool true) ∧ Below w.heap.size w w' := by
  have h1 : 0 ≤ n ∧ n ≤ 4294967295 := by
    simp [Lit.wf] at hn
    have q1 : IntKind.u32.min = 0 := by rfl
    have q2 : IntKind.u32.max = 4294967295 := by rfl
    omega
  have h2 : 0 ≤ b ∧ b ≤ 255 := by
    simp [Lit.wf] at hb
    have q1 : IntKind.u8.min = 0 := by rfl
    have q2 : IntKind.u8.max = 255 := by rfl
    omega
  obtain ⟨n, rfl⟩ := Int.eq_ofNat_of_zero_le h1.1
  obtain ⟨b, rfl⟩ := Int.eq_ofNat_of_zero_le h2.1
  exact numbers_nat n (by omega) b (by omega) w hE
end Go.Proofs.YtlbddfaebmcckaaDoor
