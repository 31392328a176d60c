/- The laws TokenWords, TokenLines and TokenTexts return true. Condition: the library's error of ranges lies in its variable. -/
import Derived.Test.YtlbddfaebmcckaaDoorRefT
import Derived.Test.YtlbddfaebmcckaaDoorRLaw
namespace Go.Proofs.YtlbddfaebmcckaaDoor
open Go.RowKit

set_option maxHeartbeats 4000000 in
set_option maxRecDepth 100000 in
theorem words_law (s : ByteArray) (w : World) (hE : Errs w) :
    Calls Tryd.prog 5 #[.string s] w fun e w' => e = .returned (.bool true) ∧ Below w.heap.size w w' := by
  by_cases hs : s.size ≤ 100
  · have c1 : decide ((100 : Int) < s.size) = false := by simp; omega
    have h1 := fun w hE => number_any s w (by omega) hE
    have h2 := fun w => qNumber_any s w (by omega)
    have h3 := fun w => name_any s w (by omega)
    have h4 := fun w => qName_any s w (by omega)
    unfold numV at h1 h2
    generalize Tok.number s.data.toList = N at *
    generalize idOk s.data.toList = b at *
    obtain ⟨n, e⟩ := N
    go_enter Tryd.func5, Tryd.ntmps5
    go_wp2_with fail
    refine (awake_any w hE).mono ?_
    rintro e w1 ⟨rfl, hb⟩
    go_wp2_with fail
    with_reducible refine (h1 w1 (hE.below hb)).mono ?_
    rintro e w2 ⟨rfl, hb2⟩
    replace hb := hb.trans (hb2.mono hb.size)
    clear hb2 h1
    go_wp2_with fail
    with_reducible refine (h2 w2).mono ?_
    rintro e w3 ⟨rfl, rfl⟩
    clear h2
    go_wp2_with fail
    with_reducible refine (h3 _).mono ?_
    rintro e w3 ⟨rfl, rfl⟩
    clear h3
    go_wp2_with fail
    with_reducible refine (h4 _).mono ?_
    rintro e w4 ⟨rfl, hb2⟩
    replace hb := hb.trans (hb2.mono hb.size)
    clear hb2 h4
    go_wp2_with fail
    go_ret
    exact ⟨rfl, hb⟩
  · have c1 : decide ((100 : Int) < s.size) = true := by simp; omega
    go_enter Tryd.func5, Tryd.ntmps5
    go_wp2_with fail
    refine (awake_any w hE).mono ?_
    rintro e w1 ⟨rfl, hb⟩
    go_wp2_with fail
    go_ret
    exact ⟨rfl, hb⟩
theorem tokens_len (l : List UInt8) : (Tok.tokens l).1.length ≤ 256 := by
  unfold Tok.tokens
  by_cases h : 65536 < l.length
  · rw [if_pos h]; simp
  · rw [if_neg h]
    by_cases h2 : (Tok.scan 0 l).2 = 0
    · have := Tok.scan_len 0 l (by omega) h2; omega
    · rw [Tok.scan_bad 0 l h2]; simp
set_option maxHeartbeats 4000000 in
set_option maxRecDepth 100000 in
theorem lines_law (s : ByteArray) (w : World) (hE : Errs w) :
    Calls Tryd.prog 3 #[.string s] w fun e w' => e = .returned (.bool true) ∧ Below w.heap.size w w' := by
  by_cases hs : s.size ≤ 2000
  · have c1 : decide ((2000 : Int) < s.size) = false := by simp; omega
    have h1 := fun w hE => tokens_any s w (by omega) hE
    have h2 := fun w => qTokens_any s w (by omega)
    have hl := tokens_len s.data.toList
    generalize Tok.tokens s.data.toList = R at *
    obtain ⟨ts, er⟩ := R
    simp only at hl
    go_enter Tryd.func3, Tryd.ntmps3
    go_wp2_with fail
    refine (awake_any w hE).mono ?_
    rintro e w1 ⟨rfl, hb⟩
    go_wp2_with fail
    with_reducible refine (h1 w1 (hE.below hb)).mono ?_
    rintro e w2 ⟨v1, rfl, ho1, hb2⟩
    obtain ⟨A1, k1, rfl, hA1⟩ := owns_tks ho1
    replace hb := hb.trans (hb2.mono hb.size)
    clear hb2 h1 ho1
    go_wp2_with fail
    with_reducible refine (h2 w2).mono ?_
    rintro e w3 ⟨v2, rfl, ho2, hb2⟩
    obtain ⟨A2, k2, rfl, hA2⟩ := owns_tks ho2
    replace hb := hb.trans (hb2.mono hb.size)
    replace hA1 := hA1.next hb2
    clear hb2 h2 ho2
    go_wp2_with fail
    have hcall := same_true A1 A2 k1 k2 ts w3 hA1 hA2 (by omega)
    with_reducible refine hcall.mono ?_
    clear hcall hA1 hA2
    rintro e w4 ⟨rfl, hb2⟩
    replace hb := hb.trans (hb2.mono hb.size)
    clear hb2
    go_wp2_with fail
    go_ret
    exact ⟨rfl, hb⟩
  · have c1 : decide ((2000 : Int) < s.size) = true := by simp; omega
    go_enter Tryd.func3, Tryd.ntmps3
    go_wp2_with fail
    refine (awake_any w hE).mono ?_
    rintro e w1 ⟨rfl, hb⟩
    go_wp2_with fail
    go_ret
    exact ⟨rfl, hb⟩
set_option maxHeartbeats 4000000 in
set_option maxRecDepth 100000 in
theorem texts_law (A : Option Addr) (c : Nat) (ts : List Tok.Tk) (w : World) (hE : Errs w) (hA : TksAt w w.heap.size A ts) (hl : ts.length ≤ 9223372036854775807) :
    Calls Tryd.prog 4 #[.slice A ts.length c] w fun e w' => e = .returned (.bool true) ∧ Below w.heap.size w w' := by
  cases hf : fewB ts
  · go_enter Tryd.func4, Tryd.ntmps4
    go_wp2_with fail
    refine (awake_any w hE).mono ?_
    rintro e w1 ⟨rfl, hb⟩
    go_wp2_with fail
    have hcall := few_any A c ts w1 (hA.next hb) hl
    rw [hf] at hcall
    with_reducible refine hcall.mono ?_
    clear hcall
    rintro e w2 ⟨rfl, hb2⟩
    go_wp2_with fail
    go_ret
    exact ⟨rfl, hb.trans (hb2.mono hb.size)⟩
  · obtain ⟨hlen, hl3, _⟩ := few_len ts hf
    have HL := Lib.hid hlen
    clear hlen
    have hp := fun w hA => print_any A c ts w hA HL.out
    have hq := fun w hA => qPrint_any A c ts w hA HL.out
    unfold prnV at hp hq
    generalize Tok.printed ts = P at *
    obtain ⟨s, e⟩ := P
    simp only at hp hq
    generalize str s = S at *
    go_enter Tryd.func4, Tryd.ntmps4
    go_wp2_with fail
    refine (awake_any w hE).mono ?_
    rintro e w1 ⟨rfl, hb⟩
    go_wp2_with fail
    have hcall := few_any A c ts w1 (hA.next hb) hl
    rw [hf] at hcall
    with_reducible refine hcall.mono ?_
    clear hcall
    rintro e w2 ⟨rfl, hb2⟩
    replace hb := hb.trans (hb2.mono hb.size)
    clear hb2 hf
    go_wp2_with fail
    with_reducible refine (hp w2 (hA.next hb) (hE.below hb)).mono ?_
    rintro e w3 ⟨rfl, hb2⟩
    replace hb := hb.trans (hb2.mono hb.size)
    clear hb2 hp
    go_wp2_with fail
    with_reducible refine (hq w3 (hA.next hb)).mono ?_
    rintro e w4 ⟨rfl, hb2⟩
    replace hb := hb.trans (hb2.mono hb.size)
    clear hb2 hq
    go_wp2_with fail
    go_ret
    exact ⟨rfl, hb⟩
end Go.Proofs.YtlbddfaebmcckaaDoor
