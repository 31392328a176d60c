/- The law TokenReturns returns true. Condition: the library's error of ranges lies in its variable. -/
import Derived.Test.YtlbddfaebmcckaaDoorAwk
namespace Go.Proofs.YtlbddfaebmcckaaDoor
open Go.RowKit

theorem few_len (ts : List Tok.Tk) (h : fewB ts = true) : (∀ k (h : k < ts.length), ts[k].text.length ≤ 3000) ∧ ts.length ≤ 300 ∧ (ts.flatMap fun t => t.text).length ≤ 50 * ts.length := by
  unfold fewB at h
  simp only [Bool.and_eq_true, decide_eq_true_eq] at h
  have h50 : ∀ t ∈ ts, t.text.length ≤ 50 := fun t ht => by simpa using List.all_eq_true.1 h.1 t ht
  refine ⟨fun k hk => by have := h50 ts[k] (List.getElem_mem hk); omega, h.2, ?_⟩
  clear h
  induction ts with
  | nil => simp
  | cons t ts ih =>
    have h1 := h50 t (by simp)
    have h2 := ih fun u hu => h50 u (by simp [hu])
    simp only [List.flatMap_cons, List.length_append, List.length_cons]
    omega
theorem returns_plain (ts : List Tok.Tk) (hf : fewB ts = true) : (Tok.printed ts).2 ≠ 0 ∧ (Tok.printed ts).1 = [] ∨ (Tok.printed ts).2 = 0 ∧ Tok.tokens (Tok.printed ts).1 = (ts, 0) ∧ (Tok.printed ts).1.length ≤ 65536 := by
  obtain ⟨_, h3, h4⟩ := few_len ts hf
  unfold Tok.printed
  by_cases hb : 256 < ts.length
  · rw [if_pos hb]; left; simp
  · rw [if_neg hb]
    by_cases hv : ts.all Tok.valid = true
    · rw [if_pos hv]
      right
      have h5 := Tok.textOf_len ts
      refine ⟨rfl, ?_, by show (Tok.textOf ts).length ≤ _; omega⟩
      unfold Tok.tokens
      rw [if_neg (by show ¬ 65536 < (Tok.textOf ts).length; omega)]
      exact Tok.scan_textOf ts 0 (by omega) hv
    · rw [if_neg hv]; left; simp
set_option maxHeartbeats 4000000 in
set_option maxRecDepth 100000 in
theorem returns_law (A : Option Addr) (c : Nat) (ts : List Tok.Tk) (w : World) (hE : Errs w) (hA : TksAt w w.heap.size A ts) (hl : ts.length ≤ 9223372036854775807) :
    Calls Tryd.prog 6 #[.slice A ts.length c] w fun e w' => e = .returned (.bool true) ∧ Below w.heap.size w w' := by
  cases hf : fewB ts
  · go_enter Tryd.func6, Tryd.ntmps6
    go_wp2_with fail
    refine (awake_any w hE).mono ?_
    rintro e w1 ⟨rfl, hb⟩
    go_wp2_with fail
    have hcall := few_any A c ts w1 (hA.next hb) hl
    rw [hf] at hcall
    with_reducible refine hcall.mono ?_
    clear hcall
    rintro e w2 ⟨rfl, hb2⟩
    go_wp2_with fail
    go_ret
    exact ⟨rfl, hb.trans (hb2.mono hb.size)⟩
  · have hp := returns_plain ts hf
    obtain ⟨hlen, hl3, _⟩ := few_len ts hf
    have HL := Lib.hid hlen
    clear hlen
    have hprn := fun w hA => print_any A c ts w hA HL.out
    unfold prnV at hprn
    generalize Tok.printed ts = P at *
    obtain ⟨s, e⟩ := P
    simp only at hprn hp
    rcases hp with ⟨he, hs⟩ | ⟨he, hs, hsl⟩
    · subst hs
      have q1 : (e != 0) = true := by rw [bne_iff_ne]; exact he
      simp only [show str [] = (⟨#[]⟩ : ByteArray) from rfl] at hprn
      clear he
      go_enter Tryd.func6, Tryd.ntmps6
      go_wp2_with fail
      refine (awake_any w hE).mono ?_
      rintro e w1 ⟨rfl, hb⟩
      go_wp2_with fail
      have hcall := few_any A c ts w1 (hA.next hb) hl
      rw [hf] at hcall
      with_reducible refine hcall.mono ?_
      clear hcall
      rintro e w2 ⟨rfl, hb2⟩
      replace hb := hb.trans (hb2.mono hb.size)
      clear hb2 hf
      go_wp2_with fail
      with_reducible refine (hprn w2 (hA.next hb) (hE.below hb)).mono ?_
      rintro e w3 ⟨rfl, hb2⟩
      replace hb := hb.trans (hb2.mono hb.size)
      clear hb2
      go_wp2_with fail
      go_ret
      exact ⟨rfl, hb⟩
    · subst he
      have hcl : s.length = (str s).size := (str_size s).symm
      have htok := fun w hE => tokens_any (str s) w (by omega) hE
      rw [str_data, hs] at htok
      generalize str s = S at *
      clear hs hcl hsl
      go_enter Tryd.func6, Tryd.ntmps6
      go_wp2_with fail
      refine (awake_any w hE).mono ?_
      rintro e w1 ⟨rfl, hb⟩
      go_wp2_with fail
      have hcall := few_any A c ts w1 (hA.next hb) hl
      rw [hf] at hcall
      with_reducible refine hcall.mono ?_
      clear hcall
      rintro e w2 ⟨rfl, hb2⟩
      replace hb := hb.trans (hb2.mono hb.size)
      clear hb2 hf
      go_wp2_with fail
      with_reducible refine (hprn w2 (hA.next hb) (hE.below hb)).mono ?_
      rintro e w3 ⟨rfl, hb2⟩
      replace hb := hb.trans (hb2.mono hb.size)
      clear hb2 hprn
      go_wp2_with fail
      with_reducible refine (htok w3 (hE.below hb)).mono ?_
      rintro e w4 ⟨v, rfl, hown, hb2⟩
      replace hb := hb.trans (hb2.mono hb.size)
      clear hb2 htok
      obtain ⟨A2, c2, rfl, hA2⟩ := owns_tks hown
      clear hown
      go_wp2_with fail
      have hcall := same_true A A2 c c2 ts w4 (hA.next hb) hA2 (by omega)
      with_reducible refine hcall.mono ?_
      clear hcall hA2
      rintro e w5 ⟨rfl, hb2⟩
      replace hb := hb.trans (hb2.mono hb.size)
      clear hb2
      go_wp2_with fail
      go_ret
      exact ⟨rfl, hb⟩
end Go.Proofs.YtlbddfaebmcckaaDoor
