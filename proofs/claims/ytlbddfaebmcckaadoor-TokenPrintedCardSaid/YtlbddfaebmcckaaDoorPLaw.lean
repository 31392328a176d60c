/- The law TokenPrinted returns true. Condition: the library's error of ranges lies in its variable, and its variable MaxLen holds a number. -/
import Derived.Test.YtlbddfaebmcckaaDoorRLaw
import Derived.Lib.Replace
import Derived.Lib.IndexMore
import Derived.Lib.CountLaws
namespace Go.Proofs.YtlbddfaebmcckaaDoor
open Go.RowKit

theorem occ_blank (s : List UInt8) (i : Nat) : Lib.occAt s [32] i = ((s.drop i).head? == some 32) := by
  unfold Lib.occAt
  cases s.drop i with
  | nil => rfl
  | cons c r =>
    show ((32 == c) && List.isPrefixOf [] r) = (some c == some 32)
    rw [List.isPrefixOf_nil_left, Bool.and_true]
    by_cases h : c = 32
    · subst h; rfl
    · rw [show (32 == c) = false by rw [beq_eq_false_iff_ne]; exact fun e => h e.symm, eq_comm, beq_eq_false_iff_ne]
      exact fun e => h (Option.some.inj e)
theorem head_drop_get (s : List UInt8) (i : Nat) : (s.drop i).head? = s[i]? := by rw [List.head?_drop]
/-- Without its blanks. -/
def noBlank (s : List UInt8) : List UInt8 := s.filter (fun c => c != 32)
theorem noBlank_self (s : List UInt8) (h : ∀ c ∈ s, c ≠ 32) : noBlank s = s := by
  unfold noBlank; rw [List.filter_eq_self]; intro c hc; rw [bne_iff_ne]; exact h c hc
theorem replaceK_blank : ∀ (n : Nat) (s : List UInt8), s.length ≤ n → ∀ k, Lib.count s [32] ≤ k → Lib.replaceK [32] [] k s = noBlank s := by
  intro n
  induction n with
  | zero =>
    intro s hs k _
    obtain rfl := List.eq_nil_of_length_eq_zero (Nat.le_zero.1 hs)
    cases k <;> rfl
  | succ n ih =>
    intro s hs k hk
    rcases Lib.index_spec s [32] with ⟨h1, h2⟩ | ⟨i, h1, h2, h3, h4⟩
    · have hno : ∀ c ∈ s, c ≠ 32 := fun c hc e => by
        obtain ⟨j, hj, hjc⟩ := List.getElem_of_mem hc
        have := h2 j (by omega)
        rw [occ_blank, head_drop_get, List.getElem?_eq_getElem hj, hjc, e] at this
        simp at this
      rw [noBlank_self s hno]
      cases k with
      | zero => rfl
      | succ k => rw [Lib.replaceK, if_pos (by rw [h1]; rfl)]
    · have hc := Lib.count_hit (s := s) (sub := [32]) (by simp) h1
      obtain ⟨k, rfl⟩ : ∃ m, k = m + 1 := ⟨k - 1, by omega⟩
      rw [occ_blank, head_drop_get] at h3
      have hlt : i < s.length := by
        rcases Nat.lt_or_ge i s.length with h | h
        · exact h
        · rw [List.getElem?_eq_none h] at h3; simp at h3
      have hsi : s[i] = 32 := by rw [List.getElem?_eq_getElem hlt] at h3; simpa using h3
      have htk : ∀ c ∈ s.take i, c ≠ 32 := fun c hc e => by
        obtain ⟨j, hj, hjc⟩ := List.getElem_of_mem hc
        have hji : j < i := by rw [List.length_take] at hj; omega
        have := h4 j hji
        rw [occ_blank, head_drop_get, List.getElem?_eq_getElem (by omega)] at this
        rw [List.getElem_take] at hjc
        rw [hjc, e] at this
        simp at this
      rw [Lib.replaceK_hit _ _ _ _ i h1, ih _ (by simp; omega) k (by simp at hc ⊢; omega)]
      conv => rhs; rw [← List.take_append_drop i s, List.drop_eq_getElem_cons hlt, hsi]
      unfold noBlank
      rw [List.filter_append, show (s.take i).filter (fun c => c != 32) = s.take i from noBlank_self _ htk]
      simp
theorem replace_blank (s : List UInt8) : Lib.replaceAll s [32] [] = noBlank s := by
  unfold Lib.replaceAll Lib.replace
  rw [if_neg (by simp), replaceK_blank _ s (Nat.le_refl _)]
  unfold Lib.replaceNum
  rw [if_pos (by left; decide)]
  exact Nat.le_refl _
/-- What printing a line's tokens gives. -/
theorem printed_plain (l : List UInt8) (hl : l.length ≤ 2000) : (Tok.tokens l).2 ≠ 0 ∧ (Tok.tokens l).1 = [] ∨
    ((Tok.tokens l).2 = 0 ∧ (Tok.tokens l).1.length ≤ 256 ∧ (∀ k (h : k < (Tok.tokens l).1.length), (Tok.tokens l).1[k].text.length ≤ 3000) ∧
      ∃ s, Tok.printed (Tok.tokens l).1 = (s, 0) ∧ s.length ≤ 2300 ∧ Tok.tokens s = ((Tok.tokens l).1, 0) ∧ noBlank l = noBlank s) := by
  have ht : Tok.tokens l = Tok.scan 0 l := by unfold Tok.tokens; rw [if_neg (by omega)]
  rw [ht]
  by_cases h : (Tok.scan 0 l).2 = 0
  · right
    have h1 := Tok.scan_len 0 l (by omega) h
    obtain ⟨h2, h3⟩ := Tok.scan_all _ l (Nat.le_refl _) 0 h
    generalize (Tok.scan 0 l).1 = ts at *
    have h4 := Tok.flat_plain ts h2
    rw [h4] at h3
    have h5 : (ts.flatMap fun t => t.text).length ≤ l.length := by rw [← h3]; exact List.length_filter_le _ _
    have h6 := Tok.textOf_len ts
    have hlen : ∀ k (h : k < ts.length), ts[k].text.length ≤ 3000 := fun k hk => by
      have hm : ts[k] ∈ ts := List.getElem_mem hk
      have : ts[k].text.length ≤ (ts.flatMap fun t => t.text).length := (List.sublist_flatten_of_mem (List.mem_map.2 ⟨_, hm, rfl⟩) : List.Sublist ts[k].text (ts.map (fun t => t.text)).flatten).length_le
      omega
    refine ⟨h, by omega, hlen, Tok.textOf ts, ?_, by omega, ?_, ?_⟩
    · unfold Tok.printed; rw [if_neg (by omega), if_pos h2]
    · unfold Tok.tokens; rw [if_neg (by omega)]; exact Tok.scan_textOf ts 0 (by omega) h2
    · unfold noBlank; rw [h3, Tok.filter_textOf, h4]
  · left; exact ⟨h, Tok.scan_bad 0 l h⟩
/-- The library's variable holds a number. -/
def MaxAt (w : World) : Prop := ∃ m : Int, w.cell? ⟨2, 0, none⟩ = some (.int .i64 m)
theorem MaxAt.below {w w' : World} (h : MaxAt w) (hb : Below w.heap.size w w') : MaxAt w' := by
  obtain ⟨m, hc⟩ := h
  have hlt := World.block_lt_of_cell? w _ hc
  exact ⟨m, (hb.cell hlt).trans hc⟩
theorem replaceAll_any (s : ByteArray) (w : World) (hs : s.size ≤ 100000) (hm : MaxAt w) :
    Calls Tryd.prog 21 #[.string s, .string ⟨#[32]⟩, .string ⟨#[]⟩] w fun e w' => e = .returned (.string (str (noBlank s.data.toList))) ∧ Below w.heap.size w w' := by
  obtain ⟨m, hm⟩ := hm
  have h := Tryd.strings_ReplaceAll s ⟨#[32]⟩ ⟨#[]⟩ m w (by omega) hm (by decide) (by show s.size + _ * 0 ≤ _; omega)
  rw [show (⟨#[32]⟩ : ByteArray).data.toList = [32] from rfl, show (⟨#[]⟩ : ByteArray).data.toList = [] from rfl, replace_blank] at h
  exact h
set_option maxHeartbeats 4000000 in
set_option maxRecDepth 100000 in
theorem printed_law (s : ByteArray) (w : World) (hE : Errs w) (hM : MaxAt w) :
    Calls Tryd.prog 7 #[.string s] w fun e w' => e = .returned (.bool true) ∧ Below w.heap.size w w' := by
  by_cases hs : s.size ≤ 2000
  · have c1 : decide ((2000 : Int) < s.size) = false := by simp; omega
    have h1 := fun w hE => tokens_any s w (by omega) hE
    have hp := printed_plain s.data.toList hs
    have r1 := fun w hM => replaceAll_any s w (by omega) hM
    generalize Tok.tokens s.data.toList = R at *
    obtain ⟨ts, er⟩ := R
    simp only at hp
    rcases hp with ⟨he, rfl⟩ | ⟨he, hl, hlen, x, hx, hxl, hxt, hnb⟩
    · have b1 : (er != 0) = true := by rw [bne_iff_ne]; exact he
      clear he
      go_enter Tryd.func7, Tryd.ntmps7
      go_wp2_with fail
      refine (awake_any w hE).mono ?_
      rintro e w1 ⟨rfl, hb⟩
      go_wp2_with fail
      with_reducible refine (h1 w1 (hE.below hb)).mono ?_
      rintro e w2 ⟨v1, rfl, ho1, hb2⟩
      obtain ⟨A1, k1, rfl, _⟩ := owns_tks ho1
      replace hb := hb.trans (hb2.mono hb.size)
      clear hb2 h1 ho1
      go_wp2_with fail
      go_ret
      exact ⟨rfl, hb⟩
    · subst he
      have HL := Lib.hid hlen
      clear hlen
      have hprn := fun w A c hA => print_any A c ts w hA HL.out
      unfold prnV at hprn
      rw [hx] at hprn
      have h2 := fun w hE => tokens_any (str x) w (by rw [str_size]; omega) hE
      rw [str_data, hxt] at h2
      have r2 := fun w hM => replaceAll_any (str x) w (by rw [str_size]; omega) hM
      rw [str_data, ← hnb] at r2
      clear hx hxt hnb hxl
      generalize str x = X at *
      generalize str (noBlank s.data.toList) = Y at *
      go_enter Tryd.func7, Tryd.ntmps7
      go_wp2_with fail
      refine (awake_any w hE).mono ?_
      rintro e w1 ⟨rfl, hb⟩
      go_wp2_with fail
      with_reducible refine (h1 w1 (hE.below hb)).mono ?_
      rintro e w2 ⟨v1, rfl, ho1, hb2⟩
      obtain ⟨A1, k1, rfl, hA1⟩ := owns_tks ho1
      replace hb := hb.trans (hb2.mono hb.size)
      clear hb2 h1 ho1
      go_wp2_with fail
      with_reducible refine (hprn w2 A1 k1 hA1 (hE.below hb)).mono ?_
      rintro e w3 ⟨rfl, hb2⟩
      replace hA1 := hA1.next hb2
      replace hb := hb.trans (hb2.mono hb.size)
      clear hb2 hprn
      go_wp2_with fail
      with_reducible refine (h2 w3 (hE.below hb)).mono ?_
      rintro e w4 ⟨v2, rfl, ho2, hb2⟩
      obtain ⟨A2, k2, rfl, hA2⟩ := owns_tks ho2
      replace hA1 := hA1.next hb2
      replace hb := hb.trans (hb2.mono hb.size)
      clear hb2 h2 ho2
      go_wp2_with fail
      with_reducible refine (r1 w4 (hM.below hb)).mono ?_
      rintro e w5 ⟨rfl, hb2⟩
      replace hA1 := hA1.next hb2
      replace hA2 := hA2.next hb2
      replace hb := hb.trans (hb2.mono hb.size)
      clear hb2 r1
      go_wp2_with fail
      with_reducible refine (r2 w5 (hM.below hb)).mono ?_
      rintro e w6 ⟨rfl, hb2⟩
      replace hA1 := hA1.next hb2
      replace hA2 := hA2.next hb2
      replace hb := hb.trans (hb2.mono hb.size)
      clear hb2 r2
      go_wp2_with fail
      have hcall := same_true A1 A2 k1 k2 ts w6 hA1 hA2 (by omega)
      with_reducible refine hcall.mono ?_
      clear hcall hA1 hA2
      rintro e w7 ⟨rfl, hb2⟩
      replace hb := hb.trans (hb2.mono hb.size)
      clear hb2
      go_wp2_with fail
      go_ret
      exact ⟨rfl, hb⟩
  · have c1 : decide ((2000 : Int) < s.size) = true := by simp; omega
    go_enter Tryd.func7, Tryd.ntmps7
    go_wp2_with fail
    refine (awake_any w hE).mono ?_
    rintro e w1 ⟨rfl, hb⟩
    go_wp2_with fail
    go_ret
    exact ⟨rfl, hb⟩
end Go.Proofs.YtlbddfaebmcckaaDoor
