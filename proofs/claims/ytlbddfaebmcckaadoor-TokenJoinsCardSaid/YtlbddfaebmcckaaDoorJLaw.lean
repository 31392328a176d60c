/- The law TokenJoins returns true. Condition: the library's error of ranges lies in its variable. -/
import Derived.Test.YtlbddfaebmcckaaDoorAwk
import Derived.Laws.AppendOwn
import Derived.Laws.AppendOwnNone
namespace Go.Proofs.YtlbddfaebmcckaaDoor
open Go.RowKit

section
variable {P : Program} {ops : Array Oper} {Q : Exit → Act → World → Prop} {a : Act} {w : World} {rest : List Oper} {o : Oper}
/-- A guarded operation that is wanted. -/
theorem wpList_wanted (hw : Region.wanted o (yielded ops a.tmps) = true) (h : ∀ K : Act → World → Prop, (∀ a w, wpList P ops Q rest a w → K a w) → o.wp P a w K Q) : wpList P ops Q (o :: rest) a w :=
  wpList_step fun K hK => by rw [if_pos hw]; exact h K hK
theorem wp_append_nothing {K : Act → World → Prop} (s x : Operand) (t : TypeId) (ho : o.op = .call { callee := .builtin .append, args := #[s, x], argTypes := #[t, t] })
    (base : Nat) (e : TypeId) (i : TypeInfo) (size : Nat) (ht : P.underlying t = some (.slice e)) (hi : P.info? e = some i)
    (v : Value) (n : Nat) (xs : List Value) (hs : a.eval s = v) (hown : w.ownsRow base e size v n xs) (hx : a.eval x = .slice none 0 0) (h : K (a.put o.dst v) w) : o.wp P a w K Q := by
  have hrun := run_append_owned_none (P := P) (w := w) base t o.type e i size ht hi v n xs hown
  unfold Oper.wp
  simp [execOp, ho, resolve, invoke, builtin, hs, hx, hrun, Result.andThen]
  exact h
end
/-- A list of tokens that a call has handed over: nothing, or a row of its own. -/
theorem owns_two {w : World} {B : Nat} {v : Value} {ts : List Tok.Tk} (h : w.ownsRow B 39 2 v ts.length (tksOf ts)) :
    (v = .slice none 0 0 ∧ ts = []) ∨ ∃ g c, v = .slice (some ⟨g, 0, none⟩) ts.length c ∧ g < w.heap.size ∧ ∀ j u, (tksOf ts)[j]? = some u → w.cell? ⟨g, 0 + j, none⟩ = some u := by
  rcases h.2 with ⟨rfl, h0⟩ | ⟨g, cap, cur, rfl, hb, hg, hn, hc, hs, ht⟩
  · exact .inl ⟨rfl, List.eq_nil_of_length_eq_zero h0⟩
  · refine .inr ⟨g, cap, rfl, (Array.getElem?_eq_some_iff.1 hg).1, fun j u hu => ?_⟩
    have hl : (tksOf ts).length = ts.length * 2 := h.1
    have hj : j < ts.length * 2 := by rw [← hl]; exact (List.getElem?_eq_some_iff.1 hu).1
    rw [Nat.zero_add, cell_of_row w g j cur 39 (0, 0) hg]
    have h1 := congrArg (fun x => x[j]?) ht
    simp only [List.getElem?_take, if_pos hj] at h1
    rw [← Array.getElem?_toList, h1, hu]
theorem at_add (w : World) (g j : Nat) : w.cell? ((⟨g, 0, none⟩ : Addr).add j) = w.cell? ⟨g, 0 + j, none⟩ := by rw [Go.WideShapes.add_plain]
theorem tksOf_len (ts : List Tok.Tk) : (tksOf ts).length = ts.length * 2 := by
  induction ts with
  | nil => rfl
  | cons t ts ih => simp [tksOf, tkOf] at ih ⊢; omega
theorem tksOf_nil : tksOf [] = [] := rfl
theorem tksOf_app (xs ys : List Tok.Tk) : tksOf (xs ++ ys) = tksOf xs ++ tksOf ys := by simp [tksOf]
theorem tksOf_one (ts : List Tok.Tk) : ∀ u ∈ tksOf ts, u.oneCell' = true := fun u hu => by
  simp only [tksOf, List.mem_flatMap, tkOf] at hu
  obtain ⟨t, _, ht⟩ := hu
  simp only [List.mem_cons, List.not_mem_nil, or_false] at ht
  rcases ht with rfl | rfl <;> rfl
theorem owns_slice {w : World} {B n size : Nat} {e : TypeId} {v : Value} {xs : List Value} (h : w.ownsRow B e size v n xs) : ∃ A c, v = .slice A n c := by
  rcases h.2 with ⟨rfl, rfl⟩ | ⟨g, cap, cur, rfl, _⟩
  · exact ⟨_, _, rfl⟩
  · exact ⟨_, _, rfl⟩
/-- What joining two rows gives. -/
theorem joins_plain (a b : List UInt8) (ha : a.length ≤ 500) (hb : b.length ≤ 500) (X Y Z : List Tok.Tk × Int) (hX : Tok.tokens a = X) (hY : Tok.tokens b = Y) (hZ : Tok.tokens (a ++ [32] ++ b) = Z) :
    X.1.length ≤ 256 ∧ Y.1.length ≤ 256 ∧ (Y.2 ≠ 0 → Y.1 = []) ∧
    ((X.2 ≠ 0 ∧ Z = ([], X.2)) ∨ (X.2 = 0 ∧ 256 < X.1.length + Y.1.length ∧ Z = ([], 10)) ∨ (X.2 = 0 ∧ X.1.length + Y.1.length ≤ 256 ∧ Y.2 ≠ 0 ∧ (Z = ([], 10) ∨ (Z = ([], Y.2)))) ∨
      (X.2 = 0 ∧ X.1.length + Y.1.length ≤ 256 ∧ Y.2 = 0 ∧ Z = (X.1 ++ Y.1, 0))) := by
  unfold Tok.tokens at hX hY hZ
  rw [if_neg (by omega)] at hX hY
  rw [if_neg (by simp; omega)] at hZ
  rw [show a ++ [32] ++ b = a ++ 32 :: b by simp, Tok.scan_join _ _ _ (Nat.le_refl _), hX] at hZ
  have l1 := Tok.scan_len 0 a (by omega)
  have l2 := Tok.scan_len 0 b (by omega)
  have b1 := Tok.scan_bad 0 a
  have b2 := Tok.scan_bad 0 b
  rw [hX] at l1 b1
  rw [hY] at l2 b2
  have e1 : X.1.length ≤ 256 := by
    by_cases h : X.2 = 0
    · have := l1 h; omega
    · rw [b1 h]; simp
  have e2 : Y.1.length ≤ 256 := by
    by_cases h : Y.2 = 0
    · have := l2 h; omega
    · rw [b2 h]; simp
  refine ⟨e1, e2, b2, ?_⟩
  by_cases h : X.2 = 0
  · rw [if_pos h] at hZ
    have hs := Tok.scan_shift _ b (Nat.le_refl _) 0 X.1.length (by omega)
    rw [hY] at hs
    by_cases hy : Y.2 = 0
    · by_cases hl : X.1.length + Y.1.length ≤ 256
      · rw [hs.1 hy (by omega)] at hZ
        right; right; right
        refine ⟨h, hl, hy, ?_⟩
        rw [← hZ]; unfold Tok.pre; rw [if_pos hy]
      · rw [hs.2.1 hy (by omega)] at hZ
        right; left
        exact ⟨h, by omega, by rw [← hZ]; simp [Tok.pre]⟩
    · have hy1 := b2 hy
      have hl : X.1.length + Y.1.length ≤ 256 := by rw [hy1]; simpa using e1
      right; right; left
      refine ⟨h, hl, hy, ?_⟩
      rcases hs.2.2 hy with h2 | h2
      · rw [h2] at hZ; right; rw [← hZ]; simp [Tok.pre, hy]
      · rw [h2] at hZ; left; rw [← hZ]; simp [Tok.pre]
  · rw [if_neg h] at hZ
    left; exact ⟨h, hZ.symm⟩
set_option maxHeartbeats 4000000 in
set_option maxRecDepth 100000 in
theorem joins_law (s t : ByteArray) (w : World) (hE : Errs w) :
    Calls Tryd.prog 8 #[.string s, .string t] w fun e w' => e = .returned (.bool true) ∧ Below w.heap.size w w' := by
  by_cases hs : s.size ≤ 500
  · by_cases ht : t.size ≤ 500
    · have c1 : decide ((500 : Int) < s.size) = false := by simp; omega
      have c2 : decide ((500 : Int) < t.size) = false := by simp; omega
      have hs1 : (s ++ ⟨#[32]⟩).size ≤ 501 := by simp [show (⟨#[32]⟩ : ByteArray).size = 1 from rfl]; omega
      have hJ : s ++ ⟨#[32]⟩ ++ t = str (s.data.toList ++ [32] ++ t.data.toList) := by
        conv => lhs; rw [← str_of s, ← str_of t, show (⟨#[32]⟩ : ByteArray) = str [32] from rfl, str_app, str_app]
      have h1 := fun w hE => tokens_any s w (by omega) hE
      have h2 := fun w hE => tokens_any t w (by omega) hE
      have h3 := fun w hE => tokens_any (s ++ ⟨#[32]⟩ ++ t) w (by rw [hJ, str_size]; simp; omega) hE
      rw [hJ, str_data] at h3
      rw [← hJ] at h3
      have hp := joins_plain s.data.toList t.data.toList hs ht _ _ _ rfl rfl rfl
      generalize Tok.tokens s.data.toList = X at *
      generalize Tok.tokens t.data.toList = Y at *
      generalize Tok.tokens (s.data.toList ++ [32] ++ t.data.toList) = Z at *
      obtain ⟨xs, xe⟩ := X
      obtain ⟨ys, ye⟩ := Y
      obtain ⟨zs, ze⟩ := Z
      simp only at hp
      obtain ⟨lx, ly, hy0, hp⟩ := hp
      have HJ := Lib.hid hJ
      clear hJ
      obtain ⟨i0, hi0, hz0, hz1, hz2⟩ := info_parts infoT
      rcases hp with ⟨hx, hz⟩ | ⟨hx, hl, hz⟩ | ⟨hx, hl, hy, hz⟩ | ⟨hx, hl, hy, hz⟩
      · obtain ⟨rfl, rfl⟩ := Prod.mk.inj hz
        have b1 : (ze != 0) = true := by rw [bne_iff_ne]; exact hx
        clear hx hy0 hz
        go_enter Tryd.func8, Tryd.ntmps8
        go_wp2_with fail
        refine (awake_any w hE).mono ?_
        rintro e w1 ⟨rfl, hb⟩
        go_wp2_with fail
        with_reducible refine (h1 w1 (hE.below hb)).mono ?_
        rintro e w2 ⟨v1, rfl, ho1, hb2⟩
        obtain ⟨A1, k1, rfl, hA1⟩ := owns_tks ho1
        replace hb := hb.trans (hb2.mono hb.size)
        clear hb2 h1 ho1
        go_wp2_with fail
        with_reducible refine (h2 w2 (hE.below hb)).mono ?_
        rintro e w3 ⟨v2, rfl, ho2, hb2⟩
        obtain ⟨A2, k2, rfl, hA2⟩ := owns_tks ho2
        replace hb := hb.trans (hb2.mono hb.size)
        replace hA1 := hA1.next hb2
        clear hb2 h2 ho2
        go_wp2_with fail
        with_reducible refine (h3 w3 (hE.below hb)).mono ?_
        rintro e w4 ⟨v3, rfl, ho3, hb2⟩
        obtain ⟨A3, k3, rfl, hA3⟩ := owns_tks ho3
        replace hb := hb.trans (hb2.mono hb.size)
        replace hA1 := hA1.next hb2
        replace hA2 := hA2.next hb2
        clear hb2 h3 ho3
        clear hA1 hA2 hA3
        go_wp2_with fail
        go_ret
        exact ⟨rfl, hb⟩
      · obtain ⟨rfl, rfl⟩ := Prod.mk.inj hz
        subst hx
        have b2 : decide ((256 : Int) < (xs.length : Int) + (ys.length : Int)) = true := by simp; omega
        have b2n : decide (256 < xs.length + ys.length) = true := by simp; omega
        clear hy0 hz
        go_enter Tryd.func8, Tryd.ntmps8
        go_wp2_with fail
        refine (awake_any w hE).mono ?_
        rintro e w1 ⟨rfl, hb⟩
        go_wp2_with fail
        with_reducible refine (h1 w1 (hE.below hb)).mono ?_
        rintro e w2 ⟨v1, rfl, ho1, hb2⟩
        obtain ⟨A1, k1, rfl, hA1⟩ := owns_tks ho1
        replace hb := hb.trans (hb2.mono hb.size)
        clear hb2 h1 ho1
        go_wp2_with fail
        with_reducible refine (h2 w2 (hE.below hb)).mono ?_
        rintro e w3 ⟨v2, rfl, ho2, hb2⟩
        obtain ⟨A2, k2, rfl, hA2⟩ := owns_tks ho2
        replace hb := hb.trans (hb2.mono hb.size)
        replace hA1 := hA1.next hb2
        clear hb2 h2 ho2
        go_wp2_with fail
        with_reducible refine (h3 w3 (hE.below hb)).mono ?_
        rintro e w4 ⟨v3, rfl, ho3, hb2⟩
        obtain ⟨A3, k3, rfl, hA3⟩ := owns_tks ho3
        replace hb := hb.trans (hb2.mono hb.size)
        replace hA1 := hA1.next hb2
        replace hA2 := hA2.next hb2
        clear hb2 h3 ho3
        clear hA1 hA2 hA3
        go_wp2_with fail
        go_ret
        exact ⟨rfl, hb⟩
      · subst hx
        have b1 : (ye != 0) = true := by rw [bne_iff_ne]; exact hy
        have b2 : decide ((256 : Int) < (xs.length : Int) + (ys.length : Int)) = false := by simp; omega
        have b2n : decide (256 < xs.length + ys.length) = false := by simp; omega
        rcases hz with hz | hz
        · obtain ⟨rfl, rfl⟩ := Prod.mk.inj hz
          clear hy hy0 hz
          go_enter Tryd.func8, Tryd.ntmps8
          go_wp2_with fail
          refine (awake_any w hE).mono ?_
          rintro e w1 ⟨rfl, hb⟩
          go_wp2_with fail
          with_reducible refine (h1 w1 (hE.below hb)).mono ?_
          rintro e w2 ⟨v1, rfl, ho1, hb2⟩
          obtain ⟨A1, k1, rfl, hA1⟩ := owns_tks ho1
          replace hb := hb.trans (hb2.mono hb.size)
          clear hb2 h1 ho1
          go_wp2_with fail
          with_reducible refine (h2 w2 (hE.below hb)).mono ?_
          rintro e w3 ⟨v2, rfl, ho2, hb2⟩
          obtain ⟨A2, k2, rfl, hA2⟩ := owns_tks ho2
          replace hb := hb.trans (hb2.mono hb.size)
          replace hA1 := hA1.next hb2
          clear hb2 h2 ho2
          go_wp2_with fail
          with_reducible refine (h3 w3 (hE.below hb)).mono ?_
          rintro e w4 ⟨v3, rfl, ho3, hb2⟩
          obtain ⟨A3, k3, rfl, hA3⟩ := owns_tks ho3
          replace hb := hb.trans (hb2.mono hb.size)
          replace hA1 := hA1.next hb2
          replace hA2 := hA2.next hb2
          clear hb2 h3 ho3
          clear hA1 hA2 hA3
          go_wp2_with fail
          go_ret
          exact ⟨rfl, hb⟩
        · obtain ⟨rfl, rfl⟩ := Prod.mk.inj hz
          clear hy hy0 hz
          by_cases h10 : ze = 10
          · subst h10
            go_enter Tryd.func8, Tryd.ntmps8
            go_wp2_with fail
            refine (awake_any w hE).mono ?_
            rintro e w1 ⟨rfl, hb⟩
            go_wp2_with fail
            with_reducible refine (h1 w1 (hE.below hb)).mono ?_
            rintro e w2 ⟨v1, rfl, ho1, hb2⟩
            obtain ⟨A1, k1, rfl, hA1⟩ := owns_tks ho1
            replace hb := hb.trans (hb2.mono hb.size)
            clear hb2 h1 ho1
            go_wp2_with fail
            with_reducible refine (h2 w2 (hE.below hb)).mono ?_
            rintro e w3 ⟨v2, rfl, ho2, hb2⟩
            obtain ⟨A2, k2, rfl, hA2⟩ := owns_tks ho2
            replace hb := hb.trans (hb2.mono hb.size)
            replace hA1 := hA1.next hb2
            clear hb2 h2 ho2
            go_wp2_with fail
            with_reducible refine (h3 w3 (hE.below hb)).mono ?_
            rintro e w4 ⟨v3, rfl, ho3, hb2⟩
            obtain ⟨A3, k3, rfl, hA3⟩ := owns_tks ho3
            replace hb := hb.trans (hb2.mono hb.size)
            replace hA1 := hA1.next hb2
            replace hA2 := hA2.next hb2
            clear hb2 h3 ho3
            clear hA1 hA2 hA3
            go_wp2_with fail
            go_ret
            exact ⟨rfl, hb⟩
          · have b3 : (ze == 10) = false := by rw [beq_eq_false_iff_ne]; exact h10
            clear h10
            go_enter Tryd.func8, Tryd.ntmps8
            go_wp2_with fail
            refine (awake_any w hE).mono ?_
            rintro e w1 ⟨rfl, hb⟩
            go_wp2_with fail
            with_reducible refine (h1 w1 (hE.below hb)).mono ?_
            rintro e w2 ⟨v1, rfl, ho1, hb2⟩
            obtain ⟨A1, k1, rfl, hA1⟩ := owns_tks ho1
            replace hb := hb.trans (hb2.mono hb.size)
            clear hb2 h1 ho1
            go_wp2_with fail
            with_reducible refine (h2 w2 (hE.below hb)).mono ?_
            rintro e w3 ⟨v2, rfl, ho2, hb2⟩
            obtain ⟨A2, k2, rfl, hA2⟩ := owns_tks ho2
            replace hb := hb.trans (hb2.mono hb.size)
            replace hA1 := hA1.next hb2
            clear hb2 h2 ho2
            go_wp2_with fail
            with_reducible refine (h3 w3 (hE.below hb)).mono ?_
            rintro e w4 ⟨v3, rfl, ho3, hb2⟩
            obtain ⟨A3, k3, rfl, hA3⟩ := owns_tks ho3
            replace hb := hb.trans (hb2.mono hb.size)
            replace hA1 := hA1.next hb2
            replace hA2 := hA2.next hb2
            clear hb2 h3 ho3
            clear hA1 hA2 hA3
            go_wp2_with fail
            go_ret
            exact ⟨rfl, hb⟩
      · subst hx
        subst hy
        have b2 : decide ((256 : Int) < (xs.length : Int) + (ys.length : Int)) = false := by simp; omega
        have b2n : decide (256 < xs.length + ys.length) = false := by simp; omega
        obtain ⟨hzz, rfl⟩ := Prod.mk.inj hz
        have HZZ := Lib.hid hzz
        have HZL := Lib.hid (show zs.length = xs.length + ys.length by rw [hzz, List.length_append])
        clear hy0 hz hzz
        go_enter Tryd.func8, Tryd.ntmps8
        go_wp2_with fail
        refine (awake_any w hE).mono ?_
        rintro e w1 ⟨rfl, hb⟩
        go_wp2_with fail
        with_reducible refine (h1 w1 (hE.below hb)).mono ?_
        rintro e w2 ⟨v1, rfl, ho1, hb2⟩
        replace hb := hb.trans (hb2.mono hb.size)
        clear hb2 h1
        rcases owns_two ho1 with ⟨rfl, hx0⟩ | ⟨g1, k1, rfl, hg1, hc1⟩
        · clear ho1
          go_wp2_with fail
          with_reducible refine (h2 w2 (hE.below hb)).mono ?_
          rintro e w3 ⟨v2, rfl, ho2, hb2⟩
          replace hb := hb.trans (hb2.mono hb.size)
          clear hb2 h2
          rcases owns_two ho2 with ⟨rfl, hy0⟩ | ⟨g2, k2, rfl, hg2, hc2⟩
          · clear ho2
            go_wp2_with fail
            with_reducible refine (h3 w3 (hE.below hb)).mono ?_
            rintro e w4 ⟨v3, rfl, ho3, hb2⟩
            obtain ⟨A3, k3, rfl, hA3⟩ := owns_tks ho3
            replace hb := hb.trans (hb2.mono hb.size)
            clear hb2 h3 ho3
            have hown0 : (w4.alloc (.cells #[] 39)).ownsRow w4.heap.size 39 2 (.slice (some ⟨w4.heap.size, 0, none⟩) 0 0) 0 [] := ⟨rfl, .inr ⟨w4.heap.size, 0, #[], rfl, Nat.le_refl _, heap_alloc_new w4 _, Nat.le_refl _, by decide, rfl, rfl⟩⟩
            have HB0 : Below w4.heap.size w4 (w4.alloc (.cells #[] 39)) := (Below.refl _ _).alloc (Nat.le_refl _) _
            go_wp2_with (first | (at_builtin; refine wpList_wanted (by rfl) fun K hK => wp_append_nothing (.tmp 87) (.tmp 88) 23 (by rfl) w4.heap.size 39 i0 2 Tryd.underlying23 hi0 _ _ _ (by rfl) hown0 (by rfl) (hK _ _ ?_)) | (at_builtin; refine wpList_wanted (by rfl) fun K hK => wp_append_nothing (.tmp 89) (.tmp 90) 23 (by rfl) w4.heap.size 39 i0 2 Tryd.underlying23 hi0 _ _ _ (by rfl) hown0 (by rfl) (hK _ _ ?_); have hownZ : (w4.alloc (.cells #[] 39)).ownsRow w4.heap.size 39 2 (.slice (some ⟨w4.heap.size, 0, none⟩) 0 0) zs.length (tksOf zs) := (by rw [HZZ.out]; simpa [tksOf_app, tksOf_nil, hx0, hy0] using hown0); obtain ⟨A6, c6, hv6, hA6⟩ := owns_tks hownZ; replace hA3 := hA3.next HB0; clear hownZ HZZ))
            have hcall := same_true A3 A6 k3 c6 zs (w4.alloc (.cells #[] 39)) hA3 hA6 (by have := HZL.out; omega)
            with_reducible refine hcall.mono ?_
            clear hcall hA3 hA6
            rintro e w7 ⟨rfl, hb7⟩
            replace hb := (hb.trans (HB0.mono hb.size)).trans (hb7.mono ((hb.trans (HB0.mono hb.size)).size))
            go_wp2_with fail
            go_ret
            exact ⟨rfl, hb⟩
          · clear ho2
            go_wp2_with fail
            with_reducible refine (h3 w3 (hE.below hb)).mono ?_
            rintro e w4 ⟨v3, rfl, ho3, hb2⟩
            obtain ⟨A3, k3, rfl, hA3⟩ := owns_tks ho3
            replace hb := hb.trans (hb2.mono hb.size)
            have he2 : ∀ j u, (tksOf ys)[j]? = some u → w4.cell? ⟨g2, 0 + j, none⟩ = some u := fun j u hu => (hb2.cell (p := ⟨g2, 0 + j, none⟩) hg2).trans (hc2 j u hu)
            replace hg2 := Nat.lt_of_lt_of_le hg2 hb2.size
            clear hc2
            clear hb2 h3 ho3
            have hown0 : (w4.alloc (.cells #[] 39)).ownsRow w4.heap.size 39 2 (.slice (some ⟨w4.heap.size, 0, none⟩) 0 0) 0 [] := ⟨rfl, .inr ⟨w4.heap.size, 0, #[], rfl, Nat.le_refl _, heap_alloc_new w4 _, Nat.le_refl _, by decide, rfl, rfl⟩⟩
            have HB0 : Below w4.heap.size w4 (w4.alloc (.cells #[] 39)) := (Below.refl _ _).alloc (Nat.le_refl _) _
            go_wp2_with (first | (at_builtin; refine wpList_wanted (by rfl) fun K hK => wp_append_nothing (.tmp 87) (.tmp 88) 23 (by rfl) w4.heap.size 39 i0 2 Tryd.underlying23 hi0 _ _ _ (by rfl) hown0 (by rfl) (hK _ _ ?_)) | (at_builtin; refine wpList_wanted (by rfl) fun K hK => wp_append_own _ (.tmp 89) (.tmp 90) 23 (by rfl) w4.heap.size 39 i0 _ 2 24 Tryd.underlying23 hi0 hz0 hz1 hz2 rfl (by omega) _ _ _ (by rfl) hown0 ⟨g2, 0, none⟩ ys.length k2 (tksOf ys) (by rfl) (tksOf_len _) (fun j u hu => (at_add _ g2 j).trans ((HB0.cell (p := ⟨g2, 0 + j, none⟩) hg2).trans (he2 j u hu))) (tksOf_one _) (by unfold maxLen; omega) (by omega) (by simp) ?_; intro v6 w6 hown6 hg6 _; refine hK _ _ ?_; have HB6 : Below w4.heap.size w4 w6 := HB0.grown hg6 HB0.size (fun q hq => (hown0.lt q hq).1); have hownZ : w6.ownsRow w4.heap.size 39 2 v6 zs.length (tksOf zs) := (by rw [HZZ.out]; simpa [tksOf_app, tksOf_nil, hx0] using hown6); obtain ⟨A6, c6, rfl, hA6⟩ := owns_tks hownZ; replace hA3 := hA3.next HB6; clear hownZ HZZ; clear hg6 hown6))
            have hcall := same_true A3 A6 k3 c6 zs w6 hA3 hA6 (by have := HZL.out; omega)
            with_reducible refine hcall.mono ?_
            clear hcall hA3 hA6
            rintro e w7 ⟨rfl, hb7⟩
            replace hb := (hb.trans (HB6.mono hb.size)).trans (hb7.mono ((hb.trans (HB6.mono hb.size)).size))
            go_wp2_with fail
            go_ret
            exact ⟨rfl, hb⟩
        · clear ho1
          go_wp2_with fail
          with_reducible refine (h2 w2 (hE.below hb)).mono ?_
          rintro e w3 ⟨v2, rfl, ho2, hb2⟩
          replace hb := hb.trans (hb2.mono hb.size)
          have hd1 : ∀ j u, (tksOf xs)[j]? = some u → w3.cell? ⟨g1, 0 + j, none⟩ = some u := fun j u hu => (hb2.cell (p := ⟨g1, 0 + j, none⟩) hg1).trans (hc1 j u hu)
          replace hg1 := Nat.lt_of_lt_of_le hg1 hb2.size
          clear hc1
          clear hb2 h2
          rcases owns_two ho2 with ⟨rfl, hy0⟩ | ⟨g2, k2, rfl, hg2, hc2⟩
          · clear ho2
            go_wp2_with fail
            with_reducible refine (h3 w3 (hE.below hb)).mono ?_
            rintro e w4 ⟨v3, rfl, ho3, hb2⟩
            obtain ⟨A3, k3, rfl, hA3⟩ := owns_tks ho3
            replace hb := hb.trans (hb2.mono hb.size)
            have he1 : ∀ j u, (tksOf xs)[j]? = some u → w4.cell? ⟨g1, 0 + j, none⟩ = some u := fun j u hu => (hb2.cell (p := ⟨g1, 0 + j, none⟩) hg1).trans (hd1 j u hu)
            replace hg1 := Nat.lt_of_lt_of_le hg1 hb2.size
            clear hd1
            clear hb2 h3 ho3
            have hown0 : (w4.alloc (.cells #[] 39)).ownsRow w4.heap.size 39 2 (.slice (some ⟨w4.heap.size, 0, none⟩) 0 0) 0 [] := ⟨rfl, .inr ⟨w4.heap.size, 0, #[], rfl, Nat.le_refl _, heap_alloc_new w4 _, Nat.le_refl _, by decide, rfl, rfl⟩⟩
            have HB0 : Below w4.heap.size w4 (w4.alloc (.cells #[] 39)) := (Below.refl _ _).alloc (Nat.le_refl _) _
            obtain rfl : xs = zs := by rw [HZZ.out, hy0, List.append_nil]
            go_wp2_with (first | (at_builtin; refine wpList_wanted (by rfl) fun K hK => wp_append_own _ (.tmp 87) (.tmp 88) 23 (by rfl) w4.heap.size 39 i0 _ 2 24 Tryd.underlying23 hi0 hz0 hz1 hz2 rfl (by omega) _ _ _ (by rfl) hown0 ⟨g1, 0, none⟩ xs.length k1 (tksOf xs) (by rfl) (tksOf_len _) (fun j u hu => (at_add _ g1 j).trans ((HB0.cell (p := ⟨g1, 0 + j, none⟩) hg1).trans (he1 j u hu))) (tksOf_one _) (by unfold maxLen; omega) (by omega) (by simp) ?_; intro v5 w5 hown5 hg5 _; rw [Nat.zero_add, List.nil_append] at hown5; refine hK _ _ ?_; obtain ⟨A5, c5, rfl, hA5⟩ := owns_tks hown5; have HB5 : Below w4.heap.size w4 w5 := HB0.grown hg5 (by simp) (fun q hq => (by simp [Value.ownBlock] at hq; omega)); clear hg5) | (at_builtin; refine wpList_wanted (by rfl) fun K hK => wp_append_nothing (.tmp 89) (.tmp 90) 23 (by rfl) w4.heap.size 39 i0 2 Tryd.underlying23 hi0 _ _ _ (by rfl) hown5 (by rfl) (hK _ _ ?_)))
            have hcall := same_true A3 A5 k3 c5 _ w5 (hA3.next HB5) hA5 (by omega)
            with_reducible refine hcall.mono ?_
            clear hcall hA3 hA5
            rintro e w7 ⟨rfl, hb7⟩
            replace hb := (hb.trans (HB5.mono hb.size)).trans (hb7.mono ((hb.trans (HB5.mono hb.size)).size))
            go_wp2_with fail
            go_ret
            exact ⟨rfl, hb⟩
          · clear ho2
            go_wp2_with fail
            with_reducible refine (h3 w3 (hE.below hb)).mono ?_
            rintro e w4 ⟨v3, rfl, ho3, hb2⟩
            obtain ⟨A3, k3, rfl, hA3⟩ := owns_tks ho3
            replace hb := hb.trans (hb2.mono hb.size)
            have he1 : ∀ j u, (tksOf xs)[j]? = some u → w4.cell? ⟨g1, 0 + j, none⟩ = some u := fun j u hu => (hb2.cell (p := ⟨g1, 0 + j, none⟩) hg1).trans (hd1 j u hu)
            replace hg1 := Nat.lt_of_lt_of_le hg1 hb2.size
            clear hd1
            have he2 : ∀ j u, (tksOf ys)[j]? = some u → w4.cell? ⟨g2, 0 + j, none⟩ = some u := fun j u hu => (hb2.cell (p := ⟨g2, 0 + j, none⟩) hg2).trans (hc2 j u hu)
            replace hg2 := Nat.lt_of_lt_of_le hg2 hb2.size
            clear hc2
            clear hb2 h3 ho3
            have hown0 : (w4.alloc (.cells #[] 39)).ownsRow w4.heap.size 39 2 (.slice (some ⟨w4.heap.size, 0, none⟩) 0 0) 0 [] := ⟨rfl, .inr ⟨w4.heap.size, 0, #[], rfl, Nat.le_refl _, heap_alloc_new w4 _, Nat.le_refl _, by decide, rfl, rfl⟩⟩
            have HB0 : Below w4.heap.size w4 (w4.alloc (.cells #[] 39)) := (Below.refl _ _).alloc (Nat.le_refl _) _
            go_wp2_with (first | (at_builtin; refine wpList_wanted (by rfl) fun K hK => wp_append_own _ (.tmp 87) (.tmp 88) 23 (by rfl) w4.heap.size 39 i0 _ 2 24 Tryd.underlying23 hi0 hz0 hz1 hz2 rfl (by omega) _ _ _ (by rfl) hown0 ⟨g1, 0, none⟩ xs.length k1 (tksOf xs) (by rfl) (tksOf_len _) (fun j u hu => (at_add _ g1 j).trans ((HB0.cell (p := ⟨g1, 0 + j, none⟩) hg1).trans (he1 j u hu))) (tksOf_one _) (by unfold maxLen; omega) (by omega) (by simp) ?_; intro v5 w5 hown5 hg5 _; rw [Nat.zero_add, List.nil_append] at hown5; refine hK _ _ ?_; obtain ⟨A5, c5, rfl⟩ := owns_slice hown5; have HB5 : Below w4.heap.size w4 w5 := HB0.grown hg5 (by simp) (fun q hq => (by simp [Value.ownBlock] at hq; omega)); clear hg5) | (at_builtin; refine wpList_wanted (by rfl) fun K hK => wp_append_own _ (.tmp 89) (.tmp 90) 23 (by rfl) w4.heap.size 39 i0 _ 2 24 Tryd.underlying23 hi0 hz0 hz1 hz2 rfl (by omega) _ _ _ (by rfl) hown5 ⟨g2, 0, none⟩ ys.length k2 (tksOf ys) (by rfl) (tksOf_len _) (fun j u hu => (at_add _ g2 j).trans ((HB5.cell (p := ⟨g2, 0 + j, none⟩) hg2).trans (he2 j u hu))) (tksOf_one _) (by unfold maxLen; omega) (by omega) (HB5.size) ?_; intro v6 w6 hown6 hg6 _; refine hK _ _ ?_; have HB6 : Below w4.heap.size w4 w6 := HB5.grown hg6 HB5.size (fun q hq => (hown5.lt q hq).1); have hownZ : w6.ownsRow w4.heap.size 39 2 v6 zs.length (tksOf zs) := (by rw [HZZ.out]; simpa [tksOf_app, tksOf_nil] using hown6); obtain ⟨A6, c6, rfl, hA6⟩ := owns_tks hownZ; replace hA3 := hA3.next HB6; clear hownZ HZZ; clear hg6 hown6))
            have hcall := same_true A3 A6 k3 c6 zs w6 hA3 hA6 (by have := HZL.out; omega)
            with_reducible refine hcall.mono ?_
            clear hcall hA3 hA6
            rintro e w7 ⟨rfl, hb7⟩
            replace hb := (hb.trans (HB6.mono hb.size)).trans (hb7.mono ((hb.trans (HB6.mono hb.size)).size))
            go_wp2_with fail
            go_ret
            exact ⟨rfl, hb⟩
    · have c1 : decide ((500 : Int) < s.size) = false := by simp; omega
      have c2 : decide ((500 : Int) < t.size) = true := by simp; omega
      go_enter Tryd.func8, Tryd.ntmps8
      go_wp2_with fail
      refine (awake_any w hE).mono ?_
      rintro e w1 ⟨rfl, hb⟩
      go_wp2_with fail
      go_ret
      exact ⟨rfl, hb⟩
  · have c1 : decide ((500 : Int) < s.size) = true := by simp; omega
    go_enter Tryd.func8, Tryd.ntmps8
    go_wp2_with fail
    refine (awake_any w hE).mono ?_
    rintro e w1 ⟨rfl, hb⟩
    go_wp2_with fail
    go_ret
    exact ⟨rfl, hb⟩
end Go.Proofs.YtlbddfaebmcckaaDoor
