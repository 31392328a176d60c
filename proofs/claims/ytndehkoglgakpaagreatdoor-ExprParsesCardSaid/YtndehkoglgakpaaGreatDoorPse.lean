/- Parse of the program. Condition: the library's error of ranges lies in its variable. -/
import Derived.Test.YtndehkoglgakpaaGreatDoorUny
import Derived.Deep.Onto
import Derived.Laws.EntriesVeiled
namespace Go.Proofs.YtndehkoglgakpaaGreatDoor
open Go.RowKit Go.Deep

/-- What a formula and an error are as a result. -/
def GotF (w : World) (R : List Ex.Op × Int) : Ending → World → Prop := fun x w' => ∃ v, x = .returned (.tuple #[v, .int .i64 R.2]) ∧ w'.ownsRow w.heap.size 42 3 v R.1.length (opsOf R.1) ∧ Below w.heap.size w w'
/-- A parser whose first levels are laid. -/
def parL (b : Nat) (tv : Value) (n j : Nat) : Value := if j = 0 then tv else if j = 1 then .int .i64 0 else if j = 2 then .int .i64 0 else if j = 3 then .slice none 0 0 else if 5 ≤ j ∧ j - 4 < n then levV b (j - 4) else .nilFunc
theorem parL_set (b : Nat) (tv : Value) (n k : Nat) (h1 : 1 ≤ n) : (if k = 4 + n then levV b n else parL b tv n k) = parL b tv (n + 1) k := by
  unfold parL
  by_cases h : k = 4 + n
  · subst h
    rw [if_pos rfl, if_neg (by omega), if_neg (by omega), if_neg (by omega), if_neg (by omega), if_pos (by omega), show 4 + n - 4 = n by omega]
  · rw [if_neg h]
    by_cases h5 : 5 ≤ k ∧ k - 4 < n
    · rw [if_pos h5, if_pos (show 5 ≤ k ∧ k - 4 < n + 1 by omega)]
    · rw [if_neg h5, if_neg (show ¬ (5 ≤ k ∧ k - 4 < n + 1) by omega)]
theorem parL_all (b : Nat) (tv : Value) (k : Nat) (hk : k < 16) : parL b tv 12 k = parV b .nilFunc tv (.slice none 0 0) 0 0 k := by
  unfold parL parV
  by_cases h : k ≤ 3
  · have : k = 0 ∨ k = 1 ∨ k = 2 ∨ k = 3 := by omega
    rcases this with rfl | rfl | rfl | rfl <;> rfl
  · have h0 : ¬ k = 0 := by omega
    have h1 : ¬ k = 1 := by omega
    have h2 : ¬ k = 2 := by omega
    have h3 : ¬ k = 3 := by omega
    simp only [h0, h1, h2, h3, if_false]
    by_cases h4 : k = 4
    · subst h4; rfl
    · rw [if_pos (by omega), if_neg h4]
theorem parL_nil (b : Nat) (tv : Value) (n : Nat) (h : 1 ≤ n) : parL b tv n (4 + n) = .nilFunc := by
  unfold parL
  rw [if_neg (by omega), if_neg (by omega), if_neg (by omega), if_neg (by omega), if_neg (by omega)]
theorem parse_def (l : List Tok.Tk) : Ex.parse l = if (Tok.printed l).2 ≠ 0 then ([], (Tok.printed l).2) else if (Ex.lev l (l.length * 12 + 12) 1 0 0 []).e ≠ 0 then ([], (Ex.lev l (l.length * 12 + 12) 1 0 0 []).e) else if (Ex.lev l (l.length * 12 + 12) 1 0 0 []).i < l.length then ([], 4) else ((Ex.lev l (l.length * 12 + 12) 1 0 0 []).out, 0) := rfl
set_option maxHeartbeats 4000000 in
set_option maxRecDepth 100000 in
theorem parse_any (A : Option Addr) (c : Nat) (l : List Tok.Tk) (w : World) (hA : TksAt w w.heap.size A l) (hl : l.length ≤ 1000000) (hlen : ∀ k (h : k < l.length), l[k].text.length ≤ 3000) (hE : Errs w) :
    Calls Tryz.prog 8 #[.slice A l.length c] w (GotF w (Ex.parse l)) := by
  have HV := Lib.hid (parse_def l)
  have hpr := print_any A c l w hA hlen hE
  unfold prnV at hpr
  generalize Ex.parse l = R at *
  have hcases : (Tok.printed l).2 ≠ 0 ∨ (Tok.printed l).2 = 0 := (Classical.em _).symm
  rcases hcases with h0 | h0
  · have q1 : ((Tok.printed l).2 != 0) = true := by rw [bne_iff_ne]; exact h0
    have HR := Lib.hid (HV.out.trans (if_pos h0))
    generalize (Tok.printed l).1 = t at *
    generalize (Tok.printed l).2 = e at *
    clear HV h0
    go_enter Tryz.func8, Tryz.ntmps8
    go_wp2_with fail
    with_reducible refine hpr.mono ?_
    clear hpr
    rintro x w1 ⟨rfl, hb1⟩
    go_wp2_with fail
    go_ret2
    rw [HR.out]
    exact ⟨_, rfl, World.ownsRow_nil _ _ _ _, hb1⟩
  · rw [h0] at hpr
    have HV1 := Lib.hid (HV.out.trans (if_neg (fun h => h h0)))
    generalize (Tok.printed l).1 = t at *
    clear HV h0
    go_enter Tryz.func8, Tryz.ntmps8
    go_wp2_with fail
    with_reducible refine hpr.mono ?_
    clear hpr
    rintro x w1 ⟨rfl, hb1⟩
    have hT1 := hA.below hb1 (Nat.le_refl _)
    have hE1 := hE.below hb1
    have hb2 : Below w.heap.size w (w1.alloc (.cells #[.slice A l.length c, .int .i64 0, .int .i64 0, .slice none 0 0, .nilFunc, .nilFunc, .nilFunc, .nilFunc, .nilFunc, .nilFunc, .nilFunc, .nilFunc, .nilFunc, .nilFunc, .nilFunc, .nilFunc] 52)) := hb1.alloc hb1.size _
    have hR1 : (w1.alloc (.cells #[.slice A l.length c, .int .i64 0, .int .i64 0, .slice none 0 0, .nilFunc, .nilFunc, .nilFunc, .nilFunc, .nilFunc, .nilFunc, .nilFunc, .nilFunc, .nilFunc, .nilFunc, .nilFunc, .nilFunc] 52)).rowIs w1.heap.size 52 16 (parL w1.heap.size (.slice A l.length c) 1) := by
      refine World.rowIs_alloc w1 _ _ _ fun k hk => ?_
      have hk : k < 16 := hk
      have : k = 0 ∨ k = 1 ∨ k = 2 ∨ k = 3 ∨ k = 4 ∨ k = 5 ∨ k = 6 ∨ k = 7 ∨ k = 8 ∨ k = 9 ∨ k = 10 ∨ k = 11 ∨ k = 12 ∨ k = 13 ∨ k = 14 ∨ k = 15 := by omega
      rcases this with rfl | rfl | rfl | rfl | rfl | rfl | rfl | rfl | rfl | rfl | rfl | rfl | rfl | rfl | rfl | rfl <;> rfl
    have hbw : w.heap.size ≤ w1.heap.size := hb1.size
    have hglob : 2 < w1.heap.size := by obtain ⟨te, pe, hc⟩ := hE1; exact World.block_lt_of_cell? w1 _ hc
    go_upto_region 5 with (fail)
    obtain ⟨b, hbb⟩ : ∃ b, b = w1.heap.size := ⟨_, rfl⟩
    have hlt1 : b < (w1.alloc (.cells #[.slice A l.length c, .int .i64 0, .int .i64 0, .slice none 0 0, .nilFunc, .nilFunc, .nilFunc, .nilFunc, .nilFunc, .nilFunc, .nilFunc, .nilFunc, .nilFunc, .nilFunc, .nilFunc, .nilFunc] 52)).heap.size := by rw [hbb]; exact hR1.lt
    rw [← hbb] at hR1 hbw hglob
    rw [← hbb]
    generalize w1.alloc (.cells #[.slice A l.length c, .int .i64 0, .int .i64 0, .slice none 0 0, .nilFunc, .nilFunc, .nilFunc, .nilFunc, .nilFunc, .nilFunc, .nilFunc, .nilFunc, .nilFunc, .nilFunc, .nilFunc, .nilFunc] 52) = w2 at *
    clear hT1 hE1 hb1 hbb
    go_wp2_with fail
    go_loopw [7] (fun v wr => ∃ n : Nat, 1 ≤ n ∧ n ≤ 11 ∧ v = .int .i64 (n : Int) ∧ wr.rowIs b 52 16 (parL b (.slice A l.length c) n) ∧ Below w.heap.size w wr) (fun v _ => 11 - (intOf v).toNat)
    case atStart => exact ⟨1, by omega, by omega, rfl, hR1, hb2⟩
    case round =>
      clear hR1 hb2 hlt1
      obtain ⟨n, hn1, hn2, rfl, hR, hb⟩ := hrel
      have hlt := hR.lt
      by_cases h11 : n < 11
      · have b1 : decide ((n : Int) < 11) = true := by simp; omega
        have b1n : decide (n < 11) = true := by simp; omega
        have e2 : 0 ≤ (n : Int) := by omega
        have e3 : (n : Int) < 12 := by omega
        have f1 := hR.frozen (4 + n)
        have c1 := hR.cell (show 4 + n < 16 by omega)
        rw [parL_nil b _ n hn1] at c1
        have hR2 := (hR.set (4 + n) (levV b n)).congr (g := parL b (.slice A l.length c) (n + 1)) fun k hk => parL_set b _ n k hn1
        have hb3 := hb.setCell (p := ⟨b, 4 + n, none⟩) hbw (levV b n)
        rw [show levV b n = .func (Fn.func 24) #[.agg #[.pointer (some ⟨b, 0, none⟩), .int .i64 (n : Int)]] #[] from if_pos h11] at hR2 hb3
        clear hR hb
        go_wp2_with fail
        go_roundw
        case rel => exact ⟨n + 1, by omega, by omega, by go_num, hR2, hb3⟩
        case measure => simp [intOf]; omega
      · have h12 : n = 11 := by omega
        subst h12
        have f1 := hR.frozen 15
        have c1 := hR.cell (show 15 < 16 by decide)
        rw [show parL b (.slice A l.length c) 11 15 = .nilFunc from parL_nil b _ 11 (by decide)] at c1
        have hR2 := ((hR.set 15 (levV b 11)).congr (g := parL b (.slice A l.length c) 12) fun k hk => parL_set b _ 11 k (by decide)).congr (g := parV b .nilFunc (.slice A l.length c) (.slice none 0 0) 0 0) fun k hk => parL_all b _ k hk
        have hb3 := hb.setCell (p := ⟨b, 15, none⟩) hbw (levV b 11)
        rw [show levV b 11 = .func (Fn.func 25) #[.pointer (some ⟨b, 0, none⟩)] #[] from rfl] at hR2 hb3
        go_upto_region 10 with (fail)
        generalize wr.setCell ⟨b, 15, none⟩ (.func (Fn.func 25) #[.pointer (some ⟨b, 0, none⟩)] #[]) = w4 at *
        have hT4 : TksAt w4 b A l := by
          intro i hi
          obtain ⟨g, o, e, hg, hx⟩ := (hA.below hb3 (Nat.le_refl _)) i hi
          exact ⟨g, o, e, by omega, hx⟩
        have hP4 : PA w4 b A c l 0 0 0 [] := ⟨⟨_, _, hR2, World.ownsRow_nil _ _ _ _⟩, hT4, Nat.zero_le _, Nat.zero_le _, hE.below hb3, hglob⟩
        clear hR f1 c1 hb
        have hcall := expression_any b A c l 0 0 0 [] w4 hP4 _ (lev_any b A c l hl hlen (l.length * 12 + 12) 1 0 0 0 [] w4 (by decide) (by decide) (by decide) (by omega) hP4)
        generalize Ex.lev l (l.length * 12 + 12) 1 0 0 [] = r at *
        clear hP4 hT4 hR2
        go_wp2_with fail
        with_reducible refine hcall.mono ?_
        clear hcall
        rintro x w5 ⟨rfl, hP5, hF5⟩
        have hb5 := hb3.trans (hF5.low.mono hbw)
        clear hF5 hb3
        by_cases hr : r.e = 0
        · have q3 : (r.e != 0) = false := by rw [hr]; rfl
          have HV2 := Lib.hid (HV1.out.trans (if_neg (fun h => h hr)))
          have c0 := hP5.at_
          have hi := hP5.here
          obtain ⟨z, fv, hRr, hO⟩ := hP5.row
          have c3 : w5.cell? ⟨b, 3, none⟩ = some fv := hRr.cell (show 3 < 16 by decide)
          clear hr HV1 hP5 hRr
          by_cases hi2 : r.i < l.length
          · have HR := Lib.hid (HV2.out.trans (if_pos hi2))
            have t1 : decide ((r.i : Int) < (l.length : Int)) = true := by simp; omega
            have t2 : decide (r.i < l.length) = true := by simp; omega
            go_wp2_with fail
            go_ret2
            rw [HR.out]
            exact ⟨_, rfl, World.ownsRow_nil _ _ _ _, hb5⟩
          · have HR := Lib.hid (HV2.out.trans (if_neg hi2))
            have t1 : decide ((r.i : Int) < (l.length : Int)) = false := by simp; omega
            have t2 : decide (r.i < l.length) = false := by simp; omega
            have hO2 := hO.mono (base' := w.heap.size) (by omega)
            clear hO
            go_wp2_with fail
            go_ret2
            rw [HR.out]
            exact ⟨_, rfl, hO2, hb5⟩
        · have q3 : (r.e != 0) = true := by rw [bne_iff_ne]; exact hr
          have HR := Lib.hid (HV1.out.trans (if_pos hr))
          clear hr HV1
          go_wp2_with fail
          go_ret2
          rw [HR.out]
          exact ⟨_, rfl, World.ownsRow_nil _ _ _ _, hb5⟩
end Go.Proofs.YtndehkoglgakpaaGreatDoor
