/- The parser's nesting and parentheses. No condition. -/
import Derived.Test.YtndehkoglgakpaaGreatDoorLvl
import Derived.Test.YtndehkoglgakpaaGreatDoorPrs
namespace Go.Proofs.YtndehkoglgakpaaGreatDoor
open Go.RowKit Go.Deep

/-- So many operations are to come, if there was no error. -/
def sl (e : Int) (s : Nat) : Nat := if e = 0 then s else 0
/-- What a part of the parser leaves; a fact beside it. -/
def Got (w : World) (b : Nat) (A : Option Addr) (c : Nat) (l : List Tok.Tk) (d s : Nat) (r : Ex.Rs) : Ending → World → Prop := fun x w' => x = .returned (.int .i64 r.e) ∧ PA w' b A c l d r.i (sl r.e s) r.out ∧ Fr b b w w'
def GotE (E : Int → World → Prop) (m : Nat) (w : World) (b : Nat) (A : Option Addr) (c : Nat) (l : List Tok.Tk) (d s : Nat) (r : Ex.Rs) : Ending → World → Prop := fun x w' => x = .returned (.int .i64 r.e) ∧ PA w' b A c l d r.i (sl r.e s) r.out ∧ Fr b m w w' ∧ E r.e w'
theorem PA.weak {w : World} {b : Nat} {A : Option Addr} {c : Nat} {l : List Tok.Tk} {d i s s' : Nat} {out : List Ex.Op} (h : PA w b A c l d i s out) (hs : s' ≤ s) : PA w b A c l d i s' out := ⟨h.row, h.toks, h.here, by have := h.room; omega, h.errs, h.glob⟩
theorem sl_ok (s : Nat) : sl 0 s = s := rfl
theorem sl_bad {e : Int} (h : e ≠ 0) (s : Nat) : sl e s = 0 := if_neg h
theorem nxt_lt {l : List Tok.Tk} {i : Nat} (h : Ex.nxt l i ≠ []) : i < l.length := by
  unfold Ex.nxt at h
  by_cases h1 : i < l.length
  · exact h1
  · rw [dif_neg h1] at h; exact absurd rfl h
theorem str_list (l : List UInt8) : (str l).toList = l := by rw [ByteArray.toList_eq]; rfl
theorem str_eq {t u : List UInt8} (h : t = u) : ((str t).toList == u) = true := by rw [str_list, h]; simp
theorem str_ne {t u : List UInt8} (h : t ≠ u) : ((str t).toList == u) = false := by rw [str_list, beq_eq_false_iff_ne]; exact h
theorem str_eq' {t u : List UInt8} (h : t = u) : ((str t).toList != u) = false := by rw [bne, str_eq h]; rfl
theorem str_ne' {t u : List UInt8} (h : t ≠ u) : ((str t).toList != u) = true := by rw [bne, str_ne h]; rfl
theorem inPar_def (l : List Tok.Tk) (p : Ex.Pr) (d i : Nat) (out : List Ex.Op) : Ex.inPar l p d i out = if Ex.nxt l i = [40] then (if (Ex.nest p d i out).e = 0 then (if Ex.nxt l (Ex.nest p d i out).i = [41] then ⟨0, (Ex.nest p d i out).i + 1, (Ex.nest p d i out).out⟩ else ⟨4, (Ex.nest p d i out).i, (Ex.nest p d i out).out⟩) else Ex.nest p d i out) else ⟨4, i, out⟩ := rfl
set_option maxHeartbeats 2000000 in
set_option maxRecDepth 100000 in
theorem nest_deep (b : Nat) (A : Option Addr) (c : Nat) (l : List Tok.Tk) (d i s : Nat) (out : List Ex.Op) (w : World) (hP : PA w b A c l d i s out) (hd : d ≤ 1000) (h : 24 < d) (g : Value) :
    Calls Tryz.prog 53 #[.pointer (some ⟨b, 0, none⟩), g] w fun x w' => x = .returned (.int .i64 11) ∧ w = w' := by
  have c2 := hP.dep
  have t1 : decide ((24 : Int) < (d : Int)) = true := by simp; omega
  have t2 : decide (24 < d) = true := by simp; omega
  clear hP h
  go_enter Tryz.func53, Tryz.ntmps53
  go_wp2_with fail
  go_ret
  exact ⟨rfl, rfl⟩
set_option maxHeartbeats 4000000 in
set_option maxRecDepth 100000 in
theorem nest_ok (b : Nat) (A : Option Addr) (c : Nat) (l : List Tok.Tk) (d i s : Nat) (out : List Ex.Op) (w : World) (hP : PA w b A c l d i s out) (hl : l.length ≤ 1000000) (hd : d ≤ 24) (hi : i < l.length) (s' : Nat) (hs : out.length + s' ≤ i + 1)
    (f : Nat) (cap : Value) (hcf : ∀ w, (callFunc f #[cap]).run Tryz.prog w = .ok (.enter f #[cap]) w) (r : Ex.Rs) (hf : ∀ w1 : World, PA w1 b A c l (d + 1) (i + 1) s' out → Fr b b w w1 → Calls Tryz.prog f #[cap] w1 (Got w1 b A c l (d + 1) s' r)) :
    Calls Tryz.prog 53 #[.pointer (some ⟨b, 0, none⟩), .func (Fn.func f) #[cap] #[]] w (Got w b A c l d s' r) := by
  have c2 := hP.dep
  have f2 := hP.frz 2
  have t1 : decide ((24 : Int) < (d : Int)) = false := by simp; omega
  have t2 : decide (24 < d) = false := by simp; omega
  go_enter Tryz.func53, Tryz.ntmps53
  go_upto_region 4 with (fail)
  have hP1 := hP.setDep ((d : Int) + 1) (d + 1) (by omega)
  have hB1 : Fr b b w (w.setCell ⟨b, 2, none⟩ (.int .i64 ((d : Int) + 1))) := Fr.set hP 2 _
  generalize w.setCell ⟨b, 2, none⟩ (.int .i64 ((d : Int) + 1)) = w1 at *
  clear c2 f2 hP
  have c1 := hP1.at_
  have f1 := hP1.frz 1
  go_upto_region 5 with (fail)
  have hP2 := hP1.setAt ((i : Int) + 1) (i + 1) s' (by omega) (by omega) hs
  replace hB1 := hB1.trans (Fr.set hP1 1 (.int .i64 ((i : Int) + 1)))
  generalize w1.setCell ⟨b, 1, none⟩ (.int .i64 ((i : Int) + 1)) = w2 at *
  clear c1 f1 hP1
  have hcall := hf w2 hP2 hB1
  clear hf hP2
  go_wp2_with fail
  with_reducible refine hcall.mono ?_
  clear hcall
  rintro x w3 ⟨rfl, hP3, hB3⟩
  have c2 := hP3.dep
  have f2 := hP3.frz 2
  have hP4 := hP3.setDep (d : Int) d rfl
  have hB4 := (hB1.more.trans hB3).trans (Fr.set hP3 2 (.int .i64 (d : Int)))
  have e1 : ((d + 1 : Nat) : Int) - 1 = (d : Int) := by omega
  clear hB1 hB3 hP3
  go_wp2_with fail
  go_ret
  exact ⟨rfl, hP4, hB4⟩
set_option maxHeartbeats 4000000 in
set_option maxRecDepth 100000 in
theorem inPar_any (b : Nat) (A : Option Addr) (c : Nat) (l : List Tok.Tk) (d i s : Nat) (out : List Ex.Op) (w : World) (hP : PA w b A c l d i s out) (hl : l.length ≤ 1000000) (hd : d ≤ 1000) (s' : Nat) (hs : out.length + s' ≤ i + 1)
    (f : Nat) (cap : Value) (hcf : ∀ w, (callFunc f #[cap]).run Tryz.prog w = .ok (.enter f #[cap]) w) (p : Ex.Pr) (hf : d ≤ 24 → i < l.length → ∀ w1 : World, PA w1 b A c l (d + 1) (i + 1) s' out → Fr b b w w1 → Calls Tryz.prog f #[cap] w1 (Got w1 b A c l (d + 1) s' (p (d + 1) (i + 1) out))) :
    Calls Tryz.prog 75 #[.pointer (some ⟨b, 0, none⟩), .func (Fn.func f) #[cap] #[]] w (Got w b A c l d s' (Ex.inPar l p d i out)) := by
  have HV := Lib.hid (inPar_def l p d i out)
  have hlt := hP.lt
  have hn := next_any b A c l d i s out w hP
  generalize Ex.inPar l p d i out = R at *
  by_cases h40 : Ex.nxt l i = [40]
  · have hi := nxt_lt (l := l) (i := i) (by rw [h40]; decide)
    have HT := Lib.hid (HV.out.trans (if_pos h40))
    have q1 := str_eq h40
    have q2 := str_eq' h40
    rw [h40] at q1 q2 hn
    clear HV h40
    by_cases h24 : 24 < d
    · have HN := Lib.hid (show Ex.nest p d i out = ⟨11, i, out⟩ from if_pos h24)
      have HR := Lib.hid (show R = ⟨11, i, out⟩ by rw [HT.out, HN.out]; rfl)
      clear HT HN hf
      go_enter Tryz.func75, Tryz.ntmps75
      go_wp2_with fail
      with_reducible refine hn.mono ?_
      clear hn
      rintro x w2 ⟨rfl, hb1⟩
      have hcall := nest_deep b A c l d i s out w2 (hP.below hb1) hd h24 (.func (Fn.func f) #[cap] #[])
      clear h24
      go_wp2_with fail
      with_reducible refine hcall.mono ?_
      clear hcall
      rintro x w3 ⟨rfl, rfl⟩
      go_wp2_with fail
      go_ret
      rw [HR.out]
      exact ⟨rfl, (hP.below hb1).weak (Nat.zero_le _), Fr.of hb1 hlt⟩
    · have HN := Lib.hid (show Ex.nest p d i out = p (d + 1) (i + 1) out from if_neg h24)
      have HT2 := Lib.hid (HT.out)
      rw [HN.out] at HT2
      have hd2 : d ≤ 24 := by omega
      have hf2 := hf hd2 hi
      generalize p (d + 1) (i + 1) out = r at *
      clear HT HN hf h24
      go_enter Tryz.func75, Tryz.ntmps75
      go_wp2_with fail
      with_reducible refine hn.mono ?_
      clear hn
      rintro x w2 ⟨rfl, hb1⟩
      have hcall := nest_ok b A c l d i s out w2 (hP.below hb1) hl hd2 hi s' hs f cap hcf r (fun w1 h1 h2 => hf2 w1 h1 ((Fr.of hb1 hlt).trans h2))
      clear hf2
      go_wp2_with fail
      with_reducible refine hcall.mono ?_
      clear hcall
      rintro x w3 ⟨rfl, hP3, hB3⟩
      have hB := (Fr.of (m := b) hb1 hlt).trans hB3
      by_cases hr : r.e = 0
      · have HR0 := Lib.hid hr
        rw [hr] at hP3
        rw [sl_ok] at hP3
        have q3 : (r.e != 0) = false := by rw [hr]; rfl
        have q3n : (r.e == 0) = true := by rw [hr]; rfl
        have hn4 := next_any b A c l d r.i s' r.out w3 hP3
        have HT3 := Lib.hid (HT2.out.trans (if_pos hr))
        clear HT2 hr
        by_cases h41 : Ex.nxt l r.i = [41]
        · have hi4 := nxt_lt (l := l) (i := r.i) (by rw [h41]; decide)
          have HR := Lib.hid (HT3.out.trans (if_pos h41))
          have q5 := str_eq h41
          have q6 := str_eq' h41
          rw [h41] at q5 q6 hn4
          clear HT3 h41
          go_wp2_with fail
          with_reducible refine hn4.mono ?_
          clear hn4
          rintro x w4 ⟨rfl, hb4⟩
          have hP4 := hP3.below hb4
          have c1 := hP4.at_
          have f1 := hP4.frz 1
          have hP5 := hP4.setAt ((r.i : Int) + 1) (r.i + 1) s' (by omega) (by omega) (by have := hP4.room; omega)
          have hB5 := (hB.trans (Fr.of hb4 hP3.lt)).trans (Fr.set hP4 1 (.int .i64 ((r.i : Int) + 1)))
          clear hP3 hP4 hB hB3 hb1 hb4 hP
          go_wp2_with fail
          go_ret
          rw [HR.out]
          exact ⟨rfl, hP5, hB5⟩
        · have HR := Lib.hid (HT3.out.trans (if_neg h41))
          have q5 := str_ne h41
          have q6 := str_ne' h41
          generalize Ex.nxt l r.i = t4 at *
          clear HT3 h41
          go_wp2_with fail
          with_reducible refine hn4.mono ?_
          clear hn4
          rintro x w4 ⟨rfl, hb4⟩
          go_wp2_with fail
          go_ret
          rw [HR.out]
          exact ⟨rfl, (hP3.below hb4).weak (Nat.zero_le _), hB.trans (Fr.of hb4 hP3.lt)⟩
      · have q3 : (r.e != 0) = true := by rw [bne_iff_ne]; exact hr
        have q3n : (r.e == 0) = false := by rw [beq_eq_false_iff_ne]; exact hr
        have HR := Lib.hid (HT2.out.trans (if_neg hr))
        clear HT2 hr
        go_wp2_with fail
        go_ret
        rw [HR.out]
        exact ⟨rfl, hP3, hB⟩
  · have HR := Lib.hid (HV.out.trans (if_neg h40))
    have q1 := str_ne h40
    have q2 := str_ne' h40
    generalize Ex.nxt l i = t at *
    clear HV h40 hf
    go_enter Tryz.func75, Tryz.ntmps75
    go_wp2_with fail
    with_reducible refine hn.mono ?_
    clear hn
    rintro x w2 ⟨rfl, hb1⟩
    go_wp2_with fail
    go_ret
    rw [HR.out]
    exact ⟨rfl, (hP.below hb1).weak (Nat.zero_le _), Fr.of hb1 hlt⟩
set_option maxHeartbeats 4000000 in
set_option maxRecDepth 100000 in
theorem nest_ok2 (b : Nat) (A : Option Addr) (c : Nat) (l : List Tok.Tk) (d i s : Nat) (out : List Ex.Op) (w : World) (hP : PA w b A c l d i s out) (hl : l.length ≤ 1000000) (hd : d ≤ 24) (hi : i < l.length) (s' : Nat) (hs : out.length + s' ≤ i + 1)
    (m : Nat) (E : Int → World → Prop) (hE : ∀ (e : Int) (w : World) (k : Nat) (v : Value), E e w → E e (w.setCell ⟨b, k, none⟩ v)) (_hE2 : ∀ (e : Int) (w w' : World), E e w → Below w.heap.size w w' → E e w') (_hE4 : ∀ w : World, E 0 w → E 4 w)
    (f : Nat) (v1 v2 : Value) (hcf : ∀ w, (callFunc f #[v1, v2]).run Tryz.prog w = .ok (.enter f #[v1, v2]) w) (r : Ex.Rs) (hf : ∀ w1 : World, PA w1 b A c l (d + 1) (i + 1) s' out → Fr b b w w1 → Calls Tryz.prog f #[v1, v2] w1 (GotE E m w1 b A c l (d + 1) s' r)) :
    Calls Tryz.prog 53 #[.pointer (some ⟨b, 0, none⟩), .func (Fn.func f) #[] #[v1, v2]] w (GotE E m w b A c l d s' r) := by
  have c2 := hP.dep
  have f2 := hP.frz 2
  have t1 : decide ((24 : Int) < (d : Int)) = false := by simp; omega
  have t2 : decide (24 < d) = false := by simp; omega
  go_enter Tryz.func53, Tryz.ntmps53
  go_upto_region 4 with (fail)
  have hP1 := hP.setDep ((d : Int) + 1) (d + 1) (by omega)
  have hB1 : Fr b b w (w.setCell ⟨b, 2, none⟩ (.int .i64 ((d : Int) + 1))) := Fr.set hP 2 _
  generalize w.setCell ⟨b, 2, none⟩ (.int .i64 ((d : Int) + 1)) = w1 at *
  clear c2 f2 hP
  have c1 := hP1.at_
  have f1 := hP1.frz 1
  go_upto_region 5 with (fail)
  have hP2 := hP1.setAt ((i : Int) + 1) (i + 1) s' (by omega) (by omega) hs
  replace hB1 := hB1.trans (Fr.set hP1 1 (.int .i64 ((i : Int) + 1)))
  generalize w1.setCell ⟨b, 1, none⟩ (.int .i64 ((i : Int) + 1)) = w2 at *
  clear c1 f1 hP1
  have hcall := hf w2 hP2 hB1
  clear hf hP2
  go_wp2_with fail
  with_reducible refine hcall.mono ?_
  clear hcall
  rintro x w3 ⟨rfl, hP3, hB3, hE3⟩
  have c2 := hP3.dep
  have f2 := hP3.frz 2
  have hP4 := hP3.setDep (d : Int) d rfl
  have hB4 := (hB1.more.trans hB3).trans (Fr.set hP3 2 (.int .i64 (d : Int)))
  have hE5 := hE _ w3 2 (.int .i64 (d : Int)) hE3
  have e1 : ((d + 1 : Nat) : Int) - 1 = (d : Int) := by omega
  clear hB1 hB3 hP3
  go_wp2_with fail
  go_ret
  exact ⟨rfl, hP4, hB4, hE5⟩
set_option maxHeartbeats 4000000 in
set_option maxRecDepth 100000 in
theorem inPar_any2 (b : Nat) (A : Option Addr) (c : Nat) (l : List Tok.Tk) (d i s : Nat) (out : List Ex.Op) (w : World) (hP : PA w b A c l d i s out) (hl : l.length ≤ 1000000) (hd : d ≤ 1000) (s' : Nat) (hs : out.length + s' ≤ i + 1)
    (m : Nat) (E : Int → World → Prop) (hE : ∀ (e : Int) (w : World) (k : Nat) (v : Value), E e w → E e (w.setCell ⟨b, k, none⟩ v)) (hE2 : ∀ (e : Int) (w w' : World), E e w → Below w.heap.size w w' → E e w') (hE4 : ∀ w : World, E 0 w → E 4 w)
    (hE0 : ∀ e, e ≠ 0 → E e w) (f : Nat) (v1 v2 : Value) (hcf : ∀ w, (callFunc f #[v1, v2]).run Tryz.prog w = .ok (.enter f #[v1, v2]) w) (p : Ex.Pr) (hf : d ≤ 24 → i < l.length → ∀ w1 : World, PA w1 b A c l (d + 1) (i + 1) s' out → Fr b b w w1 → Calls Tryz.prog f #[v1, v2] w1 (GotE E m w1 b A c l (d + 1) s' (p (d + 1) (i + 1) out))) :
    Calls Tryz.prog 75 #[.pointer (some ⟨b, 0, none⟩), .func (Fn.func f) #[] #[v1, v2]] w (GotE E m w b A c l d s' (Ex.inPar l p d i out)) := by
  have HV := Lib.hid (inPar_def l p d i out)
  have hlt := hP.lt
  have hn := next_any b A c l d i s out w hP
  generalize Ex.inPar l p d i out = R at *
  by_cases h40 : Ex.nxt l i = [40]
  · have hi := nxt_lt (l := l) (i := i) (by rw [h40]; decide)
    have HT := Lib.hid (HV.out.trans (if_pos h40))
    have q1 := str_eq h40
    have q2 := str_eq' h40
    rw [h40] at q1 q2 hn
    clear HV h40
    by_cases h24 : 24 < d
    · have HN := Lib.hid (show Ex.nest p d i out = ⟨11, i, out⟩ from if_pos h24)
      have HR := Lib.hid (show R = ⟨11, i, out⟩ by rw [HT.out, HN.out]; rfl)
      clear HT HN hf
      go_enter Tryz.func75, Tryz.ntmps75
      go_wp2_with fail
      with_reducible refine hn.mono ?_
      clear hn
      rintro x w2 ⟨rfl, hb1⟩
      have hcall := nest_deep b A c l d i s out w2 (hP.below hb1) hd h24 (.func (Fn.func f) #[] #[v1, v2])
      clear h24
      go_wp2_with fail
      with_reducible refine hcall.mono ?_
      clear hcall
      rintro x w3 ⟨rfl, rfl⟩
      go_wp2_with fail
      go_ret
      rw [HR.out]
      exact ⟨rfl, (hP.below hb1).weak (Nat.zero_le _), Fr.of hb1 hlt, hE2 _ _ _ (hE0 _ (by first | (show (4 : Int) ≠ 0; decide) | (show (11 : Int) ≠ 0; decide))) hb1⟩
    · have HN := Lib.hid (show Ex.nest p d i out = p (d + 1) (i + 1) out from if_neg h24)
      have HT2 := Lib.hid (HT.out)
      rw [HN.out] at HT2
      have hd2 : d ≤ 24 := by omega
      have hf2 := hf hd2 hi
      generalize p (d + 1) (i + 1) out = r at *
      clear HT HN hf h24
      go_enter Tryz.func75, Tryz.ntmps75
      go_wp2_with fail
      with_reducible refine hn.mono ?_
      clear hn
      rintro x w2 ⟨rfl, hb1⟩
      have hcall := nest_ok2 b A c l d i s out w2 (hP.below hb1) hl hd2 hi s' hs m E hE hE2 hE4 f v1 v2 hcf r (fun w1 h1 h2 => hf2 w1 h1 ((Fr.of hb1 hlt).trans h2))
      clear hf2
      go_wp2_with fail
      with_reducible refine hcall.mono ?_
      clear hcall
      rintro x w3 ⟨rfl, hP3, hB3, hE3⟩
      have hB := (Fr.of (m := m) hb1 hlt).trans hB3
      by_cases hr : r.e = 0
      · have HR0 := Lib.hid hr
        rw [hr] at hP3
        rw [sl_ok] at hP3
        have q3 : (r.e != 0) = false := by rw [hr]; rfl
        have q3n : (r.e == 0) = true := by rw [hr]; rfl
        have hn4 := next_any b A c l d r.i s' r.out w3 hP3
        have HT3 := Lib.hid (HT2.out.trans (if_pos hr))
        clear HT2 hr
        by_cases h41 : Ex.nxt l r.i = [41]
        · have hi4 := nxt_lt (l := l) (i := r.i) (by rw [h41]; decide)
          have HR := Lib.hid (HT3.out.trans (if_pos h41))
          have q5 := str_eq h41
          have q6 := str_eq' h41
          rw [h41] at q5 q6 hn4
          clear HT3 h41
          go_wp2_with fail
          with_reducible refine hn4.mono ?_
          clear hn4
          rintro x w4 ⟨rfl, hb4⟩
          have hP4 := hP3.below hb4
          have c1 := hP4.at_
          have f1 := hP4.frz 1
          have hP5 := hP4.setAt ((r.i : Int) + 1) (r.i + 1) s' (by omega) (by omega) (by have := hP4.room; omega)
          have hB5 := (hB.trans (Fr.of hb4 hP3.lt)).trans (Fr.set hP4 1 (.int .i64 ((r.i : Int) + 1)))
          have hE5 := hE _ w4 1 (.int .i64 ((r.i : Int) + 1)) (hE2 _ _ _ (by rw [HR0.out] at hE3; exact hE3) hb4)
          clear hP3 hP4 hB hB3 hb1 hb4 hP
          go_wp2_with fail
          go_ret
          rw [HR.out]
          exact ⟨rfl, hP5, hB5, hE5⟩
        · have HR := Lib.hid (HT3.out.trans (if_neg h41))
          have q5 := str_ne h41
          have q6 := str_ne' h41
          generalize Ex.nxt l r.i = t4 at *
          clear HT3 h41
          go_wp2_with fail
          with_reducible refine hn4.mono ?_
          clear hn4
          rintro x w4 ⟨rfl, hb4⟩
          go_wp2_with fail
          go_ret
          rw [HR.out]
          exact ⟨rfl, (hP3.below hb4).weak (Nat.zero_le _), hB.trans (Fr.of hb4 hP3.lt), hE2 _ _ _ (hE4 _ (by rw [HR0.out] at hE3; exact hE3)) hb4⟩
      · have q3 : (r.e != 0) = true := by rw [bne_iff_ne]; exact hr
        have q3n : (r.e == 0) = false := by rw [beq_eq_false_iff_ne]; exact hr
        have HR := Lib.hid (HT2.out.trans (if_neg hr))
        clear HT2 hr
        go_wp2_with fail
        go_ret
        rw [HR.out]
        exact ⟨rfl, hP3, hB, hE3⟩
  · have HR := Lib.hid (HV.out.trans (if_neg h40))
    have q1 := str_ne h40
    have q2 := str_ne' h40
    generalize Ex.nxt l i = t at *
    clear HV h40 hf
    go_enter Tryz.func75, Tryz.ntmps75
    go_wp2_with fail
    with_reducible refine hn.mono ?_
    clear hn
    rintro x w2 ⟨rfl, hb1⟩
    go_wp2_with fail
    go_ret
    rw [HR.out]
    exact ⟨rfl, (hP.below hb1).weak (Nat.zero_le _), Fr.of hb1 hlt, hE2 _ _ _ (hE0 _ (by first | (show (4 : Int) ≠ 0; decide) | (show (11 : Int) ≠ 0; decide))) hb1⟩
end Go.Proofs.YtndehkoglgakpaaGreatDoor
