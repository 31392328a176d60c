/- The reference's parser: its state, and its small calls. No condition.
What a valid token's text is, and that each operation of a formula has a token of its own; plain. No condition but that the tokens are valid.
The reference's parser as a plain function of its state. No condition.
What the reference's parser keeps: it goes forward, its depth comes back, its formula has room. No condition.
The program's parser has fuel enough, and what the reference's parser does with an error; plain. No condition but that the tokens are valid. -/
import Derived.Test.YtndehkoglgakpaaGreatDoorRfo
import Derived.Test.YtndehkoglgakpaaGreatDoorLev
import Derived.Test.YtndehkoglgakpaaGreatDoorFol
import Derived.Deep.QuietTactic
import Derived.Test.YtndehkoglgakpaaGreatDoorRnd
section
namespace Go.Proofs.YtndehkoglgakpaaGreatDoor
open Go.RowKit Go.Deep

def qpV (tv fv : Value) (i : Nat) (d e : Int) (j : Nat) : Value := if j = 0 then tv else if j = 1 then .int .i64 (i : Int) else if j = 2 then fv else if j = 3 then .int .i64 d else .int .i64 e
/-- The reference's parser: where it is, what it has found, how deep it is, its error. -/
structure QA (w : World) (b : Nat) (A : Option Addr) (c : Nat) (l : List Tok.Tk) (d : Int) (i : Nat) (e : Int) (out : List Ex.Op) : Prop where
  row : ∃ fv, w.rowIs b 56 5 (qpV (.slice A l.length c) fv i d e) ∧ w.ownsRow (b + 1) 42 3 fv out.length (opsOf out)
  toks : TksAt w b A l
  here : i ≤ l.length
section
variable {w w' : World} {b : Nat} {A : Option Addr} {c : Nat} {l : List Tok.Tk} {d e : Int} {i : Nat} {out : List Ex.Op}
theorem QA.lt (h : QA w b A c l d i e out) : b < w.heap.size := by obtain ⟨_, hR, _⟩ := h.row; exact hR.lt
theorem QA.below (h : QA w b A c l d i e out) (hb : Below w.heap.size w w') : QA w' b A c l d i e out := by
  have hlt := h.lt
  obtain ⟨fv, hR, hO⟩ := h.row
  exact ⟨⟨fv, hR.of_block (hb.block b hlt), owns_below hO hb⟩, h.toks.below hb (by omega), h.here⟩
theorem QA.tok (h : QA w b A c l d i e out) : w.cell? ⟨b, 0, none⟩ = some (.slice A l.length c) := by obtain ⟨_, hR, _⟩ := h.row; exact hR.cell (show 0 < 5 by decide)
theorem QA.at_ (h : QA w b A c l d i e out) : w.cell? ⟨b, 1, none⟩ = some (.int .i64 (i : Int)) := by obtain ⟨_, hR, _⟩ := h.row; exact hR.cell (show 1 < 5 by decide)
theorem QA.dep (h : QA w b A c l d i e out) : w.cell? ⟨b, 3, none⟩ = some (.int .i64 d) := by obtain ⟨_, hR, _⟩ := h.row; exact hR.cell (show 3 < 5 by decide)
theorem QA.err (h : QA w b A c l d i e out) : w.cell? ⟨b, 4, none⟩ = some (.int .i64 e) := by obtain ⟨_, hR, _⟩ := h.row; exact hR.cell (show 4 < 5 by decide)
theorem QA.frz (h : QA w b A c l d i e out) (k : Nat) : w.frozen? ⟨b, k, none⟩ = false := by obtain ⟨_, hR, _⟩ := h.row; exact hR.frozen k
theorem QA.setAt (h : QA w b A c l d i e out) (x : Int) (j : Nat) (hx : x = (j : Int)) (hj : j ≤ l.length) : QA (w.setCell ⟨b, 1, none⟩ (.int .i64 x)) b A c l d j e out := by
  subst hx
  obtain ⟨fv, hR, hO⟩ := h.row
  refine ⟨⟨fv, (hR.set 1 _).congr fun k hk => ?_, hO.kept (grown_set w b 1 _) (own_ne hO (by omega))⟩, h.toks.set 1 _, hj⟩
  unfold qpV
  by_cases h1 : k = 1
  · subst h1; rfl
  · simp only [h1, if_false]
theorem QA.setDep (h : QA w b A c l d i e out) (x : Int) : QA (w.setCell ⟨b, 3, none⟩ (.int .i64 x)) b A c l x i e out := by
  obtain ⟨fv, hR, hO⟩ := h.row
  refine ⟨⟨fv, (hR.set 3 _).congr fun k hk => ?_, hO.kept (grown_set w b 3 _) (own_ne hO (by omega))⟩, h.toks.set 3 _, h.here⟩
  unfold qpV
  by_cases h1 : k = 3
  · subst h1; rfl
  · simp only [h1, if_false]
theorem QA.setErr (h : QA w b A c l d i e out) (x : Int) : QA (w.setCell ⟨b, 4, none⟩ (.int .i64 x)) b A c l d i x out := by
  obtain ⟨fv, hR, hO⟩ := h.row
  refine ⟨⟨fv, (hR.set 4 _).congr fun k hk => ?_, hO.kept (grown_set w b 4 _) (own_ne hO (by omega))⟩, h.toks.set 4 _, h.here⟩
  unfold qpV
  by_cases h1 : k = 4
  · subst h1; rfl
  · by_cases h0 : k = 0
    · subst h0; rfl
    · by_cases h2 : k = 1
      · subst h2; rfl
      · by_cases h3 : k = 2
        · subst h3; rfl
        · by_cases h4 : k = 3
          · subst h4; rfl
          · omega
theorem QFr.set (_ : QA w b A c l d i e out) (k : Nat) (v : Value) : Fr b b w (w.setCell ⟨b, k, none⟩ v) := Fr.exempt w (Nat.le_refl b) k v
end
set_option maxHeartbeats 2000000 in
set_option maxRecDepth 100000 in
/-- A fault, where there is none. -/
theorem fail_ok (b : Nat) (A : Option Addr) (c : Nat) (l : List Tok.Tk) (d : Int) (i : Nat) (out : List Ex.Op) (x : Int) (w : World) (hP : QA w b A c l d i 0 out) :
    Calls Tryz.prog 29 #[.pointer (some ⟨b, 0, none⟩), .int .i64 x] w fun r w' => r = .returned (.tuple #[]) ∧ QA w' b A c l d i x out ∧ Fr b b w w' := by
  have c4 := hP.err
  have f4 := hP.frz 4
  have hP2 := hP.setErr x
  have hF := QFr.set hP 4 (.int .i64 x)
  clear hP
  go_enter Tryz.func29, Tryz.ntmps29
  go_wp2_with fail
  go_end0
  exact ⟨rfl, hP2, hF⟩
set_option maxHeartbeats 2000000 in
set_option maxRecDepth 100000 in
/-- The first fault stays. -/
theorem fail_bad (b : Nat) (A : Option Addr) (c : Nat) (l : List Tok.Tk) (d : Int) (i : Nat) (e : Int) (he : e ≠ 0) (out : List Ex.Op) (x : Int) (w : World) (hP : QA w b A c l d i e out) :
    Calls Tryz.prog 29 #[.pointer (some ⟨b, 0, none⟩), .int .i64 x] w fun r w' => r = .returned (.tuple #[]) ∧ w' = w := by
  have c4 := hP.err
  have q1 : (e == 0) = false := by rw [beq_eq_false_iff_ne]; exact he
  clear hP he
  go_enter Tryz.func29, Tryz.ntmps29
  go_wp2_with fail
  go_end0
  exact ⟨rfl, rfl⟩
/-- Whether a symbol stands at a place. -/
def Ex.symAt (l : List Tok.Tk) (i : Nat) (t : List UInt8) : Bool := if h : i < l.length then (l[i].kind == 3) && (l[i].text == t) else false
set_option maxHeartbeats 4000000 in
set_option maxRecDepth 100000 in
theorem symbol_any (b : Nat) (A : Option Addr) (c : Nat) (l : List Tok.Tk) (d : Int) (i : Nat) (e : Int) (out : List Ex.Op) (t : List UInt8) (w : World) (hP : QA w b A c l d i e out) :
    Calls Tryz.prog 83 #[.pointer (some ⟨b, 0, none⟩), .string (str t)] w fun r w' => r = .returned (.bool (Ex.symAt l i t)) ∧ ∃ m, w' = w.drewN m := by
  have c0 := hP.tok
  have c1 := hP.at_
  by_cases h : i < l.length
  · have t1 : decide ((i : Int) < (l.length : Int)) = true := by simp; omega
    have t2 : decide (i < l.length) = true := by simp; omega
    have hlt : (i : Int) < (l.length : Int) := by omega
    have hlt0 : 0 ≤ (i : Int) := by omega
    obtain ⟨g, o, rfl, hg, hk0, hk1⟩ := hP.toks i h
    have HN := Lib.hid (show Ex.symAt l i t = ((l[i].kind == 3) && (l[i].text == t)) from dif_pos h)
    generalize l[i] = u at *
    by_cases h3 : u.kind = 3
    · have q3 : (u.kind == 3) = true := by rw [h3]; rfl
      have HN2 := Lib.hid (HN.out.trans (by rw [q3, Bool.true_and]))
      by_cases h4 : u.text = t
      · have HN3 := Lib.hid (HN2.out.trans (by rw [h4]; simp) : Ex.symAt l i t = true)
        have q4 : ((str u.text).toList == (str t).toList) = true := by rw [h4]; simp
        clear hP HN HN2 h3 h4
        go_enter Tryz.func83, Tryz.ntmps83
        go_wp2_with fail
        go_quiet (fail)
        go_wp2_with fail
        go_ret
        exact ⟨by rw [HN3.out]; rfl, _, rfl⟩
      · have HN3 := Lib.hid (HN2.out.trans (by rw [beq_eq_false_iff_ne]; exact h4) : Ex.symAt l i t = false)
        have q4 : ((str u.text).toList == (str t).toList) = false := by rw [str_list, str_list, beq_eq_false_iff_ne]; exact h4
        clear hP HN HN2 h3 h4
        go_enter Tryz.func83, Tryz.ntmps83
        go_wp2_with fail
        go_quiet (fail)
        go_wp2_with fail
        go_ret
        exact ⟨by rw [HN3.out]; rfl, _, rfl⟩
    · have q3 : (u.kind == 3) = false := by rw [beq_eq_false_iff_ne]; exact h3
      have HN3 := Lib.hid (HN.out.trans (by rw [q3]; rfl) : Ex.symAt l i t = false)
      clear hP HN h3
      go_enter Tryz.func83, Tryz.ntmps83
      go_wp2_with fail
      go_quiet (fail)
      go_wp2_with fail
      go_ret
      exact ⟨by rw [HN3.out]; rfl, _, rfl⟩
  · have t1 : decide ((i : Int) < (l.length : Int)) = false := by simp; omega
    have t2 : decide (i < l.length) = false := by simp; omega
    have HN := Lib.hid (show Ex.symAt l i t = false from dif_neg h)
    clear hP h
    go_enter Tryz.func83, Tryz.ntmps83
    go_wp2_with fail
    go_quiet (fail)
    go_wp2_with fail
    go_ret
    exact ⟨by rw [HN.out]; rfl, _, rfl⟩
set_option maxHeartbeats 2000000 in
set_option maxRecDepth 100000 in
/-- After a fault nothing is expected, and nothing is entered. -/
theorem expect_bad (b : Nat) (A : Option Addr) (c : Nat) (l : List Tok.Tk) (d : Int) (i : Nat) (e : Int) (he : e ≠ 0) (out : List Ex.Op) (t : ByteArray) (w : World) (hP : QA w b A c l d i e out) :
    Calls Tryz.prog 84 #[.pointer (some ⟨b, 0, none⟩), .string t] w fun r w' => r = .returned (.tuple #[]) ∧ w' = w := by
  have c4 := hP.err
  have q1 : (e != 0) = true := by rw [bne_iff_ne]; exact he
  clear hP he
  go_enter Tryz.func84, Tryz.ntmps84
  go_wp2_with fail
  refine bodyPost_ret (results_none rfl _ _ _) rfl ?_
  exact ⟨rfl, rfl⟩
set_option maxHeartbeats 2000000 in
set_option maxRecDepth 100000 in
theorem enter_bad (b : Nat) (A : Option Addr) (c : Nat) (l : List Tok.Tk) (d : Int) (i : Nat) (e : Int) (he : e ≠ 0) (out : List Ex.Op) (w : World) (hP : QA w b A c l d i e out) :
    Calls Tryz.prog 82 #[.pointer (some ⟨b, 0, none⟩)] w fun r w' => r = .returned (.tuple #[]) ∧ w' = w := by
  have c4 := hP.err
  have q1 : (e != 0) = true := by rw [bne_iff_ne]; exact he
  clear hP he
  go_enter Tryz.func82, Tryz.ntmps82
  go_wp2_with fail
  refine bodyPost_ret (results_none rfl _ _ _) rfl ?_
  exact ⟨rfl, rfl⟩
set_option maxHeartbeats 2000000 in
set_option maxRecDepth 100000 in
theorem enter_deep (b : Nat) (A : Option Addr) (c : Nat) (l : List Tok.Tk) (d : Int) (hd : 25 ≤ d) (i : Nat) (out : List Ex.Op) (w : World) (hP : QA w b A c l d i 0 out) :
    Calls Tryz.prog 82 #[.pointer (some ⟨b, 0, none⟩)] w fun r w' => r = .returned (.tuple #[]) ∧ QA w' b A c l d i 11 out ∧ Fr b b w w' := by
  have c4 := hP.err
  have c3 := hP.dep
  have q1 : decide ((25 : Int) ≤ d) = true := by simp; omega
  have hcall := fail_ok b A c l d i out 11 w hP
  clear hP
  go_enter Tryz.func82, Tryz.ntmps82
  go_wp2_with fail
  with_reducible refine hcall.mono ?_
  clear hcall
  rintro r w2 ⟨rfl, hP2, hF⟩
  go_wp2_with fail
  refine bodyPost_ret (results_none rfl _ _ _) rfl ?_
  exact ⟨rfl, hP2, hF⟩
set_option maxHeartbeats 2000000 in
set_option maxRecDepth 100000 in
theorem enter_ok (b : Nat) (A : Option Addr) (c : Nat) (l : List Tok.Tk) (d : Int) (hd0 : -100000 ≤ d) (hd : d < 25) (i : Nat) (hi : i < l.length) (hl : l.length ≤ 1000000) (out : List Ex.Op) (w : World) (hP : QA w b A c l d i 0 out) :
    Calls Tryz.prog 82 #[.pointer (some ⟨b, 0, none⟩)] w fun r w' => r = .returned (.tuple #[]) ∧ QA w' b A c l (d + 1) (i + 1) 0 out ∧ Fr b b w w' := by
  have c4 := hP.err
  have c3 := hP.dep
  have f3 := hP.frz 3
  have q1 : decide ((25 : Int) ≤ d) = false := by simp; omega
  go_enter Tryz.func82, Tryz.ntmps82
  go_upto_region 4 with fail
  have hP1 := hP.setDep (d + 1)
  have hF1 := QFr.set hP 3 (.int .i64 (d + 1))
  generalize w.setCell ⟨b, 3, none⟩ (.int .i64 (d + 1)) = w1 at *
  clear c4 c3 f3 hP
  have c1 := hP1.at_
  have f1 := hP1.frz 1
  have hP2 := hP1.setAt ((i : Int) + 1) (i + 1) (by omega) (by omega)
  have hF2 := hF1.trans (QFr.set hP1 1 (.int .i64 ((i : Int) + 1)))
  clear hP1 hF1
  go_wp2_with fail
  go_end0
  exact ⟨rfl, hP2, hF2⟩
set_option maxHeartbeats 4000000 in
set_option maxRecDepth 100000 in
theorem expect_ok (b : Nat) (A : Option Addr) (c : Nat) (l : List Tok.Tk) (d : Int) (i : Nat) (hl : l.length ≤ 1000000) (out : List Ex.Op) (t : List UInt8) (w : World) (hP : QA w b A c l d i 0 out) :
    Calls Tryz.prog 84 #[.pointer (some ⟨b, 0, none⟩), .string (str t)] w fun r w' => r = .returned (.tuple #[]) ∧ QA w' b A c l d (if Ex.symAt l i t = true then i + 1 else i) (if Ex.symAt l i t = true then 0 else 4) out ∧ Fr b b w w' := by
  have c4 := hP.err
  have hs := symbol_any b A c l d i 0 out t w hP
  have hlt := hP.lt
  cases hsy : Ex.symAt l i t with
  | true =>
    rw [hsy] at hs
    have hi : i < l.length := by
      unfold Ex.symAt at hsy
      split at hsy
      · assumption
      · cases hsy
    clear hsy
    go_enter Tryz.func84, Tryz.ntmps84
    go_wp2_with fail
    with_reducible refine hs.mono ?_
    clear hs
    rintro r w2 ⟨rfl, m, rfl⟩
    have hb2 := below_drewN (Below.refl w.heap.size w) m
    have hP2 := hP.below hb2
    have hF2 : Fr b b w (w.drewN m) := Fr.of hb2 hlt
    generalize w.drewN m = w2 at *
    have c1 := hP2.at_
    have f1 := hP2.frz 1
    have hP3 := hP2.setAt ((i : Int) + 1) (i + 1) (by omega) (by omega)
    have hF3 := hF2.trans (QFr.set hP2 1 (.int .i64 ((i : Int) + 1)))
    clear hP hP2 hF2 hb2 c4
    go_wp2_with fail
    go_end0
    exact ⟨rfl, hP3, hF3⟩
  | false =>
    rw [hsy] at hs
    clear hsy
    go_enter Tryz.func84, Tryz.ntmps84
    go_wp2_with fail
    with_reducible refine hs.mono ?_
    clear hs
    rintro r w2 ⟨rfl, m, rfl⟩
    have hb2 := below_drewN (Below.refl w.heap.size w) m
    have hP2 := hP.below hb2
    have hF2 : Fr b b w (w.drewN m) := Fr.of hb2 hlt
    generalize w.drewN m = w2 at *
    have hcall := fail_ok b A c l d i out 4 w2 hP2
    clear hP hP2 hb2 c4
    go_wp2_with fail
    with_reducible refine hcall.mono ?_
    clear hcall
    rintro r w3 ⟨rfl, hP3, hF3⟩
    go_wp2_with fail
    refine bodyPost_ret (results_none rfl _ _ _) rfl ?_
    exact ⟨rfl, hP3, hF2.trans hF3⟩
end Go.Proofs.YtndehkoglgakpaaGreatDoor
end
section
namespace Go.Proofs.YtndehkoglgakpaaGreatDoor
namespace Ex
open Tok (Tk)
theorem sym_no : ∀ t ∈ Tok.symsL, Tok.nameOk t = false ∧ (Tok.number t).2 = 4 ∧ t ≠ [] := by decide
theorem isSym_no {t : List UInt8} (h : Tok.isSym t = true) : Tok.nameOk t = false ∧ (Tok.number t).2 = 4 ∧ t ≠ [] := sym_no t (by simpa [Tok.isSym] using h)
theorem name_lev {t : List UInt8} (h : Tok.isSym t = false) : levL t = 0 ∧ unL t = false ∧ t ≠ [40] ∧ t ≠ [41] ∧ t ≠ [44] := by
  have hne : ∀ x : List UInt8, Tok.isSym x = true → t ≠ x := fun x hx e => by rw [e, hx] at h; cases h
  refine ⟨?_, ?_, hne _ (by decide), hne _ (by decide), hne _ (by decide)⟩
  · by_cases h0 : 0 < levL t
    · have := (lev_sym h0).1; rw [h] at this; cases this
    · omega
  · cases hu : unL t with
    | false => rfl
    | true => have := (un_sym hu).1; rw [h] at this; cases this
/-- The kinds of a valid token. -/
theorem valid_kind {u : Tk} (h : Tok.valid u = true) : (u.kind = 1 ∧ Tok.nameOk u.text = true ∧ Tok.isSym u.text = false) ∨ (u.kind = 2 ∧ (Tok.number u.text).2 = 0 ∧ Tok.isSym u.text = false ∧ Tok.nameOk u.text = false) ∨ (u.kind = 3 ∧ Tok.isSym u.text = true) := by
  have hs : Tok.isSym u.text = true ∨ Tok.isSym u.text = false := by cases Tok.isSym u.text; exact .inr rfl; exact .inl rfl
  unfold Tok.valid at h
  by_cases h1 : u.kind = 1
  · rw [if_pos h1] at h
    refine .inl ⟨h1, h, ?_⟩
    rcases hs with hs | hs
    · have := (isSym_no hs).1; rw [h] at this; cases this
    · exact hs
  · rw [if_neg h1] at h
    by_cases h2 : u.kind = 2
    · rw [if_pos h2] at h
      have h0 : (Tok.number u.text).2 = 0 := by simpa using h
      refine .inr (.inl ⟨h2, h0, ?_, ?_⟩)
      · rcases hs with hs | hs
        · have := (isSym_no hs).2.1; rw [h0] at this; cases this
        · exact hs
      · obtain ⟨hz, hd⟩ := Tok.number_form u.text (by rw [h0]; decide)
        generalize u.text = x at *
        cases x with
        | nil => exact absurd rfl hz
        | cons c r =>
          have hc : Tok.isDig c = true := by
            cases hq : Tok.isDig c with
            | true => rfl
            | false => simp [hq] at hd
          have hl : Tok.isLet c = false := by
            unfold Tok.isDig at hc; unfold Tok.isLet
            simp only [decide_eq_true_eq, decide_eq_false_iff_not] at hc ⊢
            omega
          unfold Tok.nameOk
          simp [hl]
    · rw [if_neg h2] at h
      by_cases h3 : u.kind = 3
      · rw [if_pos h3] at h; exact .inr (.inr ⟨h3, h⟩)
      · rw [if_neg h3] at h; cases h
theorem nxt_at {l : List Tk} {i : Nat} (h : i < l.length) : nxt l i = l[i].text := dif_pos h
/-- A symbol stands where its text does. -/
theorem symAt_nxt {l : List Tk} (hv : l.all Tok.valid = true) {i : Nat} {t : List UInt8} (ht : Tok.isSym t = true) : symAt l i t = decide (nxt l i = t) := by
  unfold symAt
  by_cases h : i < l.length
  · rw [dif_pos h, nxt_at h]
    have hu := List.all_eq_true.1 hv _ (List.getElem_mem h)
    generalize l[i] = u at *
    by_cases he : u.text = t
    · rw [he]
      rcases valid_kind hu with ⟨hk, hn, hs⟩ | ⟨hk, hn, hs, _⟩ | ⟨hk, hs⟩
      · rw [he, ht] at hs; cases hs
      · rw [he, ht] at hs; cases hs
      · rw [hk]; simp
    · have : (u.text == t) = false := by rw [beq_eq_false_iff_ne]; exact he
      rw [this, Bool.and_false]; simp [he]
  · rw [dif_neg h, nxt_end (by omega)]
    have := (isSym_no ht).2.2
    simp [Ne.symm this]
/-- Each operation has a token. -/
def Room (f : Pr) : Prop := ∀ d i out, (f d i out).e = 0 → (f d i out).out.length + i ≤ out.length + (f d i out).i
theorem then_room {r : Rs} {o : Op} {n m : Nat} (h : r.e = 0 → r.out.length + 1 + n ≤ m + r.i) (he : (then_ r o).e = 0) : (then_ r o).out.length + n ≤ m + (then_ r o).i := by
  unfold then_ at he ⊢
  split
  · rename_i h0; have := h h0; simp; omega
  · rename_i h0; rw [if_neg h0] at he; exact absurd he h0
theorem nest_room {f : Pr} (h : Room f) (d i : Nat) (out : List Op) (he : (nest f d i out).e = 0) : (nest f d i out).out.length + 1 + i ≤ out.length + (nest f d i out).i := by
  unfold nest at he ⊢
  split
  · rename_i h0; rw [if_pos h0] at he; cases he
  · rename_i h0; rw [if_neg h0] at he; have := h (d + 1) (i + 1) out he; omega
theorem inPar_room {l : List Tk} {f : Pr} (h : Room f) (d i : Nat) (out : List Op) (he : (inPar l f d i out).e = 0) : (inPar l f d i out).out.length + 2 + i ≤ out.length + (inPar l f d i out).i := by
  rw [inPar_def] at he ⊢
  split
  · rename_i h0
    rw [if_pos h0] at he
    split
    · rename_i h1
      rw [if_pos h1] at he
      have := nest_room h d i out h1
      split
      · dsimp only; omega
      · rename_i h2; rw [if_neg h2] at he; cases he
    · rename_i h1; rw [if_neg h1] at he; exact absurd he h1
  · rename_i h0; rw [if_neg h0] at he; cases he
theorem args_room {l : List Tk} {f : Pr} (h : Room f) (d : Nat) : ∀ (j c i : Nat) (out : List Op), (args l f d j c i out).2.e = 0 → (args l f d j c i out).2.out.length + i ≤ out.length + (args l f d j c i out).2.i
  | 0, _, _, _, he => by cases he
  | j + 1, c, i, out, he => by
    rw [args_succ] at he ⊢
    by_cases h0 : (f d i out).e = 0
    · have h1 := h d i out h0
      rw [if_pos h0] at he ⊢
      by_cases h2 : nxt l (f d i out).i = [44]
      · rw [if_pos h2] at he ⊢
        by_cases h8 : c = 8
        · rw [if_pos h8] at he; cases he
        · rw [if_neg h8] at he ⊢
          have := args_room (l := l) h d j (c + 1) ((f d i out).i + 1) (f d i out).out he
          omega
      · rw [if_neg h2] at he ⊢; exact h1
    · rw [if_neg h0] at he; exact absurd he h0
theorem allArgs_room {l : List Tk} {f : Pr} (h : Room f) : Room fun d i out => (allArgs l f d i out).2 := fun d i out he => by
  show (allArgs l f d i out).2.out.length + i ≤ out.length + (allArgs l f d i out).2.i
  change (allArgs l f d i out).2.e = 0 at he
  unfold allArgs at he ⊢
  split
  · exact Nat.le_refl _
  · rename_i h0; rw [if_neg h0] at he; exact args_room h d 9 1 i out he
theorem prim_room {l : List Tk} {f : Pr} (h : Room f) : Room (prim l f) := fun d i out he => by
  unfold prim at he ⊢
  dsimp only at he ⊢
  split
  · rename_i h0; rw [if_pos h0] at he; have := inPar_room h d i out he; omega
  · rename_i h0; rw [if_neg h0] at he
    split
    · rename_i h1; rw [if_pos h1] at he
      exact then_room (fun h2 => by have := inPar_room h d (i + 1) out h2; omega) he
    · rename_i h1; rw [if_neg h1] at he
      split
      · rename_i h2; rw [if_pos h2] at he
        exact then_room (fun h3 => by have := inPar_room (l := l) (f := fun _ i out => ⟨0, i, out⟩) (fun _ _ _ _ => Nat.le_refl _) d (i + 1) out h3; omega) he
      · rename_i h2; rw [if_neg h2] at he
        split
        · rename_i h3; rw [if_pos h3] at he
          unfold named at he ⊢
          split
          · rename_i h4; rw [if_pos h4] at he
            exact then_room (fun h5 => by have := inPar_room (allArgs_room h) d (i + 1) out h5; omega) he
          · simp; omega
        · rename_i h3; rw [if_neg h3] at he
          split
          · simp; omega
          · rename_i h4; rw [if_neg h4] at he; cases he
theorem bins_room {l : List Tk} {g : Pr} (h : Room g) (n d : Nat) : ∀ (j : Nat) (r : Rs), (bins l n g d j r).e = 0 → (bins l n g d j r).out.length + r.i ≤ r.out.length + (bins l n g d j r).i
  | 0, _, _ => Nat.le_refl _
  | j + 1, r, he => by
    rw [bins_succ] at he ⊢
    by_cases h0 : r.e = 0 ∧ levL (nxt l r.i) = n
    · rw [if_pos h0] at he ⊢
      have h1 := bins_room (l := l) h n d j _ he
      have h2 : (then_ (g d (r.i + 1) r.out) ⟨7, nxt l r.i, 0⟩).e = 0 := by
        by_cases hx : (then_ (g d (r.i + 1) r.out) ⟨7, nxt l r.i, 0⟩).e = 0
        · exact hx
        · rw [bins_err hx] at he; exact absurd he hx
      have h3 := then_room (n := r.i) (m := r.out.length) (fun h4 => by have := h d (r.i + 1) r.out h4; omega) h2
      omega
    · rw [if_neg h0]; exact Nat.le_refl _
theorem lev_room (l : List Tk) : ∀ k n, Room (lev l k n)
  | 0, _ => fun _ _ _ he => by cases he
  | k + 1, n => fun d i out he => by
    rw [lev] at he ⊢
    dsimp only at he ⊢
    split
    · rename_i h0; rw [if_pos h0] at he
      have h1 := bins_room (l := l) (lev_room l k (n + 1)) n d (l.length + 1) _ he
      have h2 : (lev l k (n + 1) d i out).e = 0 := by
        by_cases hx : (lev l k (n + 1) d i out).e = 0
        · exact hx
        · rw [bins_err hx] at he; exact absurd he hx
      have h3 := lev_room l k (n + 1) d i out h2
      omega
    · rename_i h0; rw [if_neg h0] at he
      split
      · rename_i h1; rw [if_pos h1] at he
        exact then_room (fun h2 => by have := nest_room (lev_room l k 11) d i out h2; omega) he
      · rename_i h1; rw [if_neg h1] at he; exact prim_room (lev_room l k 1) d i out he
end Ex
end Go.Proofs.YtndehkoglgakpaaGreatDoor
end
section
namespace Go.Proofs.YtndehkoglgakpaaGreatDoor
namespace Ex
open Tok (Tk)
/-- Depth, place, error, formula. -/
structure St where
  d : Int
  i : Nat
  e : Int
  out : List Op
deriving DecidableEq, Inhabited
def out1 (s : St) (o : Op) : St := ⟨s.d, s.i, s.e, s.out ++ [o]⟩
def decS (s : St) : St := ⟨s.d - 1, s.i, s.e, s.out⟩
def fwdS (s : St) : St := ⟨s.d, s.i + 1, s.e, s.out⟩
def failS (s : St) (x : Int) : St := if s.e = 0 then ⟨s.d, s.i, x, s.out⟩ else s
def expectS (l : List Tk) (t : List UInt8) (s : St) : St := if s.e = 0 then (if symAt l s.i t = true then fwdS s else ⟨s.d, s.i, 4, s.out⟩) else s
def enterS (s : St) : St := if s.e = 0 then (if 25 ≤ s.d then ⟨s.d, s.i, 11, s.out⟩ else ⟨s.d + 1, s.i + 1, s.e, s.out⟩) else s
/-- Behind a parenthesis that stands here. -/
def parS (l : List Tk) (F : St → St) (s : St) : St := decS (expectS l [41] (F (enterS s)))
def argsS (l : List Tk) (L : St → St) : Nat → Nat → St → Nat × St
  | 0, c, s => (c, ⟨s.d, s.i, 99, s.out⟩)
  | j + 1, c, s =>
    if (L s).e = 0 ∧ symAt l (L s).i [44] = true then (if c + 1 = 8 then (c + 1, failS (L s) 10) else argsS l L j (c + 1) (fwdS (L s)))
    else (c + 1, L s)
/-- The arguments, unless there is an error by now. -/
def allS (l : List Tk) (L : St → St) (s : St) : Nat × St := if s.e = 0 then (if symAt l s.i [41] = true then (0, s) else argsS l L 9 0 s) else (0, s)
def callS (l : List Tk) (L : St → St) (t : List UInt8) (s : St) : St :=
  if symAt l s.i [40] = true then out1 (parS l (fun s => (allS l L s).2) s) ⟨3, t, (allS l L (enterS s)).1⟩
  else out1 s ⟨2, t, 0⟩
def primS (l : List Tk) (P L : St → St) (s : St) : St :=
  if h : s.i < l.length then
    if l[s.i].kind = 2 then out1 (fwdS s) ⟨1, [], (Tok.number l[s.i].text).1⟩
    else if l[s.i].kind = 3 ∧ unL l[s.i].text = true then out1 (decS (P (enterS s))) ⟨6, l[s.i].text, 0⟩
    else if symAt l s.i [40] = true then parS l L s
    else if l[s.i].kind = 1 ∧ l[s.i].text = [108, 111, 97, 100] then (if symAt l (s.i + 1) [40] = true then out1 (parS l L (fwdS s)) ⟨4, [], 0⟩ else failS (fwdS s) 4)
    else if l[s.i].kind = 1 ∧ l[s.i].text = [105, 110] then (if symAt l (s.i + 1) [40] = true then out1 (parS l (fun s => s) (fwdS s)) ⟨5, [], 0⟩ else failS (fwdS s) 4)
    else if l[s.i].kind = 1 ∧ idB l[s.i].text = true then callS l L l[s.i].text (fwdS s)
    else failS s 4
  else failS s 4
def loopS (l : List Tk) (n : Nat) (L : St → St) : Nat → St → St
  | 0, s => s
  | j + 1, s => if s.e = 0 ∧ levL (nxt l s.i) = n then loopS l n L j (out1 (L (fwdS s)) ⟨7, nxt l s.i, 0⟩) else s
def levS (l : List Tk) : Nat → Nat → St → St
  | 0, _, s => if s.e = 0 then ⟨s.d, s.i, 99, s.out⟩ else s
  | k + 1, n, s =>
    if s.e = 0 then
      if n < 11 then loopS l n (levS l k (n + 1)) (l.length + 1) (levS l k (n + 1) s)
      else primS l (levS l k 11) (levS l k 1) s
    else s
/-- The same error; without one the same place, formula and depth. -/
def Like (d : Nat) (r : Rs) (s : St) : Prop := s.e = r.e ∧ (r.e = 0 → s = ⟨(d : Int), r.i, 0, r.out⟩)
def Agree (f : Pr) (F : St → St) : Prop := (∀ (d i : Nat) (out : List Op), (f d i out).e ≠ 99 → Like d (f d i out) (F ⟨(d : Int), i, 0, out⟩)) ∧ ∀ s, s.e ≠ 0 → F s = s
theorem like_bad {d : Nat} {r : Rs} {s : St} (h : s.e = r.e) (h0 : r.e ≠ 0) : Like d r s := ⟨h, fun h1 => absurd h1 h0⟩
theorem then_e (r : Rs) (o : Op) : (then_ r o).e = r.e := by unfold then_; split <;> first | rfl | (rename_i h; exact h.symm)
theorem like_out {d : Nat} {r : Rs} {s : St} (h : Like d r s) (o : Op) : Like d (then_ r o) (out1 s o) := by
  refine ⟨h.1.trans (then_e r o).symm, fun h0 => ?_⟩
  have h1 : r.e = 0 := (then_e r o).symm.trans h0
  rw [h.2 h1]
  simp [out1, then_, h1]
theorem num_name {t : List UInt8} (h : (Tok.number t).2 = 0) : Tok.nameOk t = false := by
  obtain ⟨hz, hd⟩ := Tok.number_form t (by rw [h]; decide)
  cases t with
  | nil => exact absurd rfl hz
  | cons c r =>
    have hc : Tok.isDig c = true := by
      cases hq : Tok.isDig c with
      | true => rfl
      | false => simp [hq] at hd
    have hl : Tok.isLet c = false := by
      unfold Tok.isDig at hc; unfold Tok.isLet
      simp only [decide_eq_true_eq, decide_eq_false_iff_not] at hc ⊢
      omega
    unfold Tok.nameOk
    simp [hl]
section
variable {l : List Tk} {f : Pr} {F : St → St}
theorem nest_like (h : Agree f F) (d i : Nat) (out : List Op) (hn : (nest f d i out).e ≠ 99) :
    (F (enterS ⟨(d : Int), i, 0, out⟩)).e = (nest f d i out).e ∧ ((nest f d i out).e = 0 → F (enterS ⟨(d : Int), i, 0, out⟩) = ⟨(d : Int) + 1, (nest f d i out).i, 0, (nest f d i out).out⟩) := by
  unfold nest at hn ⊢
  by_cases hd : 24 < d
  · have hE : enterS ⟨(d : Int), i, 0, out⟩ = ⟨(d : Int), i, 11, out⟩ := by
      unfold enterS; rw [if_pos rfl, if_pos (by show (25 : Int) ≤ d; omega)]
    rw [if_pos hd, hE, h.2 _ (by show (11 : Int) ≠ 0; decide)]
    exact ⟨rfl, fun h0 => by cases h0⟩
  · have hE : enterS ⟨(d : Int), i, 0, out⟩ = ⟨((d + 1 : Nat) : Int), i + 1, 0, out⟩ := by
      unfold enterS; rw [if_pos rfl, if_neg (by show ¬ (25 : Int) ≤ d; omega)]; simp
    rw [if_neg hd] at hn ⊢
    rw [hE]
    have hL := h.1 (d + 1) (i + 1) out hn
    refine ⟨hL.1, fun h0 => ?_⟩
    rw [hL.2 h0]; simp
theorem par_like (hv : l.all Tok.valid = true) (h : Agree f F) (d i : Nat) (out : List Op) (hp : nxt l i = [40]) (hn : (inPar l f d i out).e ≠ 99) : Like d (inPar l f d i out) (parS l F ⟨(d : Int), i, 0, out⟩) := by
  rw [inPar_def, if_pos hp] at hn ⊢
  by_cases h0 : (nest f d i out).e = 0
  · have hN := (nest_like h d i out (by rw [h0]; decide)).2 h0
    rw [if_pos h0] at hn ⊢
    unfold parS
    rw [hN]
    unfold expectS
    rw [if_pos rfl]
    dsimp only
    rw [symAt_nxt hv (t := [41]) (by decide)]
    by_cases h1 : nxt l (nest f d i out).i = [41]
    · rw [if_pos h1, if_pos (by rw [h1]; rfl)]
      refine ⟨rfl, fun _ => ?_⟩
      simp [decS, fwdS]
    · rw [if_neg h1, if_neg (by simp [h1])]
      exact like_bad rfl (by show (4 : Int) ≠ 0; decide)
  · rw [if_neg h0] at hn ⊢
    have hN := (nest_like h d i out hn).1
    refine like_bad ?_ h0
    unfold parS expectS
    rw [if_neg (by rw [hN]; exact h0)]
    exact hN
theorem args_like (hv : l.all Tok.valid = true) (h : Agree f F) (d : Nat) : ∀ (j c i : Nat) (out : List Op), (args l f d j (c + 1) i out).2.e ≠ 99 →
    Like d (args l f d j (c + 1) i out).2 (argsS l F j c ⟨(d : Int), i, 0, out⟩).2 ∧ ((args l f d j (c + 1) i out).2.e = 0 → ((argsS l F j c ⟨(d : Int), i, 0, out⟩).1 = (args l f d j (c + 1) i out).1))
  | 0, _, _, _, hn => absurd rfl hn
  | j + 1, c, i, out, hn => by
    rw [args_succ] at hn ⊢
    unfold argsS
    by_cases h0 : (f d i out).e = 0
    · have hF := (h.1 d i out (by rw [h0]; decide)).2 h0
      rw [if_pos h0] at hn ⊢
      rw [hF]
      dsimp only
      rw [symAt_nxt hv (t := [44]) (by decide)]
      by_cases h1 : nxt l (f d i out).i = [44]
      · rw [if_pos h1] at hn ⊢
        have hb : (0 : Int) = 0 ∧ decide (nxt l (f d i out).i = [44]) = true := ⟨rfl, by simp [h1]⟩
        rw [if_pos hb]
        by_cases h8 : c + 1 = 8
        · rw [if_pos h8, if_pos h8]
          exact ⟨like_bad rfl (by show (10 : Int) ≠ 0; decide), fun h2 => by cases h2⟩
        · rw [if_neg h8] at hn ⊢
          rw [if_neg h8]
          exact args_like hv h d j (c + 1) ((f d i out).i + 1) (f d i out).out hn
      · rw [if_neg h1, if_neg (by simp [h1])]
        exact ⟨⟨h0.symm, fun _ => rfl⟩, fun _ => rfl⟩
    · rw [if_neg h0] at hn ⊢
      have hF := (h.1 d i out hn).1
      rw [if_neg (by rw [hF]; exact fun h2 => h0 h2.1)]
      exact ⟨like_bad hF h0, fun h2 => absurd h2 h0⟩
theorem all_like (hv : l.all Tok.valid = true) (h : Agree f F) (d i : Nat) (out : List Op) (hn : (allArgs l f d i out).2.e ≠ 99) :
    Like d (allArgs l f d i out).2 (allS l F ⟨(d : Int), i, 0, out⟩).2 ∧ ((allArgs l f d i out).2.e = 0 → ((allS l F ⟨(d : Int), i, 0, out⟩).1 = (allArgs l f d i out).1)) := by
  unfold allArgs at hn ⊢
  unfold allS
  rw [if_pos rfl, symAt_nxt hv (t := [41]) (by decide)]
  dsimp only
  by_cases h1 : nxt l i = [41]
  · rw [if_pos h1, if_pos (by rw [h1]; rfl)]
    exact ⟨⟨rfl, fun _ => rfl⟩, fun _ => rfl⟩
  · rw [if_neg h1] at hn ⊢
    rw [if_neg (by simp [h1])]
    exact args_like hv h d 9 0 i out hn
theorem all_agree (hv : l.all Tok.valid = true) (h : Agree f F) : Agree (fun d i out => (allArgs l f d i out).2) (fun s => (allS l F s).2) :=
  ⟨fun d i out hn => (all_like hv h d i out hn).1, fun s hs => by show (allS l F s).2 = s; unfold allS; rw [if_neg hs]⟩
theorem call_like (hv : l.all Tok.valid = true) (h : Agree f F) (t : List UInt8) (d i : Nat) (out : List Op) (hn : (named l f t d i out).e ≠ 99) : Like d (named l f t d i out) (callS l F t ⟨(d : Int), i, 0, out⟩) := by
  unfold named at hn ⊢
  unfold callS
  dsimp only
  rw [symAt_nxt hv (t := [40]) (by decide)]
  by_cases h1 : nxt l i = [40]
  · rw [if_pos h1] at hn ⊢
    rw [if_pos (by rw [h1]; rfl)]
    rw [then_e] at hn
    have hp := par_like hv (all_agree hv h) d i out h1 hn
    by_cases h0 : (inPar l (fun d i out => (allArgs l f d i out).2) d i out).e = 0
    · have hc : (allS l F (enterS ⟨(d : Int), i, 0, out⟩)).1 = (allArgs l f (d + 1) (i + 1) out).1 := by
        rw [inPar_def, if_pos h1] at h0
        have h2 : (nest (fun d i out => (allArgs l f d i out).2) d i out).e = 0 := by
          by_cases h3 : (nest (fun d i out => (allArgs l f d i out).2) d i out).e = 0
          · exact h3
          · rw [if_neg h3] at h0; exact absurd h0 h3
        unfold nest at h2
        by_cases hd : 24 < d
        · rw [if_pos hd] at h2; cases h2
        · rw [if_neg hd] at h2
          have hE : enterS ⟨(d : Int), i, 0, out⟩ = ⟨((d + 1 : Nat) : Int), i + 1, 0, out⟩ := by
            unfold enterS; rw [if_pos rfl, if_neg (by show ¬ (25 : Int) ≤ d; omega)]; simp
          rw [hE]
          exact (all_like hv h (d + 1) (i + 1) out (by rw [h2]; decide)).2 h2
      rw [hc]
      exact like_out hp _
    · exact like_bad (hp.1.trans (then_e _ _).symm) (by rw [then_e]; exact h0)
  · rw [if_neg h1, if_neg (by simp [h1])]
    exact ⟨rfl, fun _ => rfl⟩
theorem unary_like (h : Agree f F) (d i : Nat) (out : List Op) (hn : (nest f d i out).e ≠ 99) : Like d (nest f d i out) (decS (F (enterS ⟨(d : Int), i, 0, out⟩))) := by
  have hN := nest_like h d i out hn
  refine ⟨hN.1, fun h0 => ?_⟩
  rw [hN.2 h0]; simp [decS]
theorem same_agree : Agree (fun _ i out => ⟨0, i, out⟩) (fun s => s) := ⟨fun _ _ _ _ => ⟨rfl, fun _ => rfl⟩, fun _ _ => rfl⟩
theorem prim_like {g : Pr} {P : St → St} (hv : l.all Tok.valid = true) (hg : Agree g P) (h : Agree f F) (d i : Nat) (out : List Op)
    (hn : (if unL (nxt l i) = true then then_ (nest g d i out) ⟨6, nxt l i, 0⟩ else prim l f d i out).e ≠ 99) :
    Like d (if unL (nxt l i) = true then then_ (nest g d i out) ⟨6, nxt l i, 0⟩ else prim l f d i out) (primS l P F ⟨(d : Int), i, 0, out⟩) := by
  unfold primS
  dsimp only
  by_cases hi : i < l.length
  · rw [dif_pos hi]
    have hu := List.all_eq_true.1 hv _ (List.getElem_mem hi)
    have hx := nxt_at hi
    rw [← hx]
    rw [symAt_nxt hv (t := [40]) (by decide), symAt_nxt hv (t := [40]) (by decide)]
    have hf1 : ∀ o : List Op, fwdS ⟨(d : Int), i, 0, o⟩ = ⟨(d : Int), i + 1, 0, o⟩ := fun _ => rfl
    rcases valid_kind hu with ⟨hk, hnm, hs⟩ | ⟨hk, hnm, hs, hno⟩ | ⟨hk, hs⟩
    · rw [← hx] at hnm hs
      obtain ⟨_, hun, h40, _, _⟩ := name_lev hs
      have n2 : ¬ ((1 : Int) = 2) := by decide
      have n3 : ¬ ((1 : Int) = 3 ∧ unL (nxt l i) = true) := fun c => absurd c.1 (by decide)
      have n4 : ¬ (decide (nxt l i = [40]) = true) := fun c => h40 (of_decide_eq_true c)
      have n5 : ¬ (unL (nxt l i) = true) := by rw [hun]; decide
      rw [hk, if_neg n2, if_neg n3, if_neg n4]
      rw [if_neg n5] at hn ⊢
      unfold prim at hn ⊢
      dsimp only at hn ⊢
      rw [if_neg h40] at hn ⊢
      by_cases hl : nxt l i = [108, 111, 97, 100]
      · rw [if_pos hl] at hn ⊢
        have m1 : (1 : Int) = 1 ∧ nxt l i = [108, 111, 97, 100] := ⟨rfl, hl⟩
        rw [if_pos m1, hf1]
        by_cases h4 : nxt l (i + 1) = [40]
        · have d4 : decide (nxt l (i + 1) = [40]) = true := decide_eq_true h4
          rw [if_pos d4]
          rw [then_e] at hn
          exact like_out (par_like hv h d (i + 1) out h4 hn) _
        · have d4 : ¬ (decide (nxt l (i + 1) = [40]) = true) := fun c => h4 (of_decide_eq_true c)
          rw [if_neg d4]
          have hp : inPar l f d (i + 1) out = ⟨4, i + 1, out⟩ := by rw [inPar_def, if_neg h4]
          rw [hp]
          exact like_bad rfl (by rw [then_e]; show (4 : Int) ≠ 0; decide)
      · rw [if_neg hl] at hn ⊢
        have m1 : ¬ ((1 : Int) = 1 ∧ nxt l i = [108, 111, 97, 100]) := fun c => hl c.2
        rw [if_neg m1]
        by_cases hin : nxt l i = [105, 110]
        · rw [if_pos hin] at hn ⊢
          have m2 : (1 : Int) = 1 ∧ nxt l i = [105, 110] := ⟨rfl, hin⟩
          rw [if_pos m2, hf1]
          by_cases h4 : nxt l (i + 1) = [40]
          · have d4 : decide (nxt l (i + 1) = [40]) = true := decide_eq_true h4
            rw [if_pos d4]
            rw [then_e] at hn
            exact like_out (par_like hv same_agree d (i + 1) out h4 hn) _
          · have d4 : ¬ (decide (nxt l (i + 1) = [40]) = true) := fun c => h4 (of_decide_eq_true c)
            rw [if_neg d4]
            have hp : inPar l (fun _ i out => ⟨0, i, out⟩) d (i + 1) out = ⟨4, i + 1, out⟩ := by rw [inPar_def, if_neg h4]
            rw [hp]
            exact like_bad rfl (by rw [then_e]; show (4 : Int) ≠ 0; decide)
        · rw [if_neg hin] at hn ⊢
          have m2 : ¬ ((1 : Int) = 1 ∧ nxt l i = [105, 110]) := fun c => hin c.2
          rw [if_neg m2]
          by_cases hid : idB (nxt l i) = true
          · rw [if_pos hid] at hn ⊢
            have m3 : (1 : Int) = 1 ∧ idB (nxt l i) = true := ⟨rfl, hid⟩
            rw [if_pos m3, hf1]
            exact call_like hv h (nxt l i) d (i + 1) out hn
          · rw [if_neg hid] at hn ⊢
            have m3 : ¬ ((1 : Int) = 1 ∧ idB (nxt l i) = true) := fun c => hid c.2
            rw [if_neg m3]
            have hnn : ¬ (Tok.number (nxt l i)).2 = 0 := fun c => by rw [num_name c] at hnm; cases hnm
            rw [if_neg hnn]
            exact like_bad rfl (by show (4 : Int) ≠ 0; decide)
    · rw [← hx] at hnm hs hno
      obtain ⟨_, hun, h40, _, _⟩ := name_lev hs
      have n5 : ¬ (unL (nxt l i) = true) := by rw [hun]; decide
      rw [hk, if_pos rfl, if_neg n5]
      have hl : nxt l i ≠ [108, 111, 97, 100] := fun c => by rw [c] at hno; cases hno
      have hin : nxt l i ≠ [105, 110] := fun c => by rw [c] at hno; cases hno
      unfold prim
      dsimp only
      have nid : ¬ (idB (nxt l i) = true) := by unfold idB; rw [hno, Bool.false_and]; decide
      rw [if_neg h40, if_neg hl, if_neg hin, if_neg nid, if_pos hnm]
      exact ⟨rfl, fun _ => rfl⟩
    · rw [← hx] at hs
      have n2 : ¬ ((3 : Int) = 2) := by decide
      rw [hk, if_neg n2]
      obtain ⟨hno, hnu, _⟩ := isSym_no hs
      by_cases hun : unL (nxt l i) = true
      · rw [if_pos hun] at hn ⊢
        have m1 : (3 : Int) = 3 ∧ unL (nxt l i) = true := ⟨rfl, hun⟩
        rw [if_pos m1]
        rw [then_e] at hn
        exact like_out (unary_like hg d i out hn) _
      · rw [if_neg hun] at hn ⊢
        have m1 : ¬ ((3 : Int) = 3 ∧ unL (nxt l i) = true) := fun c => hun c.2
        rw [if_neg m1]
        unfold prim at hn ⊢
        dsimp only at hn ⊢
        by_cases h40 : nxt l i = [40]
        · rw [if_pos h40] at hn ⊢
          have d4 : decide (nxt l i = [40]) = true := decide_eq_true h40
          rw [if_pos d4]
          exact par_like hv h d i out h40 hn
        · have d4 : ¬ (decide (nxt l i = [40]) = true) := fun c => h40 (of_decide_eq_true c)
          have k1 : ∀ p : Prop, ¬ ((3 : Int) = 1 ∧ p) := fun p c => absurd c.1 (by decide)
          rw [if_neg h40, if_neg d4, if_neg (k1 _), if_neg (k1 _), if_neg (k1 _)]
          have hl : nxt l i ≠ [108, 111, 97, 100] := fun c => by rw [c] at hs; revert hs; decide
          have hin : nxt l i ≠ [105, 110] := fun c => by rw [c] at hs; revert hs; decide
          have nid : ¬ (idB (nxt l i) = true) := by unfold idB; rw [hno, Bool.false_and]; decide
          have nnu : ¬ ((Tok.number (nxt l i)).2 = 0) := by rw [hnu]; decide
          rw [if_neg hl, if_neg hin, if_neg nid, if_neg nnu]
          exact like_bad rfl (by show (4 : Int) ≠ 0; decide)
  · rw [dif_neg hi]
    have he : nxt l i = [] := nxt_end (by omega)
    rw [he]
    have hp : prim l f d i out = ⟨4, i, out⟩ := by
      unfold prim; dsimp only; rw [he]; rfl
    rw [if_neg (by decide), hp]
    exact like_bad rfl (by show (4 : Int) ≠ 0; decide)
theorem loop_like (h : Agree f F) (n d : Nat) : ∀ (j : Nat) (r : Rs) (s : St), Like d r s → (bins l n f d j r).e ≠ 99 → Like d (bins l n f d j r) (loopS l n F j s)
  | 0, _, _, hl, _ => hl
  | j + 1, r, s, hl, hn => by
    rw [bins_succ] at hn ⊢
    unfold loopS
    by_cases h0 : r.e = 0
    · have hs := hl.2 h0
      subst hs
      dsimp only
      by_cases h1 : levL (nxt l r.i) = n
      · have hb : r.e = 0 ∧ levL (nxt l r.i) = n := ⟨h0, h1⟩
        have hc : (0 : Int) = 0 ∧ levL (nxt l r.i) = n := ⟨rfl, h1⟩
        rw [if_pos hb] at hn ⊢
        rw [if_pos hc]
        have h2 : (f d (r.i + 1) r.out).e ≠ 99 := fun c => by
          have h3 : (then_ (f d (r.i + 1) r.out) ⟨7, nxt l r.i, 0⟩).e = 99 := (then_e _ _).trans c
          rw [bins_err (by rw [h3]; decide)] at hn
          exact hn h3
        exact loop_like h n d j _ _ (like_out (h.1 d (r.i + 1) r.out h2) _) hn
      · rw [if_neg (fun c => h1 c.2), if_neg (fun c => h1 c.2)]
        exact ⟨h0.symm, fun _ => rfl⟩
    · rw [if_neg (fun c => h0 c.1)]
      rw [if_neg (fun c => h0 (hl.1.symm.trans c.1))]
      exact hl
end
theorem lev_agree {l : List Tk} (hv : l.all Tok.valid = true) : ∀ k n, Agree (lev l k n) (levS l k n)
  | 0, _ => ⟨fun _ _ _ hn => absurd rfl hn, fun s hs => by unfold levS; rw [if_neg hs]⟩
  | k + 1, n => by
    refine ⟨fun d i out hn => ?_, fun s hs => by unfold levS; rw [if_neg hs]⟩
    rw [lev] at hn ⊢
    dsimp only at hn ⊢
    unfold levS
    rw [if_pos rfl]
    by_cases h1 : n < 11
    · rw [if_pos h1] at hn ⊢
      rw [if_pos h1]
      have h2 : (lev l k (n + 1) d i out).e ≠ 99 := fun c => by
        rw [bins_err (by rw [c]; decide)] at hn
        exact hn c
      exact loop_like (lev_agree hv k (n + 1)) n d (l.length + 1) _ _ ((lev_agree hv k (n + 1)).1 d i out h2) hn
    · rw [if_neg h1] at hn ⊢
      rw [if_neg h1]
      exact prim_like hv (lev_agree hv k 11) (lev_agree hv k 1) d i out hn
end Ex
end Go.Proofs.YtndehkoglgakpaaGreatDoor
end
section
namespace Go.Proofs.YtndehkoglgakpaaGreatDoor
namespace Ex
open Tok (Tk)
/-- From one state to another, without an error before; x more tokens are taken than operations found. -/
structure Step (l : List Tk) (x : Nat) (s s' : St) : Prop where
  fwd : s.i ≤ s'.i
  top : s'.i ≤ l.length
  ok : s'.e = 0 → s'.d = s.d ∧ s'.out.length + s.i + x ≤ s.out.length + s'.i
  bad : s'.e ≠ 0 → s.d - 1 ≤ s'.d ∧ s'.d ≤ s.d ∧ s'.out.length + s.i + x ≤ s.out.length + s'.i + 1
theorem Step.out {l : List Tk} {x : Nat} {s s' : St} (h : Step l (x + 1) s s') (o : Op) : Step l x s (out1 s' o) :=
  ⟨h.fwd, h.top, fun e => by have := h.ok e; simp [out1]; omega, fun e => by have := h.bad e; simp [out1]; omega⟩
theorem Step.trans {l : List Tk} {x y : Nat} {s s' s'' : St} (h : Step l x s s') (h0 : s'.e = 0) (k : Step l y s' s'') : Step l (x + y) s s'' := by
  have h1 := h.ok h0
  refine ⟨Nat.le_trans h.fwd k.fwd, k.top, fun e => ?_, fun e => ?_⟩
  · have := k.ok e; omega
  · have := k.bad e; omega
theorem Step.less {l : List Tk} {x y : Nat} {s s' : St} (h : Step l x s s') (hy : y ≤ x) : Step l y s s' :=
  ⟨h.fwd, h.top, fun e => by have := h.ok e; omega, fun e => by have := h.bad e; omega⟩
theorem Step.refl {l : List Tk} {s : St} (h : s.i ≤ l.length) : Step l 0 s s := ⟨Nat.le_refl _, h, fun _ => ⟨rfl, by omega⟩, fun _ => ⟨by omega, by omega, by omega⟩⟩
theorem Step.fail {l : List Tk} {s : St} (h : s.i ≤ l.length) {x : Int} (hx : x ≠ 0) (h0 : s.e = 0) : Step l 1 s (failS s x) := by
  unfold failS; rw [if_pos h0]
  exact ⟨Nat.le_refl _, h, fun e => absurd e hx, fun _ => ⟨by dsimp only; omega, by dsimp only; omega, by dsimp only; omega⟩⟩
theorem Step.fwd1 {l : List Tk} {s : St} (h : s.i < l.length) (h0 : s.e = 0) : Step l 1 s (fwdS s) :=
  ⟨by simp [fwdS], h, fun _ => ⟨rfl, by simp [fwdS]; omega⟩, fun e => absurd h0 e⟩
/-- A part that keeps this, and leaves an error alone. -/
def Keeps (l : List Tk) (x : Nat) (F : St → St) : Prop := (∀ s, s.e = 0 → s.i ≤ l.length → Step l x s (F s)) ∧ ∀ s, s.e ≠ 0 → F s = s
theorem symAt_lt {l : List Tk} {i : Nat} {t : List UInt8} (h : symAt l i t = true) : i < l.length := by
  unfold symAt at h
  split at h
  · assumption
  · cases h
section
variable {l : List Tk} {F : St → St}
theorem unary_step (h : Keeps l 0 F) {s : St} (h0 : s.e = 0) (hi : s.i < l.length) : Step l 1 s (decS (F (enterS s))) := by
  unfold enterS
  rw [if_pos h0]
  split
  · rw [h.2 _ (by show (11 : Int) ≠ 0; decide)]
    exact ⟨Nat.le_refl _, Nat.le_of_lt hi, fun e => absurd e (by show (11 : Int) ≠ 0; decide), fun _ => ⟨by simp [decS], by simp [decS]; omega, by simp [decS]⟩⟩
  · have h1 := h.1 ⟨s.d + 1, s.i + 1, s.e, s.out⟩ h0 hi
    generalize F ⟨s.d + 1, s.i + 1, s.e, s.out⟩ = u at *
    have a := h1.fwd
    have b := h1.top
    have c := h1.ok
    have d := h1.bad
    dsimp only at a c d
    exact ⟨by simp [decS]; omega, b, fun e => by have := c e; simp [decS]; omega, fun e => by have := d e; simp [decS]; omega⟩
theorem par_step (h : Keeps l 0 F) {s : St} (h0 : s.e = 0) (hi : s.i < l.length) : Step l 1 s (parS l F s) := by
  have h1 := unary_step h h0 hi
  unfold parS expectS
  generalize F (enterS s) = u at *
  have a := h1.fwd
  have b := h1.top
  have c := h1.ok
  have d := h1.bad
  dsimp only [decS] at a b c d
  by_cases hu : u.e = 0
  · rw [if_pos hu]
    have c0 := c hu
    split
    · rename_i hs
      have := symAt_lt hs
      exact ⟨by simp [decS, fwdS]; omega, by simp [decS, fwdS]; omega, fun _ => by simp [decS, fwdS]; omega, fun e => absurd hu e⟩
    · exact ⟨a, b, fun e => (by cases e), fun _ => by dsimp only [decS]; omega⟩
  · rw [if_neg hu]
    exact ⟨a, b, fun e => absurd e hu, d⟩
theorem args_step (h : Keeps l 0 F) : ∀ (j c : Nat) (s : St), s.e = 0 → s.i ≤ l.length → Step l 0 s (argsS l F j c s).2
  | 0, _, s, _, hi => ⟨Nat.le_refl _, hi, fun e => (by cases e), fun _ => ⟨by simp [argsS]; omega, by simp [argsS], by simp [argsS]⟩⟩
  | j + 1, c, s, h0, hi => by
    have h1 := h.1 s h0 hi
    unfold argsS
    split
    · rename_i hc
      split
      · exact (h1.trans hc.1 (Step.fail h1.top (by decide) hc.1)).less (by omega)
      · have hlt := symAt_lt hc.2
        exact ((h1.trans hc.1 (Step.fwd1 hlt hc.1)).trans hc.1 (args_step h j (c + 1) _ hc.1 hlt)).less (by omega)
    · exact h1
theorem all_keeps (h : Keeps l 0 F) : Keeps l 0 (fun s => (allS l F s).2) := by
  refine ⟨fun s h0 hi => ?_, fun s hs => by show (allS l F s).2 = s; unfold allS; rw [if_neg hs]⟩
  show Step l 0 s (allS l F s).2
  unfold allS
  rw [if_pos h0]
  split
  · exact Step.refl hi
  · exact args_step h 9 0 s h0 hi
theorem call_step (h : Keeps l 0 F) (t : List UInt8) {s : St} (h0 : s.e = 0) (hi : s.i ≤ l.length) (hr : 0 < s.i) : Step l 0 ⟨s.d, s.i - 1, s.e, s.out⟩ (callS l F t s) := by
  have hA : Step l 1 ⟨s.d, s.i - 1, s.e, s.out⟩ s := ⟨by dsimp only; omega, hi, fun _ => ⟨rfl, by dsimp only; omega⟩, fun e => absurd h0 e⟩
  unfold callS
  split
  · rename_i hs
    exact ((hA.trans h0 (par_step (all_keeps h) h0 (symAt_lt hs))).less (by omega)).out _
  · exact hA.out _
theorem loop_step (h : Keeps l 0 F) (n : Nat) (hn : 0 < n) : ∀ (j : Nat) (s : St), s.e = 0 → s.i ≤ l.length → Step l 0 s (loopS l n F j s)
  | 0, s, _, hi => Step.refl hi
  | j + 1, s, h0, hi => by
    unfold loopS
    split
    · rename_i hc
      have hlt : s.i < l.length := by
        by_cases hx : s.i < l.length
        · exact hx
        · rw [nxt_end (by omega)] at hc
          have : levL [] = 0 := by decide
          omega
      have h1 := ((Step.fwd1 hlt h0).trans h0 (h.1 (fwdS s) h0 hlt)).out ⟨7, nxt l s.i, 0⟩
      by_cases hu : (out1 (F (fwdS s)) ⟨7, nxt l s.i, 0⟩).e = 0
      · exact (h1.trans hu (loop_step h n hn j _ hu h1.top)).less (by omega)
      · have : loopS l n F j (out1 (F (fwdS s)) ⟨7, nxt l s.i, 0⟩) = out1 (F (fwdS s)) ⟨7, nxt l s.i, 0⟩ := by
          cases j with
          | zero => rfl
          | succ j => unfold loopS; rw [if_neg (fun c => hu c.1)]
        rw [this]; exact h1
    · exact Step.refl hi
theorem prim_step {P : St → St} (hP : Keeps l 0 P) (h : Keeps l 0 F) {s : St} (h0 : s.e = 0) (hi : s.i ≤ l.length) : Step l 0 s (primS l P F s) := by
  have hsame : Keeps l 0 (fun s => s) := ⟨fun s _ hi => Step.refl hi, fun _ _ => rfl⟩
  unfold primS
  by_cases hlt : s.i < l.length
  · rw [dif_pos hlt]
    have h1 := Step.fwd1 hlt h0
    split
    · exact h1.out _
    · split
      · exact (unary_step hP h0 hlt).out _
      · split
        · exact (par_step h h0 hlt).less (by omega)
        · split
          · split
            · rename_i hs
              exact ((h1.trans h0 (par_step h h0 (symAt_lt hs))).less (y := 1) (by omega)).out _
            · exact (h1.trans h0 (Step.fail (s := fwdS s) hlt (by decide) h0)).less (by omega)
          · split
            · split
              · rename_i hs
                exact ((h1.trans h0 (par_step hsame h0 (symAt_lt hs))).less (y := 1) (by omega)).out _
              · exact (h1.trans h0 (Step.fail (s := fwdS s) hlt (by decide) h0)).less (by omega)
            · split
              · exact call_step h _ (s := fwdS s) h0 hlt (by simp [fwdS])
              · exact (Step.fail hi (by decide) h0).less (by omega)
  · rw [dif_neg hlt]
    exact (Step.fail hi (by decide) h0).less (by omega)
end
theorem lev_keeps (l : List Tk) : ∀ k n, 0 < n → Keeps l 0 (levS l k n)
  | 0, _, _ => ⟨fun s h0 hi => by unfold levS; rw [if_pos h0]; exact ⟨Nat.le_refl _, hi, fun e => (by cases e), fun _ => ⟨by dsimp only; omega, by dsimp only; omega, by dsimp only; omega⟩⟩, fun s hs => by unfold levS; rw [if_neg hs]⟩
  | k + 1, n, hn => by
    refine ⟨fun s h0 hi => ?_, fun s hs => by unfold levS; rw [if_neg hs]⟩
    unfold levS
    rw [if_pos h0]
    split
    · have h1 := (lev_keeps l k (n + 1) (by omega)).1 s h0 hi
      by_cases hu : (levS l k (n + 1) s).e = 0
      · exact (h1.trans hu (loop_step (lev_keeps l k (n + 1) (by omega)) n hn _ _ hu h1.top)).less (by omega)
      · have : loopS l n (levS l k (n + 1)) (l.length + 1) (levS l k (n + 1) s) = levS l k (n + 1) s := by
          rw [loopS, if_neg (fun c => hu c.1)]
        rw [this]; exact h1
    · exact prim_step (lev_keeps l k 11 (by decide)) (lev_keeps l k 1 (by decide)) h0 hi
end Ex
end Go.Proofs.YtndehkoglgakpaaGreatDoor
end
section
namespace Go.Proofs.YtndehkoglgakpaaGreatDoor
namespace Ex
open Tok (Tk)
def Nf (f : Pr) (i0 : Nat) : Prop := ∀ d i out, i0 ≤ i → (f d i out).e ≠ 99
theorem nest_nf {f : Pr} {i d : Nat} {out : List Op} (h : Nf f (i + 1)) : (nest f d i out).e ≠ 99 := by
  unfold nest; split
  · dsimp only; decide
  · exact h _ _ _ (Nat.le_refl _)
theorem inPar_nf {l : List Tk} {f : Pr} {i d : Nat} {out : List Op} (h : i < l.length → Nf f (i + 1)) : (inPar l f d i out).e ≠ 99 := by
  rw [inPar_def]
  split
  · rename_i h0
    have hi : i < l.length := by
      by_cases hx : i < l.length
      · exact hx
      · rw [nxt_end (by omega)] at h0; cases h0
    have h1 := nest_nf (d := d) (out := out) (h hi)
    split
    · split <;> (dsimp only; decide)
    · exact h1
  · dsimp only; decide
theorem args_nf {l : List Tk} {f : Pr} {i0 : Nat} (h : Nf f i0) (hF : Fwd f) (d : Nat) : ∀ (j c i : Nat) (out : List Op), i0 ≤ i → 10 ≤ j + c → c ≤ 8 → (args l f d j c i out).2.e ≠ 99
  | 0, _, _, _, _, hj, hc => by omega
  | j + 1, c, i, out, hi, hj, hc => by
    rw [args_succ]
    have h1 := h d i out hi
    have h2 := hF d i out
    split
    · split
      · split
        · dsimp only; decide
        · rename_i h8
          exact args_nf h hF d j (c + 1) _ _ (by omega) (by omega) (by omega)
      · exact h1
    · exact h1
theorem allArgs_nf {l : List Tk} {f : Pr} {i0 : Nat} (h : Nf f i0) (hF : Fwd f) : Nf (fun d i out => (allArgs l f d i out).2) i0 := fun d i out hi => by
  show (allArgs l f d i out).2.e ≠ 99
  unfold allArgs; split
  · dsimp only; decide
  · exact args_nf h hF d 9 1 i out hi (by decide) (by decide)
theorem Nf.less {f : Pr} {i j : Nat} (h : Nf f i) (hij : i ≤ j) : Nf f j := fun d k out hk => h d k out (by omega)
theorem prim_nf {l : List Tk} {f : Pr} {i d : Nat} {out : List Op} (h : i < l.length → Nf f (i + 1)) (hF : Fwd f) : (prim l f d i out).e ≠ 99 := by
  unfold prim
  dsimp only
  have hlt : ∀ t : List UInt8, t ≠ [] → nxt l i = t → i < l.length := fun t ht hx => by
    by_cases hq : i < l.length
    · exact hq
    · rw [nxt_end (by omega)] at hx; exact absurd hx.symm ht
  split
  · exact inPar_nf h
  · split
    · rename_i h1
      rw [then_e]; exact inPar_nf fun _ => (h (hlt _ (by decide) h1)).less (by omega)
    · split
      · rw [then_e]; exact inPar_nf fun _ => fun _ _ _ _ => by dsimp only; decide
      · split
        · rename_i h1
          have hi : i < l.length := by
            by_cases hq : i < l.length
            · exact hq
            · rw [nxt_end (by omega)] at h1; cases h1
          unfold named
          split
          · rw [then_e]; exact inPar_nf fun _ => (allArgs_nf (h hi) hF).less (by omega)
          · dsimp only; decide
        · split
          · dsimp only; decide
          · dsimp only; decide
theorem bins_nf {l : List Tk} {n : Nat} {g : Pr} {d i0 : Nat} (h : Nf g i0) (hF : Fwd g) : ∀ (j : Nat) (r : Rs), r.e ≠ 99 → i0 ≤ r.i → (bins l n g d j r).e ≠ 99
  | 0, _, hr, _ => hr
  | j + 1, r, hr, hi => by
    rw [bins_succ]
    split
    · refine bins_nf h hF j _ ?_ ?_
      · rw [then_e]; exact h _ _ _ (by omega)
      · rw [then_i]; have := hF d (r.i + 1) r.out; omega
    · exact hr
theorem lev_nf (l : List Tk) : ∀ (k n i : Nat), 1 ≤ n → n ≤ 11 → (l.length - i) * 12 + (12 - n) ≤ k → Nf (lev l k n) i
  | 0, _, _, _, _, hk => by omega
  | k + 1, n, i, h1, h2, hk => by
    intro d i' out hi
    rw [lev_succ]
    by_cases hn : n < 11
    · rw [if_pos hn]
      have hG := lev_nf l k (n + 1) i (by omega) (by omega) (by omega)
      exact bins_nf hG (lev_fwd l k (n + 1)) _ _ (hG d i' out hi) (by have := lev_fwd l k (n + 1) d i' out; omega)
    · rw [if_neg hn]
      split
      · rename_i hu
        have hi2 : i' < l.length := by
          by_cases hq : i' < l.length
          · exact hq
          · rw [nxt_end (by omega)] at hu; cases hu
        rw [then_e]
        exact nest_nf (lev_nf l k 11 (i' + 1) (by decide) (by decide) (by omega))
      · exact prim_nf (fun hi2 => lev_nf l k 1 (i' + 1) (by decide) (by decide) (by omega)) (lev_fwd l k 1)
theorem expectS_out1 (l : List Tk) (t : List UInt8) (s : St) (o : Op) : expectS l t (out1 s o) = out1 (expectS l t s) o := by
  unfold expectS
  by_cases h : s.e = 0
  · rw [if_pos (show (out1 s o).e = 0 from h), if_pos h]
    show (if symAt l s.i t = true then _ else _) = _
    split <;> rfl
  · rw [if_neg (show ¬ (out1 s o).e = 0 from h), if_neg h]
theorem expectS_e (l : List Tk) (t : List UInt8) (s : St) (h : (expectS l t s).e ≠ 99) : s.e ≠ 99 := fun e => by
  unfold expectS at h; rw [if_neg (by rw [e]; decide)] at h; exact h e
theorem parS_e (l : List Tk) (F : St → St) (s : St) (h : (parS l F s).e ≠ 99) : (F (enterS s)).e ≠ 99 := expectS_e l [41] _ h
/-- Whatever the parser may be at: the depth of tokens, and no more operations than tokens. -/
structure Fit (s : St) : Prop where
  d0 : 0 ≤ s.d
  d1 : s.d ≤ 25
  room : s.out.length ≤ s.i
theorem Fit.enter {s : St} (h : Fit s) (h0 : (enterS s).e = 0) (hs : s.e = 0) : Fit (enterS s) := by
  have a := h.d0; have b := h.d1; have c := h.room
  unfold enterS at h0 ⊢
  rw [if_pos hs] at h0 ⊢
  split
  · rename_i h1; rw [if_pos h1] at h0; cases h0
  · exact ⟨by dsimp only; omega, by dsimp only; omega, by dsimp only; omega⟩
theorem Fit.step {l : List Tk} {s u : St} (h : Fit s) (hu : Step l 0 s u) (h0 : u.e = 0) : Fit u := by
  have a := h.d0; have b := h.d1; have c := h.room
  have d := hu.ok h0
  exact ⟨by omega, by omega, by omega⟩
/-- What any part leaves. -/
theorem Fit.left {l : List Tk} {F : St → St} (hK : Keeps l 0 F) {s : St} (h : Fit s) (hs : s.e = 0) (hi : s.i < l.length) : -1000 ≤ (F (enterS s)).d ∧ (F (enterS s)).d ≤ 1000 ∧ (F (enterS s)).out.length ≤ l.length + 1 := by
  have a := h.d0; have b := h.d1; have c := h.room
  by_cases h0 : (enterS s).e = 0
  · have hE := h.enter h0 hs
    have a := hE.d0; have b := hE.d1; have c := hE.room
    have hin : (enterS s).i ≤ l.length := by unfold enterS; rw [if_pos hs]; split <;> (dsimp only; omega)
    have hS := hK.1 _ h0 hin
    have ht := hS.top
    by_cases h1 : (F (enterS s)).e = 0
    · have := hS.ok h1; omega
    · have := hS.bad h1; omega
  · rw [hK.2 _ h0]
    unfold enterS
    rw [if_pos hs]
    split <;> (dsimp only; omega)
end Ex
end Go.Proofs.YtndehkoglgakpaaGreatDoor
end
