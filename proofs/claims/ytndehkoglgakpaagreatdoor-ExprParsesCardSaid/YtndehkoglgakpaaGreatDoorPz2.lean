/- The reference's parser: arguments. No condition.
The reference's parser: the levels of binary operations. No condition.
The reference's parser after an error. No condition. -/
import Derived.Test.YtndehkoglgakpaaGreatDoorPz1
import Derived.Test.YtndehkoglgakpaaGreatDoorQnd
import Derived.Test.YtndehkoglgakpaaGreatDoorBin
section
namespace Go.Proofs.YtndehkoglgakpaaGreatDoor
open Go.RowKit Go.Deep
/-- The parser at a state. -/
abbrev QS (w : World) (b : Nat) (A : Option Addr) (c : Nat) (l : List Tok.Tk) (s : Ex.St) : Prop := QA w b A c l s.d s.i s.e s.out
/-- What a call without a result leaves. -/
def GotS (w : World) (b : Nat) (A : Option Addr) (c : Nat) (l : List Tok.Tk) (s : Ex.St) : Ending → World → Prop := fun x w' => x = .returned (.tuple #[]) ∧ QS w' b A c l s ∧ Fr b b w w'
theorem Ex.argsS_succ (l : List Tok.Tk) (L : Ex.St → Ex.St) (j c : Nat) (s : Ex.St) : Ex.argsS l L (j + 1) c s = if (L s).e = 0 ∧ Ex.symAt l (L s).i [44] = true then (if c + 1 = 8 then (c + 1, Ex.failS (L s) 10) else Ex.argsS l L j (c + 1) (Ex.fwdS (L s))) else (c + 1, L s) := rfl
set_option maxHeartbeats 4000000 in
set_option maxRecDepth 100000 in
theorem qargs_any (b : Nat) (A : Option Addr) (c : Nat) (l : List Tok.Tk) (s : Ex.St) (h0 : s.e = 0) (w : World) (hP : QS w b A c l s) (hl : l.length ≤ 1000000) (L : Ex.St → Ex.St) (hK : Ex.Keeps l 0 L) (hn : (Ex.allS l L s).2.e ≠ 99)
    (hX : ∀ (u : Ex.St) (w' : World), u.e = 0 → Ex.Step l 0 s u → (L u).e ≠ 99 → QS w' b A c l u → Calls Tryz.prog 28 #[.pointer (some ⟨b, 0, none⟩), .int .i64 1] w' (GotS w' b A c l (L u))) :
    Calls Tryz.prog 85 #[.pointer (some ⟨b, 0, none⟩)] w fun x w' => x = .returned (.int .u32 ((Ex.allS l L s).1 : Nat)) ∧ QS w' b A c l (Ex.allS l L s).2 ∧ Fr b b w w' := by
  have HV := Lib.hid (show Ex.allS l L s = if Ex.symAt l s.i [41] = true then (0, s) else Ex.argsS l L 9 0 s from if_pos h0)
  have hlt := hP.lt
  have hs := symbol_any b A c l s.d s.i s.e s.out [41] w hP
  rw [show str [41] = (⟨#[41]⟩ : ByteArray) from rfl] at hs
  generalize Ex.allS l L s = R at *
  cases hsy : Ex.symAt l s.i [41] with
  | true =>
    rw [hsy] at hs
    have HR := Lib.hid (HV.out.trans (if_pos hsy))
    clear HV hsy hX hn
    go_enter Tryz.func85, Tryz.ntmps85
    go_wp2_with fail
    with_reducible refine hs.mono ?_
    clear hs
    rintro x w2 ⟨rfl, m, rfl⟩
    have hb := below_drewN (Below.refl w.heap.size w) m
    go_wp2_with fail
    go_ret
    rw [HR.out]
    exact ⟨rfl, hP.below hb, Fr.of hb hlt⟩
  | false =>
    rw [hsy] at hs
    have HR := Lib.hid (HV.out.trans (if_neg (by rw [hsy]; decide)))
    clear HV hsy
    go_enter Tryz.func85, Tryz.ntmps85
    go_wp2_with fail
    with_reducible refine hs.mono ?_
    clear hs
    rintro x w2 ⟨rfl, m0, rfl⟩
    have hb := below_drewN (Below.refl w.heap.size w) m0
    have hP2 := hP.below hb
    have hF2 : Fr b b w (w.drewN m0) := Fr.of hb hlt
    generalize w.drewN m0 = w2 at *
    go_wp2_with fail
    go_loopw [3] (fun v wr => ∃ (m : Nat) (u : Ex.St), m ≤ 7 ∧ u.e = 0 ∧ Ex.Step l 0 s u ∧ v = .int .u32 (m : Int) ∧ R = Ex.argsS l L (9 - m) m u ∧ QS wr b A c l u ∧ Fr b b w wr) (fun v _ => 9 - (intOf v).toNat)
    case atStart => exact ⟨0, s, by omega, h0, Ex.Step.refl hP.here, rfl, HR.out, hP2, hF2⟩
    case round =>
      clear HR hP2 hF2 hP hb
      obtain ⟨m, u, hm, hu0, hSt, rfl, hR, hP, hB⟩ := hrel
      have HR := Lib.hid (hR.trans (by rw [show 9 - m = (8 - m) + 1 by omega, Ex.argsS_succ]))
      clear hR
      have hn1 : (L u).e ≠ 99 := fun e => by
        have := HR.out
        rw [if_neg (by rw [e]; exact fun c => absurd c.1 (by decide))] at this
        rw [this] at hn; exact hn e
      have hcall := hX u wr hu0 hSt hn1 hP
      have hS1 := hK.1 u hu0 hSt.top
      have ce := hP.err
      have q0 : (u.e == 0) = true := by rw [hu0]; rfl
      generalize L u = v at *
      go_wp2_with fail
      with_reducible refine hcall.mono ?_
      clear hcall
      rintro x w3 ⟨rfl, hP3, hB3⟩
      replace hB := hB.trans hB3
      clear hB3 hP ce
      have ce := hP3.err
      have hlt3 := hP3.lt
      by_cases hv : v.e = 0
      · have q3 : (v.e != 0) = false := by rw [hv]; rfl
        have q3n : (v.e == 0) = true := by rw [hv]; rfl
        have hs4 := symbol_any b A c l v.d v.i v.e v.out [44] w3 hP3
        rw [show str [44] = (⟨#[44]⟩ : ByteArray) from rfl] at hs4
        cases hsy : Ex.symAt l v.i [44] with
        | true =>
          rw [hsy] at hs4
          have hi4 := Ex.symAt_lt hsy
          have HT4 := Lib.hid (HR.out.trans (if_pos ⟨hv, hsy⟩))
          clear HR hsy
          by_cases h8 : m = 7
          · have HT5 := Lib.hid (HT4.out.trans (if_pos (by omega)))
            subst h8
            go_wp2_with fail
            with_reducible refine hs4.mono ?_
            clear hs4
            rintro x w4 ⟨rfl, m4, rfl⟩
            have hb4 := below_drewN (Below.refl w3.heap.size w3) m4
            have hP4 := hP3.below hb4
            have hB4 := hB.trans (Fr.of hb4 hlt3)
            generalize w3.drewN m4 = w4 at *
            have hP5 : QA w4 b A c l v.d v.i 0 v.out := by rw [hv] at hP4; exact hP4
            have hcall := fail_ok b A c l v.d v.i v.out 10 w4 hP5
            clear hP3 hB hP4
            go_wp2_with fail
            with_reducible refine hcall.mono ?_
            clear hcall
            rintro x w5 ⟨rfl, hP6, hF6⟩
            go_wp2_with fail
            go_ret
            rw [HT5.out]
            unfold Ex.failS
            rw [if_pos hv]
            exact ⟨rfl, hP6, hB4.trans hF6⟩
          · have HT5 := Lib.hid (HT4.out.trans (if_neg (by omega)))
            have t8 : ((m : Int) + 1 == 8) = false := by rw [beq_eq_false_iff_ne]; omega
            have hm8 : m ≤ 6 := by omega
            clear HT4 h8
            go_wp2_with fail
            with_reducible refine hs4.mono ?_
            clear hs4
            rintro x w4 ⟨rfl, m4, rfl⟩
            have hb4 := below_drewN (Below.refl w3.heap.size w3) m4
            have hP4 := hP3.below hb4
            have hB4 := hB.trans (Fr.of hb4 hlt3)
            generalize w3.drewN m4 = w4 at *
            have c1 := hP4.at_
            have f1 := hP4.frz 1
            have hP5 := hP4.setAt ((v.i : Int) + 1) (v.i + 1) (by omega) (by omega)
            have hB5 := hB4.trans (QFr.set hP4 1 (.int .i64 ((v.i : Int) + 1)))
            clear hP3 hP4 hB hb4 hB4
            go_wp2_with fail
            go_roundw
            case rel => exact ⟨m + 1, Ex.fwdS v, by omega, hv, ((hSt.trans hu0 hS1).trans hv (Ex.Step.fwd1 hi4 hv)).less (by omega), by go_num, by rw [HT5.out, show 9 - (m + 1) = 8 - m by omega], hP5, hB5⟩
            case measure => simp [intOf]; omega
        | false =>
          rw [hsy] at hs4
          have HT4 := Lib.hid (HR.out.trans (if_neg (by rw [hsy]; exact fun c => absurd c.2 (by decide))))
          clear HR hsy
          go_wp2_with fail
          with_reducible refine hs4.mono ?_
          clear hs4
          rintro x w4 ⟨rfl, m4, rfl⟩
          have hb4 := below_drewN (Below.refl w3.heap.size w3) m4
          go_wp2_with fail
          go_ret
          rw [HT4.out]
          exact ⟨by go_num, hP3.below hb4, hB.trans (Fr.of hb4 hlt3)⟩
      · have q3 : (v.e != 0) = true := by rw [bne_iff_ne]; exact hv
        have HT := Lib.hid (HR.out.trans (if_neg (fun c => hv c.1)))
        clear HR hv
        go_wp2_with fail
        go_ret
        rw [HT.out]
        exact ⟨by go_num, hP3, hB⟩
end Go.Proofs.YtndehkoglgakpaaGreatDoor
end
section
namespace Go.Proofs.YtndehkoglgakpaaGreatDoor
open Go.RowKit Go.Deep
theorem QA.add {w : World} {b : Nat} {A : Option Addr} {c : Nat} {l : List Tok.Tk} {d e : Int} {i : Nat} {out : List Ex.Op} {o : Ex.Op} {fv : Value} {g cap : Nat} (hR : w.rowIs b 56 5 (qpV (.slice A l.length c) fv i d e))
    (hO : w.ownsRow (b + 1) 42 3 (.slice (some ⟨g, 0, none⟩) (out.length + 1) cap) (out.length + 1) (opsOf out ++ [.int .i64 o.kind, .string (str o.text), .int .u32 o.n])) (hT : TksAt w b A l) (hi : i ≤ l.length) :
    QA (w.setCell ⟨b, 2, none⟩ (.slice (some ⟨g, 0, none⟩) (out.length + 1) cap)) b A c l d i e (out ++ [o]) := by
  rw [opsOf_snoc] at hO
  refine ⟨⟨.slice (some ⟨g, 0, none⟩) (out.length + 1) cap, (hR.set 2 _).congr fun k hk => ?_, ?_⟩, hT.set 2 _, hi⟩
  · unfold qpV
    by_cases h1 : k = 2
    · subst h1; rfl
    · simp only [h1, if_false]
  · rw [List.length_append, List.length_singleton]
    exact hO.kept (grown_set w b 2 _) (own_ne hO (Nat.lt_succ_self b))
theorem atq_eq {w : World} {b : Nat} {A : Option Addr} {c : Nat} {l : List Tok.Tk} {d e : Int} {i : Nat} {out : List Ex.Op} (h : QA w b A c l d i e out) : atw b w = i := by
  unfold atw; rw [h.at_]; rfl
theorem levQ4 (t : List UInt8) (w : World) : Calls Tryz.prog 37 #[.string (str t)] w fun e w' => e = .returned (.int .i64 (Ex.levL t : Nat)) ∧ w' = w := (levQ3 t w).mono fun _ _ h => ⟨h.1, h.2.symm⟩
theorem Ex.loopS_succ (l : List Tok.Tk) (n : Nat) (L : Ex.St → Ex.St) (j : Nat) (s : Ex.St) : Ex.loopS l n L (j + 1) s = if s.e = 0 ∧ Ex.levL (Ex.nxt l s.i) = n then Ex.loopS l n L j (Ex.out1 (L (Ex.fwdS s)) ⟨7, Ex.nxt l s.i, 0⟩) else s := rfl
theorem Ex.loopS_bad {l : List Tok.Tk} {n : Nat} {L : Ex.St → Ex.St} {j : Nat} {s : Ex.St} (h : s.e ≠ 0) : Ex.loopS l n L j s = s := by
  cases j with
  | zero => rfl
  | succ j => rw [Ex.loopS_succ, if_neg (fun c => h c.1)]
set_option maxHeartbeats 8000000 in
set_option maxRecDepth 100000 in
theorem qlevel_any (b : Nat) (A : Option Addr) (c : Nat) (l : List Tok.Tk) (hv : l.all Tok.valid = true) (s : Ex.St) (h0 : s.e = 0) (hso : s.out.length ≤ 1000000) (w : World) (hP : QS w b A c l s) (hl : l.length ≤ 1000000) (n : Nat) (hn1 : 1 ≤ n) (hn2 : n ≤ 10) (G : Ex.St → Ex.St) (hK : Ex.Keeps l 0 G)
    (hn : (Ex.loopS l n G (l.length + 1) (G s)).e ≠ 99)
    (hX : ∀ (u : Ex.St) (w' : World), u.e = 0 → Ex.Step l 0 s u → (G u).e ≠ 99 → QS w' b A c l u → Calls Tryz.prog 28 #[.pointer (some ⟨b, 0, none⟩), .int .i64 ((n : Int) + 1)] w' (GotS w' b A c l (G u))) :
    Calls Tryz.prog 28 #[.pointer (some ⟨b, 0, none⟩), .int .i64 (n : Int)] w (GotS w b A c l (Ex.loopS l n G (l.length + 1) (G s))) := by
  obtain ⟨i0, hi0, hz0, hz1, hz2⟩ := info_parts infoO
  have hlt := hP.lt
  have q11 : ((n : Int) == 11) = false := by rw [beq_eq_false_iff_ne]; omega
  have hcall := hX s w h0 (Ex.Step.refl hP.here) (fun e => by rw [Ex.loopS_bad (by rw [e]; decide)] at hn; exact hn e) hP
  have hS0 := hK.1 s h0 hP.here
  generalize G s = u0 at *
  obtain ⟨R, hR⟩ : ∃ R, R = Ex.loopS l n G (l.length + 1) u0 := ⟨_, rfl⟩
  have HR := Lib.hid hR
  rw [← hR] at hn ⊢
  clear hR
  go_enter Tryz.func28, Tryz.ntmps28
  go_wp2_with fail
  with_reducible refine hcall.mono ?_
  clear hcall
  rintro x w1 ⟨rfl, hP1, hF1⟩
  go_wp2_with fail
  go_loopw [4] (fun v wr => ∃ (j : Nat) (u : Ex.St), (v = v) ∧ R = Ex.loopS l n G j u ∧ l.length + 1 ≤ j + u.i ∧ Ex.Step l 0 s u ∧ QS wr b A c l u ∧ Fr b b w wr) (fun _ wr => l.length - atw b wr)
  case atStart => exact ⟨l.length + 1, u0, rfl, HR.out, by omega, hS0, hP1, hF1⟩
  case round =>
    clear HR hP1 hF1 hS0 hP
    obtain ⟨j, u, _, hR, hj, hSt, hPr, hFr⟩ := hrel
    have hij := hPr.here
    obtain ⟨j', rfl⟩ : ∃ j', j = j' + 1 := ⟨j - 1, by omega⟩
    have HR := Lib.hid (hR.trans (Ex.loopS_succ l n G j' u))
    clear hR
    have hM := Lib.hid (atq_eq hPr)
    have ce := hPr.err
    have c0 := hPr.tok
    have c1 := hPr.at_
    have hltr := hPr.lt
    by_cases hu : u.e = 0
    · have q3 : (u.e == 0) = true := by rw [hu]; rfl
      by_cases hi : u.i < l.length
      · have t1 : decide ((u.i : Int) < (l.length : Int)) = true := by simp; omega
        have t2 : decide (u.i < l.length) = true := by simp; omega
        have hlt1 : (u.i : Int) < (l.length : Int) := by omega
        have hlt0 : 0 ≤ (u.i : Int) := by omega
        have hx := Ex.nxt_at hi
        have hval := List.all_eq_true.1 hv _ (List.getElem_mem hi)
        obtain ⟨g, o, rfl, hg, hk0, hk1⟩ := hPr.toks u.i hi
        rw [← hx] at hk1
        by_cases hk3 : l[u.i].kind = 3
        · rw [hk3] at hk0
          by_cases ht : Ex.levL (Ex.nxt l u.i) = n
          · have HT := Lib.hid (HR.out.trans (if_pos ⟨hu, ht⟩))
            have q4 : (((Ex.levL (Ex.nxt l u.i) : Nat) : Int) == (n : Int)) = true := by rw [ht]; simp
            have q5 : (Ex.levL (Ex.nxt l u.i) == n) = true := by rw [ht]; simp
            generalize Ex.nxt l u.i = t at *
            clear HR hval hk3 hx
            go_wp2_with fail
            go_quiet (first | (go_at_call 37; exact Calls.quiet_of_same (levQ4 _ _)))
            have hbq := below_drewN (Below.refl wr.heap.size wr) nq
            have hPq := hPr.below hbq
            have hFq := hFr.trans (Fr.of hbq hltr)
            have hk1q := (hbq.cell (World.block_lt_of_cell? wr _ hk1)).trans hk1
            generalize wr.drewN nq = w2 at *
            clear hPr hFr c0 c1 ce hk0 hk1 hbq hltr q3 q4 q5
            have c0 := hPq.tok
            have c1 := hPq.at_
            go_wp2_with fail
            go_quiet (fail)
            have hbp := below_drewN (Below.refl w2.heap.size w2) nq
            have hPp := hPq.below hbp
            have hFp := hFq.trans (Fr.of hbp hPq.lt)
            generalize w2.drewN nq = w3 at *
            clear hPq hFq c0 c1 hk1q hbp t1 t2 hlt1 hlt0
            have c1 := hPp.at_
            have f1 := hPp.frz 1
            have hP4 := hPp.setAt ((u.i : Int) + 1) (u.i + 1) (by omega) (by omega)
            have hF4 := hFp.trans (QFr.set hPp 1 (.int .i64 ((u.i : Int) + 1)))
            go_upto_region 6 with (fail)
            generalize w3.setCell ⟨b, 1, none⟩ (.int .i64 ((u.i : Int) + 1)) = w4 at *
            clear hPp hFp c1 f1
            have hS1 := Ex.Step.fwd1 hi hu
            have hSf := (hSt.trans hu hS1).less (y := 0) (by omega)
            have hS2 := hK.1 (Ex.fwdS u) hu hS1.top
            have hne : (G (Ex.fwdS u)).e ≠ 99 := fun e => by
              have h9 := HT.out
              rw [Ex.loopS_bad (by show (G (Ex.fwdS u)).e ≠ 0; rw [e]; decide)] at h9
              rw [h9] at hn
              exact hn e
            have hcall := hX (Ex.fwdS u) w4 hu hSf hne hP4
            have hS3 := (hSt.trans hu ((hS1.trans hu hS2).out ⟨7, t, 0⟩)).less (y := 0) (by omega)
            have hup := hS1.fwd
            have hup2 := hS2.fwd
            generalize G (Ex.fwdS u) = v at *
            have HST := Lib.hid hS3
            clear hP4 hS1 hSf hS2 hS3 hne
            go_wp2_with fail
            with_reducible refine hcall.mono ?_
            clear hcall
            rintro x w5 ⟨rfl, hP5, hF5⟩
            have hF6 := hF4.trans hF5
            clear hF4 hF5
            have hlt5 := hP5.lt
            have hTk := hP5.toks
            have hhere := hP5.here
            obtain ⟨fv, hRw, hO⟩ := hP5.row
            have c2 : w5.cell? ⟨b, 2, none⟩ = some fv := hRw.cell (show 2 < 5 by decide)
            have f2 := hRw.frozen 2
            have hne2 : some b ≠ fv.ownBlock := fun e => (own_ne hO (Nat.lt_succ_self b)).elim (fun h => by rw [h] at e; cases e) (fun h => h e.symm)
            have HB := Lib.hid (heap_alloc_new w5 (.cells #[.int .i64 7, .string (str t), .int .u32 0] 42))
            have hob : v.out.length ≤ 2000001 := by
              have a1 := HST.out.ok
              have a2 := HST.out.bad
              simp only [Ex.out1, List.length_append, List.length_singleton] at a1 a2
              have a3 := hhere
              by_cases h9 : v.e = 0
              · have := a1 h9; omega
              · have := a2 h9; omega
            clear hP5
            go_wp2_with (at_builtin; refine wpList_append_lies _ (by rfl) _ _ _ (by rfl) (b + 1) 42 i0 _ 3 32 Tryz.underlying26 hi0 hz0 hz1 hz2 rfl (by omega) fv v.out.length _ (by rfl) (hO.alloc _) ⟨w5.heap.size, 0, none⟩ 1 1 [_, _, _] (by rfl) (by rfl) (World.news_of_block (cs := #[_, _, _]) (t := 42) (fr := (0, 0)) HB.out) (by simp [Value.oneCell']) (by omega) (by unfold maxLen; omega) (by omega) (by simp; omega) (w5.heap.size + 1) (by simp) ?_; intro gg cap w6 hown3 hgrow hat hlt3; have hR3 := (hRw.alloc _).of_block (hgrow.block b (by simp; omega) hne2); have f33 := hR3.frozen 2; have c33 := hR3.cell (show 2 < 5 by decide))
            have hB : Fr b b w5 w6 := Fr.grow ((Below.refl _ w5).alloc (Nat.le_refl _) _) hgrow hO hlt5
            have hfin := QA.add (out := v.out) (o := ⟨7, t, 0⟩) hR3 hown3 (hTk.below hB.low (Nat.le_refl _)) hhere
            have hbf : Fr b b w5 (w6.setCell ⟨b, 2, none⟩ (.slice (some ⟨gg, 0, none⟩) (v.out.length + 1) cap)) := hB.trans (Fr.set' w6 2 _)
            have hF9 := hF6.trans hbf
            clear hR3 hown3 hB hgrow hat hlt3 hTk hRw hO HB c2 f2 c33 f33 hi0 hz0 hz1 hz2 hbf hF6
            go_wp2_with fail
            go_roundw
            case rel => exact ⟨j', Ex.out1 v ⟨7, t, 0⟩, trivial, HT.out, by have h1 : u.i + 1 ≤ v.i := hup2; show l.length + 1 ≤ j' + v.i; omega, HST.out, hfin, hF9⟩
            case measure => rw [atq_eq hfin, hM.out]; have h1 : u.i + 1 ≤ v.i := hup2; omega
          · have HT := Lib.hid (HR.out.trans (if_neg (fun h => ht h.2)))
            have q4 : (((Ex.levL (Ex.nxt l u.i) : Nat) : Int) == (n : Int)) = false := by rw [beq_eq_false_iff_ne]; omega
            have q5 : (Ex.levL (Ex.nxt l u.i) == n) = false := by rw [beq_eq_false_iff_ne]; exact ht
            generalize Ex.nxt l u.i = t at *
            clear HR hval hk3 hx
            go_wp2_with fail
            go_quiet (first | (go_at_call 37; exact Calls.quiet_of_same (levQ4 _ _)))
            have hb9 := below_drewN (Below.refl wr.heap.size wr) nq
            have hP9 := hPr.below hb9
            have hF9 := hFr.trans (Fr.of hb9 hltr)
            clear hPr hFr c0 c1 ce
            go_wp2_with fail
            go_end0
            rw [HT.out]
            exact ⟨rfl, hP9, hF9⟩
        · have q6 : (l[u.i].kind == 3) = false := by rw [beq_eq_false_iff_ne]; exact hk3
          have ht : Ex.levL (Ex.nxt l u.i) ≠ n := by
            rw [hx]
            have h9 : Tok.isSym l[u.i].text = false := by
              rcases Ex.valid_kind hval with ⟨_, _, h⟩ | ⟨_, _, h, _⟩ | ⟨h, _⟩
              · exact h
              · exact h
              · exact absurd h hk3
            rw [(Ex.name_lev h9).1]; omega
          have HT := Lib.hid (HR.out.trans (if_neg (fun h => ht h.2)))
          generalize l[u.i].kind = kk at *
          clear HR hval hk3 hx ht
          go_wp2_with fail
          go_quiet (fail)
          have hb9 := below_drewN (Below.refl wr.heap.size wr) nq
          have hP9 := hPr.below hb9
          have hF9 := hFr.trans (Fr.of hb9 hltr)
          clear hPr hFr c0 c1 ce
          go_wp2_with fail
          go_end0
          rw [HT.out]
          exact ⟨rfl, hP9, hF9⟩
      · have t1 : decide ((u.i : Int) < (l.length : Int)) = false := by simp; omega
        have t2 : decide (u.i < l.length) = false := by simp; omega
        have ht : Ex.levL (Ex.nxt l u.i) ≠ n := by
          rw [Ex.nxt_end (by omega)]
          have : Ex.levL [] = 0 := by decide
          omega
        have HT := Lib.hid (HR.out.trans (if_neg (fun h => ht h.2)))
        clear HR ht
        go_wp2_with fail
        go_quiet (fail)
        have hb9 := below_drewN (Below.refl wr.heap.size wr) nq
        have hP9 := hPr.below hb9
        have hF9 := hFr.trans (Fr.of hb9 hltr)
        clear hPr hFr c0 c1 ce
        go_wp2_with fail
        go_end0
        rw [HT.out]
        exact ⟨rfl, hP9, hF9⟩
    · have q3 : (u.e == 0) = false := by rw [beq_eq_false_iff_ne]; exact hu
      have HT := Lib.hid (HR.out.trans (if_neg (fun h => hu h.1)))
      clear HR
      go_wp2_with fail
      go_quiet (fail)
      have hb9 := below_drewN (Below.refl wr.heap.size wr) nq
      have hP9 := hPr.below hb9
      have hF9 := hFr.trans (Fr.of hb9 hltr)
      clear hPr hFr c0 c1 ce
      go_wp2_with fail
      go_end0
      rw [HT.out]
      exact ⟨rfl, hP9, hF9⟩
end Go.Proofs.YtndehkoglgakpaaGreatDoor
end
section
namespace Go.Proofs.YtndehkoglgakpaaGreatDoor
open Go.RowKit Go.Deep
set_option maxHeartbeats 4000000 in
set_option maxRecDepth 100000 in
/-- After an error nothing is parsed. -/
theorem qprim_bad (b : Nat) (A : Option Addr) (c : Nat) (l : List Tok.Tk) (s : Ex.St) (he : s.e ≠ 0) (w : World) (hP : QS w b A c l s) :
    Calls Tryz.prog 55 #[.pointer (some ⟨b, 0, none⟩)] w (GotS w b A c l s) := by
  have ce := hP.err
  have q1 : (s.e != 0) = true := by rw [bne_iff_ne]; exact he
  go_enter Tryz.func55, Tryz.ntmps55
  go_wp2_with fail
  refine bodyPost_ret (results_none rfl _ _ _) rfl ?_
  exact ⟨rfl, hP, Fr.refl b b w⟩
set_option maxHeartbeats 4000000 in
set_option maxRecDepth 100000 in
/-- The level of all that stands between operations. -/
theorem qlevel_last (b : Nat) (A : Option Addr) (c : Nat) (l : List Tok.Tk) (s : Ex.St) (w : World) (hX : Calls Tryz.prog 55 #[.pointer (some ⟨b, 0, none⟩)] w (GotS w b A c l s)) :
    Calls Tryz.prog 28 #[.pointer (some ⟨b, 0, none⟩), .int .i64 11] w (GotS w b A c l s) := by
  go_enter Tryz.func28, Tryz.ntmps28
  go_wp2_with fail
  with_reducible refine hX.mono ?_
  clear hX
  rintro x w1 ⟨rfl, hP1, hF1⟩
  go_wp2_with fail
  refine bodyPost_ret (results_none rfl _ _ _) rfl ?_
  exact ⟨rfl, hP1, hF1⟩
set_option maxHeartbeats 4000000 in
set_option maxRecDepth 100000 in
theorem qlevel_step_bad (b : Nat) (A : Option Addr) (c : Nat) (l : List Tok.Tk) (s : Ex.St) (he : s.e ≠ 0) (w : World) (n : Nat) (hn1 : 1 ≤ n) (hn2 : n ≤ 10)
    (hcall : Calls Tryz.prog 28 #[.pointer (some ⟨b, 0, none⟩), .int .i64 ((n : Int) + 1)] w (GotS w b A c l s)) :
    Calls Tryz.prog 28 #[.pointer (some ⟨b, 0, none⟩), .int .i64 (n : Int)] w (GotS w b A c l s) := by
  have q11 : ((n : Int) == 11) = false := by rw [beq_eq_false_iff_ne]; omega
  go_enter Tryz.func28, Tryz.ntmps28
  go_wp2_with fail
  with_reducible refine hcall.mono ?_
  clear hcall
  rintro x w1 ⟨rfl, hP1, hF1⟩
  go_wp2_with fail
  go_loopw [4] (fun v wr => (v = v) ∧ QS wr b A c l s ∧ Fr b b w wr) (fun _ _ => 0)
  case atStart => exact ⟨rfl, hP1, hF1⟩
  case round =>
    clear hP1 hF1
    obtain ⟨_, hPr, hFr⟩ := hrel
    have ce := hPr.err
    have q3 : (s.e == 0) = false := by rw [beq_eq_false_iff_ne]; exact he
    go_wp2_with fail
    go_quiet (fail)
    have hb9 := below_drewN (Below.refl wr.heap.size wr) nq
    have hP9 := hPr.below hb9
    have hF9 := hFr.trans (Fr.of hb9 hPr.lt)
    clear hPr hFr ce
    go_wp2_with fail
    go_end0
    exact ⟨rfl, hP9, hF9⟩
theorem qlevel_bad (b : Nat) (A : Option Addr) (c : Nat) (l : List Tok.Tk) (s : Ex.St) (he : s.e ≠ 0) : ∀ (m n : Nat), n + m = 11 → 1 ≤ n → ∀ w : World, QS w b A c l s →
    Calls Tryz.prog 28 #[.pointer (some ⟨b, 0, none⟩), .int .i64 (n : Int)] w (GotS w b A c l s)
  | 0, n, h, _, w, hP => by
    obtain rfl : n = 11 := by omega
    exact qlevel_last b A c l s w (qprim_bad b A c l s he w hP)
  | m + 1, n, h, h1, w, hP => qlevel_step_bad b A c l s he w n h1 (by omega) (qlevel_bad b A c l s he m (n + 1) (by omega) (by omega) w hP)
end Go.Proofs.YtndehkoglgakpaaGreatDoor
end
