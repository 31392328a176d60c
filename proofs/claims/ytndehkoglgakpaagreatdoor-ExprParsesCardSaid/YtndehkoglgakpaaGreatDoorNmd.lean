/- The parser's names and calls. No condition. -/
import Derived.Test.YtndehkoglgakpaaGreatDoorArg
namespace Go.Proofs.YtndehkoglgakpaaGreatDoor
open Go.RowKit Go.Deep

theorem Ex.args_le (l : List Tok.Tk) (f : Ex.Pr) (d : Nat) : ∀ (j c i : Nat) (out : List Ex.Op), c ≤ 8 → (Ex.args l f d j c i out).1 ≤ 8
  | 0, _, _, _, _ => Nat.zero_le _
  | j + 1, c, i, out, hc => by
    rw [Ex.args_succ]
    split
    · split
      · split
        · exact Nat.zero_le _
        · exact Ex.args_le l f d j _ _ _ (by omega)
      · exact hc
    · exact Nat.zero_le _
theorem Ex.allArgs_le (l : List Tok.Tk) (f : Ex.Pr) (d i : Nat) (out : List Ex.Op) : (Ex.allArgs l f d i out).1 ≤ 8 := by
  rw [allArgs_def]
  split
  · exact Nat.zero_le _
  · exact Ex.args_le l f d 9 1 i out (by decide)
/-- The counter's block. -/
def Cnt (m C : Nat) (e : Int) (w : World) : Prop := ∃ n : Nat, w.heap[m]? = some (.cells #[.int .i64 (n : Int)] 3 (0, 0)) ∧ n ≤ 8 ∧ (e = 0 → n = C)
theorem Cnt.set {m C b : Nat} (hne : b ≠ m) (e : Int) (w : World) (k : Nat) (v : Value) (h : Cnt m C e w) : Cnt m C e (w.setCell ⟨b, k, none⟩ v) := by
  obtain ⟨n, h1, h2⟩ := h
  exact ⟨n, (blk_setCell_other _ _ _ _ (fun e => hne e.symm)).trans h1, h2⟩
theorem Cnt.below {m C : Nat} (e : Int) (w w' : World) (h : Cnt m C e w) (hb : Below w.heap.size w w') : Cnt m C e w' := by
  obtain ⟨n, h1, h2⟩ := h
  exact ⟨n, (hb.block m (Array.getElem?_eq_some_iff.1 h1).1).trans h1, h2⟩
theorem Cnt.four {m C : Nat} (w : World) (h : Cnt m C 0 w) : Cnt m C 4 w := by
  obtain ⟨n, h1, h2, _⟩ := h
  exact ⟨n, h1, h2, fun e => by cases e⟩
theorem set_one {w : World} {m : Nat} {x : Value} {t : TypeId} {fr : Nat × Nat} (h : w.heap[m]? = some (.cells #[x] t fr)) (v : Value) : (w.setCell ⟨m, 0, none⟩ v).heap[m]? = some (.cells #[v] t fr) := by
  simp [World.setCell, Array.getElem?_modify, h]
theorem frozen_one {w : World} {m : Nat} {x : Value} {t : TypeId} (h : w.heap[m]? = some (.cells #[x] t (0, 0))) : w.frozen? ⟨m, 0, none⟩ = false := by simp [World.frozen?, h]
theorem PA.setOther {w : World} {b : Nat} {A : Option Addr} {c : Nat} {l : List Tok.Tk} {d i s : Nat} {out : List Ex.Op} (h : PA w b A c l d i s out) {m : Nat} {cs : Array Value} {t : TypeId} {fr : Nat × Nat} (hm : w.heap[m]? = some (.cells cs t fr)) (ht : t ≠ 42) (hb : b < m) (k : Nat) (v : Value) : PA (w.setCell ⟨m, k, none⟩ v) b A c l d i s out := by
  obtain ⟨z, fv, hR, hO⟩ := h.row
  refine ⟨⟨z, fv, hR.setOther (a := ⟨m, k, none⟩) (by show b ≠ m; omega) _, hO.kept (grown_set w m k v) ?_⟩, fun j hj => ?_, h.here, h.room, ?_, h.glob⟩
  · right; intro e
    rcases hO.2 with ⟨rfl, _⟩ | ⟨g, cap, cur, rfl, _, hh, _⟩
    · cases e
    · have : g = m := by simpa [Value.ownBlock] using e
      subst this
      rw [hh] at hm
      simp only [Option.some.injEq, Obj.cells.injEq] at hm
      exact ht hm.2.1.symm
  · obtain ⟨g, o, e, hg, h1, h2⟩ := h.toks j hj
    refine ⟨g, o, e, hg, ?_, ?_⟩
    · rw [← h1]; exact World.cell?_of_block (w := w) (blk_setCell_other _ _ _ _ (by show g ≠ m; omega))
    · rw [← h2]; exact World.cell?_of_block (w := w) (blk_setCell_other _ _ _ _ (by show g ≠ m; omega))
  · obtain ⟨te, pe, hc⟩ := h.errs
    exact ⟨te, pe, (World.cell?_of_block (w := w) (blk_setCell_other _ _ _ _ (by have := h.glob; show 2 ≠ m; omega))).trans hc⟩
theorem Fr.exempt (w : World) {b m : Nat} (hb : b ≤ m) (k : Nat) (v : Value) : Fr b m w (w.setCell ⟨m, k, none⟩ v) :=
  ⟨(Below.refl b w).setCell (p := ⟨m, k, none⟩) hb _, fun _j _ _ _ _ h1 _ _ h4 => (blk_setCell_other _ _ _ _ h1).trans h4⟩
set_option maxHeartbeats 2000000 in
set_option maxRecDepth 100000 in
theorem named1_any (b : Nat) (A : Option Addr) (c : Nat) (l : List Tok.Tk) (d s : Nat) (w : World) (R : Nat × Ex.Rs) (hR8 : R.1 ≤ 8) (g m n0 : Nat) (hbm : b < m) (hg : w.heap[g]? = some (.cells #[.pointer (some ⟨b, 0, none⟩)] 48 (0, 0))) (hm : w.heap[m]? = some (.cells #[.int .i64 (n0 : Int)] 3 (0, 0)))
    (hcall : Calls Tryz.prog 101 #[.pointer (some ⟨b, 0, none⟩)] w (GotA w b A c l d s R)) :
    Calls Tryz.prog 100 #[.pointer (some ⟨g, 0, none⟩), .pointer (some ⟨m, 0, none⟩)] w (GotE (Cnt m R.1) m w b A c l d s R.2) := by
  have c0 : w.cell? ⟨g, 0, none⟩ = some (.pointer (some ⟨b, 0, none⟩)) := by rw [cell_of_row _ _ _ _ _ _ hg]; rfl
  go_enter Tryz.func100, Tryz.ntmps100
  go_wp2_with fail
  with_reducible refine hcall.mono ?_
  clear hcall
  rintro x w3 ⟨rfl, hP3, hB3⟩
  have hm3 := hB3.kept m _ _ _ (by omega) (by omega) (by decide) (by decide) hm
  have f3 := frozen_one hm3
  have c3 : w3.cell? ⟨m, 0, none⟩ = some (.int .i64 (n0 : Int)) := by rw [cell_of_row _ _ _ _ _ _ hm3]; rfl
  have hP4 := hP3.setOther hm3 (by decide) hbm 0 (.int .i64 (R.1 : Int))
  have hB4 : Fr b m w (w3.setCell ⟨m, 0, none⟩ (.int .i64 (R.1 : Int))) := hB3.more.trans (Fr.exempt w3 (Nat.le_of_lt hbm) 0 _)
  have hE4 : Cnt m R.1 R.2.e (w3.setCell ⟨m, 0, none⟩ (.int .i64 (R.1 : Int))) := ⟨R.1, set_one hm3 _, hR8, fun _ => rfl⟩
  clear hP3 hB3 hm3 hm hg c0
  go_wp2_with fail
  go_ret
  exact ⟨rfl, hP4, hB4, hE4⟩
theorem named_def (l : List Tok.Tk) (p : Ex.Pr) (t : List UInt8) (d i : Nat) (out : List Ex.Op) : Ex.named l p t d i out = if Ex.nxt l i = [40] then Ex.then_ (Ex.inPar l (fun d i out => (Ex.allArgs l p d i out).2) d i out) ⟨3, t, (Ex.allArgs l p (d + 1) (i + 1) out).1⟩ else ⟨0, i, out ++ [⟨2, t, 0⟩]⟩ := rfl
theorem then_def (r : Ex.Rs) (o : Ex.Op) : Ex.then_ r o = if r.e = 0 then ⟨0, r.i, r.out ++ [o]⟩ else r := rfl
/-- then_, on what a part left. -/
theorem then_any (b : Nat) (A : Option Addr) (c : Nat) (l : List Tok.Tk) (d s : Nat) (r : Ex.Rs) (o o' : Ex.Op) (ho : r.e = 0 → o = o') (w : World) (hP : PA w b A c l d r.i (sl r.e (s + 1)) r.out) (hl : l.length ≤ 1000000) :
    Calls Tryz.prog 50 #[.pointer (some ⟨b, 0, none⟩), .int .i64 r.e, .agg #[.int .i64 o.kind, .string (str o.text), .int .u32 o.n]] w (Got w b A c l d s (Ex.then_ r o')) := by
  rw [then_def]
  by_cases h : r.e = 0
  · rw [if_pos h, h]
    rw [h] at hP
    have := ho h
    subst this
    exact (then_ok b A c l d r.i s r.out o w hP hl).mono fun x w' ⟨h1, h2, h3⟩ => ⟨h1, h2, h3⟩
  · rw [if_neg h]
    refine (then_bad b r.e h o w).mono fun x w' ⟨h1, h2⟩ => ⟨h1, ?_, Fr.of h2 hP.lt⟩
    rw [sl_bad h] at hP ⊢
    exact hP.below h2
theorem run_enter {P : Program} {f : FuncId} {fn : Func} (hf : P.funcs[f]? = some fn) (hname : (fn.name == "runtime.NumGoroutine") = false) (hb : fn.body.isSome = true) (args : Array Value) (w : World) : (callFunc f args).run P w = .ok (.enter f args) w := by
  have h1 : fn.name ≠ "runtime.NumGoroutine" := by simpa using hname
  obtain ⟨c, hc⟩ := Option.isSome_iff_exists.1 hb
  simp [callFunc, hf, h1, hc]
theorem cf84 (args : Array Value) (w : World) : (callFunc 100 args).run Tryz.prog w = .ok (.enter 100 args) w := run_enter Tryz.func100 (by kernel_rfl) (by kernel_rfl) args w
theorem Fr.alloc (w : World) {b m : Nat} (hb : b < w.heap.size) (o : Obj) : Fr b m w (w.alloc o) := Fr.of ((Below.refl _ w).alloc (Nat.le_refl _) o) hb
set_option maxHeartbeats 4000000 in
set_option maxRecDepth 100000 in
theorem named_any (b : Nat) (A : Option Addr) (c : Nat) (l : List Tok.Tk) (d i s : Nat) (out : List Ex.Op) (t : List UInt8) (w : World) (hP : PA w b A c l d i (s + 1) out) (hl : l.length ≤ 1000000) (hd : d ≤ 25) (p : Ex.Pr)
    (hA : d ≤ 24 → i < l.length → ∀ w1 : World, PA w1 b A c l (d + 1) (i + 1) (s + 1) out → Calls Tryz.prog 101 #[.pointer (some ⟨b, 0, none⟩)] w1 (GotA w1 b A c l (d + 1) (s + 1) (Ex.allArgs l p (d + 1) (i + 1) out))) :
    Calls Tryz.prog 77 #[.pointer (some ⟨b, 0, none⟩), .string (str t)] w (Got w b A c l d s (Ex.named l p t d i out)) := by
  have HV := Lib.hid (named_def l p t d i out)
  have hlt := hP.lt
  have hP0 := hP.alloc (.cells #[.pointer (some ⟨b, 0, none⟩)] 48)
  have hg0 := heap_alloc_new w (.cells #[.pointer (some ⟨b, 0, none⟩)] 48)
  have hb0 : Below w.heap.size w (w.alloc (.cells #[.pointer (some ⟨b, 0, none⟩)] 48)) := (Below.refl _ _).alloc (Nat.le_refl _) _
  have c0 : (w.alloc (.cells #[.pointer (some ⟨b, 0, none⟩)] 48)).cell? ⟨w.heap.size, 0, none⟩ = some (.pointer (some ⟨b, 0, none⟩)) := by rw [cell_of_row _ _ _ _ _ _ hg0]; rfl
  have hn := next_any b A c l d i (s + 1) out _ hP0
  generalize Ex.named l p t d i out = R at *
  by_cases h40 : Ex.nxt l i = [40]
  · have hi := nxt_lt (l := l) (i := i) (by rw [h40]; decide)
    have HR := Lib.hid (HV.out.trans (if_pos h40))
    have q1 := str_eq h40
    have q2 := str_eq' h40
    rw [h40] at q1 q2 hn
    clear HV h40
    go_enter Tryz.func77, Tryz.ntmps77
    go_wp2_with fail
    generalize w.alloc (.cells #[.pointer (some ⟨b, 0, none⟩)] 48) = w0 at *
    with_reducible refine hn.mono ?_
    clear hn
    rintro x w2 ⟨rfl, hb1⟩
    have hP2 := hP0.below hb1
    have hlt0 : b < w0.heap.size := Nat.lt_of_lt_of_le hlt hb0.size
    have hlt2 : b < w2.heap.size := Nat.lt_of_lt_of_le hlt0 hb1.size
    have hF2 : Fr b b w w2 := (Fr.of hb0 hlt).trans (Fr.of hb1 hlt0)
    have hsz : w.heap.size < w2.heap.size := Nat.lt_of_lt_of_le (World.block_lt_of_cell? w0 _ c0) hb1.size
    have hg2 := (hb1.block w.heap.size (World.block_lt_of_cell? w0 _ c0)).trans hg0
    go_upto_region 4 with (fail)
    have hm3 := heap_alloc_new w2 (.cells #[.int .i64 0] 3)
    have hg3 := (((Below.refl _ w2).alloc (Nat.le_refl _) (.cells #[.int .i64 0] 3)).block w.heap.size hsz).trans hg2
    have hP3 := hP2.alloc (.cells #[.int .i64 0] 3)
    have hF3 : Fr b b w2 (w2.alloc (.cells #[.int .i64 0] 3)) := Fr.alloc w2 hlt2 _
    generalize w2.alloc (.cells #[.int .i64 0] 3) = w3 at *
    obtain ⟨m, hmm⟩ : ∃ m, m = w2.heap.size := ⟨_, rfl⟩
    obtain ⟨g, hgg⟩ : ∃ g, g = w.heap.size := ⟨_, rfl⟩
    rw [← hmm] at hm3 hsz
    rw [← hgg] at hg3 hsz
    rw [← hmm, ← hgg]
    have c3 : w3.cell? ⟨g, 0, none⟩ = some (.pointer (some ⟨b, 0, none⟩)) := by rw [cell_of_row _ _ _ _ _ _ hg3]; rfl
    have hwm : w.heap.size ≤ m := by omega
    have hbm : b < m := by omega
    have hgb : g ≠ b := by omega
    have hgm : g ≠ m := by omega
    have HMM := Lib.hid hmm
    have HGG := Lib.hid hgg
    clear hmm hgg hb0 hb1 hP0 hg0 c0 hg2 hP2 hP
    have hin := inPar_any2 b A c l d i (s + 1) out w3 hP3 hl (by omega) (s + 1) (by have := hP3.room; omega) m (Cnt m (Ex.allArgs l p (d + 1) (i + 1) out).1) (Cnt.set (by omega)) Cnt.below Cnt.four
      (fun e he => ⟨0, hm3, by omega, fun h => absurd h he⟩) 100 (.pointer (some ⟨g, 0, none⟩)) (.pointer (some ⟨m, 0, none⟩)) (cf84 _) (fun d i out => (Ex.allArgs l p d i out).2)
      (fun h1 h2 w4 hP4 hF4 => by
        have hg4 := hF4.kept g _ _ _ hgb hgb (by decide) (by decide) hg3
        have hm4 := hF4.kept m _ _ _ (by omega) (by omega) (by decide) (by decide) hm3
        exact named1_any b A c l (d + 1) (s + 1) w4 (Ex.allArgs l p (d + 1) (i + 1) out) (Ex.allArgs_le l p (d + 1) (i + 1) out) g m 0 hbm hg4 hm4 (hA h1 h2 w4 hP4))
    clear hA hP3
    generalize Ex.inPar l (fun d i out => (Ex.allArgs l p d i out).2) d i out = r at *
    generalize (Ex.allArgs l p (d + 1) (i + 1) out).1 = C at *
    go_wp2_with fail
    with_reducible refine hin.mono ?_
    clear hin
    rintro x w5 ⟨rfl, hP5, hF5, n, hm5, hn8, hnC⟩
    have hg5 := hF5.kept g _ _ _ hgb hgm (by decide) (by decide) hg3
    have c5 : w5.cell? ⟨g, 0, none⟩ = some (.pointer (some ⟨b, 0, none⟩)) := by rw [cell_of_row _ _ _ _ _ _ hg5]; rfl
    have d5 : w5.cell? ⟨m, 0, none⟩ = some (.int .i64 (n : Int)) := by rw [cell_of_row _ _ _ _ _ _ hm5]; rfl
    have hF : Fr b b w w5 := (hF2.trans hF3).fresh hF5 hwm
    have hcall := then_any b A c l d s r ⟨3, t, n⟩ ⟨3, t, C⟩ (fun h => by rw [hnC h]) w5 hP5 hl
    dsimp only at hcall
    have hP6 := hP5
    generalize Ex.then_ r ⟨3, t, C⟩ = r2 at *
    clear hP5 hP6 hF5 hF3 hF2 hm5 hg5 hm3 hg3 c3 hnC
    have HF := Lib.hid hF
    clear hF
    go_wp2_with fail
    with_reducible refine hcall.mono ?_
    clear hcall
    rintro x w6 ⟨rfl, hP6, hF6⟩
    go_wp2_with fail
    go_ret
    rw [HR.out]
    exact ⟨rfl, hP6, HF.out.trans hF6⟩
  · have HR := Lib.hid (HV.out.trans (if_neg h40))
    have q1 := str_ne h40
    have q2 := str_ne' h40
    generalize Ex.nxt l i = t2 at *
    clear HV h40 hA
    go_enter Tryz.func77, Tryz.ntmps77
    go_wp2_with fail
    generalize w.alloc (.cells #[.pointer (some ⟨b, 0, none⟩)] 48) = w0 at *
    with_reducible refine hn.mono ?_
    clear hn
    rintro x w2 ⟨rfl, hb1⟩
    have hP2 := hP0.below hb1
    have c2 := (hb1.cell (p := ⟨w.heap.size, 0, none⟩) (World.block_lt_of_cell? w0 _ c0)).trans c0
    have hcall := then_ok b A c l d i s out ⟨2, t, 0⟩ w2 hP2 hl
    dsimp only at hcall
    clear hP2 hP0 hg0 hP
    go_wp2_with fail
    with_reducible refine hcall.mono ?_
    clear hcall
    rintro x w3 ⟨rfl, hP3, hB3⟩
    go_wp2_with fail
    go_ret
    rw [HR.out]
    exact ⟨rfl, hP3, ((Fr.of hb0 hlt).trans (Fr.of hb1 (Nat.lt_of_lt_of_le hlt hb0.size))).trans hB3⟩
end Go.Proofs.YtndehkoglgakpaaGreatDoor
