/- The parser's own calls: the next token, adding an operation. No condition. -/
import Derived.Test.YtndehkoglgakpaaGreatDoorPrn
import Derived.Test.YtndehkoglgakpaaGreatDoorPar
import Derived.Deep.RegionLaw
import Derived.Deep.AppendLies
import Derived.Deep.OwnRows
namespace Go.Proofs.YtndehkoglgakpaaGreatDoor
open Go.RowKit Go.Deep

def opOf (o : Ex.Op) : List Value := [.int .i64 o.kind, .string (str o.text), .int .u32 o.n]
def opsOf (l : List Ex.Op) : List Value := l.flatMap opOf
theorem opsOf_snoc (l : List Ex.Op) (o : Ex.Op) : opsOf l ++ [.int .i64 o.kind, .string (str o.text), .int .u32 o.n] = opsOf (l ++ [o]) := by simp [opsOf, opOf]
theorem infoO : (Tryz.prog.info? 42).map (fun i => (i.zero, i.size, i.bytes)) = some (some (.agg #[.int .i64 0, .string ⟨#[]⟩, .int .u32 0]), 3, 32) := by kernel_rfl
/-- What parses a level. -/
def levV (b j : Nat) : Value := if j < 11 then .func (Fn.func 24) #[.agg #[.pointer (some ⟨b, 0, none⟩), .int .i64 (j : Int)]] #[] else .func (Fn.func 25) #[.pointer (some ⟨b, 0, none⟩)] #[]
def parV (b : Nat) (z tv fv : Value) (i d : Nat) (j : Nat) : Value := if j = 0 then tv else if j = 1 then .int .i64 (i : Int) else if j = 2 then .int .i64 (d : Int) else if j = 3 then fv else if j = 4 then z else levV b (j - 4)
/-- A parser: where it is, how deep, what it has found; s operations are to come for what was read. -/
structure PA (w : World) (b : Nat) (A : Option Addr) (c : Nat) (l : List Tok.Tk) (d i s : Nat) (out : List Ex.Op) : Prop where
  row : ∃ z fv, w.rowIs b 52 16 (parV b z (.slice A l.length c) fv i d) ∧ w.ownsRow (b + 1) 42 3 fv out.length (opsOf out)
  toks : TksAt w b A l
  here : i ≤ l.length
  room : out.length + s ≤ i
  errs : Errs w
  glob : 2 < b
section
variable {w w' : World} {b : Nat} {A : Option Addr} {c : Nat} {l : List Tok.Tk} {d i s : Nat} {out : List Ex.Op}
theorem PA.lt (h : PA w b A c l d i s out) : b < w.heap.size := by obtain ⟨_, _, hR, _⟩ := h.row; exact hR.lt
theorem PA.below (h : PA w b A c l d i s out) (hb : Below w.heap.size w w') : PA w' b A c l d i s out := by
  have hlt := h.lt
  obtain ⟨z, fv, hR, hO⟩ := h.row
  exact ⟨⟨z, fv, hR.of_block (hb.block b hlt), owns_below hO hb⟩, h.toks.below hb (by omega), h.here, h.room, h.errs.below hb, h.glob⟩
theorem PA.alloc (h : PA w b A c l d i s out) (o : Obj) : PA (w.alloc o) b A c l d i s out := h.below ((Below.refl _ _).alloc (Nat.le_refl _) o)
theorem PA.drew (h : PA w b A c l d i s out) : PA w.drew b A c l d i s out := h.below (Below.refl _ _).drew
theorem PA.drewN (h : PA w b A c l d i s out) (n : Nat) : PA (w.drewN n) b A c l d i s out := h.below ⟨rfl, rfl, rfl, Nat.le_refl _, fun _ _ => rfl⟩
theorem PA.tok (h : PA w b A c l d i s out) : w.cell? ⟨b, 0, none⟩ = some (.slice A l.length c) := by obtain ⟨_, _, hR, _⟩ := h.row; exact hR.cell (show 0 < 16 by decide)
theorem PA.at_ (h : PA w b A c l d i s out) : w.cell? ⟨b, 1, none⟩ = some (.int .i64 (i : Int)) := by obtain ⟨_, _, hR, _⟩ := h.row; exact hR.cell (show 1 < 16 by decide)
theorem PA.dep (h : PA w b A c l d i s out) : w.cell? ⟨b, 2, none⟩ = some (.int .i64 (d : Int)) := by obtain ⟨_, _, hR, _⟩ := h.row; exact hR.cell (show 2 < 16 by decide)
theorem PA.frz (h : PA w b A c l d i s out) (k : Nat) : w.frozen? ⟨b, k, none⟩ = false := by obtain ⟨_, _, hR, _⟩ := h.row; exact hR.frozen k
theorem PA.lv (h : PA w b A c l d i s out) (n : Nat) (h1 : 1 ≤ n) (h2 : n ≤ 11) : w.cell? ⟨b, 4 + n, none⟩ = some (levV b n) := by
  obtain ⟨z, fv, hR, _⟩ := h.row
  have := hR.cell (show 4 + n < 16 by omega)
  unfold parV at this
  rwa [if_neg (by omega), if_neg (by omega), if_neg (by omega), if_neg (by omega), if_neg (by omega), show 4 + n - 4 = n by omega] at this
theorem grown_set (w : World) (b k : Nat) (v : Value) : w.grownBy (w.setCell ⟨b, k, none⟩ v) (some b) := ⟨rfl, rfl, rfl, by simp, fun _ _ hne => blk_setCell_other _ _ _ _ (fun e => hne (by rw [e]))⟩
theorem own_ne {B e size n : Nat} {v : Value} {xs : List Value} {b : Nat} (h : w.ownsRow B e size v n xs) (hb : b < B) : v.ownBlock = none ∨ v.ownBlock ≠ some b := by
  right; intro e1
  have := (h.lt b e1).1
  omega
theorem TksAt.set {A : Option Addr} {l : List Tok.Tk} (h : TksAt w b A l) (k : Nat) (v : Value) : TksAt (w.setCell ⟨b, k, none⟩ v) b A l := fun j hj => by
  obtain ⟨g, o, e, hg, h1, h2⟩ := h j hj
  refine ⟨g, o, e, hg, ?_, ?_⟩
  · rw [← h1]; exact World.cell?_of_block (w := w) (blk_setCell_other _ _ _ _ (by show g ≠ b; omega))
  · rw [← h2]; exact World.cell?_of_block (w := w) (blk_setCell_other _ _ _ _ (by show g ≠ b; omega))
theorem Errs.set (h : Errs w) (hg : 2 < b) (k : Nat) (v : Value) : Errs (w.setCell ⟨b, k, none⟩ v) := by
  obtain ⟨te, pe, hc⟩ := h
  exact ⟨te, pe, (World.cell?_of_block (w := w) (blk_setCell_other _ _ _ _ (by show 2 ≠ b; omega))).trans hc⟩
theorem Errs.low (h : Errs w) (hg : 2 < b) (hb : Below b w w') : Errs w' := by
  obtain ⟨te, pe, hc⟩ := h
  exact ⟨te, pe, (hb.cell (p := ⟨2, 0, none⟩) hg).trans hc⟩
/-- The parser goes to another token, or to another depth. -/
theorem PA.setAt (h : PA w b A c l d i s out) (x : Int) (j s' : Nat) (hx : x = (j : Int)) (hj : j ≤ l.length) (hs : out.length + s' ≤ j) : PA (w.setCell ⟨b, 1, none⟩ (.int .i64 x)) b A c l d j s' out := by
  subst hx
  obtain ⟨z, fv, hR, hO⟩ := h.row
  refine ⟨⟨z, fv, (hR.set 1 _).congr fun k hk => ?_, hO.kept (grown_set w b 1 _) (own_ne hO (by omega))⟩, h.toks.set 1 _, hj, hs, h.errs.set h.glob 1 _, h.glob⟩
  unfold parV
  by_cases h1 : k = 1
  · subst h1; rfl
  · simp only [h1, if_false]
theorem PA.setDep (h : PA w b A c l d i s out) (x : Int) (e : Nat) (hx : x = (e : Int)) : PA (w.setCell ⟨b, 2, none⟩ (.int .i64 x)) b A c l e i s out := by
  subst hx
  obtain ⟨z, fv, hR, hO⟩ := h.row
  refine ⟨⟨z, fv, (hR.set 2 _).congr fun k hk => ?_, hO.kept (grown_set w b 2 _) (own_ne hO (by omega))⟩, h.toks.set 2 _, h.here, h.room, h.errs.set h.glob 2 _, h.glob⟩
  unfold parV
  by_cases h1 : k = 2
  · subst h1; rfl
  · simp only [h1, if_false]
end
set_option maxHeartbeats 1000000 in
set_option maxRecDepth 100000 in
theorem next_any (b : Nat) (A : Option Addr) (c : Nat) (l : List Tok.Tk) (d i s : Nat) (out : List Ex.Op) (w : World) (hP : PA w b A c l d i s out) :
    Calls Tryz.prog 49 #[.pointer (some ⟨b, 0, none⟩)] w fun e w' => e = .returned (.string (str (Ex.nxt l i))) ∧ Below w.heap.size w w' := by
  have c0 := hP.tok
  have c1 := hP.at_
  have hi := hP.here
  by_cases h : i < l.length
  · have t1 : ((i : Int) == (l.length : Int)) = false := by rw [beq_eq_false_iff_ne]; omega
    have t2 : (i == l.length) = false := by rw [beq_eq_false_iff_ne]; omega
    have hlt : (i : Int) < (l.length : Int) := by omega
    have hlt0 : 0 ≤ (i : Int) := by omega
    obtain ⟨g, o, rfl, hg, hk0, hk1⟩ := hP.toks i h
    have HN := Lib.hid (show Ex.nxt l i = l[i].text from dif_pos h)
    generalize l[i].text = t at *
    clear hP hk0
    go_enter Tryz.func49, Tryz.ntmps49
    go_wp2_with fail
    go_region
    all_goals
      go_wp2_with fail
      go_region
      all_goals
        go_wp2_with fail
        go_ret
        exact ⟨by rw [HN.out]; rfl, (Below.refl _ _).drew.drew⟩
  · have he : i = l.length := by omega
    have t1 : ((i : Int) == (l.length : Int)) = true := by rw [beq_iff_eq]; omega
    have HN := Lib.hid (show Ex.nxt l i = [] from dif_neg h)
    subst he
    clear hP h
    go_enter Tryz.func49, Tryz.ntmps49
    go_wp2_with fail
    go_region
    all_goals
      go_wp2_with fail
      go_ret
      exact ⟨by rw [HN.out]; rfl, (Below.refl _ _).drew⟩
set_option maxHeartbeats 1000000 in
set_option maxRecDepth 100000 in
theorem nextQ_any (b : Nat) (A : Option Addr) (c : Nat) (l : List Tok.Tk) (d i s : Nat) (out : List Ex.Op) (w : World) (hP : PA w b A c l d i s out) :
    Calls Tryz.prog 49 #[.pointer (some ⟨b, 0, none⟩)] w fun e w' => e = .returned (.string (str (Ex.nxt l i))) ∧ ∃ m, w' = w.drewN m := by
  have c0 := hP.tok
  have c1 := hP.at_
  have hi := hP.here
  by_cases h : i < l.length
  · have t1 : ((i : Int) == (l.length : Int)) = false := by rw [beq_eq_false_iff_ne]; omega
    have t2 : (i == l.length) = false := by rw [beq_eq_false_iff_ne]; omega
    have hlt : (i : Int) < (l.length : Int) := by omega
    have hlt0 : 0 ≤ (i : Int) := by omega
    obtain ⟨g, o, rfl, hg, hk0, hk1⟩ := hP.toks i h
    have HN := Lib.hid (show Ex.nxt l i = l[i].text from dif_pos h)
    generalize l[i].text = t at *
    clear hP hk0
    go_enter Tryz.func49, Tryz.ntmps49
    go_wp2_with fail
    go_region
    all_goals
      go_wp2_with fail
      go_region
      all_goals
        go_wp2_with fail
        go_ret
        exact ⟨by rw [HN.out]; rfl, 2, rfl⟩
  · have he : i = l.length := by omega
    have t1 : ((i : Int) == (l.length : Int)) = true := by rw [beq_iff_eq]; omega
    have HN := Lib.hid (show Ex.nxt l i = [] from dif_neg h)
    subst he
    clear hP h
    go_enter Tryz.func49, Tryz.ntmps49
    go_wp2_with fail
    go_region
    all_goals
      go_wp2_with fail
      go_ret
      exact ⟨by rw [HN.out]; rfl, 1, rfl⟩
theorem grown_own {w W w2 : World} {b : Nat} {row : Option Nat} (hb : Below b w W) (hg : W.grownBy w2 row) (hr : ∀ k, row = some k → b ≤ k) (hs : b ≤ w.heap.size := by omega) : Below b w w2 :=
  hb.trans ⟨hg.os, hg.tape, hg.output, hg.size, fun k hk => hg.block k (by have := hb.size; omega) (fun e => by have := hr k e.symm; omega)⟩
theorem PA.add {w : World} {b : Nat} {A : Option Addr} {c : Nat} {l : List Tok.Tk} {d i s : Nat} {out : List Ex.Op} {o : Ex.Op} {z fv : Value} {g cap : Nat} (hR : w.rowIs b 52 16 (parV b z (.slice A l.length c) fv i d))
    (hO : w.ownsRow (b + 1) 42 3 (.slice (some ⟨g, 0, none⟩) (out.length + 1) cap) (out.length + 1) (opsOf out ++ [.int .i64 o.kind, .string (str o.text), .int .u32 o.n])) (hT : TksAt w b A l) (hi : i ≤ l.length) (hr : out.length + (s + 1) ≤ i) (hE : Errs w) (hg : 2 < b) :
    PA (w.setCell ⟨b, 3, none⟩ (.slice (some ⟨g, 0, none⟩) (out.length + 1) cap)) b A c l d i s (out ++ [o]) := by
  rw [opsOf_snoc] at hO
  refine ⟨⟨z, .slice (some ⟨g, 0, none⟩) (out.length + 1) cap, (hR.set 3 _).congr fun k hk => ?_, ?_⟩, hT.set 3 _, hi, by simp; omega, hE.set hg 3 _, hg⟩
  · unfold parV
    by_cases h1 : k = 3
    · subst h1; rfl
    · simp only [h1, if_false]
  · rw [List.length_append, List.length_singleton]
    exact hO.kept (grown_set w b 3 _) (own_ne hO (Nat.lt_succ_self b))
/-- Blocks below b, and all others but m that are no parser's and no operations', stay. -/
structure Fr (b m : Nat) (w w' : World) : Prop where
  low : Below b w w'
  kept : ∀ k cs t fr, k ≠ b → k ≠ m → t ≠ 52 → t ≠ 42 → w.heap[k]? = some (.cells cs t fr) → w'.heap[k]? = some (.cells cs t fr)
theorem Fr.refl (b m : Nat) (w : World) : Fr b m w w := ⟨Below.refl b w, fun _ _ _ _ _ _ _ _ h => h⟩
theorem Fr.trans {b m : Nat} {w w1 w2 : World} (h : Fr b m w w1) (k : Fr b m w1 w2) : Fr b m w w2 := ⟨h.low.trans k.low, fun j cs t fr h0 h1 h2 h3 h4 => k.kept j cs t fr h0 h1 h2 h3 (h.kept j cs t fr h0 h1 h2 h3 h4)⟩
theorem Fr.of {b m : Nat} {w w' : World} (h : Below w.heap.size w w') (hb : b < w.heap.size) : Fr b m w w' :=
  ⟨h.mono (Nat.le_of_lt hb), fun k _ _ _ _ _ _ _ h4 => (h.block k (Array.getElem?_eq_some_iff.1 h4).1).trans h4⟩
theorem Fr.size {b m : Nat} {w w' : World} (h : Fr b m w w') : w.heap.size ≤ w'.heap.size := h.low.size
theorem Fr.set' (w : World) {b m : Nat} (k : Nat) (v : Value) : Fr b m w (w.setCell ⟨b, k, none⟩ v) :=
  ⟨(Below.refl b w).setCell (p := ⟨b, k, none⟩) (Nat.le_refl _) _, fun _j _ _ _ h0 _ _ _ h4 => (blk_setCell_other _ _ _ _ h0).trans h4⟩
theorem Fr.set {w : World} {b m : Nat} {A : Option Addr} {c : Nat} {l : List Tok.Tk} {d i s : Nat} {out : List Ex.Op} (_ : PA w b A c l d i s out) (k : Nat) (v : Value) : Fr b m w (w.setCell ⟨b, k, none⟩ v) := Fr.set' w k v
/-- An exempt block that was not there is none. -/
theorem Fr.fresh {b m : Nat} {w w1 w2 : World} (h : Fr b b w w1) (k : Fr b m w1 w2) (hm : w.heap.size ≤ m) : Fr b b w w2 :=
  ⟨h.low.trans k.low, fun j cs t fr h0 h1 h2 h3 h4 => k.kept j cs t fr h0 (by have := (Array.getElem?_eq_some_iff.1 h4).1; omega) h2 h3 (h.kept j cs t fr h0 h1 h2 h3 h4)⟩
theorem Fr.more {b m : Nat} {w w' : World} (h : Fr b b w w') : Fr b m w w' := ⟨h.low, fun j cs t fr h0 _ h2 h3 h4 => h.kept j cs t fr h0 h0 h2 h3 h4⟩
theorem Fr.grow {b m : Nat} {w W w2 : World} {n : Nat} {fv : Value} {xs : List Value} (h : Below w.heap.size w W) (hg : W.grownBy w2 fv.ownBlock) (hO : w.ownsRow (b + 1) 42 3 fv n xs) (hb : b < w.heap.size) : Fr b m w w2 := by
  refine ⟨grown_own (h.mono (Nat.le_of_lt hb)) hg (fun k hk => by have := (hO.lt k hk).1; omega), fun j cs t fr _ _ _ h3 h4 => ?_⟩
  have hj := (Array.getElem?_eq_some_iff.1 h4).1
  rw [hg.block j (Nat.lt_of_lt_of_le hj h.size) (fun e => ?_), h.block j hj]
  · exact h4
  · rcases hO.2 with ⟨rfl, _⟩ | ⟨g, cap, cur, rfl, _, hh, _⟩
    · cases e
    · have : j = g := by simpa [Value.ownBlock] using e
      subst this
      rw [hh] at h4
      simp only [Option.some.injEq, Obj.cells.injEq] at h4
      exact h3 h4.2.1.symm
set_option maxHeartbeats 2000000 in
set_option maxRecDepth 100000 in
theorem then_bad (b : Nat) (e : Int) (he : e ≠ 0) (o : Ex.Op) (w : World) :
    Calls Tryz.prog 50 #[.pointer (some ⟨b, 0, none⟩), .int .i64 e, .agg #[.int .i64 o.kind, .string (str o.text), .int .u32 o.n]] w fun x w' => x = .returned (.int .i64 e) ∧ Below w.heap.size w w' := by
  have h1 : (e == 0) = false := by rw [beq_eq_false_iff_ne]; exact he
  clear he
  go_enter Tryz.func50, Tryz.ntmps50
  go_wp2_with fail
  go_ret
  exact ⟨rfl, (Below.refl _ _).alloc (Nat.le_refl _) _⟩
set_option maxHeartbeats 4000000 in
set_option maxRecDepth 100000 in
theorem then_ok (b : Nat) (A : Option Addr) (c : Nat) (l : List Tok.Tk) (d i s : Nat) (out : List Ex.Op) (o : Ex.Op) (w : World) (hP : PA w b A c l d i (s + 1) out) (hl : l.length ≤ 1000000) :
    Calls Tryz.prog 50 #[.pointer (some ⟨b, 0, none⟩), .int .i64 0, .agg #[.int .i64 o.kind, .string (str o.text), .int .u32 o.n]] w fun x w' => x = .returned (.int .i64 0) ∧ PA w' b A c l d i s (out ++ [o]) ∧ Fr b b w w' := by
  obtain ⟨i0, hi0, hz0, hz1, hz2⟩ := info_parts infoO
  have hlt := hP.lt
  have hroom := hP.room
  have hhere := hP.here
  obtain ⟨z, fv, hR, hO⟩ := hP.row
  have hT := hP.toks
  have hEr := hP.errs
  have hGl := hP.glob
  have c3 : w.cell? ⟨b, 3, none⟩ = some fv := hR.cell (show 3 < 16 by decide)
  have f3 := hR.frozen 3
  have hne : some b ≠ fv.ownBlock := fun e => (own_ne hO (Nat.lt_succ_self b)).elim (fun h => by rw [h] at e; cases e) (fun h => h e.symm)
  have HB := Lib.hid (show ((w.alloc (.cells #[.int .i64 o.kind, .string (str o.text), .int .u32 o.n] 42)).alloc (.cells #[.int .i64 o.kind, .string (str o.text), .int .u32 o.n] 42)).drew.heap[w.heap.size + 1]? = some (.cells #[.int .i64 o.kind, .string (str o.text), .int .u32 o.n] 42) from by
    have h9 := heap_alloc_new (w.alloc (.cells #[.int .i64 o.kind, .string (str o.text), .int .u32 o.n] 42)) (.cells #[.int .i64 o.kind, .string (str o.text), .int .u32 o.n] 42)
    rw [show (w.alloc (.cells #[.int .i64 o.kind, .string (str o.text), .int .u32 o.n] 42)).heap.size = w.heap.size + 1 by simp] at h9
    exact h9)
  clear hP
  go_enter Tryz.func50, Tryz.ntmps50
  go_wp2_with fail
  go_region_law ((refine step_append_lies _ (by rfl) _ _ _ (by rfl) (b + 1) 42 i0 _ 3 32 Tryz.underlying26 hi0 hz0 hz1 hz2 rfl (by omega) fv out.length _ (by rfl) (((hO.alloc _).alloc _).drew) ⟨w.heap.size + 1, 0, none⟩ 1 1 [_, _, _] (by rfl) (by rfl) (World.news_of_block (cs := #[_, _, _]) (t := 42) (fr := (0, 0)) HB.out) (by simp [Value.oneCell']) (by omega) (by unfold maxLen; omega) (by omega) (by simp; omega) (w.heap.size + 2) (by simp) ?_; intro gg cap w3 hown3 hgrow hat hlt3; have hR3 := (((hR.alloc _).alloc _).drew).of_block (hgrow.block b (by simp; omega) hne); have f33 := hR3.frozen 3; have c33 := hR3.cell (show 3 < 16 by decide)))
  all_goals
    have hB : Fr b b w w3 := Fr.grow (((Below.refl _ w).alloc (Nat.le_refl _) _).alloc (by simp) _).drew hgrow hO hlt
    have hfin := PA.add hR3 hown3 (hT.below hB.low (Nat.le_refl _)) hhere hroom (hEr.low hGl hB.low) hGl
    have hbf : Fr b b w (w3.setCell ⟨b, 3, none⟩ (.slice (some ⟨gg, 0, none⟩) (out.length + 1) cap)) := hB.trans (Fr.set' w3 3 _)
    clear hR3 hown3 hB hgrow hat hlt3 hT hR hO HB c3 f3 c33 f33 hi0 hz0 hz1 hz2
    go_wp2_with fail
    go_ret
    exact ⟨rfl, hfin, hbf⟩
end Go.Proofs.YtndehkoglgakpaaGreatDoor
