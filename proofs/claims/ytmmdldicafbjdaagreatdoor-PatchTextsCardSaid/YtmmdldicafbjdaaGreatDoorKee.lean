/- The patch that keeps the lines of some pairs: keeping of the program. Condition: the variables that the program reads lie. -/
import Derived.Test.YtmmdldicafbjdaaGreatDoorApl
import Derived.Test.YtmmdldicafbjdaaGreatDoorCol
import Derived.Test.YtmmdldicafbjdaaGreatDoorCom
import Derived.Test.YtmmdldicafbjdaaGreatDoorKp3
namespace Go.Proofs.YtmmdldicafbjdaaGreatDoor
open Go.RowKit Go.Deep Tr

theorem own_pos {w : World} {B : Nat} {e : TypeId} {size n : Nat} {v : Value} {xs : List Value} (h : w.ownsRow B e size v n xs) (hn : 0 < n) : ∃ g cap, v = .slice (some ⟨g, 0, none⟩) n cap ∧ B ≤ g ∧ g < w.heap.size ∧ n ≤ cap ∧ cap ≤ maxLen ∧ ∀ j, j < n * size → w.cell? ⟨g, j, none⟩ = xs[j]? := by
  rcases h.2 with ⟨rfl, h0⟩ | ⟨g, cap, cur, rfl, hb, hg, h1, h2, _, _⟩
  · omega
  · exact ⟨g, cap, rfl, hb, (Array.getElem?_eq_some_iff.1 hg).1, h1, h2, fun j hj => h.cellAt j hj⟩
/-- Pairs where they lie. -/
def PrAt (w : World) (B : Nat) (A : Option Addr) (K : List (Nat × Nat)) : Prop := ∀ k (h : k < K.length), ∃ g o, A = some ⟨g, o, none⟩ ∧ g < B ∧ w.cell? ⟨g, o + k * 2, none⟩ = some (.int .i64 (K[k].1 : Int)) ∧ w.cell? ⟨g, o + k * 2 + 1, none⟩ = some (.int .i64 (K[k].2 : Int))
theorem PrAt.next {w w' : World} {A : Option Addr} {K : List (Nat × Nat)} (h : PrAt w w.heap.size A K) (hb : Below w.heap.size w w') : PrAt w' w'.heap.size A K := fun k hk => by
  obtain ⟨g, o, e, hg, h0, h1⟩ := h k hk
  exact ⟨g, o, e, Nat.lt_of_lt_of_le hg hb.size, (hb.cell (p := ⟨g, o + k * 2, none⟩) hg).trans h0, (hb.cell (p := ⟨g, o + k * 2 + 1, none⟩) hg).trans h1⟩
theorem prsV_at : ∀ (l : List (Nat × Nat)) (k i : Nat) (h : k < l.length), i < 2 → (prsV l)[k * 2 + i]? = (prV l[k])[i]?
  | x :: t, 0, i, _, hi => by
    have : prsV (x :: t) = prV x ++ prsV t := rfl
    rw [this, List.getElem?_append_left (by show 0 * 2 + i < 2; omega)]
    simp
  | x :: t, k + 1, i, h, hi => by
    have e : prsV (x :: t) = prV x ++ prsV t := rfl
    rw [e, List.getElem?_append_right (by show 2 ≤ _; omega)]
    have := prsV_at t k i (by simpa using h) hi
    rw [show (k + 1) * 2 + i - (prV x).length = k * 2 + i by show (k + 1) * 2 + i - 2 = _; omega, this]
    simp
theorem owns_prs {w : World} {B : Nat} {v : Value} {K : List (Nat × Nat)} (h : w.ownsRow B 69 2 v K.length (prsV K)) : ∃ A c, v = .slice A K.length c ∧ PrAt w w.heap.size A K := by
  rcases h.2 with ⟨rfl, h0⟩ | ⟨g, cap, cur, rfl, hb, hg, h1, h2, _, _⟩
  · have : K = [] := List.length_eq_zero_iff.1 h0
    subst this
    exact ⟨none, 0, rfl, fun k hk => by simp at hk⟩
  · refine ⟨_, cap, rfl, fun k hk => ⟨g, 0, rfl, (Array.getElem?_eq_some_iff.1 hg).1, ?_, ?_⟩⟩
    · rw [Nat.zero_add, h.cellAt _ (by omega)]
      exact prsV_at K k 0 hk (by omega)
    · rw [Nat.zero_add, h.cellAt _ (by omega)]
      exact prsV_at K k 1 hk (by omega)
theorem HsAt_of {w : World} {B bx pb : Nat} {base : List UInt8} {l : List Hc} {v : Value} (h : Cl w B bx pb base l v) : ∃ A c, v = .slice A (l.map (·.h)).length c ∧ HsAt w w.heap.size A (l.map (·.h)) := by
  rcases h.row.2 with ⟨rfl, h0⟩ | ⟨g, cap, cur, rfl, hb, hg, h1, h2, _, _⟩
  · have : l = [] := List.length_eq_zero_iff.1 h0
    subst this
    exact ⟨none, 0, rfl, fun k hk => by simp at hk⟩
  · refine ⟨some ⟨g, 0, none⟩, cap, by rw [List.length_map], fun k hk => ?_⟩
    have hk' : k < l.length := by simpa using hk
    have hx := h.lns l[k] (List.getElem_mem hk')
    have c0 := h.row.cellAt (k * 3) (by omega)
    have c1 := h.row.cellAt (k * 3 + 1) (by omega)
    have c2 := h.row.cellAt (k * 3 + 2) (by omega)
    have e0 := hcsV_at l k 0 hk' (by omega)
    rw [Nat.add_zero] at e0
    rw [e0] at c0
    rw [hcsV_at l k 1 hk' (by omega)] at c1
    rw [hcsV_at l k 2 hk' (by omega)] at c2
    refine ⟨g, 0, l[k].A, l[k].c, rfl, (Array.getElem?_eq_some_iff.1 hg).1, ?_, ?_, ?_, ?_, ?_, hx.max⟩
    · rw [Nat.zero_add, c0, List.getElem_map]; rfl
    · rw [Nat.zero_add, c1, List.getElem_map]; rfl
    · rw [Nat.zero_add, c2, List.getElem_map]; rfl
    · rw [List.getElem_map]
      rcases hx.at_ with e | ⟨g', o', cs, fr, e1, e2, e3⟩
      · rw [e]; intro i hi; simp [strs] at hi
      · intro i hi
        rw [strs_len] at hi
        refine ⟨g', o', e1, blk_lt e2, ?_⟩
        rw [strs_get _ i hi]
        have := e3 i hi
        rw [cell_of_row _ _ _ _ _ _ e2]; exact this
    · rw [List.getElem_map]; exact hx.cap
theorem keep2 {w w1 : World} {v0 v1 : Value} {T : TypeId} (hb : Below (w.alloc (.cells #[v0, v1] T)).heap.size (w.alloc (.cells #[v0, v1] T)) w1) :
    w1.cell? ⟨w.heap.size, 0, none⟩ = some v0 ∧ w1.cell? ⟨w.heap.size, 1, none⟩ = some v1 ∧ w1.frozen? ⟨w.heap.size, 0, none⟩ = false ∧ w1.frozen? ⟨w.heap.size, 1, none⟩ = false ∧ w.heap.size < w1.heap.size :=
  ⟨(hb.cell (p := ⟨w.heap.size, 0, none⟩) (by simp)).trans (by go_simp), (hb.cell (p := ⟨w.heap.size, 1, none⟩) (by simp)).trans (by go_simp), (hb.frozen (p := ⟨w.heap.size, 0, none⟩) (by simp)).trans (by go_simp), (hb.frozen (p := ⟨w.heap.size, 1, none⟩) (by simp)).trans (by go_simp), Nat.lt_of_lt_of_le (by simp) hb.size⟩
set_option maxHeartbeats 1000000 in
theorem collector_any (pb : Nat) (w : World) : Calls Tryz.prog 60 #[.pointer (some ⟨pb, 0, none⟩)] w fun e w' => e = .returned (.func (Fn.func 76) #[] #[.pointer (some ⟨w.heap.size, 0, none⟩)]) ∧ w' = w.alloc (.cells #[.pointer (some ⟨pb, 0, none⟩)] 101) := by
  go_enter Tryz.func60, Tryz.ntmps60
  go_wp2_with fail
  go_ret
  exact ⟨rfl, rfl⟩
namespace Pc
theorem take_len (hs : List Hk) (k : Int) (ls : List Ln) : (take hs k ls).length ≤ hs.length + 1 := by
  unfold take
  split
  · omega
  · split
    · split
      · simp only [List.length_append, List.length_dropLast, List.length_singleton]; omega
      · simp
    · simp
theorem take_n (hs : List Hk) (k : Int) (ls : List Ln) (M : Int) (hM : 0 ≤ M) (hl : ls.length ≤ 1024) (h : ∀ x ∈ hs, 0 ≤ x.n ∧ x.n ≤ M) : ∀ x ∈ take hs k ls, 0 ≤ x.n ∧ x.n ≤ M + 1024 := by
  intro x hx
  unfold take at hx
  split at hx
  · have := h x hx; omega
  · split at hx
    · rename_i y hy
      have hym : y ∈ hs := List.mem_of_getLast? hy
      have := h y hym
      split at hx
      · rcases List.mem_append.1 hx with hx | hx
        · have := h x ((List.dropLast_sublist _).subset hx); omega
        · rw [List.mem_singleton.1 hx]; simp only [addTo]; omega
      · rcases List.mem_append.1 hx with hx | hx
        · have := h x hx; omega
        · rw [List.mem_singleton.1 hx]; simp only [addTo]; omega
    · rw [List.mem_singleton.1 hx]; simp only [addTo]; omega
theorem take_last' (hs : List Hk) (k : Int) (ls : List Ln) (h : ls ≠ []) : take hs k ls ≠ hs := by
  unfold take
  rw [if_neg h]
  have hp : 1 ≤ ls.length := List.length_pos_iff.2 h
  split
  · rename_i y hy
    split
    · intro e
      have h1 : hs = hs.dropLast ++ [y] := by
        rcases List.eq_nil_or_concat hs with rfl | ⟨t, z, rfl⟩
        · simp at hy
        · rw [List.concat_eq_append] at *
          simp at hy
          simp [hy]
      have h2 := e.trans h1
      have h3 := List.append_cancel_left h2
      simp only [List.cons.injEq, and_true] at h3
      have h4 := congrArg Hk.n h3
      simp only [addTo] at h4
      omega
    · intro e
      have := congrArg List.length e
      simp at this
  · rename_i hy
    rw [List.getLast?_eq_none_iff.1 hy]
    simp
theorem take_last (hs : List Hk) (k : Int) (ls : List Ln) : take hs k ls = hs ∨ ∃ x, (take hs k ls).getLast? = some x ∧ x.kind = k := by
  by_cases h0 : ls = []
  · left; rw [h0, take_nil]
  · right
    unfold take
    rw [if_neg h0]
    split
    · rename_i y hy
      split
      · rename_i e
        exact ⟨addTo k ls y, by simp, by rw [← e]; rfl⟩
      · exact ⟨addTo k ls ⟨k, 0, []⟩, by simp, rfl⟩
    · exact ⟨addTo k ls ⟨k, 0, []⟩, by simp, rfl⟩
end Pc
theorem Cl.low {w : World} {B bx pb rb i : Nat} {base : List UInt8} {l : List Hc} {v u : Value} {cs : Array Value} (h : Cl w B bx pb base l v) (hr : w.heap[rb]? = some (.cells cs 24 (0, 0))) (hlt : rb < B) : Cl (w.setCell ⟨rb, i, none⟩ u) B bx pb base l v := by
  have hk : KeptS w (w.setCell ⟨rb, i, none⟩ u) := KeptS.set hr (.inr rfl)
  refine ⟨(blk_setCell_other _ _ _ _ (show bx ≠ rb by have := h.lob; omega)).trans h.box, (blk_setCell_other _ _ _ _ (show pb ≠ rb by have := h.lop; omega)).trans h.pat, h.row.kept (row := some rb) ⟨rfl, rfl, rfl, by simp, fun k _ hk => heap_setCell_other w ⟨rb, i, none⟩ k _ (fun e => hk (by rw [e]))⟩ (.inr fun e => by have := (h.row.lt rb e).1; omega), h.nil, fun x hx => (h.lns x hx).keep hk, h.lop, h.lob⟩
theorem ls_change : ∀ (hs : List Pc.Hk) (l : List (List UInt8)), (∀ h ∈ hs, Pc.isHunk h = true) → ∀ h ∈ hs, ∀ x ∈ h.ls, x ∈ Pc.change hs l
  | [], _, _, h, hh, _, _ => by simp at hh
  | g :: t, l, hall, h, hh, x, hx => by
    have ih := fun l => ls_change t l (fun y hy => hall y (by simp [hy])) h
    rw [Pc.change]
    rcases List.mem_cons.1 hh with rfl | hh
    · have h1 := hall h (by simp)
      obtain ⟨_, hk, _⟩ := Pc.isHunk_num h1
      unfold Pc.isHunk at h1
      rcases hk with e | e | e
      · rw [if_pos (.inl e)] at h1
        simp only [Bool.and_eq_true, decide_eq_true_eq] at h1
        rw [List.length_eq_zero_iff.1 h1.2] at hx; simp at hx
      · rw [if_pos (.inr e)] at h1
        simp only [Bool.and_eq_true, decide_eq_true_eq] at h1
        rw [List.length_eq_zero_iff.1 h1.2] at hx; simp at hx
      · rw [if_neg (by omega), if_neg (by omega), if_pos e]
        exact List.mem_append_left _ hx
    · split
      · exact List.mem_append_right _ (ih _ hh x hx)
      · split
        · exact ih _ hh x hx
        · split
          · exact List.mem_append_right _ (ih _ hh x hx)
          · exact ih _ hh x hx
/-- Hunks in blocks of their types. -/
def HsT (w : World) (A : Option Addr) (hs : List Pc.Hk) : Prop := ∀ k (hk : k < hs.length), ∃ (g o : Nat) (cs : Array Value) (fr : Nat × Nat) (x : Hc), A = some ⟨g, o, none⟩ ∧ w.heap[g]? = some (.cells cs 47 fr) ∧ x.h = hs[k] ∧ (∀ i u, (hcV x)[i]? = some u → cs[o + k * 3 + i]? = some u) ∧ LnS w x
theorem HsT.at_ {w : World} {A : Option Addr} {hs : List Pc.Hk} (h : HsT w A hs) : HsAt w w.heap.size A hs := fun k hk => by
  obtain ⟨g, o, cs, fr, x, e, hg, hx, hc, hl⟩ := h k hk
  refine ⟨g, o, x.A, x.c, e, blk_lt hg, ?_, ?_, ?_, ?_, by rw [← hx]; exact hl.cap, hl.max⟩
  · rw [cell_of_row _ _ _ _ _ _ hg, ← hx]; exact hc 0 _ rfl
  · rw [cell_of_row _ _ _ _ _ _ hg, hc 1 _ rfl, hx]
  · rw [cell_of_row _ _ _ _ _ _ hg, hc 2 _ rfl, hx]
  · rw [← hx]
    rcases hl.at_ with e | ⟨g', o', cs', fr', e1, e2, e3⟩
    · rw [e]; intro i hi; simp [strs] at hi
    · intro i hi
      rw [strs_len] at hi
      refine ⟨g', o', e1, blk_lt e2, ?_⟩
      rw [strs_get _ i hi, cell_of_row _ _ _ _ _ _ e2]; exact e3 i hi
theorem HsT.kept {w w' : World} {A : Option Addr} {hs : List Pc.Hk} (h : HsT w A hs) (k1 : ∀ (q : Nat) (cs : Array Value) (t : TypeId) (fr : Nat × Nat), w.heap[q]? = some (.cells cs t fr) → t ≠ 24 → w'.heap[q]? = some (.cells cs t fr)) : HsT w' A hs := fun k hk => by
  obtain ⟨g, o, cs, fr, x, e, hg, hx, hc, hl⟩ := h k hk
  exact ⟨g, o, cs, fr, x, e, k1 g cs _ fr hg (by decide), hx, hc, hl.keep fun q cs t fr e _ e2 => k1 q cs t fr e e2⟩
theorem HsT.set {w : World} {A : Option Addr} {hs : List Pc.Hk} {rb i : Nat} {u : Value} {cs : Array Value} (h : HsT w A hs) (hr : w.heap[rb]? = some (.cells cs 24 (0, 0))) : HsT (w.setCell ⟨rb, i, none⟩ u) A hs := h.kept fun q cs' t fr e ht => by
  rw [blk_setCell_other _ _ _ _ (show q ≠ rb from fun h => by
    subst h
    rw [hr] at e
    simp only [Option.some.injEq, Obj.cells.injEq] at e
    exact ht e.2.1.symm)]
  exact e
theorem HsT.next {w w' : World} {A : Option Addr} {hs : List Pc.Hk} (h : HsT w A hs) (hb : Below w.heap.size w w') : HsT w' A hs := h.kept fun q _ _ _ e _ => (hb.block q (blk_lt e)).trans e
theorem HsT_of {w : World} {B bx pb : Nat} {base : List UInt8} {l : List Hc} {v : Value} (h : Cl w B bx pb base l v) : ∃ A c, v = .slice A (l.map (·.h)).length c ∧ HsT w A (l.map (·.h)) := by
  rcases h.row.2 with ⟨rfl, h0⟩ | ⟨g, cap, cur, rfl, hb, hg, h1, h2, _, ht⟩
  · have : l = [] := List.length_eq_zero_iff.1 h0
    subst this
    exact ⟨none, 0, rfl, fun k hk => by simp at hk⟩
  · refine ⟨some ⟨g, 0, none⟩, cap, by rw [List.length_map], fun k hk => ?_⟩
    have hk' : k < l.length := by simpa using hk
    refine ⟨g, 0, cur, (0, 0), l[k], rfl, hg, by rw [List.getElem_map], fun i u hu => ?_, h.lns l[k] (List.getElem_mem hk')⟩
    have hi : i < 3 := (List.getElem?_eq_some_iff.1 hu).1
    have e := hcsV_at l k i hk' hi
    rw [← ht, List.getElem?_take, if_pos (by omega), hu] at e
    rw [Nat.zero_add, ← Array.getElem?_toList]; exact e
/-- What returns a patch. -/
def GotPa (w : World) (R : Pc.Pa × Int) : Ending → World → Prop := fun e w' => ∃ A c, e = .returned (.tuple #[paV R.1 A c, .int .i64 R.2]) ∧ HsT w' A R.1.hs ∧ Below w.heap.size w w'
theorem keepHs_cons (hs : List Pc.Hk) (a b : List (List UInt8)) (i j x y : Nat) (t : List (Nat × Nat)) : Pc.keepHs hs a b i j ((x, y) :: t) = Pc.keepHs (Pc.take (Pc.take (Pc.take hs 2 ((a.take x).drop i)) 3 ((b.take y).drop j)) 1 ((a.take (x + 1)).drop x)) a b (x + 1) (y + 1) t := rfl
theorem keepHs_nil (hs : List Pc.Hk) (a b : List (List UInt8)) (i j : Nat) : Pc.keepHs hs a b i j [] = Pc.take (Pc.take hs 2 (a.drop i)) 3 (b.drop j) := rfl
theorem keeping_def (base : List UInt8) (a b : List (List UInt8)) (K : List (Nat × Nat)) : Pc.keeping base a b K = if Pc.valid ⟨base, Pc.keepHs [] a b 0 0 K⟩ = true then (⟨base, Pc.keepHs [] a b 0 0 K⟩, 0) else (⟨[], []⟩, 10) := rfl
/-- What the loop keeps. -/
structure Kin (w : World) (B bx pb : Nat) (base : List UInt8) (l : List Hc) (v : Value) (k : Nat) : Prop where
  cl : Cl w B bx pb base l v
  n : ∀ x ∈ l.map (·.h), 0 ≤ x.n ∧ x.n ≤ 4096 * (k : Int)
  last : ∀ x, (l.map (·.h)).getLast? = some x → x.kind = 1
  len : l.length ≤ 3 * k
theorem last_map {l : List Hc} {q : Pc.Hk → Prop} (h : ∀ x, (l.map (·.h)).getLast? = some x → q x) : ∀ x, l.getLast? = some x → q x.h := fun x hx => h x.h (by rw [List.getLast?_map, hx]; rfl)
theorem n_map {l : List Hc} {M : Int} (hM : M ≤ 1000000000) (h : ∀ x ∈ l.map (·.h), 0 ≤ x.n ∧ x.n ≤ M) : ∀ x ∈ l, 0 ≤ x.h.n ∧ x.h.n ≤ 1000000000 := fun x hx => by
  have := h x.h (List.mem_map.2 ⟨x, hx, rfl⟩); omega
set_option maxHeartbeats 16000000 in
set_option maxRecDepth 100000 in
theorem keeping_any (base : List UInt8) (f t : ByteArray) (a b : List (List UInt8)) (A : Option Addr) (c : Nat) (K : List (Nat × Nat)) (w : World) (hI : IdAt w) (hf : Tre.lines f.data.toList = (a, 0)) (ht : Tre.lines t.data.toList = (b, 0)) (hfs : f.size ≤ 1000000000) (hts : t.size ≤ 1000000000)
    (hK : PrAt w w.heap.size A K) (hm : Pc.Mat a b 0 0 K) (hKl : K.length ≤ 1024) (hbl : base.length ≤ 1000000000) :
    Calls Tryz.prog 41 #[.string (str base), .string f, .string t, .slice A K.length c] w (GotPa w (Pc.keeping base a b K)) := by
  obtain ⟨_, ha1, ha2, _, _, hae⟩ := Pc.lines_ok hf
  obtain ⟨_, hb1, hb2, _, _, hbe⟩ := Pc.lines_ok ht
  have HLB := Lib.hid (show ∀ l ∈ b, l.length ≤ 1000000 from fun l hl => by
    rw [hbe] at hl
    have h1 := Tre.split_le 10 t.data.toList l hl
    unfold Tre.lines at ht
    split at ht
    · cases (Prod.mk.inj ht).2
    · omega)
  clear hae hbe
  have HR := Lib.hid (keeping_def base a b K)
  generalize Pc.keeping base a b K = R at *
  have HK0 := Lib.hid (show Pc.keepHs [] a b 0 0 K = Pc.keepHs (([] : List Hc).map (·.h)) a b 0 0 (K.drop 0) from rfl)
  have HLS := Lib.hid (show ∀ h ∈ Pc.keepHs [] a b 0 0 K, ∀ l ∈ h.ls, l.length ≤ 1000000 from fun h hh l hl => by
    have hst := Pc.keep_ok ha2 hb2 hm
    have h1 := ls_change _ a hst.all.1 h hh l hl
    rw [hst.chg, List.take_length] at h1
    exact HLB.out l h1)
  generalize hkh : Pc.keepHs [] a b 0 0 K = KH at *
  clear hkh
  have hb0 : Below w.heap.size w (w.alloc (.cells #[.string ⟨#[]⟩, .slice none 0 0] 24)) := (Below.refl _ _).alloc (Nat.le_refl _) _
  have hl1 := lines_any f _ hfs (hI.below hb0).max
  rw [hf] at hl1
  go_enter Tryz.func41, Tryz.ntmps41
  go_wp2_with fail
  with_reducible refine hl1.mono ?_
  clear hl1
  rintro x w1 ⟨v1, rfl, ho1, hbA⟩
  dsimp only at ho1
  obtain ⟨ga, ca, rfl, _, hga, hca, hcam, _⟩ := own_pos ho1 ha1
  obtain ⟨A1, c1, he1, hA1⟩ := owns_cells ho1
  injection he1 with he1 _ he1c
  subst he1 he1c
  have hb01 := hb0.trans (hbA.mono hb0.size)
  have hrk : w1.heap[w.heap.size]? = some (.cells #[.string ⟨#[]⟩, .slice none 0 0] 24 (0, 0)) := (hbA.block _ (by simp)).trans (heap_alloc_new w _)
  have hl2 := lines_any t w1 hts (hI.below hb01).max
  rw [ht] at hl2
  clear ho1 hbA hb0
  go_wp2_with fail
  with_reducible refine hl2.mono ?_
  clear hl2
  rintro x w2 ⟨v2, rfl, ho2, hbB⟩
  dsimp only at ho2
  obtain ⟨gb, cb, rfl, _, hgb, hcb, hcbm, _⟩ := own_pos ho2 hb1
  obtain ⟨B1, d1, he2, hB1⟩ := owns_cells ho2
  injection he2 with he2 _ he2c
  subst he2 he2c
  have hA2 := hA1.next hbB
  have hb02 := hb01.trans (hbB.mono hb01.size)
  have hrk2 : w2.heap[w.heap.size]? = some (.cells #[.string ⟨#[]⟩, .slice none 0 0] 24 (0, 0)) := (hbB.block _ (blk_lt hrk)).trans hrk
  have hI2 := hI.below hb02
  have hK2 := hK.next hb02
  have hcc := collector_any w2.heap.size (w2.alloc (.cells #[.string (str base), .slice none 0 0] 24))
  have hC4 : Cl ((w2.alloc (.cells #[.string (str base), .slice none 0 0] 24)).alloc (.cells #[.pointer (some ⟨w2.heap.size, 0, none⟩)] 101)) w2.heap.size (w2.heap.size + 1) w2.heap.size base [] (.slice none 0 0) := by
    have h1 := heap_alloc_new (w2.alloc (.cells #[.string (str base), .slice none 0 0] 24)) (.cells #[.pointer (some ⟨w2.heap.size, 0, none⟩)] 101)
    have hsz : (w2.alloc (.cells #[.string (str base), .slice none 0 0] 24)).heap.size = w2.heap.size + 1 := by simp
    rw [hsz] at h1
    have h2 := heap_alloc_new w2 (.cells #[.string (str base), .slice none 0 0] 24)
    exact ⟨h1, by rw [blk_alloc_lt _ _ _ (by rw [hsz]; omega)]; exact h2, World.ownsRow_nil _ _ _ _, fun _ => rfl, fun x hx => by simp at hx, Nat.le_refl _, by omega⟩
  have hb4 : Below w2.heap.size w2 ((w2.alloc (.cells #[.string (str base), .slice none 0 0] 24)).alloc (.cells #[.pointer (some ⟨w2.heap.size, 0, none⟩)] 101)) := ((Below.refl _ _).alloc (Nat.le_refl _) _).alloc (by simp) _
  have hsz : (w2.alloc (.cells #[.string (str base), .slice none 0 0] 24)).heap.size = w2.heap.size + 1 := by simp
  rw [hsz] at hcc
  have hrl2 := blk_lt hrk2
  clear hsz hrk hbB hA1 hb01 ho2 hI hK
  go_wp2_with fail
  with_reducible refine hcc.mono ?_
  clear hcc
  rintro x w4 ⟨rfl, rfl⟩
  go_wp2_with fail
  generalize (w2.alloc (.cells #[.string (str base), .slice none 0 0] 24)).alloc (.cells #[.pointer (some ⟨w2.heap.size, 0, none⟩)] 101) = w4 at *
  generalize hbx : w2.heap.size + 1 = bx at *
  clear hbx
  generalize hBq : w2.heap.size = B at *
  have HBQ := Lib.hid hBq
  clear hBq
  have HINV := Lib.hid (⟨hC4, by simp, by simp, by simp⟩ : Kin w4 B bx B base [] (.slice none 0 0) 0)
  have HM := Lib.hid hm
  clear hC4 hm
  go_loopw [16, 17, 35] (fun s16 s17 s35 wr => ∃ (k i j : Nat) (l : List Hc) (v : Value), k ≤ K.length ∧ s35 = .int .i64 k ∧ s16 = .int .i64 i ∧ s17 = .int .i64 j ∧ i ≤ a.length ∧ j ≤ b.length ∧ Kin wr B bx B base l v k ∧ KH = Pc.keepHs (l.map (·.h)) a b i j (K.drop k) ∧ Pc.Mat a b i j (K.drop k) ∧ Below B w2 wr) (fun _ _ s35 _ => K.length - (intOf s35).toNat)
  case atStart => exact ⟨0, 0, 0, [], _, by omega, rfl, rfl, rfl, by omega, by omega, HINV.out, HK0.out, HM.out, hb4⟩
  case round =>
    clear HINV HK0 HM hb4
    obtain ⟨k, i, j, l, v, hk, rfl, rfl, rfl, hia, hjb, hI0, hKH, hm, hb⟩ := hrel
    have HKH := Lib.hid hKH
    clear hKH
    by_cases hlt : k < K.length
    · have bb1 : decide ((k : Int) < K.length) = true := by simp; omega
      have bb1n : decide (k < K.length) = true := by simp; omega
      obtain ⟨g, o, rfl, hg, hx0, hx1⟩ := hK2 k hlt
      have hd0 := (hb.cell (p := ⟨g, o + k * 2, none⟩) hg).trans hx0
      have hd1 := (hb.cell (p := ⟨g, o + k * 2 + 1, none⟩) hg).trans hx1
      rw [List.drop_eq_getElem_cons hlt] at hm
      have HKH2 := Lib.hid (HKH.out.trans (by rw [List.drop_eq_getElem_cons hlt]))
      clear hx0 hx1 HKH
      generalize K[k] = pr at *
      obtain ⟨x, y⟩ := pr
      obtain ⟨m1, m2, m3, m4, m5, m6⟩ := Pc.mat_tail hm
      have HM6 := Lib.hid m6
      have HST := Lib.hid (HKH2.out.trans (keepHs_cons _ _ _ _ _ _ _ _))
      clear HKH2 hm m5 m6
      dsimp only at hd0 hd1
      have hnew := heap_alloc_new wr (.cells #[.int .i64 (x : Int), .int .i64 (y : Int)] 69)
      have hbw : Below B w2 (wr.alloc (.cells #[.int .i64 (x : Int), .int .i64 (y : Int)] 69)) := hb.alloc (by rw [← HBQ.out]; exact hb.size) _
      have hC5 := hI0.cl.next (w' := wr.alloc (.cells #[.int .i64 (x : Int), .int .i64 (y : Int)] 69)) ((Below.refl _ _).alloc (Nat.le_refl _) _)
      go_upto_region 9 with (fail)
      generalize wr.alloc (.cells #[.int .i64 (x : Int), .int .i64 (y : Int)] 69) = w5 at *
      generalize wr.heap.size = q at *
      have hBw : B ≤ w5.heap.size := by have h := hbw.size; have := HBQ.out; omega
      have p0 : w5.cell? ⟨q, 0, none⟩ = some (.int .i64 (x : Int)) := by rw [cell_of_row _ _ _ _ _ _ hnew]; rfl
      have z1 : (i : Int) ≤ (x : Int) := by omega
      have z2 : (x : Int) ≤ (ca : Int) := by omega
      have z2n : x ≤ ca := by omega
      have z3 : ¬ ca = i := by omega
      have z4 : (j : Int) ≤ (y : Int) := by omega
      have z5 : (y : Int) ≤ (cb : Int) := by omega
      have z5n : y ≤ cb := by omega
      have z6 : ¬ cb = j := by omega
      have z7 : (x : Int) < (a.length : Int) := by omega
      have hsegA : ((a.take x).drop i).length = x - i := by rw [List.length_drop, List.length_take]; omega
      have hsegB : ((b.take y).drop j).length = y - j := by rw [List.length_drop, List.length_take]; omega
      have hc1 := col_any B bx B base l v 2 (some ⟨ga, i, none⟩) (ca - i) ((a.take x).drop i) w5 hC5 hBw (fun h => absurd h (by decide)) (by omega) (n_map (by omega) hI0.n) (fun h => absurd h (by decide)) (by have := hI0.len; omega)
      have HN0 := Lib.hid hI0.n
      have HL0 := Lib.hid hI0.last
      have hlen0 := hI0.len
      rw [hsegA] at hc1
      clear hd0 hd1 hC5 hI0
      go_wp2_with fail
      with_reducible refine hc1.mono ?_
      clear hc1 p0
      rintro e w6 ⟨rfl, l1, v1, hC6, hm6, hb6, hk6⟩
      have hnew6 := hk6 q _ _ _ hnew (by decide) (by decide)
      have p1 : w6.cell? ⟨q, 1, none⟩ = some (.int .i64 (y : Int)) := by rw [cell_of_row _ _ _ _ _ _ hnew6]; rfl
      have hbw6 := hbw.trans hb6
      have hBw6 : B ≤ w6.heap.size := Nat.le_trans hBw hb6.size
      have hn1 : ∀ z ∈ l1.map (·.h), 0 ≤ z.n ∧ z.n ≤ 4096 * (k : Int) + 1024 := by rw [hm6]; exact Pc.take_n _ _ _ _ (by omega) (by omega) HN0.out
      have hla1 : ∀ z, (l1.map (·.h)).getLast? = some z → z.kind ≠ 3 := by
        rw [hm6]
        intro z hz
        rcases Pc.take_last (l.map (·.h)) 2 ((a.take x).drop i) with e | ⟨z', hz', e⟩
        · rw [e] at hz; rw [HL0.out z hz]; decide
        · rw [hz'] at hz; rw [← Option.some.inj hz, e]; decide
      have hlen1 : l1.length ≤ 3 * k + 1 := by
        have h1 := Pc.take_len (l.map (·.h)) 2 ((a.take x).drop i)
        rw [← hm6, List.length_map, List.length_map] at h1; omega
      have hLb : CellsAt w6 B (some ⟨gb, j, none⟩) (strs ((b.take y).drop j)) := by
        have h := (cells_drop (cells_take hB1 y) j).below hbw6 (Nat.le_refl _)
        rw [Nat.zero_add] at h; exact h
      have hc2 := col_any B bx B base l1 v1 3 (some ⟨gb, j, none⟩) (cb - j) ((b.take y).drop j) w6 hC6 hBw6 (fun _ => hLb) (by omega) (n_map (by omega) hn1) (fun _ => last_map hla1) (by omega)
      rw [hsegB] at hc2
      clear hbw hBw hnew hLb hC6 hb6 hk6
      go_wp2_with fail
      with_reducible refine hc2.mono ?_
      clear hc2 p1
      rintro e w7 ⟨rfl, l2, v2, hC7, hm7, hb7, hk7⟩
      have hnew7 := hk7 q _ _ _ hnew6 (by decide) (by decide)
      have p0 : w7.cell? ⟨q, 0, none⟩ = some (.int .i64 (x : Int)) := by rw [cell_of_row _ _ _ _ _ _ hnew7]; rfl
      have hbw7 := hbw6.trans hb7
      have hBw7 : B ≤ w7.heap.size := Nat.le_trans hBw6 hb7.size
      obtain ⟨g7, o7, e7, hg7, hax⟩ := hA2.below hbw7 (Nat.le_refl _) x (by rw [strs_len]; exact m3)
      injection e7 with e7
      injection e7 with e7 e7o _
      subst e7 e7o
      rw [strs_get a x m3, Nat.zero_add] at hax
      have hn2 : ∀ z ∈ l2.map (·.h), 0 ≤ z.n ∧ z.n ≤ 4096 * (k : Int) + 1024 + 1024 := by rw [hm7]; exact Pc.take_n _ _ _ _ (by omega) (by omega) hn1
      have hlen2 : l2.length ≤ 3 * k + 2 := by
        have h1 := Pc.take_len (l1.map (·.h)) 3 ((b.take y).drop j)
        rw [← hm7, List.length_map, List.length_map] at h1; omega
      have hC8 := hC7.next (w' := w7.alloc (.cells #[.string (str a[x])] 9)) ((Below.refl _ _).alloc (Nat.le_refl _) _)
      have hnew8 : (w7.alloc (.cells #[.string (str a[x])] 9)).heap[q]? = some (.cells #[.int .i64 (x : Int), .int .i64 (y : Int)] 69 (0, 0)) := by rw [blk_alloc_lt _ _ _ (blk_lt hnew7)]; exact hnew7
      have hbw8 : Below B w2 (w7.alloc (.cells #[.string (str a[x])] 9)) := hbw7.alloc hBw7 _
      have hc3 := col_any B bx B base l2 v2 1 (some ⟨w7.heap.size, 0, none⟩) 1 [a[x]] (w7.alloc (.cells #[.string (str a[x])] 9)) hC8 (by simp; omega) (fun h => absurd h (by decide)) (by simp) (n_map (by omega) hn2) (fun h => absurd h (by decide)) (by omega)
      simp only [List.length_singleton] at hc3
      have HSA := Lib.hid (Pc.seg_one a x m3)
      clear hbw6 hBw6 hnew6 hnew7 hC7 hb7 hk7 hbw7 hC8 hn1
      go_wp2_with fail
      with_reducible refine hc3.mono ?_
      clear hc3 hax p0
      rintro e w9 ⟨rfl, l3, v3, hC9, hm9, hb9, hk9⟩
      have hnew9 := hk9 q _ _ _ hnew8 (by decide) (by decide)
      have p0 : w9.cell? ⟨q, 0, none⟩ = some (.int .i64 (x : Int)) := by rw [cell_of_row _ _ _ _ _ _ hnew9]; rfl
      have p1 : w9.cell? ⟨q, 1, none⟩ = some (.int .i64 (y : Int)) := by rw [cell_of_row _ _ _ _ _ _ hnew9]; rfl
      have hn3 : ∀ z ∈ l3.map (·.h), 0 ≤ z.n ∧ z.n ≤ 4096 * (k : Int) + 1024 + 1024 + 1024 := by rw [hm9]; exact Pc.take_n _ _ _ _ (by omega) (by simp) hn2
      have hla3 : ∀ z, (l3.map (·.h)).getLast? = some z → z.kind = 1 := by
        rw [hm9]
        intro z hz
        rcases Pc.take_last (l2.map (·.h)) 1 [a[x]] with e | ⟨z', hz', e⟩
        · exfalso
          have h1 : (Pc.take (l2.map (·.h)) 1 [a[x]]) ≠ l2.map (·.h) := fun h => by
            have h2 := Pc.take_last' (l2.map (·.h)) 1 [a[x]] (by simp)
            exact h2 h
          exact h1 e
        · rw [hz'] at hz; rw [← Option.some.inj hz, e]
      have hlen3 : l3.length ≤ 3 * (k + 1) := by
        have h1 := Pc.take_len (l2.map (·.h)) 1 [a[x]]
        rw [← hm9, List.length_map, List.length_map] at h1; omega
      have HKN := Lib.hid (show KH = Pc.keepHs (l3.map (·.h)) a b (x + 1) (y + 1) (K.drop (k + 1)) by rw [hm9, hm7, hm6, ← HSA.out]; exact HST.out)
      have hbw9 := hbw8.trans hb9
      clear hnew8 hnew9 hbw8 hb9 hk9 hm9 hm7 hm6 hn2 HST HSA
      go_upto_region 12 with (fail)
      go_quiet (fail)
      have HI := Lib.hid (show Kin (w9.drewN nq) B bx B base l3 v3 (k + 1) from ⟨hC9.next (below_drewN (Below.refl _ _) nq), fun z hz => by have := hn3 z hz; omega, hla3, hlen3⟩)
      have HBF := Lib.hid (below_drewN hbw9 nq)
      clear hC9 hn3 hla3 hlen3 hbw9 p0 p1
      go_wp2_with fail
      go_roundw
      case rel => exact ⟨k + 1, x + 1, y + 1, l3, v3, by omega, by go_num, by go_num, by go_num, by omega, by omega, HI.out, HKN.out, HM6.out, HBF.out⟩
      case measure => first | (simp [intOf]; done) | (simp [intOf]; omega)
    · have bb1 : decide ((k : Int) < K.length) = false := by simp; omega
      have bb1n : decide (k < K.length) = false := by simp; omega
      have HK1 := Lib.hid (show KH = Pc.take (Pc.take (l.map (·.h)) 2 (a.drop i)) 3 (b.drop j) by rw [HKH.out, List.drop_of_length_le (by omega)]; exact keepHs_nil _ _ _ _ _)
      have hBw : B ≤ wr.heap.size := by have h := hb.size; have := HBQ.out; omega
      have HLEN := Lib.hid hI0.len
      have HLA := Lib.hid hI0.last
      have HNB := Lib.hid hI0.n
      have hC0 := hI0.cl
      clear HKH hm hI0
      go_upto_region 14 with (fail)
      go_cut [] (fun wx => ∃ l1 v1, Cl wx B bx B base l1 v1 ∧ l1.map (·.h) = Pc.take (l.map (·.h)) 2 (a.drop i) ∧ Below B w2 wx)
      case first =>
        by_cases hcap : ca = i
        · have hz : a.drop i = [] := List.drop_of_length_le (by omega)
          have hc1 := col_any B bx B base l v 2 (some ⟨ga, 0, none⟩) 0 [] wr hC0 hBw (fun h => absurd h (by decide)) (by simp) (n_map (M := 4096 * (k : Int)) (by omega) HNB.out) (fun h => absurd h (by decide)) (by have := HLEN.out; omega)
          simp only [List.length_nil] at hc1
          subst hcap
          have z1 : (ca : Int) ≤ (a.length : Int) := by omega
          have HZ := Lib.hid hz
          clear hz hC0
          go_wp2_with fail
          with_reducible refine hc1.mono ?_
          clear hc1
          rintro e w6 ⟨rfl, l1, v1, hC6, hm6, hb6, hk6⟩
          go_wp2_with fail
          go_meet
          exact ⟨l1, v1, hC6, by rw [hm6, HZ.out], hb.trans hb6⟩
        · have hseg : (a.drop i).length = a.length - i := List.length_drop
          have hc1 := col_any B bx B base l v 2 (some ⟨ga, i, none⟩) (ca - i) (a.drop i) wr hC0 hBw (fun h => absurd h (by decide)) (by omega) (n_map (M := 4096 * (k : Int)) (by omega) HNB.out) (fun h => absurd h (by decide)) (by have := HLEN.out; omega)
          rw [hseg] at hc1
          have z1 : (i : Int) ≤ (a.length : Int) := by omega
          clear hseg hC0
          go_wp2_with fail
          with_reducible refine hc1.mono ?_
          clear hc1
          rintro e w6 ⟨rfl, l1, v1, hC6, hm6, hb6, hk6⟩
          go_wp2_with fail
          go_meet
          exact ⟨l1, v1, hC6, hm6, hb.trans hb6⟩
      case rest =>
      obtain ⟨l1, v1, hC1, hm1, hb1x⟩ := hcut
      have hBw1 : B ≤ wc.heap.size := by have h := hb1x.size; have := HBQ.out; omega
      have hla1 : ∀ z, (l1.map (·.h)).getLast? = some z → z.kind ≠ 3 := by
        rw [hm1]
        intro z hz
        rcases Pc.take_last (l.map (·.h)) 2 (a.drop i) with e | ⟨z', hz', e⟩
        · rw [e] at hz; rw [HLA.out z hz]; decide
        · rw [hz'] at hz; rw [← Option.some.inj hz, e]; decide
      have hn1 : ∀ z ∈ l1.map (·.h), 0 ≤ z.n ∧ z.n ≤ 4096 * (k : Int) + 1024 := by rw [hm1]; exact Pc.take_n _ _ _ _ (by omega) (by rw [List.length_drop]; omega) HNB.out
      have hlen1 : l1.length ≤ 3 * k + 1 := by
        have h1 := Pc.take_len (l.map (·.h)) 2 (a.drop i)
        have := HLEN.out
        rw [← hm1, List.length_map, List.length_map] at h1; omega
      clear hC0 hb hBw HLEN HLA HNB
      go_upto_region 15 with (fail)
      go_cut [] (fun wx => ∃ l2 v2, Cl wx B bx B base l2 v2 ∧ l2.map (·.h) = KH ∧ l2.length ≤ 3 * k + 2 ∧ Below B w2 wx)
      case first =>
        have hlen2 : ∀ l2 : List Hc, l2.map (·.h) = Pc.take (l1.map (·.h)) 3 (b.drop j) → l2.length ≤ 3 * k + 2 := fun l2 e => by
          have h1 := Pc.take_len (l1.map (·.h)) 3 (b.drop j)
          rw [← e, List.length_map, List.length_map] at h1; omega
        by_cases hcap : cb = j
        · have hz : b.drop j = [] := List.drop_of_length_le (by omega)
          have hc2 := col_any B bx B base l1 v1 3 (some ⟨gb, 0, none⟩) 0 [] wc hC1 hBw1 (fun _ => fun i hi => by simp [strs] at hi) (by simp) (n_map (by omega) hn1) (fun _ => last_map hla1) (by omega)
          simp only [List.length_nil] at hc2
          subst hcap
          have z1 : (cb : Int) ≤ (b.length : Int) := by omega
          have HZ := Lib.hid hz
          clear hz hC1
          go_wp2_with fail
          with_reducible refine hc2.mono ?_
          clear hc2
          rintro e w6 ⟨rfl, l2, v2, hC6, hm6, hb6, hk6⟩
          rw [← HZ.out] at hm6
          go_wp2_with fail
          go_meet
          exact ⟨l2, v2, hC6, by rw [HK1.out, hm6, hm1], hlen2 l2 hm6, hb1x.trans hb6⟩
        · have hseg : (b.drop j).length = b.length - j := List.length_drop
          have hLb : CellsAt wc B (some ⟨gb, j, none⟩) (strs (b.drop j)) := by
            have h := (cells_drop hB1 j).below hb1x (Nat.le_refl _)
            rw [Nat.zero_add] at h; exact h
          have hc2 := col_any B bx B base l1 v1 3 (some ⟨gb, j, none⟩) (cb - j) (b.drop j) wc hC1 hBw1 (fun _ => hLb) (by omega) (n_map (by omega) hn1) (fun _ => last_map hla1) (by omega)
          rw [hseg] at hc2
          have z1 : (j : Int) ≤ (b.length : Int) := by omega
          clear hseg hC1 hLb
          go_wp2_with fail
          with_reducible refine hc2.mono ?_
          clear hc2
          rintro e w6 ⟨rfl, l2, v2, hC6, hm6, hb6, hk6⟩
          go_wp2_with fail
          go_meet
          exact ⟨l2, v2, hC6, by rw [HK1.out, hm6, hm1], hlen2 l2 hm6, hb1x.trans hb6⟩
      case rest =>
      obtain ⟨l2, v2, hC2, hm2, hlen2, hb2x⟩ := hcut
      clear hC1 hm1 hb1x hBw1 hla1 hn1 hlen1 HK1
      obtain ⟨A2, c2, rfl, hH2⟩ := HsAt_of hC2
      rw [hm2] at hH2
      have hkl : KH.length ≤ 5000 := by rw [← hm2, List.length_map]; omega
      have hIx := (hI2.below (w' := wc) (by rw [HBQ.out]; exact hb2x))
      have hv := isValid_any ⟨base, KH⟩ A2 c2 wc ⟨hH2, by show KH.length ≤ _; omega, hbl, HLS.out⟩ hIx.tabs
      rw [paV_def] at hv
      dsimp only at hv
      have hN := hC2.pat
      have k0 : wc.cell? ⟨B, 0, none⟩ = some (.string (str base)) := by rw [cell_of_row _ _ _ _ _ _ hN]; rfl
      have k1 : wc.cell? ⟨B, 1, none⟩ = some (.slice A2 KH.length c2) := by rw [cell_of_row _ _ _ _ _ _ hN, ← hm2]; rfl
      have hNk := (hb2x.block _ hrl2).trans hrk2
      have HCW := Lib.hid (fun w' (h : Below wc.heap.size wc w') => show Cl w' B bx B base l2 (.slice A2 (l2.map (·.h)).length c2) ∧ w'.heap[w.heap.size]? = some (.cells #[.string ⟨#[]⟩, .slice none 0 0] 24 (0, 0)) ∧ Below B w2 w' from ⟨hC2.next h, (h.block _ (blk_lt hNk)).trans hNk, hb2x.trans (h.mono (by have h := hb2x.size; have := HBQ.out; omega))⟩)
      have hblt := blk_lt hN
      clear hC2 hN hNk hH2 hb2x hlen2 HLS hIx hrk2
      cases hvv : Pc.valid ⟨base, KH⟩ with
      | true =>
        rw [hvv] at hv
        have HT := Lib.hid (HR.out.trans (if_pos hvv))
        clear HR hvv
        go_wp2_with fail
        with_reducible refine hv.mono ?_
        clear hv
        rintro e w9 ⟨rfl, hb9⟩
        obtain ⟨q1, q2, q3⟩ := HCW.out w9 hb9
        have d0 := (hb9.cell (p := ⟨B, 0, none⟩) hblt).trans k0
        have d1 := (hb9.cell (p := ⟨B, 1, none⟩) hblt).trans k1
        have r0 : w9.cell? ⟨w.heap.size, 0, none⟩ = some (.string ⟨#[]⟩) := by rw [cell_of_row _ _ _ _ _ _ q2]; rfl
        have r1 : w9.cell? ⟨w.heap.size, 1, none⟩ = some (.slice none 0 0) := by rw [cell_of_row _ _ _ _ _ _ q2]; rfl
        have f0 := frozen_of_row w9 w.heap.size 0 _ _ q2
        have f1 := frozen_of_row w9 w.heap.size 1 _ _ q2
        have s1 := q1.low (i := 0) (u := .string (str base)) q2 hrl2
        have s2 := s1.low (i := 1) (u := .slice A2 KH.length c2) (heap_setCell_same w9 w.heap.size 0 _ _ _ q2) hrl2
        obtain ⟨A3, c3, e3, hH3⟩ := HsT_of s2
        injection e3 with e3 _ e3c
        subst e3 e3c
        rw [hm2] at hH3
        have HH := Lib.hid hH3
        have HBF := Lib.hid (show Below w.heap.size w ((w9.setCell ⟨w.heap.size, 0, none⟩ (.string (str base))).setCell ⟨w.heap.size, 1, none⟩ (.slice A2 KH.length c2)) from ((hb02.trans (q3.mono (by have := hb02.size; have := HBQ.out; omega))).setCell (Nat.le_refl _) _).setCell (Nat.le_refl _) _)
        clear q1 q2 q3 s1 s2 hH3 hb9 k0 k1 hm2
        go_wp2_with fail
        exact bodyPost_ret (v := .tuple #[.agg #[.string (str base), .slice A2 KH.length c2], .int .i64 0]) (by simp [results, Tryz.results41, go_sem, r0, r1]) rfl ⟨A2, c2, by rw [HT.out]; rfl, by rw [HT.out]; exact HH.out, HBF.out⟩
      | false =>
        rw [hvv] at hv
        have HT := Lib.hid (HR.out.trans (if_neg (by rw [hvv]; simp)))
        clear HR hvv
        go_wp2_with fail
        with_reducible refine hv.mono ?_
        clear hv
        rintro e w9 ⟨rfl, hb9⟩
        obtain ⟨q1, q2, q3⟩ := HCW.out w9 hb9
        have r0 : w9.cell? ⟨w.heap.size, 0, none⟩ = some (.string ⟨#[]⟩) := by rw [cell_of_row _ _ _ _ _ _ q2]; rfl
        have r1 : w9.cell? ⟨w.heap.size, 1, none⟩ = some (.slice none 0 0) := by rw [cell_of_row _ _ _ _ _ _ q2]; rfl
        have f0 := frozen_of_row w9 w.heap.size 0 _ _ q2
        have f1 := frozen_of_row w9 w.heap.size 1 _ _ q2
        have HBF := Lib.hid (show Below w.heap.size w ((w9.setCell ⟨w.heap.size, 0, none⟩ (.string ⟨#[]⟩)).setCell ⟨w.heap.size, 1, none⟩ (.slice none 0 0)) from ((hb02.trans (q3.mono (by have := hb02.size; have := HBQ.out; omega))).setCell (Nat.le_refl _) _).setCell (Nat.le_refl _) _)
        clear q1 q2 q3 hb9 k0 k1 hm2
        go_wp2_with fail
        exact bodyPost_ret (v := .tuple #[.agg #[.string ⟨#[]⟩, .slice none 0 0], .int .i64 10]) (by simp [results, Tryz.results41, go_sem, r0, r1]) rfl ⟨none, 0, by rw [HT.out]; rfl, by rw [HT.out]; exact fun k hk => by simp at hk, HBF.out⟩
end Go.Proofs.YtmmdldicafbjdaaGreatDoor
