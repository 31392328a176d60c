/- How many operands an operation takes, looked up in a table; copies of rows of words; equal rows of operations. No condition but the lengths. -/
import Derived.Test.YtkkkiacbikbalaaDoorMep
import Derived.Test.YtkkkiacbikbalaaDoorFws
import Derived.Maps.OwnOps
import Derived.Deep.Upon
namespace Go.Proofs.YtkkkiacbikbalaaDoor
open Go.RowKit Go.Deep Go.Maps

/-- An entry of a literal of a map is laid as a store is. -/
theorem wpList_insert_own {H : Type} {P : Program} (w : World) {ops : Array Oper} {rest : List Oper} {o : Oper} {a : Act} {Q : Exit → Act → World → Prop}
    (hg : o.guard = none) (m x v : Operand) (t : TypeId) (hop : o.op = Op.insert t m x v)
    (k e : TypeId) (K : Keyed P k) (ht : P.underlying t = some (.map k e)) (R : Value → Option (DataW H × List MemPlace)) (b n : Nat) (D : DataW H)
    (hm : a.eval m = .map (some b)) (hown : w.ownsMap P k R b n D) (hn : n < maxLen) (key val : Value) (kl : Lit) (hx : a.eval x = key) (hv : a.eval v = val) (hkey : keyOf P k key = some kl)
    (d : DataW H) (ps : List MemPlace) (hval : R val = some (d, ps))
    (hK : ∀ w', w'.ownsMap P k R b (n + 1) (D.put kl d) → w.grownBy w' (some b) → wpList P ops Q rest (a.put o.dst undef) w') :
    wpList P ops Q (o :: rest) a w := by
  refine wpList_plain hg fun K' hK' => ?_
  obtain ⟨w', hrun, r1, r2⟩ := hown.update K ht hn hkey hval
  unfold Oper.wp
  simp [execOp, hop, hm, hx, hv, hrun, Result.andThen]
  exact hK' _ _ (hK w' r1 r2)
theorem kInt : Keyed Tryd.prog 3 := int_keyed Tryd.underlying3
theorem zInt (w : World) : (zeroValue 3).run Tryd.prog w = .ok (.int .i64 0) w := by kernel_rfl
def tabC (N : Int) : DataW Unit := ((((DataW.map []).put (.int .i64 3) (.lit (.int .i64 N))).put (.int .i64 4) (.lit (.int .i64 1))).put (.int .i64 6) (.lit (.int .i64 1))).put (.int .i64 7) (.lit (.int .i64 2))
theorem tab_1 (N c : Int) (h : (tabC N).atKey (.int .i64 1) (.lit (.int .i64 0)) = .lit (.int .i64 c)) : c = 0 := by
  have h2 : (DataW.lit (.int .i64 0) : DataW Unit) = .lit (.int .i64 c) := h
  injection h2 with h3; injection h3 with _ h4; exact h4.symm
theorem tab_2 (N c : Int) (h : (tabC N).atKey (.int .i64 2) (.lit (.int .i64 0)) = .lit (.int .i64 c)) : c = 0 := by
  have h2 : (DataW.lit (.int .i64 0) : DataW Unit) = .lit (.int .i64 c) := h
  injection h2 with h3; injection h3 with _ h4; exact h4.symm
theorem tab_3 (N c : Int) (h : (tabC N).atKey (.int .i64 3) (.lit (.int .i64 0)) = .lit (.int .i64 c)) : c = N := by
  have h2 : (DataW.lit (.int .i64 N) : DataW Unit) = .lit (.int .i64 c) := h
  injection h2 with h3; injection h3 with _ h4; exact h4.symm
theorem tab_4 (N c : Int) (h : (tabC N).atKey (.int .i64 4) (.lit (.int .i64 0)) = .lit (.int .i64 c)) : c = 1 := by
  have h2 : (DataW.lit (.int .i64 1) : DataW Unit) = .lit (.int .i64 c) := h
  injection h2 with h3; injection h3 with _ h4; exact h4.symm
theorem tab_5 (N c : Int) (h : (tabC N).atKey (.int .i64 5) (.lit (.int .i64 0)) = .lit (.int .i64 c)) : c = 0 := by
  have h2 : (DataW.lit (.int .i64 0) : DataW Unit) = .lit (.int .i64 c) := h
  injection h2 with h3; injection h3 with _ h4; exact h4.symm
theorem tab_6 (N c : Int) (h : (tabC N).atKey (.int .i64 6) (.lit (.int .i64 0)) = .lit (.int .i64 c)) : c = 1 := by
  have h2 : (DataW.lit (.int .i64 1) : DataW Unit) = .lit (.int .i64 c) := h
  injection h2 with h3; injection h3 with _ h4; exact h4.symm
theorem tab_7 (N c : Int) (h : (tabC N).atKey (.int .i64 7) (.lit (.int .i64 0)) = .lit (.int .i64 c)) : c = 2 := by
  have h2 : (DataW.lit (.int .i64 2) : DataW Unit) = .lit (.int .i64 c) := h
  injection h2 with h3; injection h3 with _ h4; exact h4.symm
/-- A row of words as cells. -/
def wordsOf (l : List Int) : List Value := l.map fun x => .int .u32 x
theorem wordsOf_len (l : List Int) : (wordsOf l).length = l.length := by simp [wordsOf]
theorem wordsOf_app (a b : List Int) : wordsOf (a ++ b) = wordsOf a ++ wordsOf b := by simp [wordsOf]
theorem wordsOf_one (l : List Int) : ∀ u ∈ wordsOf l, u.oneCell' = true := fun u hu => by
  simp only [wordsOf, List.mem_map] at hu
  obtain ⟨x, _, rfl⟩ := hu; rfl
theorem infoU : (Tryd.prog.info? 22).map (fun i => (i.zero, i.size, i.bytes)) = some (some (.int .u32 0), 1, 4) := by kernel_rfl
theorem own_empty (w : World) (B : Nat) (hB : B ≤ w.heap.size) (T : TypeId) (size : Nat) : (w.alloc (.cells #[] T)).ownsRow B T size (.slice (some ⟨w.heap.size, 0, none⟩) 0 0) 0 [] :=
  ⟨by simp, .inr ⟨w.heap.size, 0, #[], rfl, hB, heap_alloc_new w _, Nat.le_refl _, by unfold maxLen; omega, by simp, by simp⟩⟩
set_option maxRecDepth 100000 in
theorem nil_none (W : World) : (binOp BinOp.eql 72 (.slice none 0 0) (.slice none 0 0)).run Tryd.prog W = .ok (.bool true) W := by kernel_rfl
set_option maxRecDepth 100000 in
theorem nil_some (a : Addr) (n c : Nat) (W : World) : (binOp BinOp.eql 72 (.slice (some a) n c) (.slice none 0 0)).run Tryd.prog W = .ok (.bool false) W := by kernel_rfl
set_option maxHeartbeats 2000000 in
set_option maxRecDepth 100000 in
/-- slices.Clone of some words. -/
theorem clone_some (g o c : Nat) (l : List Int) (w : World) (hg : g < w.heap.size) (hl : 0 < l.length) (hl2 : l.length ≤ 1000) (hc : ∀ j u, (wordsOf l)[j]? = some u → w.cell? ⟨g, o + j, none⟩ = some u) :
    Calls Tryd.prog 37 #[.slice (some ⟨g, o, none⟩) l.length c] w fun e w' => ∃ v, e = .returned v ∧ w'.ownsRow w.heap.size 22 1 v l.length (wordsOf l) ∧ Below w.heap.size w w' := by
  obtain ⟨i0, hi0, hz0, hz1, hz2⟩ := info_parts infoU
  have hcmp := nil_some ⟨g, o, none⟩ l.length c
  go_enter Tryd.func37, Tryd.ntmps37
  go_upto_region 3 with fail
  have hpl : 0 < l.length := hl
  go_wp2_with (at_builtin; refine wpList_append_lies _ (by rfl) _ _ 72 (by rfl) w.heap.size 22 i0 _ 1 4 Tryd.underlying72 hi0 hz0 hz1 hz2 rfl (by omega) _ 0 _ (by rfl) (own_empty w w.heap.size (Nat.le_refl _) 22 1) ⟨g, o, none⟩ l.length c (wordsOf l) (by rfl) (by rw [wordsOf_len, Nat.mul_one]) (fun j u hj => by rw [addr_add]; exact cell_alloc _ hg (hc j u hj)) (wordsOf_one _) hpl (by unfold maxLen; omega) (by omega) (by simp) _ rfl ?_; intro gg cap3 w6 hown6 hgrow hat hlt6)
  rw [Nat.zero_add, List.nil_append] at hown6
  go_ret
  exact ⟨_, rfl, hown6, grown_own ((Below.refl _ _).alloc (Nat.le_refl _) _) hgrow (fun j hj => ((own_empty w w.heap.size (Nat.le_refl _) 22 1).lt j hj).1)⟩
set_option maxRecDepth 100000 in
theorem clone_nil (w : World) : Calls Tryd.prog 37 #[.slice none 0 0] w fun e w' => ∃ v, e = .returned v ∧ w'.ownsRow w.heap.size 22 1 v 0 (wordsOf []) ∧ Below w.heap.size w w' := by
  have hcmp := nil_none
  go_enter Tryd.func37, Tryd.ntmps37
  go_wp2_with fail
  go_ret
  exact ⟨_, rfl, World.ownsRow_nil _ _ _ _, Below.refl _ _⟩
set_option maxRecDepth 100000 in
theorem clone_zero (a : Addr) (c : Nat) (w : World) : Calls Tryd.prog 37 #[.slice (some a) 0 c] w fun e w' => ∃ v, e = .returned v ∧ w'.ownsRow w.heap.size 22 1 v 0 (wordsOf []) ∧ Below w.heap.size w w' := by
  have hcmp := nil_some a 0 c
  go_enter Tryd.func37, Tryd.ntmps37
  go_wp2_with fail
  go_ret
  exact ⟨_, rfl, own_empty w w.heap.size (Nat.le_refl _) 22 1, (Below.refl _ _).alloc (Nat.le_refl _) _⟩
set_option maxHeartbeats 2000000 in
set_option maxRecDepth 100000 in
theorem equal_true (A A' : Option Addr) (c c' : Nat) (ts : List Ex.Op) (w : World) (hA : OpsAt w w.heap.size A ts) (hA' : OpsAt w w.heap.size A' ts) (hl : ts.length ≤ 1000000000) :
    Calls Tryd.prog 19 #[.slice A ts.length c, .slice A' ts.length c'] w fun x w' => x = .returned (.bool true) ∧ Below w.heap.size w w' := by
  go_enter Tryd.func19, Tryd.ntmps19
  go_wp2_with fail
  go_loopw [13] (fun v wr => ∃ k : Nat, k ≤ ts.length ∧ v = .int .i64 k ∧ Below w.heap.size w wr) (fun v _ => ts.length - (intOf v).toNat)
  case atStart => exact ⟨0, by omega, rfl, Below.refl _ _⟩
  case round =>
    obtain ⟨k, hk, rfl, hb⟩ := hrel
    by_cases hlt : k < ts.length
    · obtain ⟨g, o, rfl, hg, hc0, hc1, hc2⟩ := hA k hlt
      obtain ⟨g', o', rfl, hg', hc0', hc1', hc2'⟩ := hA' k hlt
      have hd0 := (hb.cell (p := ⟨g, o + k * 3, none⟩) hg).trans hc0
      have hd1 := (hb.cell (p := ⟨g, o + k * 3 + 1, none⟩) hg).trans hc1
      have hd2 := (hb.cell (p := ⟨g, o + k * 3 + 2, none⟩) hg).trans hc2
      have hd0' := (hb.cell (p := ⟨g', o' + k * 3, none⟩) hg').trans hc0'
      have hd1' := (hb.cell (p := ⟨g', o' + k * 3 + 1, none⟩) hg').trans hc1'
      have hd2' := (hb.cell (p := ⟨g', o' + k * 3 + 2, none⟩) hg').trans hc2'
      clear hc0 hc1 hc2 hc0' hc1' hc2' hA hA'
      have hki : (k : Int) < (ts.length : Int) := by omega
      go_upto_region 6 with (fail)
      generalize ts[k] = t at *
      go_quiet (fail)
      have hb2 := below_drewN hb nq
      generalize wr.drewN nq = w2 at *
      clear hd0 hd1 hd2 hd0' hd1' hd2' hb
      go_wp2_with fail
      go_roundw
      case rel => exact ⟨k + 1, by omega, by go_num, hb2⟩
      case measure => simp [intOf]; omega
    · have hki : decide ((k : Int) < (ts.length : Int)) = false := by simp; omega
      go_wp2_with fail
      go_ret
      exact ⟨rfl, hb⟩
theorem own_ne2 {w : World} {B B' : Nat} {T U : TypeId} {n m s s' : Nat} {v u : Value} {xs ys : List Value} (h : w.ownsRow B T s v n xs) (h2 : w.ownsRow B' U s' u m ys) (hne : T ≠ U) : u.ownBlock = none ∨ u.ownBlock ≠ v.ownBlock := by
  rcases h2.2 with ⟨rfl, _⟩ | ⟨g2, c2, cur2, rfl, _, hh2, _⟩
  · exact .inl rfl
  · right
    intro e
    rcases h.2 with ⟨rfl, _⟩ | ⟨g1, c1, cur1, rfl, _, hh1, _⟩
    · cases e
    · have : g2 = g1 := by simpa [Value.ownBlock] using e
      subst this
      rw [hh1] at hh2
      simp only [Option.some.injEq, Obj.cells.injEq] at hh2
      exact hne hh2.2.1
end Go.Proofs.YtkkkiacbikbalaaDoor
