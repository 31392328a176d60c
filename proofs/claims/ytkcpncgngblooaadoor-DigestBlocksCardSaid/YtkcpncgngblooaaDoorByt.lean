/- A row of bytes that the call has made from a string: the run-time's mark lies behind its last cell. No condition. -/
import Derived.Test.YtkcpncgngblooaaDoorU
import Derived.Deep.OwnRows
import Derived.Deep.AppendLies
import Derived.Laws.IdiomStrings
namespace Go.Proofs.YtkcpncgngblooaaDoor
open Go.RowKit

def byteCells (l : List UInt8) : List Value := l.map fun c => Value.int .u8 (c.toNat : Int)
theorem byteCells_len (l : List UInt8) : (byteCells l).length = l.length := by unfold byteCells; simp
theorem byteCells_one (l : List UInt8) : ∀ u ∈ byteCells l, u.oneCell' = true := by
  intro u hu
  unfold byteCells at hu
  obtain ⟨c, _, rfl⟩ := List.mem_map.1 hu
  rfl
/-- The slice value v owns these bytes: its row begins in a block from base on; nothing of the row is frozen. -/
def Byt (w : World) (base : Nat) (v : Value) (l : List UInt8) : Prop :=
  ∃ g cap cur fz, v = .slice (some ⟨g, 0, none⟩) l.length cap ∧ base ≤ g ∧ w.heap[g]? = some (.cells cur 5 fz) ∧ (∀ j, j < cur.size → ¬ (fz.1 ≤ j ∧ j < fz.2)) ∧ l.length ≤ cap ∧ cap ≤ maxLen ∧ cur.size = cap ∧ cur.toList.take l.length = byteCells l

/-- Block g is a row of cap cells of bytes, the first of which are these. -/
structure BytAt (w : World) (g cap : Nat) (l : List UInt8) : Prop where
  n : l.length ≤ cap
  m : cap ≤ maxLen
  h : ∃ cur fz, w.heap[g]? = some (.cells cur 5 fz) ∧ (∀ j, j < cur.size → ¬ (fz.1 ≤ j ∧ j < fz.2)) ∧ cur.size = cap ∧ cur.toList.take l.length = byteCells l
theorem BytAt.lt {w : World} {g cap : Nat} {l : List UInt8} (h : BytAt w g cap l) : g < w.heap.size := by
  obtain ⟨cur, fz, hg, _⟩ := h.h
  exact (Array.getElem?_eq_some_iff.1 hg).1
theorem BytAt.of_block {w w' : World} {g cap : Nat} {l : List UInt8} (h : BytAt w g cap l) (e : w'.heap[g]? = w.heap[g]?) : BytAt w' g cap l := by
  obtain ⟨cur, fz, hg, r⟩ := h.h
  exact ⟨h.n, h.m, cur, fz, e.trans hg, r⟩
theorem BytAt.cell {w : World} {g cap : Nat} {l : List UInt8} (h : BytAt w g cap l) (i : Nat) (hi : i < l.length) : w.cell? ⟨g, i, none⟩ = some (.int .u8 ((l.getD i 0).toNat : Int)) := by
  obtain ⟨cur, fz, hg, _, hs, ht⟩ := h.h
  rw [cell_of_row w g i cur _ fz hg]
  have h1 := congrArg (fun x => x[i]?) ht
  simp only [List.getElem?_take, if_pos hi] at h1
  rw [← Array.getElem?_toList, h1]
  unfold byteCells
  rw [List.getElem?_map, List.getElem?_eq_getElem hi, List.getD_eq_getElem?_getD, List.getElem?_eq_getElem hi]
  rfl
theorem BytAt.frozen {w : World} {g cap : Nat} {l : List UInt8} (h : BytAt w g cap l) (i : Nat) (hi : i < l.length) : w.frozen? ⟨g, i, none⟩ = false := by
  obtain ⟨cur, fz, hg, hf, hs, ht⟩ := h.h
  have := hf i (by have := h.n; omega)
  simp only [World.frozen?, hg]
  obtain ⟨lo, hi'⟩ := fz
  simp only at this ⊢
  simp only [Bool.and_eq_false_iff, decide_eq_false_iff_not]
  omega
theorem BytAt.set {w : World} {g cap : Nat} {l : List UInt8} (h : BytAt w g cap l) (i : Nat) (c : UInt8) : BytAt (w.setCell ⟨g, i, none⟩ (.int .u8 (c.toNat : Int))) g cap (l.set i c) := by
  obtain ⟨cur, fz, hg, hf, hs, ht⟩ := h.h
  refine ⟨by rw [List.length_set]; exact h.n, h.m, cur.setIfInBounds i (.int .u8 (c.toNat : Int)), fz, ?_, ?_, ?_, ?_⟩
  · simp [World.setCell, Array.getElem?_modify, hg]
  · intro j hj; exact hf j (by simpa using hj)
  · simpa using hs
  · rw [List.length_set, Array.toList_setIfInBounds, List.take_set, ht]
    unfold byteCells
    rw [List.map_set]
theorem BytAt.setOther {w : World} {g cap : Nat} {l : List UInt8} (h : BytAt w g cap l) (p : Addr) (hp : g ≠ p.block) (v : Value) : BytAt (w.setCell p v) g cap l := h.of_block (Go.Deep.blk_setCell_other _ _ _ _ hp)
theorem BytAt.alloc {w : World} {g cap : Nat} {l : List UInt8} (h : BytAt w g cap l) (o : Obj) : BytAt (w.alloc o) g cap l := h.of_block (heap_alloc_old w o h.lt)
theorem BytAt.drew {w : World} {g cap : Nat} {l : List UInt8} (h : BytAt w g cap l) : BytAt w.drew g cap l := h.of_block rfl
theorem BytAt.below {w w' : World} {g cap : Nat} {l : List UInt8} (h : BytAt w g cap l) (hb : Below w.heap.size w w') : BytAt w' g cap l := h.of_block (hb.block _ h.lt)
theorem BytAt.str {w : World} {g cap : Nat} {l : List UInt8} (h : BytAt w g cap l) (src e dst : TypeId) (hs : Tryd.prog.underlying src = some (.slice e)) (he : Tryd.prog.underlying e = some (.int .u8)) (hd : Tryd.prog.underlying dst = some .string) :
    (convert src dst (Value.slice (some ⟨g, 0, none⟩) l.length cap)).run Tryd.prog w = .ok (.string ⟨l.toArray⟩) w :=
  run_convert_bytes_back w src dst e ⟨g, 0, none⟩ cap l hs he hd (fun j hj => by
    have hadd : (⟨g, 0, none⟩ : Addr).add j = ⟨g, j, none⟩ := by unfold Addr.add; split <;> simp_all
    rw [hadd, h.cell j hj, List.getD_eq_getElem?_getD, List.getElem?_eq_getElem hj]
    rfl)
/-- What the conversion of a string lays. -/
theorem BytAt.new (w : World) (s : ByteArray) (hs : s.size ≤ maxLen) :
    BytAt (w.drew.alloc (.cells (bytesRow s (grownCap w s.size 0 5)) 5 ((bytesRow s (grownCap w s.size 0 5)).size, (bytesRow s (grownCap w s.size 0 5)).size + 1))) w.heap.size (grownCap w s.size 0 5) s.data.toList := by
  have hge := grownCap_ge w s.size 0 5
  refine ⟨hge, grownCap_le_maxLen w _ _ _ hs, _, _, heap_alloc_new w.drew _, ?_, ?_, ?_⟩
  · intro j hj; simp only; omega
  · have : s.data.size = s.size := rfl
    unfold bytesRow; simp; omega
  · unfold bytesRow byteCells
    have hl : s.data.toList.length = (s.data.toList.map fun b => Value.int .u8 (b.toNat : Int)).length := by simp
    rw [Array.toList_append, Array.toList_map, hl]
    exact List.take_left
/-- A byte behind the row. -/
theorem run_append_byt (w : World) (t ty : TypeId) (ht : Tryd.prog.underlying t = some (.slice 5)) (i : TypeInfo) (hi : Tryd.prog.info? 5 = some i) (hz : i.zero = some (.int .u8 0)) (hsize : i.size = 1) (hby : i.bytes = 1)
    (g cap : Nat) (l : List UInt8) (h : BytAt w g cap l) (b c : Nat) (x : UInt8) (hx : w.cell? ⟨b, 0, none⟩ = some (.int .u8 (x.toNat : Int))) (h63 : l.length + 1 ≤ 140737488355328) :
    ∃ g' cap' w', (Builtin.append_ #[t, t] ty #[.slice (some ⟨g, 0, none⟩) l.length cap, .slice (some ⟨b, 0, none⟩) 1 c]).run Tryd.prog w = .ok (.slice (some ⟨g', 0, none⟩) (l.length + 1) cap') w' ∧
      BytAt w' g' cap' (l ++ [x]) ∧ w.grownBy w' (some g) ∧ (g' = g ∨ g' = w.heap.size) := by
  obtain ⟨cur, fz, hg, hf, hs, htake⟩ := h.h
  have hl1 : (byteCells l).length = l.length * i.size := by rw [byteCells_len, hsize, Nat.mul_one]
  have hnews : ∀ j u, ([Value.int .u8 (x.toNat : Int)] : List Value)[j]? = some u → w.cell? ((⟨b, 0, none⟩ : Addr).add j) = some u := by
    intro j u hu
    have hadd : (⟨b, 0, none⟩ : Addr).add j = ⟨b, j, none⟩ := by unfold Addr.add; split <;> simp_all
    match j, hu with
    | 0, hu => rw [hadd, hx]; simpa using hu
    | j + 1, hu => simp at hu
  have holds : ∀ j u, (byteCells l)[j]? = some u → w.cell? ((⟨g, 0, none⟩ : Addr).add j) = some u := by
    intro j u hu
    have hadd : (⟨g, 0, none⟩ : Addr).add j = ⟨g, j, none⟩ := by unfold Addr.add; split <;> simp_all
    have hj : j < l.length := by
      have := (List.getElem?_eq_some_iff.1 hu).1
      rwa [byteCells_len] at this
    rw [hadd, cell_of_row w g j cur _ fz hg, ← Array.getElem?_toList]
    rw [← htake, List.getElem?_take, if_pos hj] at hu
    exact hu
  have hgr : ∀ o, w.grownBy (w.drew.alloc o) (some g) := fun o => ⟨rfl, rfl, rfl, by simp, fun k hk _ => heap_alloc_old w.drew _ hk⟩
  by_cases hroom : l.length + 1 ≤ cap
  · have hfr : w.frozen? ⟨g, l.length, none⟩ = false := by
      have := hf l.length (by omega)
      simp only [World.frozen?, hg]
      obtain ⟨lo, hi'⟩ := fz
      simp only at this ⊢
      simp only [Bool.and_eq_false_iff, decide_eq_false_iff_not]
      omega
    have hci : l.length < cur.size := by omega
    have hcell : w.cell? ⟨g, l.length, none⟩ = some cur[l.length] := by simp [World.cell?, hg, hci]
    have hst : (store ⟨g, l.length, none⟩ (.int .u8 (x.toNat : Int))).run Tryd.prog w = .ok () (w.setRow g (cur.setIfInBounds l.length (.int .u8 (x.toNat : Int)))) := by
      rw [run_store Tryd.prog w _ _ _ rfl, hcell]
      simp [hfr, setCell_eq_setRow w g l.length cur 5 fz _ hg]
    have hf1 := run_firstCells_some (P := Tryd.prog) w i.size 1 ⟨b, 0, none⟩ 1 c [Value.int .u8 (x.toNat : Int)] (by rw [hsize]; rfl) hnews
    refine ⟨g, cap, w.setRow g (cur.setIfInBounds l.length (.int .u8 (x.toNat : Int))), ?_, ?_, ⟨rfl, rfl, rfl, by simp, fun k _ hk => setRow_other w g k _ (fun e => hk (by rw [e]))⟩, .inl rfl⟩
    · rw [hsize] at hf1
      simp [Builtin.append_, run_underlying ht, sizeOf, typeInfo, hi, hsize, Builtin.lenOf, hroom, hf1, Addr.add_lit, storeCells, hst]
    · refine ⟨by simp; omega, h.m, _, fz, setRow_heap w g cur _ _ _ hg, ?_, by simpa using hs, ?_⟩
      · intro j hj; exact hf j (by simpa using hj)
      · rw [List.length_append, List.length_singleton, Array.toList_setIfInBounds, List.take_set, List.take_succ_eq_append_getElem (by simpa using hci), htake]
        unfold byteCells
        rw [List.map_append, List.set_append_right _ _ (by simp)]
        simp
  · have hcap : cap = l.length := by have := h.n; omega
    have hr := run_append_grow (P := Tryd.prog) w t ty 5 i (.int .u8 0) ht hi hz ⟨g, 0, none⟩ l.length cap (byteCells l) hl1 holds ⟨b, 0, none⟩ 1 c [Value.int .u8 (x.toNat : Int)] (by rw [hsize]; rfl) hnews (by omega) (by omega) (growslice_fits (by omega) (by rw [hby]; omega))
    have hge := grownCap_ge w (l.length + 1) cap 5
    have hcm2 : grownCap w (l.length + 1) cap 5 ≤ maxLen := grownCap_le_maxLen w _ cap _ (by unfold maxLen; omega)
    refine ⟨_, _, _, hr, ?_, hgr _, .inr rfl⟩
    refine ⟨by simpa using hge, hcm2, _, _, heap_alloc_new w.drew _, fun j hj => by simp, ?_, ?_⟩
    · have hz1 : (Value.int IntKind.u8 0).cells.size = 1 := rfl
      simp only [Array.size_append, List.size_toArray, size_zeroCells, hz1, byteCells_len, List.length_singleton]
      omega
    · have hlen : (byteCells l ++ [Value.int .u8 (x.toNat : Int)]).length = (l ++ [x]).length := by simp [byteCells_len]
      simp only [Array.toList_append]
      rw [← hlen, List.take_left]
      unfold byteCells
      simp

/-- At the list of a plain region's operations. -/
theorem wpList_append_byt {w : World} {ops : Array Oper} {rest : List Oper} {o : Oper} {a : Act} {Q : Exit → Act → World → Prop} (hgd : o.guard = none) (s y : Operand) (t : TypeId)
    (ho : o.op = .call { callee := .builtin .append, args := #[s, y], argTypes := #[t, t] }) (ht : Tryd.prog.underlying t = some (.slice 5)) (i : TypeInfo) (hi : Tryd.prog.info? 5 = some i) (hz : i.zero = some (.int .u8 0)) (hsize : i.size = 1) (hby : i.bytes = 1)
    (g cap n : Nat) (l : List UInt8) (hs : a.eval s = .slice (some ⟨g, 0, none⟩) n cap) (h : BytAt w g cap l) (hn : l.length = n) (b c : Nat) (hy : a.eval y = .slice (some ⟨b, 0, none⟩) 1 c) (x : UInt8) (hx : w.cell? ⟨b, 0, none⟩ = some (.int .u8 (x.toNat : Int))) (h63 : n + 1 ≤ 140737488355328)
    (hk : ∀ g' cap' w', BytAt w' g' cap' (l ++ [x]) → w.grownBy w' (some g) → (g' = g ∨ g' = w.heap.size) → wpList Tryd.prog ops Q rest (a.put o.dst (.slice (some ⟨g', 0, none⟩) (n + 1) cap')) w') : wpList Tryd.prog ops Q (o :: rest) a w := by
  subst hn
  refine wpList_plain hgd fun K hK => ?_
  obtain ⟨g', cap', w', hr, h2, h3, h4⟩ := run_append_byt w t o.type ht i hi hz hsize hby g cap l h b c x hx h63
  unfold Oper.wp execOp
  simp only [ho, resolve, invoke, builtin, Sem.run_bind, Sem.run_pure, Result.andThen_ok, List.map_toArray, List.map_cons, List.map_nil, hs, hy, hr]
  exact hK _ _ (hk g' cap' w' h2 h3 h4)
/-- A one-cell block that was made just now. -/
theorem cell_new (w : World) (v : Value) (t : TypeId) : (w.alloc (.cells #[v] t)).cell? ⟨w.heap.size, 0, none⟩ = some v := by
  rw [cell_of_row _ _ _ _ _ _ (heap_alloc_new w _)]; rfl
def lenV : Value → Nat
  | .slice _ n _ => n
  | _ => 0
theorem or_top : ∀ n : Nat, n < 256 → bits .or .u8 (n : Int) 128 = ((UInt8.ofNat n ||| 128).toNat : Int) := by decide +kernel
theorem or_top' (c : UInt8) : bits .or .u8 (c.toNat : Int) 128 = ((c ||| 128).toNat : Int) := by
  have := or_top c.toNat c.toNat_lt
  rwa [UInt8.ofNat_toNat] at this
end Go.Proofs.YtkcpncgngblooaaDoor
