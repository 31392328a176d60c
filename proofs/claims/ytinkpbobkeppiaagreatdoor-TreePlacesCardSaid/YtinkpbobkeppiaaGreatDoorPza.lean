/- slices.Insert at files: a file is put into a row of the call's own. No condition but the lengths.
The search for a file's place. No condition but the lengths.
Put on the program's side. Condition: bytealg's MaxLen lies in its variable. -/
import Derived.Test.YtinkpbobkeppiaaGreatDoorWlk
import Derived.Test.YtinkpbobkeppiaaGreatDoorCat
import Derived.Laws.CopyRow
import Derived.Lib.Overlaps
import Derived.Lib.AppendZeros
import Derived.Lib.AppendZerosOnto
import Derived.Test.YtinkpbobkeppiaaGreatDoorPz5
import Derived.Test.YtinkpbobkeppiaaGreatDoorShelf
import Derived.Test.YtinkpbobkeppiaaGreatDoorDrp
section
namespace Go.Proofs.YtinkpbobkeppiaaGreatDoor
open Go.RowKit Go.Deep

/-- A copy whose run is known as an equation. -/
theorem wpList_copies {P : Program} (w : World) {ops : Array Oper} {rest : List Oper} {o : Oper} {a : Act} {Q : Exit → Act → World → Prop} (hgd : o.guard = none) (d s : Operand) (t t' : TypeId)
    (ho : o.op = .call { callee := .builtin .copy, args := #[d, s], argTypes := #[t, t'] }) (v u : Value) (hd : a.eval d = v) (hs : a.eval s = u) {v' : Value} {w' : World}
    (hr : (Builtin.copy_ #[t, t'] o.type #[v, u]).run P w = .ok v' w') (h : wpList P ops Q rest (a.put o.dst v') w') : wpList P ops Q (o :: rest) a w := by
  refine wpList_plain hgd fun _ hK => ?_
  have := hK _ _ h
  unfold Oper.wp execOp
  simp only [ho, resolve, invoke, builtin, Sem.run_bind, Sem.run_pure, Result.andThen_ok, List.map_toArray, List.map_cons, List.map_nil, hd, hs, hr]
  exact this
/-- Copying elements of more cells than one. -/
theorem copy_rowK {P : Program} (K : Nat) (w : World) (dT sT ty elem : TypeId) (g o dLen dCap : Nat) (a : Addr) (sLen sCap : Nat) (cur : Array Value) (t : TypeId) (cs : List Value)
    (hu : P.underlying dT = some (.slice elem)) (hs : (P.info? elem).map (·.size) = some K)
    (hg : w.heap[g]? = some (.cells cur t (0, 0))) (m : Nat) (hm : Nat.min sLen dLen = m) (hn : cs.length = m * K)
    (hsrc : ∀ j v, cs[j]? = some v → w.cell? (a.add j) = some v) (hfit : o + cs.length ≤ cur.size) (h1 : ∀ v ∈ cs, v.oneCell' = true) :
    (Builtin.copy_ #[dT, sT] ty #[.slice (some ⟨g, o, none⟩) dLen dCap, .slice (some a) sLen sCap]).run P w =
      .ok (goInt m) (w.setRow g (cur.toList.take o ++ cs ++ cur.toList.drop (o + cs.length)).toArray) := by
  have hl := run_loadCells_list (P := P) w a cs hsrc
  have hst := run_storeCells_at P g o t cs 0 cur w hg (by simpa using hfit) h1
  cases hq : P.info? elem with
  | none => simp [hq] at hs
  | some i =>
    have hi : i.size = K := by simpa [hq] using hs
    rw [hn] at hl
    simp [Builtin.copy_, run_underlying hu, Builtin.lenOf, Builtin.firstCells, sizeOf, typeInfo, hq, hi, hm, hl, hst]
theorem setRow_grown (w : World) (g : Nat) (cs : Array Value) : w.grownBy (w.setRow g cs) (some g) :=
  ⟨rfl, rfl, rfl, by simp [World.setRow], fun k _ hne => setRow_other w g k cs fun e => hne (by rw [e])⟩
def insAt (xs : List Tre.Fl) (i : Nat) (f : Tre.Fl) : List Tre.Fl := xs.take i ++ f :: xs.drop i
theorem insAt_len (xs : List Tre.Fl) (i : Nat) (f : Tre.Fl) : (insAt xs i f).length = xs.length + 1 := by
  unfold insAt; simp; omega
theorem insAt_fls (xs : List Tre.Fl) (i : Nat) (f : Tre.Fl) : flsOf (insAt xs i f) = flsOf (xs.take i) ++ ([Value.string (str f.path), Value.string (str f.data)] ++ flsOf (xs.drop i)) := by
  unfold insAt
  rw [flsOf_app, show f :: xs.drop i = [f] ++ xs.drop i from rfl, flsOf_app]
  rfl
theorem fls_take (xs : List Tre.Fl) (i : Nat) : (flsOf xs).take (i * 2) = flsOf (xs.take i) := by
  by_cases h : i ≤ xs.length
  · conv => lhs; rw [← List.take_append_drop i xs, flsOf_app]
    rw [List.take_left']
    rw [flsOf_len, List.length_take]; omega
  · rw [List.take_of_length_le (by rw [flsOf_len]; omega), List.take_of_length_le (by omega)]
theorem fls_drop (xs : List Tre.Fl) (i : Nat) : (flsOf xs).drop (i * 2) = flsOf (xs.drop i) := by
  by_cases h : i ≤ xs.length
  · conv => lhs; rw [← List.take_append_drop i xs, flsOf_app]
    rw [List.drop_left']
    rw [flsOf_len, List.length_take]; omega
  · rw [List.drop_of_length_le (by rw [flsOf_len]; omega), List.drop_of_length_le (by omega)]; rfl
/-- Moved up by one, and set: what the row begins with. -/
theorem shift_row {cur : List Value} {xs : List Tre.Fl} {i : Nat} (hi : i ≤ xs.length) (hc : (xs.length + 1) * 2 ≤ cur.length) (ht : cur.take (xs.length * 2) = flsOf xs) (p d : Value) (r1 : List Value)
    (h1 : r1 = cur.take ((i + 1) * 2) ++ flsOf (xs.drop i) ++ cur.drop ((i + 1) * 2 + (flsOf (xs.drop i)).length)) :
    r1.length = cur.length ∧ (r1.take (i * 2) ++ [p, d] ++ r1.drop (i * 2 + 2)).take ((xs.length + 1) * 2) = flsOf (xs.take i) ++ ([p, d] ++ flsOf (xs.drop i)) := by
  have hl : (flsOf (xs.drop i)).length = (xs.length - i) * 2 := by rw [flsOf_len, List.length_drop]
  have htl : (flsOf (xs.take i)).length = i * 2 := by rw [flsOf_len, List.length_take]; omega
  have e1 : r1.take (i * 2) = flsOf (xs.take i) := by
    rw [h1, List.append_assoc, List.take_append_of_le_length (by rw [List.length_take]; omega), List.take_take, Nat.min_eq_left (by omega), ← fls_take xs i, ← ht, List.take_take, Nat.min_eq_left (by omega)]
  have e2 : r1.drop (i * 2 + 2) = flsOf (xs.drop i) ++ cur.drop ((i + 1) * 2 + (flsOf (xs.drop i)).length) := by
    rw [h1, List.append_assoc, List.drop_left' (by rw [List.length_take]; omega)]
  refine ⟨by rw [h1]; simp only [List.length_append, List.length_take, List.length_drop]; omega, ?_⟩
  rw [e1, e2, show (flsOf (xs.take i) ++ [p, d] ++ (flsOf (xs.drop i) ++ cur.drop ((i + 1) * 2 + (flsOf (xs.drop i)).length))) = (flsOf (xs.take i) ++ ([p, d] ++ flsOf (xs.drop i))) ++ cur.drop ((i + 1) * 2 + (flsOf (xs.drop i)).length) by simp only [List.append_assoc]]
  rw [List.take_left']
  simp only [List.length_append, List.length_cons, List.length_nil, hl, htl]
  omega
/-- Laid anew, set, and filled behind: what the row begins with. -/
theorem grow_row {xs : List Tre.Fl} {i : Nat} (hi : i ≤ xs.length) (r0 rest : List Value) (p d : Value) (h0 : r0 = flsOf (xs.take i) ++ rest) (hc : (xs.length + 1 - i) * 2 ≤ rest.length) (r1 : List Value)
    (h1 : r1 = r0.take (i * 2) ++ [p, d] ++ r0.drop (i * 2 + 2)) :
    r1.length = r0.length ∧ (r1.take ((i + 1) * 2) ++ flsOf (xs.drop i) ++ r1.drop ((i + 1) * 2 + (flsOf (xs.drop i)).length)).take ((xs.length + 1) * 2) = flsOf (xs.take i) ++ ([p, d] ++ flsOf (xs.drop i)) := by
  have hl : (flsOf (xs.drop i)).length = (xs.length - i) * 2 := by rw [flsOf_len, List.length_drop]
  have htl : (flsOf (xs.take i)).length = i * 2 := by rw [flsOf_len, List.length_take]; omega
  have e0 : r0.take (i * 2) = flsOf (xs.take i) := by rw [h0, List.take_left' htl]
  have e1 : r1.take ((i + 1) * 2) = flsOf (xs.take i) ++ [p, d] := by
    rw [h1, e0, List.take_left']
    simp only [List.length_append, List.length_cons, List.length_nil, htl]; omega
  refine ⟨by rw [h1, e0, h0]; simp only [List.length_append, List.length_cons, List.length_nil, List.length_drop, htl]; omega, ?_⟩
  rw [e1, show ((flsOf (xs.take i) ++ [p, d]) ++ flsOf (xs.drop i) ++ r1.drop ((i + 1) * 2 + (flsOf (xs.drop i)).length)) = (flsOf (xs.take i) ++ ([p, d] ++ flsOf (xs.drop i))) ++ r1.drop ((i + 1) * 2 + (flsOf (xs.drop i)).length) by simp only [List.append_assoc]]
  rw [List.take_left']
  simp only [List.length_append, List.length_cons, List.length_nil, hl, htl]
  omega
theorem infoF2 : (Tryz.prog.info? 31).map (·.size) = some 2 := by kernel_rfl
/-- What Insert gives. -/
def GotIns (w : World) (B : Nat) (v0 : Value) (R : List Tre.Fl) : Ending → World → Prop := fun e w' => ∃ v, e = .returned v ∧ w'.ownsRow B 31 2 v R.length (flsOf R) ∧ w.grownBy w' v0.ownBlock
set_option maxHeartbeats 4000000 in
set_option maxRecDepth 100000 in
theorem insert_shift (g c q : Nat) (xs : List Tre.Fl) (i : Nat) (f : Tre.Fl) (B : Nat) (cur : Array Value) (w : World) (hB : B ≤ g) (hg : w.heap[g]? = some (.cells cur 31 (0, 0))) (hroom : xs.length + 1 ≤ c) (hc : c ≤ maxLen) (hcs : cur.size = c * 2) (htk : cur.toList.take (xs.length * 2) = flsOf xs)
    (hq : w.heap[q]? = some (.cells #[.string (str f.path), .string (str f.data)] 31 (0, 0))) (hqg : q ≠ g) (hi : i < xs.length) (hl : xs.length ≤ 100000) :
    Calls Tryz.prog 56 #[.slice (some ⟨g, 0, none⟩) xs.length c, .int .i64 i, .slice (some ⟨q, 0, none⟩) 1 1] w (GotIns w B (.slice (some ⟨g, 0, none⟩) xs.length c) (insAt xs i f)) := by
  unfold maxLen at hc
  obtain ⟨rest, hrest⟩ : ∃ rest, cur.toList = flsOf xs ++ rest := ⟨cur.toList.drop (xs.length * 2), by rw [← htk, List.take_append_drop]⟩
  have hDL : (flsOf (xs.drop i)).length = (xs.length - i) * 2 := by rw [flsOf_len, List.length_drop]
  have hlen : cur.toList.length = c * 2 := by simpa using hcs
  obtain ⟨r1, hr1⟩ : ∃ r1, r1 = cur.toList.take ((i + 1) * 2) ++ flsOf (xs.drop i) ++ cur.toList.drop ((i + 1) * 2 + (flsOf (xs.drop i)).length) := ⟨_, rfl⟩
  obtain ⟨hr1l, hr1t⟩ := shift_row (by omega) (by rw [hlen]; omega) htk (.string (str f.path)) (.string (str f.data)) r1 hr1
  have hov : ∀ lb cb, (callFunc 80 #[.slice (some ⟨q, 0, none⟩) 1 1, .slice (some ⟨g, (i + 1) * 2, none⟩) lb cb]).run Tryz.prog w = .ok (.value (.bool false)) w := fun lb cb => by
    rw [run_callFunc_extern Tryz.func80 (by kernel_rfl) (by kernel_rfl) (by kernel_rfl) (e := Extern.SlicesOverlaps.overlaps #[22, 22] #[4]) (by kernel_rfl),
      Lib.run_overlaps_apart w 22 4 31 Tryz.underlying22 2 (fun w => by kernel_rfl) ⟨q, 0, none⟩ ⟨g, (i + 1) * 2, none⟩ 1 1 lb cb hqg 31 31 2 (c * 2) (by simp [World.shape?, hq]) (by simp [World.shape?, hg, hcs]) (by omega) (by simp [World.frozen?, hq]) (by simp [World.frozen?, hq])]
    rfl
  obtain ⟨w1, hw1⟩ : ∃ w1, w1 = w.drew.setRow g r1.toArray := ⟨_, rfl⟩
  have hcp1 : (Builtin.copy_ #[23, 23] 3 #[.slice (some ⟨g, (i + 1) * 2, none⟩) (xs.length - i) (c - (i + 1)), .slice (some ⟨g, i * 2, none⟩) (xs.length + 1 - i) (c - i)]).run Tryz.prog w.drew = .ok (goInt ((xs.length - i : Nat) : Int)) w1 := by
    rw [hw1, hr1]
    refine copy_rowK 2 w.drew _ _ _ 31 g ((i + 1) * 2) (xs.length - i) (c - (i + 1)) ⟨g, i * 2, none⟩ (xs.length + 1 - i) (c - i) cur 31 (flsOf (xs.drop i)) Tryz.underlying23 infoF2 hg (xs.length - i) ?_ hDL ?_ (by rw [hDL, hcs]; omega) (flsOf_one _)
    · simp only [Nat.min_def]; split <;> omega
    · intro j v hj
      rw [addr_add]
      have hj2 : (flsOf xs)[i * 2 + j]? = some v := by rw [← List.getElem?_drop, fls_drop]; exact hj
      have hlt : i * 2 + j < (flsOf xs).length := (List.getElem?_eq_some_iff.1 hj2).1
      show w.cell? _ = _
      simp only [World.cell?, hg]
      show cur[i * 2 + j]? = some v
      rw [← Array.getElem?_toList, hrest, List.getElem?_append_left hlt]
      exact hj2
  have hg1 : w1.heap[g]? = some (.cells r1.toArray 31 (0, 0)) := by rw [hw1]; exact setRow_heap w.drew g cur _ _ _ hg
  have hq1 : w1.heap[q]? = some (.cells #[.string (str f.path), .string (str f.data)] 31 (0, 0)) := by rw [hw1, setRow_other _ _ _ _ hqg]; exact hq
  have hgr1 : w.grownBy w1 (some g) := by
    rw [hw1]
    have h := setRow_grown w.drew g r1.toArray
    exact ⟨h.os, h.tape, h.output, h.size, h.block⟩
  obtain ⟨w2, hw2⟩ : ∃ w2, w2 = w1.setRow g (r1.take (i * 2) ++ [Value.string (str f.path), Value.string (str f.data)] ++ r1.drop (i * 2 + 2)).toArray := ⟨_, rfl⟩
  have hcp2 : (Builtin.copy_ #[23, 22] 3 #[.slice (some ⟨g, i * 2, none⟩) (xs.length + 1 - i) (c - i), .slice (some ⟨q, 0, none⟩) 1 1]).run Tryz.prog w1 = .ok (goInt 1) w2 := by
    rw [hw2]
    refine copy_rowK 2 w1 _ _ _ 31 g (i * 2) (xs.length + 1 - i) (c - i) ⟨q, 0, none⟩ 1 1 r1.toArray 31 [Value.string (str f.path), Value.string (str f.data)] Tryz.underlying23 infoF2 hg1 1 ?_ rfl ?_ (by show i * 2 + 2 ≤ r1.length; rw [hr1l, hlen]; omega) (by simp [Value.oneCell'])
    · simp only [Nat.min_def]; split <;> omega
    · exact World.news_of_block (cs := #[.string (str f.path), .string (str f.data)]) hq1
  have hg2 : w2.heap[g]? = some (.cells (r1.take (i * 2) ++ [Value.string (str f.path), Value.string (str f.data)] ++ r1.drop (i * 2 + 2)).toArray 31 (0, 0)) := by rw [hw2]; exact setRow_heap w1 g r1.toArray _ _ _ hg1
  have hgr2 : w.grownBy w2 (some g) := by
    rw [hw2]
    have h := setRow_grown w1 g (r1.take (i * 2) ++ [Value.string (str f.path), Value.string (str f.data)] ++ r1.drop (i * 2 + 2)).toArray
    exact ⟨h.os.trans hgr1.os, h.tape.trans hgr1.tape, h.output.trans hgr1.output, Nat.le_trans hgr1.size h.size, fun k hk hne => (h.block k (Nat.lt_of_lt_of_le hk hgr1.size) hne).trans (hgr1.block k hk hne)⟩
  have hown : w2.ownsRow B 31 2 (.slice (some ⟨g, 0, none⟩) (xs.length + 1) c) (insAt xs i f).length (flsOf (insAt xs i f)) := by
    refine ⟨flsOf_len _, .inr ⟨g, c, _, by rw [insAt_len], hB, hg2, by rw [insAt_len]; exact hroom, by unfold maxLen; omega, ?_, ?_⟩⟩
    · show (r1.take (i * 2) ++ [_, _] ++ r1.drop (i * 2 + 2)).length = _
      simp only [List.length_append, List.length_take, List.length_cons, List.length_nil, List.length_drop, hr1l, hlen]
      omega
    · rw [insAt_len, insAt_fls]
      exact hr1t
  have hz1 : ¬ ((1 : Int) = 0) := by omega
  have hz2 : ¬ ((i : Int) = (xs.length : Int)) := by omega
  have hz2b : ((i : Int) == (xs.length : Int)) = false := by rw [beq_eq_false_iff_ne]; omega
  have hz2n : (i == xs.length) = false := by rw [beq_eq_false_iff_ne]; omega
  have hz3 : ¬ ((c : Int) < (xs.length : Int) + 1) := by omega
  have hz3b : decide ((c : Int) < (xs.length : Int) + 1) = false := by simp; omega
  have hw1' : IntKind.i64.wrap ((i : Int) + 1) = (i : Int) + 1 := by rw [IntKind.wrap_i64]; omega
  have htn : ((i : Int) + 1).toNat = i + 1 := by omega
  have hb0 : (i : Int) ≤ (xs.length : Int) := by omega
  have hb1 : (0 : Int) ≤ (i : Int) + 1 := by omega
  have hb2 : ¬ (c = i + 1) := by omega
  have hb3 : (i : Int) ≤ (xs.length : Int) + 1 := by omega
  have hb4 : ¬ (c = i) := by omega
  have hb5 : i ≤ xs.length := by omega
  have hb6 : i ≤ xs.length + 1 := by omega
  have hb7 : i + 1 ≤ xs.length + 1 := by omega
  have HG := Lib.hid hgr2
  have HO := Lib.hid hown
  clear hr1 hr1l hr1t hw1 hw2 hg1 hq1 hgr1 hg2 hgr2 hrest hDL hlen htk hcs hg hq hown
  go_enter Tryz.func56, Tryz.ntmps56
  go_wp2_with (simp only [hov])
  go_region
  go_wp2_with (at_builtin; refine wpList_copies _ rfl _ _ 23 22 rfl _ _ rfl rfl hcp2 ?_)
  go_ret
  exact ⟨_, rfl, HO.out, HG.out⟩
set_option maxHeartbeats 4000000 in
set_option maxRecDepth 100000 in
theorem insert_grow (g c q : Nat) (xs : List Tre.Fl) (i : Nat) (f : Tre.Fl) (B : Nat) (cur : Array Value) (w : World) (hB : B ≤ w.heap.size) (hg : w.heap[g]? = some (.cells cur 31 (0, 0))) (hnc : xs.length ≤ c) (hroom : c < xs.length + 1) (hcs : cur.size = c * 2) (htk : cur.toList.take (xs.length * 2) = flsOf xs)
    (hq : w.heap[q]? = some (.cells #[.string (str f.path), .string (str f.data)] 31 (0, 0))) (hi : i < xs.length) (hl : xs.length ≤ 100000) :
    Calls Tryz.prog 56 #[.slice (some ⟨g, 0, none⟩) xs.length c, .int .i64 i, .slice (some ⟨q, 0, none⟩) 1 1] w (GotIns w B (.slice (some ⟨g, 0, none⟩) xs.length c) (insAt xs i f)) := by
  obtain ⟨i0, hi0, hz0, hz1, hz2⟩ := info_parts infoF
  obtain ⟨rest, hrest⟩ : ∃ rest, cur.toList = flsOf xs ++ rest := ⟨cur.toList.drop (xs.length * 2), by rw [← htk, List.take_append_drop]⟩
  have hDL : (flsOf (xs.drop i)).length = (xs.length - i) * 2 := by rw [flsOf_len, List.length_drop]
  have hlen : cur.toList.length = c * 2 := by simpa using hcs
  have hcell : ∀ j v, (flsOf xs)[j]? = some v → w.cell? ⟨g, j, none⟩ = some v := fun j v hj => by
    have hlt : j < (flsOf xs).length := (List.getElem?_eq_some_iff.1 hj).1
    simp only [World.cell?, hg]
    show cur[j]? = some v
    rw [← Array.getElem?_toList, hrest, List.getElem?_append_left hlt]
    exact hj
  have hgw : g < w.heap.size := (Array.getElem?_eq_some_iff.1 hg).1
  have hqw : q < w.heap.size := (Array.getElem?_eq_some_iff.1 hq).1
  have hik : i + (xs.length + 1 - i) = xs.length + 1 := by omega
  have hkk : (xs.length : Int) + 1 - (i : Int) = ((xs.length + 1 - i : Nat) : Int) := by omega
  have hold : (Builtin.firstCells i0.size i (.slice (some ⟨g, 0, none⟩) i c)).run Tryz.prog w.drew = .ok (flsOf (xs.take i)).toArray w.drew := by
    rw [hz1]
    have hl2 := run_loadCells_list (P := Tryz.prog) w.drew ⟨g, 0, none⟩ (flsOf (xs.take i)) (fun j v hj => by
      rw [addr_add, Nat.zero_add]
      exact hcell j v (by rw [← fls_take, List.getElem?_take] at hj; split at hj; · exact hj
                          · cases hj))
    rw [flsOf_len, List.length_take, Nat.min_eq_left (by omega)] at hl2
    simpa [Builtin.firstCells] using hl2
  obtain ⟨G, hG⟩ : ∃ G, G = grownCap w (xs.length + 1) c 31 := ⟨_, rfl⟩
  have hrz := Lib.run_append_grow_zeros w 23 3 23 31 i0 _ .i64 .i64 Tryz.underlying23 Tryz.underlying3 hi0 hz0 (some ⟨g, 0, none⟩) i c (flsOf (xs.take i)) hold (xs.length + 1 - i) (by omega) (by rw [hz1]; omega) (by omega) (by omega) (by rw [hz2]; omega) (by rw [hz2, hik]; exact growslice_fits hroom (by omega))
  rw [hik, ← hG] at hrz
  have hGn : xs.length + 1 ≤ G := by rw [hG]; exact grownCap_ge w _ _ _
  have hG63 : G ≤ maxLen := by rw [hG]; exact grownCap_le_maxLen w _ _ _ (by unfold maxLen; omega)
  clear hG
  obtain ⟨rest0, hrest0⟩ : ∃ rest0 : List Value, rest0 = (Builtin.zeroCells (Value.agg #[.string ⟨#[]⟩, .string ⟨#[]⟩]).cells (xs.length + 1 - i)).toList ++ (Builtin.zeroCells (Value.agg #[.string ⟨#[]⟩, .string ⟨#[]⟩]).cells (G - (xs.length + 1))).toList := ⟨_, rfl⟩
  have hrl : rest0.length = (xs.length + 1 - i) * 2 + (G - (xs.length + 1)) * 2 := by
    rw [hrest0, List.length_append]
    simp only [Array.length_toList, size_zeroCells]
    rfl
  obtain ⟨r0, hr0⟩ : ∃ r0, r0 = flsOf (xs.take i) ++ rest0 := ⟨_, rfl⟩
  have hr0l : r0.length = G * 2 := by
    rw [hr0, List.length_append, flsOf_len, List.length_take, hrl]; omega
  have hrow0 : ((flsOf (xs.take i)).toArray ++ Builtin.zeroCells (Value.agg #[.string ⟨#[]⟩, .string ⟨#[]⟩]).cells (xs.length + 1 - i) ++ Builtin.zeroCells (Value.agg #[.string ⟨#[]⟩, .string ⟨#[]⟩]).cells (G - (xs.length + 1))) = r0.toArray := by
    rw [hr0, hrest0]
    apply Array.toList_inj.1
    simp
  rw [hrow0] at hrz
  obtain ⟨W1, hW1⟩ : ∃ W1, W1 = w.drew.alloc (.cells r0.toArray 31) := ⟨_, rfl⟩
  rw [← hW1, ← hkk] at hrz
  have hN1 : W1.heap[w.heap.size]? = some (.cells r0.toArray 31 (0, 0)) := by rw [hW1]; exact heap_alloc_new w.drew _
  have hold1 : ∀ k, k < w.heap.size → W1.heap[k]? = w.heap[k]? := fun k hk => by
    rw [hW1]
    show (w.heap.push _)[k]? = _
    rw [Array.getElem?_push, if_neg (by omega)]
  have hsz1 : w.heap.size ≤ W1.heap.size := by rw [hW1]; simp
  have hgr1 : ∀ (W' : World), W'.os = W1.os → W'.tape = W1.tape → W'.output = W1.output → W1.heap.size ≤ W'.heap.size → (∀ k, k < w.heap.size → W'.heap[k]? = W1.heap[k]?) → w.grownBy W' (some g) := fun W' h1 h2 h3 h4 h5 =>
    ⟨h1.trans (by rw [hW1]; rfl), h2.trans (by rw [hW1]; rfl), h3.trans (by rw [hW1]; rfl), Nat.le_trans hsz1 h4, fun k hk _ => (h5 k hk).trans (hold1 k hk)⟩
  obtain ⟨r1, hr1⟩ : ∃ r1, r1 = r0.take (i * 2) ++ [Value.string (str f.path), Value.string (str f.data)] ++ r0.drop (i * 2 + 2) := ⟨_, rfl⟩
  obtain ⟨hr1l, hr1t⟩ := grow_row (xs := xs) (i := i) (by omega) r0 rest0 (.string (str f.path)) (.string (str f.data)) hr0 (by rw [hrl]; omega) r1 hr1
  obtain ⟨W2, hW2⟩ : ∃ W2, W2 = W1.setRow w.heap.size r1.toArray := ⟨_, rfl⟩
  have hcp1 : (Builtin.copy_ #[23, 22] 3 #[.slice (some ⟨w.heap.size, i * 2, none⟩) (xs.length + 1 - i) (G - i), .slice (some ⟨q, 0, none⟩) 1 1]).run Tryz.prog W1 = .ok (goInt 1) W2 := by
    rw [hW2, hr1]
    refine copy_rowK 2 W1 _ _ _ 31 w.heap.size (i * 2) (xs.length + 1 - i) (G - i) ⟨q, 0, none⟩ 1 1 r0.toArray 31 [Value.string (str f.path), Value.string (str f.data)] Tryz.underlying23 infoF2 hN1 1 ?_ rfl ?_ (by show i * 2 + 2 ≤ r0.length; rw [hr0l]; omega) (by simp [Value.oneCell'])
    · simp only [Nat.min_def]; split <;> omega
    · exact World.news_of_block (cs := #[.string (str f.path), .string (str f.data)]) ((hold1 q hqw).trans hq)
  have hN2 : W2.heap[w.heap.size]? = some (.cells r1.toArray 31 (0, 0)) := by rw [hW2]; exact setRow_heap W1 w.heap.size r0.toArray _ _ _ hN1
  have hold2 : ∀ k, k < w.heap.size → W2.heap[k]? = W1.heap[k]? := fun k hk => by rw [hW2]; exact setRow_other _ _ _ _ (by omega)
  obtain ⟨W3, hW3⟩ : ∃ W3, W3 = W2.drew.setRow w.heap.size (r1.take ((i + 1) * 2) ++ flsOf (xs.drop i) ++ r1.drop ((i + 1) * 2 + (flsOf (xs.drop i)).length)).toArray := ⟨_, rfl⟩
  have hcp2 : (Builtin.copy_ #[23, 23] 3 #[.slice (some ⟨w.heap.size, (i + 1) * 2, none⟩) (xs.length - i) (G - (i + 1)), .slice (some ⟨g, i * 2, none⟩) (xs.length - i) (c - i)]).run Tryz.prog W2.drew = .ok (goInt ((xs.length - i : Nat) : Int)) W3 := by
    rw [hW3]
    refine copy_rowK 2 W2.drew _ _ _ 31 w.heap.size ((i + 1) * 2) (xs.length - i) (G - (i + 1)) ⟨g, i * 2, none⟩ (xs.length - i) (c - i) r1.toArray 31 (flsOf (xs.drop i)) Tryz.underlying23 infoF2 hN2 (xs.length - i) ?_ hDL ?_ (by show (i + 1) * 2 + (flsOf (xs.drop i)).length ≤ r1.length; rw [hDL, hr1l, hr0l]; omega) (flsOf_one _)
    · simp only [Nat.min_def]; split <;> omega
    · intro j v hj
      rw [addr_add]
      have hj2 : (flsOf xs)[i * 2 + j]? = some v := by rw [← List.getElem?_drop, fls_drop]; exact hj
      have := hcell _ v hj2
      rw [← this]
      exact World.cell?_of_block ((hold2 g hgw).trans (hold1 g hgw))
  have hN3 : W3.heap[w.heap.size]? = some (.cells (r1.take ((i + 1) * 2) ++ flsOf (xs.drop i) ++ r1.drop ((i + 1) * 2 + (flsOf (xs.drop i)).length)).toArray 31 (0, 0)) := by rw [hW3]; exact setRow_heap W2.drew w.heap.size r1.toArray _ _ _ hN2
  have HG := Lib.hid (show w.grownBy W3 (some g) from hgr1 W3 (by rw [hW3, hW2]; rfl) (by rw [hW3, hW2]; rfl) (by rw [hW3, hW2]; rfl) (by rw [hW3, hW2]; simp [World.setRow]) (fun k hk => by rw [hW3]; exact (setRow_other _ _ _ _ (by omega)).trans (hold2 k hk)))
  have HO := Lib.hid (show W3.ownsRow B 31 2 (.slice (some ⟨w.heap.size, 0, none⟩) (xs.length + 1) G) (insAt xs i f).length (flsOf (insAt xs i f)) from by
    refine ⟨flsOf_len _, .inr ⟨w.heap.size, G, _, by rw [insAt_len], hB, hN3, by rw [insAt_len]; exact hGn, hG63, ?_, ?_⟩⟩
    · show (r1.take ((i + 1) * 2) ++ flsOf (xs.drop i) ++ r1.drop ((i + 1) * 2 + (flsOf (xs.drop i)).length)).length = _
      simp only [List.length_append, List.length_take, List.length_drop, hDL, hr1l, hr0l]
      omega
    · rw [insAt_len, insAt_fls]
      exact hr1t)
  unfold maxLen at hG63
  have hz1' : ¬ ((1 : Int) = 0) := by omega
  have hz2' : ¬ ((i : Int) = (xs.length : Int)) := by omega
  have hz2b : ((i : Int) == (xs.length : Int)) = false := by rw [beq_eq_false_iff_ne]; omega
  have hz2n : (i == xs.length) = false := by rw [beq_eq_false_iff_ne]; omega
  have hz3 : (c : Int) < (xs.length : Int) + 1 := by omega
  have hz3b : decide ((c : Int) < (xs.length : Int) + 1) = true := by simp; omega
  have hw1' : IntKind.i64.wrap ((i : Int) + 1) = (i : Int) + 1 := by rw [IntKind.wrap_i64]; omega
  have htn : ((i : Int) + 1).toNat = i + 1 := by omega
  have hb0 : (i : Int) ≤ (xs.length : Int) := by omega
  have hb1 : (0 : Int) ≤ (i : Int) + 1 := by omega
  have hb2 : ¬ (G = i + 1) := by omega
  have hb2' : ¬ (G = i) := by omega
  have hb3 : (i : Int) ≤ (xs.length : Int) + 1 := by omega
  have hb4 : ¬ (c = i) := by omega
  have hb5 : i ≤ xs.length := by omega
  have hb6 : i ≤ xs.length + 1 := by omega
  have hb7 : i + 1 ≤ xs.length + 1 := by omega
  have hb8 : (i : Int) ≤ (c : Int) := by omega
  have hb9 : i ≤ c := by omega
  clear hr1 hr1l hr1t hr0 hr0l hrl hrest0 hrow0 hW1 hW2 hW3 hN1 hN2 hN3 hold1 hold2 hsz1 hgr1 hrest hDL hlen htk hcs hcell hkk hik hold hi0 hz0 hz1 hz2
  go_enter Tryz.func56, Tryz.ntmps56
  go_wp2_with (first
    | (at_builtin; refine Lib.wpList_append_run _ rfl _ _ _ _ rfl _ _ rfl rfl _ _ hrz ?_)
    | (at_builtin; refine wpList_copies _ rfl _ _ 23 22 rfl _ _ rfl rfl hcp1 ?_))
  go_region
  go_wp2_with fail
  go_ret
  exact ⟨_, rfl, HO.out, HG.out⟩
theorem append_types {P : Program} (w : World) (t tn ty e e' : TypeId) (ht : P.underlying t = some (.slice e)) (htn : P.underlying tn = some (.slice e')) (v x : Value) :
    (Builtin.append_ #[t, tn] ty #[v, x]).run P w = (Builtin.append_ #[t, t] ty #[v, x]).run P w := by
  cases v <;> simp [Builtin.append_, run_underlying ht, run_underlying htn]
set_option maxHeartbeats 4000000 in
set_option maxRecDepth 100000 in
theorem insert_end (A : Option Addr) (c q : Nat) (xs : List Tre.Fl) (f : Tre.Fl) (B : Nat) (w : World) (hown : w.ownsRow B 31 2 (.slice A xs.length c) xs.length (flsOf xs))
    (hq : w.heap[q]? = some (.cells #[.string (str f.path), .string (str f.data)] 31 (0, 0))) (hl : xs.length ≤ 100000) (hB : B ≤ w.heap.size) :
    Calls Tryz.prog 56 #[.slice A xs.length c, .int .i64 xs.length, .slice (some ⟨q, 0, none⟩) 1 1] w (GotIns w B (.slice A xs.length c) (xs ++ [f])) := by
  obtain ⟨i0, hi0, hz0, hz1, hz2⟩ := info_parts infoF
  have hz1' : ¬ ((1 : Int) = 0) := by omega
  have hz2b : ((xs.length : Int) == (xs.length : Int)) = true := by rw [beq_iff_eq]
  obtain ⟨hcp, hcm⟩ := own_cap0 hown
  unfold maxLen at hcm
  have hcase : (A = none ∧ xs.length = 0 ∧ c = 0) ∨ (∃ g, A = some ⟨g, 0, none⟩) := by
    rcases hown.2 with ⟨h1, h2⟩ | ⟨g, cap, cur, h1, _⟩
    · injection h1 with h3 h4 h5
      exact .inl ⟨h3, h2, h5⟩
    · injection h1 with h3 _ _
      exact .inr ⟨g, h3⟩
  have hcase2 : c = xs.length ∨ ¬ (c = xs.length) := Classical.em _
  have hnews := World.news_of_block hq
  have hb0 : (xs.length : Int) ≤ (xs.length : Int) := by omega
  obtain ⟨gg, cap, w3, hrun, hown3, hgrow, _, _⟩ := run_append_lies (P := Tryz.prog) w 23 23 B 31 i0 _ 2 32 Tryz.underlying23 hi0 hz0 hz1 hz2 rfl (by omega) (.slice A xs.length c) xs.length _ hown ⟨q, 0, none⟩ 1 1 [_, _] rfl hnews (by simp [Value.oneCell']) (by omega) (by unfold maxLen; omega) (by omega) hB w.heap.size rfl
  rw [← append_types w 23 22 23 31 31 Tryz.underlying23 Tryz.underlying22] at hrun
  have HO := Lib.hid (show w3.ownsRow B 31 2 (.slice (some ⟨gg, 0, none⟩) (xs.length + 1) cap) (xs ++ [f]).length (flsOf (xs ++ [f])) from by rw [← flsOf_snoc, List.length_append, List.length_singleton]; exact hown3)
  have HG := Lib.hid hgrow
  clear hown3 hgrow hown hnews hi0 hz0 hz1 hz2
  rcases hcase with ⟨rfl, h0, rfl⟩ | ⟨g, rfl⟩
  · have H0 := Lib.hid h0
    rw [h0] at hrun hz2b hb0 ⊢
    clear h0
    go_enter Tryz.func56, Tryz.ntmps56
    go_wp2_with (at_builtin; refine Lib.wpList_append_run _ rfl _ _ _ _ rfl _ _ rfl rfl _ _ hrun ?_)
    go_ret
    exact ⟨_, rfl, by have := HO.out; rw [H0.out, Nat.zero_add] at this; exact this, HG.out⟩
  · rcases hcase2 with hc2 | hc2
    all_goals
      go_enter Tryz.func56, Tryz.ntmps56
      go_wp2_with (at_builtin; refine Lib.wpList_append_run _ rfl _ _ _ _ rfl _ _ rfl rfl _ _ hrun ?_)
      go_ret
      exact ⟨_, rfl, HO.out, HG.out⟩
theorem insert_any (A : Option Addr) (c q : Nat) (xs : List Tre.Fl) (i : Nat) (f : Tre.Fl) (B : Nat) (w : World) (hown : w.ownsRow B 31 2 (.slice A xs.length c) xs.length (flsOf xs))
    (hq : w.heap[q]? = some (.cells #[.string (str f.path), .string (str f.data)] 31 (0, 0))) (hqa : ∀ k, (Value.slice A xs.length c).ownBlock = some k → k ≠ q) (hi : i ≤ xs.length) (hl : xs.length ≤ 100000) (hB : B ≤ w.heap.size) :
    Calls Tryz.prog 56 #[.slice A xs.length c, .int .i64 i, .slice (some ⟨q, 0, none⟩) 1 1] w (GotIns w B (.slice A xs.length c) (insAt xs i f)) := by
  rcases Nat.lt_or_ge i xs.length with hlt | hge
  · rcases hown.2 with ⟨_, h2⟩ | ⟨g, cap, cur, h1, h2, h3, h4, h5, h6, h7⟩
    · omega
    · injection h1 with e1 e2 e3
      subst e1
      subst e3
      have hqg : q ≠ g := fun e => hqa g rfl e.symm
      rcases Nat.lt_or_ge c (xs.length + 1) with hr | hr
      · exact insert_grow g c q xs i f B cur w hB h3 h4 hr h6 h7 hq hlt hl
      · exact insert_shift g c q xs i f B cur w h2 h3 hr h5 h6 h7 hq hqg hlt hl
  · obtain rfl : i = xs.length := by omega
    have := insert_end A c q xs f B w hown hq hl hB
    rwa [show insAt xs xs.length f = xs ++ [f] by unfold insAt; rw [List.take_length, List.drop_length]]
end Go.Proofs.YtinkpbobkeppiaaGreatDoor
end
section
namespace Go.Proofs.YtinkpbobkeppiaaGreatDoor
open Go.RowKit Go.Deep

set_option maxHeartbeats 2000000 in
set_option maxRecDepth 100000 in
theorem putFn (f : Tre.Fl) (p : ByteArray) (w : World) :
    Calls Tryz.prog 54 #[flV f, .string p] w fun x w' => x = .returned (.int .i64 (Lib.compareBytes f.path p.data.toList)) ∧ Below w.heap.size w w' := by
  unfold flV
  have hb0 : Below w.heap.size w (w.alloc (.cells #[.string (str f.path), .string (str f.data)] 31)) := (Below.refl _ _).alloc (Nat.le_refl _) _
  have hcall : ∀ w, Calls Tryz.prog 55 #[.string (str f.path), .string p] w fun e w' => e = .returned (.int .i64 (Lib.compareBytes f.path p.data.toList)) ∧ w = w' := fun w => (Tryz.strings_Compare (str f.path) p w).mono fun e w' ⟨h1, h2⟩ => ⟨by rw [h1, str_data], h2.symm⟩
  generalize Lib.compareBytes f.path p.data.toList = z at *
  go_enter Tryz.func54, Tryz.ntmps54
  go_wp2_with (go_at_call 55; (with_reducible refine (hcall _).mono ?_); rintro e w' ⟨rfl, rfl⟩)
  go_ret
  exact ⟨rfl, hb0⟩
set_option maxHeartbeats 4000000 in
set_option maxRecDepth 100000 in
theorem bsearch_any (A : Option Addr) (c : Nat) (us : List Tre.Fl) (p : ByteArray) (w : World) (hA : FlsAt w w.heap.size A us) (hs : us.Pairwise fun f g => Op.bytesLess f.path g.path = true) (hl : us.length ≤ 1000000) :
    Calls Tryz.prog 53 #[.slice A us.length c, .string p, .func (Fn.func 54) #[] #[]] w fun e w' => (∃ b, e = .returned (.tuple #[.int .i64 (Tre.pos us p.data.toList : Nat), .bool b])) ∧ Below w.heap.size w w' := by
  have HS := Lib.hid hs
  clear hs
  go_enter Tryz.func53, Tryz.ntmps53
  go_wp2_with fail
  go_loopw [9, 10] (fun u v wr => ∃ i j : Nat, i ≤ j ∧ j ≤ us.length ∧ u = .int .i64 i ∧ v = .int .i64 j ∧ (∀ k (h : k < us.length), k < i → Op.bytesLess us[k].path p.data.toList = true) ∧ (∀ k (h : k < us.length), j ≤ k → Op.bytesLess us[k].path p.data.toList = false) ∧ Below w.heap.size w wr) (fun u v _ => (intOf v).toNat - (intOf u).toNat)
  case atStart => exact ⟨0, us.length, by omega, by omega, rfl, rfl, fun k h h2 => absurd h2 (by omega), fun k h h2 => absurd h2 (by omega), Below.refl _ _⟩
  case round =>
    obtain ⟨i, j, hij, hj, rfl, rfl, h1, h2, hb⟩ := hrel
    have H1 := Lib.hid h1
    have H2 := Lib.hid h2
    clear h1 h2
    by_cases hlt : i < j
    · have b1 : decide ((i : Int) < (j : Int)) = true := by simp; omega
      have b1n : decide (i < j) = true := by simp; omega
      obtain ⟨h, hh⟩ : ∃ h : Nat, h = (i + j) / 2 := ⟨_, rfl⟩
      have hhl : h < us.length := by omega
      have hih : i ≤ h := by omega
      have hhj : h < j := by omega
      have he : ((i : Int) + (j : Int)) / 2 = (h : Int) := by omega
      clear hh
      go_upto_region 5 with (fail)
      clear he
      obtain ⟨g, o, rfl, hg, hc0, hc1⟩ := hA h hhl
      have hd0 := (hb.cell (p := ⟨g, o + h * 2, none⟩) hg).trans hc0
      have hd1 := (hb.cell (p := ⟨g, o + h * 2 + 1, none⟩) hg).trans hc1
      have hki : (h : Int) < (us.length : Int) := by omega
      have HLm := Lib.hid (fun (k : Nat) (hk : k ≤ h) hl => Tre.less_mono HS.out hhl hk (p := p.data.toList) hl)
      have HGm := Lib.hid (show Op.bytesLess (us[h]'hhl).path p.data.toList = false → ∀ (k : Nat) (_ : h ≤ k) (hkl : k < us.length), Op.bytesLess us[k].path p.data.toList = false from fun hl k hk hkl => Tre.notless_mono HS.out hk hkl (p := p.data.toList) hl)
      have hcall := putFn us[h] p wr
      have HZ := Lib.hid (Tre.cb_less us[h].path p.data.toList)
      unfold flV at hcall
      clear hc0 hc1
      generalize hus : us[h] = f at *
      clear hus
      generalize Lib.compareBytes f.path p.data.toList = z at *
      go_wp2_with fail
      with_reducible refine hcall.mono ?_
      clear hcall hd0 hd1
      rintro e w2 ⟨rfl, hb2⟩
      have hb3 := hb.trans (hb2.mono hb.size)
      clear hb hb2
      by_cases hz : z < 0
      · have b2 : decide (z < 0) = true := decide_eq_true hz
        have hlt2 := HZ.out.1 hz
        have HR := Lib.hid (show ∀ k (hk : k < us.length), k < h + 1 → Op.bytesLess us[k].path p.data.toList = true from fun k hk hkh => HLm.out k (by omega) hlt2)
        clear hlt2 hz HZ HLm HGm H1
        go_wp2_with fail
        go_roundw
        case rel => exact ⟨h + 1, j, by omega, by omega, by go_num, rfl, HR.out, H2.out, hb3⟩
        case measure => simp [intOf]; omega
      · have b2 : decide (z < 0) = false := decide_eq_false hz
        have hlt2 : Op.bytesLess f.path p.data.toList = false := by rw [Bool.eq_false_iff]; exact fun e => hz (HZ.out.2 e)
        have HR := Lib.hid (show ∀ k (hk : k < us.length), h ≤ k → Op.bytesLess us[k].path p.data.toList = false from fun k hk hkh => HGm.out hlt2 k hkh hk)
        clear hlt2 hz HZ HLm HGm H2
        go_wp2_with fail
        go_roundw
        case rel => exact ⟨i, h, by omega, by omega, rfl, rfl, H1.out, HR.out, hb3⟩
        case measure => simp [intOf]; omega
    · have b1 : decide ((i : Int) < (j : Int)) = false := by simp; omega
      have b1n : decide (i < j) = false := by simp; omega
      obtain rfl : i = j := by omega
      have HP := Lib.hid (Tre.pos_of us p.data.toList i hj H1.out H2.out)
      clear H1 H2 hlt hij
      by_cases hl2 : i < us.length
      · have b2 : decide ((i : Int) < (us.length : Int)) = true := by simp; omega
        have b2n : decide (i < us.length) = true := by simp; omega
        obtain ⟨g, o, rfl, hg, hc0, hc1⟩ := hA i hl2
        have hd0 := (hb.cell (p := ⟨g, o + i * 2, none⟩) hg).trans hc0
        have hd1 := (hb.cell (p := ⟨g, o + i * 2 + 1, none⟩) hg).trans hc1
        have hki : (i : Int) < (us.length : Int) := by omega
        have hcall := putFn us[i] p wr
        unfold flV at hcall
        clear hc0 hc1
        generalize us[i] = f at *
        generalize Lib.compareBytes f.path p.data.toList = z at *
        go_wp2_with fail
        with_reducible refine hcall.mono ?_
        clear hcall hd0 hd1
        rintro e w2 ⟨rfl, hb2⟩
        have hb3 := hb.trans (hb2.mono hb.size)
        clear hb hb2
        go_wp2_with fail
        go_ret2
        rw [HP.out]
        exact ⟨⟨_, rfl⟩, hb3⟩
      · have b2 : decide ((i : Int) < (us.length : Int)) = false := by simp; omega
        have b2n : decide (i < us.length) = false := by simp; omega
        go_wp2_with fail
        go_ret2
        rw [HP.out]
        exact ⟨⟨_, rfl⟩, hb⟩
end Go.Proofs.YtinkpbobkeppiaaGreatDoor
end
section
namespace Go.Proofs.YtinkpbobkeppiaaGreatDoor
open Go.RowKit Go.Deep

theorem put_def (ts : List Tre.Fl) (f : Tre.Fl) : Tre.put ts f = if Tre.check ts ≠ 0 then ([], 1) else if Tre.pathOk f.path = false then ([], 2) else if 65536 < f.data.length then ([], 10) else if (ts.any (Tre.bad f)) = true then ([], 6) else if (Tre.drop ts f.path).length = 64 then ([], 10) else (Tre.ins (Tre.drop ts f.path) f, 0) := rfl
set_option maxHeartbeats 8000000 in
set_option maxRecDepth 100000 in
theorem put_any (A : Option Addr) (c : Nat) (ts : List Tre.Fl) (p s : ByteArray) (w : World) (hA : FlsAt w w.heap.size A ts) (hl : ts.length ≤ 1000000) (hL : FlsLen ts) (hM : MaxAt w) (hcap : ts.length ≤ c) (hcap2 : c ≤ maxLen) (hp : p.size ≤ 1000000000) (hs : s.size ≤ 1000000000) :
    Calls Tryz.prog 19 #[.slice A ts.length c, .agg #[.string p, .string s]] w (GotE w (Tre.put ts ⟨p.data.toList, s.data.toList⟩)) := by
  have HV := Lib.hid (put_def ts ⟨p.data.toList, s.data.toList⟩)
  generalize Tre.put ts ⟨p.data.toList, s.data.toList⟩ = R at *
  have hb0 : Below w.heap.size w (w.alloc (.cells #[.string p, .string s] 31)) := (Below.refl _ _).alloc (Nat.le_refl _) _
  have hN0 := heap_alloc_new w (.cells #[.string p, .string s] 31)
  have hbs : w.heap.size < (w.alloc (.cells #[.string p, .string s] 31)).heap.size := by simp
  have hc1 := check_any A c ts _ (hA.next hb0) (by omega) hL (hM.below hb0) hcap hcap2
  have HW := Lib.hid (show ∀ w', Below w.heap.size w w' → Below w.heap.size w w' ∧ FlsAt w' w'.heap.size A ts ∧ MaxAt w' from fun w' h => ⟨h, hA.next h, hM.below h⟩)
  clear hA hM
  go_enter Tryz.func19, Tryz.ntmps19
  go_wp2_with fail
  generalize w.alloc (.cells #[.string p, .string s] 31) = W at *
  generalize hbb : w.heap.size = b at *
  have HBB := Lib.hid hbb
  clear hbb
  rcases (Classical.em (Tre.check ts = 0)).symm with h0 | h0
  · have n0 : (Tre.check ts != 0) = true := by rw [bne_iff_ne]; exact h0
    have HT := Lib.hid (show R = ([], 1) by rw [HV.out, if_pos h0])
    clear HV h0 hL
    generalize Tre.check ts = e at *
    with_reducible refine hc1.mono ?_
    clear hc1
    rintro x w2 ⟨rfl, hb2⟩
    have hb := hb0.trans (hb2.mono (Nat.le_of_lt hbs))
    go_wp2_with fail
    go_ret2
    rw [HT.out]
    exact ⟨_, rfl, World.ownsRow_nil _ _ _ _, by rw [HBB.out]; exact hb⟩
  have HV1 := Lib.hid (HV.out.trans (if_neg (fun h => h h0)))
  have HG := Lib.hid ((Tre.good_iff ts).1 h0)
  rw [h0] at hc1
  clear HV h0
  with_reducible refine hc1.mono ?_
  clear hc1
  rintro x w2 ⟨rfl, hb2⟩
  have hb02 := hb0.trans (hb2.mono (Nat.le_of_lt hbs))
  have hN2 := (hb2.block b hbs).trans hN0
  have hl2 : b < w2.heap.size := Nat.lt_of_lt_of_le hbs hb2.size
  clear hb2 hN0 hbs hb0
  have e0 : w2.cell? ⟨b, 0, none⟩ = some (.string p) := by rw [cell_of_row _ _ _ _ _ _ hN2]; rfl
  have e1 : w2.cell? ⟨b, 1, none⟩ = some (.string s) := by rw [cell_of_row _ _ _ _ _ _ hN2]; rfl
  have hcall := path_any p w2 (by omega) (HW.out _ hb02).2.2
  rw [path_val] at hcall
  cases hpo : Tre.pathOk p.data.toList with
  | false =>
    rw [hpo] at hcall
    have HT := Lib.hid (show R = ([], 2) from HV1.out.trans (if_pos hpo))
    clear HV1 hpo
    go_wp2_with fail
    with_reducible refine hcall.mono ?_
    clear hcall
    rintro x w3 ⟨rfl, hb3⟩
    have hb := hb02.trans (hb3.mono (Nat.le_of_lt hl2))
    go_wp2_with fail
    go_ret2
    rw [HT.out]
    exact ⟨_, rfl, World.ownsRow_nil _ _ _ _, by rw [HBB.out]; exact hb⟩
  | true =>
  rw [hpo] at hcall
  have HV2 := Lib.hid (HV1.out.trans (if_neg (by show ¬ Tre.pathOk p.data.toList = false; rw [hpo]; decide)))
  clear HV1 hpo
  go_wp2_with fail
  with_reducible refine hcall.mono ?_
  clear hcall
  rintro x w3 ⟨rfl, hb3⟩
  have hb03 := hb02.trans (hb3.mono (Nat.le_of_lt hl2))
  have hN3 := (hb3.block b hl2).trans hN2
  have hl3 : b < w3.heap.size := Nat.lt_of_lt_of_le hl2 hb3.size
  clear hb3 hN2 hl2 hb02 e0 e1
  have e0 : w3.cell? ⟨b, 0, none⟩ = some (.string p) := by rw [cell_of_row _ _ _ _ _ _ hN3]; rfl
  have e1 : w3.cell? ⟨b, 1, none⟩ = some (.string s) := by rw [cell_of_row _ _ _ _ _ _ hN3]; rfl
  by_cases hbig : 65536 < s.size
  · have b1 : decide ((65536 : Int) < (s.size : Int)) = true := by simp; omega
    have b1n : decide (65536 < s.size) = true := by simp; omega
    have HT := Lib.hid (show R = ([], 10) from HV2.out.trans (if_pos (by show 65536 < s.data.toList.length; rw [size_data]; exact hbig)))
    clear HV2
    go_wp2_with fail
    go_ret2
    rw [HT.out]
    exact ⟨_, rfl, World.ownsRow_nil _ _ _ _, by rw [HBB.out]; exact hb03⟩
  have b1 : decide ((65536 : Int) < (s.size : Int)) = false := by simp; omega
  have b1n : decide (65536 < s.size) = false := by simp; omega
  have HV3 := Lib.hid (HV2.out.trans (if_neg (by show ¬ 65536 < s.data.toList.length; rw [size_data]; exact hbig)))
  clear HV2
  have hcA := belowSome_any A c ts p w3 (HW.out _ hb03).2.1 (by omega)
  have hcB := fun w' (h : Below b w w') => aboveSome_any A c ts p w' (HW.out _ h).2.1 (by omega)
  have HAB := Lib.hid (Tre.any_bad ts ⟨p.data.toList, s.data.toList⟩)
  change Hid (ts.any (Tre.bad ⟨p.data.toList, s.data.toList⟩) = ((ts.any fun x => Tre.below p.data.toList x.path) || (ts.any fun x => Tre.below x.path p.data.toList))) at HAB
  generalize (ts.any fun f => Tre.below p.data.toList f.path) = qa at *
  generalize (ts.any fun f => Tre.below f.path p.data.toList) = qb at *
  go_wp2_with fail
  with_reducible refine hcA.mono ?_
  clear hcA
  rintro x w4 ⟨rfl, hb4⟩
  have hb04 := hb03.trans (hb4.mono (Nat.le_of_lt hl3))
  have hN4 := (hb4.block b hl3).trans hN3
  have hl4 : b < w4.heap.size := Nat.lt_of_lt_of_le hl3 hb4.size
  clear hb4 hN3 hl3 hb03 e0 e1
  have e0 : w4.cell? ⟨b, 0, none⟩ = some (.string p) := by rw [cell_of_row _ _ _ _ _ _ hN4]; rfl
  have e1 : w4.cell? ⟨b, 1, none⟩ = some (.string s) := by rw [cell_of_row _ _ _ _ _ _ hN4]; rfl
  have hcB := hcB w4 hb04
  cases qa with
  | true =>
    have HT := Lib.hid (show R = ([], 6) from HV3.out.trans (if_pos (by rw [HAB.out]; rfl)))
    clear HV3 HAB hcB
    go_wp2_with fail
    go_ret2
    rw [HT.out]
    exact ⟨_, rfl, World.ownsRow_nil _ _ _ _, by rw [HBB.out]; exact hb04⟩
  | false =>
  go_wp2_with fail
  with_reducible refine hcB.mono ?_
  clear hcB
  rintro x w5 ⟨rfl, hb5⟩
  have hb05 := hb04.trans (hb5.mono (Nat.le_of_lt hl4))
  have hN5 := (hb5.block b hl4).trans hN4
  have hl5 : b < w5.heap.size := Nat.lt_of_lt_of_le hl4 hb5.size
  clear hb5 hN4 hl4 hb04 e0 e1
  have e0 : w5.cell? ⟨b, 0, none⟩ = some (.string p) := by rw [cell_of_row _ _ _ _ _ _ hN5]; rfl
  have e1 : w5.cell? ⟨b, 1, none⟩ = some (.string s) := by rw [cell_of_row _ _ _ _ _ _ hN5]; rfl
  cases qb with
  | true =>
    have HT := Lib.hid (show R = ([], 6) from HV3.out.trans (if_pos (by rw [HAB.out]; rfl)))
    clear HV3 HAB
    go_wp2_with fail
    go_ret2
    rw [HT.out]
    exact ⟨_, rfl, World.ownsRow_nil _ _ _ _, by rw [HBB.out]; exact hb05⟩
  | false =>
  have HV4 := Lib.hid (HV3.out.trans (if_neg (by rw [HAB.out]; decide)))
  clear HV3 HAB
  have hcW := without_any A c ts p w5 (HW.out _ hb05).2.1 hl
  have HGD := Lib.hid (HG.out.sub (Tre.drop_sub ts p.data.toList))
  change Hid (R = if (Tre.drop ts p.data.toList).length = 64 then ([], 10) else (Tre.ins (Tre.drop ts p.data.toList) ⟨p.data.toList, s.data.toList⟩, 0)) at HV4
  generalize Tre.drop ts p.data.toList = D at *
  have hDl := HGD.out.len
  go_wp2_with fail
  with_reducible refine hcW.mono ?_
  clear hcW HW
  rintro x w6 ⟨v6, rfl, hown6, hb6⟩
  have hb06 := hb05.trans (hb6.mono (Nat.le_of_lt hl5))
  have hN6 := (hb6.block b hl5).trans hN5
  have hl6 : b < w6.heap.size := Nat.lt_of_lt_of_le hl5 hb6.size
  have hown := hown6.mono (Nat.le_of_lt hl5)
  have hrow := hown6.lt
  clear hb6 hN5 hb05 e0 e1 hown6
  have e0 : w6.cell? ⟨b, 0, none⟩ = some (.string p) := by rw [cell_of_row _ _ _ _ _ _ hN6]; rfl
  have e1 : w6.cell? ⟨b, 1, none⟩ = some (.string s) := by rw [cell_of_row _ _ _ _ _ _ hN6]; rfl
  obtain ⟨A6, c6, rfl, hA6⟩ := owns_fls hown
  by_cases h64 : D.length = 64
  · have b2 : ((D.length : Int) == 64) = true := by rw [beq_iff_eq]; omega
    have b2n : (D.length == 64) = true := by rw [beq_iff_eq]; omega
    have HT := Lib.hid (show R = ([], 10) from HV4.out.trans (if_pos h64))
    clear HV4 h64
    go_wp2_with fail
    go_ret2
    rw [HT.out]
    exact ⟨_, rfl, World.ownsRow_nil _ _ _ _, by rw [HBB.out]; exact hb06⟩
  have b2 : ((D.length : Int) == 64) = false := by rw [beq_eq_false_iff_ne]; omega
  have b2n : (D.length == 64) = false := by rw [beq_eq_false_iff_ne]; omega
  have HT := Lib.hid (show R = (insAt D (Tre.pos D p.data.toList) ⟨p.data.toList, s.data.toList⟩, 0) from (HV4.out.trans (if_neg h64)).trans (by rw [Tre.ins_pos]; rfl))
  clear HV4 h64
  have hcS := bsearch_any A6 c6 D p w6 hA6 HGD.out.sorted (by omega)
  have hpl := Tre.pos_le D p.data.toList
  generalize Tre.pos D p.data.toList = at_ at *
  clear hA6 HGD HG
  go_wp2_with fail
  with_reducible refine hcS.mono ?_
  clear hcS
  rintro x w7 ⟨⟨fb, rfl⟩, hb7⟩
  have hb07 := hb06.trans (hb7.mono (Nat.le_of_lt hl6))
  have hN7 := (hb7.block b hl6).trans hN6
  have hl7 : b < w7.heap.size := Nat.lt_of_lt_of_le hl6 hb7.size
  have hown7 := owns_below hown hb7
  clear hN6 hb06 e0 e1
  have e0 : w7.cell? ⟨b, 0, none⟩ = some (.string p) := by rw [cell_of_row _ _ _ _ _ _ hN7]; rfl
  have e1 : w7.cell? ⟨b, 1, none⟩ = some (.string s) := by rw [cell_of_row _ _ _ _ _ _ hN7]; rfl
  have hsp : (str p.data.toList) = p := str_of p
  have hss : (str s.data.toList) = s := str_of s
  have hN8 := heap_alloc_new w7 (.cells #[.string p, .string s] 31)
  have hb8 : Below b w (w7.alloc (.cells #[.string p, .string s] 31)) := hb07.alloc (Nat.le_of_lt hl7) _
  have hcI := insert_any A6 c6 w7.heap.size D at_ ⟨p.data.toList, s.data.toList⟩ b (w7.alloc (.cells #[.string p, .string s] 31)) (hown7.alloc _) (by rw [hsp, hss]; exact hN8) (fun k hk e => by
    have := (hrow k hk).2
    rw [e] at this
    exact absurd (Nat.lt_of_lt_of_le this hb7.size) (Nat.lt_irrefl _)) hpl (by omega) (by simp; omega)
  have hrow2 : ∀ k, (Value.slice A6 D.length c6).ownBlock = some k → b ≤ k := fun k hk => (hown7.lt k hk).1
  clear hown7 hown hN8 hsp hss hb7 hrow
  go_wp2_with fail
  with_reducible refine hcI.mono ?_
  clear hcI
  rintro x w9 ⟨v9, rfl, hown9, hgr9⟩
  have hb9 := hb8.grown hgr9 (by simp; omega) hrow2
  go_wp2_with fail
  go_ret2
  rw [HT.out]
  exact ⟨_, rfl, by rw [HBB.out]; exact hown9, by rw [HBB.out]; exact hb9⟩
end Go.Proofs.YtinkpbobkeppiaaGreatDoor
end
