/- append, of whatever list of elements. No condition but the lengths. -/
import Derived.Test.YtjemffgidhgfjaaGreatDoorRkChk
import Derived.Deep.Upon
import Derived.Deep.DeepAppendWide
import Derived.Lib.AppendZeros
namespace Go.Proofs.YtjemffgidhgfjaaGreatDoor.Rk
open Go.RowKit Go.Deep Tr

theorem src_noneR {P : Program} {size : Nat} {tx e' : TypeId} (w : World) (hk : P.underlying tx = some (.slice e')) (A : Option Addr) (c : Nat) : Src P size tx (.slice A 0 c) 0 [] w := by
  cases A with
  | none => exact Src.ofNil w hk c
  | some a => exact Src.ofSlice w hk a 0 c [] (by simp) (fun j u h => by simp at h) (by simp)
theorem own_emptyR (w : World) (B : Nat) (hB : B ≤ w.heap.size) (T : TypeId) (size : Nat) : (w.alloc (.cells #[] T)).ownsRow B T size (.slice (some ⟨w.heap.size, 0, none⟩) 0 0) 0 [] :=
  ⟨by simp, .inr ⟨w.heap.size, 0, #[], rfl, hB, heap_alloc_new w _, Nat.le_refl _, by unfold maxLen; omega, by simp, by simp⟩⟩
/-- A row of other elements stays when one grows. -/
theorem own_grown {w w6 : World} {B B' e e' size size' n n' : Nat} {v v' : Value} {xs xs' : List Value} (h : w.ownsRow B e size v n xs) (h' : w.ownsRow B' e' size' v' n' xs') (hne : e ≠ e') (hg : w.grownBy w6 v'.ownBlock) : w6.ownsRow B e size v n xs :=
  own_same h fun g hg1 => hg.block g (h.lt g hg1).2 fun e1 => by
    obtain ⟨c1, f1, k1⟩ := Lib.ownsRow_kind h g hg1
    obtain ⟨c2, f2, k2⟩ := Lib.ownsRow_kind h' g e1.symm
    exact kind_ne k1 k2 hne rfl
theorem below_own {B e size n : Nat} {w w6 : World} {v : Value} {xs : List Value} (ho : w.ownsRow B e size v n xs) (hB : B ≤ w.heap.size) (hg : w.grownBy w6 v.ownBlock) : Below B w w6 :=
  below_grown (Below.refl _ _) hB ho hg
namespace Rc
theorem flat_get {α : Type} (f : α → List Value) (k : Nat) (hk : ∀ x, (f x).length = k) (hk0 : 0 < k) {w : World} {g o : Nat} {l : List α} (hc : ∀ j (hj : j < l.length) i u, (f l[j])[i]? = some u → w.cell? ⟨g, o + j * k + i, none⟩ = some u) (j : Nat) (u : Value) (hu : (l.flatMap f)[j]? = some u) : w.cell? ((⟨g, o, none⟩ : Addr).add j) = some u := by
  have hj := (List.getElem?_eq_some_iff.1 hu).1
  rw [flat_len f k hk] at hj
  have hq : j / k < l.length := Nat.div_lt_of_lt_mul (by rw [Nat.mul_comm]; exact hj)
  have e : j = j / k * k + j % k := by rw [Nat.mul_comm]; exact (Nat.div_add_mod j k).symm
  rw [e, flat_at f k hk l _ _ hq (Nat.mod_lt _ hk0)] at hu
  rw [addr_addS, e, ← Nat.add_assoc]
  exact hc _ hq _ _ hu
theorem app_el {α : Type} (f : α → List Value) (k : Nat) (hk : ∀ x, (f x).length = k) (hone : ∀ x, ∀ u ∈ f x, u.oneCell' = true) (hk0 : 0 < k) {t e : TypeId} {i : TypeInfo} {z : Value} {bytes : Nat}
    (ht : Tryz.prog.underlying t = some (.slice e)) (hi : Tryz.prog.info? e = some i) (hz : i.zero = some z) (hsize : i.size = k) (hby : i.bytes = bytes) (hzs : z.cells.size = k) (hb : bytes ≤ 100)
    (ty : TypeId) (w : World) (B : Nat) (v : Value) (xs ys : List α) (hown : w.ownsRow B e k v xs.length (xs.flatMap f)) (A : Option Addr) (c : Nat) (hA : ElAt f k w w.heap.size A ys) (hB : B ≤ w.heap.size) (hlen : xs.length + ys.length ≤ 100000000) :
    ∃ v' w', (Builtin.append_ #[t, t] ty #[v, .slice A ys.length c]).run Tryz.prog w = .ok v' w' ∧ w'.ownsRow B e k v' (xs ++ ys).length ((xs ++ ys).flatMap f) ∧ w.grownBy w' v.ownBlock := by
  by_cases h0 : ys.length = 0
  · have e : ys = [] := List.length_eq_zero_iff.1 h0
    subst e
    obtain ⟨A0, c0, rfl, hcc, _, _⟩ := own_el f k hk hown
    subst hsize
    exact ⟨_, w, run_append_nothing w t t ty _ i ht hi A0 _ c0 hcc _ (src_noneR w ht A c), by rw [List.append_nil]; exact hown, ⟨rfl, rfl, rfl, Nat.le_refl _, fun _ _ _ => rfl⟩⟩
  · obtain ⟨g, o, rfl, hg, hc⟩ := hA.row (by omega)
    obtain ⟨v', w', hrun, hown', hgrow, _⟩ := run_append_own_wide (P := Tryz.prog) w B t ty e i z k bytes ht hi hz hsize hby hzs hk0 v xs.length _ hown ⟨g, o, none⟩ ys.length c (ys.flatMap f) (flat_len f k hk ys) (flat_get f k hk hk0 hc) (fun u hu => by
      obtain ⟨x, _, hx⟩ := List.mem_flatMap.1 hu
      exact hone x u hx) (by unfold maxLen; omega) (Nat.le_trans (Nat.mul_le_mul_left _ hb) (by omega)) hB
    exact ⟨v', w', hrun, by rw [List.length_append, List.flatMap_append]; exact hown', hgrow⟩
end Rc
theorem infoSt : (Tryz.prog.info? 9).map (fun i => (i.zero, i.size, i.bytes)) = some (some (.string ⟨#[]⟩), 1, 16) := by kernel_rfl
/-- append of numbers. -/
theorem app_in (ty : TypeId) (w : World) (B : Nat) (v : Value) (xs ys : List Int) (hown : w.ownsRow B 3 1 v xs.length (Rc.insV xs)) (A : Option Addr) (c : Nat) (hA : Rc.InAt w w.heap.size A ys) (hB : B ≤ w.heap.size) (hlen : xs.length + ys.length ≤ 100000000) :
    ∃ v' w', (Builtin.append_ #[38, 38] ty #[v, .slice A ys.length c]).run Tryz.prog w = .ok v' w' ∧ w'.ownsRow B 3 1 v' (xs ++ ys).length (Rc.insV (xs ++ ys)) ∧ w.grownBy w' v.ownBlock := by
  obtain ⟨i1, hj0, hx0, hx1, hx2⟩ := info_parts infoIn
  exact Rc.app_el Rc.inV 1 Rc.inV_len (fun x u hu => by rw [List.mem_singleton.1 hu]; rfl) (by omega) Tryz.underlying38 hj0 hx0 hx1 hx2 rfl (by omega) ty w B v xs ys hown A c hA hB hlen
/-- append of texts. -/
theorem app_st (ty : TypeId) (w : World) (B : Nat) (v : Value) (xs ys : List (List UInt8)) (hown : w.ownsRow B 9 1 v xs.length (Rc.stsV xs)) (A : Option Addr) (c : Nat) (hA : Rc.StAt w w.heap.size A ys) (hB : B ≤ w.heap.size) (hlen : xs.length + ys.length ≤ 100000000) :
    ∃ v' w', (Builtin.append_ #[22, 22] ty #[v, .slice A ys.length c]).run Tryz.prog w = .ok v' w' ∧ w'.ownsRow B 9 1 v' (xs ++ ys).length (Rc.stsV (xs ++ ys)) ∧ w.grownBy w' v.ownBlock := by
  obtain ⟨i1, hj0, hx0, hx1, hx2⟩ := info_parts infoSt
  exact Rc.app_el Rc.stV 1 Rc.stV_len (fun x u hu => by rw [List.mem_singleton.1 hu]; rfl) (by omega) Tryz.underlying22 hj0 hx0 hx1 hx2 rfl (by omega) ty w B v xs ys hown A c hA hB hlen
theorem one_in (w : World) (n : Int) : Rc.InAt (w.alloc (.cells #[.int .i64 n] 3)) (w.alloc (.cells #[.int .i64 n] 3)).heap.size (some ⟨w.heap.size, 0, none⟩) [n] := fun j hj => by
  have hj0 : j = 0 := by simp at hj; exact hj
  subst hj0
  refine ⟨w.heap.size, 0, rfl, by simp, fun i u hu => ?_⟩
  match i, hu with
  | 0, hu => obtain rfl := Option.some.inj hu; rw [cell_of_row _ _ _ _ _ _ (heap_alloc_new w _)]; rfl
theorem one_st (w : World) (s : List UInt8) : Rc.StAt (w.alloc (.cells #[.string (str s)] 9)) (w.alloc (.cells #[.string (str s)] 9)).heap.size (some ⟨w.heap.size, 0, none⟩) [s] := fun j hj => by
  have hj0 : j = 0 := by simp at hj; exact hj
  subst hj0
  refine ⟨w.heap.size, 0, rfl, by simp, fun i u hu => ?_⟩
  match i, hu with
  | 0, hu => obtain rfl := Option.some.inj hu; rw [cell_of_row _ _ _ _ _ _ (heap_alloc_new w _)]; rfl
end Go.Proofs.YtjemffgidhgfjaaGreatDoor.Rk
