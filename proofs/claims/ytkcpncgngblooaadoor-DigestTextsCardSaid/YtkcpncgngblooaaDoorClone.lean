/- Clone of a sponge, and a sponge in terms of the bytes that it has taken in. Condition: the round constants lie in their variable. -/
import Derived.Test.YtkcpncgngblooaaDoorAwake
namespace Go.Proofs.YtkcpncgngblooaaDoor
open Go.RowKit

/-- The cells of a sponge. -/
def spArr (S : Kec.St) (n : Nat) : Array Value := ((List.range 26).map fun i => if i < 25 then Value.int .u64 (U (S i)) else .int .i64 n).toArray
theorem spArr_get (S : Kec.St) (n i : Nat) (hi : i < 26) : (spArr S n)[i]? = some (if i < 25 then Value.int .u64 (U (S i)) else .int .i64 n) := by unfold spArr; simp [hi]
theorem spArr_size (S : Kec.St) (n : Nat) : (spArr S n).size = 26 := by unfold spArr; simp
theorem spArr_one (S : Kec.St) (n : Nat) : (spArr S n).all (·.oneCell') = true := by
  rw [Array.all_eq_true_iff_forall_mem]
  intro v hv
  unfold spArr at hv
  simp only [List.mem_toArray, List.mem_map] at hv
  obtain ⟨i, _, rfl⟩ := hv
  split <;> rfl
theorem IsSp.row {w : World} {b n : Nat} {S : Kec.St} (h : IsSp w b S n) : w.heap[b]? = some (.cells (spArr S n) 44 (0, 0)) := by
  obtain ⟨c, hb, hs, hc⟩ := h
  rw [hb]
  have : c = spArr S n := by
    apply Array.ext_getElem?
    intro i
    by_cases hi : i < 26
    · rw [hc i hi, spArr_get S n i hi]
    · rw [Array.getElem?_eq_none (by omega), Array.getElem?_eq_none (by rw [spArr_size]; omega)]
  rw [this]
theorem IsSp.of_row {w : World} {b n : Nat} {S : Kec.St} (h : w.heap[b]? = some (.cells (spArr S n) 44 (0, 0))) : IsSp w b S n :=
  ⟨spArr S n, h, spArr_size S n, fun i hi => spArr_get S n i hi⟩
theorem info44 : (Tryd.prog.info? 44).map (·.size) = some 26 := by kernel_rfl

set_option maxHeartbeats 2000000 in
set_option maxRecDepth 100000 in
theorem clone_any (S : Kec.St) (n b : Nat) (w : World) (hS : IsSp w b S n) :
    Calls Tryd.prog 18 #[.pointer (some ⟨b, 0, none⟩)] w fun e w' => e = .returned (.pointer (some ⟨w.heap.size, 0, none⟩)) ∧ IsSp w' w.heap.size S n ∧ Below w.heap.size w w' := by
  go_enter Tryd.func18, Tryd.ntmps18
  go_wp2_with (first | (refine wpList_load_row rfl 44 _ rfl b rfl 44 _ (0, 0) _ hS.row Tryd.underlying44 rfl (by rw [spArr_size]; exact info44) ?_) | (refine wpList_store_row rfl 44 _ _ rfl w.heap.size (spArr S n) rfl rfl 44 #[.int .u64 0, .int .u64 0, .int .u64 0, .int .u64 0, .int .u64 0, .int .u64 0, .int .u64 0, .int .u64 0, .int .u64 0, .int .u64 0, .int .u64 0, .int .u64 0, .int .u64 0, .int .u64 0, .int .u64 0, .int .u64 0, .int .u64 0, .int .u64 0, .int .u64 0, .int .u64 0, .int .u64 0, .int .u64 0, .int .u64 0, .int .u64 0, .int .u64 0, .int .i64 0] (heap_alloc_new w _) (by rw [spArr_size]; exact info44) (by rw [spArr_size]; rfl) (spArr_one _ _) ?_))
  go_ret
  refine ⟨rfl, .of_row (setRow_heap _ _ _ _ _ _ (heap_alloc_new w _)), ((Below.refl _ _).alloc (Nat.le_refl _) _).trans ⟨rfl, rfl, rfl, by simp, fun k hk => setRow_other _ _ _ _ (by omega)⟩⟩

/-- Block b holds a sponge that has taken in these bytes. -/
def Holds (w : World) (b : Nat) (l : List UInt8) : Prop := IsSp w b (Spo.ab (Z, 0) l).1 l.length
/-- The digest of bytes, as a string. -/
def digL (l : List UInt8) : ByteArray := ⟨(Spo.dig l).toArray⟩
theorem ab_snd (l : List UInt8) : (Spo.ab (Z, 0) l).2 = l.length % 136 := by
  rw [Spo.ab_at l (Z, 0) (by show 0 < 136; decide)]; simp
theorem sp_dig (l : List UInt8) : Spo.sq (Spo.fin ((Spo.ab (Z, 0) l).1, l.length % 136)) = Spo.dig l := by
  rw [← ab_snd]; rfl
theorem holds_sum (l : List UInt8) (b : Nat) (w : World) (hC : Consts w) (h : Holds w b l) (hl : l.length ≤ 4611686018427387904) :
    Calls Tryd.prog 17 #[.pointer (some ⟨b, 0, none⟩)] w fun e w' => e = .returned (.string (digL l)) ∧ Below w.heap.size w w' :=
  (spSum_any _ _ _ w hC h hl).mono fun _ _ k => ⟨by rw [k.1, sp_dig]; rfl, k.2⟩
theorem holds_new (w : World) : Calls Tryd.prog 15 #[] w fun e w' => e = .returned (.pointer (some ⟨w.heap.size, 0, none⟩)) ∧ Holds w' w.heap.size [] ∧ Below w.heap.size w w' := new_any w
theorem holds_clone (l : List UInt8) (b : Nat) (w : World) (h : Holds w b l) :
    Calls Tryd.prog 18 #[.pointer (some ⟨b, 0, none⟩)] w fun e w' => e = .returned (.pointer (some ⟨w.heap.size, 0, none⟩)) ∧ Holds w' w.heap.size l ∧ Below w.heap.size w w' := clone_any _ _ b w h
theorem holds_write (l : List UInt8) (b : Nat) (A : Option Addr) (c : Nat) (ss : List ByteArray) (w : World) (hC : Consts w) (hb : 0 < b) (h : Holds w b l) (hA : StrsAt w b A ss) (hl : ss.length ≤ 4611686018427387904) (hn : l.length + (cat ss).length ≤ 4611686018427387904) :
    Calls Tryd.prog 16 #[.pointer (some ⟨b, 0, none⟩), .slice A ss.length c] w fun e w' => e = .returned (.int .i64 ((l.length + (cat ss).length : Nat) : Int)) ∧ Holds w' b (l ++ cat ss) ∧ w.grownBy w' (some b) :=
  (write_any _ _ b A c ss w hC hb h hA hl hn).mono fun _ _ k => ⟨k.1, by
    have h1 := k.2.s
    rw [← ab_snd, show ((Spo.ab (Z, 0) l).1, (Spo.ab (Z, 0) l).2) = Spo.ab (Z, 0) l from rfl, ← Spo.ab_append] at h1
    unfold Holds
    rw [List.length_append]
    exact h1, k.2.g⟩
theorem Holds.below {w w' : World} {b : Nat} {l : List UInt8} (h : Holds w b l) (hb : Below w.heap.size w w') : Holds w' b l := World.rowIs.of_block h (hb.block _ (World.rowIs.lt h))
theorem Holds.far {w w' : World} {b c : Nat} {l : List UInt8} (h : Holds w b l) (hg : w.grownBy w' (some c)) (hne : b ≠ c) : Holds w' b l := World.rowIs.of_block h (hg.block b (World.rowIs.lt h) (by simp; exact hne))
theorem strs_new (w : World) (b : Nat) (ss : List ByteArray) (hb : b < w.heap.size) : StrsAt (w.alloc (.cells (ss.map Value.string).toArray 9)) b (some ⟨w.heap.size, 0, none⟩) ss := by
  intro i hi
  refine ⟨w.heap.size, 0, rfl, by omega, by simp, ?_⟩
  rw [cell_of_row _ _ _ _ _ _ (heap_alloc_new w _)]
  simp [hi]
theorem digS_L (s : ByteArray) (l : List UInt8) (h : s.data.toList = l) : digS s = digL l := by subst h; rfl
theorem app_list (a b : ByteArray) : (a ++ b).data.toList = a.data.toList ++ b.data.toList := by simp
theorem size_list (a : ByteArray) : a.data.toList.length = a.size := rfl

end Go.Proofs.YtkcpncgngblooaaDoor
