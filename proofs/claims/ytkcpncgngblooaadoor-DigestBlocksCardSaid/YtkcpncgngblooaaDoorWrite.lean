/- New and Write of a sponge. Condition: the round constants lie in their variable. -/
import Derived.Test.YtkcpncgngblooaaDoorPar
namespace Go.Proofs.YtkcpncgngblooaaDoor
open Go.RowKit

set_option maxHeartbeats 1000000 in
set_option maxRecDepth 100000 in
theorem new_any (w : World) :
    Calls Tryd.prog 15 #[] w fun e w' => e = .returned (.pointer (some ⟨w.heap.size, 0, none⟩)) ∧ IsSp w' w.heap.size Z 0 ∧ Below w.heap.size w w' := by
  have h := IsSp.new w
  go_enter Tryd.func15, Tryd.ntmps15
  go_wp2_with fail
  go_ret
  exact ⟨rfl, h, (Below.refl _ _).alloc (Nat.le_refl _) _⟩

/-- The bytes of strings, one behind the other. -/
def cat (ss : List ByteArray) : List UInt8 := ss.flatMap (·.data.toList)
/-- The slice value's cells are these strings, apart from block b. -/
def StrsAt (w : World) (b : Nat) (A : Option Addr) (ss : List ByteArray) : Prop := ∀ i (h : i < ss.length), ∃ g o, A = some ⟨g, o, none⟩ ∧ g ≠ b ∧ g < w.heap.size ∧ w.cell? ⟨g, o + i, none⟩ = some (.string ss[i])
theorem StrsAt.grown {w w' : World} {b : Nat} {A : Option Addr} {ss : List ByteArray} (h : StrsAt w b A ss) (hg : w.grownBy w' (some b)) : StrsAt w' b A ss := fun i hi => by
  obtain ⟨g, o, e, hne, hlt, hc⟩ := h i hi
  exact ⟨g, o, e, hne, Nat.lt_of_lt_of_le hlt hg.size, (World.cell?_of_block (w := w) (hg.block g hlt (by simp; exact hne))).trans hc⟩
theorem SpAt.go {w w' w'' : World} {b n m : Nat} {S T : Kec.St} (h : SpAt w w' b S n) (k : SpAt w' w'' b T m) : SpAt w w'' b T m :=
  ⟨k.s, ⟨k.g.os.trans h.g.os, k.g.tape.trans h.g.tape, k.g.output.trans h.g.output, Nat.le_trans h.g.size k.g.size, fun i hi hne => (k.g.block i (Nat.lt_of_lt_of_le hi h.g.size) hne).trans (h.g.block i hi hne)⟩⟩
theorem cat_snoc (ss : List ByteArray) (k : Nat) (h : k < ss.length) : cat (ss.take (k + 1)) = cat (ss.take k) ++ ss[k].data.toList := by
  rw [List.take_succ_eq_append_getElem h]; unfold cat; rw [List.flatMap_append]; simp
theorem cat_le (ss : List ByteArray) (k : Nat) : (cat (ss.take k)).length ≤ (cat ss).length := by
  have h : ss = ss.take k ++ ss.drop k := (List.take_append_drop k ss).symm
  have e : cat ss = cat (ss.take k) ++ cat (ss.drop k) := by
    conv => lhs; rw [h]
    unfold cat; rw [List.flatMap_append]
  rw [e, List.length_append]; omega

set_option maxHeartbeats 2000000 in
set_option maxRecDepth 100000 in
theorem write_any (S : Kec.St) (n b : Nat) (A : Option Addr) (c : Nat) (ss : List ByteArray) (w : World) (hC : Consts w) (hb : 0 < b) (hS : IsSp w b S n) (hA : StrsAt w b A ss) (hl : ss.length ≤ 4611686018427387904) (hn : n + (cat ss).length ≤ 4611686018427387904) :
    Calls Tryd.prog 16 #[.pointer (some ⟨b, 0, none⟩), .slice A ss.length c] w fun e w' => e = .returned (.int .i64 ((n + (cat ss).length : Nat) : Int)) ∧ SpAt w w' b (Spo.ab (S, n % 136) (cat ss)).1 (n + (cat ss).length) := by
  have H : SpAt w w b S n := ⟨hS, ⟨rfl, rfl, rfl, Nat.le_refl _, fun _ _ _ => rfl⟩⟩
  clear hS
  go_enter Tryd.func16, Tryd.ntmps16
  go_wp2_with fail
  go_loopw [9] (fun v wr => ∃ k : Nat, k ≤ ss.length ∧ v = .int .i64 k ∧ SpAt w wr b (Spo.ab (S, n % 136) (cat (ss.take k))).1 (n + (cat (ss.take k)).length)) (fun v _ => ss.length - (intOf v).toNat)
  case atStart => exact ⟨0, by omega, rfl, H⟩
  case round =>
    clear H
    obtain ⟨k, hk, rfl, H⟩ := hrel
    by_cases hlt : k < ss.length
    · have hA' := hA.grown H.g
      obtain ⟨g, o, rfl, hne, hg, hc⟩ := hA' k hlt
      clear hA'
      have hlek := cat_le ss (k + 1)
      rw [cat_snoc ss k hlt, List.length_append] at hlek
      have hsz : ss[k].data.toList.length = ss[k].size := rfl
      have hat := Spo.ab_at (cat (ss.take k)) (S, n % 136) (Nat.mod_lt _ (by decide))
      have hCr := hC.grown hb H.g
      have htk := take_any (Spo.ab (S, n % 136) (cat (ss.take k))).1 (n + (cat (ss.take k)).length) b ss[k] wr hCr hb H.s (by omega)
      rw [show (n + (cat (ss.take k)).length) % 136 = (Spo.ab (S, n % 136) (cat (ss.take k))).2 from by rw [hat]; simp] at htk
      rw [show ((Spo.ab (S, n % 136) (cat (ss.take k))).1, (Spo.ab (S, n % 136) (cat (ss.take k))).2) = Spo.ab (S, n % 136) (cat (ss.take k)) from rfl, ← Spo.ab_append, ← cat_snoc ss k hlt] at htk
      rw [show n + (cat (ss.take k)).length + ss[k].size = n + (cat (ss.take (k + 1))).length from by rw [cat_snoc ss k hlt, List.length_append]; omega] at htk
      have HTK := Lib.hid htk
      clear htk hat hsz hlek hCr
      go_wp2_with fail
      refine HTK.out.mono ?_
      rintro e w2 ⟨rfl, hsp⟩
      go_wp2_with fail
      clear hc HTK
      have H2 := H.go hsp
      go_roundw
      case rel => exact ⟨k + 1, by omega, by go_num, H2⟩
      case measure => simp [intOf]; omega
    · have hkk : k = ss.length := by omega
      rw [hkk, List.take_length] at H
      have HK := Lib.hid hkk
      clear hkk
      have c25 := H.s.count
      go_wp2_with fail
      go_ret
      exact ⟨rfl, H⟩
end Go.Proofs.YtkcpncgngblooaaDoor
