/- What Then, Invert and Make return is in bounds; plain. No condition.
Same of the reference on two readings of one patch: true. No condition but the lengths. -/
import Derived.Test.YtmmdldicafbjdaaGreatDoorPm3
import Derived.Test.YtmmdldicafbjdaaGreatDoorPm1
import Derived.Deep.QuietTactic
section
namespace Go.Proofs.YtmmdldicafbjdaaGreatDoor
open Tr

def Fine (p : Pc.Pa) : Prop := p.hs.length ≤ 1000000000 ∧ ∀ h ∈ p.hs, h.ls.length ≤ 1000000000
theorem fine_nil : Fine ⟨[], []⟩ := ⟨by simp, by simp⟩
theorem fine_keeping (base : List UInt8) (a b : List (List UInt8)) (K : List (Nat × Nat)) : Fine (Pc.keeping base a b K).1 := by
  rw [keeping_def]
  by_cases h : Pc.valid ⟨base, Pc.keepHs [] a b 0 0 K⟩ = true
  · rw [if_pos h]
    obtain ⟨v1, v2, _⟩ := valid_all h
    refine ⟨by have := v1; dsimp only at *; omega, fun x hx => ?_⟩
    have := Pc.isHunk_num (v2 x hx)
    omega
  · rw [if_neg h]; exact fine_nil
theorem fine_then (p q : Pc.Pa) (d : List UInt8) : Fine (Pc.thenP p q d).1 := by
  rw [then_def]
  split
  · exact fine_nil
  · split
    · exact fine_nil
    · exact fine_keeping _ _ _ _
theorem fine_invert (p : Pc.Pa) (d : List UInt8) : Fine (Pc.invert p d).1 := by
  rw [invert_def]
  split
  · exact fine_nil
  · exact fine_keeping _ _ _ _
theorem fine_make (f t : List UInt8) : Fine (Pc.make f t).1 := by
  rw [make_def]
  split
  · exact fine_nil
  · split
    · exact fine_nil
    · exact fine_keeping _ _ _ _
end Go.Proofs.YtmmdldicafbjdaaGreatDoor
end
section
namespace Go.Proofs.YtmmdldicafbjdaaGreatDoor
open Go.RowKit Go.Deep Tr

set_option maxHeartbeats 2000000 in
set_option maxRecDepth 100000 in
theorem sameS_q (A A' : Option Addr) (c c' : Nat) (xs : List (List UInt8)) (w : World) (hA : CellsAt w w.heap.size A (strs xs)) (hA' : CellsAt w w.heap.size A' (strs xs)) (hl : xs.length ≤ 1000000000) :
    Calls Tryz.prog 37 #[.slice A xs.length c, .slice A' xs.length c'] w fun x w' => x = .returned (.bool true) ∧ ∃ m, w' = w.drewN m := by
  go_enter Tryz.func37, Tryz.ntmps37
  go_wp2_with fail
  go_loopw [13] (fun v wr => ∃ k m : Nat, k ≤ xs.length ∧ v = .int .i64 k ∧ wr = w.drewN m) (fun v _ => xs.length - (intOf v).toNat)
  case atStart => exact ⟨0, 0, by omega, rfl, rfl⟩
  case round =>
    obtain ⟨k, m, hk, rfl, hw⟩ := hrel
    have hb : Below w.heap.size w wr := by rw [hw]; exact below_drewN (Below.refl _ _) m
    have HWD := Lib.hid hw
    clear hw
    by_cases hlt : k < xs.length
    · obtain ⟨g, o, rfl, hg, hc0⟩ := hA k (by rw [strs_len]; exact hlt)
      obtain ⟨g', o', rfl, hg', hc0'⟩ := hA' k (by rw [strs_len]; exact hlt)
      rw [strs_get _ k hlt] at hc0 hc0'
      have hc := (hb.cell (p := ⟨g, o + k, none⟩) hg).trans hc0
      have hc' := (hb.cell (p := ⟨g', o' + k, none⟩) hg').trans hc0'
      clear hc0 hc0'
      have hki : (k : Int) < (xs.length : Int) := by omega
      go_upto_region 6 with (fail)
      generalize xs[k] = y at *
      go_quiet (fail)
      have hw2 : wr.drewN nq = w.drewN (m + nq) := by rw [HWD.out, World.drewN_drewN]
      generalize wr.drewN nq = w2 at *
      clear hc hc' hb
      go_wp2_with fail
      go_roundw
      case rel => exact ⟨k + 1, m + nq, by omega, by go_num, by first | exact hw2 | rfl⟩
      case measure => simp [intOf]; omega
    · have b9 : decide ((k : Int) < (xs.length : Int)) = false := by simp; omega
      have b9n : decide (k < xs.length) = false := by simp; omega
      go_wp2_with fail
      go_ret
      exact ⟨rfl, m, HWD.out⟩
set_option maxHeartbeats 4000000 in
set_option maxRecDepth 100000 in
theorem qSame_true (p : Pc.Pa) (A A' : Option Addr) (c c' : Nat) (w : World) (hA : HsAt w w.heap.size A p.hs) (hA' : HsAt w w.heap.size A' p.hs) (hl : p.hs.length ≤ 1000000000) (hL : ∀ h ∈ p.hs, h.ls.length ≤ 1000000000) :
    Calls Tryz.prog 12 #[paV p A c, paV p A' c'] w fun x w' => x = .returned (.bool true) ∧ Below w.heap.size w w' := by
  rw [paV_def, paV_def]
  obtain ⟨base, hs⟩ := p
  dsimp only at *
  have hb1 : Below w.heap.size w (w.alloc (.cells #[.string (str base), .slice A hs.length c] 24)) := (Below.refl _ _).alloc (Nat.le_refl _) _
  have hN1 := heap_alloc_new w (.cells #[.string (str base), .slice A hs.length c] 24)
  have hb2 : Below w.heap.size w ((w.alloc (.cells #[.string (str base), .slice A hs.length c] 24)).alloc (.cells #[.string (str base), .slice A' hs.length c'] 24)) := hb1.alloc hb1.size _
  have hN2 := heap_alloc_new (w.alloc (.cells #[.string (str base), .slice A hs.length c] 24)) (.cells #[.string (str base), .slice A' hs.length c'] 24)
  rw [show (w.alloc (.cells #[.string (str base), .slice A hs.length c] 24)).heap.size = w.heap.size + 1 by simp] at hN2
  have hN3 : ((w.alloc (.cells #[.string (str base), .slice A hs.length c] 24)).alloc (.cells #[.string (str base), .slice A' hs.length c'] 24)).heap[w.heap.size]? = _ := (blk_alloc_lt _ _ _ (blk_lt hN1)).trans hN1
  have hA2 := hA.next hb2
  have hA2' := hA'.next hb2
  have n1 : ((str base).toList == (str base).toList) = true := by simp
  have n2 : ((str base).toList != (str base).toList) = false := by simp
  have HB2 := Lib.hid hb2
  have HLL := Lib.hid hL
  clear hA hA' hb1 hN1 hb2 hL
  generalize str base = bs at *
  go_enter Tryz.func12, Tryz.ntmps12
  go_wp2_with fail
  generalize (w.alloc (.cells #[.string bs, .slice A hs.length c] 24)).alloc (.cells #[.string bs, .slice A' hs.length c'] 24) = W at *
  go_loopw [24] (fun v wr => ∃ k : Nat, k ≤ hs.length ∧ v = .int .i64 k ∧ Below W.heap.size W wr) (fun v _ => hs.length - (intOf v).toNat)
  case atStart => exact ⟨0, by omega, rfl, Below.refl _ _⟩
  case round =>
    obtain ⟨k, hk, rfl, hb⟩ := hrel
    by_cases hlt : k < hs.length
    · have hki : (k : Int) < (hs.length : Int) := by omega
      obtain ⟨g, o, Ak, ck, rfl, hg, h0, h1, h2, hck, _, _⟩ := hA2 k hlt
      obtain ⟨g', o', Ak', ck', rfl, hg', h0', h1', h2', hck', _, _⟩ := hA2' k hlt
      have hd0 := (hb.cell (p := ⟨g, o + k * 3, none⟩) hg).trans h0
      have hd1 := (hb.cell (p := ⟨g, o + k * 3 + 1, none⟩) hg).trans h1
      have hd2 := (hb.cell (p := ⟨g, o + k * 3 + 2, none⟩) hg).trans h2
      have hlL := HLL.out hs[k] (List.getElem_mem hlt)
      go_upto_region 6 with (fail)
      generalize hs[k] = h at *
      obtain ⟨kd, n, ls⟩ := h
      dsimp only at *
      have hbW := hb.alloc hb.size (.cells #[.int .i64 kd, .int .i64 n, .slice Ak ls.length ck] 47)
      have e := heap_alloc_new wr (.cells #[.int .i64 kd, .int .i64 n, .slice Ak ls.length ck] 47)
      generalize wr.alloc (.cells #[.int .i64 kd, .int .i64 n, .slice Ak ls.length ck] 47) = W2 at *
      generalize wr.heap.size = q at *
      have e0 : W2.cell? ⟨q, 0, none⟩ = some (.int .i64 kd) := by rw [cell_of_row _ _ _ _ _ _ e]; rfl
      have e1 : W2.cell? ⟨q, 1, none⟩ = some (.int .i64 n) := by rw [cell_of_row _ _ _ _ _ _ e]; rfl
      have e2 : W2.cell? ⟨q, 2, none⟩ = some (.slice Ak ls.length ck) := by rw [cell_of_row _ _ _ _ _ _ e]; rfl
      have f0 := (hbW.cell (p := ⟨g', o' + k * 3, none⟩) hg').trans h0'
      have f1 := (hbW.cell (p := ⟨g', o' + k * 3 + 1, none⟩) hg').trans h1'
      have f2 := (hbW.cell (p := ⟨g', o' + k * 3 + 2, none⟩) hg').trans h2'
      have hN4 := (hbW.block _ (blk_lt hN2)).trans hN2
      have b1 : W2.cell? ⟨w.heap.size + 1, 1, none⟩ = some (.slice (some ⟨g', o', none⟩) hs.length c') := by rw [cell_of_row _ _ _ _ _ _ hN4]; rfl
      have hq := fun j => sameS_q Ak Ak' ck ck' ls (W2.drewN j) (hck.next (below_drewN hbW j)) (hck'.next (below_drewN hbW j)) hlL
      clear h0 h1 h2 h0' h1' h2' hd0 hd1 hd2 hck hck' e hN4
      go_quiet ((go_at_call 37; exact Calls.quiet_of (hq _)))
      have hb2 := below_drewN hbW nq
      generalize W2.drewN nq = w3 at *
      clear e0 e1 e2 f0 f1 f2 b1 hq hbW
      go_wp2_with fail
      go_roundw
      case rel => exact ⟨k + 1, by omega, by go_num, hb2⟩
      case measure => simp [intOf]; omega
    · have b9 : decide ((k : Int) < (hs.length : Int)) = false := by simp; omega
      have b9n : decide (k < hs.length) = false := by simp; omega
      have hbb := HB2.out.trans (hb.mono HB2.out.size)
      go_wp2_with fail
      go_ret
      exact ⟨rfl, hbb⟩
end Go.Proofs.YtmmdldicafbjdaaGreatDoor
end
