/- Counts of the reference, on hunks in form. No condition but the lengths. -/
import Derived.Test.YtlfgnecfabdkmaaGreatDoorOwn
import Derived.Test.YtlfgnecfabdkmaaGreatDoorShp
import Derived.BigQuiet
import Derived.Deep.QuietTactic
import Derived.Deep.RegionLaw
namespace Go.Proofs.YtlfgnecfabdkmaaGreatDoor
open Go.RowKit Go.Deep Tr

/-- The three counts as they lie. -/
def cntV (hs : List Pc.Hk) : Array Value := #[.int .i64 0, .int .i64 (Pc.cnt 1 hs), .int .i64 (Pc.cnt 2 hs), .int .i64 (Pc.cnt 3 hs)]
theorem cntV_def (hs : List Pc.Hk) : cntV hs = #[.int .i64 0, .int .i64 (Pc.cnt 1 hs), .int .i64 (Pc.cnt 2 hs), .int .i64 (Pc.cnt 3 hs)] := rfl
set_option maxHeartbeats 8000000 in
set_option maxRecDepth 100000 in
theorem qCounts_any (p : Pc.Pa) (A : Option Addr) (c : Nat) (w : World) (hA : HsAt w w.heap.size A p.hs) (hl : p.hs.length ≤ 1000000) (hH : ∀ h ∈ p.hs, Pc.isHunk h = true) :
    Calls Tryz.prog 42 #[paV p A c] w fun e w' => e = .returned (.tuple #[.int .i64 (Pc.cnt 1 p.hs), .int .i64 (Pc.cnt 2 p.hs), .int .i64 (Pc.cnt 3 p.hs)]) ∧ Below w.heap.size w w' := by
  rw [paV_def]
  obtain ⟨base, hs⟩ := p
  dsimp only at *
  have hb1 : Below w.heap.size w (w.alloc (.cells #[.string (str base), .slice A hs.length c] 24)) := (Below.refl _ _).alloc (Nat.le_refl _) _
  have hb2 : Below w.heap.size w ((w.alloc (.cells #[.string (str base), .slice A hs.length c] 24)).alloc (.cells #[Value.int .i64 0, Value.int .i64 0, Value.int .i64 0, Value.int .i64 0] 91)) := hb1.alloc hb1.size _
  have hN2 := heap_alloc_new (w.alloc (.cells #[.string (str base), .slice A hs.length c] 24)) (.cells #[Value.int .i64 0, Value.int .i64 0, Value.int .i64 0, Value.int .i64 0] 91)
  rw [show (w.alloc (.cells #[.string (str base), .slice A hs.length c] 24)).heap.size = w.heap.size + 1 by simp] at hN2
  have HB2 := Lib.hid hb2
  have hws : w.heap.size + 1 < ((w.alloc (.cells #[.string (str base), .slice A hs.length c] 24)).alloc (.cells #[Value.int .i64 0, Value.int .i64 0, Value.int .i64 0, Value.int .i64 0] 91)).heap.size := by simp
  have HLE := Lib.hid (fun k j => Pc.cnt_le k (hs.take j) fun h hm => by have := (Pc.isHunk_num (hH h (List.mem_of_mem_take hm))).1; omega)
  have HHK := Lib.hid hH
  have HA := Lib.hid hA
  clear hA hb1 hH
  have HN2 := Lib.hid hN2
  have HWS := Lib.hid hws
  clear hN2 hb2 hws
  go_enter Tryz.func42, Tryz.ntmps42
  go_wp2_with fail
  generalize (w.alloc (.cells #[.string (str base), .slice A hs.length c] 24)).alloc (.cells #[Value.int .i64 0, Value.int .i64 0, Value.int .i64 0, Value.int .i64 0] 91) = W at *
  go_loopw [11] (fun i wr => ∃ k : Nat, k ≤ hs.length ∧ i = .int .i64 k ∧ wr.heap[w.heap.size + 1]? = some (.cells (cntV (hs.take k)) 91 (0, 0)) ∧ Below w.heap.size w wr ∧ w.heap.size + 1 < wr.heap.size) (fun i _ => hs.length - (intOf i).toNat)
  case atStart => exact ⟨0, by omega, rfl, HN2.out, HB2.out, HWS.out⟩
  case round =>
    clear HN2 HB2 HWS
    obtain ⟨k, hk, rfl, hnb, hb, hws⟩ := hrel
    have HNB := Lib.hid hnb
    clear hnb
    by_cases hlt : k < hs.length
    · have b1 : decide ((k : Int) < hs.length) = true := by simp; omega
      have b1n : decide (k < hs.length) = true := by simp; omega
      obtain ⟨g, o, Ak, ck, rfl, hg, h0, h1, h2, _⟩ := HA.out k hlt
      have hd0 := (hb.cell (p := ⟨g, o + k * 3, none⟩) hg).trans h0
      have hd1 := (hb.cell (p := ⟨g, o + k * 3 + 1, none⟩) hg).trans h1
      have hd2 := (hb.cell (p := ⟨g, o + k * 3 + 2, none⟩) hg).trans h2
      have H1 := Lib.hid (Pc.cnt_snoc 1 hs k hlt)
      have H2 := Lib.hid (Pc.cnt_snoc 2 hs k hlt)
      have H3 := Lib.hid (Pc.cnt_snoc 3 hs k hlt)
      obtain ⟨⟨n1, n2⟩, hkd, _⟩ := Pc.isHunk_num (HHK.out hs[k] (List.getElem_mem hlt))
      obtain ⟨c1a, c1b⟩ := HLE.out 1 k
      obtain ⟨c2a, c2b⟩ := HLE.out 2 k
      obtain ⟨c3a, c3b⟩ := HLE.out 3 k
      have hlk : (hs.take k).length ≤ k := List.length_take_le _ _
      have q1 : Pc.cnt 1 (hs.take k) ≤ 1024000000000 := by omega
      have q2 : Pc.cnt 2 (hs.take k) ≤ 1024000000000 := by omega
      have q3 : Pc.cnt 3 (hs.take k) ≤ 1024000000000 := by omega
      clear c1b c2b c3b hlk h0 h1 h2
      generalize hs[k] = h at *
      obtain ⟨kd, n, ls⟩ := h
      dsimp only at *
      go_upto_region 5 with (fail)
      have hbw : Below wr.heap.size wr (wr.alloc (.cells #[.int .i64 kd, .int .i64 n, .slice Ak ls.length ck] 54)) := (Below.refl _ _).alloc (Nat.le_refl _) _
      have hnew := heap_alloc_new wr (.cells #[.int .i64 kd, .int .i64 n, .slice Ak ls.length ck] 54)
      have e0 : (wr.alloc (.cells #[.int .i64 kd, .int .i64 n, .slice Ak ls.length ck] 54)).cell? ⟨wr.heap.size, 0, none⟩ = some (.int .i64 kd) := by rw [cell_of_row _ _ _ _ _ _ hnew]; rfl
      have e1 : (wr.alloc (.cells #[.int .i64 kd, .int .i64 n, .slice Ak ls.length ck] 54)).cell? ⟨wr.heap.size, 1, none⟩ = some (.int .i64 n) := by rw [cell_of_row _ _ _ _ _ _ hnew]; rfl
      have hb3 := hb.trans (hbw.mono hb.size)
      have hnb3 := (hbw.block _ hws).trans HNB.out
      have hws3 : w.heap.size + 1 < (wr.alloc (.cells #[.int .i64 kd, .int .i64 n, .slice Ak ls.length ck] 54)).heap.size := by simp; omega
      have hqn : wr.heap.size ≠ w.heap.size + 1 := by omega
      clear hnew hbw hd0 hd1 hd2 hb HNB hg
      generalize wr.alloc (.cells #[.int .i64 kd, .int .i64 n, .slice Ak ls.length ck] 54) = w3 at *
      generalize hQ : wr.heap.size = Q at *
      have f0 := frozen_of_row w3 (w.heap.size + 1) 1 _ _ hnb3
      have f1 := frozen_of_row w3 (w.heap.size + 1) 2 _ _ hnb3
      have f2 := frozen_of_row w3 (w.heap.size + 1) 3 _ _ hnb3
      have m1 : w3.cell? ⟨w.heap.size + 1, 1, none⟩ = some (.int .i64 (Pc.cnt 1 (hs.take k))) := by rw [cell_of_row _ _ _ _ _ _ hnb3]; rfl
      have m2 : w3.cell? ⟨w.heap.size + 1, 2, none⟩ = some (.int .i64 (Pc.cnt 2 (hs.take k))) := by rw [cell_of_row _ _ _ _ _ _ hnb3]; rfl
      have m3 : w3.cell? ⟨w.heap.size + 1, 3, none⟩ = some (.int .i64 (Pc.cnt 3 (hs.take k))) := by rw [cell_of_row _ _ _ _ _ _ hnb3]; rfl
      have HNB := Lib.hid hnb3
      have HBB := Lib.hid hb3
      have HS := Lib.hid hws3
      clear hnb3 hb3 hws3 hws hQ hqn
      have d1 : decide ((1 : Int) ≤ n) = true := decide_eq_true n1
      have d2 : decide (n ≤ 1024) = true := decide_eq_true n2
      rcases hkd with rfl | rfl | rfl
      · go_upto_region 6 with (fail)
        go_region
        go_wp2_with fail
        go_roundw
        case rel =>
          refine ⟨k + 1, by omega, by go_num, ?_, (Below.setCell (p := ⟨w.heap.size + 1, _, none⟩) HBB.out (Nat.le_succ _) _).drew, by have := HS.out; simp; omega⟩
          rw [show cntV (hs.take (k + 1)) = #[.int .i64 0, .int .i64 (Pc.cnt 1 (hs.take k) + n), .int .i64 (Pc.cnt 2 (hs.take k)), .int .i64 (Pc.cnt 3 (hs.take k))] by unfold cntV; rw [H1.out, H2.out, H3.out]; simp]
          exact heap_setCell_same w3 (w.heap.size + 1) 1 _ _ _ HNB.out
        case measure => simp [intOf]; omega
      · go_upto_region 6 with (fail)
        go_region
        go_wp2_with fail
        go_roundw
        case rel =>
          refine ⟨k + 1, by omega, by go_num, ?_, (Below.setCell (p := ⟨w.heap.size + 1, _, none⟩) HBB.out (Nat.le_succ _) _).drew, by have := HS.out; simp; omega⟩
          rw [show cntV (hs.take (k + 1)) = #[.int .i64 0, .int .i64 (Pc.cnt 1 (hs.take k)), .int .i64 (Pc.cnt 2 (hs.take k) + n), .int .i64 (Pc.cnt 3 (hs.take k))] by unfold cntV; rw [H1.out, H2.out, H3.out]; simp]
          exact heap_setCell_same w3 (w.heap.size + 1) 2 _ _ _ HNB.out
        case measure => simp [intOf]; omega
      · go_upto_region 6 with (fail)
        go_region
        go_wp2_with fail
        go_roundw
        case rel =>
          refine ⟨k + 1, by omega, by go_num, ?_, (Below.setCell (p := ⟨w.heap.size + 1, _, none⟩) HBB.out (Nat.le_succ _) _).drew, by have := HS.out; simp; omega⟩
          rw [show cntV (hs.take (k + 1)) = #[.int .i64 0, .int .i64 (Pc.cnt 1 (hs.take k)), .int .i64 (Pc.cnt 2 (hs.take k)), .int .i64 (Pc.cnt 3 (hs.take k) + n)] by unfold cntV; rw [H1.out, H2.out, H3.out]; simp]
          exact heap_setCell_same w3 (w.heap.size + 1) 3 _ _ _ HNB.out
        case measure => simp [intOf]; omega
    · have b1 : decide ((k : Int) < hs.length) = false := by simp; omega
      have b1n : decide (k < hs.length) = false := by simp; omega
      have hnb := HNB.out
      rw [List.take_of_length_le (show hs.length ≤ k by omega)] at hnb
      have m1 : wr.cell? ⟨w.heap.size + 1, 1, none⟩ = some (.int .i64 (Pc.cnt 1 hs)) := by rw [cell_of_row _ _ _ _ _ _ hnb]; rfl
      have m2 : wr.cell? ⟨w.heap.size + 1, 2, none⟩ = some (.int .i64 (Pc.cnt 2 hs)) := by rw [cell_of_row _ _ _ _ _ _ hnb]; rfl
      have m3 : wr.cell? ⟨w.heap.size + 1, 3, none⟩ = some (.int .i64 (Pc.cnt 3 hs)) := by rw [cell_of_row _ _ _ _ _ _ hnb]; rfl
      clear hnb HNB
      go_wp2_with fail
      go_quiet (fail)
      go_wp2_with fail
      go_ret3
      exact ⟨rfl, below_drewN hb nq⟩
end Go.Proofs.YtlfgnecfabdkmaaGreatDoor
