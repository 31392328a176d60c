/- Chain's closure: does an edge lead on? No condition but the lengths. -/
import Derived.Test.YtdiaejdoglccoaaBeh
import Derived.Deep.RegionHeld3
namespace Go.Proofs.Ytdiaejdoglccoaa
open Go.RowKit Go.Deep Tr

namespace Gr
/-- The edge leads from a node to one that is closer to the end. -/
def nx (L : Nat → Int) (n : Nat) (x : Ed) : Bool := (x.src == (n : Int)) && (L x.dst.toNat == L n - 1)
end Gr
set_option maxHeartbeats 4000000 in
set_option maxRecDepth 100000 in
theorem nxt_any (x : Ed) (n nb lb gl N : Nat) (L : Nat → Int) (w : World) (hn : n < N) (hd : 0 ≤ x.dst ∧ x.dst < (N : Int)) (hL : LbAt w lb gl N L) (hb : -1 ≤ L n ∧ L n ≤ 100000) (hnb : w.heap[nb]? = some (.cells #[.int .i64 n] 3 (0, 0))) :
    Calls Try.prog 41 #[edA x, .pointer (some ⟨nb, 0, none⟩), .pointer (some ⟨lb, 0, none⟩)] w fun e w' => e = .returned (.bool (Gr.nx L n x)) ∧ Below w.heap.size w w' := by
  obtain ⟨xs, xd, xp⟩ := x
  dsimp only at hd
  obtain ⟨b, rfl⟩ : ∃ b : Nat, xd = (b : Int) := ⟨xd.toNat, by omega⟩
  have hb0 : Below w.heap.size w (w.alloc (edO ⟨xs, b, xp⟩)).drew := ((Below.refl _ _).alloc (Nat.le_refl _) _).drew
  have hba : Below w.heap.size w (w.alloc (edO ⟨xs, b, xp⟩)) := (Below.refl _ _).alloc (Nat.le_refl _) _
  have hL2 := hL.next hba
  have hn2 := (hba.block _ (blk_lt hnb)).trans hnb
  have hxn := heap_alloc_new w (edO ⟨xs, b, xp⟩)
  have HV := Lib.hid (show Gr.nx L n ⟨xs, b, xp⟩ = ((xs == (n : Int)) && (L (b : Int).toNat == L n - 1)) from rfl)
  generalize Gr.nx L n ⟨xs, b, xp⟩ = V at *
  rw [edA_def]
  dsimp only
  have HBN := Lib.hid (show b < N by omega)
  have e0 : (w.alloc (edO ⟨xs, b, xp⟩)).cell? ⟨w.heap.size, 0, none⟩ = some (.int .i64 xs) := by rw [cell_of_row _ _ _ _ _ _ hxn]; rfl
  have e1 : (w.alloc (edO ⟨xs, b, xp⟩)).cell? ⟨w.heap.size, 1, none⟩ = some (.int .i64 b) := by rw [cell_of_row _ _ _ _ _ _ hxn]; rfl
  have f0 : (w.alloc (edO ⟨xs, b, xp⟩)).cell? ⟨nb, 0, none⟩ = some (.int .i64 n) := by rw [cell_of_row _ _ _ _ _ _ hn2]; rfl
  have f1 : (w.alloc (edO ⟨xs, b, xp⟩)).cell? ⟨lb, 0, none⟩ = some (.slice (some ⟨gl, 0, none⟩) N N) := by rw [cell_of_row _ _ _ _ _ _ hL2.lv]; rfl
  have f2 : (w.alloc (edO ⟨xs, b, xp⟩)).cell? ⟨gl, b, none⟩ = some (.int .i64 (L b)) := hL2.row.cell HBN.out
  have f3 : (w.alloc (edO ⟨xs, b, xp⟩)).cell? ⟨gl, n, none⟩ = some (.int .i64 (L n)) := hL2.row.cell hn
  rw [Int.toNat_natCast] at HV
  have y1 : (n : Int) < (N : Int) := by omega
  have y2 : (b : Int) < (N : Int) := by have := HBN.out; omega
  have hwr : IntKind.i64.wrap (L n - 1) = L n - 1 := IntWalk.i64_in _ (by omega)
  clear hL hL2 hnb hn2 hxn hba hd
  generalize L b = lv at *
  generalize L n = ln at *
  have HB := Lib.hid hb0
  clear hb0 hb
  by_cases hs : xs = (n : Int)
  · have s1 : (xs == (n : Int)) = true := by rw [hs]; simp
    generalize hq : (lv == ln - 1) = q at *
    have HT := Lib.hid (show V = q by rw [HV.out, s1]; rfl)
    clear HV hs
    go_enter Try.func41, Try.ntmps41
    go_upto_region 1 with (fail)
    go_region
    all_goals
      go_wp2_with fail
      go_ret
      exact ⟨by rw [HT.out]; first | rfl | rw [hq], HB.out⟩
  · have s1 : (xs == (n : Int)) = false := by rw [beq_eq_false_iff_ne]; exact hs
    have HT := Lib.hid (show V = false by rw [HV.out, s1]; rfl)
    clear HV hs
    go_enter Try.func41, Try.ntmps41
    go_upto_region 1 with (fail)
    refine wp_region_held_drew (S := (fun w' : World => w'.cell? ⟨w.heap.size, 0, none⟩ = some (.int .i64 xs) ∧ w'.cell? ⟨nb, 0, none⟩ = some (.int .i64 n))) (by kernel_rfl) ⟨e0, f0⟩ (fun hHeld => ?_)
    refine wpAnyH_take (i := 0) (oi := { dst := some 5, op := _, type := _, pos := _, after := _, guard := _ }) (v := ?v1) rfl (by kernel_rfl) (by kernel_rfl) (by kernel_rfl) (fun _ _ _ h => h) (Or.inl ⟨by kernel_rfl, ?hy1⟩) (by assumption) ?rest1
    case hy1 =>
      intro w hSw
      try dsimp only at hSw
      go_simp
      try with_reducible rfl
    try simp only [Act.put]
    refine wpAnyH_take (i := 1) (oi := { dst := some 6, op := _, type := _, pos := _, after := _, guard := _ }) (v := ?v2) rfl (by kernel_rfl) (by kernel_rfl) (by kernel_rfl) (fun _ _ _ h => h) (Or.inl ⟨by kernel_rfl, ?hy2⟩) (by assumption) ?rest2
    case hy2 =>
      intro w hSw
      try dsimp only at hSw
      go_simp
      try with_reducible rfl
    try simp only [Act.put]
    refine wpAnyH_take (i := 2) (oi := { dst := some 7, op := _, type := _, pos := _, after := _, guard := _ }) (v := ?v3) rfl (by kernel_rfl) (by kernel_rfl) (by kernel_rfl) (fun _ _ _ h => h) (Or.inl ⟨by kernel_rfl, ?hy3⟩) (by assumption) ?rest3
    case hy3 =>
      intro w hSw
      try dsimp only at hSw
      go_simp
      try with_reducible rfl
    try simp only [Act.put]
    refine wpAnyH_take (i := 3) (oi := { dst := some 8, op := _, type := _, pos := _, after := _, guard := _ }) (v := ?v4) rfl (by kernel_rfl) (by kernel_rfl) (by kernel_rfl) (fun _ _ _ h => h) (Or.inl ⟨by kernel_rfl, ?hy4⟩) (by assumption) ?rest4
    case hy4 =>
      intro w hSw
      try dsimp only at hSw
      go_simp
      try with_reducible rfl
    try simp only [Act.put]
    refine wpAnyH_take (i := 4) (oi := { dst := some 9, op := _, type := _, pos := _, after := _, guard := _ }) (v := ?v5) rfl (by kernel_rfl) (by kernel_rfl) (by kernel_rfl) (fun _ _ _ h => h) (Or.inl ⟨by kernel_rfl, ?hy5⟩) (by assumption) ?rest5
    case hy5 =>
      intro w hSw
      try dsimp only at hSw
      go_simp
      try with_reducible rfl
    try simp only [Act.put]
    refine wpAnyH_take (i := 5) (oi := { dst := some 10, op := _, type := _, pos := _, after := _, guard := _ }) (v := undef) rfl (by kernel_rfl) (by kernel_rfl) (by kernel_rfl) (fun _ _ _ h => h) (Or.inr ⟨by kernel_rfl, rfl⟩) (by assumption) ?_
    try simp only [Act.put]
    refine wpAnyH_take (i := 6) (oi := { dst := some 11, op := _, type := _, pos := _, after := _, guard := _ }) (v := undef) rfl (by kernel_rfl) (by kernel_rfl) (by kernel_rfl) (fun _ _ _ h => h) (Or.inr ⟨by kernel_rfl, rfl⟩) (by assumption) ?_
    try simp only [Act.put]
    refine wpAnyH_take (i := 7) (oi := { dst := some 12, op := _, type := _, pos := _, after := _, guard := _ }) (v := undef) rfl (by kernel_rfl) (by kernel_rfl) (by kernel_rfl) (fun _ _ _ h => h) (Or.inr ⟨by kernel_rfl, rfl⟩) (by assumption) ?_
    try simp only [Act.put]
    refine wpAnyH_take (i := 8) (oi := { dst := some 13, op := _, type := _, pos := _, after := _, guard := _ }) (v := undef) rfl (by kernel_rfl) (by kernel_rfl) (by kernel_rfl) (fun _ _ _ h => h) (Or.inr ⟨by kernel_rfl, rfl⟩) (by assumption) ?_
    try simp only [Act.put]
    refine wpAnyH_take (i := 9) (oi := { dst := some 14, op := _, type := _, pos := _, after := _, guard := _ }) (v := undef) rfl (by kernel_rfl) (by kernel_rfl) (by kernel_rfl) (fun _ _ _ h => h) (Or.inr ⟨by kernel_rfl, rfl⟩) (by assumption) ?_
    try simp only [Act.put]
    refine wpAnyH_take (i := 10) (oi := { dst := some 15, op := _, type := _, pos := _, after := _, guard := _ }) (v := undef) rfl (by kernel_rfl) (by kernel_rfl) (by kernel_rfl) (fun _ _ _ h => h) (Or.inr ⟨by kernel_rfl, rfl⟩) (by assumption) ?_
    try simp only [Act.put]
    refine wpAnyH_take (i := 11) (oi := { dst := some 16, op := _, type := _, pos := _, after := _, guard := _ }) (v := undef) rfl (by kernel_rfl) (by kernel_rfl) (by kernel_rfl) (fun _ _ _ h => h) (Or.inr ⟨by kernel_rfl, rfl⟩) (by assumption) ?_
    try simp only [Act.put]
    refine wpAnyH_take (i := 12) (oi := { dst := some 17, op := _, type := _, pos := _, after := _, guard := _ }) (v := undef) rfl (by kernel_rfl) (by kernel_rfl) (by kernel_rfl) (fun _ _ _ h => h) (Or.inr ⟨by kernel_rfl, rfl⟩) (by assumption) ?_
    try simp only [Act.put]
    refine wpAnyH_take (i := 13) (oi := { dst := some 18, op := _, type := _, pos := _, after := _, guard := _ }) (v := undef) rfl (by kernel_rfl) (by kernel_rfl) (by kernel_rfl) (fun _ _ _ h => h) (Or.inr ⟨by kernel_rfl, rfl⟩) (by assumption) ?_
    try simp only [Act.put]
    refine wpAnyH_take (i := 14) (oi := { dst := some 19, op := _, type := _, pos := _, after := _, guard := _ }) (v := undef) rfl (by kernel_rfl) (by kernel_rfl) (by kernel_rfl) (fun _ _ _ h => h) (Or.inr ⟨by kernel_rfl, rfl⟩) (by assumption) ?_
    try simp only [Act.put]
    refine wpAnyH_take (i := 15) (oi := { dst := some 20, op := _, type := _, pos := _, after := _, guard := _ }) (v := undef) rfl (by kernel_rfl) (by kernel_rfl) (by kernel_rfl) (fun _ _ _ h => h) (Or.inr ⟨by kernel_rfl, rfl⟩) (by assumption) ?_
    try simp only [Act.put]
    refine wpAnyH_take (i := 16) (oi := { dst := some 21, op := _, type := _, pos := _, after := _, guard := _ }) (v := ?v6) rfl (by kernel_rfl) (by kernel_rfl) (by kernel_rfl) (fun _ _ _ h => h) (Or.inl ⟨by kernel_rfl, ?hy6⟩) (by assumption) ?rest6
    case hy6 =>
      intro w hSw
      try dsimp only at hSw
      go_simp
      try with_reducible rfl
    try simp only [Act.put]
    refine wpAnyH_take (i := 17) (oi := { dst := some 4, op := _, type := _, pos := _, after := _, guard := _ }) (v := ?v7) rfl (by kernel_rfl) (by kernel_rfl) (by kernel_rfl) (fun _ _ _ h => h) (Or.inl ⟨by kernel_rfl, ?hy7⟩) (by assumption) ?rest7
    case hy7 =>
      intro w hSw
      try dsimp only at hSw
      go_simp
      try with_reducible rfl
    try simp only [Act.put]
    refine wpAnyH_done (by kernel_rfl) ?_ _
    try simp only [List.setIfInBounds_toArray, List.set_cons_zero, List.set_cons_succ]
    go_wp2_with fail
    go_ret
    exact ⟨by rw [HT.out]; rfl, HB.out⟩
end Go.Proofs.Ytdiaejdoglccoaa
