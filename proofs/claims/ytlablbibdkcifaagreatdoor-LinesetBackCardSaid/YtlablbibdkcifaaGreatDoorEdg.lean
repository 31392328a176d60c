/- The edges of spans; appending a row of edges. No condition but the lengths. -/
import Derived.Test.YtlablbibdkcifaaGreatDoorFol
import Derived.Deep.Onto
namespace Go.Proofs.YtlablbibdkcifaaGreatDoor
open Go.RowKit Go.Deep Tr

namespace Ls
theorem ElAt.flat {α : Type} {f : α → List Value} {k B : Nat} (h0 : 0 < k) (hk : ∀ x, (f x).length = k) {w : World} {A : Option Addr} {l : List α} (h : ElAt f k w B A l) (hl : 0 < l.length) : ∃ g o, A = some ⟨g, o, none⟩ ∧ g < B ∧ ∀ j u, (l.flatMap f)[j]? = some u → w.cell? ⟨g, o + j, none⟩ = some u := by
  obtain ⟨g, o, e, hg, hc⟩ := h.row hl
  refine ⟨g, o, e, hg, fun j u hu => ?_⟩
  have hj : j < l.length * k := by have := (List.getElem?_eq_some_iff.1 hu).1; rwa [flat_len f k hk] at this
  have hi : j / k < l.length := Nat.div_lt_of_lt_mul (by rwa [Nat.mul_comm] at hj)
  have hm : j % k < k := Nat.mod_lt _ h0
  have h1 := flat_at f k hk l (j / k) (j % k) hi hm
  have e2 : j / k * k + j % k = j := Nat.div_add_mod' j k
  rw [e2, hu] at h1
  have := hc (j / k) hi (j % k) u h1.symm
  rwa [Nat.add_assoc, e2] at this
theorem edges_len (sd : Int) (l : List Sp) : (edges sd l).length = l.length * 2 := by
  induction l with
  | nil => rfl
  | cons s t ih => rw [edges_cons, List.length_append, ih, List.length_cons]; simp; omega
theorem edges_app (sd : Int) (a b : List Sp) : edges sd (a ++ b) = edges sd a ++ edges sd b := List.flatMap_append
theorem edges_one (sd : Int) (s : Sp) : edges sd [s] = [⟨s.path, s.lo, sd, 1⟩, ⟨s.path, s.hi, sd, -1⟩] := by simp [edges]
theorem edges_take (sd : Int) (l : List Sp) (k : Nat) (h : k < l.length) : edges sd (l.take (k + 1)) = edges sd (l.take k) ++ [⟨l[k].path, l[k].lo, sd, 1⟩, ⟨l[k].path, l[k].hi, sd, -1⟩] := by
  rw [List.take_succ_eq_append_getElem h, edges_app, edges_one]
theorem edsV_two (a b : Ed) : edsV [a, b] = [.string (str a.path), .int .i64 a.n, .int .i64 a.side, .int .i64 a.ent, .string (str b.path), .int .i64 b.n, .int .i64 b.side, .int .i64 b.ent] := rfl
end Ls
/-- A list of edges of the call's own. -/
def GotEd (w : World) (l : List Ls.Ed) : Ending → World → Prop := fun e w' => ∃ v, e = .returned v ∧ w'.ownsRow w.heap.size 85 4 v l.length (Ls.edsV l) ∧ Below w.heap.size w w'
set_option maxHeartbeats 8000000 in
set_option maxRecDepth 100000 in
theorem edges_any (l : List Ls.Sp) (sd : Int) (A : Option Addr) (c : Nat) (w : World) (hA : Ls.SpAt w w.heap.size A l) (hl : l.length ≤ 1000000) :
    Calls Tryz.prog 66 #[.slice A l.length c, .int .i64 sd] w (GotEd w (Ls.edges sd l)) := by
  obtain ⟨ie, hie, hz0, hz1, hz2⟩ := info_parts infoEd
  have HAA := Lib.hid hA
  clear hA
  go_enter Tryz.func66, Tryz.ntmps66
  go_wp2_with fail
  go_loopw [5, 10] (fun s5 i wr => ∃ k : Nat, k ≤ l.length ∧ i = .int .i64 k ∧ wr.ownsRow w.heap.size 85 4 s5 (Ls.edges sd (l.take k)).length (Ls.edsV (Ls.edges sd (l.take k))) ∧ Below w.heap.size w wr) (fun _ i _ => l.length - (intOf i).toNat)
  case atStart => exact ⟨0, by omega, rfl, World.ownsRow_nil _ _ _ _, Below.refl _ _⟩
  case round =>
    obtain ⟨k, hk, rfl, hown, hb⟩ := hrel
    by_cases hlt : k < l.length
    · have b1 : decide ((k : Int) < (l.length : Int)) = true := decide_eq_true (by omega)
      have b1n : decide (k < l.length) = true := decide_eq_true hlt
      obtain ⟨g, o, rfl, hg, hc⟩ := HAA.out k hlt
      have HT := Lib.hid (Ls.edges_take sd l k hlt)
      have hc0 := hc 0 _ rfl
      have hc1 := hc 1 _ rfl
      have hc2 := hc 2 _ rfl
      rw [Nat.add_zero] at hc0
      clear hc
      have hen := Ls.edges_len sd (l.take k)
      rw [List.length_take] at hen
      generalize l[k] = s at *
      generalize hE : Ls.edges sd (l.take k) = E at *
      have hEl : E.length ≤ 2000000 := by omega
      clear hen hE
      have hbn : Below w.heap.size w (wr.alloc (.cells #[.string (str s.path), .int .i64 s.lo, .int .i64 s.hi] 32)) := hb.alloc hb.size _
      have hN := heap_alloc_new wr (.cells #[.string (str s.path), .int .i64 s.lo, .int .i64 s.hi] 32)
      have hoW := hown.alloc (.cells #[.string (str s.path), .int .i64 s.lo, .int .i64 s.hi] 32)
      have hd0 := (hb.cell (p := ⟨g, o + k * 3, none⟩) hg).trans hc0
      have hd1 := (hb.cell (p := ⟨g, o + k * 3 + 1, none⟩) hg).trans hc1
      have hd2 := (hb.cell (p := ⟨g, o + k * 3 + 2, none⟩) hg).trans hc2
      go_upto_region 5 with (fail)
      clear hd0 hd1 hd2 hc0 hc1 hc2 hown
      generalize wr.alloc (.cells #[.string (str s.path), .int .i64 s.lo, .int .i64 s.hi] 32) = X at *
      have hqX := blk_lt hN
      have hwX := hbn.size
      have e0 : X.cell? ⟨wr.heap.size, 0, none⟩ = some (.string (str s.path)) := by rw [cell_of_row _ _ _ _ _ _ hN]; rfl
      have e1 : X.cell? ⟨wr.heap.size, 1, none⟩ = some (.int .i64 s.lo) := by rw [cell_of_row _ _ _ _ _ _ hN]; rfl
      have e2 : X.cell? ⟨wr.heap.size, 2, none⟩ = some (.int .i64 s.hi) := by rw [cell_of_row _ _ _ _ _ _ hN]; rfl
      obtain ⟨A5, c5, rfl, hc5, hm5, _⟩ := Ls.own_el Ls.edV 4 Ls.edV_len hoW
      go_wp2_with (at_builtin; refine wpList_append_lies _ (by rfl) _ _ 81 (by rfl) w.heap.size 85 ie _ 4 40 Tryz.underlying81 hie hz0 hz1 hz2 rfl (by omega) (.slice A5 E.length c5) E.length _ (by rfl) (hoW.alloc _) ⟨X.heap.size, 0, none⟩ 2 2 [_, _, _, _, _, _, _, _] (by rfl) (by rfl) (World.news_of_block (cs := #[_, _, _, _, _, _, _, _]) (t := 85) (fr := (0, 0)) (heap_alloc_new X _)) (by simp [Value.oneCell']) (by omega) (by unfold maxLen; omega) (by omega) (by simp; omega) (X.heap.size + 1) (by simp) ?_; intro gg cap w6 hown6 hgrow hat hlt6)
      have hb6 := below_grown (hbn.alloc (by omega) _) (by simp; omega) (hoW.alloc _) hgrow
      go_roundw
      case rel => exact ⟨k + 1, by omega, by go_num, by rw [HT.out, Ls.edsV_app, List.length_append]; exact hown6, hb6⟩
      case measure => simp [intOf]; omega
    · have b1 : decide ((k : Int) < (l.length : Int)) = false := decide_eq_false (by omega)
      have b1n : decide (k < l.length) = false := decide_eq_false hlt
      obtain rfl : k = l.length := by omega
      rw [List.take_length] at hown
      go_wp2_with fail
      go_ret
      exact ⟨_, rfl, hown, hb⟩
end Go.Proofs.YtlablbibdkcifaaGreatDoor
