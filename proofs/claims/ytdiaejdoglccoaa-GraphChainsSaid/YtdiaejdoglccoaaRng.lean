/- Check's closure on the ends of edges; IndexFunc, ContainsFunc, ascend with Check's closures. No condition but the lengths. -/
import Derived.Test.YtdiaejdoglccoaaCmp
namespace Go.Proofs.Ytdiaejdoglccoaa
open Go.RowKit Go.Deep Tr

namespace Gr
theorem any_take {α : Type} (p : α → Bool) (l : List α) (k : Nat) (hk : k < l.length) (h : (l.take k).any p = false) (h2 : p l[k] = false) : (l.take (k + 1)).any p = false := by
  rw [List.take_succ_eq_append_getElem hk, List.any_append, h]
  simp [h2]
theorem any_full {α : Type} (p : α → Bool) (l : List α) (k : Nat) (hk : ¬ k < l.length) (h : (l.take k).any p = false) : l.any p = false := by
  rwa [List.take_of_length_le (by omega)] at h
theorem any_hit {α : Type} (p : α → Bool) (l : List α) (k : Nat) (hk : k < l.length) (h : p l[k] = true) : l.any p = true := List.any_eq_true.2 ⟨l[k], List.getElem_mem hk, h⟩
/-- Each element is in order with the next one. -/
def asc {α : Type} (r : α → α → Bool) : List α → Bool
  | [] => true
  | [_] => true
  | a :: b :: t => r a b && asc r (b :: t)
theorem asc_iff {α : Type} (r : α → α → Bool) : ∀ l : List α, asc r l = true ↔ ∀ i (h : i + 1 < l.length), r l[i] l[i + 1] = true
  | [] => by simp [asc]
  | [a] => by simp [asc]
  | a :: b :: t => by
    rw [asc, Bool.and_eq_true, asc_iff r (b :: t)]
    constructor
    · rintro ⟨h1, h2⟩ i hi
      cases i with
      | zero => exact h1
      | succ i => exact h2 i (by simpa using hi)
    · intro h
      exact ⟨h 0 (by simp), fun i hi => h (i + 1) (by simpa using hi)⟩
theorem asc_no {α : Type} (r : α → α → Bool) (l : List α) (i : Nat) (h : i + 1 < l.length) (h2 : r l[i] l[i + 1] = false) : asc r l = false := by
  cases hb : asc r l with
  | false => rfl
  | true => rw [(asc_iff r l).1 hb i h] at h2; cases h2
end Gr
/-- The variable of a closure in which the graph lies. -/
abbrev GbAt (w : World) (gb : Nat) (A B : Option Addr) (c d : Nat) (g : Gph) : Prop := w.heap[gb]? = some (grO A B c d g)
set_option maxHeartbeats 4000000 in
set_option maxRecDepth 100000 in
theorem out_any (x : Ed) (g : Gph) (A B : Option Addr) (c d gb : Nat) (w : World) (hG : w.heap[gb]? = some (grO A B c d g)) :
    Calls Try.prog 50 #[edA x, .pointer (some ⟨gb, 0, none⟩)] w fun e w' => e = .returned (.bool (Gr.out g x)) ∧ Below w.heap.size w w' := by
  have hb0 : Below w.heap.size w (w.alloc (edO x)) := (Below.refl _ _).alloc (Nat.le_refl _) _
  have hg0 := (blk_alloc_lt w (edO x) _ (blk_lt hG)).trans hG
  have c1 := isNode_any g x.src A B c d (w.alloc (edO x))
  have c2 := fun w' => isNode_any g x.dst A B c d w'
  rw [edA_def]
  have HV := Lib.hid (show Gr.out g x = (!Gr.isN g x.src || !Gr.isN g x.dst || decide (x.stp < 0)) from rfl)
  generalize Gr.out g x = V at *
  generalize Gr.isN g x.src = i1 at *
  generalize Gr.isN g x.dst = i2 at *
  generalize hd : decide (x.stp < 0) = i3 at *
  have q0 : (w.alloc (edO x)).cell? ⟨gb, 0, none⟩ = some (.slice A g.ns.length c) := by rw [cell_of_row _ _ _ _ _ _ hg0]; rfl
  have q1 : (w.alloc (edO x)).cell? ⟨gb, 1, none⟩ = some (.slice B g.es.length d) := by rw [cell_of_row _ _ _ _ _ _ hg0]; rfl
  have hgl := blk_lt hg0
  have hne := blk_lt hG
  clear hg0 hG
  go_enter Try.func50, Try.ntmps50
  go_wp2_with fail
  with_reducible refine c1.mono ?_
  clear c1
  rintro e w2 ⟨rfl, hb2⟩
  have r0 := (hb2.cell (p := ⟨gb, 0, none⟩) hgl).trans q0
  have r1 := (hb2.cell (p := ⟨gb, 1, none⟩) hgl).trans q1
  have hnw := heap_alloc_new w (edO x)
  have s1 := (hb2.cell (p := ⟨w.heap.size, 1, none⟩) (blk_lt hnw)).trans (by rw [cell_of_row _ _ _ _ _ _ hnw]; rfl : (w.alloc (edO x)).cell? ⟨w.heap.size, 1, none⟩ = some (.int .i64 x.dst))
  have s2 := (hb2.cell (p := ⟨w.heap.size, 2, none⟩) (blk_lt hnw)).trans (by rw [cell_of_row _ _ _ _ _ _ hnw]; rfl : (w.alloc (edO x)).cell? ⟨w.heap.size, 2, none⟩ = some (.int .i64 x.stp))
  have hb02 := hb0.trans (hb2.mono hb0.size)
  clear q0 q1
  cases i1 with
  | false =>
    have HT := Lib.hid (show V = true from HV.out)
    clear HV hnw
    go_wp2_with fail
    go_ret
    exact ⟨by rw [HT.out]; rfl, hb02⟩
  | true =>
  have c2 := c2 w2
  have hl2 := (blk_lt hnw)
  have hs2 := hb2.size
  clear hnw
  go_wp2_with fail
  with_reducible refine c2.mono ?_
  clear c2
  rintro e w3 ⟨rfl, hb3⟩
  have t2 := (hb3.cell (p := ⟨w.heap.size, 2, none⟩) (by show w.heap.size < _; omega)).trans s2
  have hb03 := hb02.trans (hb3.mono hb02.size)
  clear s1 s2 r0 r1 hb2 hb3 hb02
  cases i2 with
  | false =>
    have HT := Lib.hid (show V = true from HV.out)
    clear HV
    go_wp2_with fail
    go_ret
    exact ⟨by rw [HT.out]; rfl, hb03⟩
  | true =>
    have HT := Lib.hid (show V = i3 from HV.out)
    clear HV
    go_wp2_with fail
    go_ret
    exact ⟨by rw [HT.out]; first | rfl | rw [hd], hb03⟩
set_option maxHeartbeats 4000000 in
set_option maxRecDepth 100000 in
theorem indexLong_any (l : List (List UInt8)) (A0 : Option Addr) (c0 : Nat) (w : World) (hA : Gr.ElAt Gr.stV 1 w w.heap.size A0 l) (hl : l.length ≤ 100000) :
    Calls Try.prog 58 #[.slice A0 l.length c0, .func (.func 47) #[] #[]] w fun e w' => ∃ n : Int, e = .returned (.int .i64 n) ∧ l.any (fun s => decide (128 < s.length)) = decide (0 ≤ n) ∧ Below w.heap.size w w' := by
  have HAA := Lib.hid hA
  clear hA
  go_enter Try.func58, Try.ntmps58
  go_wp2_with fail
  go_loopw [8] (fun s8 wr => ∃ k : Nat, s8 = .int .i64 k ∧ k ≤ l.length ∧ (l.take k).any (fun s => decide (128 < s.length)) = false ∧ Below w.heap.size w wr) (fun s8 _ => l.length - (intOf s8).toNat)
  case atStart => exact ⟨0, rfl, by omega, by simp, Below.refl _ _⟩
  case round =>
    obtain ⟨k, rfl, hk, hall, hb⟩ := hrel
    have HAL := Lib.hid hall
    clear hall
    by_cases hlt : k < l.length
    · have b1 : decide ((k : Int) < (l.length : Int)) = true := decide_eq_true (by omega)
      have b1n : decide (k < l.length) = true := decide_eq_true hlt
      have y2 : (k : Int) < (l.length : Int) := by omega
      obtain ⟨g0, o, rfl, hg, hc⟩ := HAA.out k hlt
      have hd0 : wr.cell? ⟨g0, o + k, none⟩ = some (.string (str l[k])) := (hb.cell (p := ⟨g0, o + k, none⟩) hg).trans (by have := hc 0 _ rfl; rw [Nat.mul_one] at this; exact this)
      clear hc
      have HTK := Lib.hid (show (fun s => decide (128 < s.length)) l[k] = false → (l.take (k + 1)).any (fun s => decide (128 < s.length)) = false from fun h => Gr.any_take _ l k hlt HAL.out h)
      have HHT := Lib.hid (show (fun s => decide (128 < s.length)) l[k] = true → l.any (fun s => decide (128 < s.length)) = true from fun h => Gr.any_hit _ l k hlt h)
      generalize l[k] = x at *
      have cc := long_any x wr
      generalize hv : (fun s => decide (128 < s.length)) x = v at *
      dsimp only at hv
      try rw [hv] at cc
      cases v with
      | false =>
        have HN := Lib.hid (HTK.out rfl)
        clear HTK HHT hv
        go_wp2_with fail
        with_reducible refine cc.mono ?_
        clear cc
        rintro e w4 ⟨rfl, hb4⟩
        have HB3 := Lib.hid (show Below w.heap.size w w4 by rw [hb4]; exact hb)
        clear hb4 hb hd0
        go_wp2_with fail
        go_roundw
        case rel => exact ⟨k + 1, by go_num, by omega, HN.out, HB3.out⟩
        case measure => simp [intOf]; omega
      | true =>
        have HN := Lib.hid (HHT.out rfl)
        clear HTK HHT hv
        go_wp2_with fail
        with_reducible refine cc.mono ?_
        clear cc
        rintro e w4 ⟨rfl, hb4⟩
        have HB3 := Lib.hid (show Below w.heap.size w w4 by rw [hb4]; exact hb)
        clear hb4 hb hd0
        go_wp2_with fail
        first | go_ret2 | go_ret
        exact ⟨(k : Int), rfl, by rw [HN.out]; exact (decide_eq_true (by omega)).symm, HB3.out⟩
    · have b1 : decide ((k : Int) < (l.length : Int)) = false := decide_eq_false (by omega)
      have b1n : decide (k < l.length) = false := decide_eq_false hlt
      have HN := Lib.hid (Gr.any_full _ l k hlt HAL.out)
      have HB := Lib.hid hb
      clear hb HAL
      go_wp2_with fail
      go_ret
      exact ⟨-1, rfl, by rw [HN.out]; rfl, HB.out⟩
set_option maxHeartbeats 4000000 in
set_option maxRecDepth 100000 in
theorem containsLong_any (l : List (List UInt8)) (A0 : Option Addr) (c0 : Nat) (w : World) (hA : Gr.ElAt Gr.stV 1 w w.heap.size A0 l) (hl : l.length ≤ 100000) :
    Calls Try.prog 46 #[.slice A0 l.length c0, .func (.func 47) #[] #[]] w fun e w' => e = .returned (.bool (l.any (fun s => decide (128 < s.length)))) ∧ Below w.heap.size w w' := by
  have cc := indexLong_any l A0 c0 w hA hl 
  clear hA
  go_enter Try.func46, Try.ntmps46
  go_wp2_with fail
  with_reducible refine cc.mono ?_
  clear cc
  rintro e w4 ⟨n, rfl, hn, hb4⟩
  have HN := Lib.hid hn
  clear hn
  generalize hd : decide (0 ≤ n) = d at *
  go_wp2_with fail
  go_ret
  exact ⟨by rw [HN.out]; first | rfl | rw [hd], hb4⟩
set_option maxHeartbeats 4000000 in
set_option maxRecDepth 100000 in
theorem indexOut_any (l : List Ed) (g : Gph) (A B : Option Addr) (c d gb : Nat) (A0 : Option Addr) (c0 : Nat) (w : World) (hA : Gr.ElAt Gr.edV 3 w w.heap.size A0 l) (hl : l.length ≤ 100000) (hG : w.heap[gb]? = some (grO A B c d g)) :
    Calls Try.prog 40 #[.slice A0 l.length c0, .func (.func 50) #[] #[.pointer (some ⟨gb, 0, none⟩)]] w fun e w' => ∃ n : Int, e = .returned (.int .i64 n) ∧ l.any (fun x => Gr.out g x) = decide (0 ≤ n) ∧ Below w.heap.size w w' := by
  have HAA := Lib.hid hA
  clear hA
  have HG := Lib.hid hG
  clear hG
  go_enter Try.func40, Try.ntmps40
  go_wp2_with fail
  go_loopw [8] (fun s8 wr => ∃ k : Nat, s8 = .int .i64 k ∧ k ≤ l.length ∧ (l.take k).any (fun x => Gr.out g x) = false ∧ Below w.heap.size w wr) (fun s8 _ => l.length - (intOf s8).toNat)
  case atStart => exact ⟨0, rfl, by omega, by simp, Below.refl _ _⟩
  case round =>
    obtain ⟨k, rfl, hk, hall, hb⟩ := hrel
    have HAL := Lib.hid hall
    clear hall
    by_cases hlt : k < l.length
    · have b1 : decide ((k : Int) < (l.length : Int)) = true := decide_eq_true (by omega)
      have b1n : decide (k < l.length) = true := decide_eq_true hlt
      have y2 : (k : Int) < (l.length : Int) := by omega
      obtain ⟨g0, o, rfl, hg, hc⟩ := HAA.out k hlt
      have hd0 := (hb.cell (p := ⟨g0, o + k * 3, none⟩) hg).trans (hc 0 _ rfl)
      have hd1 := (hb.cell (p := ⟨g0, o + k * 3 + 1, none⟩) hg).trans (hc 1 _ rfl)
      have hd2 := (hb.cell (p := ⟨g0, o + k * 3 + 2, none⟩) hg).trans (hc 2 _ rfl)
      clear hc
      have HTK := Lib.hid (show (fun x => Gr.out g x) l[k] = false → (l.take (k + 1)).any (fun x => Gr.out g x) = false from fun h => Gr.any_take _ l k hlt HAL.out h)
      have HHT := Lib.hid (show (fun x => Gr.out g x) l[k] = true → l.any (fun x => Gr.out g x) = true from fun h => Gr.any_hit _ l k hlt h)
      generalize l[k] = x at *
      have cc := out_any x g A B c d gb wr ((hb.block gb (blk_lt HG.out)).trans HG.out)
      rw [edA_def] at cc
      generalize hv : (fun x => Gr.out g x) x = v at *
      dsimp only at hv
      try rw [hv] at cc
      cases v with
      | false =>
        have HN := Lib.hid (HTK.out rfl)
        clear HTK HHT hv
        go_wp2_with fail
        with_reducible refine cc.mono ?_
        clear cc
        rintro e w4 ⟨rfl, hb4⟩
        have HB3 := Lib.hid (hb.trans (hb4.mono hb.size))
        clear hb4 hb hd0 hd1 hd2
        go_wp2_with fail
        go_roundw
        case rel => exact ⟨k + 1, by go_num, by omega, HN.out, HB3.out⟩
        case measure => simp [intOf]; omega
      | true =>
        have HN := Lib.hid (HHT.out rfl)
        clear HTK HHT hv
        go_wp2_with fail
        with_reducible refine cc.mono ?_
        clear cc
        rintro e w4 ⟨rfl, hb4⟩
        have HB3 := Lib.hid (hb.trans (hb4.mono hb.size))
        clear hb4 hb hd0 hd1 hd2
        go_wp2_with fail
        first | go_ret2 | go_ret
        exact ⟨(k : Int), rfl, by rw [HN.out]; exact (decide_eq_true (by omega)).symm, HB3.out⟩
    · have b1 : decide ((k : Int) < (l.length : Int)) = false := decide_eq_false (by omega)
      have b1n : decide (k < l.length) = false := decide_eq_false hlt
      have HN := Lib.hid (Gr.any_full _ l k hlt HAL.out)
      have HB := Lib.hid hb
      clear hb HAL
      go_wp2_with fail
      go_ret
      exact ⟨-1, rfl, by rw [HN.out]; rfl, HB.out⟩
set_option maxHeartbeats 4000000 in
set_option maxRecDepth 100000 in
theorem containsOut_any (l : List Ed) (g : Gph) (A B : Option Addr) (c d gb : Nat) (A0 : Option Addr) (c0 : Nat) (w : World) (hA : Gr.ElAt Gr.edV 3 w w.heap.size A0 l) (hl : l.length ≤ 100000) (hG : w.heap[gb]? = some (grO A B c d g)) :
    Calls Try.prog 26 #[.slice A0 l.length c0, .func (.func 50) #[] #[.pointer (some ⟨gb, 0, none⟩)]] w fun e w' => e = .returned (.bool (l.any (fun x => Gr.out g x))) ∧ Below w.heap.size w w' := by
  have cc := indexOut_any l g A B c d gb A0 c0 w hA hl hG
  clear hA
  go_enter Try.func26, Try.ntmps26
  go_wp2_with fail
  with_reducible refine cc.mono ?_
  clear cc
  rintro e w4 ⟨n, rfl, hn, hb4⟩
  have HN := Lib.hid hn
  clear hn
  generalize hd : decide (0 ≤ n) = d at *
  go_wp2_with fail
  go_ret
  exact ⟨by rw [HN.out]; first | rfl | rw [hd], hb4⟩
end Go.Proofs.Ytdiaejdoglccoaa
