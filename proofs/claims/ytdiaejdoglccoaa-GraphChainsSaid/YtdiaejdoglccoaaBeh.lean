/- behind, Reach, Back. No condition but the lengths. -/
import Derived.Test.YtdiaejdoglccoaaCho
namespace Go.Proofs.Ytdiaejdoglccoaa
open Go.RowKit Go.Deep Tr

namespace Gr
theorem row_mem {fw : Bool} {E : List Ed} {i : Nat} {x : Int} (h : x ∈ row fw E i) : ∃ y ∈ E, eA fw y = (i : Int) ∧ x = eB fw y := by
  unfold row at h
  rw [List.mem_map] at h
  obtain ⟨y, hy, rfl⟩ := h
  rw [List.mem_filter] at hy
  exact ⟨y, hy.1, by simpa using hy.2, rfl⟩
theorem mem_row {fw : Bool} {E : List Ed} {y : Ed} (hy : y ∈ E) {i : Nat} (h : eA fw y = (i : Int)) : eB fw y ∈ row fw E i := by
  unfold row
  exact List.mem_map.2 ⟨y, List.mem_filter.2 ⟨hy, by simpa using h⟩, rfl⟩
/-- A valid graph. -/
structure Ok (g : Gph) : Prop where
  nl : g.ns.length ≤ 1024
  el : g.es.length ≤ 1024
  ed : ∀ fw, ∀ x ∈ g.es, 0 ≤ eA fw x ∧ eA fw x < (g.ns.length : Int)
theorem chk_ok {g : Gph} (h : chk g = 0) : Ok g := by
  unfold chk at h
  by_cases h1 : big g = true
  · rw [if_pos h1] at h; cases h
  rw [if_neg h1] at h
  split at h
  · cases h
  split at h
  · cases h
  by_cases h4 : g.es.any (fun x => out g x) = true
  · rw [if_pos h4] at h; cases h
  clear h
  simp only [big, Bool.or_eq_true, decide_eq_true_eq, not_or] at h1
  refine ⟨by omega, by omega, fun fw x hx => ?_⟩
  have h5 : out g x = false := by
    cases hb : out g x with
    | false => rfl
    | true => exact absurd (List.any_eq_true.2 ⟨x, hx, hb⟩) h4
  simp only [out, isN, Bool.or_eq_false_iff, Bool.not_eq_false', Bool.and_eq_true, decide_eq_true_eq] at h5
  cases fw with
  | true => exact h5.1.1
  | false => exact h5.1.2
theorem eB_eq (fw : Bool) (x : Ed) : eB fw x = eA (!fw) x := by cases fw <;> rfl
theorem Ok.rows {g : Gph} (h : Ok g) (fw : Bool) : ∀ i, i < g.ns.length → (row fw g.es i).length ≤ 100000 ∧ ∀ x ∈ row fw g.es i, ∃ b : Nat, x = (b : Int) ∧ b < g.ns.length := fun i _ => by
  refine ⟨by have := row_len fw g.es i; have := h.el; omega, fun x hx => ?_⟩
  obtain ⟨y, hy, _, rfl⟩ := row_mem hx
  have := h.ed (!fw) y hy
  rw [← eB_eq] at this
  exact ⟨(eB fw y).toNat, by omega, by omega⟩
/-- What Reach and Back find. -/
def Rch (fw : Bool) (g : Gph) (a : Int) (l : List Int) : Prop :=
  if chk g = 0 ∧ isN g a = true then ∃ p : Nat → Bool, l = chs p g.ns.length ∧ ∀ m, p m = true ↔ ∃ k, Wk (row fw g.es) (row fw g.es a.toNat) (-1) k m else l = []
theorem lab_iff {R : Nat → List Int} {S : List Int} {c : Int} {L : Nat → Int} (h : Lab R S c L) (m : Nat) : decide (0 ≤ L m) = true ↔ ∃ k, Wk R S c k m := by
  rw [decide_eq_true_eq]
  exact ⟨fun hm => ⟨_, h.snd m hm⟩, fun ⟨k, hk⟩ => (h.all k m hk).1⟩
end Gr
theorem own_mono {w : World} {B B' e size n : Nat} {v : Value} {xs : List Value} (h : w.ownsRow B e size v n xs) (hb : B' ≤ B) : w.ownsRow B' e size v n xs :=
  ⟨h.1, h.2.imp id fun ⟨g, cap, cur, h1, h2, h3⟩ => ⟨g, cap, cur, h1, Nat.le_trans hb h2, h3⟩⟩
/-- A list that Reach or Back leaves. -/
def GotR (w : World) (fw : Bool) (g : Gph) (a : Int) : Ending → World → Prop := fun e w' => ∃ v, e = .returned v ∧ ∃ l, Gr.Rch fw g a l ∧ w'.ownsRow w.heap.size 3 1 v l.length (Gr.insV l) ∧ Below w.heap.size w w'
set_option maxHeartbeats 8000000 in
set_option maxRecDepth 100000 in
theorem behind_forward (g : Gph) (a : Int) (A B : Option Addr) (c d : Nat) (w : World) (hA : GrAt w A B g) :
    Calls Try.prog 29 #[grV A B c d g, .int .i64 a, .func (.func 30) #[] #[]] w (GotR w true g a) := by
  have hb0 : Below w.heap.size w (w.alloc (grO A B c d g)) := (Below.refl _ _).alloc (Nat.le_refl _) _
  have hG := heap_alloc_new w (grO A B c d g)
  obtain ⟨W, hW⟩ : ∃ W, W = w.alloc (grO A B c d g) := ⟨_, rfl⟩
  rw [← hW] at hb0 hG
  obtain ⟨q0, q1⟩ := gb_cells hG
  have HA := Lib.hid hA
  have c1 := check_any g A B c d W (hA.next hb0)
  have HC := Lib.hid (fun (h : Gr.chk g = 0) => Gr.chk_ok h)
  have HN := Lib.hid (show ¬ (Gr.chk g = 0 ∧ Gr.isN g a = true) → Gr.Rch true g a [] from fun h => by unfold Gr.Rch; rw [if_neg h])
  have HY := Lib.hid (show Gr.chk g = 0 → Gr.isN g a = true → ∀ l, (∃ p : Nat → Bool, l = Gr.chs p g.ns.length ∧ ∀ m, p m = true ↔ ∃ k, Gr.Wk (Gr.row true g.es) (Gr.row true g.es a.toNat) (-1) k m) → Gr.Rch true g a l from fun h1 h2 l h => by unfold Gr.Rch; rw [if_pos ⟨h1, h2⟩]; exact h)
  have HI := Lib.hid (show Gr.isN g a = true → 0 ≤ a ∧ a < (g.ns.length : Int) by unfold Gr.isN; rw [Bool.and_eq_true, decide_eq_true_eq, decide_eq_true_eq]; exact id)
  have c2 := fun w' => isNode_any g a A B c d w'
  clear hA
  go_enter Try.func29, Try.ntmps29
  go_upto_region 1 with (fail)
  rw [← hW]
  clear hW
  generalize Gr.chk g = z at *
  generalize Gr.isN g a = i1 at *
  go_wp2_with fail
  with_reducible refine c1.mono ?_
  clear c1
  rintro e w1 ⟨rfl, hb1⟩
  have hG1 := (hb1.block w.heap.size (blk_lt hG)).trans hG
  have hb01 := hb0.trans (hb1.mono hb0.size)
  clear hb1 hb0 hG q0 q1
  by_cases hz : z = 0
  · have z1 : (z != 0) = false := by rw [hz]; rfl
    have z2 : (z == 0) = true := by rw [hz]; rfl
    have HOk := Lib.hid (HC.out hz)
    obtain ⟨q0, q1⟩ := gb_cells hG1
    have c2 := c2 w1
    have HY2 := Lib.hid (HY.out hz)
    clear hz HY HC
    go_wp2_with fail
    with_reducible refine c2.mono ?_
    clear c2
    rintro e w2 ⟨rfl, hb2⟩
    have hG2 := (hb2.block w.heap.size (blk_lt hG1)).trans hG1
    have hb02 := hb01.trans (hb2.mono hb01.size)
    clear hb2 hb01 hG1 q0 q1
    cases i1 with
    | false =>
      have HT := Lib.hid (HN.out (fun h => by cases h.2))
      clear HN HY2 HI hG2
      go_wp2_with fail
      first | go_ret3 | go_ret2 | go_ret
      exact ⟨_, rfl, [], HT.out, World.ownsRow_nil _ _ _ _, hb02⟩
    | true =>
    have HY3 := Lib.hid (HY2.out rfl)
    obtain ⟨ha0, han⟩ := HI.out rfl
    clear HN HY2 HI
    obtain ⟨n, rfl⟩ : ∃ n : Nat, a = (n : Int) := ⟨a.toNat, by omega⟩
    have hnn : n < g.ns.length := by omega
    have cw := ways_forward g A B c d w2 (HA.out.next hb02) HOk.out.nl HOk.out.el (HOk.out.ed true)
    obtain ⟨q0, q1⟩ := gb_cells hG2
    clear ha0
    go_wp2_with fail
    with_reducible refine cw.mono ?_
    clear cw
    rintro e w3 ⟨g0, rfl, hWs, hb3⟩
    have hG3 := (hb3.block w.heap.size (blk_lt hG2)).trans hG2
    have hb03 := hb02.trans (hb3.mono hb02.size)
    clear hb3 hb02 hG2 q0 q1
    obtain ⟨Ar, cr, hcr, hat⟩ := hWs.read hnn
    have hrow := HOk.out.rows true
    have cl := lengths_any g.ns.length g0 _ _ Ar _ cr (-1) w3 hWs hat HOk.out.nl (hrow n hnn).1 (hrow n hnn).2 hrow
    have HY4 := Lib.hid (show ∀ L, Gr.Lab (Gr.row true g.es) (Gr.row true g.es n) (-1) L → Gr.Rch true g (n : Int) (Gr.chs (fun m => decide (0 ≤ L m)) g.ns.length) from fun L hL => HY3.out _ ⟨_, rfl, fun m => Gr.lab_iff hL m⟩)
    clear HY3 hWs hat hrow
    generalize Gr.row true g.es = R at *
    go_wp2_with fail
    with_reducible refine cl.mono ?_
    clear cl
    rintro e w4 ⟨gl, rfl, L, hrl, hLab, _, _, hb4⟩
    have hG4 := (hb4.block w.heap.size (blk_lt hG3)).trans hG3
    have hb04 := hb03.trans (hb4.mono hb03.size)
    have HR := Lib.hid (HY4.out L hLab)
    clear hb4 hb03 hG3 hcr hLab HY4
    have hlv := heap_alloc_new w4 (.cells #[.slice (some ⟨gl, 0, none⟩) g.ns.length g.ns.length] 29)
    have hG5 := (blk_alloc_lt w4 (.cells #[.slice (some ⟨gl, 0, none⟩) g.ns.length g.ns.length] 29) _ (blk_lt hG4)).trans hG4
    have hb05 := hb04.alloc hb04.size (.cells #[.slice (some ⟨gl, 0, none⟩) g.ns.length g.ns.length] 29)
    have ch := chooseLed_any g A B c d w4.heap.size gl L (w4.alloc (.cells #[.slice (some ⟨gl, 0, none⟩) g.ns.length g.ns.length] 29)) HOk.out.nl ⟨hlv, hrl.alloc _⟩
    obtain ⟨q0, q1⟩ := gb_cells hG5
    clear hlv hb04 hG4 hrl
    generalize Gr.chs (fun m => decide (0 ≤ L m)) g.ns.length = l at *
    go_wp2_with fail
    with_reducible refine ch.mono ?_
    clear ch
    rintro e w6 ⟨v, rfl, hown, hb6⟩
    have HO := Lib.hid (own_mono hown hb05.size)
    have HB := Lib.hid (hb05.trans (hb6.mono hb05.size))
    clear hown hb6 hb05 hG5 q0 q1
    go_wp2_with fail
    first | go_ret3 | go_ret2 | go_ret
    exact ⟨_, rfl, l, HR.out, HO.out, HB.out⟩
  · have z1 : (z != 0) = true := by rw [bne_iff_ne]; exact hz
    have z2 : (z == 0) = false := by rw [beq_eq_false_iff_ne]; exact hz
    have HT := Lib.hid (HN.out (fun h => hz h.1))
    clear HN HC HY HI hz c2 hG1
    go_wp2_with fail
    first | go_ret3 | go_ret2 | go_ret
    exact ⟨_, rfl, [], HT.out, World.ownsRow_nil _ _ _ _, hb01⟩
set_option maxHeartbeats 2000000 in
set_option maxRecDepth 100000 in
theorem reach_any (g : Gph) (a : Int) (A B : Option Addr) (c d : Nat) (w : World) (hA : GrAt w A B g) :
    Calls Try.prog 12 #[grV A B c d g, .int .i64 a] w (GotR w true g a) := by
  have hb0 : Below w.heap.size w (w.alloc (grO A B c d g)) := (Below.refl _ _).alloc (Nat.le_refl _) _
  have cc := behind_forward g a A B c d _ (hA.next hb0)
  go_enter Try.func12, Try.ntmps12
  go_wp2_with fail
  with_reducible refine cc.mono ?_
  clear cc
  rintro e w2 ⟨v, rfl, l, hR, hown, hb⟩
  have HO := Lib.hid (own_mono hown hb0.size)
  have HB := Lib.hid (hb0.trans (hb.mono hb0.size))
  have HR := Lib.hid hR
  clear hown hb hb0 hR
  go_wp2_with fail
  go_ret
  exact ⟨_, rfl, l, HR.out, HO.out, HB.out⟩
set_option maxHeartbeats 8000000 in
set_option maxRecDepth 100000 in
theorem behind_backward (g : Gph) (a : Int) (A B : Option Addr) (c d : Nat) (w : World) (hA : GrAt w A B g) :
    Calls Try.prog 29 #[grV A B c d g, .int .i64 a, .func (.func 33) #[] #[]] w (GotR w false g a) := by
  have hb0 : Below w.heap.size w (w.alloc (grO A B c d g)) := (Below.refl _ _).alloc (Nat.le_refl _) _
  have hG := heap_alloc_new w (grO A B c d g)
  obtain ⟨W, hW⟩ : ∃ W, W = w.alloc (grO A B c d g) := ⟨_, rfl⟩
  rw [← hW] at hb0 hG
  obtain ⟨q0, q1⟩ := gb_cells hG
  have HA := Lib.hid hA
  have c1 := check_any g A B c d W (hA.next hb0)
  have HC := Lib.hid (fun (h : Gr.chk g = 0) => Gr.chk_ok h)
  have HN := Lib.hid (show ¬ (Gr.chk g = 0 ∧ Gr.isN g a = true) → Gr.Rch false g a [] from fun h => by unfold Gr.Rch; rw [if_neg h])
  have HY := Lib.hid (show Gr.chk g = 0 → Gr.isN g a = true → ∀ l, (∃ p : Nat → Bool, l = Gr.chs p g.ns.length ∧ ∀ m, p m = true ↔ ∃ k, Gr.Wk (Gr.row false g.es) (Gr.row false g.es a.toNat) (-1) k m) → Gr.Rch false g a l from fun h1 h2 l h => by unfold Gr.Rch; rw [if_pos ⟨h1, h2⟩]; exact h)
  have HI := Lib.hid (show Gr.isN g a = true → 0 ≤ a ∧ a < (g.ns.length : Int) by unfold Gr.isN; rw [Bool.and_eq_true, decide_eq_true_eq, decide_eq_true_eq]; exact id)
  have c2 := fun w' => isNode_any g a A B c d w'
  clear hA
  go_enter Try.func29, Try.ntmps29
  go_upto_region 1 with (fail)
  rw [← hW]
  clear hW
  generalize Gr.chk g = z at *
  generalize Gr.isN g a = i1 at *
  go_wp2_with fail
  with_reducible refine c1.mono ?_
  clear c1
  rintro e w1 ⟨rfl, hb1⟩
  have hG1 := (hb1.block w.heap.size (blk_lt hG)).trans hG
  have hb01 := hb0.trans (hb1.mono hb0.size)
  clear hb1 hb0 hG q0 q1
  by_cases hz : z = 0
  · have z1 : (z != 0) = false := by rw [hz]; rfl
    have z2 : (z == 0) = true := by rw [hz]; rfl
    have HOk := Lib.hid (HC.out hz)
    obtain ⟨q0, q1⟩ := gb_cells hG1
    have c2 := c2 w1
    have HY2 := Lib.hid (HY.out hz)
    clear hz HY HC
    go_wp2_with fail
    with_reducible refine c2.mono ?_
    clear c2
    rintro e w2 ⟨rfl, hb2⟩
    have hG2 := (hb2.block w.heap.size (blk_lt hG1)).trans hG1
    have hb02 := hb01.trans (hb2.mono hb01.size)
    clear hb2 hb01 hG1 q0 q1
    cases i1 with
    | false =>
      have HT := Lib.hid (HN.out (fun h => by cases h.2))
      clear HN HY2 HI hG2
      go_wp2_with fail
      first | go_ret3 | go_ret2 | go_ret
      exact ⟨_, rfl, [], HT.out, World.ownsRow_nil _ _ _ _, hb02⟩
    | true =>
    have HY3 := Lib.hid (HY2.out rfl)
    obtain ⟨ha0, han⟩ := HI.out rfl
    clear HN HY2 HI
    obtain ⟨n, rfl⟩ : ∃ n : Nat, a = (n : Int) := ⟨a.toNat, by omega⟩
    have hnn : n < g.ns.length := by omega
    have cw := ways_backward g A B c d w2 (HA.out.next hb02) HOk.out.nl HOk.out.el (HOk.out.ed false)
    obtain ⟨q0, q1⟩ := gb_cells hG2
    clear ha0
    go_wp2_with fail
    with_reducible refine cw.mono ?_
    clear cw
    rintro e w3 ⟨g0, rfl, hWs, hb3⟩
    have hG3 := (hb3.block w.heap.size (blk_lt hG2)).trans hG2
    have hb03 := hb02.trans (hb3.mono hb02.size)
    clear hb3 hb02 hG2 q0 q1
    obtain ⟨Ar, cr, hcr, hat⟩ := hWs.read hnn
    have hrow := HOk.out.rows false
    have cl := lengths_any g.ns.length g0 _ _ Ar _ cr (-1) w3 hWs hat HOk.out.nl (hrow n hnn).1 (hrow n hnn).2 hrow
    have HY4 := Lib.hid (show ∀ L, Gr.Lab (Gr.row false g.es) (Gr.row false g.es n) (-1) L → Gr.Rch false g (n : Int) (Gr.chs (fun m => decide (0 ≤ L m)) g.ns.length) from fun L hL => HY3.out _ ⟨_, rfl, fun m => Gr.lab_iff hL m⟩)
    clear HY3 hWs hat hrow
    generalize Gr.row false g.es = R at *
    go_wp2_with fail
    with_reducible refine cl.mono ?_
    clear cl
    rintro e w4 ⟨gl, rfl, L, hrl, hLab, _, _, hb4⟩
    have hG4 := (hb4.block w.heap.size (blk_lt hG3)).trans hG3
    have hb04 := hb03.trans (hb4.mono hb03.size)
    have HR := Lib.hid (HY4.out L hLab)
    clear hb4 hb03 hG3 hcr hLab HY4
    have hlv := heap_alloc_new w4 (.cells #[.slice (some ⟨gl, 0, none⟩) g.ns.length g.ns.length] 29)
    have hG5 := (blk_alloc_lt w4 (.cells #[.slice (some ⟨gl, 0, none⟩) g.ns.length g.ns.length] 29) _ (blk_lt hG4)).trans hG4
    have hb05 := hb04.alloc hb04.size (.cells #[.slice (some ⟨gl, 0, none⟩) g.ns.length g.ns.length] 29)
    have ch := chooseLed_any g A B c d w4.heap.size gl L (w4.alloc (.cells #[.slice (some ⟨gl, 0, none⟩) g.ns.length g.ns.length] 29)) HOk.out.nl ⟨hlv, hrl.alloc _⟩
    obtain ⟨q0, q1⟩ := gb_cells hG5
    clear hlv hb04 hG4 hrl
    generalize Gr.chs (fun m => decide (0 ≤ L m)) g.ns.length = l at *
    go_wp2_with fail
    with_reducible refine ch.mono ?_
    clear ch
    rintro e w6 ⟨v, rfl, hown, hb6⟩
    have HO := Lib.hid (own_mono hown hb05.size)
    have HB := Lib.hid (hb05.trans (hb6.mono hb05.size))
    clear hown hb6 hb05 hG5 q0 q1
    go_wp2_with fail
    first | go_ret3 | go_ret2 | go_ret
    exact ⟨_, rfl, l, HR.out, HO.out, HB.out⟩
  · have z1 : (z != 0) = true := by rw [bne_iff_ne]; exact hz
    have z2 : (z == 0) = false := by rw [beq_eq_false_iff_ne]; exact hz
    have HT := Lib.hid (HN.out (fun h => hz h.1))
    clear HN HC HY HI hz c2 hG1
    go_wp2_with fail
    first | go_ret3 | go_ret2 | go_ret
    exact ⟨_, rfl, [], HT.out, World.ownsRow_nil _ _ _ _, hb01⟩
set_option maxHeartbeats 2000000 in
set_option maxRecDepth 100000 in
theorem back_any (g : Gph) (a : Int) (A B : Option Addr) (c d : Nat) (w : World) (hA : GrAt w A B g) :
    Calls Try.prog 14 #[grV A B c d g, .int .i64 a] w (GotR w false g a) := by
  have hb0 : Below w.heap.size w (w.alloc (grO A B c d g)) := (Below.refl _ _).alloc (Nat.le_refl _) _
  have cc := behind_backward g a A B c d _ (hA.next hb0)
  go_enter Try.func14, Try.ntmps14
  go_wp2_with fail
  with_reducible refine cc.mono ?_
  clear cc
  rintro e w2 ⟨v, rfl, l, hR, hown, hb⟩
  have HO := Lib.hid (own_mono hown hb0.size)
  have HB := Lib.hid (hb0.trans (hb.mono hb0.size))
  have HR := Lib.hid hR
  clear hown hb hb0 hR
  go_wp2_with fail
  go_ret
  exact ⟨_, rfl, l, HR.out, HO.out, HB.out⟩
end Go.Proofs.Ytdiaejdoglccoaa
