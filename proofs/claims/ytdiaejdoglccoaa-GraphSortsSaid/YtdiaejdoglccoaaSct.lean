/- GraphSorts' closure, and ContainsFunc at it, where all edges lead on. No condition but the lengths. -/
import Derived.Test.YtdiaejdoglccoaaFew
import Derived.BigQuiet
namespace Go.Proofs.Ytdiaejdoglccoaa
open Go.RowKit Go.Deep Tr

theorem srt_drewN {B : Nat} {w w' : World} (h : Below B w w') (n : Nat) : Below B w (w'.drewN n) := ⟨h.os, h.tape, h.output, h.size, h.block⟩
/-- The variables of GraphSorts' closure: places and depths. -/
structure SrAt (w : World) (ab ga db N : Nat) (A2 : Option Addr) (c2 : Nat) (P : Nat → Int) (dl : List Int) : Prop where
  av : w.heap[ab]? = some (.cells #[.slice (some ⟨ga, 0, none⟩) N N] 29 (0, 0))
  row : w.rowIs ga 3 N (fun i => .int .i64 (P i))
  dv : w.heap[db]? = some (.cells #[.slice A2 dl.length c2] 29 (0, 0))
  dat : Gr.InAt w w.heap.size A2 dl
theorem SrAt.next {w w' : World} {ab ga db N : Nat} {A2 : Option Addr} {c2 : Nat} {P : Nat → Int} {dl : List Int} (h : SrAt w ab ga db N A2 c2 P dl) (hb : Below w.heap.size w w') : SrAt w' ab ga db N A2 c2 P dl :=
  ⟨(hb.block _ (blk_lt h.av)).trans h.av, h.row.of_block (hb.block _ h.row.lt), (hb.block _ (blk_lt h.dv)).trans h.dv, h.dat.next hb⟩
set_option maxHeartbeats 4000000 in
set_option maxRecDepth 100000 in
theorem srt_any (s t : Nat) (xp : Int) (ab ga db N : Nat) (A2 : Option Addr) (c2 : Nat) (P : Nat → Int) (dl : List Int) (w : World) (h : SrAt w ab ga db N A2 c2 P dl) (hN : dl.length = N) (hs : s < N) (ht : t < N) (hp : P s < P t) (hd : dl[s]'(by omega) < dl[t]'(by omega)) :
    Calls Try.prog 27 #[edA ⟨(s : Int), (t : Int), xp⟩, .pointer (some ⟨ab, 0, none⟩), .pointer (some ⟨db, 0, none⟩)] w fun e w' => e = .returned (.bool false) ∧ Below w.heap.size w w' := by
  have hba : Below w.heap.size w (w.alloc (edO ⟨(s : Int), (t : Int), xp⟩)) := (Below.refl _ _).alloc (Nat.le_refl _) _
  have h2 := h.next hba
  have hxn := heap_alloc_new w (edO ⟨(s : Int), (t : Int), xp⟩)
  have e0 : (w.alloc (edO ⟨(s : Int), (t : Int), xp⟩)).cell? ⟨w.heap.size, 0, none⟩ = some (.int .i64 (s : Int)) := by rw [cell_of_row _ _ _ _ _ _ hxn]; rfl
  have e1 : (w.alloc (edO ⟨(s : Int), (t : Int), xp⟩)).cell? ⟨w.heap.size, 1, none⟩ = some (.int .i64 (t : Int)) := by rw [cell_of_row _ _ _ _ _ _ hxn]; rfl
  have f0 : (w.alloc (edO ⟨(s : Int), (t : Int), xp⟩)).cell? ⟨ab, 0, none⟩ = some (.slice (some ⟨ga, 0, none⟩) N N) := by rw [cell_of_row _ _ _ _ _ _ h2.av]; rfl
  have f1 : (w.alloc (edO ⟨(s : Int), (t : Int), xp⟩)).cell? ⟨db, 0, none⟩ = some (.slice A2 dl.length c2) := by rw [cell_of_row _ _ _ _ _ _ h2.dv]; rfl
  have f2 : (w.alloc (edO ⟨(s : Int), (t : Int), xp⟩)).cell? ⟨ga, s, none⟩ = some (.int .i64 (P s)) := h2.row.cell hs
  have f3 : (w.alloc (edO ⟨(s : Int), (t : Int), xp⟩)).cell? ⟨ga, t, none⟩ = some (.int .i64 (P t)) := h2.row.cell ht
  obtain ⟨gd, od, rfl, _, hc⟩ := h2.dat.row (by omega)
  have f4 : (w.alloc (edO ⟨(s : Int), (t : Int), xp⟩)).cell? ⟨gd, od + s, none⟩ = some (.int .i64 (dl[s]'(by omega))) := by
    have k := hc s (by omega) 0 _ rfl
    rw [Nat.mul_one] at k
    exact k
  have f5 : (w.alloc (edO ⟨(s : Int), (t : Int), xp⟩)).cell? ⟨gd, od + t, none⟩ = some (.int .i64 (dl[t]'(by omega))) := by
    have k := hc t (by omega) 0 _ rfl
    rw [Nat.mul_one] at k
    exact k
  have y1 : (s : Int) < (N : Int) := by omega
  have y2 : (t : Int) < (N : Int) := by omega
  have d1 : decide (P t ≤ P s) = false := decide_eq_false (by omega)
  have d2 : decide (dl[t]'(by omega) ≤ dl[s]'(by omega)) = false := decide_eq_false (by omega)
  generalize dl[s]'(by omega) = z0 at *
  generalize dl[t]'(by omega) = z1 at *
  generalize P s = p0 at *
  generalize P t = p1 at *
  rw [hN] at f1
  rw [edA_def]
  dsimp only [edO] at e0 e1 f0 f1 f2 f3 f4 f5 hba ⊢
  have HB := Lib.hid hba
  clear h h2 hxn hc hN hs ht hp hd hba
  go_enter Try.func27, Try.ntmps27
  go_upto_region 1 with (fail)
  go_quiet (fail)
  have HB2 := Lib.hid (srt_drewN HB.out nq)
  go_wp2_with fail
  go_ret
  exact ⟨rfl, HB2.out⟩
set_option maxHeartbeats 4000000 in
set_option maxRecDepth 100000 in
theorem indexSrt_any (l : List Ed) (A0 : Option Addr) (c0 : Nat) (ab ga db N : Nat) (A2 : Option Addr) (c2 : Nat) (P : Nat → Int) (dl : List Int) (w : World) (hA : Gr.EdAt w w.heap.size A0 l) (hl : l.length ≤ 100000) (h : SrAt w ab ga db N A2 c2 P dl) (hN : dl.length = N)
    (hx : ∀ x ∈ l, ∃ s t : Nat, x.src = (s : Int) ∧ x.dst = (t : Int) ∧ s < N ∧ t < N ∧ P s < P t ∧ dl.getD s 0 < dl.getD t 0) :
    Calls Try.prog 40 #[.slice A0 l.length c0, .func (.func 27) #[] #[.pointer (some ⟨ab, 0, none⟩), .pointer (some ⟨db, 0, none⟩)]] w fun e w' => e = .returned (.int .i64 (-1)) ∧ Below w.heap.size w w' := by
  have HAA := Lib.hid hA
  have HS := Lib.hid h
  have HX := Lib.hid hx
  have HN := Lib.hid hN
  clear hA h hx hN
  go_enter Try.func40, Try.ntmps40
  go_wp2_with fail
  go_loopw [8] (fun s8 wr => ∃ k : Nat, s8 = .int .i64 k ∧ k ≤ l.length ∧ Below w.heap.size w wr) (fun s8 _ => l.length - (intOf s8).toNat)
  case atStart => exact ⟨0, rfl, by omega, Below.refl _ _⟩
  case round =>
    obtain ⟨k, rfl, hk, hb⟩ := hrel
    by_cases hlt : k < l.length
    · have b1 : decide ((k : Int) < (l.length : Int)) = true := decide_eq_true (by omega)
      have b1n : decide (k < l.length) = true := decide_eq_true hlt
      have y2 : (k : Int) < (l.length : Int) := by omega
      obtain ⟨g0, o, rfl, hg, hc⟩ := HAA.out k hlt
      have hd0 := (hb.cell (p := ⟨g0, o + k * 3, none⟩) hg).trans (hc 0 _ rfl)
      have hd1 := (hb.cell (p := ⟨g0, o + k * 3 + 1, none⟩) hg).trans (hc 1 _ rfl)
      have hd2 := (hb.cell (p := ⟨g0, o + k * 3 + 2, none⟩) hg).trans (hc 2 _ rfl)
      obtain ⟨s, t, e1, e2, hs, ht, hp, hq⟩ := HX.out l[k] (List.getElem_mem hlt)
      clear hc
      generalize l[k] = x at *
      obtain ⟨xs, xd, xp⟩ := x
      dsimp only [] at e1 e2
      subst e1 e2
      dsimp only [] at hd0 hd1 hd2
      have hsl : s < dl.length := by rw [HN.out]; exact hs
      have htl : t < dl.length := by rw [HN.out]; exact ht
      rw [List.getD_eq_getElem?_getD, List.getD_eq_getElem?_getD, List.getElem?_eq_getElem hsl, List.getElem?_eq_getElem htl, Option.getD_some, Option.getD_some] at hq
      have cc := srt_any s t xp ab ga db N A2 c2 P dl wr (HS.out.next hb) HN.out hs ht hp hq
      rw [edA_def] at cc
      clear hs ht hp hq hsl htl hg
      go_wp2_with fail
      with_reducible refine cc.mono ?_
      clear cc
      rintro e w4 ⟨rfl, hb4⟩
      have HB3 := Lib.hid (hb.trans (hb4.mono hb.size))
      clear hb4 hb hd0 hd1 hd2
      go_wp2_with fail
      go_roundw
      case rel => exact ⟨k + 1, by go_num, by omega, HB3.out⟩
      case measure => simp [intOf]; omega
    · have b1 : decide ((k : Int) < (l.length : Int)) = false := decide_eq_false (by omega)
      have b1n : decide (k < l.length) = false := decide_eq_false hlt
      have HB := Lib.hid hb
      clear hb
      go_wp2_with fail
      go_ret
      exact ⟨rfl, HB.out⟩
set_option maxHeartbeats 4000000 in
set_option maxRecDepth 100000 in
theorem containsSrt_any (l : List Ed) (A0 : Option Addr) (c0 : Nat) (ab ga db N : Nat) (A2 : Option Addr) (c2 : Nat) (P : Nat → Int) (dl : List Int) (w : World) (hA : Gr.EdAt w w.heap.size A0 l) (hl : l.length ≤ 100000) (h : SrAt w ab ga db N A2 c2 P dl) (hN : dl.length = N)
    (hx : ∀ x ∈ l, ∃ s t : Nat, x.src = (s : Int) ∧ x.dst = (t : Int) ∧ s < N ∧ t < N ∧ P s < P t ∧ dl.getD s 0 < dl.getD t 0) :
    Calls Try.prog 26 #[.slice A0 l.length c0, .func (.func 27) #[] #[.pointer (some ⟨ab, 0, none⟩), .pointer (some ⟨db, 0, none⟩)]] w fun e w' => e = .returned (.bool false) ∧ Below w.heap.size w w' := by
  have cc := indexSrt_any l A0 c0 ab ga db N A2 c2 P dl w hA hl h hN hx
  clear hA h hN hx
  go_enter Try.func26, Try.ntmps26
  go_wp2_with fail
  with_reducible refine cc.mono ?_
  clear cc
  rintro e w4 ⟨rfl, hb4⟩
  have HB := Lib.hid hb4
  clear hb4
  go_wp2_with fail
  go_ret
  exact ⟨rfl, HB.out⟩
end Go.Proofs.Ytdiaejdoglccoaa
