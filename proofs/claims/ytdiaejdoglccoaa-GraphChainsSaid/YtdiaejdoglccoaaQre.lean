/- The reference's leads, Reach, Back. No condition but the lengths. -/
import Derived.Test.YtdiaejdoglccoaaQdi
namespace Go.Proofs.Ytdiaejdoglccoaa
open Go.RowKit Go.Deep Tr

namespace Gr
theorem tc_snoc {E : List Ed} {a b c : Nat} (h : Tc E a b) : ∀ x ∈ E, x.src = (b : Int) → x.dst = (c : Int) → Tc E a c := by
  induction h with
  | one y a b hy ha hb => exact fun x hx h1 h2 => .cons y _ _ _ hy ha hb (.one x _ _ hx h1 h2)
  | cons y a b d hy ha hb _ ih => exact fun x hx h1 h2 => .cons y _ _ _ hy ha hb (ih x hx h1 h2)
/-- Walks backward from the nodes in front of a node. -/
theorem tc_bk {E : List Ed} {m t : Nat} : (∃ k, Wk (row false E) (row false E t) (-1) k m) ↔ Tc E m t := by
  constructor
  · rintro ⟨k, hk⟩
    induction hk with
    | start s hs hc =>
      obtain ⟨y, hy, h1, h2⟩ := row_mem hs
      exact .one y _ _ hy h2.symm h1
    | step k c d _ hm hc ih =>
      obtain ⟨y, hy, h1, h2⟩ := row_mem hm
      exact .cons y _ _ _ hy h2.symm h1 ih
  · intro h
    induction h with
    | one x a b hx ha hb => exact ⟨0, .start a (by rw [← ha]; exact mem_row (fw := false) hx hb) (by omega)⟩
    | cons x a b c hx ha hb _ ih =>
      obtain ⟨k, hk⟩ := ih
      exact ⟨k + 1, .step k b a hk (by rw [← ha]; exact mem_row (fw := false) hx hb) (by omega)⟩
/-- What Reach and Back find, by edges. -/
def RchQ (fw : Bool) (g : Gph) (a : Int) (l : List Int) : Prop :=
  if chk g = 0 ∧ isN g a = true then ∃ p : Nat → Bool, l = chs p g.ns.length ∧ ∀ m, m < g.ns.length → (p m = true ↔ if fw = true then Tc g.es a.toNat m else Tc g.es m a.toNat) else l = []
theorem rch_q {fw : Bool} {g : Gph} {a : Int} {l : List Int} (h : Rch fw g a l) : RchQ fw g a l := by
  unfold Rch at h
  unfold RchQ
  split at h
  · rename_i hc
    rw [if_pos hc]
    obtain ⟨p, hl, hp⟩ := h
    refine ⟨p, hl, fun m _ => ?_⟩
    rw [hp m]
    cases fw with
    | true => exact tc_wk
    | false => exact tc_bk
  · rename_i hc
    rw [if_neg hc]
    exact h
theorem chs_congr {p q : Nat → Bool} : ∀ n, (∀ m, m < n → p m = q m) → chs p n = chs q n
  | 0, _ => rfl
  | n + 1, h => by rw [chs, chs, chs_congr n (fun m hm => h m (by omega)), h n (by omega)]
theorem rchq_uniq {fw : Bool} {g : Gph} {a : Int} {l l' : List Int} (h : RchQ fw g a l) (h' : RchQ fw g a l') : l = l' := by
  unfold RchQ at h h'
  by_cases hc : chk g = 0 ∧ isN g a = true
  · rw [if_pos hc] at h h'
    obtain ⟨p, rfl, hp⟩ := h
    obtain ⟨p', rfl, hp'⟩ := h'
    exact chs_congr _ fun m hm => by rw [Bool.eq_iff_iff, hp m hm, hp' m hm]
  · rw [if_neg hc] at h h'
    rw [h, h']
theorem rchq_len {fw : Bool} {g : Gph} {a : Int} {l : List Int} (h : RchQ fw g a l) : l.length ≤ 1024 := by
  unfold RchQ at h
  split at h
  · rename_i hc
    obtain ⟨p, rfl, _⟩ := h
    exact Nat.le_trans (chs_len p _) (chk_ok hc.1).nl
  · rw [h]; simp
def ldx (L : Nat → Int) (f : Nat) (x : Ed) : Bool := (x.src == (f : Int)) && decide (0 ≤ L x.dst.toNat)
theorem ldx_iff {g : Gph} (hOk : Ok g) {L : Nat → Int} {f t : Nat} (hL : Lab (row false g.es) [(t : Int)] (-1) L) : g.es.any (fun x => ldx L f x) = true ↔ Tc g.es f t := by
  rw [List.any_eq_true]
  have key : ∀ m, 0 ≤ L m ↔ m = t ∨ Tc g.es m t := fun m => by
    rw [← wk_tc, ← lab_iff hL m, decide_eq_true_eq]
  constructor
  · rintro ⟨x, hx, h⟩
    unfold ldx at h
    rw [Bool.and_eq_true, beq_iff_eq, decide_eq_true_eq, key] at h
    have hd : 0 ≤ x.dst ∧ x.dst < (g.ns.length : Int) := hOk.ed false x hx
    rcases h with ⟨h1, h2 | h2⟩
    · exact .one x _ _ hx h1 (by omega)
    · exact .cons x _ x.dst.toNat _ hx h1 (by omega) h2
  · intro h
    cases h with
    | one x _ _ hx ha hb => exact ⟨x, hx, by unfold ldx; rw [Bool.and_eq_true, beq_iff_eq, decide_eq_true_eq, key]; exact ⟨ha, .inl (by omega)⟩⟩
    | cons x _ b _ hx ha hb h2 => exact ⟨x, hx, by unfold ldx; rw [Bool.and_eq_true, beq_iff_eq, decide_eq_true_eq, key]; exact ⟨ha, .inr (by rw [hb, Int.toNat_natCast]; exact h2)⟩⟩
end Gr
theorem own_empty (w : World) (B : Nat) (hB : B ≤ w.heap.size) (T : TypeId) (size : Nat) : (w.alloc (.cells #[] T)).ownsRow B T size (.slice (some ⟨w.heap.size, 0, none⟩) 0 0) 0 [] :=
  ⟨by simp, .inr ⟨w.heap.size, 0, #[], rfl, hB, heap_alloc_new w _, Nat.le_refl _, by unfold maxLen; omega, by simp, by simp⟩⟩
set_option maxHeartbeats 8000000 in
set_option maxRecDepth 100000 in
theorem qleads_any (g : Gph) (f t : Nat) (A B : Option Addr) (c d : Nat) (w : World) (hA : GrAt w A B g) (hOk : Gr.Ok g) (ht : t < g.ns.length) :
    Calls Try.prog 32 #[grV A B c d g, .int .i64 f, .int .i64 t] w fun e w' => ∃ b, e = .returned (.bool b) ∧ (b = true ↔ Gr.Tc g.es f t) ∧ Below w.heap.size w w' := by
  have hb0 : Below w.heap.size w (w.alloc (grO A B c d g)) := (Below.refl _ _).alloc (Nat.le_refl _) _
  have hG := heap_alloc_new w (grO A B c d g)
  obtain ⟨W, hW⟩ : ∃ W, W = w.alloc (grO A B c d g) := ⟨_, rfl⟩
  rw [← hW] at hb0 hG
  obtain ⟨q0, q1⟩ := gb_cells hG
  have HA := Lib.hid hA
  have HOk := Lib.hid hOk
  have c1 := qdist_any g t (-1) A B c d W (hA.next hb0) hOk ht
  have HG := Lib.hid hG
  have HB := Lib.hid hb0
  have hel := hOk.el
  clear hA hOk hG hb0
  go_enter Try.func32, Try.ntmps32
  go_upto_region 1 with (fail)
  rw [← hW]
  clear hW
  go_wp2_with fail
  with_reducible refine c1.mono ?_
  clear c1 q0 q1
  rintro e w1 ⟨gl, rfl, L, hrow, hL, _, hb1⟩
  have HG1 := Lib.hid ((hb1.block _ (blk_lt HG.out)).trans HG.out)
  have HB1 := Lib.hid (HB.out.trans (hb1.mono HB.out.size))
  have HR := Lib.hid hrow
  have HI := Lib.hid (Gr.ldx_iff HOk.out (f := f) hL)
  clear hb1 hrow hL HG HB
  obtain ⟨q0, q1⟩ := gb_cells HG1.out
  go_wp2_with fail
  go_loopw [8] (fun s8 wr => ∃ k : Nat, s8 = .int .i64 k ∧ k ≤ g.es.length ∧ (g.es.take k).any (fun x => Gr.ldx L f x) = false ∧ wr = w1) (fun s8 _ => g.es.length - (intOf s8).toNat)
  case atStart => exact ⟨0, rfl, by omega, by simp, rfl⟩
  case round =>
    obtain ⟨k, rfl, hk, hall, hwr⟩ := hrel
    rw [hwr]
    clear hwr
    have HAL := Lib.hid hall
    clear hall
    by_cases hlt : k < g.es.length
    · have b1 : decide ((k : Int) < (g.es.length : Int)) = true := decide_eq_true (by omega)
      have b1n : decide (k < g.es.length) = true := decide_eq_true hlt
      have y2 : (k : Int) < (g.es.length : Int) := by omega
      obtain ⟨gb, oo, hBB, hg, hc⟩ := HA.out.es k hlt
      subst hBB
      have hd0 := (HB1.out.cell (p := ⟨gb, oo + k * 3, none⟩) hg).trans (hc 0 _ rfl)
      have hd1 := (HB1.out.cell (p := ⟨gb, oo + k * 3 + 1, none⟩) hg).trans (hc 1 _ rfl)
      have hds := HOk.out.ed false g.es[k] (List.getElem_mem hlt)
      have HTK := Lib.hid (show Gr.ldx L f g.es[k] = false → (g.es.take (k + 1)).any (fun x => Gr.ldx L f x) = false from fun h => Gr.any_take _ g.es k hlt HAL.out h)
      have HHT := Lib.hid (show Gr.ldx L f g.es[k] = true → Gr.Tc g.es f t from fun h => HI.out.1 (Gr.any_hit _ g.es k hlt h))
      clear hc hg
      generalize g.es[k] = x at *
      obtain ⟨xs, xd, xp⟩ := x
      simp only [Gr.eA, if_false, Bool.false_eq_true] at hds
      obtain ⟨dn, rfl⟩ : ∃ n : Nat, xd = (n : Int) := ⟨xd.toNat, by omega⟩
      dsimp only [] at hd0 hd1
      have hdl : dn < g.ns.length := by omega
      have y3 : (dn : Int) < (g.ns.length : Int) := by omega
      have e3 : w1.cell? ⟨gl, dn, none⟩ = some (.int .i64 (L dn)) := HR.out.cell hdl
      have HV := Lib.hid (show Gr.ldx L f ⟨xs, (dn : Int), xp⟩ = ((xs == (f : Int)) && decide (0 ≤ L dn)) by unfold Gr.ldx; rw [Int.toNat_natCast])
      generalize Gr.ldx L f ⟨xs, (dn : Int), xp⟩ = V at *
      clear hds
      by_cases c1 : xs = (f : Int)
      · have x1 : (xs == (f : Int)) = true := by rw [c1]; simp
        by_cases c2 : 0 ≤ L dn
        · have x2 : decide (0 ≤ L dn) = true := decide_eq_true c2
          have HN := Lib.hid (HHT.out (by rw [HV.out, x1, x2]; rfl))
          clear HTK HHT HV c1 c2
          go_wp2_with fail
          go_ret
          exact ⟨true, rfl, ⟨fun _ => HN.out, fun _ => rfl⟩, HB1.out⟩
        · have x2 : decide (0 ≤ L dn) = false := decide_eq_false c2
          have HN := Lib.hid (HTK.out (by rw [HV.out, x1, x2]; rfl))
          clear HTK HHT HV c1 c2
          go_wp2_with fail
          go_roundw
          case rel => exact ⟨k + 1, by go_num, by omega, HN.out, (by first | rfl | trivial)⟩
          case measure => simp [intOf]; omega
      · have x1 : (xs == (f : Int)) = false := by rw [beq_eq_false_iff_ne]; exact c1
        have HN := Lib.hid (HTK.out (by rw [HV.out, x1]; rfl))
        clear HTK HHT HV c1
        go_wp2_with fail
        go_roundw
        case rel => exact ⟨k + 1, by go_num, by omega, HN.out, (by first | rfl | trivial)⟩
        case measure => simp [intOf]; omega
    · have b1 : decide ((k : Int) < (g.es.length : Int)) = false := decide_eq_false (by omega)
      have b1n : decide (k < g.es.length) = false := decide_eq_false hlt
      have HN := Lib.hid (Gr.any_full _ g.es k hlt HAL.out)
      clear HAL
      go_wp2_with fail
      go_ret
      exact ⟨false, rfl, ⟨fun h => (by cases h), fun h => (by have h2 := HI.out.2 h; rw [HN.out] at h2; cases h2)⟩, HB1.out⟩
/-- A list that the reference's Reach or Back leaves. -/
def GotRq (w : World) (fw : Bool) (g : Gph) (a : Int) : Ending → World → Prop := fun e w' => ∃ v, e = .returned v ∧ ∃ l, Gr.RchQ fw g a l ∧ w'.ownsRow w.heap.size 3 1 v l.length (Gr.insV l) ∧ Below w.heap.size w w'
set_option maxHeartbeats 8000000 in
set_option maxRecDepth 100000 in
theorem qreach_any (g : Gph) (a : Int) (A B : Option Addr) (c d : Nat) (w : World) (hA : GrAt w A B g) :
    Calls Try.prog 13 #[grV A B c d g, .int .i64 a] w (GotRq w true g a) := by
  obtain ⟨i0, hi0, hz0, hz1, hz2⟩ := info_parts infoIn
  have hb0 : Below w.heap.size w (w.alloc (grO A B c d g)) := (Below.refl _ _).alloc (Nat.le_refl _) _
  have hG := heap_alloc_new w (grO A B c d g)
  obtain ⟨W0, hW0⟩ : ∃ W, W = w.alloc (grO A B c d g) := ⟨_, rfl⟩
  rw [← hW0] at hb0 hG
  obtain ⟨W, hW⟩ : ∃ W, W = W0.alloc (.cells #[] 3) := ⟨_, rfl⟩
  have hb1 : Below w.heap.size w W := by rw [hW]; exact hb0.alloc hb0.size _
  have hG1 : W.heap[w.heap.size]? = some (grO A B c d g) := by rw [hW]; exact (blk_alloc_lt W0 _ _ (blk_lt hG)).trans hG
  have HOE := Lib.hid (show W.ownsRow w.heap.size 3 1 (.slice (some ⟨W0.heap.size, 0, none⟩) 0 0) 0 [] by rw [hW]; exact own_empty W0 _ hb0.size _ _)
  have HA := Lib.hid hA
  have c1 := qright_any g a A B c d W (hA.next hb1)
  have HC := Lib.hid (fun (h : Gr.chk g = 0) => Gr.chk_ok h)
  have HN := Lib.hid (show (decide (Gr.chk g = 0) && Gr.isN g a) = false → Gr.RchQ true g a [] from fun h => by
    unfold Gr.RchQ
    rw [if_neg]
    rintro ⟨h1, h2⟩
    rw [decide_eq_true h1, h2] at h
    cases h)
  have HY := Lib.hid (show (decide (Gr.chk g = 0) && Gr.isN g a) = true → Gr.chk g = 0 ∧ Gr.isN g a = true from fun h => by rwa [Bool.and_eq_true, decide_eq_true_eq] at h)
  obtain ⟨q0, q1⟩ := gb_cells hG1
  have HG1 := Lib.hid hG1
  have HB1 := Lib.hid hb1
  clear hA hb0 hG hb1 hG1
  go_enter Try.func13, Try.ntmps13
  go_upto_region 1 with (fail)
  rw [← hW0]
  clear hW0
  go_upto_region 2 with (fail)
  rw [← hW]
  clear hW
  generalize W0.heap.size = eb at *
  generalize (decide (Gr.chk g = 0) && Gr.isN g a) = ok at *
  go_wp2_with fail
  with_reducible refine c1.mono ?_
  clear c1 q0 q1
  rintro e w2 ⟨rfl, hb2⟩
  have HG2 := Lib.hid ((hb2.block _ (blk_lt HG1.out)).trans HG1.out)
  have HB2 := Lib.hid (HB1.out.trans (hb2.mono HB1.out.size))
  have HO2 := Lib.hid (own_below HOE.out hb2)
  clear hb2 HG1 HB1 HOE
  cases ok with
  | false =>
    have HT := Lib.hid (HN.out rfl)
    clear HN HY
    go_wp2_with fail
    go_ret
    exact ⟨_, rfl, [], HT.out, HO2.out, HB2.out⟩
  | true =>
  have HCN := Lib.hid (HY.out rfl)
  have HOk := Lib.hid (HC.out HCN.out.1)
  have hf := Gr.isN_lt HCN.out.2
  obtain ⟨fn, rfl⟩ : ∃ n : Nat, a = (n : Int) := ⟨a.toNat, by omega⟩
  have hfl : fn < g.ns.length := by omega
  have hnl := HOk.out.nl
  have HPD := Lib.hid (show ∃ p : Nat → Bool, ∀ m, p m = true ↔ Gr.Tc g.es fn m from ⟨fun m => @decide (Gr.Tc g.es fn m) (Classical.propDecidable _), fun m => @decide_eq_true_iff _ (Classical.propDecidable _)⟩)
  obtain ⟨p, hp⟩ := HPD.out
  have HP := Lib.hid hp
  have HR := Lib.hid (show Gr.RchQ true g (fn : Int) (Gr.chs p g.ns.length) by
    unfold Gr.RchQ
    rw [if_pos HCN.out]
    exact ⟨p, rfl, fun m _ => (hp m).trans (by rw [Int.toNat_natCast]; simp)⟩)
  clear hf hp HN HY HC HPD
  obtain ⟨q0, q1⟩ := gb_cells HG2.out
  go_wp2_with fail
  clear q0 q1
  go_loopw [5, 6] (fun s5 s6 wr => ∃ k : Nat, s6 = .int .i64 k ∧ k ≤ g.ns.length ∧ wr.ownsRow w.heap.size 3 1 s5 (Gr.chs p k).length (Gr.insV (Gr.chs p k)) ∧ wr.heap[w.heap.size]? = some (grO A B c d g) ∧ Below w.heap.size w wr) (fun _ s6 _ => g.ns.length - (intOf s6).toNat)
  case atStart => exact ⟨0, rfl, by omega, HO2.out, HG2.out, HB2.out⟩
  case round =>
    obtain ⟨k, rfl, hk, hown, hG, hb⟩ := hrel
    have hcl := Gr.chs_len p k
    obtain ⟨q0, q1⟩ := gb_cells hG
    have hgl := blk_lt hG
    by_cases hlt : k < g.ns.length
    · have b1 : decide ((k : Int) < (g.ns.length : Int)) = true := decide_eq_true (by omega)
      have b1n : decide (k < g.ns.length) = true := decide_eq_true hlt
      have cc := qleads_any g fn k A B c d wr (HA.out.next hb) HOk.out hlt
      have HT := Lib.hid (Gr.chs_succ p k)
      have HPK := Lib.hid (HP.out k)
      have HG := Lib.hid hG
      have HB := Lib.hid hb
      have HO := Lib.hid hown
      generalize Gr.chs p k = T at *
      generalize p k = v at *
      clear hG hb hown
      go_wp2_with fail
      with_reducible refine cc.mono ?_
      clear cc q0 q1
      rintro e w4 ⟨b, rfl, hbi, hb4⟩
      obtain rfl : b = v := by rw [Bool.eq_iff_iff, hbi, HPK.out]
      have HB4 := Lib.hid (HB.out.trans (hb4.mono HB.out.size))
      have HG4 := Lib.hid ((hb4.block _ (blk_lt HG.out)).trans HG.out)
      have HO4 := Lib.hid (own_below HO.out hb4)
      clear hbi hb4 HB HG HO HPK
      cases b with
      | false =>
        have HT' := Lib.hid (show Gr.chs p (k + 1) = T from HT.out)
        clear HT
        go_wp2_with fail
        go_roundw
        case rel => exact ⟨k + 1, by go_num, by omega, by rw [HT'.out]; exact HO4.out, HG4.out, HB4.out⟩
        case measure => simp [intOf]; omega
      | true =>
        have HT' := Lib.hid (show Gr.chs p (k + 1) = T ++ [(k : Int)] from HT.out)
        have hsz := HB4.out.size
        have HG5 := Lib.hid ((blk_alloc_lt w4 (.cells #[.int .i64 k] 3) _ (blk_lt HG4.out)).trans HG4.out)
        clear HT
        go_wp2_with (at_builtin; refine wpList_append_own_wide _ (by rfl) _ _ 29 (by rfl) w.heap.size 3 i0 _ 1 8 Try.underlying29 hi0 hz0 hz1 hz2 rfl (by omega) _ T.length _ (by rfl) (HO4.out.alloc _) ⟨w4.heap.size, 0, none⟩ 1 1 [_] (by rfl) (by rfl) (World.news_of_block (cs := #[_]) (t := 3) (fr := (0, 0)) (heap_alloc_new w4 _)) (by simp [Value.oneCell']) (by unfold maxLen; omega) (by omega) (by simp; omega) ?_; intro v6 w6 hown6 hgrow6 _)
        have HO6 := Lib.hid hown6
        have HB6 := Lib.hid (below_grown (HB4.out.alloc hsz _) (by simp; omega) (HO4.out.alloc _) hgrow6)
        have HG6 := Lib.hid (show w6.heap[w.heap.size]? = some (grO A B c d g) by
          rw [hgrow6.block w.heap.size (blk_lt HG5.out) (fun hx => by
            obtain ⟨c', fz, hx2⟩ := Lib.ownsRow_kind (HO4.out.alloc (.cells #[.int .i64 k] 3)) _ hx.symm
            exact kind_ne HG5.out hx2 (by decide) rfl)]
          exact HG5.out)
        clear hown6 hgrow6
        go_wp2_with fail
        go_roundw
        case rel => exact ⟨k + 1, by go_num, by omega, by rw [HT'.out, List.length_append, List.length_singleton, Gr.insV_app, Gr.insV_one]; exact HO6.out, HG6.out, HB6.out⟩
        case measure => simp [intOf]; omega
    · have b1 : decide ((k : Int) < (g.ns.length : Int)) = false := decide_eq_false (by omega)
      have b1n : decide (k < g.ns.length) = false := decide_eq_false hlt
      have hkn : k = g.ns.length := by omega
      have HO := Lib.hid hown
      have HB := Lib.hid hb
      have HK := Lib.hid hkn
      clear hown hb hkn hG
      go_wp2_with fail
      go_ret
      exact ⟨_, rfl, _, HR.out, by rw [← HK.out]; exact HO.out, HB.out⟩
set_option maxHeartbeats 8000000 in
set_option maxRecDepth 100000 in
theorem qback_any (g : Gph) (a : Int) (A B : Option Addr) (c d : Nat) (w : World) (hA : GrAt w A B g) :
    Calls Try.prog 15 #[grV A B c d g, .int .i64 a] w (GotRq w false g a) := by
  obtain ⟨i0, hi0, hz0, hz1, hz2⟩ := info_parts infoIn
  have hb0 : Below w.heap.size w (w.alloc (grO A B c d g)) := (Below.refl _ _).alloc (Nat.le_refl _) _
  have hG := heap_alloc_new w (grO A B c d g)
  obtain ⟨W0, hW0⟩ : ∃ W, W = w.alloc (grO A B c d g) := ⟨_, rfl⟩
  rw [← hW0] at hb0 hG
  obtain ⟨W, hW⟩ : ∃ W, W = W0.alloc (.cells #[] 3) := ⟨_, rfl⟩
  have hb1 : Below w.heap.size w W := by rw [hW]; exact hb0.alloc hb0.size _
  have hG1 : W.heap[w.heap.size]? = some (grO A B c d g) := by rw [hW]; exact (blk_alloc_lt W0 _ _ (blk_lt hG)).trans hG
  have HOE := Lib.hid (show W.ownsRow w.heap.size 3 1 (.slice (some ⟨W0.heap.size, 0, none⟩) 0 0) 0 [] by rw [hW]; exact own_empty W0 _ hb0.size _ _)
  have HA := Lib.hid hA
  have c1 := qright_any g a A B c d W (hA.next hb1)
  have HC := Lib.hid (fun (h : Gr.chk g = 0) => Gr.chk_ok h)
  have HN := Lib.hid (show (decide (Gr.chk g = 0) && Gr.isN g a) = false → Gr.RchQ false g a [] from fun h => by
    unfold Gr.RchQ
    rw [if_neg]
    rintro ⟨h1, h2⟩
    rw [decide_eq_true h1, h2] at h
    cases h)
  have HY := Lib.hid (show (decide (Gr.chk g = 0) && Gr.isN g a) = true → Gr.chk g = 0 ∧ Gr.isN g a = true from fun h => by rwa [Bool.and_eq_true, decide_eq_true_eq] at h)
  obtain ⟨q0, q1⟩ := gb_cells hG1
  have HG1 := Lib.hid hG1
  have HB1 := Lib.hid hb1
  clear hA hb0 hG hb1 hG1
  go_enter Try.func15, Try.ntmps15
  go_upto_region 1 with (fail)
  rw [← hW0]
  clear hW0
  go_upto_region 2 with (fail)
  rw [← hW]
  clear hW
  generalize W0.heap.size = eb at *
  generalize (decide (Gr.chk g = 0) && Gr.isN g a) = ok at *
  go_wp2_with fail
  with_reducible refine c1.mono ?_
  clear c1 q0 q1
  rintro e w2 ⟨rfl, hb2⟩
  have HG2 := Lib.hid ((hb2.block _ (blk_lt HG1.out)).trans HG1.out)
  have HB2 := Lib.hid (HB1.out.trans (hb2.mono HB1.out.size))
  have HO2 := Lib.hid (own_below HOE.out hb2)
  clear hb2 HG1 HB1 HOE
  cases ok with
  | false =>
    have HT := Lib.hid (HN.out rfl)
    clear HN HY
    go_wp2_with fail
    go_ret
    exact ⟨_, rfl, [], HT.out, HO2.out, HB2.out⟩
  | true =>
  have HCN := Lib.hid (HY.out rfl)
  have HOk := Lib.hid (HC.out HCN.out.1)
  have hf := Gr.isN_lt HCN.out.2
  obtain ⟨fn, rfl⟩ : ∃ n : Nat, a = (n : Int) := ⟨a.toNat, by omega⟩
  have hfl : fn < g.ns.length := by omega
  have hnl := HOk.out.nl
  have HPD := Lib.hid (show ∃ p : Nat → Bool, ∀ m, p m = true ↔ Gr.Tc g.es m fn from ⟨fun m => @decide (Gr.Tc g.es m fn) (Classical.propDecidable _), fun m => @decide_eq_true_iff _ (Classical.propDecidable _)⟩)
  obtain ⟨p, hp⟩ := HPD.out
  have HP := Lib.hid hp
  have HR := Lib.hid (show Gr.RchQ false g (fn : Int) (Gr.chs p g.ns.length) by
    unfold Gr.RchQ
    rw [if_pos HCN.out]
    exact ⟨p, rfl, fun m _ => (hp m).trans (by rw [Int.toNat_natCast]; simp)⟩)
  clear hf hp HN HY HC HPD
  obtain ⟨q0, q1⟩ := gb_cells HG2.out
  go_wp2_with fail
  clear q0 q1
  go_loopw [5, 6] (fun s5 s6 wr => ∃ k : Nat, s6 = .int .i64 k ∧ k ≤ g.ns.length ∧ wr.ownsRow w.heap.size 3 1 s5 (Gr.chs p k).length (Gr.insV (Gr.chs p k)) ∧ wr.heap[w.heap.size]? = some (grO A B c d g) ∧ Below w.heap.size w wr) (fun _ s6 _ => g.ns.length - (intOf s6).toNat)
  case atStart => exact ⟨0, rfl, by omega, HO2.out, HG2.out, HB2.out⟩
  case round =>
    obtain ⟨k, rfl, hk, hown, hG, hb⟩ := hrel
    have hcl := Gr.chs_len p k
    obtain ⟨q0, q1⟩ := gb_cells hG
    have hgl := blk_lt hG
    by_cases hlt : k < g.ns.length
    · have b1 : decide ((k : Int) < (g.ns.length : Int)) = true := decide_eq_true (by omega)
      have b1n : decide (k < g.ns.length) = true := decide_eq_true hlt
      have cc := qleads_any g k fn A B c d wr (HA.out.next hb) HOk.out hfl
      have HT := Lib.hid (Gr.chs_succ p k)
      have HPK := Lib.hid (HP.out k)
      have HG := Lib.hid hG
      have HB := Lib.hid hb
      have HO := Lib.hid hown
      generalize Gr.chs p k = T at *
      generalize p k = v at *
      clear hG hb hown
      go_wp2_with fail
      with_reducible refine cc.mono ?_
      clear cc q0 q1
      rintro e w4 ⟨b, rfl, hbi, hb4⟩
      obtain rfl : b = v := by rw [Bool.eq_iff_iff, hbi, HPK.out]
      have HB4 := Lib.hid (HB.out.trans (hb4.mono HB.out.size))
      have HG4 := Lib.hid ((hb4.block _ (blk_lt HG.out)).trans HG.out)
      have HO4 := Lib.hid (own_below HO.out hb4)
      clear hbi hb4 HB HG HO HPK
      cases b with
      | false =>
        have HT' := Lib.hid (show Gr.chs p (k + 1) = T from HT.out)
        clear HT
        go_wp2_with fail
        go_roundw
        case rel => exact ⟨k + 1, by go_num, by omega, by rw [HT'.out]; exact HO4.out, HG4.out, HB4.out⟩
        case measure => simp [intOf]; omega
      | true =>
        have HT' := Lib.hid (show Gr.chs p (k + 1) = T ++ [(k : Int)] from HT.out)
        have hsz := HB4.out.size
        have HG5 := Lib.hid ((blk_alloc_lt w4 (.cells #[.int .i64 k] 3) _ (blk_lt HG4.out)).trans HG4.out)
        clear HT
        go_wp2_with (at_builtin; refine wpList_append_own_wide _ (by rfl) _ _ 29 (by rfl) w.heap.size 3 i0 _ 1 8 Try.underlying29 hi0 hz0 hz1 hz2 rfl (by omega) _ T.length _ (by rfl) (HO4.out.alloc _) ⟨w4.heap.size, 0, none⟩ 1 1 [_] (by rfl) (by rfl) (World.news_of_block (cs := #[_]) (t := 3) (fr := (0, 0)) (heap_alloc_new w4 _)) (by simp [Value.oneCell']) (by unfold maxLen; omega) (by omega) (by simp; omega) ?_; intro v6 w6 hown6 hgrow6 _)
        have HO6 := Lib.hid hown6
        have HB6 := Lib.hid (below_grown (HB4.out.alloc hsz _) (by simp; omega) (HO4.out.alloc _) hgrow6)
        have HG6 := Lib.hid (show w6.heap[w.heap.size]? = some (grO A B c d g) by
          rw [hgrow6.block w.heap.size (blk_lt HG5.out) (fun hx => by
            obtain ⟨c', fz, hx2⟩ := Lib.ownsRow_kind (HO4.out.alloc (.cells #[.int .i64 k] 3)) _ hx.symm
            exact kind_ne HG5.out hx2 (by decide) rfl)]
          exact HG5.out)
        clear hown6 hgrow6
        go_wp2_with fail
        go_roundw
        case rel => exact ⟨k + 1, by go_num, by omega, by rw [HT'.out, List.length_append, List.length_singleton, Gr.insV_app, Gr.insV_one]; exact HO6.out, HG6.out, HB6.out⟩
        case measure => simp [intOf]; omega
    · have b1 : decide ((k : Int) < (g.ns.length : Int)) = false := decide_eq_false (by omega)
      have b1n : decide (k < g.ns.length) = false := decide_eq_false hlt
      have hkn : k = g.ns.length := by omega
      have HO := Lib.hid hown
      have HB := Lib.hid hb
      have HK := Lib.hid hkn
      clear hown hb hkn hG
      go_wp2_with fail
      go_ret
      exact ⟨_, rfl, _, HR.out, by rw [← HK.out]; exact HO.out, HB.out⟩
end Go.Proofs.Ytdiaejdoglccoaa
