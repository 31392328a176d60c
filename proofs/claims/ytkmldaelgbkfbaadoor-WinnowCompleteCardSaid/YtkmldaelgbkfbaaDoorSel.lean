/- Select. No condition but the lengths. -/
import Derived.Test.YtkmldaelgbkfbaaDoorGot
namespace Go.Proofs.YtkmldaelgbkfbaaDoor
open Go.RowKit Go.Deep
namespace Wn
theorem cnd_next (l : List Int) (i K : Nat) (hK : 0 < K) : ∃ x t, cnd l (i - 1) (i + K) = x :: t ∧ (x < i → cnd l i (i + K) = t) ∧ (i ≤ x → cnd l i (i + K) = x :: t) := by
  cases i with
  | zero =>
    obtain ⟨t, ht⟩ := cnd_head l 0 K hK
    exact ⟨_, t, ht, fun h => by omega, fun _ => ht⟩
  | succ i =>
    obtain ⟨t, ht⟩ := cnd_head l i (K + 1) (by omega)
    rw [show i + (K + 1) = i + 1 + K by omega] at ht
    exact ⟨_, t, ht, fun h => cnd_drop l i _ _ t ht h, fun h => cnd_keep l i _ _ t ht h⟩
theorem Tn.below {B : Nat} {w wr w' : World} {cb : Nat} {v : Value} {q : List Int} (h : Tn wr w' cb v) (hq : QAt wr B v q) (hb : Below B w wr) (hc : B ≤ cb) (hB : B ≤ w.heap.size) : Below B w w' :=
  ⟨h.os.trans hb.os, h.tape.trans hb.tape, h.output.trans hb.output, Nat.le_trans hb.size h.size, fun k hk => (h.block k (by have := hb.size; omega) (by omega) (fun e => by have := (hq.lt k e).2.1; omega)).trans (hb.block k hk)⟩
/-- The state of Select's pass. -/
structure St (w0 : World) (A : Option Addr) (n c : Nat) (wr : World) (v : Value) (q : List Int) : Prop where
  lh : wr.heap[w0.heap.size]? = some (.cells #[.slice A n c] 47 (0, 0))
  ch : wr.heap[w0.heap.size + 1]? = some (.cells #[v] 47 (0, 0))
  qa : QAt wr w0.heap.size v q
  be : Below w0.heap.size w0 wr
/-- The variable of the candidates holds another list. -/
theorem St.set {w0 : World} {A : Option Addr} {n c : Nat} {wr : World} {v u : Value} {q q' : List Int} (h : St w0 A n c wr v q) (hq : QAt wr w0.heap.size u q') : St w0 A n c (wr.setCell ⟨w0.heap.size + 1, 0, none⟩ u) u q' := by
  refine ⟨(heap_setCell_other wr ⟨w0.heap.size + 1, 0, none⟩ _ _ (by show w0.heap.size ≠ w0.heap.size + 1; omega)).trans h.lh, heap_setCell_same wr (w0.heap.size + 1) 0 _ _ u h.ch, hq.same fun g hg => heap_setCell_other wr ⟨w0.heap.size + 1, 0, none⟩ g _ (fun e => ?_), h.be.setCell (p := ⟨w0.heap.size + 1, 0, none⟩) (by show w0.heap.size ≤ w0.heap.size + 1; omega) _⟩
  obtain ⟨_, _, cur, h3⟩ := hq.lt g hg
  exact kind_ne h3 h.ch (by decide) e
/-- A row that is none of the variables keeps when the variable is set. -/
theorem St.keep {w0 : World} {A : Option Addr} {n c : Nat} {wr : World} {v : Value} {q s : List Int} {sv : Value} (h : St w0 A n c wr v q) (hs : QAt wr w0.heap.size sv s) (u : Value) : QAt (wr.setCell ⟨w0.heap.size + 1, 0, none⟩ u) w0.heap.size sv s :=
  hs.same fun g hg => heap_setCell_other wr ⟨w0.heap.size + 1, 0, none⟩ g _ (fun e => by
    obtain ⟨_, _, cur, h3⟩ := hs.lt g hg
    exact kind_ne h3 h.ch (by decide) e)
/-- Another block has turned, or nothing. -/
theorem St.other {w0 : World} {A : Option Addr} {n c : Nat} {wr w' : World} {v sv : Value} {q s : List Int} (h : St w0 A n c wr v q) (hs : QAt wr w0.heap.size sv s) (hd : ∀ g, sv.ownBlock = some g → v.ownBlock = some g → False) (hg : wr.grownBy w' sv.ownBlock) : St w0 A n c w' v q := by
  have h1 : ∀ g, sv.ownBlock = some g → ∃ cur, wr.heap[g]? = some (.cells cur 3 (0, 0)) := fun g hg => (hs.lt g hg).2.2
  refine ⟨(hg.block _ (blk_lt h.lh) (fun e => ?_)).trans h.lh, (hg.block _ (blk_lt h.ch) (fun e => ?_)).trans h.ch, h.qa.same fun g hgv => hg.block g (h.qa.lt g hgv).1 (fun e => hd g e.symm hgv), h.be.trans ⟨hg.os, hg.tape, hg.output, hg.size, fun k hk => hg.block k (by have := h.be.size; omega) (fun e => by have := (hs.lt k e.symm).2.1; omega)⟩⟩
  · obtain ⟨cur, h2⟩ := h1 _ e.symm
    exact kind_ne h2 h.lh (by decide) rfl
  · obtain ⟨cur, h2⟩ := h1 _ e.symm
    exact kind_ne h2 h.ch (by decide) rfl
theorem St.drew {w0 : World} {A : Option Addr} {n c : Nat} {wr : World} {v : Value} {q : List Int} (h : St w0 A n c wr v q) : St w0 A n c wr.drew v q := ⟨h.lh, h.ch, h.qa.same fun _ _ => rfl, ⟨h.be.os, h.be.tape, h.be.output, h.be.size, h.be.block⟩⟩
theorem St.drewN {w0 : World} {A : Option Addr} {n c : Nat} {wr : World} {v : Value} {q : List Int} (h : St w0 A n c wr v q) (m : Nat) : St w0 A n c (wr.drewN m) v q := ⟨h.lh, h.ch, h.qa.same fun _ _ => rfl, ⟨h.be.os, h.be.tape, h.be.output, h.be.size, h.be.block⟩⟩
theorem St.alloc {w0 : World} {A : Option Addr} {n c : Nat} {wr : World} {v : Value} {q : List Int} (h : St w0 A n c wr v q) (O : Obj) : St w0 A n c (wr.alloc O) v q :=
  ⟨(blk_alloc_lt wr O _ (blk_lt h.lh)).trans h.lh, (blk_alloc_lt wr O _ (blk_lt h.ch)).trans h.ch, h.qa.same fun g hg => blk_alloc_lt wr O g (h.qa.lt g hg).1, h.be.alloc h.be.size _⟩
theorem St.enter {w0 : World} {l : List Int} {A : Option Addr} {c lo n : Nat} {wr : World} {v : Value} (h : St w0 A l.length c wr v (ints (cnd l lo n))) (hA : Gr.InAt w0 w0.heap.size A l) (hlo : lo ≤ n) (hn : n < l.length) (hl : l.length ≤ 100000) :
    Calls Tryd.prog 32 #[.int .i64 n, .pointer (some ⟨w0.heap.size + 1, 0, none⟩), .pointer (some ⟨w0.heap.size, 0, none⟩)] wr fun e w' => e = .returned (.tuple #[]) ∧ ∃ v', St w0 A l.length c w' v' (ints (cnd l lo (n + 1))) ∧ ∀ sv s, QAt wr w0.heap.size sv s → (∀ g, sv.ownBlock = some g → v.ownBlock = some g → False) → QAt w' w0.heap.size sv s ∧ (∀ g, sv.ownBlock = some g → v'.ownBlock = some g → False) := by
  refine (enter_any l A c lo n w0.heap.size w0.heap.size (w0.heap.size + 1) v wr h.lh h.ch (hA.keep h.be) h.qa hlo hn hl (by omega) h.be.size (by omega)).mono fun e w' hx => ?_
  obtain ⟨he, v', h1, h2, h3, h4⟩ := hx
  have hv : ∀ g, v.ownBlock = some g → ∃ cur, wr.heap[g]? = some (.cells cur 3 (0, 0)) := fun g hg => (h.qa.lt g hg).2.2
  refine ⟨he, v', ⟨(h3.block _ (blk_lt h.lh) (by omega) (fun e => ?_)).trans h.lh, h1, h2, h3.below h.qa h.be (by omega) (Nat.le_refl _)⟩, fun sv s hs hd => ⟨hs.same fun g hg => h3.block g (hs.lt g hg).1 (fun e => ?_) (fun e => hd g hg e), fun g hg hg' => ?_⟩⟩
  · obtain ⟨cur, h5⟩ := hv _ e
    exact kind_ne h5 h.lh (by decide) rfl
  · obtain ⟨_, _, cur, h5⟩ := hs.lt g hg
    exact kind_ne h5 h.ch (by decide) e
  · rcases h4 g hg' with h5 | h5
    · exact hd g hg h5
    · have := (hs.lt g hg).1; omega
set_option maxHeartbeats 16000000 in
set_option maxRecDepth 100000 in
theorem select_any (l : List Int) (n : Int) (A : Option Addr) (c : Nat) (w : World) (hA : Gr.InAt w w.heap.size A l) (hl : l.length ≤ 100000) (_ : l.length ≤ c) :
    Calls Tryd.prog 18 #[.slice A l.length c, .int .i64 n] w (GotI w (selL l n) (selE l n)) := by
  obtain ⟨i0, hi0, hz0, hz1, hz2⟩ := info_parts infoIn
  have HL := Lib.hid (show selL l n = if sz n = true ∧ l.length ≤ 8192 then ints (sel l n.toNat (l.length + 1 - n.toNat)) else [] from rfl)
  have HE := Lib.hid (show selE l n = if sz n = true then if 8192 < l.length then 10 else 0 else 3 from rfl)
  generalize selL l n = L at *
  generalize selE l n = E at *
  have c1 := size_any n (w.alloc (.cells #[.slice A l.length c] 47 (0, 0)))
  have hlb := heap_alloc_new w (.cells #[.slice A l.length c] 47 (0, 0))
  have HB0 := Lib.hid (show Below w.heap.size w (w.alloc (.cells #[.slice A l.length c] 47 (0, 0))) from (Below.refl _ _).alloc (Nat.le_refl _) _)
  have e1 : (w.alloc (.cells #[.slice A l.length c] 47 (0, 0))).cell? ⟨w.heap.size, 0, none⟩ = some (.slice A l.length c) := by rw [cell_of_row _ _ _ _ _ _ hlb]; rfl
  cases hz : sz n with
  | false =>
    rw [hz] at c1
    have HT := Lib.hid (show L = [] ∧ E = 3 from ⟨by rw [HL.out, hz, if_neg (by simp)], by rw [HE.out, hz, if_neg (by simp)]⟩)
    clear HL HE hz e1 hlb
    go_enter Tryd.func18, Tryd.ntmps18
    go_wp2_with (go_at_call 20; (with_reducible refine c1.mono ?_); rintro e w' ⟨rfl, rfl⟩)
    go_ret2
    exact ⟨none, 0, by rw [HT.out.1, HT.out.2]; rfl, by rw [HT.out.1]; exact Nat.le_refl _, by unfold maxLen; omega, by rw [HT.out.1]; exact Gr.ElAt.nil _ _ _ _ _, HB0.out⟩
  | true =>
  rw [hz] at c1
  obtain ⟨K, rfl, hK1, hK2⟩ := sz_of hz
  by_cases h8 : 8192 < l.length
  · have b8 : decide ((8192 : Int) < (l.length : Int)) = true := decide_eq_true (by omega)
    have b8n : decide (8192 < l.length) = true := decide_eq_true h8
    have HT := Lib.hid (show L = [] ∧ E = 10 from ⟨by rw [HL.out, if_neg (fun h => by omega)], by rw [HE.out, hz, if_pos rfl, if_pos h8]⟩)
    clear HL HE hz hlb h8
    go_enter Tryd.func18, Tryd.ntmps18
    go_wp2_with (go_at_call 20; (with_reducible refine c1.mono ?_); rintro e w' ⟨rfl, rfl⟩)
    go_ret2
    exact ⟨none, 0, by rw [HT.out.1, HT.out.2]; rfl, by rw [HT.out.1]; exact Nat.le_refl _, by unfold maxLen; omega, by rw [HT.out.1]; exact Gr.ElAt.nil _ _ _ _ _, HB0.out⟩
  have b8 : decide ((8192 : Int) < (l.length : Int)) = false := decide_eq_false (by omega)
  have b8n : decide (8192 < l.length) = false := decide_eq_false h8
  have HT := Lib.hid (show L = ints (sel l K (l.length + 1 - K)) ∧ E = 0 from ⟨by rw [HL.out, if_pos ⟨hz, by omega⟩]; rfl, by rw [HE.out, hz, if_pos rfl, if_neg h8]⟩)
  obtain ⟨k, hk⟩ : ∃ k, K = k + 1 := ⟨K - 1, by omega⟩
  obtain ⟨M, hM⟩ : ∃ M, M = min k l.length := ⟨_, rfl⟩
  obtain ⟨D, hD⟩ : ∃ D : Int, D = (l.length : Int) - (k : Int) := ⟨_, rfl⟩
  have t1 : IntKind.i64.wrap ((K : Int) - 1) = (k : Int) := by rw [IntKind.wrap_i64]; omega
  have t2 : min (k : Int) (l.length : Int) = (M : Int) := by omega
  have t3 : IntKind.i64.wrap ((l.length : Int) - (K : Int)) = D - 1 := by rw [IntKind.wrap_i64]; omega
  have T4 := Lib.hid (show wrap64 D = D by unfold wrap64; omega)
  have HKK := Lib.hid (show K = k + 1 ∧ K ≤ 1024 ∧ l.length ≤ 8192 ∧ M = min k l.length ∧ D = (l.length : Int) - (k : Int) from ⟨hk, hK2, by omega, hM, hD⟩)
  have HS0 := Lib.hid (show St w A l.length c ((w.alloc (.cells #[.slice A l.length c] 47 (0, 0))).alloc (.cells #[.slice none 0 0] 47 (0, 0))) (.slice none 0 0) (ints (cnd l 0 0)) from
    ⟨(blk_alloc_lt _ _ _ (blk_lt hlb)).trans hlb, by
      have := heap_alloc_new (w.alloc (.cells #[.slice A l.length c] 47 (0, 0))) (.cells #[.slice none 0 0] 47 (0, 0))
      rwa [show (w.alloc (.cells #[.slice A l.length c] 47 (0, 0))).heap.size = w.heap.size + 1 by simp] at this, QAt.nil _ _, HB0.out.alloc HB0.out.size _⟩)
  have hsz1 : (w.alloc (.cells #[.slice A l.length c] 47 (0, 0))).heap.size = w.heap.size + 1 := by simp
  have HSZ := Lib.hid hsz1
  have HAA := Lib.hid hA
  clear HL HE hz h8 hK1 hK2 hM hD hk HB0 hlb hA
  go_enter Tryd.func18, Tryd.ntmps18
  go_upto_region 5 with (go_at_call 20; (with_reducible refine c1.mono ?_); rintro e w' ⟨rfl, rfl⟩)
  clear c1
  go_upto_region 7 with (fail)
  obtain ⟨W, hW⟩ : ∃ W, W = (w.alloc (.cells #[.slice A l.length c] 47 (0, 0))).alloc (.cells #[.slice none 0 0] 47 (0, 0)) := ⟨_, rfl⟩
  rw [← hW] at HS0 ⊢
  try rw [hsz1]
  have e1 : W.cell? ⟨w.heap.size, 0, none⟩ = some (.slice A l.length c) := by rw [cell_of_row _ _ _ _ _ _ HS0.out.lh]; rfl
  clear hW hsz1 HSZ
  go_wp2_with fail
  go_loopw [24] (fun s24 wr => ∃ (i : Nat) (v : Value), s24 = .int .i64 i ∧ i ≤ M ∧ St w A l.length c wr v (ints (cnd l 0 i))) (fun s24 _ => M - (intOf s24).toNat)
  case atStart => exact ⟨0, _, rfl, by omega, HS0.out⟩
  case round =>
    obtain ⟨i, v, rfl, hi, hst⟩ := hrel
    by_cases hlt : i < M
    · have b1 : decide ((i : Int) < (M : Int)) = true := decide_eq_true (by omega)
      have b1n : decide (i < M) = true := decide_eq_true hlt
      have cc := hst.enter HAA.out (by omega) (by have := HKK.out; omega) hl
      clear hst
      go_wp2_with fail
      (with_reducible refine cc.mono ?_); rintro e w2 ⟨rfl, v2, hst2, -⟩
      have HS2 := Lib.hid hst2
      clear hst2 cc
      go_wp2_with fail
      go_roundw
      case rel => exact ⟨i + 1, v2, by go_num, by omega, HS2.out⟩
      case measure => simp [intOf]; omega
    · have b1 : decide ((i : Int) < (M : Int)) = false := decide_eq_false (by omega)
      have b1n : decide (i < M) = false := decide_eq_false hlt
      have hiM : M = i := by omega
      subst hiM
      have e2 : wr.cell? ⟨w.heap.size, 0, none⟩ = some (.slice A l.length c) := by rw [cell_of_row _ _ _ _ _ _ hst.lh]; rfl
      obtain ⟨w00, hw00⟩ : ∃ x : World, x = wr := ⟨wr, rfl⟩
      rw [← hw00] at hst e2
      have HS1 := Lib.hid hst
      clear hst hi hlt HS0 e1
      rw [← hw00]
      clear hw00
      go_wp2_with fail
      go_loopw [36, 7] (fun s36 s7v wr => ∃ (i : Nat) (v s7 : Value), s36 = .int .i64 i ∧ s7 = s7v ∧ i ≤ l.length + 1 - K ∧ St w A l.length c wr v (ints (cnd l (i - 1) (i + M))) ∧ QAt wr w.heap.size s7 (ints (sel l K i)) ∧ (∀ g, s7.ownBlock = some g → v.ownBlock = some g → False)) (fun s36 _ _ => l.length + 1 - K - (intOf s36).toNat)
      case atStart => exact ⟨0, v, _, rfl, rfl, by omega, by rw [Nat.zero_add]; exact HS1.out, QAt.nil _ _, fun g hg => by simp [Value.ownBlock] at hg⟩
      case round =>
        obtain ⟨i, v, s7, rfl, rfl, hi, hst, hsv, hdis⟩ := hrel
        have HKK2 := HKK.out
        by_cases hlt : i < l.length + 1 - K
        · have b1 : decide ((i : Int) < wrap64 D) = true := decide_eq_true (by rw [T4.out]; omega)
          have t5 : IntKind.i64.wrap ((i : Int) + (K : Int)) = (i : Int) + (K : Int) := by rw [IntKind.wrap_i64]; omega
          obtain ⟨Q, hQ⟩ : ∃ Q, Q = i + M := ⟨_, rfl⟩
          have t6 : IntKind.i64.wrap ((i : Int) + (K : Int) - 1) = (Q : Int) := by rw [IntKind.wrap_i64]; omega
          rw [← hQ] at hst
          have cc := hst.enter HAA.out (by omega) (by omega) hl
          rw [show Q + 1 = i + K by omega] at cc
          obtain ⟨x, t, hx, hdrop, hkp⟩ := cnd_next l i K (by omega)
          obtain ⟨t2, ht2⟩ := cnd_head l i K (by omega)
          rw [hx] at cc
          have HSEL := Lib.hid (sel_step l K i)
          have HNX0 := Lib.hid (show cnd l i (i + K) = cnd l (i + 1 - 1) (i + 1 + M) by rw [Nat.add_sub_cancel, show i + K = i + 1 + M by omega])
          have hSl0 := sel_len l K i
          rw [ht2] at HNX0 hdrop hkp
          generalize lst l i K = y at *
          generalize hSS : sel l K i = S at *
          have HX := Lib.hid hx
          have HDR := Lib.hid hdrop
          have HKP := Lib.hid hkp
          clear hx hdrop hkp ht2 hst hSS hQ
          have HHL := Lib.hid (show i ≤ 8192 ∧ i + 1 ≤ l.length + 1 - K by omega)
          clear HKK2 hi
          go_upto_region 16 with ((with_reducible refine cc.mono ?_); rintro e w2 ⟨rfl, v2, hst2, hkeep⟩)
          obtain ⟨hs2, hd2⟩ := hkeep s7 _ hsv hdis
          clear hsv hdis hkeep cc
          have hxx := HX.out
          by_cases hxi : x < i
          · have htt := HDR.out hxi
            subst htt
            obtain ⟨g, o, cap, rfl, hle, hmax, hx0, hp1, hp2, hp3⟩ := (show QAt w2 w.heap.size v2 ((x : Int) :: ints (y :: t2)) from hst2.qa).head
            have hnt : (ints (y :: t2)).length = (ints t2).length + 1 := rfl
            have hq' : QAt w2 w.heap.size (.slice (some ⟨g, o + 1, none⟩) (ints (y :: t2)).length (cap - 1)) (ints (y :: t2)) := if h : (ints (y :: t2)).length + 1 < cap then hp1 h else hp3 (by omega) (by omega)
            rw [hnt] at hq' hle
            clear hp1 hp2 hp3
            have e2 : w2.cell? ⟨w.heap.size + 1, 0, none⟩ = some (.slice (some ⟨g, o, none⟩) ((ints t2).length + 1 + 1) cap) := by rw [cell_of_row _ _ _ _ _ _ hst2.ch]; rfl
            have f2 := frozen_of_row w2 (w.heap.size + 1) 0 _ _ hst2.ch
            have d1 : decide ((x : Int) < (i : Int)) = true := decide_eq_true (by omega)
            have d1n : decide (x < i) = true := decide_eq_true hxi
            have x1 : (1 : Int) < (cap : Int) := by omega
            have x2 : ((ints t2).length : Int) + 1 + 1 ≤ (cap : Int) := by omega
            have x3 : (1 : Int) ≤ (cap : Int) := by omega
            have hst3 := hst2.set hq'
            have hs3 := hst2.keep hs2 (.slice (some ⟨g, o + 1, none⟩) ((ints t2).length + 1) (cap - 1))
            have hd3 : ∀ g', s7.ownBlock = some g' → (Value.slice (some ⟨g, o + 1, none⟩) ((ints t2).length + 1) (cap - 1)).ownBlock = some g' → False := fun g' h1 h2 => hd2 g' h1 h2
            have HNX := Lib.hid (show ∀ (wx : World) (vx : Value), St w A l.length c wx vx (ints (y :: t2)) → St w A l.length c wx vx (ints (cnd l (i + 1 - 1) (i + 1 + M))) from fun _ _ h => by rw [← HNX0.out, HDR.out hxi]; exact h)
            generalize hv3 : (Value.slice (some ⟨g, o + 1, none⟩) ((ints t2).length + 1) (cap - 1)) = v3 at hst3 hs3 hd3
            have HST := Lib.hid hst3
            have HS3 := Lib.hid hs3
            have HD2 := Lib.hid hd3
            have HV3 := Lib.hid hv3
            clear hst2 hs2 hd2 hst3 hs3 hd3 hq' hnt hxx hxi hle hv3
            go_upto_region 18 with (fail)
            rw [HV3.out]
            obtain ⟨w3, hw3⟩ : ∃ w3, w3 = w2.setCell ⟨w.heap.size + 1, 0, none⟩ v3 := ⟨_, rfl⟩
            rw [← hw3] at HST HS3 ⊢
            have hst3 := HST.out
            have hs3 := HS3.out
            have hd3 := HD2.out
            clear hw3 HV3 HST HS3 HD2 e2 f2 d1 d1n x1 x2 x3 hx0
            cases hS : S with
            | nil =>
              obtain ⟨gc, oc, capc, rfl, -, -, hcy, -, -, -⟩ := (show QAt w3 w.heap.size _ ((y : Int) :: ints t2) from hst3.qa).head
              have e3 : w3.cell? ⟨w.heap.size + 1, 0, none⟩ = some (.slice (some ⟨gc, oc, none⟩) ((ints t2).length + 1) capc) := by rw [cell_of_row _ _ _ _ _ _ hst3.ch]; rfl
              obtain ⟨n2, hn2⟩ : ∃ n2, n2 = (ints t2).length + 1 := ⟨_, rfl⟩
              have z0 : (0 : Int) < (n2 : Int) := by omega
              have z0n : 0 < n2 := by omega
              rw [← hn2] at e3 hst3 hd3
              clear hn2

              have HAP := Lib.hid (show sel l K (i + 1) = [] ++ [y] by rw [HSEL.out, hS]; simp)
              subst hS
              obtain ⟨aos, caps, hs7, -⟩ := hs3.ex
              rw [show (ints []).length = 0 from rfl] at hs7
              subst hs7
              clear HSEL hSl0
              go_wp2_with fail
              go_region
              have hSl : (ints ([] : List Nat)).length ≤ 100000 := by simp [ints]

              have e4 : w3.drew.cell? ⟨w.heap.size + 1, 0, none⟩ = some (.slice (some ⟨gc, oc, none⟩) n2 capc) := e3
              have hcy4 : w3.drew.cell? ⟨gc, oc, none⟩ = some (.int .i64 y) := hcy
              obtain ⟨w4, hw4⟩ : ∃ w4, w4 = w3.drew := ⟨_, rfl⟩
              have hst4 : St w A l.length c w4 (.slice (some ⟨gc, oc, none⟩) n2 capc) (ints (y :: t2)) := by rw [hw4]; exact hst3.drew
              have hs4 : QAt w4 w.heap.size (.slice aos 0 caps) (ints []) := by rw [hw4]; exact hs3.same fun _ _ => rfl
              rw [← hw4] at e4 hcy4 ⊢
              clear hw4 hst3 hs3 e3 hcy
              have hst5 := hst4.alloc (.cells #[.int .i64 y] 3)
              have hs5 := hs4.same fun g hg => blk_alloc_lt w4 (.cells #[.int .i64 y] 3) g (hs4.lt g hg).1
              have hnw := heap_alloc_new w4 (.cells #[.int .i64 y] 3)
              have hcn : (w4.alloc (.cells #[.int .i64 y] 3)).cell? ⟨w4.heap.size, 0, none⟩ = some (.int .i64 y) := by rw [cell_of_row _ _ _ _ _ _ hnw]; rfl
              have hsz5 := hst5.be.size
              have HST := Lib.hid hst5
              have HS5 := Lib.hid hs5
              have HD3 := Lib.hid hd3
              clear hst4 hst5 hs4 hnw hd3
              skip
              go_wp2_with (at_builtin; refine wpList_append_q (by rfl) _ _ 47 (by rfl) w.heap.size i0 Tryd.underlying47 hi0 hz0 hz1 hz2 _ _ (by rfl) HS5.out ⟨w4.heap.size, 0, none⟩ y (by rfl) hcn hSl hsz5 ?_; intro v6 w6 hq6 hg6 hat6; have HQ6 := Lib.hid hq6; have HST6 := Lib.hid (HST.out.other HS5.out HD3.out hg6); have HD6 := Lib.hid (show ∀ g, v6.ownBlock = some g → _ → False from fun g h1 h2 => (hat6 g h1).elim (fun h => HD3.out g h h2) (fun h => by have := (HST.out.qa.lt g h2).1; omega)); clear hq6 hg6 hat6)
              go_wp2_with fail
              go_roundw
              case rel => exact ⟨i + 1, _, _, by go_num, rfl, by have := HHL.out; omega, HNX.out _ _ HST6.out, by rw [HAP.out, ints_app]; exact HQ6.out, HD6.out⟩
              case measure => simp [intOf]; omega
            | cons S0 S1 =>
              obtain ⟨gc, oc, capc, rfl, -, -, hcy, -, -, -⟩ := (show QAt w3 w.heap.size _ ((y : Int) :: ints t2) from hst3.qa).head
              have e3 : w3.cell? ⟨w.heap.size + 1, 0, none⟩ = some (.slice (some ⟨gc, oc, none⟩) ((ints t2).length + 1) capc) := by rw [cell_of_row _ _ _ _ _ _ hst3.ch]; rfl
              obtain ⟨n2, hn2⟩ : ∃ n2, n2 = (ints t2).length + 1 := ⟨_, rfl⟩
              have z0 : (0 : Int) < (n2 : Int) := by omega
              have z0n : 0 < n2 := by omega
              rw [← hn2] at e3 hst3 hd3
              clear hn2

              have hlen1 : 0 < S.length := by rw [hS]; simp
              clear hS
              obtain ⟨z, hz⟩ : ∃ z, S.getLast? = some z := by
                cases h : S.getLast? with
                | none => rw [List.getLast?_eq_none_iff] at h; rw [h] at hlen1; simp at hlen1
                | some z => exact ⟨z, rfl⟩
              obtain ⟨m, hm⟩ : ∃ m, S.length = m + 1 := ⟨S.length - 1, by omega⟩
              obtain ⟨gs, os, caps, hs7, -, -, -, -, hsc, -⟩ := hs3.cut (by rw [ints_len]; omega)
              obtain ⟨n1, hn1⟩ : ∃ n1, n1 = S.length := ⟨_, rfl⟩
              rw [ints_len, ← hn1] at hs7
              have hcs : w3.cell? ⟨gs, os + m, none⟩ = some (.int .i64 (z : Int)) := by
                rw [hsc m (by rw [ints_len]; omega), ints_get _ _ (by omega)]
                rw [List.getLast?_eq_getElem?, show S.length - 1 = m by omega, List.getElem?_eq_getElem (by omega)] at hz
                rw [Option.some.inj hz]
              have u1 : IntKind.i64.wrap ((n1 : Int) - 1) = (m : Int) := by have := HHL.out; rw [IntKind.wrap_i64]; omega
              have u2 : (m : Int) < (n1 : Int) := by omega
              have u3 : ((n1 : Int) == 0) = false := by rw [beq_eq_false_iff_ne]; omega
              have HM := Lib.hid hn1
              clear hn1
              by_cases hzy : z = y
              · have HAP := Lib.hid (show sel l K (i + 1) = S by rw [HSEL.out, if_pos (by rw [hz, hzy])])
                have d3 : ((z : Int) != (y : Int)) = false := by rw [hzy]; simp
                have HST := Lib.hid hst3.drewN
                have HS5 := Lib.hid (fun q => (show QAt (w3.drewN q) w.heap.size s7 (ints S) from hs3.same fun _ _ => rfl))
                have HD3 := Lib.hid hd3
                clear HSEL hz hzy hsc hs3 hst3 hd3 hm hlen1 hSl0
                subst hs7
                go_wp2_with fail
                go_quiet (fail)
                clear u1 u2 u3 d3
                go_wp2_with fail
                go_roundw
                case rel => exact ⟨i + 1, _, _, by go_num, rfl, by have := HHL.out; omega, HNX.out _ _ (HST.out _), by rw [HAP.out]; exact HS5.out _, HD3.out⟩
                case measure => simp [intOf]; omega
              · have HAP := Lib.hid (show sel l K (i + 1) = S ++ [y] by rw [HSEL.out, if_neg (by rw [hz]; exact fun e => hzy (Option.some.inj e))])
                have d3 : ((z : Int) != (y : Int)) = true := by rw [bne_iff_ne]; exact fun e => hzy (by omega)
                have hSl : (ints S).length ≤ 100000 := by rw [ints_len]; have := HHL.out; omega
                clear HSEL hz hzy hsc hlen1 hSl0 hm
                subst hs7
                go_wp2_with fail
                go_quiet (fail)

                have e4 : (w3.drewN nq).cell? ⟨w.heap.size + 1, 0, none⟩ = some (.slice (some ⟨gc, oc, none⟩) n2 capc) := e3
                have hcy4 : (w3.drewN nq).cell? ⟨gc, oc, none⟩ = some (.int .i64 y) := hcy
                obtain ⟨w4, hw4⟩ : ∃ w4, w4 = w3.drewN nq := ⟨_, rfl⟩
                have hst4 : St w A l.length c w4 (.slice (some ⟨gc, oc, none⟩) n2 capc) (ints (y :: t2)) := by rw [hw4]; exact hst3.drewN nq
                have hs4 : QAt w4 w.heap.size (.slice (some ⟨gs, os, none⟩) n1 caps) (ints S) := by rw [hw4]; exact hs3.same fun _ _ => rfl
                rw [← hw4] at e4 hcy4 ⊢
                clear hw4 hst3 hs3 e3 hcy
                have hst5 := hst4.alloc (.cells #[.int .i64 y] 3)
                have hs5 := hs4.same fun g hg => blk_alloc_lt w4 (.cells #[.int .i64 y] 3) g (hs4.lt g hg).1
                have hnw := heap_alloc_new w4 (.cells #[.int .i64 y] 3)
                have hcn : (w4.alloc (.cells #[.int .i64 y] 3)).cell? ⟨w4.heap.size, 0, none⟩ = some (.int .i64 y) := by rw [cell_of_row _ _ _ _ _ _ hnw]; rfl
                have hsz5 := hst5.be.size
                have HST := Lib.hid hst5
                have HS5 := Lib.hid hs5
                have HD3 := Lib.hid hd3
                clear hst4 hst5 hs4 hnw hd3 d3 u1 u2 u3 hcs
                skip
                go_wp2_with (at_builtin; refine wpList_append_q (by rfl) _ _ 47 (by rfl) w.heap.size i0 Tryd.underlying47 hi0 hz0 hz1 hz2 _ _ (by rfl) HS5.out ⟨w4.heap.size, 0, none⟩ y (by rfl) hcn hSl hsz5 ?_; intro v6 w6 hq6 hg6 hat6; have HQ6 := Lib.hid hq6; have HST6 := Lib.hid (HST.out.other HS5.out HD3.out hg6); have HD6 := Lib.hid (show ∀ g, v6.ownBlock = some g → _ → False from fun g h1 h2 => (hat6 g h1).elim (fun h => HD3.out g h h2) (fun h => by have := (HST.out.qa.lt g h2).1; omega)); clear hq6 hg6 hat6)
                go_wp2_with fail
                go_roundw
                case rel => exact ⟨i + 1, _, _, by go_num, rfl, by have := HHL.out; omega, HNX.out _ _ HST6.out, by rw [HAP.out, ints_app]; exact HQ6.out, HD6.out⟩
                case measure => simp [intOf]; omega
          · have htt := HKP.out (by omega)
            obtain ⟨h1, h2⟩ := List.cons.inj htt
            subst h1 h2
            have HNX := Lib.hid (show ∀ (wx : World) (vx : Value), St w A l.length c wx vx (ints (y :: t2)) → St w A l.length c wx vx (ints (cnd l (i + 1 - 1) (i + 1 + M))) from fun _ _ h => by rw [← HNX0.out]; exact h)
            obtain ⟨g, o, cap, hv2, -, -, hx0, -, -, -⟩ := (show QAt w2 w.heap.size v2 ((y : Int) :: ints t2) from hst2.qa).head
            have e2 : w2.cell? ⟨w.heap.size + 1, 0, none⟩ = some (.slice (some ⟨g, o, none⟩) ((ints t2).length + 1) cap) := by rw [cell_of_row _ _ _ _ _ _ hst2.ch, hv2]; rfl
            have d1 : decide ((y : Int) < (i : Int)) = false := decide_eq_false (by omega)
            have d1n : decide (y < i) = false := decide_eq_false (by omega)
            have z0 : (0 : Int) < (((ints t2).length + 1 : Nat) : Int) := by omega
            have HST := Lib.hid hst2
            have HS3 := Lib.hid hs2
            have HD2 := Lib.hid hd2
            have HV2 := Lib.hid hv2
            clear hst2 hs2 hd2 htt hxx hxi hv2
            go_upto_region 18 with (fail)
            obtain ⟨w3, hw3⟩ : ∃ w3, w3 = w2 := ⟨_, rfl⟩
            rw [← hw3] at HST HS3 ⊢
            have hst3 := HST.out
            have hs3 := HS3.out
            have hd3 := HD2.out
            clear hw3 HST HS3 HD2 HV2 e2 d1 d1n hx0 z0
            cases hS : S with
            | nil =>
              obtain ⟨gc, oc, capc, rfl, -, -, hcy, -, -, -⟩ := (show QAt w3 w.heap.size _ ((y : Int) :: ints t2) from hst3.qa).head
              have e3 : w3.cell? ⟨w.heap.size + 1, 0, none⟩ = some (.slice (some ⟨gc, oc, none⟩) ((ints t2).length + 1) capc) := by rw [cell_of_row _ _ _ _ _ _ hst3.ch]; rfl
              obtain ⟨n2, hn2⟩ : ∃ n2, n2 = (ints t2).length + 1 := ⟨_, rfl⟩
              have z0 : (0 : Int) < (n2 : Int) := by omega
              have z0n : 0 < n2 := by omega
              rw [← hn2] at e3 hst3 hd3
              clear hn2

              have HAP := Lib.hid (show sel l K (i + 1) = [] ++ [y] by rw [HSEL.out, hS]; simp)
              subst hS
              obtain ⟨aos, caps, hs7, -⟩ := hs3.ex
              rw [show (ints []).length = 0 from rfl] at hs7
              subst hs7
              clear HSEL hSl0
              go_wp2_with fail
              go_region
              have hSl : (ints ([] : List Nat)).length ≤ 100000 := by simp [ints]

              have e4 : w3.drew.cell? ⟨w.heap.size + 1, 0, none⟩ = some (.slice (some ⟨gc, oc, none⟩) n2 capc) := e3
              have hcy4 : w3.drew.cell? ⟨gc, oc, none⟩ = some (.int .i64 y) := hcy
              obtain ⟨w4, hw4⟩ : ∃ w4, w4 = w3.drew := ⟨_, rfl⟩
              have hst4 : St w A l.length c w4 (.slice (some ⟨gc, oc, none⟩) n2 capc) (ints (y :: t2)) := by rw [hw4]; exact hst3.drew
              have hs4 : QAt w4 w.heap.size (.slice aos 0 caps) (ints []) := by rw [hw4]; exact hs3.same fun _ _ => rfl
              rw [← hw4] at e4 hcy4 ⊢
              clear hw4 hst3 hs3 e3 hcy
              have hst5 := hst4.alloc (.cells #[.int .i64 y] 3)
              have hs5 := hs4.same fun g hg => blk_alloc_lt w4 (.cells #[.int .i64 y] 3) g (hs4.lt g hg).1
              have hnw := heap_alloc_new w4 (.cells #[.int .i64 y] 3)
              have hcn : (w4.alloc (.cells #[.int .i64 y] 3)).cell? ⟨w4.heap.size, 0, none⟩ = some (.int .i64 y) := by rw [cell_of_row _ _ _ _ _ _ hnw]; rfl
              have hsz5 := hst5.be.size
              have HST := Lib.hid hst5
              have HS5 := Lib.hid hs5
              have HD3 := Lib.hid hd3
              clear hst4 hst5 hs4 hnw hd3
              skip
              go_wp2_with (at_builtin; refine wpList_append_q (by rfl) _ _ 47 (by rfl) w.heap.size i0 Tryd.underlying47 hi0 hz0 hz1 hz2 _ _ (by rfl) HS5.out ⟨w4.heap.size, 0, none⟩ y (by rfl) hcn hSl hsz5 ?_; intro v6 w6 hq6 hg6 hat6; have HQ6 := Lib.hid hq6; have HST6 := Lib.hid (HST.out.other HS5.out HD3.out hg6); have HD6 := Lib.hid (show ∀ g, v6.ownBlock = some g → _ → False from fun g h1 h2 => (hat6 g h1).elim (fun h => HD3.out g h h2) (fun h => by have := (HST.out.qa.lt g h2).1; omega)); clear hq6 hg6 hat6)
              go_wp2_with fail
              go_roundw
              case rel => exact ⟨i + 1, _, _, by go_num, rfl, by have := HHL.out; omega, HNX.out _ _ HST6.out, by rw [HAP.out, ints_app]; exact HQ6.out, HD6.out⟩
              case measure => simp [intOf]; omega
            | cons S0 S1 =>
              obtain ⟨gc, oc, capc, rfl, -, -, hcy, -, -, -⟩ := (show QAt w3 w.heap.size _ ((y : Int) :: ints t2) from hst3.qa).head
              have e3 : w3.cell? ⟨w.heap.size + 1, 0, none⟩ = some (.slice (some ⟨gc, oc, none⟩) ((ints t2).length + 1) capc) := by rw [cell_of_row _ _ _ _ _ _ hst3.ch]; rfl
              obtain ⟨n2, hn2⟩ : ∃ n2, n2 = (ints t2).length + 1 := ⟨_, rfl⟩
              have z0 : (0 : Int) < (n2 : Int) := by omega
              have z0n : 0 < n2 := by omega
              rw [← hn2] at e3 hst3 hd3
              clear hn2

              have hlen1 : 0 < S.length := by rw [hS]; simp
              clear hS
              obtain ⟨z, hz⟩ : ∃ z, S.getLast? = some z := by
                cases h : S.getLast? with
                | none => rw [List.getLast?_eq_none_iff] at h; rw [h] at hlen1; simp at hlen1
                | some z => exact ⟨z, rfl⟩
              obtain ⟨m, hm⟩ : ∃ m, S.length = m + 1 := ⟨S.length - 1, by omega⟩
              obtain ⟨gs, os, caps, hs7, -, -, -, -, hsc, -⟩ := hs3.cut (by rw [ints_len]; omega)
              obtain ⟨n1, hn1⟩ : ∃ n1, n1 = S.length := ⟨_, rfl⟩
              rw [ints_len, ← hn1] at hs7
              have hcs : w3.cell? ⟨gs, os + m, none⟩ = some (.int .i64 (z : Int)) := by
                rw [hsc m (by rw [ints_len]; omega), ints_get _ _ (by omega)]
                rw [List.getLast?_eq_getElem?, show S.length - 1 = m by omega, List.getElem?_eq_getElem (by omega)] at hz
                rw [Option.some.inj hz]
              have u1 : IntKind.i64.wrap ((n1 : Int) - 1) = (m : Int) := by have := HHL.out; rw [IntKind.wrap_i64]; omega
              have u2 : (m : Int) < (n1 : Int) := by omega
              have u3 : ((n1 : Int) == 0) = false := by rw [beq_eq_false_iff_ne]; omega
              have HM := Lib.hid hn1
              clear hn1
              by_cases hzy : z = y
              · have HAP := Lib.hid (show sel l K (i + 1) = S by rw [HSEL.out, if_pos (by rw [hz, hzy])])
                have d3 : ((z : Int) != (y : Int)) = false := by rw [hzy]; simp
                have HST := Lib.hid hst3.drewN
                have HS5 := Lib.hid (fun q => (show QAt (w3.drewN q) w.heap.size s7 (ints S) from hs3.same fun _ _ => rfl))
                have HD3 := Lib.hid hd3
                clear HSEL hz hzy hsc hs3 hst3 hd3 hm hlen1 hSl0
                subst hs7
                go_wp2_with fail
                go_quiet (fail)
                clear u1 u2 u3 d3
                go_wp2_with fail
                go_roundw
                case rel => exact ⟨i + 1, _, _, by go_num, rfl, by have := HHL.out; omega, HNX.out _ _ (HST.out _), by rw [HAP.out]; exact HS5.out _, HD3.out⟩
                case measure => simp [intOf]; omega
              · have HAP := Lib.hid (show sel l K (i + 1) = S ++ [y] by rw [HSEL.out, if_neg (by rw [hz]; exact fun e => hzy (Option.some.inj e))])
                have d3 : ((z : Int) != (y : Int)) = true := by rw [bne_iff_ne]; exact fun e => hzy (by omega)
                have hSl : (ints S).length ≤ 100000 := by rw [ints_len]; have := HHL.out; omega
                clear HSEL hz hzy hsc hlen1 hSl0 hm
                subst hs7
                go_wp2_with fail
                go_quiet (fail)

                have e4 : (w3.drewN nq).cell? ⟨w.heap.size + 1, 0, none⟩ = some (.slice (some ⟨gc, oc, none⟩) n2 capc) := e3
                have hcy4 : (w3.drewN nq).cell? ⟨gc, oc, none⟩ = some (.int .i64 y) := hcy
                obtain ⟨w4, hw4⟩ : ∃ w4, w4 = w3.drewN nq := ⟨_, rfl⟩
                have hst4 : St w A l.length c w4 (.slice (some ⟨gc, oc, none⟩) n2 capc) (ints (y :: t2)) := by rw [hw4]; exact hst3.drewN nq
                have hs4 : QAt w4 w.heap.size (.slice (some ⟨gs, os, none⟩) n1 caps) (ints S) := by rw [hw4]; exact hs3.same fun _ _ => rfl
                rw [← hw4] at e4 hcy4 ⊢
                clear hw4 hst3 hs3 e3 hcy
                have hst5 := hst4.alloc (.cells #[.int .i64 y] 3)
                have hs5 := hs4.same fun g hg => blk_alloc_lt w4 (.cells #[.int .i64 y] 3) g (hs4.lt g hg).1
                have hnw := heap_alloc_new w4 (.cells #[.int .i64 y] 3)
                have hcn : (w4.alloc (.cells #[.int .i64 y] 3)).cell? ⟨w4.heap.size, 0, none⟩ = some (.int .i64 y) := by rw [cell_of_row _ _ _ _ _ _ hnw]; rfl
                have hsz5 := hst5.be.size
                have HST := Lib.hid hst5
                have HS5 := Lib.hid hs5
                have HD3 := Lib.hid hd3
                clear hst4 hst5 hs4 hnw hd3 d3 u1 u2 u3 hcs
                skip
                go_wp2_with (at_builtin; refine wpList_append_q (by rfl) _ _ 47 (by rfl) w.heap.size i0 Tryd.underlying47 hi0 hz0 hz1 hz2 _ _ (by rfl) HS5.out ⟨w4.heap.size, 0, none⟩ y (by rfl) hcn hSl hsz5 ?_; intro v6 w6 hq6 hg6 hat6; have HQ6 := Lib.hid hq6; have HST6 := Lib.hid (HST.out.other HS5.out HD3.out hg6); have HD6 := Lib.hid (show ∀ g, v6.ownBlock = some g → _ → False from fun g h1 h2 => (hat6 g h1).elim (fun h => HD3.out g h h2) (fun h => by have := (HST.out.qa.lt g h2).1; omega)); clear hq6 hg6 hat6)
                go_wp2_with fail
                go_roundw
                case rel => exact ⟨i + 1, _, _, by go_num, rfl, by have := HHL.out; omega, HNX.out _ _ HST6.out, by rw [HAP.out, ints_app]; exact HQ6.out, HD6.out⟩
                case measure => simp [intOf]; omega
        · have b1 : decide ((i : Int) < wrap64 D) = false := decide_eq_false (by rw [T4.out]; omega)
          have HIN := Lib.hid (show l.length + 1 - K = i by omega)
          obtain ⟨As, cs, rfl, h1, h2, h3⟩ := hsv.read
          have HR := Lib.hid h3
          have HC := Lib.hid (And.intro h1 h2)
          have HB := Lib.hid hst.be
          clear hst hsv hdis h1 h2 h3 hi hlt HKK2
          go_wp2_with fail
          go_ret2
          rw [HT.out.1, HT.out.2, HIN.out]
          exact ⟨As, cs, rfl, HC.out.1, HC.out.2, HR.out, HB.out⟩
end Wn
end Go.Proofs.YtkmldaelgbkfbaaDoor
