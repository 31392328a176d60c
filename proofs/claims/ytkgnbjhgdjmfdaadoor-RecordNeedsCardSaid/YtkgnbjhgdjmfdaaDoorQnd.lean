/- Needed of the reference. No condition but the lengths. -/
import Derived.Test.YtkgnbjhgdjmfdaaDoorQmk
import Derived.Test.YtkgnbjhgdjmfdaaDoorApp
import Derived.Test.YtkgnbjhgdjmfdaaDoorSrc
namespace Go.Proofs.YtkgnbjhgdjmfdaaDoor
open Go.RowKit Go.Deep Tr

namespace Rc
theorem nds_snoc (nb : Nat → Bool) (n : Nat) : nds nb 0 (n + 1) = nds nb 0 n ++ if nb n = true then [n] else [] := by
  unfold nds
  rw [List.range'_1_concat, List.filter_append, Nat.zero_add]
  cases h : nb n with
  | true => rw [if_pos rfl]; simp [h]
  | false => rw [if_neg (by decide)]; simp [h]
theorem wr0_bad {r : List Dn} (h : chk r ≠ 0) (p : List UInt8) : wr0 r p = none := by unfold wr0; rw [if_neg h]
end Rc
set_option maxHeartbeats 4000000 in
set_option maxRecDepth 100000 in
theorem qneeded_any (r : List Dn) (p : List UInt8) (A : Option Addr) (c : Nat) (w : World) (hA : RcAt w A r) (hS : r.length ≤ 1024 → Sht r) :
    Calls Tryd.prog 15 #[.slice A r.length c, .string (str p)] w (GotN w (Rc.NdL r p)) := by
  have HA := Lib.hid hA
  have hb0 : Below w.heap.size w (w.alloc (.cells #[] 3)) := (Below.refl _ _).alloc (Nat.le_refl _) _
  have cc := qcheck_any r A c (w.alloc (.cells #[] 3)) (hA.next hb0) hS
  have HB0 := Lib.hid hb0
  have HO0 := Lib.hid (own_emptyR w w.heap.size (Nat.le_refl _) 3 1)
  by_cases hz : Rc.chk r = 0
  · rw [hz] at cc
    have HZ := Lib.hid hz
    have hL := (Rc.zero_chk hz).1
    clear hA hS hz hb0
    go_enter Tryd.func15, Tryd.ntmps15
    go_wp2_with fail
    with_reducible refine cc.mono ?_
    clear cc
    rintro e w1 ⟨rfl, hb1⟩
    have HB1 := Lib.hid (HB0.out.trans (hb1.mono HB0.out.size))
    have HO1 := Lib.hid (own_below HO0.out hb1)
    clear hb1 HO0 HB0
    have cc := qmarks_any r p A c w1 (HA.out.next HB1.out) HZ.out
    go_wp2_with fail
    with_reducible refine cc.mono ?_
    clear cc
    rintro e w2 ⟨g, M, rfl, hM, hg, hrow, hb2⟩
    have HB2 := Lib.hid (HB1.out.trans (hb2.mono HB1.out.size))
    have HO2 := Lib.hid (own_below HO1.out hb2)
    have HRW := Lib.hid hrow
    have HM := Lib.hid hM
    clear hb2 hrow hM HB1 HO1
    have HT := Lib.hid (show Rc.NdL r p (Rc.nds M 0 r.length) from ⟨Rc.nds_asc _ _ _, fun i => by
      rw [Rc.nds_mem, Nat.zero_add]
      constructor
      · rintro ⟨_, h1, h2⟩
        exact (HM.out i h1).1 h2
      · intro h
        have := (ned_lt h).2
        exact ⟨Nat.zero_le _, this, (HM.out i this).2 h⟩⟩)
    go_wp2_with fail
    go_loopw [5, 7] (fun s5 s7 wr => ∃ k : Nat, s7 = .int .i64 k ∧ k ≤ r.length ∧ wr.ownsRow w.heap.size 3 1 s5 (Rc.nds M 0 k).length (Rc.insV (Rc.nats (Rc.nds M 0 k))) ∧ wr.rowIs g 4 r.length (fun m => .bool (M m)) ∧ Below w.heap.size w wr) (fun _ s7 _ => r.length - (intOf s7).toNat)
    case atStart => exact ⟨0, rfl, Nat.zero_le _, HO2.out, HRW.out, HB2.out⟩
    case round =>
      clear HO2 HRW HB2
      obtain ⟨k, rfl, hk, hO5, hrow, hb⟩ := hrel
      have hln := Rc.nds_len M 0 k
      by_cases hlt : k < r.length
      · have c1 : decide ((k : Int) < (r.length : Int)) = true := decide_eq_true (by omega)
        have c1n : decide (k < r.length) = true := decide_eq_true hlt
        have y1 : (k : Int) < (r.length : Int) := by omega
        have e1 := hrow.cell hlt
        have HSN := Lib.hid (Rc.nds_snoc M k)
        have HO := Lib.hid hO5
        have HR := Lib.hid hrow
        have HB := Lib.hid hb
        clear hO5 hrow hb
        obtain ⟨L, hLL⟩ : ∃ L, L = Rc.nds M 0 k := ⟨_, rfl⟩
        rw [← hLL] at HO HSN hln
        clear hLL
        cases hm : M k with
        | false =>
          rw [hm] at e1
          have HE := Lib.hid (show Rc.nds M 0 (k + 1) = L by rw [HSN.out, hm, if_neg (by decide), List.append_nil])
          clear hm
          go_wp2_with fail
          go_roundw
          case rel => exact ⟨k + 1, by go_num, by omega, by rw [HE.out]; exact HO.out, HR.out, HB.out⟩
          case measure => simp [intOf]; omega
        | true =>
          rw [hm] at e1
          have HE := Lib.hid (show Rc.nds M 0 (k + 1) = L ++ [k] by rw [HSN.out, hm, if_pos rfl])
          clear hm
          have hbn : Below wr.heap.size wr (wr.alloc (.cells #[.int .i64 (k : Int)] 3)) := (Below.refl _ _).alloc (Nat.le_refl _) _
          have hi9 := own_below HO.out hbn
          rw [← Rc.nats_len L] at hi9
          have hwb : w.heap.size ≤ wr.heap.size := HB.out.size
          obtain ⟨v7, w7, hrun, hown7, hg7⟩ := app_in 30 (wr.alloc (.cells #[.int .i64 (k : Int)] 3)) w.heap.size _ (Rc.nats L) [(k : Int)] hi9 (some ⟨wr.heap.size, 0, none⟩) 1 (one_in wr k) (Nat.le_trans hwb hbn.size) (by rw [Rc.nats_len]; simp; omega)
          have hrw := HR.out.alloc (.cells #[.int .i64 (k : Int)] 3)
          have HR7 := Lib.hid (hrw.of_block (hg7.block g hrw.lt fun e1 => by
            obtain ⟨c2, f2, k2⟩ := Lib.ownsRow_kind hi9 g e1.symm
            obtain ⟨c1, k1, _⟩ := hrw
            exact kind_ne k1 k2 (by decide) rfl))
          have HB7 := Lib.hid (HB.out.trans ((hbn.mono hwb).trans (below_own hi9 (Nat.le_trans hwb hbn.size) hg7)))
          have HO7 := Lib.hid hown7
          clear hown7 hg7 hi9 hbn hrw
          go_wp2_with (at_builtin; refine Lib.wpList_append_run _ rfl _ _ _ _ rfl _ _ rfl rfl _ _ hrun ?_)
          go_roundw
          case rel => exact ⟨k + 1, by go_num, by omega, by rw [HE.out, Rc.nats_app]; show World.ownsRow _ _ _ _ _ (L ++ [k]).length _; rw [← Rc.nats_len, Rc.nats_app]; exact HO7.out, HR7.out, HB7.out⟩
          case measure => simp [intOf]; omega
      · have c1 : decide ((k : Int) < (r.length : Int)) = false := decide_eq_false (by omega)
        have c1n : decide (k < r.length) = false := decide_eq_false hlt
        have hkk : k = r.length := by omega
        subst hkk
        rw [← Rc.nats_len (Rc.nds M 0 r.length)] at hO5
        obtain ⟨A5, c5, hs5, _, _, hel⟩ := Rc.own_el Rc.inV 1 Rc.inV_len hO5
        rw [Rc.nats_len] at hs5
        subst hs5
        have HI := Lib.hid hel
        have HB := Lib.hid hb
        clear hO5 hrow hb hel
        go_wp2_with fail
        first | go_ret3 | go_ret2 | go_ret
        exact ⟨_, A5, c5, rfl, HT.out, by omega, HI.out, HB.out⟩
  · have HV := Lib.hid (show Rc.NdL r p [] from Rc.NdL.none (Rc.wr0_bad hz p))
    generalize hce : Rc.chk r = ce at *
    have z1 : (ce != 0) = true := by rw [bne_iff_ne]; exact hz
    have z2 : (ce == 0) = false := by rw [beq_eq_false_iff_ne]; exact hz
    clear hA hS hz hce hb0 HO0
    go_enter Tryd.func15, Tryd.ntmps15
    go_wp2_with fail
    with_reducible refine cc.mono ?_
    clear cc
    rintro e w1 ⟨rfl, hb1⟩
    have HB := Lib.hid (HB0.out.trans (hb1.mono HB0.out.size))
    clear hb1
    go_wp2_with fail
    first | go_ret3 | go_ret2 | go_ret
    exact ⟨[], some ⟨w.heap.size, 0, none⟩, 0, rfl, HV.out, by simp, Rc.ElAt.nil _ _ _ _ _, HB.out⟩
end Go.Proofs.YtkgnbjhgdjmfdaaDoor
