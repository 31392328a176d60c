/- The law RecordCloses. Condition: bytealg's MaxLen lies in its variable. -/
import Derived.Test.YtkgnbjhgdjmfdaaDoorAfp
import Derived.Test.YtkgnbjhgdjmfdaaDoorCnt
import Derived.Test.YtkgnbjhgdjmfdaaDoorApp
import Derived.Test.YtkgnbjhgdjmfdaaDoorKey
import Derived.Test.YtkgnbjhgdjmfdaaDoorAwk
import Derived.Test.YtkgnbjhgdjmfdaaDoorFew
import Derived.Deep.RegionHeld3
namespace Go.Proofs.YtkgnbjhgdjmfdaaDoor
open Go.RowKit Go.Deep Tr

theorem ndl_last {r : List Dn} {p : List UInt8} {L : List Nat} {last : Nat} (h : Rc.NdL r p L) (h0 : Rc.wr0 r p = some last) : ∃ n, ∃ hn : n + 1 = L.length, L[n] = last := by
  have hm : last ∈ L := (h.2 last).2 (.base h0)
  obtain ⟨j, hj, e⟩ := List.mem_iff_getElem.1 hm
  refine ⟨L.length - 1, by omega, ?_⟩
  by_cases hl : j = L.length - 1
  · subst hl; exact e
  · have h1 := List.pairwise_iff_getElem.1 h.1 j (L.length - 1) hj (by omega) (by omega)
    have h2 := Rc.ned_le h0 ((h.2 _).1 (List.getElem_mem (show L.length - 1 < L.length by omega)))
    omega
theorem nats_get (L : List Nat) (j : Nat) (h : j < L.length) : (Rc.nats L)[j]'(by rw [Rc.nats_len]; exact h) = ((L[j] : Nat) : Int) := by unfold Rc.nats; rw [List.getElem_map]
theorem nats_has (L : List Nat) (k : Nat) : (Rc.nats L).contains (k : Int) = L.contains k := by
  rw [Bool.eq_iff_iff, List.contains_iff_mem, List.contains_iff_mem]
  unfold Rc.nats
  rw [List.mem_map]
  exact ⟨fun ⟨a, ha, e⟩ => by have : a = k := by omega
                              rw [← this]; exact ha, fun h => ⟨k, h, rfl⟩⟩
set_option maxHeartbeats 16000000 in
set_option maxRecDepth 100000 in
theorem closes_law (r : List Dn) (s : ByteArray) (A : Option Addr) (c : Nat) (W : World) (hA : RcAt W A r) (hM : MaxAt W) (hsz : s.size ≤ maxLen) :
    Calls Tryd.prog 6 #[.slice A r.length c, .string s] W fun e w' => e = .returned (.bool true) ∧ Below W.heap.size W w' := by
  obtain ⟨p, rfl⟩ : ∃ p, s = str p := ⟨s.data.toList, rfl⟩
  rw [str_size] at hsz
  have HSZ := Lib.hid hsz
  have HW := Lib.hid (fun (w' : World) (h : Below W.heap.size W w') => show RcAt w' A r ∧ MaxAt w' from ⟨hA.next h, hM.below h⟩)
  have cc := awake_any W hM
  clear hA hM hsz
  go_enter Tryd.func6, Tryd.ntmps6
  go_wp2_with fail
  with_reducible refine cc.mono ?_
  clear cc
  rintro e w1 ⟨rfl, hb1⟩
  have HB1 := Lib.hid hb1
  clear hb1
  have cc := few_any r A c w1 (HW.out _ HB1.out).1
  go_wp2_with fail
  with_reducible refine cc.mono ?_
  clear cc
  rintro e w2 ⟨⟨u, rfl, hf⟩, hb2⟩
  have HB2 := Lib.hid (HB1.out.trans (hb2.mono HB1.out.size))
  clear hb2 HB1
  cases u with
  | false =>
    clear hf
    go_wp2_with fail
    first | go_ret3 | go_ret2 | go_ret
    exact ⟨rfl, HB2.out⟩
  | true =>
  have HF := Lib.hid (hf rfl).sht
  clear hf
  have cc := check_any r A c w2 (HW.out _ HB2.out).1 HF.out (HW.out _ HB2.out).2
  by_cases hz : Rc.chk r = 0
  · rw [hz] at cc
    have HZ := Lib.hid hz
    have HS := Lib.hid (HF.out (Rc.zero_chk hz).1)
    have hL := (Rc.zero_chk hz).1
    have HZR := Lib.hid (show ∀ i (h : i < r.length), 0 < r[i].rds.length ∧ r[i].rds.length ≤ 1024 from fun i h => Rc.head_len (Rc.zero_step ((Rc.zero_chk hz).2 i h)).1)
    clear hz
    go_wp2_with fail
    with_reducible refine cc.mono ?_
    clear cc
    rintro e w3 ⟨rfl, hb3⟩
    have HB3 := Lib.hid (HB2.out.trans (hb3.mono HB2.out.size))
    clear hb3 HB2
    have cc := writer_any r p A c w3 (HW.out _ HB3.out).1 HF.out (HW.out _ HB3.out).2 HSZ.out
    go_wp2_with fail
    with_reducible refine cc.mono ?_
    clear cc
    rintro e w4 ⟨rfl, hb4⟩
    have HB4 := Lib.hid (HB3.out.trans (hb4.mono HB3.out.size))
    clear hb4 HB3
    have cc := neededAll_any r p A c w4 (HW.out _ HB4.out).1 HF.out (HW.out _ HB4.out).2 HSZ.out
    go_wp2_with fail
    with_reducible refine cc.mono ?_
    clear cc
    rintro e w5 ⟨L5, A5, c5, rfl, hL5, hl5, hin5, hb5⟩
    have HB5 := Lib.hid (HB4.out.trans (hb5.mono HB4.out.size))
    have HI5 := Lib.hid hin5
    have HL5 := Lib.hid hL5
    clear hb5 hin5 hL5 HB4
    have cc := sources_any r p A c w5 (HW.out _ HB5.out).1 HF.out (HW.out _ HB5.out).2 HSZ.out
    go_wp2_with fail
    with_reducible refine cc.mono ?_
    clear cc
    rintro e w8 ⟨L8, A8, c8, rfl, hL8, hl8, hin8, hb8⟩
    have HB8 := Lib.hid (HB5.out.trans (hb8.mono HB5.out.size))
    have HI8 := Lib.hid hin8
    have HJ8 := Lib.hid (HI5.out.next hb8)
    have HL8 := Lib.hid hL8
    clear hb8 hin8 hL8 HB5 HI5
    have HX := Lib.hid (fun (w' : World) (h : Below w8.heap.size w8 w') => show RcAt w' A r ∧ MaxAt w' ∧ Rc.InAt w' w'.heap.size A5 (Rc.nats L5) ∧ Rc.StAt w' w'.heap.size A8 L8 ∧ Below W.heap.size W w' from by
      have hb := HB8.out.trans (h.mono HB8.out.size)
      exact ⟨(HW.out _ hb).1, (HW.out _ hb).2, HJ8.out.next h, HI8.out.next h, hb⟩)
    clear HJ8 HI8 HW
    cases hq : Rc.wr0 r p with
    | none =>
      have e1 : Rc.wrI r p = -1 := by unfold Rc.wrI; rw [hq]
      rw [e1]
      have h5 : L5 = [] := List.eq_nil_iff_forall_not_mem.2 fun i hi => Rc.ned_none hq ((HL5.out.2 i).1 hi)
      have h8 : L8 = [] := List.eq_nil_iff_forall_not_mem.2 fun x hx => by
        obtain ⟨i, _, _, hi, _⟩ := (HL8.out.2.2 x).1 hx
        exact Rc.ned_none hq hi
      rw [h5, h8]
      clear e1 h5 h8 hq HL5 HL8 HX
      go_wp2_with fail
      first | go_ret3 | go_ret2 | go_ret
      exact ⟨rfl, HB8.out⟩
    | some last =>
      have e1 : Rc.wrI r p = (last : Int) := by unfold Rc.wrI; rw [hq]
      rw [e1]
      clear e1
      obtain ⟨_, hlast, s0, hs0, hp0⟩ := Rc.wr0_some hq
      have HQ := Lib.hid hq
      clear hq
      obtain ⟨n5, hn5, hln⟩ := ndl_last HL5.out HQ.out
      have q1 : decide ((r.length : Int) ≤ (last : Int)) = false := decide_eq_false (by omega)
      have q1n : decide (r.length ≤ last) = false := decide_eq_false (by omega)
      have q0 : decide ((last : Int) < 0) = false := decide_eq_false (by omega)
      have y0 : (last : Int) < (r.length : Int) := by omega
      have q2 : ((L5.length : Int) == 0) = false := by rw [beq_eq_false_iff_ne]; omega
      have w5 : IntKind.i64.wrap ((L5.length : Int) - 1) = (n5 : Int) := (IntWalk.i64_in _ (by omega)).trans (by omega)
      have y5 : (n5 : Int) < (L5.length : Int) := by omega
      obtain ⟨g5, o5, e5, _, hc5⟩ := in_cell (HX.out w8 (Below.refl _ _)).2.2.1 (show n5 < (Rc.nats L5).length by rw [Rc.nats_len]; omega)
      rw [nats_get L5 n5 (by omega), hln] at hc5
      obtain ⟨gr, or, er, hgr, hcr⟩ := (HX.out w8 (Below.refl _ _)).1.st last hlast
      have d4 := hcr 4 _ rfl
      have es : r[last] = s0 := by rw [List.getElem?_eq_getElem hlast] at hs0; exact Option.some.inj hs0
      rw [es, hp0] at d4
      have n1 : ((str p).toList == (str p).toList) = true := beq_self_eq_true _
      have cs := sortedSt_any L8 A8 c8 w8 (HX.out w8 (Below.refl _ _)).2.2.2.1 (by omega) HL8.out.1
      subst e5 er
      have q3 : ((last : Int) == (last : Int)) = true := beq_self_eq_true _
      clear hs0 hp0 hcr es hln hn5
      go_wp2_with fail
      with_reducible refine cs.mono ?_
      clear cs
      rintro e w9 ⟨rfl, hb9⟩
      have HB9 := Lib.hid hb9
      clear hb9 hc5 d4 n1 q1 q1n q2 w5 y5
      go_wp2_with fail
      -- loops
      go_loopw [82] (fun s82 wr => ∃ j : Nat, s82 = .int .i64 j ∧ j ≤ L5.length ∧ Below w8.heap.size w8 wr) (fun s82 _ => L5.length - (intOf s82).toNat)
      case atStart => exact ⟨0, rfl, Nat.zero_le _, HB9.out⟩
      case round =>
        obtain ⟨j, rfl, hj, hb⟩ := hrel
        by_cases hlj : j < L5.length
        · have c1 : decide ((j : Int) < (L5.length : Int)) = true := decide_eq_true (by omega)
          have c1n : decide (j < L5.length) = true := decide_eq_true hlj
          have y1 : (j : Int) < (L5.length : Int) := by omega
          obtain ⟨g', o', e5, _, hc5⟩ := in_cell (HX.out wr hb).2.2.1 (show j < (Rc.nats L5).length by rw [Rc.nats_len]; omega)
          rw [nats_get L5 j hlj] at hc5
          simp only [Option.some.injEq, Addr.mk.injEq, and_true] at e5
          obtain ⟨rfl, rfl⟩ := e5
          have hned := (HL5.out.2 L5[j]).1 (List.getElem_mem hlj)
          have hk := (ned_lt hned).2
          have HNK := Lib.hid hned
          have HPV := Lib.hid (show ∀ i (h : i < L5.length), i + 1 = j → L5[i] < L5[j] from fun i h e => List.pairwise_iff_getElem.1 HL5.out.1 i j h hlj (by omega))
          have HIV := Lib.hid (show ∀ i (h : i < L5.length), wr.cell? ⟨g5, o5 + i, none⟩ = some (.int .i64 ((L5[i] : Nat) : Int)) from fun i h => by
            obtain ⟨g', o', e5, _, hc5⟩ := in_cell (HX.out wr hb).2.2.1 (show i < (Rc.nats L5).length by rw [Rc.nats_len]; omega)
            rw [nats_get L5 i h] at hc5
            simp only [Option.some.injEq, Addr.mk.injEq, and_true] at e5
            obtain ⟨rfl, rfl⟩ := e5
            exact hc5)
          clear hned
          generalize L5[j] = k at *
          have k1 : decide ((k : Int) < 0) = false := decide_eq_false (by omega)
          have k2 : decide ((r.length : Int) ≤ (k : Int)) = false := decide_eq_false (by omega)
          have k2n : decide (r.length ≤ k) = false := decide_eq_false (by omega)
          have y2 : (k : Int) < (r.length : Int) := by omega
          by_cases hj0 : 0 < j
          · have j1 : decide ((0 : Int) < (j : Int)) = true := decide_eq_true (by omega)
            have j1n : decide (0 < j) = true := decide_eq_true hj0
            obtain ⟨i, hij⟩ : ∃ i, i + 1 = j := ⟨j - 1, by omega⟩
            have hil : i < L5.length := by omega
            have wi : IntKind.i64.wrap ((j : Int) - 1) = (i : Int) := (IntWalk.i64_in _ (by omega)).trans (by omega)
            have y3 : (i : Int) < (L5.length : Int) := by omega
            have hlt := HPV.out i hil hij
            have hci := HIV.out i hil
            have p1 : decide ((k : Int) ≤ ((L5[i] : Nat) : Int)) = false := decide_eq_false (by omega)
            have p1n : decide (k ≤ L5[i]) = false := decide_eq_false (by omega)
            generalize L5[i] = q at *
            clear hij hj0 hlt HPV HIV
            go_upto_region 15 with (fail)
            clear hc5 hci p1 p1n wi y3 hil
            obtain ⟨g1, o1, hxA, hg1, hc1⟩ := ((HX.out wr hb).1.rd r[k] (List.getElem_mem hk)).row (HZR.out k hk).1
            have HC1 := Lib.hid hc1
            have hd3 := (HX.out wr hb).1.st.row (by omega)
            obtain ⟨gr', or', er, _, hcr⟩ := hd3
            simp only [Option.some.injEq, Addr.mk.injEq, and_true] at er
            obtain ⟨rfl, rfl⟩ := er
            have d3 := hcr k hk 3 _ rfl
            rw [hxA] at d3
            have HXK := Lib.hid (show r[k]? = some r[k] from List.getElem?_eq_getElem hk)
            have HSP := Lib.hid (show ∀ t ∈ r[k].rds, t.pth.length ≤ 100000000 from fun t ht => HS.out.p r[k] (List.getElem_mem hk) t (List.mem_append_left _ ht))
            have hxl := (HZR.out k hk).2
            clear hxA hc1 hcr
            generalize r[k] = x at *
            have HBJ := Lib.hid hb
            clear hb
            go_wp2_with fail
            obtain ⟨w00, hw00⟩ : ∃ x : World, x = wr := ⟨wr, rfl⟩
            subst hw00
            clear d3
            go_loopw [114] (fun s114 wr => ∃ m : Nat, s114 = .int .i64 m ∧ m ≤ x.rds.length ∧ Below w00.heap.size w00 wr) (fun s114 _ => x.rds.length - (intOf s114).toNat)
            case atStart => exact ⟨0, rfl, Nat.zero_le _, Below.refl _ _⟩
            case round =>
              obtain ⟨m, rfl, hm, hbm⟩ := hrel
              by_cases hlm : m < x.rds.length
              · have m1 : decide ((m : Int) < (x.rds.length : Int)) = true := decide_eq_true (by omega)
                have m1n : decide (m < x.rds.length) = true := decide_eq_true hlm
                have y4 : (m : Int) < (x.rds.length : Int) := by omega
                have f0 := (hbm.cell (p := ⟨g1, o1 + m * 2 + 0, none⟩) hg1).trans (HC1.out m hlm 0 _ rfl)
                have f1 := (hbm.cell (p := ⟨g1, o1 + m * 2 + 1, none⟩) hg1).trans (HC1.out m hlm 1 _ rfl)
                rw [show o1 + m * 2 + 0 = o1 + m * 2 from rfl] at f0
                have hPt := HSP.out x.rds[m] (List.getElem_mem hlm)
                have HTM := Lib.hid (List.getElem_mem hlm)
                generalize x.rds[m] = t at *
                have hbw := HBJ.out.trans (hbm.mono HBJ.out.size)
                have hba : Below w8.heap.size w8 (wr.alloc (tcO t)) := hbw.alloc hbw.size _
                have HBA := Lib.hid hba
                have HT0 := Lib.hid (heap_alloc_new wr (tcO t))
                have cc := writer_any r t.pth (some ⟨gr, or, none⟩) c (wr.alloc (tcO t)) (HX.out _ hba).1 HF.out (HX.out _ hba).2.1 (Nat.le_trans hPt (by unfold maxLen; omega))
                have s0 : (wr.alloc (tcO t)).cell? ⟨wr.heap.size, 0, none⟩ = some (.string (str t.pth)) := by rw [cell_of_row _ _ _ _ _ _ HT0.out]; rfl
                have HBMW := Lib.hid hbm
                clear hbm hbw hba
                cases hq : Rc.wr0 r t.pth with
                | none =>
                  have e1 : Rc.wrI r t.pth = -1 := by unfold Rc.wrI; rw [hq]
                  rw [e1] at cc
                  have HC := Lib.hid (show L8.contains t.pth = true from List.contains_iff_mem.2 ((HL8.out.2.2 _).2 ⟨k, x, t, HNK.out, HXK.out, HTM.out, rfl, hq⟩))
                  clear hq e1
                  go_wp2_with fail
                  with_reducible refine cc.mono ?_
                  clear cc
                  rintro e w5 ⟨rfl, hb5⟩
                  have HB5 := Lib.hid (HBA.out.trans (hb5.mono HBA.out.size))
                  have HT5 := Lib.hid ((hb5.block _ (blk_lt HT0.out)).trans HT0.out)
                  have s5 : w5.cell? ⟨wr.heap.size, 0, none⟩ = some (.string (str t.pth)) := by rw [cell_of_row _ _ _ _ _ _ HT5.out]; rfl
                  have cc := containsSt_any L8 t.pth A8 c8 w5 (HX.out _ HB5.out).2.2.2.1 (by omega)
                  rw [HC.out] at cc
                  have HBQ := Lib.hid hb5
                  clear hb5 s0
                  go_wp2_with fail
                  with_reducible refine cc.mono ?_
                  clear cc
                  rintro e w6 ⟨rfl, rfl⟩
                  go_wp2_with fail
                  go_roundw
                  case rel => exact ⟨m + 1, by go_num, by omega, HBMW.out.trans (((Below.refl _ _).alloc (Nat.le_refl _) _ |>.trans (HBQ.out.mono (Nat.le_of_lt (by simp)))).mono HBMW.out.size)⟩
                  case measure => simp [intOf]; omega
                | some n =>
                  have e1 : Rc.wrI r t.pth = (n : Int) := by unfold Rc.wrI; rw [hq]
                  rw [e1] at cc
                  have HC := Lib.hid (show (Rc.nats L5).contains (n : Int) = true by rw [nats_has]; exact List.contains_iff_mem.2 ((HL5.out.2 _).2 (.step HNK.out HXK.out HTM.out hq)))
                  have z5 : decide ((n : Int) < 0) = false := decide_eq_false (by omega)
                  have z6 : decide ((0 : Int) ≤ (n : Int)) = true := decide_eq_true (by omega)
                  clear hq e1
                  go_wp2_with fail
                  with_reducible refine cc.mono ?_
                  clear cc
                  rintro e w5 ⟨rfl, hb5⟩
                  have HB5 := Lib.hid (HBA.out.trans (hb5.mono HBA.out.size))
                  have cc := containsIn_any (Rc.nats L5) (n : Int) (some ⟨g5, o5, none⟩) c5 w5 (HX.out _ HB5.out).2.2.1 (by rw [Rc.nats_len]; omega)
                  rw [HC.out, Rc.nats_len] at cc
                  have HBQ := Lib.hid hb5
                  clear hb5 s0
                  go_wp2_with fail
                  with_reducible refine cc.mono ?_
                  clear cc
                  rintro e w6 ⟨rfl, rfl⟩
                  go_wp2_with fail
                  go_roundw
                  case rel => exact ⟨m + 1, by go_num, by omega, HBMW.out.trans (((Below.refl _ _).alloc (Nat.le_refl _) _ |>.trans (HBQ.out.mono (Nat.le_of_lt (by simp)))).mono HBMW.out.size)⟩
                  case measure => simp [intOf]; omega
              · have m1 : decide ((m : Int) < (x.rds.length : Int)) = false := decide_eq_false (by omega)
                have m1n : decide (m < x.rds.length) = false := decide_eq_false hlm
                have HBM := Lib.hid (HBJ.out.trans (hbm.mono HBJ.out.size))
                clear hbm
                go_wp2_with fail
                go_roundw
                case rel => exact ⟨j + 1, by go_num, by omega, HBM.out⟩
                case measure => simp [intOf]; omega
          · have j1 : decide ((0 : Int) < (j : Int)) = false := decide_eq_false (by omega)
            have j1n : decide (0 < j) = false := decide_eq_false hj0
            clear hj0 HPV HIV
            go_upto_region 15 with (fail)
            clear hc5
            obtain ⟨g1, o1, hxA, hg1, hc1⟩ := ((HX.out wr hb).1.rd r[k] (List.getElem_mem hk)).row (HZR.out k hk).1
            have HC1 := Lib.hid hc1
            have hd3 := (HX.out wr hb).1.st.row (by omega)
            obtain ⟨gr', or', er, _, hcr⟩ := hd3
            simp only [Option.some.injEq, Addr.mk.injEq, and_true] at er
            obtain ⟨rfl, rfl⟩ := er
            have d3 := hcr k hk 3 _ rfl
            rw [hxA] at d3
            have HXK := Lib.hid (show r[k]? = some r[k] from List.getElem?_eq_getElem hk)
            have HSP := Lib.hid (show ∀ t ∈ r[k].rds, t.pth.length ≤ 100000000 from fun t ht => HS.out.p r[k] (List.getElem_mem hk) t (List.mem_append_left _ ht))
            have hxl := (HZR.out k hk).2
            clear hxA hc1 hcr
            generalize r[k] = x at *
            have HBJ := Lib.hid hb
            clear hb
            go_wp2_with fail
            obtain ⟨w00, hw00⟩ : ∃ x : World, x = wr := ⟨wr, rfl⟩
            subst hw00
            clear d3
            go_loopw [114] (fun s114 wr => ∃ m : Nat, s114 = .int .i64 m ∧ m ≤ x.rds.length ∧ Below w00.heap.size w00 wr) (fun s114 _ => x.rds.length - (intOf s114).toNat)
            case atStart => exact ⟨0, rfl, Nat.zero_le _, Below.refl _ _⟩
            case round =>
              obtain ⟨m, rfl, hm, hbm⟩ := hrel
              by_cases hlm : m < x.rds.length
              · have m1 : decide ((m : Int) < (x.rds.length : Int)) = true := decide_eq_true (by omega)
                have m1n : decide (m < x.rds.length) = true := decide_eq_true hlm
                have y4 : (m : Int) < (x.rds.length : Int) := by omega
                have f0 := (hbm.cell (p := ⟨g1, o1 + m * 2 + 0, none⟩) hg1).trans (HC1.out m hlm 0 _ rfl)
                have f1 := (hbm.cell (p := ⟨g1, o1 + m * 2 + 1, none⟩) hg1).trans (HC1.out m hlm 1 _ rfl)
                rw [show o1 + m * 2 + 0 = o1 + m * 2 from rfl] at f0
                have hPt := HSP.out x.rds[m] (List.getElem_mem hlm)
                have HTM := Lib.hid (List.getElem_mem hlm)
                generalize x.rds[m] = t at *
                have hbw := HBJ.out.trans (hbm.mono HBJ.out.size)
                have hba : Below w8.heap.size w8 (wr.alloc (tcO t)) := hbw.alloc hbw.size _
                have HBA := Lib.hid hba
                have HT0 := Lib.hid (heap_alloc_new wr (tcO t))
                have cc := writer_any r t.pth (some ⟨gr, or, none⟩) c (wr.alloc (tcO t)) (HX.out _ hba).1 HF.out (HX.out _ hba).2.1 (Nat.le_trans hPt (by unfold maxLen; omega))
                have s0 : (wr.alloc (tcO t)).cell? ⟨wr.heap.size, 0, none⟩ = some (.string (str t.pth)) := by rw [cell_of_row _ _ _ _ _ _ HT0.out]; rfl
                have HBMW := Lib.hid hbm
                clear hbm hbw hba
                cases hq : Rc.wr0 r t.pth with
                | none =>
                  have e1 : Rc.wrI r t.pth = -1 := by unfold Rc.wrI; rw [hq]
                  rw [e1] at cc
                  have HC := Lib.hid (show L8.contains t.pth = true from List.contains_iff_mem.2 ((HL8.out.2.2 _).2 ⟨k, x, t, HNK.out, HXK.out, HTM.out, rfl, hq⟩))
                  clear hq e1
                  go_wp2_with fail
                  with_reducible refine cc.mono ?_
                  clear cc
                  rintro e w5 ⟨rfl, hb5⟩
                  have HB5 := Lib.hid (HBA.out.trans (hb5.mono HBA.out.size))
                  have HT5 := Lib.hid ((hb5.block _ (blk_lt HT0.out)).trans HT0.out)
                  have s5 : w5.cell? ⟨wr.heap.size, 0, none⟩ = some (.string (str t.pth)) := by rw [cell_of_row _ _ _ _ _ _ HT5.out]; rfl
                  have cc := containsSt_any L8 t.pth A8 c8 w5 (HX.out _ HB5.out).2.2.2.1 (by omega)
                  rw [HC.out] at cc
                  have HBQ := Lib.hid hb5
                  clear hb5 s0
                  go_wp2_with fail
                  with_reducible refine cc.mono ?_
                  clear cc
                  rintro e w6 ⟨rfl, rfl⟩
                  go_wp2_with fail
                  go_roundw
                  case rel => exact ⟨m + 1, by go_num, by omega, HBMW.out.trans (((Below.refl _ _).alloc (Nat.le_refl _) _ |>.trans (HBQ.out.mono (Nat.le_of_lt (by simp)))).mono HBMW.out.size)⟩
                  case measure => simp [intOf]; omega
                | some n =>
                  have e1 : Rc.wrI r t.pth = (n : Int) := by unfold Rc.wrI; rw [hq]
                  rw [e1] at cc
                  have HC := Lib.hid (show (Rc.nats L5).contains (n : Int) = true by rw [nats_has]; exact List.contains_iff_mem.2 ((HL5.out.2 _).2 (.step HNK.out HXK.out HTM.out hq)))
                  have z5 : decide ((n : Int) < 0) = false := decide_eq_false (by omega)
                  have z6 : decide ((0 : Int) ≤ (n : Int)) = true := decide_eq_true (by omega)
                  clear hq e1
                  go_wp2_with fail
                  with_reducible refine cc.mono ?_
                  clear cc
                  rintro e w5 ⟨rfl, hb5⟩
                  have HB5 := Lib.hid (HBA.out.trans (hb5.mono HBA.out.size))
                  have cc := containsIn_any (Rc.nats L5) (n : Int) (some ⟨g5, o5, none⟩) c5 w5 (HX.out _ HB5.out).2.2.1 (by rw [Rc.nats_len]; omega)
                  rw [HC.out, Rc.nats_len] at cc
                  have HBQ := Lib.hid hb5
                  clear hb5 s0
                  go_wp2_with fail
                  with_reducible refine cc.mono ?_
                  clear cc
                  rintro e w6 ⟨rfl, rfl⟩
                  go_wp2_with fail
                  go_roundw
                  case rel => exact ⟨m + 1, by go_num, by omega, HBMW.out.trans (((Below.refl _ _).alloc (Nat.le_refl _) _ |>.trans (HBQ.out.mono (Nat.le_of_lt (by simp)))).mono HBMW.out.size)⟩
                  case measure => simp [intOf]; omega
              · have m1 : decide ((m : Int) < (x.rds.length : Int)) = false := decide_eq_false (by omega)
                have m1n : decide (m < x.rds.length) = false := decide_eq_false hlm
                have HBM := Lib.hid (HBJ.out.trans (hbm.mono HBJ.out.size))
                clear hbm
                go_wp2_with fail
                go_roundw
                case rel => exact ⟨j + 1, by go_num, by omega, HBM.out⟩
                case measure => simp [intOf]; omega
        · have c1 : decide ((j : Int) < (L5.length : Int)) = false := decide_eq_false (by omega)
          have c1n : decide (j < L5.length) = false := decide_eq_false hlj
          have HBE := Lib.hid hb
          clear hb
          go_wp2_with fail
          obtain ⟨w01, hw01⟩ : ∃ x : World, x = wr := ⟨wr, rfl⟩
          subst hw01
          go_loopw [145] (fun s145 wr => ∃ k : Nat, s145 = .int .i64 k ∧ k ≤ r.length ∧ Below w8.heap.size w8 wr) (fun s145 _ => r.length - (intOf s145).toNat)
          case atStart => exact ⟨0, rfl, Nat.zero_le _, HBE.out⟩
          case round =>
            obtain ⟨w02, hw02⟩ : ∃ x : World, x = wr := ⟨wr, rfl⟩
            subst hw02
            obtain ⟨k, rfl, hk, hb⟩ := hrel
            by_cases hlk : k < r.length
            · have k1 : decide ((k : Int) < (r.length : Int)) = true := decide_eq_true (by omega)
              have k1n : decide (k < r.length) = true := decide_eq_true hlk
              have y1 : (k : Int) < (r.length : Int) := by omega
              obtain ⟨gr', or', er, _, hcr⟩ := (HX.out w02 hb).1.st.row (by omega)
              simp only [Option.some.injEq, Addr.mk.injEq, and_true] at er
              obtain ⟨rfl, rfl⟩ := er
              have d0 := hcr k hlk 0 _ rfl
              have d1 := hcr k hlk 1 _ rfl
              have d2 := hcr k hlk 2 _ rfl
              have d3 := hcr k hlk 3 _ rfl
              have d4 := hcr k hlk 4 _ rfl
              have d5 := hcr k hlk 5 _ rfl
              rw [show or + k * 6 + 0 = or + k * 6 from rfl] at d0
              obtain ⟨g1, o1, hxA, hg1, hc1⟩ := ((HX.out w02 hb).1.rd r[k] (List.getElem_mem hlk)).row (HZR.out k hlk).1
              have HC1 := Lib.hid hc1
              have HSP := Lib.hid (show ∀ t ∈ r[k].rds, t.pth.length ≤ 100000000 from fun t ht => HS.out.p r[k] (List.getElem_mem hlk) t (List.mem_append_left _ ht))
              have hxl := (HZR.out k hlk).2
              clear hc1 hcr
              generalize r[k] = x at *
              obtain ⟨W2, hW2⟩ : ∃ W2, W2 = w02.alloc (dnO x) := ⟨_, rfl⟩
              have hbx : Below w02.heap.size w02 W2 := by rw [hW2]; exact (Below.refl _ _).alloc (Nat.le_refl _) _
              have hx2 : W2.heap[w02.heap.size]? = some (dnO x) := by rw [hW2]; exact heap_alloc_new _ _
              have HB2X := Lib.hid (hb.trans (hbx.mono hb.size))
              have HBX := Lib.hid hbx
              have e3 : W2.cell? ⟨w02.heap.size, 3, none⟩ = some (.slice x.A x.rds.length x.c) := by rw [cell_of_row _ _ _ _ _ _ hx2]; rfl
              rw [hxA] at e3
              clear hb hbx hx2
              go_upto_region 26 with (fail)
              rw [← hxA, ← hW2]
              clear d0 d1 d2 d3 d4 d5 hW2 hxA
              go_wp2_with fail
              clear e3
              go_loopw [152] (fun s152 wr => ∃ m : Nat, s152 = .int .i64 m ∧ m ≤ x.rds.length ∧ Below W2.heap.size W2 wr) (fun s152 _ => x.rds.length - (intOf s152).toNat)
              case atStart => exact ⟨0, rfl, Nat.zero_le _, Below.refl _ _⟩
              case round =>
                obtain ⟨m, rfl, hm, hbm⟩ := hrel
                by_cases hlm : m < x.rds.length
                · have m1 : decide ((m : Int) < (x.rds.length : Int)) = true := decide_eq_true (by omega)
                  have m1n : decide (m < x.rds.length) = true := decide_eq_true hlm
                  have y4 : (m : Int) < (x.rds.length : Int) := by omega
                  have hgm : g1 < W2.heap.size := Nat.lt_of_lt_of_le hg1 HBX.out.size
                  have f0 := (hbm.cell (p := ⟨g1, o1 + m * 2 + 0, none⟩) hgm).trans ((HBX.out.cell (p := ⟨g1, o1 + m * 2 + 0, none⟩) hg1).trans (HC1.out m hlm 0 _ rfl))
                  have f1 := (hbm.cell (p := ⟨g1, o1 + m * 2 + 1, none⟩) hgm).trans ((HBX.out.cell (p := ⟨g1, o1 + m * 2 + 1, none⟩) hg1).trans (HC1.out m hlm 1 _ rfl))
                  rw [show o1 + m * 2 + 0 = o1 + m * 2 from rfl] at f0
                  have hPt := HSP.out x.rds[m] (List.getElem_mem hlm)
                  generalize x.rds[m] = t at *
                  have hbw := HB2X.out.trans (hbm.mono HB2X.out.size)
                  have hba : Below w8.heap.size w8 (wr.alloc (tcO t)) := hbw.alloc hbw.size _
                  have HBA := Lib.hid hba
                  have HT0 := Lib.hid (heap_alloc_new wr (tcO t))
                  have HBMW := Lib.hid hbm
                  have cc := writer_any r t.pth (some ⟨gr, or, none⟩) c (wr.alloc (tcO t)) (HX.out _ hba).1 HF.out (HX.out _ hba).2.1 (Nat.le_trans hPt (by unfold maxLen; omega))
                  have s0 : (wr.alloc (tcO t)).cell? ⟨wr.heap.size, 0, none⟩ = some (.string (str t.pth)) := by rw [cell_of_row _ _ _ _ _ _ HT0.out]; rfl
                  have HSN := Lib.hid (Nat.le_of_lt (show wr.heap.size < (wr.alloc (tcO t)).heap.size by simp))
                  clear hbm hbw hba
                  cases hq : Rc.wr0 r t.pth with
                  | some n =>
                    have e1 : Rc.wrI r t.pth = (n : Int) := by unfold Rc.wrI; rw [hq]
                    rw [e1] at cc
                    have z6 : decide ((0 : Int) ≤ (n : Int)) = true := decide_eq_true (by omega)
                    clear hq e1
                    go_wp2_with fail
                    with_reducible refine cc.mono ?_
                    clear cc
                    rintro e w5 ⟨rfl, hb5⟩
                    have HBQ := Lib.hid hb5
                    clear hb5 s0
                    go_wp2_with fail
                    go_roundw
                    case rel => exact ⟨m + 1, by go_num, by omega, HBMW.out.trans (((Below.refl _ _).alloc (Nat.le_refl _) _ |>.trans (HBQ.out.mono HSN.out)).mono HBMW.out.size)⟩
                    case measure => simp [intOf]; omega
                  | none =>
                    have e1 : Rc.wrI r t.pth = -1 := by unfold Rc.wrI; rw [hq]
                    rw [e1] at cc
                    obtain ⟨bv, hbv⟩ : ∃ bv, L8.contains t.pth = bv := ⟨_, rfl⟩
                    have HBV := Lib.hid hbv
                    have HEQ := Lib.hid (show (Rc.nats (affL r [t.pth])).contains (last : Int) = bv by
                      rw [← hbv]
                      rw [nats_has, Bool.eq_iff_iff, List.contains_iff_mem, List.contains_iff_mem, Rc.aff_src HZ.out HQ.out hq, HL8.out.2.2])
                    clear hq e1 hbv
                    go_wp2_with fail
                    with_reducible refine cc.mono ?_
                    clear cc
                    rintro e w5 ⟨rfl, hb5⟩
                    have HBQ := Lib.hid hb5
                    have HB5 := Lib.hid (HBA.out.trans (hb5.mono HBA.out.size))
                    have HT5 := Lib.hid ((hb5.block _ (blk_lt HT0.out)).trans HT0.out)
                    have HTL := Lib.hid (blk_lt HT5.out)
                    clear hb5 s0
                    go_upto_region 30 with (fail)
                    have s5 : w5.cell? ⟨wr.heap.size, 0, none⟩ = some (.string (str t.pth)) := by rw [cell_of_row _ _ _ _ _ _ HT5.out]; rfl
                    have s5d : w5.drew.cell? ⟨wr.heap.size, 0, none⟩ = some (.string (str t.pth)) := s5
                    have hbn : Below w5.heap.size w5 (w5.alloc (.cells #[.string (str t.pth)] 9)).drew := ((Below.refl _ _).alloc (Nat.le_refl _) _).drew
                    have hb7 := HB5.out.trans (hbn.mono HB5.out.size)
                    have cA := affected_any r [t.pth] (some ⟨gr, or, none⟩) (some ⟨w5.heap.size, 0, none⟩) c 1 (w5.alloc (.cells #[.string (str t.pth)] 9)).drew (HX.out _ hb7).1 (one_st w5 t.pth) HF.out (HX.out _ hb7).2.1 (by simp) (fun q hq => by rw [List.mem_singleton.1 hq]; omega)
                    rw [show ([t.pth] : List (List UInt8)).length = 1 from rfl] at cA
                    have s6 : (w5.alloc (.cells #[.string (str t.pth)] 9)).drew.cell? ⟨wr.heap.size, 0, none⟩ = some (.string (str t.pth)) := (hbn.cell (p := ⟨wr.heap.size, 0, none⟩) HTL.out).trans s5
                    have s6d : (w5.alloc (.cells #[.string (str t.pth)] 9)).cell? ⟨wr.heap.size, 0, none⟩ = some (.string (str t.pth)) := s6
                    have HKA := Lib.hid (fun (w' : World) (h : Below (w5.alloc (.cells #[.string (str t.pth)] 9)).drew.heap.size (w5.alloc (.cells #[.string (str t.pth)] 9)).drew w') => (h.cell (p := ⟨wr.heap.size, 0, none⟩) (Nat.lt_of_lt_of_le HTL.out hbn.size)).trans s6)
                    have HB7 := Lib.hid hb7
                    have HBN := Lib.hid hbn
                    clear hbn hb7
                    go_region_held3 (fun w' => w'.cell? ⟨wr.heap.size, 0, none⟩ = some (.string (str t.pth))) (first | exact s5d | exact s5 | exact s6 | exact s6d | exact HKA.out _ (by assumption)) (first | (go_at_call 19; (with_reducible refine cA.mono ?_); rintro e w6 ⟨L6, A6, c6, rfl, rfl, hl6, hin6, hb6⟩) | (go_at_call 25; (have cI := containsIn_any (Rc.nats (affL r [t.pth])) (last : Int) A6 c6 w6 hin6 (by rw [Rc.nats_len]; omega)); rw [HEQ.out, Rc.nats_len] at cI; (with_reducible refine cI.mono ?_); rintro e w7 ⟨rfl, rfl⟩) | (go_at_call 24; (have cS := containsSt_any L8 t.pth A8 c8 _ (HX.out _ (HB7.out.trans (hb6.mono HB7.out.size))).2.2.2.1 (by omega)); rw [HBV.out] at cS; (with_reducible refine cS.mono ?_); rintro e w8' ⟨rfl, rfl⟩))
                    all_goals
                      have HBR := Lib.hid (HBMW.out.trans (((((Below.refl wr.heap.size wr).alloc (Nat.le_refl _) (tcO t)).trans ((HBQ.out.trans ((HBN.out.trans (hb6.mono HBN.out.size)).mono HBQ.out.size)).mono HSN.out))).mono HBMW.out.size))
                      have zb : (bv != bv) = false := by cases bv <;> rfl
                      have zc : (bv == bv) = true := beq_self_eq_true bv
                      clear s5 s5d s6 s6d hin6 hb6
                      go_wp2_with fail
                      go_roundw
                      case rel => exact ⟨m + 1, by go_num, by omega, HBR.out⟩
                      case measure => simp [intOf]; omega
                · have m1 : decide ((m : Int) < (x.rds.length : Int)) = false := decide_eq_false (by omega)
                  have m1n : decide (m < x.rds.length) = false := decide_eq_false hlm
                  have HBM := Lib.hid (HB2X.out.trans (hbm.mono HB2X.out.size))
                  clear hbm
                  go_wp2_with fail
                  go_roundw
                  case rel => exact ⟨k + 1, by go_num, by omega, HBM.out⟩
                  case measure => simp [intOf]; omega
            · have k1 : decide ((k : Int) < (r.length : Int)) = false := decide_eq_false (by omega)
              have k1n : decide (k < r.length) = false := decide_eq_false hlk
              have HBM := Lib.hid hb
              clear hb
              go_wp2_with fail
              first | go_ret3 | go_ret2 | go_ret
              exact ⟨rfl, HB8.out.trans (HBM.out.mono HB8.out.size)⟩
      -- end of loops
  · generalize hce : Rc.chk r = ce at *
    have z1 : (ce != 0) = true := by rw [bne_iff_ne]; exact hz
    have z2 : (ce == 0) = false := by rw [beq_eq_false_iff_ne]; exact hz
    clear hz hce
    go_wp2_with fail
    with_reducible refine cc.mono ?_
    clear cc
    rintro e w3 ⟨rfl, hb3⟩
    have HB3 := Lib.hid (HB2.out.trans (hb3.mono HB2.out.size))
    clear hb3 HB2
    go_wp2_with fail
    first | go_ret3 | go_ret2 | go_ret
    exact ⟨rfl, HB3.out⟩
end Go.Proofs.YtkgnbjhgdjmfdaaDoor
