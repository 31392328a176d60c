/- Shared of the program. Condition: the hashes are numbers of the machine; the lengths. -/
import Derived.Test.YtkmldaelgbkfbaaDoorMwl
import Derived.Test.YtkmldaelgbkfbaaDoorQsh
namespace Go.Proofs.YtkmldaelgbkfbaaDoor
open Go.RowKit Go.Deep Go.Maps
namespace Wn
theorem plc_fun (l : List Fp) (k : Nat) (h : k < l.length) : (fun y => if y = l[k].hash then plc (l.take k) l[k].hash ++ [l[k].pos] else plc (l.take k) y) = plc (l.take (k + 1)) := by
  funext y
  rw [plc_snoc l k h]
  by_cases e : y = l[k].hash
  · rw [if_pos e, if_pos e, e]
  · rw [if_neg e, if_neg e]
theorem cell_alloc_lt (w : World) (O : Obj) (q i : Nat) (h : q < w.heap.size) : (w.alloc O).cell? ⟨q, i, none⟩ = w.cell? ⟨q, i, none⟩ := ((Below.refl w.heap.size w).alloc (Nat.le_refl _) O).cell (p := ⟨q, i, none⟩) h
theorem half2_le (a b : List Fp) (i k : Nat) (h : i < a.length) (hk : k < (plc b a[i].hash).length) : (prs (a.take i) b ++ pr1 a[i] ((plc b a[i].hash).take k)).length + 1 ≤ (prs a b).length := by
  have h1 := prs_le a b (i + 1)
  rw [prs_snoc a b i h] at h1
  rw [List.length_append, pr1_len, List.length_take]
  rw [List.length_append, pr1_len] at h1
  omega
theorem own_kind_ne {w : World} {B e size n q : Nat} {v : Value} {xs : List Value} {c : Array Value} {T : TypeId} {z : Nat × Nat} (h : w.ownsRow B e size v n xs) (hq : w.heap[q]? = some (.cells c T z)) (hT : e ≠ T) : v.ownBlock ≠ some q := fun e1 => by
  obtain ⟨cs, fz, h5⟩ := Lib.ownsRow_kind h q e1
  exact kind_ne h5 hq hT rfl
set_option maxHeartbeats 16000000 in
set_option maxRecDepth 100000 in
theorem shared_any (a b : List Fp) (A B : Option Addr) (c d : Nat) (w : World) (hA : Gr.EdAt w w.heap.size A a) (hB : Gr.EdAt w w.heap.size B b) (ha : a.length ≤ 60) (hb : b.length ≤ 60) (hfa : ∀ x ∈ a, Fit x.hash) (hfb : ∀ x ∈ b, Fit x.hash) :
    Calls Tryd.prog 14 #[.slice A a.length c, .slice B b.length d] w (GotP w (shL a b) (shE a b)) := by
  obtain ⟨i0, hi0, hz0, hz1, hz2⟩ := info_parts infoPr
  have HL := Lib.hid (show shL a b = if ordF a = true ∧ ordF b = true ∧ (prs a b).length ≤ 1024 then prs a b else [] from rfl)
  have HE := Lib.hid (show shE a b = if ordF a = true ∧ ordF b = true then if (prs a b).length ≤ 1024 then 0 else 10 else 5 from rfl)
  generalize shL a b = L at *
  generalize shE a b = E at *
  have c1 := inOrder_any a A c w hA (by omega)
  cases hoa : ordF a with
  | false =>
    rw [hoa] at c1
    have HT := Lib.hid (show L = [] ∧ E = 5 from ⟨by rw [HL.out, hoa, if_neg (by simp)], by rw [HE.out, hoa, if_neg (by simp)]⟩)
    clear HL HE hoa hA hB hfa hfb
    go_enter Tryd.func14, Tryd.ntmps14
    go_wp2_with fail
    (with_reducible refine c1.mono ?_); rintro e w1 ⟨rfl, hb1⟩
    have HB1 := Lib.hid hb1
    clear hb1 c1
    go_wp2_with fail
    go_ret2
    exact ⟨none, 0, by rw [HT.out.1, HT.out.2]; rfl, by rw [HT.out.1]; exact Nat.le_refl _, by unfold maxLen; omega, by rw [HT.out.1]; exact Gr.ElAt.nil _ _ _ _ _, HB1.out⟩
  | true =>
  rw [hoa] at c1
  have c2 := fun w1 (h : Below w.heap.size w w1) => inOrder_any b B d w1 (hB.next h) (by omega)
  cases hob : ordF b with
  | false =>
    rw [hob] at c2
    have HT := Lib.hid (show L = [] ∧ E = 5 from ⟨by rw [HL.out, hob, if_neg (by simp)], by rw [HE.out, hob, if_neg (by simp)]⟩)
    clear HL HE hoa hob hA hB hfa hfb
    go_enter Tryd.func14, Tryd.ntmps14
    go_wp2_with fail
    (with_reducible refine c1.mono ?_); rintro e w1 ⟨rfl, hb1⟩
    have HB1 := Lib.hid hb1
    have c2 := c2 w1 hb1
    clear hb1 c1
    go_wp2_with fail
    (with_reducible refine c2.mono ?_); rintro e w2 ⟨rfl, hb2⟩
    have HB2 := Lib.hid (HB1.out.trans (hb2.mono HB1.out.size))
    clear hb2 c2
    go_wp2_with fail
    go_ret2
    exact ⟨none, 0, by rw [HT.out.1, HT.out.2]; rfl, by rw [HT.out.1]; exact Nat.le_refl _, by unfold maxLen; omega, by rw [HT.out.1]; exact Gr.ElAt.nil _ _ _ _ _, HB2.out⟩
  | true =>
  rw [hob] at c2
  have HT := Lib.hid (show ((prs a b).length ≤ 1024 → L = prs a b ∧ E = 0) ∧ (1024 < (prs a b).length → L = [] ∧ E = 10) from ⟨fun h => ⟨by rw [HL.out, if_pos ⟨hoa, hob, h⟩], by rw [HE.out, if_pos ⟨hoa, hob⟩, if_pos h]⟩, fun h => ⟨by rw [HL.out, if_neg (fun h' => by omega)], by rw [HE.out, if_pos ⟨hoa, hob⟩, if_neg (by omega)]⟩⟩)
  have HLE := Lib.hid (And.intro ha hb)
  have HFA := Lib.hid hfa
  have HFB := Lib.hid hfb
  obtain ⟨na, hna⟩ : ∃ n, n = a.length := ⟨_, rfl⟩
  obtain ⟨nb, hnb⟩ : ∃ n, n = b.length := ⟨_, rfl⟩
  have HNA := Lib.hid hna
  have HNB := Lib.hid hnb
  rw [← hna] at c1 ⊢
  rw [← hnb] at c2 ⊢
  have HAA := Lib.hid hA
  have HBB := Lib.hid hB
  clear HL HE hoa hob ha hb hna hnb hA hB hfa hfb
  go_enter Tryd.func14, Tryd.ntmps14
  go_wp2_with fail
  (with_reducible refine c1.mono ?_); rintro e w1 ⟨rfl, hb1⟩
  have HB1 := Lib.hid hb1
  have c2 := c2 w1 hb1
  clear hb1 c1
  go_wp2_with fail
  (with_reducible refine c2.mono ?_); rintro e w2 ⟨rfl, hb2⟩
  have HB2 := Lib.hid (HB1.out.trans (hb2.mono HB1.out.size))
  clear hb2 c2
  have hmm := @run_makeMap Tryd.prog
  have HM0 := Lib.hid (Mw.made w2 w2.heap.size (Nat.le_refl _))
  have HBM := Lib.hid (show Below w2.heap.size w2 (w2.alloc (.map #[] 0)) from (Below.refl _ _).alloc (Nat.le_refl _) _)
  go_wp2_with fail
  clear hmm
  go_loopw [25] (fun s25 wr => ∃ j : Nat, s25 = .int .i64 j ∧ j ≤ nb ∧ Mw wr w2.heap.size w2.heap.size j (plc (b.take j)) ∧ Below w2.heap.size w2 wr) (fun s25 _ => nb - (intOf s25).toNat)
  case atStart => exact ⟨0, rfl, by omega, by rw [show plc (b.take 0) = fun _ => [] from rfl]; exact HM0.out, HBM.out⟩
  case round =>
    obtain ⟨j, rfl, hj, hM, hbw⟩ := hrel
    obtain ⟨w00, rfl⟩ : ∃ x : World, x = wr := ⟨wr, rfl⟩
    have hnb := HNB.out
    obtain ⟨ha, hb⟩ := HLE.out
    by_cases hlt : j < nb
    · have b1 : decide ((j : Int) < (nb : Int)) = true := decide_eq_true (by omega)
      have b1n : decide (j < nb) = true := decide_eq_true hlt
      obtain ⟨gb, ob, rfl, hgb, hcb⟩ := fp_cells (HBB.out.next HB2.out) (by omega)
      have hjb : j < b.length := by omega
      obtain ⟨q0, q1⟩ := hcb j hjb
      have q0 := (hbw.cell (p := ⟨gb, ob + j * 2, none⟩) hgb).trans q0
      have q1 := (hbw.cell (p := ⟨gb, ob + j * 2 + 1, none⟩) hgb).trans q1
      have y2 : (j : Int) < (nb : Int) := by omega
      have hfit := HFB.out b[j] (List.getElem_mem hjb)
      have HPF := Lib.hid (plc_fun b j hjb)
      have hpl := plc_len (b.take j) b[j].hash
      rw [List.length_take] at hpl
      generalize b[j] = y at *
      have hbz : Below w00.heap.size w00 (w00.alloc (.cells #[.int .i64 y.hash, .int .i64 y.pos] 35 (0, 0))) := (Below.refl _ _).alloc (Nat.le_refl _) _
      have hM5 := hM.next hbz
      have hbw5 := hbw.trans (hbz.mono hbw.size)
      have hnw := heap_alloc_new w00 (.cells #[.int .i64 y.hash, .int .i64 y.pos] 35 (0, 0))
      obtain ⟨v, hlook, hrow, hstep⟩ := hM5.take y.hash hfit (by unfold maxLen; omega) Tryd.underlying58
      obtain ⟨w5, hw5⟩ : ∃ w5, w5 = w00.alloc (.cells #[.int .i64 y.hash, .int .i64 y.pos] 35 (0, 0)) := ⟨_, rfl⟩
      rw [← hw5] at hM5 hbw5 hlook hrow hstep hnw
      have hmlt := hM5.lt
      have p0 : w5.cell? ⟨w00.heap.size, 0, none⟩ = some (.int .i64 y.hash) := by rw [cell_of_row _ _ _ _ _ _ hnw]; rfl
      have p1 : w5.cell? ⟨w00.heap.size, 1, none⟩ = some (.int .i64 y.pos) := by rw [cell_of_row _ _ _ _ _ _ hnw]; rfl
      have hal := fun (i : Nat) => cell_alloc_lt w5 (.cells #[.int .i64 y.pos] 3 (0, 0)) w00.heap.size i (blk_lt hnw)
      have p2 := (hal 0).trans p0
      have p3 := (hal 1).trans p1
      have p4 : (w5.alloc (.cells #[.int .i64 y.pos] 3 (0, 0))).drew.cell? ⟨w00.heap.size, 0, none⟩ = some (.int .i64 y.hash) := p2
      have p5 : (w5.alloc (.cells #[.int .i64 y.pos] 3 (0, 0))).drew.cell? ⟨w00.heap.size, 1, none⟩ = some (.int .i64 y.pos) := p3
      have p6 : w5.drew.cell? ⟨w00.heap.size, 0, none⟩ = some (.int .i64 y.hash) := p0
      have p7 : w5.drew.cell? ⟨w00.heap.size, 1, none⟩ = some (.int .i64 y.pos) := p1
      clear hal
      have HNE := Lib.hid (own_kind_ne hrow hnw (by decide))
      have HNW := Lib.hid (show (w5.alloc (.cells #[.int .i64 y.pos] 3 (0, 0))).drew.heap[w00.heap.size]? = some (.cells #[.int .i64 y.hash, .int .i64 y.pos] 35 (0, 0)) from (blk_alloc_lt w5 _ _ (blk_lt hnw)).trans hnw)
      have k1 := hlook w5 rfl
      have k2 := hlook w5.drew rfl
      have k3 := hlook (w5.alloc (.cells #[.int .i64 y.pos] 3 (0, 0))) (blk_alloc_lt _ _ _ hmlt)
      have k4 := hlook (w5.alloc (.cells #[.int .i64 y.pos] 3 (0, 0))).drew (blk_alloc_lt _ _ _ hmlt)
      have k5 := hlook (w5.drew.alloc (.cells #[.int .i64 y.pos] 3 (0, 0))) (blk_alloc_lt w5.drew _ _ hmlt)
      have HB5 := Lib.hid hbw5
      have HRW := Lib.hid hrow
      have HST := Lib.hid hstep
      have HJ := Lib.hid (show j + 1 ≤ nb ∧ nb ≤ 60 from ⟨hlt, by omega⟩)
      have hj8 : j ≤ 60 := by omega
      obtain ⟨nl, hnl⟩ : ∃ n, n = (plc (b.take j) y.hash).length := ⟨_, rfl⟩
      have hl8 : nl ≤ 60 := by omega
      have hsz := hbw5.size
      have hgbs := Nat.lt_of_lt_of_le hgb hbw.size
      clear hM hbw hlt hj hnb hgb hcb hM5 hbw5 hlook hrow hstep hnw hbz hfit ha hb hjb hpl
      obtain ⟨i1, hi1, hy0, hy1, hy2⟩ := info_parts infoIn
      rw [← hnl] at HRW HST
      have HNL := Lib.hid hnl
      clear hnl
      go_upto_region 7 with (fail)
      rw [← hw5]
      clear hw5 q0 q1 b1 b1n y2 hgbs
      go_region_law ((refine step_append_lies _ (by rfl) _ _ 47 (by rfl) w2.heap.size 3 i1 _ 1 8 Tryd.underlying47 hi1 hy0 hy1 hy2 rfl (by omega) v nl _ (by rfl) ((HRW.out.alloc _).drew) ⟨w5.heap.size, 0, none⟩ 1 1 [_] (by rfl) (by rfl) (World.news_of_block (cs := #[_]) (t := 3) (fr := (0, 0)) (heap_alloc_new w5 _)) (by simp [Value.oneCell']) (by omega) (by unfold maxLen; omega) (by omega) (by simp; omega) (w5.heap.size + 1) (by simp) ?_; intro gg cap3 w6 hown6 hgrow hat hlt6; obtain ⟨w7, hrun7, hM7, hg7⟩ := HST.out gg cap3 (w5.alloc (.cells #[.int .i64 y.pos] 3 (0, 0))).drew w6 y.pos (by simp) (fun q hq => blk_alloc_lt w5 (.cells #[.int .i64 y.pos] 3 (0, 0)) q hq) hown6 hgrow (hat.elim .inl (fun h => .inr (by omega))); have h8 := (hgrow.block w00.heap.size (blk_lt HNW.out) (fun e => HNE.out e.symm)).trans HNW.out; have p8 : w6.cell? ⟨w00.heap.size, 0, none⟩ = some (.int .i64 y.hash) := (by rw [cell_of_row _ _ _ _ _ _ h8]; rfl)))
      all_goals
        have HB7 := Lib.hid (show Below w2.heap.size w2 w7 from (below_grown ((HB5.out.alloc hsz _).drew) (by simp; omega) ((HRW.out.alloc _).drew) hgrow).trans (below_map hg7 (Nat.le_refl _) (below_grown ((HB5.out.alloc hsz _).drew) (by simp; omega) ((HRW.out.alloc _).drew) hgrow).size))
        have HM7 := Lib.hid hM7
        clear hown6 hgrow hat hlt6 hrun7 hM7 hg7 h8 p8 p0 p1 p2 p3 p4 p5 p6 p7 k1 k2 k3 k4 k5
        go_wp2_with fail
        go_roundw
        case rel => exact ⟨j + 1, by go_num, HJ.out.1, by rw [← HPF.out]; exact HM7.out, HB7.out⟩
        case measure => have := HJ.out; simp [intOf]; omega
    · have b1 : decide ((j : Int) < (nb : Int)) = false := decide_eq_false (by omega)
      have b1n : decide (j < nb) = false := decide_eq_false hlt
      rw [List.take_of_length_le (by omega)] at hM
      have HMB := Lib.hid hM
      have HB3 := Lib.hid (HB2.out.trans (hbw.mono HB2.out.size))
      have HJ2 := Lib.hid (show j ≤ 60 by omega)
      clear hM hbw hlt hj hnb ha hb
      go_wp2_with fail
      clear b1 b1n
      go_loopw [43, 9] (fun s43 s9 wr => ∃ (i : Nat) (sv : Value), sv = s9 ∧ s43 = .int .i64 i ∧ i ≤ na ∧ (prs (a.take i) b).length ≤ 1024 ∧ wr.ownsRow w00.heap.size 44 2 sv (prs (a.take i) b).length (Gr.edsV (prs (a.take i) b)) ∧ Below w00.heap.size w00 wr) (fun s43 _ _ => na - (intOf s43).toNat)
      case atStart => exact ⟨0, _, rfl, rfl, by omega, by simp [prs], World.ownsRow_nil _ _ _ _, Below.refl _ _⟩
      case round =>
        obtain ⟨i, sv, rfl, rfl, hi, hl1, hown, hbw⟩ := hrel
        obtain ⟨w01, rfl⟩ : ∃ x : World, x = wr := ⟨wr, rfl⟩
        have hna := HNA.out
        obtain ⟨ha, hb⟩ := HLE.out
        by_cases hlt : i < na
        · have b1 : decide ((i : Int) < (na : Int)) = true := decide_eq_true (by omega)
          have b1n : decide (i < na) = true := decide_eq_true hlt
          have hia : i < a.length := by omega
          obtain ⟨ga, oa, rfl, hga, hca⟩ := fp_cells (HAA.out.next HB3.out) (by omega)
          obtain ⟨p0, p1⟩ := hca i hia
          have p0 := (hbw.cell (p := ⟨ga, oa + i * 2, none⟩) hga).trans p0
          have p1 := (hbw.cell (p := ⟨ga, oa + i * 2 + 1, none⟩) hga).trans p1
          have y1 : (i : Int) < (na : Int) := by omega
          have hfit := HFA.out a[i] (List.getElem_mem hia)
          have HH2 := Lib.hid (fun k hk => half2_le a b i k hia hk)
          have HSN := Lib.hid (prs_snoc a b i hia)
          generalize a[i] = x at *
          obtain ⟨v, hlook, hrow, -⟩ := HMB.out.take x.hash hfit (by have := HJ2.out; unfold maxLen; omega) Tryd.underlying58
          obtain ⟨Av, kv, rfl, -, -, hin⟩ := own_in hrow
          have HIN := Lib.hid hin
          have hbz : Below w01.heap.size w01 (w01.alloc (.cells #[.int .i64 x.hash, .int .i64 x.pos] 35 (0, 0))) := (Below.refl _ _).alloc (Nat.le_refl _) _
          have hnw := heap_alloc_new w01 (.cells #[.int .i64 x.hash, .int .i64 x.pos] 35 (0, 0))
          have hbw5 := hbw.trans (hbz.mono hbw.size)
          have hown5 := own_below hown hbz
          have k1 := hlook (w01.alloc (.cells #[.int .i64 x.hash, .int .i64 x.pos] 35 (0, 0))) (hbw5.block _ HMB.out.lt)
          have p2 : (w01.alloc (.cells #[.int .i64 x.hash, .int .i64 x.pos] 35 (0, 0))).cell? ⟨w01.heap.size, 0, none⟩ = some (.int .i64 x.hash) := by rw [cell_of_row _ _ _ _ _ _ hnw]; rfl
          have HX := Lib.hid (show i + 1 ≤ na ∧ na ≤ 60 from ⟨hlt, by omega⟩)
          have hi8 : i ≤ 60 := by omega
          obtain ⟨P, hP⟩ : ∃ P, P = plc b x.hash := ⟨_, rfl⟩
          rw [← hP] at HIN HH2 HSN k1
          have HPL := Lib.hid (show P.length ≤ 60 by rw [hP]; have := plc_len b x.hash; omega)
          obtain ⟨m, hm⟩ : ∃ m, m = P.length := ⟨_, rfl⟩
          rw [← hm] at k1
          have HM := Lib.hid hm
          have HO := Lib.hid hown5
          have HNW := Lib.hid hnw
          have HBW := Lib.hid hbw5
          have HL1 := Lib.hid hl1
          clear hown hbw hlt hi hga hca hna ha hb hia hlook hrow hin hbz hnw hbw5 hown5 hP hm hl1 hfit
          go_wp2_with fail
          clear b1 b1n k1 p0 p1 p2 y1
          go_loopw [52, 9] (fun s52 s9 wr => ∃ (k : Nat) (sv : Value), sv = s9 ∧ s52 = .int .i64 k ∧ k ≤ m ∧ (prs (a.take i) b ++ pr1 x (P.take k)).length ≤ 1024 ∧ wr.ownsRow w00.heap.size 44 2 sv (prs (a.take i) b ++ pr1 x (P.take k)).length (Gr.edsV (prs (a.take i) b ++ pr1 x (P.take k))) ∧ wr.heap[w01.heap.size]? = some (.cells #[.int .i64 x.hash, .int .i64 x.pos] 35 (0, 0)) ∧ Below w00.heap.size w00 wr) (fun s52 _ _ => m - (intOf s52).toNat)
          case atStart => exact ⟨0, _, rfl, rfl, by omega, by simpa [pr1] using HL1.out, by simpa [pr1] using HO.out, HNW.out, HBW.out⟩
          case round =>
            obtain ⟨k, sv, rfl, rfl, hk, hl1, hown, hpb, hbw⟩ := hrel
            obtain ⟨w02, rfl⟩ : ∃ x : World, x = wr := ⟨wr, rfl⟩
            have hm := HM.out
            by_cases hlt : k < m
            · have b1 : decide ((k : Int) < (m : Int)) = true := decide_eq_true (by omega)
              have b1n : decide (k < m) = true := decide_eq_true hlt
              obtain ⟨gv, ov, rfl, hgv, hcv⟩ := in_at HIN.out (by omega)
              have q0 := (hbw.cell (p := ⟨gv, ov + k, none⟩) hgv).trans (hcv k (by omega))
              have y2 : (k : Int) < (m : Int) := by omega
              have hsn := pr1_snoc x P k (by omega)
              have hgd : P.getD k 0 = P[k]'(by omega) := by rw [List.getD_eq_getElem?_getD, List.getElem?_eq_getElem (by omega)]; rfl
              rw [← hgd] at hsn
              have HSN2 := Lib.hid (show prs (a.take i) b ++ pr1 x (P.take (k + 1)) = prs (a.take i) b ++ pr1 x (P.take k) ++ [⟨x.pos, P.getD k 0⟩] by rw [hsn, List.append_assoc])
              have hlim := HH2.out k (by omega)
              generalize P.getD k 0 = y at *
              generalize prs (a.take i) b ++ pr1 x (P.take k) = L0 at *
              obtain ⟨nl, hnl⟩ : ∃ n, n = L0.length := ⟨_, rfl⟩
              obtain ⟨Ap, kp, rfl, -, -, -⟩ := Gr.own_el Gr.edV 2 Gr.edV_len hown
              rw [← hnl] at hown hl1 hlim ⊢
              have p3 : w02.cell? ⟨w01.heap.size, 1, none⟩ = some (.int .i64 x.pos) := by rw [cell_of_row _ _ _ _ _ _ hpb]; rfl
              have HNL := Lib.hid hnl
              have hk8 : k ≤ 60 := by have := HPL.out; omega
              have HK := Lib.hid (show k + 1 ≤ m from hlt)
              have HPB := Lib.hid hpb
              have HO2 := Lib.hid hown
              have HB2w := Lib.hid hbw
              have hl8 : nl ≤ 1024 := hl1
              by_cases hfull : nl = 1024
              · have d1 : ((nl : Int) == 1024) = true := by rw [beq_iff_eq]; omega
                have HT2 := Lib.hid (HT.out.2 (by omega))
                have HBE := Lib.hid (HB3.out.trans (hbw.mono HB3.out.size))
                clear hown hbw hpb hlt hk hm hgv hcv hsn hgd hlim hl1 hnl hfull
                go_wp2_with fail
                go_ret2
                exact ⟨none, 0, by rw [HT2.out.1, HT2.out.2]; rfl, by rw [HT2.out.1]; exact Nat.le_refl _, by unfold maxLen; omega, by rw [HT2.out.1]; exact Gr.ElAt.nil _ _ _ _ _, HBE.out⟩
              · have d1 : ((nl : Int) == 1024) = false := by rw [beq_eq_false_iff_ne]; omega
                have HLL := Lib.hid (show nl + 1 ≤ 1024 by omega)
                clear hown hbw hpb hlt hk hm hgv hcv hsn hgd hlim hl1 hnl hfull
                obtain ⟨w5, hw5⟩ : ∃ w5, w5 = w02 := ⟨_, rfl⟩
                rw [← hw5] at HPB HO2 HB2w p3 q0 ⊢
                clear hw5
                have hown4 := HO2.out
                have hb04 := HB2w.out
                have hsz := hb04.size
                go_wp2_with (at_builtin; refine wpList_append_own_wide _ (by rfl) _ _ 39 (by rfl) w00.heap.size 44 i0 _ 2 16 Tryd.underlying39 hi0 hz0 hz1 hz2 rfl (by omega) _ nl _ (by rfl) (hown4.alloc _) ⟨w5.heap.size, 0, none⟩ 1 1 [_, _] (by rfl) (by rfl) (World.news_of_block (cs := #[_, _]) (t := 44) (fr := (0, 0)) (heap_alloc_new w5 _)) (by simp [Value.oneCell']) (by unfold maxLen; omega) (by omega) (by first | omega | (simp; done) | (simp; omega)) ?_; intro v6 w6 hown6 hgrow6 _)
                have HO := Lib.hid hown6
                have HB4 := Lib.hid (below_grown (hb04.alloc hsz _) (by simp; omega) (hown4.alloc _) hgrow6)
                have HP6 := Lib.hid ((hgrow6.block w01.heap.size (by have := blk_lt HPB.out; simp; omega) (fun e => own_kind_ne hown4 HPB.out (by decide) e.symm)).trans ((blk_alloc_lt w5 _ _ (blk_lt HPB.out)).trans HPB.out))
                clear hown6 hgrow6 hown4 hb04 d1 p3 q0 y2 b1 b1n
                go_wp2_with fail
                go_roundw
                case rel => exact ⟨k + 1, _, rfl, by go_num, HK.out, by rw [HSN2.out, List.length_append, ← HNL.out]; exact HLL.out, by rw [HSN2.out, Gr.edsV, List.flatMap_append, List.length_append, ← HNL.out]; exact HO.out, HP6.out, HB4.out⟩
                case measure => have := HK.out; simp [intOf]; omega
            · have b1 : decide ((k : Int) < (m : Int)) = false := decide_eq_false (by omega)
              have b1n : decide (k < m) = false := decide_eq_false hlt
              have hpk : P.take k = P := List.take_of_length_le (by omega)
              rw [hpk, ← HSN.out] at hl1 hown
              have HL2 := Lib.hid hl1
              have HO := Lib.hid hown
              have HBW2 := Lib.hid hbw
              clear hown hbw hpb hlt hk hm hl1 hpk
              go_wp2_with fail
              go_roundw
              case rel => exact ⟨i + 1, _, rfl, by go_num, HX.out.1, HL2.out, HO.out, HBW2.out⟩
              case measure => have := HX.out; simp [intOf]; omega
        · have b1 : decide ((i : Int) < (na : Int)) = false := decide_eq_false (by omega)
          have b1n : decide (i < na) = false := decide_eq_false hlt
          rw [show prs (a.take i) b = prs a b by rw [List.take_of_length_le (by omega)]] at hown hl1
          have HT2 := Lib.hid (HT.out.1 hl1)
          obtain ⟨nl, hnl⟩ : ∃ n, n = (prs a b).length := ⟨_, rfl⟩
          obtain ⟨A7, k7, rfl, h71, h72, h73⟩ := Gr.own_el Gr.edV 2 Gr.edV_len hown
          rw [← hnl]
          have HNL := Lib.hid hnl
          have HX := Lib.hid (And.intro h71 (And.intro h72 h73))
          have HB := Lib.hid (HB3.out.trans (hbw.mono HB3.out.size))
          clear hown hbw hna ha hb hlt hi hnl h71 h72 h73 hl1
          go_wp2_with fail
          go_ret2
          rw [HT2.out.1, HT2.out.2]
          exact ⟨A7, k7, by rw [← HNL.out]; rfl, HX.out.1, HX.out.2.1, HX.out.2.2, HB.out⟩
end Wn
end Go.Proofs.YtkmldaelgbkfbaaDoor
