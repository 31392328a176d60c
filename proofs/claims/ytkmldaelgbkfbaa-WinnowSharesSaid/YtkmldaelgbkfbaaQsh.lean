/- Shared of the reference. No condition but the lengths. -/
import Derived.Test.YtkmldaelgbkfbaaOrd
import Derived.Test.YtkmldaelgbkfbaaQsl
namespace Go.Proofs.Ytkmldaelgbkfbaa
open Go.RowKit Go.Deep
namespace Wn
theorem infoPr : (Try.prog.info? 36).map (fun i => (i.zero, i.size, i.bytes)) = some (some (.agg #[.int .i64 0, .int .i64 0]), 2, 16) := by kernel_rfl
theorem prs_bound (a b : List Fp) : (prs a b).length ≤ a.length * b.length := by
  unfold prs
  induction a with
  | nil => simp
  | cons x t ih =>
    rw [List.flatMap_cons, List.length_append, pr1_len, List.length_cons, Nat.add_one_mul]
    have := plc_len b x.hash
    omega
theorem prs_bound2 {a b : List Fp} (i : Nat) (h1 : a.length ≤ 60) (h2 : b.length ≤ 60) : (prs (a.take i) b).length ≤ 3600 := by
  have h := prs_bound (a.take i) b
  have h3 : (a.take i).length ≤ 60 := by rw [List.length_take]; omega
  have := Nat.mul_le_mul h3 h2
  omega
/-- What the inner loop has. -/
def half (a b : List Fp) (i k : Nat) (x : Fp) : List Fp := prs (a.take i) b ++ pr1 x (plc (b.take k) x.hash)
theorem half_zero (a b : List Fp) (i : Nat) (x : Fp) : half a b i 0 x = prs (a.take i) b := by unfold half; rw [List.take_zero]; simp [plc, pr1]
theorem half_full (a b : List Fp) (i : Nat) (h : i < a.length) (k : Nat) (hk : b.length ≤ k) : half a b i k a[i] = prs (a.take (i + 1)) b := by
  unfold half; rw [List.take_of_length_le hk, prs_snoc a b i h]
theorem half_step (a b : List Fp) (i k : Nat) (x : Fp) (h : k < b.length) : half a b i (k + 1) x = if x.hash = b[k].hash then half a b i k x ++ [⟨x.pos, b[k].pos⟩] else half a b i k x := by
  unfold half
  rw [plc_snoc b k h]
  by_cases e : x.hash = b[k].hash
  · rw [if_pos e, if_pos e]; unfold pr1; rw [List.map_append, ← List.append_assoc]; rfl
  · rw [if_neg e, if_neg e]
theorem half_len {a b : List Fp} (i k : Nat) (x : Fp) (h1 : a.length ≤ 60) (h2 : b.length ≤ 60) : (half a b i k x).length ≤ 3660 := by
  unfold half
  rw [List.length_append, pr1_len]
  have := prs_bound2 (a := a) (b := b) i h1 h2
  have h3 := plc_len (b.take k) x.hash
  rw [List.length_take] at h3
  omega
set_option maxHeartbeats 16000000 in
set_option maxRecDepth 100000 in
theorem qshared_any (a b : List Fp) (A B : Option Addr) (c d : Nat) (w : World) (hA : Gr.EdAt w w.heap.size A a) (hB : Gr.EdAt w w.heap.size B b) (ha : a.length ≤ 60) (hb : b.length ≤ 60) :
    Calls Try.prog 15 #[.slice A a.length c, .slice B b.length d] w (GotP w (shL a b) (shE a b)) := by
  obtain ⟨i0, hi0, hz0, hz1, hz2⟩ := info_parts infoPr
  have HL := Lib.hid (show shL a b = if ordF a = true ∧ ordF b = true ∧ (prs a b).length ≤ 1024 then prs a b else [] from rfl)
  have HE := Lib.hid (show shE a b = if ordF a = true ∧ ordF b = true then if (prs a b).length ≤ 1024 then 0 else 10 else 5 from rfl)
  generalize shL a b = L at *
  generalize shE a b = E at *
  have c1 := ordered_any a A c w hA (by omega)
  cases hoa : ordF a with
  | false =>
    rw [hoa] at c1
    have HT := Lib.hid (show L = [] ∧ E = 5 from ⟨by rw [HL.out, hoa, if_neg (by simp)], by rw [HE.out, hoa, if_neg (by simp)]⟩)
    clear HL HE hoa hA hB
    go_enter Try.func15, Try.ntmps15
    go_wp2_with fail
    (with_reducible refine c1.mono ?_); rintro e w1 ⟨rfl, hb1⟩
    have HB1 := Lib.hid hb1
    clear hb1 c1
    go_wp2_with fail
    go_ret2
    exact ⟨none, 0, by rw [HT.out.1, HT.out.2]; rfl, by rw [HT.out.1]; exact Nat.le_refl _, by unfold maxLen; omega, by rw [HT.out.1]; exact Gr.ElAt.nil _ _ _ _ _, HB1.out⟩
  | true =>
  rw [hoa] at c1
  have c2 := fun w1 (h : Below w.heap.size w w1) => ordered_any b B d w1 (hB.next h) (by omega)
  cases hob : ordF b with
  | false =>
    rw [hob] at c2
    have HT := Lib.hid (show L = [] ∧ E = 5 from ⟨by rw [HL.out, hob, if_neg (by simp)], by rw [HE.out, hob, if_neg (by simp)]⟩)
    clear HL HE hoa hob hA hB
    go_enter Try.func15, Try.ntmps15
    go_wp2_with fail
    (with_reducible refine c1.mono ?_); rintro e w1 ⟨rfl, hb1⟩
    have HB1 := Lib.hid hb1
    have c2 := c2 w1 hb1
    clear hb1 c1
    go_wp2_with fail
    (with_reducible refine c2.mono ?_); rintro e w2 ⟨rfl, hb2⟩
    have HB2 := Lib.hid (HB1.out.trans (hb2.mono HB1.out.size))
    clear hb2 c2
    go_wp2_with fail
    go_ret2
    exact ⟨none, 0, by rw [HT.out.1, HT.out.2]; rfl, by rw [HT.out.1]; exact Nat.le_refl _, by unfold maxLen; omega, by rw [HT.out.1]; exact Gr.ElAt.nil _ _ _ _ _, HB2.out⟩
  | true =>
  rw [hob] at c2
  have HT := Lib.hid (show ((prs a b).length ≤ 1024 → L = prs a b ∧ E = 0) ∧ (1024 < (prs a b).length → L = [] ∧ E = 10) from ⟨fun h => ⟨by rw [HL.out, if_pos ⟨hoa, hob, h⟩], by rw [HE.out, if_pos ⟨hoa, hob⟩, if_pos h]⟩, fun h => ⟨by rw [HL.out, if_neg (fun h' => by omega)], by rw [HE.out, if_pos ⟨hoa, hob⟩, if_neg (by omega)]⟩⟩)
  have HLE := Lib.hid (And.intro ha hb)
  obtain ⟨na, hna⟩ : ∃ n, n = a.length := ⟨_, rfl⟩
  obtain ⟨nb, hnb⟩ : ∃ n, n = b.length := ⟨_, rfl⟩
  have HNA := Lib.hid hna
  have HNB := Lib.hid hnb
  rw [← hna] at c1 ⊢
  rw [← hnb] at c2 ⊢
  have HAA := Lib.hid hA
  have HBB := Lib.hid hB
  clear HL HE hoa hob ha hb hna hnb hA hB
  go_enter Try.func15, Try.ntmps15
  go_wp2_with fail
  (with_reducible refine c1.mono ?_); rintro e w1 ⟨rfl, hb1⟩
  have HB1 := Lib.hid hb1
  have c2 := c2 w1 hb1
  clear hb1 c1
  go_wp2_with fail
  (with_reducible refine c2.mono ?_); rintro e w2 ⟨rfl, hb2⟩
  have HB2 := Lib.hid (HB1.out.trans (hb2.mono HB1.out.size))
  clear hb2 c2
  go_wp2_with fail
  go_loopw [6, 7] (fun s6 s7 wr => ∃ (i : Nat) (sv : Value), sv = s6 ∧ s7 = .int .i64 i ∧ i ≤ na ∧ wr.ownsRow w2.heap.size 36 2 sv (prs (a.take i) b).length (Gr.edsV (prs (a.take i) b)) ∧ Below w2.heap.size w2 wr) (fun _ s7 _ => na - (intOf s7).toNat)
  case atStart => exact ⟨0, _, rfl, rfl, by omega, own_empty w2 w2.heap.size (Nat.le_refl _) _ _, (Below.refl _ _).alloc (Nat.le_refl _) _⟩
  case round =>
    obtain ⟨i, sv, rfl, rfl, hi, hown, hbw⟩ := hrel
    have hna := HNA.out
    obtain ⟨ha, hb⟩ := HLE.out
    by_cases hlt : i < na
    · have b1 : decide ((i : Int) < (na : Int)) = true := decide_eq_true (by omega)
      have b1n : decide (i < na) = true := decide_eq_true hlt
      have hia : i < a.length := by omega
      have HFU := Lib.hid (fun k hk => half_full a b i hia k hk)
      have HST := Lib.hid (fun k hk => half_step a b i k a[i] hk)
      have HHL := Lib.hid (fun k => half_len (a := a) (b := b) i k a[i] ha hb)
      rw [show prs (a.take i) b = half a b i 0 a[i] from (half_zero a b i a[i]).symm] at hown
      obtain ⟨ga, oa, rfl, hga, hca⟩ := fp_cells (HAA.out.next HB2.out) (by omega)
      have hca := hca i hia
      generalize a[i] = x at *
      have HAE := Lib.hid (And.intro hga hca)
      have HO := Lib.hid hown
      have HBW := Lib.hid hbw
      have HX := Lib.hid (show i + 1 ≤ na ∧ i < a.length ∧ na ≤ 60 from ⟨hlt, hia, by omega⟩)
      have hi8 : i ≤ 60 := by omega
      clear hown hbw hlt hi hga hca hna ha hb hia
      go_wp2_with fail
      clear b1 b1n
      go_loopw [6, 8] (fun s6 s8 wr => ∃ (k : Nat) (sv : Value), sv = s6 ∧ s8 = .int .i64 k ∧ k ≤ nb ∧ wr.ownsRow w2.heap.size 36 2 sv (half a b i k x).length (Gr.edsV (half a b i k x)) ∧ Below w2.heap.size w2 wr) (fun _ s8 _ => nb - (intOf s8).toNat)
      case atStart => exact ⟨0, _, rfl, rfl, by omega, HO.out, HBW.out⟩
      case round =>
        obtain ⟨k, sv, rfl, rfl, hk, hown, hbw⟩ := hrel
        obtain ⟨w00, rfl⟩ : ∃ x : World, x = wr := ⟨wr, rfl⟩
        have hnb := HNB.out
        by_cases hlt : k < nb
        · have b1 : decide ((k : Int) < (nb : Int)) = true := decide_eq_true (by omega)
          have b1n : decide (k < nb) = true := decide_eq_true hlt
          obtain ⟨gb, ob, rfl, hgb, hcb⟩ := fp_cells (HBB.out.next HB2.out) (by omega)
          obtain ⟨q0, q1⟩ := hcb k (by omega)
          obtain ⟨hga, p0, p1⟩ := HAE.out
          have p0 := (hbw.cell (p := ⟨ga, oa + i * 2, none⟩) hga).trans p0
          have p1 := (hbw.cell (p := ⟨ga, oa + i * 2 + 1, none⟩) hga).trans p1
          have q0 := (hbw.cell (p := ⟨gb, ob + k * 2, none⟩) hgb).trans q0
          have q1 := (hbw.cell (p := ⟨gb, ob + k * 2 + 1, none⟩) hgb).trans q1
          have y1 : (i : Int) < (na : Int) := by have := HX.out; omega
          have y2 : (k : Int) < (nb : Int) := by omega
          have hst := HST.out k (by omega)
          generalize b[k] = y at *
          have hk8 : k ≤ 60 := by have := HLE.out; omega
          have HK := Lib.hid (show k + 1 ≤ nb from hlt)
          have HH := Lib.hid (HHL.out k)
          by_cases he : x.hash = y.hash
          · have d1 : (x.hash == y.hash) = true := by rw [beq_iff_eq]; exact he
            rw [if_pos he] at hst
            have HS := Lib.hid hst
            have HO := Lib.hid hown
            have HBW := Lib.hid hbw
            clear hst hown hbw hlt hk hnb hgb hcb hga
            rw [he] at p0
            clear he d1
            go_wp2_with fail
            go_quiet (fail)
            go_upto_region 11 with (fail)
            have p1 : (w00.drewN nq).cell? ⟨ga, oa + i * 2 + 1, none⟩ = some (.int .i64 x.pos) := p1
            have q1 : (w00.drewN nq).cell? ⟨gb, ob + k * 2 + 1, none⟩ = some (.int .i64 y.pos) := q1
            have HO5 := Lib.hid (own_same (w' := w00.drewN nq) HO.out fun _ _ => rfl)
            have HB5 := Lib.hid (show Below w2.heap.size w2 (w00.drewN nq) from ⟨HBW.out.os, HBW.out.tape, HBW.out.output, HBW.out.size, HBW.out.block⟩)
            obtain ⟨w5, hw5⟩ : ∃ w5, w5 = w00.drewN nq := ⟨_, rfl⟩
            rw [← hw5] at p1 q1 HO5 HB5 ⊢
            clear hw5 p0 q0 HO HBW
            have hsz := HB5.out.size
            generalize half a b i k x = L0 at *
            obtain ⟨nl, hnl⟩ : ∃ n, n = L0.length := ⟨_, rfl⟩
            have hl8 : nl ≤ 3660 := by have := HH.out; omega
            have ho5 := HO5.out
            rw [← hnl] at ho5
            have HO6 := Lib.hid ho5
            have HNL := Lib.hid hnl
            clear hnl ho5
            go_region_law ((refine step_append_lies _ (by rfl) _ _ 32 (by rfl) w2.heap.size 36 i0 _ 2 16 Try.underlying32 hi0 hz0 hz1 hz2 rfl (by omega) sv nl _ (by rfl) ((HO6.out.alloc _).drew) ⟨w5.heap.size, 0, none⟩ 1 1 [_, _] (by rfl) (by rfl) (World.news_of_block (cs := #[_, _]) (t := 36) (fr := (0, 0)) (heap_alloc_new w5 _)) (by simp [Value.oneCell']) (by omega) (by unfold maxLen; omega) (by omega) (by simp; omega) (w5.heap.size + 1) (by simp) ?_; intro gg cap3 w6 hown6 hgrow hat hlt6))
            all_goals
              have HB1 := Lib.hid (below_grown ((HB5.out.alloc hsz _).drew) (by simp; omega) ((HO6.out.alloc _).drew) hgrow)
              have HO7 := Lib.hid hown6
              clear hown6 hgrow hat hlt6 p1 q1 y1 y2
              go_wp2_with fail
              go_roundw
              case rel => exact ⟨k + 1, _, rfl, by go_num, HK.out, by rw [HS.out, Gr.edsV, List.flatMap_append, List.length_append, ← HNL.out]; exact HO7.out, HB1.out⟩
              case measure => have := HK.out; simp [intOf]; omega
          · have d1 : (x.hash == y.hash) = false := by rw [beq_eq_false_iff_ne]; exact he
            rw [if_neg he] at hst
            have HS := Lib.hid hst
            have HO := Lib.hid hown
            have HBW := Lib.hid hbw
            clear hst hown hbw hlt hk hnb hgb hcb hga he
            go_wp2_with fail
            go_quiet (fail)
            clear d1 p0 p1 q0 q1 y1 y2
            go_wp2_with fail
            go_roundw
            case rel => exact ⟨k + 1, _, rfl, by go_num, HK.out, by rw [HS.out]; exact own_same HO.out fun _ _ => rfl, ⟨HBW.out.os, HBW.out.tape, HBW.out.output, HBW.out.size, HBW.out.block⟩⟩
            case measure => have := HK.out; simp [intOf]; omega
        · have b1 : decide ((k : Int) < (nb : Int)) = false := decide_eq_false (by omega)
          have b1n : decide (k < nb) = false := decide_eq_false hlt
          have hfu := HFU.out k (by omega)
          rw [hfu] at hown
          have HO := Lib.hid hown
          have HBW := Lib.hid hbw
          clear hown hbw hk hnb hlt hfu
          go_wp2_with fail
          go_roundw
          case rel => exact ⟨i + 1, _, rfl, by go_num, HX.out.1, HO.out, HBW.out⟩
          case measure => have := HX.out; simp [intOf]; omega
    · have b1 : decide ((i : Int) < (na : Int)) = false := decide_eq_false (by omega)
      have b1n : decide (i < na) = false := decide_eq_false hlt
      rw [show prs (a.take i) b = prs a b by rw [List.take_of_length_le (by omega)]] at hown
      obtain ⟨nl, hnl⟩ : ∃ n, n = (prs a b).length := ⟨_, rfl⟩
      obtain ⟨A7, k7, rfl, h71, h72, h73⟩ := Gr.own_el Gr.edV 2 Gr.edV_len hown
      rw [← hnl]
      have HNL := Lib.hid hnl
      have HX := Lib.hid (And.intro h71 (And.intro h72 h73))
      have HB := Lib.hid (HB2.out.trans (hbw.mono HB2.out.size))
      clear hown hbw hna ha hb hlt hi hnl h71 h72 h73
      by_cases hn : 1024 < nl
      · have b2 : decide ((1024 : Int) < (nl : Int)) = true := decide_eq_true (by omega)
        have b2n : decide (1024 < nl) = true := decide_eq_true hn
        have HT2 := Lib.hid (HT.out.2 (by have := HNL.out; omega))
        clear hn
        go_wp2_with fail
        go_ret2
        exact ⟨none, 0, by rw [HT2.out.1, HT2.out.2]; rfl, by rw [HT2.out.1]; exact Nat.le_refl _, by unfold maxLen; omega, by rw [HT2.out.1]; exact Gr.ElAt.nil _ _ _ _ _, HB.out⟩
      · have b2 : decide ((1024 : Int) < (nl : Int)) = false := decide_eq_false (by omega)
        have b2n : decide (1024 < nl) = false := decide_eq_false hn
        have HT2 := Lib.hid (HT.out.1 (by have := HNL.out; omega))
        clear hn
        go_wp2_with fail
        go_ret2
        rw [HT2.out.1, HT2.out.2]
        exact ⟨A7, k7, by rw [← HNL.out]; rfl, HX.out.1, HX.out.2.1, HX.out.2.2, HB.out⟩
end Wn
end Go.Proofs.Ytkmldaelgbkfbaa
