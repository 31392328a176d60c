/- Parse of the reference, any text. No condition but the length. -/
import Derived.Test.YtmmdldicafbjdaaGreatDoorQof
import Derived.Test.YtmmdldicafbjdaaGreatDoorPm4
import Derived.Test.YtmmdldicafbjdaaGreatDoorPm3
namespace Go.Proofs.YtmmdldicafbjdaaGreatDoor
open Go.RowKit Go.Deep Tr

theorem qdparse_any (t : List UInt8) (w : World) : Calls Tryz.prog 35 #[.string (str t)] w fun e w' => Below w.heap.size w w' ∧ ((∃ b, Pc.unhex t = some b ∧ e = .returned (.tuple #[.string (str b), .int .i64 0])) ∨ (Pc.unhex t = none ∧ e = .returned (.tuple #[.string ⟨#[]⟩, .int .i64 4]))) := by
  refine (Dg.refParse_any (str t) w).mono fun e w' h => ⟨h.2, ?_⟩
  have h1 := h.1
  unfold Dg.parV at h1
  unfold Pc.unhex
  rw [str_data, str_size] at h1
  split at h1
  · rename_i hc
    rw [if_pos hc]
    exact .inl ⟨_, rfl, by rw [h1, str_of]; rfl⟩
  · rename_i hc
    rw [if_neg hc]
    exact .inr ⟨rfl, h1⟩
namespace Pc
def leftN (b : List UInt8) (acc : List Hk) (f : Nat) (l : List (List UInt8)) : Pa × Int := fin b ((hunksOf f l).map fun r => acc ++ r)
theorem leftN_end (b : List UInt8) (acc : List Hk) (f : Nat) : leftN b acc f [] = fin b (some acc) := by
  unfold leftN
  cases f <;> simp [hunksOf]
theorem leftN_start (b : List UInt8) (f : Nat) (l : List (List UInt8)) : leftN b [] f l = fin b (hunksOf f l) := by
  unfold leftN
  cases hunksOf f l <;> rfl
theorem leftN_bad {b : List UInt8} {acc : List Hk} {f : Nat} {x : List UInt8} {t : List (List UInt8)} (h : headN x = none) : leftN b acc (f + 1) (x :: t) = (⟨[], []⟩, 4) := by
  unfold leftN
  rw [hunksOf, h]
  rfl
theorem leftN_short {b : List UInt8} {acc : List Hk} {f n : Nat} {x : List UInt8} {t : List (List UInt8)} (h : headN x = some (3, n)) (hn : t.length < n) : leftN b acc (f + 1) (x :: t) = (⟨[], []⟩, 4) := by
  unfold leftN
  rw [hunksOf, h]
  dsimp only
  rw [if_pos rfl, if_pos hn]
  rfl
theorem leftN_add {b : List UInt8} {acc : List Hk} {f n : Nat} {x : List UInt8} {t : List (List UInt8)} (h : headN x = some (3, n)) (hn : ¬ t.length < n) : leftN b acc (f + 1) (x :: t) = leftN b (acc ++ [⟨3, n, t.take n⟩]) f (t.drop n) := by
  unfold leftN
  rw [hunksOf, h]
  dsimp only
  rw [if_pos rfl, if_neg hn, Option.map_map]
  congr 2
  funext r
  simp
theorem leftN_keep {b : List UInt8} {acc : List Hk} {f n : Nat} {k : Int} {x : List UInt8} {t : List (List UInt8)} (h : headN x = some (k, n)) (hk : k ≠ 3) : leftN b acc (f + 1) (x :: t) = leftN b (acc ++ [⟨k, n, []⟩]) f t := by
  unfold leftN
  rw [hunksOf, h]
  dsimp only
  rw [if_neg hk, Option.map_map]
  congr 2
  funext r
  simp
theorem headN_1 {x : List UInt8} (h : (word 1).isPrefixOf x = true) : headN x = if numL (x.drop 5) = 0 then none else some (1, numL (x.drop 5)) := if_pos h
theorem headN_2 {x : List UInt8} (h1 : (word 1).isPrefixOf x = false) (h : (word 2).isPrefixOf x = true) : headN x = if numL (x.drop 5) = 0 then none else some (2, numL (x.drop 5)) := by
  unfold headN
  rw [if_neg (by rw [h1]; decide), if_pos h]
theorem headN_3 {x : List UInt8} (h1 : (word 1).isPrefixOf x = false) (h2 : (word 2).isPrefixOf x = false) (h : (word 3).isPrefixOf x = true) : headN x = if numL (x.drop 4) = 0 then none else some (3, numL (x.drop 4)) := by
  unfold headN
  rw [if_neg (by rw [h1]; decide), if_neg (by rw [h2]; decide), if_pos h]
theorem headN_0 {x : List UInt8} (h1 : (word 1).isPrefixOf x = false) (h2 : (word 2).isPrefixOf x = false) (h : (word 3).isPrefixOf x = false) : headN x = none := by
  unfold headN
  rw [if_neg (by rw [h1]; decide), if_neg (by rw [h2]; decide), if_neg (by rw [h]; decide)]
end Pc
/-- What after returns. -/
def Pc.aft (p x : List UInt8) : List UInt8 × Bool := if p.isPrefixOf x = true then (x.drop p.length, true) else ([], false)
theorem qaft_any (p x : List UInt8) (w : World) : Calls Tryz.prog 34 #[.string (str x), .string (str p)] w fun e w' => e = .returned (.tuple #[.string (str (Pc.aft p x).1), .bool (Pc.aft p x).2]) ∧ w' = w := by
  refine (qafter_any p x w).mono fun e w' h => ⟨?_, h.2⟩
  unfold Pc.aft
  rcases h.1 with ⟨h1, rfl⟩ | ⟨h1, rfl⟩
  · rw [if_pos h1]
  · rw [if_neg (by rw [h1]; decide)]; rfl
theorem aft_yes {p x : List UInt8} (h : p.isPrefixOf x = true) : Pc.aft p x = (x.drop p.length, true) := if_pos h
theorem aft_no {p x : List UInt8} (h : p.isPrefixOf x = false) : Pc.aft p x = ([], false) := if_neg (by rw [h]; decide)
theorem parse_def' (text : List UInt8) : Pc.parse text = if (Tre.lines text).2 ≠ 0 then (⟨[], []⟩, (Tre.lines text).2) else Pc.parseL (Tre.lines text).1 := rfl
theorem parseL_base {x : List UInt8} {t : List (List UInt8)} (h : Pc.baseW.isPrefixOf x = true) : Pc.parseL (x :: t) = (match Pc.unhex (x.drop 5) with | none => (⟨[], []⟩, 4) | some b => Pc.fin b (Pc.hunksOf t.length t)) := if_pos h
theorem parseL_none {x : List UInt8} {t : List (List UInt8)} (h : Pc.baseW.isPrefixOf x = false) : Pc.parseL (x :: t) = Pc.fin [] (Pc.hunksOf (t.length + 1) (x :: t)) := if_neg (by rw [h]; decide)
/-- A head line has been read into the hunk in block q: its kind, its digits, whether it is one. -/
def HdAt (wr wx : World) (q : Nat) (x d : List UInt8) (k : Int) (bk : Bool) : Prop := wx.heap[q]? = some (.cells #[.int .i64 k, .int .i64 0, .slice none 0 0] 47 (0, 0)) ∧ Below wr.heap.size wr wx ∧ d.length ≤ 1000000 ∧ ((bk = true ∧ Pc.headN x = if Pc.numL d = 0 then none else some (k, Pc.numL d)) ∨ (bk = false ∧ Pc.headN x = none))
set_option maxHeartbeats 16000000 in
set_option maxRecDepth 100000 in
theorem qparseG_any (s : ByteArray) (w : World) (hss : s.size ≤ 1000000000) :
    Calls Tryz.prog 11 #[.string s] w (GotPa w (Pc.parse s.data.toList)) := by
  have HD := Lib.hid (parse_def' s.data.toList)
  generalize Pc.parse s.data.toList = R at *
  obtain ⟨i0, hi0, hz0, hz1, hz2⟩ := info_parts infoS
  obtain ⟨ih, hih, hzh0, hzh1, hzh2⟩ := info_parts infoH
  have hb0 : Below w.heap.size w (w.alloc (.cells #[.string ⟨#[]⟩, .slice none 0 0] 24)) := (Below.refl _ _).alloc (Nat.le_refl _) _
  have hk0 := heap_alloc_new w (.cells #[.string ⟨#[]⟩, .slice none 0 0] 24)
  have hl1 := qLines_any s (w.alloc (.cells #[.string ⟨#[]⟩, .slice none 0 0] 24)) hss
  go_enter Tryz.func11, Tryz.ntmps11
  go_wp2_with fail
  with_reducible refine hl1.mono ?_
  clear hl1
  rintro x w1 ⟨v1, rfl, ho1, hb1⟩
  have hb01 := hb0.trans (hb1.mono hb0.size)
  have hk1 := (hb1.block _ (blk_lt hk0)).trans hk0
  have hsz1 : w.heap.size < w1.heap.size := blk_lt hk1
  clear hb0 hk0 hb1
  rcases lines_cases s.data.toList with ⟨he, hl⟩ | ⟨ll, hl, a1, a2, a3⟩
  · have HD1 := Lib.hid (HD.out.trans (if_pos he))
    rw [hl] at ho1 HD1 ⊢
    obtain ⟨A1, c1, rfl, _⟩ := owns_cells ho1
    clear HD he hl ho1
    have HT := Lib.hid (HD1.out)
    obtain ⟨y1, y2, r0, r1, f0, f1⟩ := fin_patch (.string ⟨#[]⟩) (.slice none 0 0) (Nat.le_refl _) hk1 hb01 (hsT_nil w1 none)
    have Q1 := Lib.hid y1
    have Q2 := Lib.hid y2
    clear y1 y2
    go_wp2_with fail
    exact bodyPost_ret (v := .tuple #[.agg #[.string ⟨#[]⟩, .slice none 0 0], .int .i64 10]) (by simp [results, Tryz.results11, go_sem, r0, r1]) rfl ⟨none, 0, by rw [HT.out]; rfl, by rw [HT.out]; exact Q1.out, Q2.out⟩
  · have HD1 := Lib.hid (HD.out.trans (if_neg (by rw [hl]; simp)))
    have hsl := text_len hl
    rw [hl] at ho1 HD1 ⊢
    dsimp only at ho1
    obtain ⟨A1, ca, rfl, hca, hcam, hA1⟩ := own_posP ho1 (by omega)
    have HYY := Lib.hid (show ∀ y ∈ ll, y.length ≤ 1000000 from fun y hy => by have := a3 y hy; omega)
    clear HD hl ho1 a3
    cases ll with
    | nil => simp at a1
    | cons x0 t0 =>
    obtain ⟨ga, oa, rfl, hga, hcl⟩ := cells_row hA1 (by simp [strs])
    have hd0 : w1.cell? ⟨ga, oa, none⟩ = some (.string (str x0)) := hcl 0 _ rfl
    have hBW : Below w1.heap.size w1 (w1.alloc (.cells #[.string ⟨#[]⟩, .slice none 0 0] 24)) := (Below.refl _ _).alloc (Nat.le_refl _) _
    have HPB := Lib.hid (heap_alloc_new w1 (.cells #[.string ⟨#[]⟩, .slice none 0 0] 24))
    have hd1 := (hBW.cell (p := ⟨ga, oa, none⟩) hga).trans hd0
    have hk2 := (hBW.block _ (blk_lt hk1)).trans hk1
    have hg0 : (0 : Int) < ((t0.length + 1 : Nat) : Int) := by omega
    have HCL := Lib.hid hcl
    obtain ⟨ll, hll⟩ : ∃ ll, x0 :: t0 = ll := ⟨_, rfl⟩
    have hln : ll.length = t0.length + 1 := by rw [← hll]; rfl
    have hl24 : ll.length ≤ 1024 := by rw [← hll]; exact a2
    have hlc : ll.length ≤ ca := by rw [← hll]; exact hca
    have ht0 : ll.drop 1 = t0 := by rw [← hll]; rfl
    rw [hll] at HCL HYY
    rw [List.length_cons]
    clear hcl hd0 a1 hA1
    by_cases hpb : Pc.baseW.isPrefixOf x0 = true
    · have HD2 := Lib.hid (HD1.out.trans (parseL_base hpb))
      have hcp := fun w => qaft_any Pc.baseW x0 w
      rw [aft_yes hpb, ← baseW_str] at hcp
      rw [show List.drop Pc.baseW.length x0 = x0.drop 5 from rfl] at hcp
      clear hpb HD1 hll
      generalize x0.drop 5 = hx at *
      generalize str x0 = ln at *
      go_wp2_with (go_at_call 34; (with_reducible refine (hcp _).mono ?_); rintro e w' ⟨rfl, rfl⟩)
      have hdp := qdparse_any hx (w1.alloc (.cells #[.string ⟨#[]⟩, .slice none 0 0] 24))
      with_reducible refine hdp.mono ?_
      clear hdp hcp
      rintro e w2 ⟨hb2, hor⟩
      have hb12 := hBW.trans (hb2.mono hBW.size)
      have hp2 := (hb2.block _ (blk_lt HPB.out)).trans HPB.out
      have hk3 := (hb2.block _ (blk_lt hk2)).trans hk2
      have p0 : w2.cell? ⟨w1.heap.size, 0, none⟩ = some (.string ⟨#[]⟩) := by rw [cell_of_row _ _ _ _ _ _ hp2]; rfl
      have pf := frozen_of_row w2 w1.heap.size 0 _ _ hp2
      rcases hor with ⟨b, hub, rfl⟩ | ⟨hub, rfl⟩
      · have HBL := Lib.hid (show b.length ≤ 1000000000 by have := (Pc.hex_unhex hub).2; omega)
        rw [hub] at HD2
        have HRR0 := Lib.hid (show R = Pc.leftN b [] t0.length t0 from HD2.out.trans (Pc.leftN_start b t0.length t0).symm)
        have HCB := Lib.hid (show Cb (w2.setCell ⟨w1.heap.size, 0, none⟩ (.string (str b))) w1.heap.size w1.heap.size w.heap.size b [] (.slice none 0 0) from ⟨by exact heap_setCell_same w2 w1.heap.size 0 _ _ _ hp2, (blk_setCell_other _ _ _ _ (show w.heap.size ≠ w1.heap.size by omega)).trans hk3, World.ownsRow_nil _ _ _ _, fun x hx => by simp at hx, Nat.le_refl _, by omega⟩)
        have HBS := Lib.hid (show Below w1.heap.size w1 (w2.setCell ⟨w1.heap.size, 0, none⟩ (.string (str b))) from hb12.setCell (Nat.le_refl _) _)
        clear hb2 hb12 hp2 hk3 hub HD2 HPB hd1 hBW hk2 hk1
        go_upto_region 11 with (fail)
        generalize w2.setCell ⟨w1.heap.size, 0, none⟩ (.string (str b)) = wS at *
        clear p0 pf
        have HRR := Lib.hid (show R = Pc.leftN b [] t0.length (ll.drop 1) by rw [ht0]; exact HRR0.out)
        obtain ⟨f0, hf0⟩ : ∃ f0, f0 = t0.length := ⟨_, rfl⟩
        rw [← hf0] at HRR
        clear HRR0
        rw [← hln]
        have HLN := Lib.hid hln
        clear hln
        go_wp2_with fail
        go_loopw [7] (fun s7 wr => ∃ (i : Nat) (l : List Hc) (v : Value) (f : Nat), s7 = .int .i64 i ∧ i ≤ ll.length ∧ ll.length - i ≤ f ∧ l.length ≤ i ∧ (∀ h ∈ l.map (·.h), ∀ y ∈ h.ls, y.length ≤ 1000000) ∧ R = Pc.leftN b (l.map (·.h)) f (ll.drop i) ∧ Cb wr w1.heap.size w1.heap.size w.heap.size b l v ∧ Below w1.heap.size w1 wr) (fun s7 _ => ll.length - (intOf s7).toNat)
        case atStart => exact ⟨1, [], .slice none 0 0, f0, rfl, by have := HLN.out; omega, by have := HLN.out; omega, by simp, by simp, HRR.out, HCB.out, HBS.out⟩
        case round =>
          clear HCB HBS HRR
          obtain ⟨i, l, v, f, rfl, hi, hf, hli, hly, hR, hCb, hb⟩ := hrel
          have HLY := Lib.hid hly
          have HR := Lib.hid hR
          have HC := Lib.hid hCb
          clear hly hR hCb
          by_cases hlt : i < ll.length
          · have c0 : decide ((i : Int) < (ll.length : Int)) = true := decide_eq_true (by omega)
            have c0n : decide (i < ll.length) = true := decide_eq_true hlt
            obtain ⟨f, rfl⟩ : ∃ f' : Nat, f = f' + 1 := ⟨f - 1, by omega⟩
            have hcx := HCL.out i (.string (str ll[i])) (by rw [List.getElem?_eq_getElem (by rw [strs_len]; exact hlt), strs_get ll i hlt])
            have hdr := list_drop ll i hlt
            have hxy := HYY.out ll[i] (List.getElem_mem hlt)
            have HR1 := Lib.hid (show R = Pc.leftN b (l.map (·.h)) (f + 1) (ll[i] :: ll.drop (i + 1)) by rw [← hdr]; exact HR.out)
            clear hdr HR
            generalize ll[i] = x at *
            have hbW : Below w1.heap.size w1 (wr.alloc (.cells #[.int .i64 0, .int .i64 0, .slice none 0 0] 47)) := hb.alloc hb.size _
            have hbrW : Below wr.heap.size wr (wr.alloc (.cells #[.int .i64 0, .int .i64 0, .slice none 0 0] 47)) := (Below.refl _ _).alloc (Nat.le_refl _) _
            have hblk := heap_alloc_new wr (.cells #[.int .i64 0, .int .i64 0, .slice none 0 0] 47)
            have d0 := (hbW.cell (p := ⟨ga, oa + i, none⟩) hga).trans hcx
            have ca1 := qaft_any (Pc.word 1) x (wr.alloc (.cells #[.int .i64 0, .int .i64 0, .slice none 0 0] 47))
            rw [show str (Pc.word 1) = ⟨#[107, 101, 101, 112, 32]⟩ from rfl] at ca1
            have hqr : w1.heap.size ≤ wr.heap.size := hb.size
            go_wp2_with fail
            with_reducible refine ca1.mono ?_
            clear ca1
            rintro e w' ⟨rfl, rfl⟩
            go_upto_if 52 with (fail)
            generalize wr.alloc (.cells #[.int .i64 0, .int .i64 0, .slice none 0 0] 47) = W at *
            go_cut [11, 12] (fun s11 s12 wx => ∃ (k : Int) (d : List UInt8) (bk : Bool), s11 = .string (str d) ∧ s12 = .bool bk ∧ HdAt wr wx wr.heap.size x d k bk)
            case first =>
              have e0 : W.cell? ⟨wr.heap.size, 0, none⟩ = some (.int .i64 0) := by rw [cell_of_row _ _ _ _ _ _ hblk]; rfl
              have fz := frozen_of_row W wr.heap.size 0 _ _ hblk
              have ca2 := qaft_any (Pc.word 2) x W
              rw [show str (Pc.word 2) = ⟨#[100, 114, 111, 112, 32]⟩ from rfl] at ca2
              have ca3 := qaft_any (Pc.word 3) x W
              rw [show str (Pc.word 3) = ⟨#[97, 100, 100, 32]⟩ from rfl] at ca3
              have hst : ∀ k : Int, (W.setCell ⟨wr.heap.size, 0, none⟩ (.int .i64 k)).heap[wr.heap.size]? = some (.cells #[.int .i64 k, .int .i64 0, .slice none 0 0] 47 (0, 0)) := fun k => heap_setCell_same W wr.heap.size 0 _ _ _ hblk
              have hsb : ∀ k : Int, Below wr.heap.size wr (W.setCell ⟨wr.heap.size, 0, none⟩ (.int .i64 k)) := fun k => hbrW.setCell (Nat.le_refl _) _
              have hdl : ∀ m : Nat, (x.drop m).length ≤ 1000000 := fun m => by rw [List.length_drop]; omega
              clear hbW hcx
              by_cases p1 : (Pc.word 1).isPrefixOf x = true
              · rw [aft_yes p1]
                go_wp2_with fail
                go_meet
                exact ⟨1, _, true, rfl, rfl, hst 1, hsb 1, hdl 5, .inl ⟨rfl, Pc.headN_1 p1⟩⟩
              · have p1f : (Pc.word 1).isPrefixOf x = false := eq_false_of_ne_true p1
                rw [aft_no p1f]
                go_wp2_with fail
                with_reducible refine ca2.mono ?_
                rintro e w' ⟨rfl, rfl⟩
                by_cases p2 : (Pc.word 2).isPrefixOf x = true
                · rw [aft_yes p2]
                  go_wp2_with fail
                  go_meet
                  exact ⟨2, _, true, rfl, rfl, hst 2, hsb 2, hdl 5, .inl ⟨rfl, Pc.headN_2 p1f p2⟩⟩
                · have p2f : (Pc.word 2).isPrefixOf x = false := eq_false_of_ne_true p2
                  rw [aft_no p2f]
                  go_wp2_with fail
                  with_reducible refine ca3.mono ?_
                  rintro e w' ⟨rfl, rfl⟩
                  by_cases p3 : (Pc.word 3).isPrefixOf x = true
                  · rw [aft_yes p3]
                    go_wp2_with fail
                    go_meet
                    exact ⟨3, _, true, rfl, rfl, hst 3, hsb 3, hdl 4, .inl ⟨rfl, Pc.headN_3 p1f p2f p3⟩⟩
                  · have p3f : (Pc.word 3).isPrefixOf x = false := eq_false_of_ne_true p3
                    rw [aft_no p3f]
                    go_wp2_with fail
                    go_meet
                    exact ⟨0, [], false, rfl, rfl, hblk, hbrW, by simp, .inr ⟨rfl, Pc.headN_0 p1f p2f p3f⟩⟩
            case rest =>
            obtain ⟨k, d, bk, rfl, rfl, hblk9, hb9, hdl, hor⟩ := hcut
            clear d0 hblk hbW hbrW hcx
            have hb19 := hb.trans (hb9.mono hb.size)
            have hC9 := HC.out.next hb9
            have e0 : wc.cell? ⟨wr.heap.size, 0, none⟩ = some (.int .i64 k) := by rw [cell_of_row _ _ _ _ _ _ hblk9]; rfl
            have e1 : wc.cell? ⟨wr.heap.size, 1, none⟩ = some (.int .i64 0) := by rw [cell_of_row _ _ _ _ _ _ hblk9]; rfl
            have e2 : wc.cell? ⟨wr.heap.size, 2, none⟩ = some (.slice none 0 0) := by rw [cell_of_row _ _ _ _ _ _ hblk9]; rfl
            have fz := frozen_of_row wc wr.heap.size 1 _ _ hblk9
            have cn := qnumber_any d hdl wc
            have HOR := Lib.hid hor
            have hnb : Pc.numL d ≤ 1024 := by
              by_cases h : Pc.numL d = 0
              · omega
              · exact (Pc.numL_back h).2
            clear hor
            generalize Pc.numL d = n at *
            have hbX := hb19.setCell (p := ⟨wr.heap.size, 1, none⟩) hqr (.int .i64 (n : Int))
            have hbx := hb9.setCell (p := ⟨wr.heap.size, 1, none⟩) (Nat.le_refl _) (.int .i64 (n : Int))
            have hCX := HC.out.next hbx
            have hbkX : (wc.setCell ⟨wr.heap.size, 1, none⟩ (.int .i64 (n : Int))).heap[wr.heap.size]? = some (.cells #[.int .i64 k, .int .i64 (n : Int), .slice none 0 0] 47 (0, 0)) := heap_setCell_same wc wr.heap.size 1 _ _ _ hblk9
            have hbw := hb01.trans (hbX.mono hb01.size)
            go_wp2_with fail
            with_reducible refine cn.mono ?_
            clear cn
            rintro e w' ⟨rfl, rfl⟩
            go_upto_region 24 with (fail)
            have HDL := Lib.hid hdl
            clear e0 e1 e2 fz hblk9 hb9 hb19 hC9 hdl
            generalize w'.setCell ⟨wr.heap.size, 1, none⟩ (.int .i64 (n : Int)) = X at *
            have x0 : X.cell? ⟨wr.heap.size, 0, none⟩ = some (.int .i64 k) := by rw [cell_of_row _ _ _ _ _ _ hbkX]; rfl
            have x1 : X.cell? ⟨wr.heap.size, 1, none⟩ = some (.int .i64 (n : Int)) := by rw [cell_of_row _ _ _ _ _ _ hbkX]; rfl
            have x2 : X.cell? ⟨wr.heap.size, 2, none⟩ = some (.slice none 0 0) := by rw [cell_of_row _ _ _ _ _ _ hbkX]; rfl
            have p1 : X.cell? ⟨w1.heap.size, 1, none⟩ = some v := by rw [cell_of_row _ _ _ _ _ _ hCX.pat]; rfl
            cases bk with
            | false =>
              have hno : Pc.headN x = none := by
                rcases HOR.out with ⟨h1, _⟩ | ⟨_, h2⟩
                · cases h1
                · exact h2
              have HNO := Lib.hid hno
              clear hno
              have HT := Lib.hid (HR1.out.trans (Pc.leftN_bad HNO.out))
              obtain ⟨y1, y2, r0, r1, f0, f1⟩ := fin_patch (.string ⟨#[]⟩) (.slice none 0 0) (Nat.le_refl _) hCX.res hbw (hsT_nil X none)
              have Q1 := Lib.hid y1
              have Q2 := Lib.hid y2
              clear y1 y2
              go_wp2_with fail
              exact bodyPost_ret (v := .tuple #[.agg #[.string ⟨#[]⟩, .slice none 0 0], .int .i64 4]) (by simp [results, Tryz.results11, go_sem, r0, r1]) rfl ⟨none, 0, by rw [HT.out]; rfl, by rw [HT.out]; exact Q1.out, Q2.out⟩
            | true =>
            by_cases hn0 : n = 0
            · have hno : Pc.headN x = none := by
                rcases HOR.out with ⟨_, h2⟩ | ⟨h1, _⟩
                · rw [h2, if_pos hn0]
                · cases h1
              have n0 : ((n : Int) == 0) = true := by rw [hn0]; rfl
              have n0n : (n == 0) = true := by rw [hn0]; rfl
              have HNO := Lib.hid hno
              clear hno hn0
              have HT := Lib.hid (HR1.out.trans (Pc.leftN_bad HNO.out))
              obtain ⟨y1, y2, r0, r1, f0, f1⟩ := fin_patch (.string ⟨#[]⟩) (.slice none 0 0) (Nat.le_refl _) hCX.res hbw (hsT_nil X none)
              have Q1 := Lib.hid y1
              have Q2 := Lib.hid y2
              clear y1 y2
              go_wp2_with fail
              exact bodyPost_ret (v := .tuple #[.agg #[.string ⟨#[]⟩, .slice none 0 0], .int .i64 4]) (by simp [results, Tryz.results11, go_sem, r0, r1]) rfl ⟨none, 0, by rw [HT.out]; rfl, by rw [HT.out]; exact Q1.out, Q2.out⟩
            have HO := Lib.hid (show Pc.headN x = some (k, n) by
              rcases HOR.out with ⟨_, h2⟩ | ⟨h1, _⟩
              · rw [h2, if_neg hn0]
              · cases h1)
            have n0 : ((n : Int) == 0) = false := by rw [beq_eq_false_iff_ne]; omega
            have n0n : (n == 0) = false := by rw [beq_eq_false_iff_ne]; exact hn0
            have hn1 : 1 ≤ n := by omega
            go_upto_region 27 with (fail)
            clear hn0 n0 n0n HOR c0 c0n
            obtain ⟨j, hj⟩ : ∃ j, i + 1 = j := ⟨_, rfl⟩
            have hji : (i : Int) + 1 = (j : Int) := by omega
            rw [hj] at HR1
            rw [hji]
            have hjl : j ≤ ll.length := by omega
            have hlj : l.length + 1 ≤ j := by omega
            have hfj : ll.length - j ≤ f := by omega
            have hij : i < j := by omega
            clear hji hj hi hf hli
            by_cases hk3 : k = 3
            · subst hk3
              obtain ⟨Y, hY⟩ : ∃ Y, j + n = Y := ⟨_, rfl⟩
              have hYI : (j : Int) + (n : Int) = (Y : Int) := by omega
              by_cases hmr : ll.length < Y
              · have g3 : decide ((ll.length : Int) < (Y : Int)) = true := decide_eq_true (by omega)
                have g3n : decide (ll.length < Y) = true := decide_eq_true hmr
                have hmd : (ll.drop j).length < n := by rw [List.length_drop]; omega
                have HT0 := Lib.hid (HR1.out.trans (Pc.leftN_short HO.out hmd))
                clear hmd hmr hY
                have HT := Lib.hid (HT0.out)
                obtain ⟨y1, y2, r0, r1, f0, f1⟩ := fin_patch (.string ⟨#[]⟩) (.slice none 0 0) (Nat.le_refl _) hCX.res hbw (hsT_nil X none)
                have Q1 := Lib.hid y1
                have Q2 := Lib.hid y2
                clear y1 y2
                go_wp2_with fail
                exact bodyPost_ret (v := .tuple #[.agg #[.string ⟨#[]⟩, .slice none 0 0], .int .i64 4]) (by simp [results, Tryz.results11, go_sem, r0, r1]) rfl ⟨none, 0, by rw [HT.out]; rfl, by rw [HT.out]; exact Q1.out, Q2.out⟩
              have g3 : decide ((ll.length : Int) < (Y : Int)) = false := decide_eq_false (by omega)
              have g3n : decide (ll.length < Y) = false := decide_eq_false hmr
              have HR3 := Lib.hid (HR1.out.trans (Pc.leftN_add HO.out (by rw [List.length_drop]; omega)))
              obtain ⟨xs, hxs⟩ : ∃ xs, (ll.drop j).take n = xs := ⟨_, rfl⟩
              have hxl : xs.length = n := by rw [← hxs, List.length_take, List.length_drop]; omega
              rw [hxs] at HR3
              have HXY := Lib.hid (show ∀ y ∈ xs, y.length ≤ 1000000 from fun y hy => HYY.out y (List.mem_of_mem_drop (List.mem_of_mem_take (hxs ▸ hy))))
              have hxg : ∀ (jj : Nat) (u : Value), (strs xs)[jj]? = some u → (strs ll)[j + jj]? = some u := fun jj u hu => by
                have hlt := (List.getElem?_eq_some_iff.1 hu).1
                rw [strs_len] at hlt
                unfold strs at hu ⊢
                rw [List.getElem?_map] at hu ⊢
                rw [← hxs, List.getElem?_take, if_pos (by omega), List.getElem?_drop] at hu
                exact hu
              clear hxs
              have hcw : ∀ (jj : Nat) (u : Value), (strs xs)[jj]? = some u → X.drew.cell? ⟨ga, oa + j + jj, none⟩ = some u := fun jj u hu => by
                rw [Nat.add_assoc]
                exact (hbX.drew.cell (p := ⟨ga, oa + (j + jj), none⟩) hga).trans (HCL.out (j + jj) u (hxg jj u hu))
              have hjc : ¬ ca = j := by omega
              have hjc2 : ¬ (ca : Int) = (j : Int) := by omega
              have y1 : (j : Int) ≤ (Y : Int) := by omega
              have y2 : (Y : Int) ≤ (ca : Int) := by omega
              have y3 : (0 : Int) ≤ (j : Int) := by omega
              have y4 : (0 : Int) ≤ (Y : Int) := by omega
              have hYl : Y ≤ ll.length := by omega
              have hYw : IntKind.i64.wrap (Y : Int) = (Y : Int) := IntWalk.i64_in _ (by omega)
              have hiY : i < Y := by omega
              have hlY : l.length + 1 ≤ Y := by omega
              have hfY : ll.length - Y ≤ f := by omega
              have HY := Lib.hid hY
              have hxl2 : xs.length = Y - j := by omega
              have HXL := Lib.hid hxl
              have HXL2 := Lib.hid hxl2
              have HYn := Lib.hid (show Y - j = n by omega)
              clear hY hxl hxl2
              have HBK := Lib.hid hbkX
              have HXG := Lib.hid hcw
              clear hbkX hxg hcw
              go_upto_region 30 with (fail)
              go_cut [] from 39 to 118 (fun wx => ∃ (A9 : Option Addr) (c9 : Nat), wx.heap[wr.heap.size]? = some (.cells #[.int .i64 3, .int .i64 (n : Int), .slice A9 (Y - j) c9] 47 (0, 0)) ∧ LnS wx ⟨⟨3, (n : Int), xs⟩, A9, c9⟩ ∧ Below wr.heap.size wr wx ∧ Below w1.heap.size w1 wx)
              case first =>
                go_region_law (refine step_append_lies _ (by rfl) _ _ _ (by rfl) X.heap.size 9 i0 _ 1 16 Tryz.underlying45 hi0 hz0 hz1 hz2 rfl (by omega) (.slice none 0 0) 0 _ (by rfl) (World.ownsRow_nil _ _ _ _) ⟨ga, oa + j, none⟩ (Y - j) (ca - j) (strs xs) (by rfl) (by rw [strs_len, Nat.mul_one]; exact HXL2.out) (fun jj u hj => by rw [addr_addS]; exact HXG.out jj u hj) (strs_one _) (by omega) (by unfold maxLen; omega) (by omega) (Nat.le_refl _) X.heap.size rfl ?_; intro gg cap w6 hown6 hgrow hat hlt6; have b6 := blk_grown0 (w := X.drew) (q := wr.heap.size) HBK.out hgrow (fun h => by cases h); have e26 : w6.cell? ⟨wr.heap.size, 2, none⟩ = some (.slice none 0 0) := (by rw [cell_of_row _ _ _ _ _ _ b6]; rfl); have f26 := frozen_of_row w6 wr.heap.size 2 _ _ b6)
                all_goals
                  go_wp2_with fail
                  go_meet
                  rw [Nat.zero_add, List.nil_append] at hown6
                  have hbD : Below X.heap.size X w6 := grown_own0 (Below.refl X.heap.size X).drew hgrow (fun k hk => by cases hk)
                  have hbr6 : Below wr.heap.size wr w6 := hbx.trans (hbD.mono hbx.size)
                  have hb16 : Below w1.heap.size w1 w6 := hbX.trans (hbD.mono hbX.size)
                  have hown7 : w6.ownsRow X.heap.size 9 1 (.slice (some ⟨gg, 0, none⟩) xs.length cap) xs.length (strs xs) := by rw [HXL2.out]; exact hown6
                  obtain ⟨A9, c9, he9, hln9⟩ := own_lns hown7
                  injection he9 with he9 _ he9c
                  subst he9 he9c
                  exact ⟨some ⟨gg, 0, none⟩, cap, by first | exact heap_setCell_same w6 wr.heap.size 2 _ _ _ b6 | simpa using heap_setCell_same w6 wr.heap.size 2 _ _ _ b6, by first | exact (hln9 _ _).keep (KeptS.set b6 (.inl rfl)) | simpa using (hln9 3 (n : Int)).keep (KeptS.set (i := 2) b6 (.inl rfl)), by first | exact hbr6.setCell (p := ⟨wr.heap.size, 2, none⟩) (Nat.le_refl _) _ | simpa using hbr6.setCell (p := ⟨wr.heap.size, 2, none⟩) (Nat.le_refl _) _, by first | exact hb16.setCell (p := ⟨wr.heap.size, 2, none⟩) hqr _ | simpa using hb16.setCell (p := ⟨wr.heap.size, 2, none⟩) hqr _⟩
              case rest =>
              obtain ⟨A9, c9, hblk9, hln9, hb9, hb19⟩ := hcut
              rw [HYn.out] at hblk9
              have hxl := HXL.out
              clear HXL HXL2 HYn
              have hC9 := HC.out.next hb9
              clear x0 x1 x2 p1 hCX
              have e0 : wc.cell? ⟨wr.heap.size, 0, none⟩ = some (.int .i64 3) := by rw [cell_of_row _ _ _ _ _ _ hblk9]; rfl
              have e1 : wc.cell? ⟨wr.heap.size, 1, none⟩ = some (.int .i64 (n : Int)) := by rw [cell_of_row _ _ _ _ _ _ hblk9]; rfl
              have e2 : wc.cell? ⟨wr.heap.size, 2, none⟩ = some (.slice A9 n c9) := by rw [cell_of_row _ _ _ _ _ _ hblk9]; rfl
              have p1 : wc.cell? ⟨w1.heap.size, 1, none⟩ = some v := by rw [cell_of_row _ _ _ _ _ _ hC9.pat]; rfl
              have hWs := hb19.size
              have HLY2 := Lib.hid (show ∀ h ∈ (l ++ [(⟨⟨3, (n : Int), xs⟩, A9, c9⟩ : Hc)]).map (·.h), ∀ y ∈ h.ls, y.length ≤ 1000000 from fun h hh => by
                rw [List.map_append] at hh
                rcases List.mem_append.1 hh with hh | hh
                · exact HLY.out h hh
                · simp only [List.map_cons, List.map_nil, List.mem_singleton] at hh
                  subst hh
                  exact HXY.out)
              have HHL := Lib.hid hln9
              clear hbX hbx HBK HXG hblk9 g3 g3n hln9 y1 y2 y3 y4 hjc hjc2 hYw
              subst hxl
              have hln9 := HHL.out
              go_wp2_with (at_builtin; refine wpList_append_lies _ (by rfl) _ _ 22 (by rfl) w1.heap.size 47 ih _ 3 40 Tryz.underlying22 hih hzh0 hzh1 hzh2 rfl (by omega) v l.length _ (by rfl) (hC9.row.alloc _) ⟨wc.heap.size, 0, none⟩ 1 1 [_, _, _] (by rfl) (by rfl) (World.news_of_block (cs := #[_, _, _]) (t := 47) (fr := (0, 0)) (heap_alloc_new wc _)) (by simp [Value.oneCell']) (by omega) (by unfold maxLen; omega) (by omega) (by simp; omega) (wc.heap.size + 1) (by simp) ?_; intro gg cap w6 hown6 hgrow hat hlt6; obtain ⟨z1, z2, z3, z4, z5⟩ := hC9.add (W := wc.alloc _) ⟨⟨3, xs.length, xs⟩, A9, c9⟩ ((Below.refl _ _).alloc (Nat.le_refl _) _) hb19.size (by rw [hcsV_app, hcsV_one]; exact hown6) hgrow (hln9.keep (KeptS.of ((Below.refl _ _).alloc (Nat.le_refl _) _))))
              go_roundw
              case rel => exact ⟨Y, _, _, f, by first | rfl | go_num | (simp; done), hYl, hfY, by rw [List.length_append, List.length_singleton]; exact hlY, HLY2.out, by rw [List.map_append, ← HY.out, ← List.drop_drop]; exact HR3.out, z1, hb19.trans z2⟩
              case measure => show ll.length - ((Y : Int)).toNat < ll.length - ((i : Int)).toNat; omega
            · have b3 : (k == 3) = false := by rw [beq_eq_false_iff_ne]; exact hk3
              have HR3 := Lib.hid (HR1.out.trans (Pc.leftN_keep HO.out hk3))
              have HLY2 := Lib.hid (show ∀ h ∈ (l ++ [(⟨⟨k, (n : Int), []⟩, none, 0⟩ : Hc)]).map (·.h), ∀ y ∈ h.ls, y.length ≤ 1000000 from fun h hh => by
                rw [List.map_append] at hh
                rcases List.mem_append.1 hh with hh | hh
                · exact HLY.out h hh
                · simp only [List.map_cons, List.map_nil, List.mem_singleton] at hh
                  subst hh
                  intro y hy
                  simp at hy)
              have hWs := hbX.size
              clear hbkX
              go_wp2_with (at_builtin; refine wpList_append_lies _ (by rfl) _ _ 22 (by rfl) w1.heap.size 47 ih _ 3 40 Tryz.underlying22 hih hzh0 hzh1 hzh2 rfl (by omega) v l.length _ (by rfl) (hCX.row.alloc _) ⟨X.heap.size, 0, none⟩ 1 1 [_, _, _] (by rfl) (by rfl) (World.news_of_block (cs := #[_, _, _]) (t := 47) (fr := (0, 0)) (heap_alloc_new X _)) (by simp [Value.oneCell']) (by omega) (by unfold maxLen; omega) (by omega) (by simp; omega) (X.heap.size + 1) (by simp) ?_; intro gg cap w6 hown6 hgrow hat hlt6; obtain ⟨z1, z2, z3, z4, z5⟩ := hCX.add (W := X.alloc _) ⟨⟨k, n, []⟩, none, 0⟩ ((Below.refl _ _).alloc (Nat.le_refl _) _) hbX.size (by rw [hcsV_app, hcsV_one]; exact hown6) hgrow ⟨Nat.le_refl _, Nat.zero_le _, .inl rfl⟩)
              go_roundw
              case rel => exact ⟨j, _, _, f, by first | rfl | go_num | (simp; done), by omega, by omega, by rw [List.length_append, List.length_singleton]; omega, HLY2.out, by rw [List.map_append]; exact HR3.out, z1, hbX.trans z2⟩
              case measure => show ll.length - ((j : Int)).toNat < ll.length - ((i : Int)).toNat; omega
          · have c0 : decide ((i : Int) < (ll.length : Int)) = false := decide_eq_false (by omega)
            have c0n : decide (i < ll.length) = false := decide_eq_false hlt
            have hCp := HC.out
            obtain ⟨A2, c2, rfl, hHT⟩ := hCp.hsT
            have hpat := hCp.pat
            have hres := hCp.res
            have HD3 := Lib.hid (show R = if Pc.valid ⟨b, l.map (·.h)⟩ = true then (⟨b, l.map (·.h)⟩, 0) else (⟨[], []⟩, 4) from HR.out.trans (by rw [List.drop_eq_nil_of_le (by omega)]; exact Pc.leftN_end _ _ _))
            have hnl : (l.map (·.h)).length ≤ 1024 := by rw [List.length_map]; omega
            have hea := HLY.out
            generalize l.map (·.h) = hs at *
            have p0 : wr.cell? ⟨w1.heap.size, 0, none⟩ = some (.string (str b)) := by rw [cell_of_row _ _ _ _ _ _ hpat]; rfl
            have p1 : wr.cell? ⟨w1.heap.size, 1, none⟩ = some (.slice A2 hs.length c2) := by rw [cell_of_row _ _ _ _ _ _ hpat]; rfl
            have hbw : Below w.heap.size w wr := hb01.trans (hb.mono hb01.size)
            have hv := qValid_any ⟨b, hs⟩ A2 c2 wr ⟨hHT.at_, by show hs.length ≤ _; omega, HBL.out, hea⟩
            rw [paV_def] at hv
            dsimp only at hv
            clear HLY HR HC hf hli hb hCp hnl hea hi
            go_wp2_with fail
            with_reducible refine hv.mono ?_
            clear hv
            rintro x w5 ⟨rfl, hb5⟩
            have hb05 := hbw.trans (hb5.mono hbw.size)
            have hk5 := (hb5.block _ (blk_lt hres)).trans hres
            have hpat5 := (hb5.block _ (blk_lt hpat)).trans hpat
            have hHT5 := hHT.next hb5
            have q0 : w5.cell? ⟨w1.heap.size, 0, none⟩ = some (.string (str b)) := by rw [cell_of_row _ _ _ _ _ _ hpat5]; rfl
            have q1 : w5.cell? ⟨w1.heap.size, 1, none⟩ = some (.slice A2 hs.length c2) := by rw [cell_of_row _ _ _ _ _ _ hpat5]; rfl
            clear p0 p1 hres hpat hpat5 hHT hb5 hbw
            by_cases hva : Pc.valid ⟨b, hs⟩ = true
            · have HT := Lib.hid (HD3.out.trans (if_pos hva))
              rw [hva]
              obtain ⟨z1, z2, r0, r1, f0, f1⟩ := fin_patch (.string (str b)) (.slice A2 hs.length c2) (Nat.le_refl _) hk5 hb05 hHT5
              have Q1 := Lib.hid z1
              have Q2 := Lib.hid z2
              clear z1 z2 hk5 hb05 hHT5 hva HD3
              go_wp2_with fail
              exact bodyPost_ret (v := .tuple #[.agg #[.string (str b), .slice A2 hs.length c2], .int .i64 0]) (by simp [results, Tryz.results11, go_sem, r0, r1]) rfl ⟨A2, c2, by rw [HT.out]; rfl, by rw [HT.out]; exact Q1.out, Q2.out⟩
            · have hvf : Pc.valid ⟨b, hs⟩ = false := by simpa using hva
              rw [hvf]
              have HT := Lib.hid (HD3.out.trans (if_neg hva))
              obtain ⟨y1, y2, r0, r1, f0, f1⟩ := fin_patch (.string ⟨#[]⟩) (.slice none 0 0) (Nat.le_refl _) hk5 hb05 (hsT_nil w5 none)
              have Q1 := Lib.hid y1
              have Q2 := Lib.hid y2
              clear y1 y2
              go_wp2_with fail
              exact bodyPost_ret (v := .tuple #[.agg #[.string ⟨#[]⟩, .slice none 0 0], .int .i64 4]) (by simp [results, Tryz.results11, go_sem, r0, r1]) rfl ⟨none, 0, by rw [HT.out]; rfl, by rw [HT.out]; exact Q1.out, Q2.out⟩
      · rw [hub] at HD2
        have hbw := (hb01.trans (hb12.mono hb01.size)).setCell (p := ⟨w1.heap.size, 0, none⟩) (Nat.le_of_lt hsz1) (.string ⟨#[]⟩)
        have hres := (blk_setCell_other w2 ⟨w1.heap.size, 0, none⟩ (.string ⟨#[]⟩) w.heap.size (show w.heap.size ≠ w1.heap.size by omega)).trans hk3
        clear hb2 hb12 hp2 hk3 hub HPB hd1 hBW hk2 hk1
        have HT := Lib.hid (HD2.out)
        obtain ⟨y1, y2, r0, r1, f0, f1⟩ := fin_patch (.string ⟨#[]⟩) (.slice none 0 0) (Nat.le_refl _) hres hbw (hsT_nil _ none)
        have Q1 := Lib.hid y1
        have Q2 := Lib.hid y2
        clear y1 y2
        go_wp2_with fail
        exact bodyPost_ret (v := .tuple #[.agg #[.string ⟨#[]⟩, .slice none 0 0], .int .i64 4]) (by simp [results, Tryz.results11, go_sem, r0, r1]) rfl ⟨none, 0, by rw [HT.out]; rfl, by rw [HT.out]; exact Q1.out, Q2.out⟩
    · have hpf : Pc.baseW.isPrefixOf x0 = false := eq_false_of_ne_true hpb
      have HD2 := Lib.hid (HD1.out.trans (parseL_none hpf))
      have hcp := fun w => qaft_any Pc.baseW x0 w
      rw [aft_no hpf, ← baseW_str] at hcp
      obtain ⟨b, hb0⟩ : ∃ b : List UInt8, b = [] := ⟨_, rfl⟩
      have HBL := Lib.hid (show b.length ≤ 1000000000 by rw [hb0]; simp)
      have HRR := Lib.hid (show R = Pc.leftN b [] (t0.length + 1) (ll.drop 0) from HD2.out.trans (by rw [hb0, List.drop_zero, ← hll]; exact (Pc.leftN_start [] (t0.length + 1) (x0 :: t0)).symm))
      have HCB := Lib.hid (show Cb (w1.alloc (.cells #[.string ⟨#[]⟩, .slice none 0 0] 24)) w1.heap.size w1.heap.size w.heap.size b [] (.slice none 0 0) from ⟨by rw [hb0]; exact HPB.out, hk2, World.ownsRow_nil _ _ _ _, fun x hx => by simp at hx, Nat.le_refl _, by omega⟩)
      have HBS := Lib.hid hBW
      obtain ⟨f0, hf0⟩ : ∃ f0, f0 = t0.length + 1 := ⟨_, rfl⟩
      rw [← hf0] at HRR
      clear hpb hpf HD1 HD2 hb0 HPB hBW hk2 hk1 hll
      generalize str x0 = ln at *
      go_wp2_with (go_at_call 34; (with_reducible refine (hcp _).mono ?_); rintro e w' ⟨rfl, rfl⟩)
      rw [← hln]
      have HLN := Lib.hid hln
      clear hcp hd1 hg0 hln
      go_loopw [7] (fun s7 wr => ∃ (i : Nat) (l : List Hc) (v : Value) (f : Nat), s7 = .int .i64 i ∧ i ≤ ll.length ∧ ll.length - i ≤ f ∧ l.length ≤ i ∧ (∀ h ∈ l.map (·.h), ∀ y ∈ h.ls, y.length ≤ 1000000) ∧ R = Pc.leftN b (l.map (·.h)) f (ll.drop i) ∧ Cb wr w1.heap.size w1.heap.size w.heap.size b l v ∧ Below w1.heap.size w1 wr) (fun s7 _ => ll.length - (intOf s7).toNat)
      case atStart => exact ⟨0, [], .slice none 0 0, f0, rfl, by have := HLN.out; omega, by have := HLN.out; omega, by simp, by simp, HRR.out, HCB.out, HBS.out⟩
      case round =>
        clear HCB HBS HRR
        obtain ⟨i, l, v, f, rfl, hi, hf, hli, hly, hR, hCb, hb⟩ := hrel
        have HLY := Lib.hid hly
        have HR := Lib.hid hR
        have HC := Lib.hid hCb
        clear hly hR hCb
        by_cases hlt : i < ll.length
        · have c0 : decide ((i : Int) < (ll.length : Int)) = true := decide_eq_true (by omega)
          have c0n : decide (i < ll.length) = true := decide_eq_true hlt
          obtain ⟨f, rfl⟩ : ∃ f' : Nat, f = f' + 1 := ⟨f - 1, by omega⟩
          have hcx := HCL.out i (.string (str ll[i])) (by rw [List.getElem?_eq_getElem (by rw [strs_len]; exact hlt), strs_get ll i hlt])
          have hdr := list_drop ll i hlt
          have hxy := HYY.out ll[i] (List.getElem_mem hlt)
          have HR1 := Lib.hid (show R = Pc.leftN b (l.map (·.h)) (f + 1) (ll[i] :: ll.drop (i + 1)) by rw [← hdr]; exact HR.out)
          clear hdr HR
          generalize ll[i] = x at *
          have hbW : Below w1.heap.size w1 (wr.alloc (.cells #[.int .i64 0, .int .i64 0, .slice none 0 0] 47)) := hb.alloc hb.size _
          have hbrW : Below wr.heap.size wr (wr.alloc (.cells #[.int .i64 0, .int .i64 0, .slice none 0 0] 47)) := (Below.refl _ _).alloc (Nat.le_refl _) _
          have hblk := heap_alloc_new wr (.cells #[.int .i64 0, .int .i64 0, .slice none 0 0] 47)
          have d0 := (hbW.cell (p := ⟨ga, oa + i, none⟩) hga).trans hcx
          have ca1 := qaft_any (Pc.word 1) x (wr.alloc (.cells #[.int .i64 0, .int .i64 0, .slice none 0 0] 47))
          rw [show str (Pc.word 1) = ⟨#[107, 101, 101, 112, 32]⟩ from rfl] at ca1
          have hqr : w1.heap.size ≤ wr.heap.size := hb.size
          go_wp2_with fail
          with_reducible refine ca1.mono ?_
          clear ca1
          rintro e w' ⟨rfl, rfl⟩
          go_upto_if 52 with (fail)
          generalize wr.alloc (.cells #[.int .i64 0, .int .i64 0, .slice none 0 0] 47) = W at *
          go_cut [11, 12] (fun s11 s12 wx => ∃ (k : Int) (d : List UInt8) (bk : Bool), s11 = .string (str d) ∧ s12 = .bool bk ∧ HdAt wr wx wr.heap.size x d k bk)
          case first =>
            have e0 : W.cell? ⟨wr.heap.size, 0, none⟩ = some (.int .i64 0) := by rw [cell_of_row _ _ _ _ _ _ hblk]; rfl
            have fz := frozen_of_row W wr.heap.size 0 _ _ hblk
            have ca2 := qaft_any (Pc.word 2) x W
            rw [show str (Pc.word 2) = ⟨#[100, 114, 111, 112, 32]⟩ from rfl] at ca2
            have ca3 := qaft_any (Pc.word 3) x W
            rw [show str (Pc.word 3) = ⟨#[97, 100, 100, 32]⟩ from rfl] at ca3
            have hst : ∀ k : Int, (W.setCell ⟨wr.heap.size, 0, none⟩ (.int .i64 k)).heap[wr.heap.size]? = some (.cells #[.int .i64 k, .int .i64 0, .slice none 0 0] 47 (0, 0)) := fun k => heap_setCell_same W wr.heap.size 0 _ _ _ hblk
            have hsb : ∀ k : Int, Below wr.heap.size wr (W.setCell ⟨wr.heap.size, 0, none⟩ (.int .i64 k)) := fun k => hbrW.setCell (Nat.le_refl _) _
            have hdl : ∀ m : Nat, (x.drop m).length ≤ 1000000 := fun m => by rw [List.length_drop]; omega
            clear hbW hcx
            by_cases p1 : (Pc.word 1).isPrefixOf x = true
            · rw [aft_yes p1]
              go_wp2_with fail
              go_meet
              exact ⟨1, _, true, rfl, rfl, hst 1, hsb 1, hdl 5, .inl ⟨rfl, Pc.headN_1 p1⟩⟩
            · have p1f : (Pc.word 1).isPrefixOf x = false := eq_false_of_ne_true p1
              rw [aft_no p1f]
              go_wp2_with fail
              with_reducible refine ca2.mono ?_
              rintro e w' ⟨rfl, rfl⟩
              by_cases p2 : (Pc.word 2).isPrefixOf x = true
              · rw [aft_yes p2]
                go_wp2_with fail
                go_meet
                exact ⟨2, _, true, rfl, rfl, hst 2, hsb 2, hdl 5, .inl ⟨rfl, Pc.headN_2 p1f p2⟩⟩
              · have p2f : (Pc.word 2).isPrefixOf x = false := eq_false_of_ne_true p2
                rw [aft_no p2f]
                go_wp2_with fail
                with_reducible refine ca3.mono ?_
                rintro e w' ⟨rfl, rfl⟩
                by_cases p3 : (Pc.word 3).isPrefixOf x = true
                · rw [aft_yes p3]
                  go_wp2_with fail
                  go_meet
                  exact ⟨3, _, true, rfl, rfl, hst 3, hsb 3, hdl 4, .inl ⟨rfl, Pc.headN_3 p1f p2f p3⟩⟩
                · have p3f : (Pc.word 3).isPrefixOf x = false := eq_false_of_ne_true p3
                  rw [aft_no p3f]
                  go_wp2_with fail
                  go_meet
                  exact ⟨0, [], false, rfl, rfl, hblk, hbrW, by simp, .inr ⟨rfl, Pc.headN_0 p1f p2f p3f⟩⟩
          case rest =>
          obtain ⟨k, d, bk, rfl, rfl, hblk9, hb9, hdl, hor⟩ := hcut
          clear d0 hblk hbW hbrW hcx
          have hb19 := hb.trans (hb9.mono hb.size)
          have hC9 := HC.out.next hb9
          have e0 : wc.cell? ⟨wr.heap.size, 0, none⟩ = some (.int .i64 k) := by rw [cell_of_row _ _ _ _ _ _ hblk9]; rfl
          have e1 : wc.cell? ⟨wr.heap.size, 1, none⟩ = some (.int .i64 0) := by rw [cell_of_row _ _ _ _ _ _ hblk9]; rfl
          have e2 : wc.cell? ⟨wr.heap.size, 2, none⟩ = some (.slice none 0 0) := by rw [cell_of_row _ _ _ _ _ _ hblk9]; rfl
          have fz := frozen_of_row wc wr.heap.size 1 _ _ hblk9
          have cn := qnumber_any d hdl wc
          have HOR := Lib.hid hor
          have hnb : Pc.numL d ≤ 1024 := by
            by_cases h : Pc.numL d = 0
            · omega
            · exact (Pc.numL_back h).2
          clear hor
          generalize Pc.numL d = n at *
          have hbX := hb19.setCell (p := ⟨wr.heap.size, 1, none⟩) hqr (.int .i64 (n : Int))
          have hbx := hb9.setCell (p := ⟨wr.heap.size, 1, none⟩) (Nat.le_refl _) (.int .i64 (n : Int))
          have hCX := HC.out.next hbx
          have hbkX : (wc.setCell ⟨wr.heap.size, 1, none⟩ (.int .i64 (n : Int))).heap[wr.heap.size]? = some (.cells #[.int .i64 k, .int .i64 (n : Int), .slice none 0 0] 47 (0, 0)) := heap_setCell_same wc wr.heap.size 1 _ _ _ hblk9
          have hbw := hb01.trans (hbX.mono hb01.size)
          go_wp2_with fail
          with_reducible refine cn.mono ?_
          clear cn
          rintro e w' ⟨rfl, rfl⟩
          go_upto_region 24 with (fail)
          have HDL := Lib.hid hdl
          clear e0 e1 e2 fz hblk9 hb9 hb19 hC9 hdl
          generalize w'.setCell ⟨wr.heap.size, 1, none⟩ (.int .i64 (n : Int)) = X at *
          have x0 : X.cell? ⟨wr.heap.size, 0, none⟩ = some (.int .i64 k) := by rw [cell_of_row _ _ _ _ _ _ hbkX]; rfl
          have x1 : X.cell? ⟨wr.heap.size, 1, none⟩ = some (.int .i64 (n : Int)) := by rw [cell_of_row _ _ _ _ _ _ hbkX]; rfl
          have x2 : X.cell? ⟨wr.heap.size, 2, none⟩ = some (.slice none 0 0) := by rw [cell_of_row _ _ _ _ _ _ hbkX]; rfl
          have p1 : X.cell? ⟨w1.heap.size, 1, none⟩ = some v := by rw [cell_of_row _ _ _ _ _ _ hCX.pat]; rfl
          cases bk with
          | false =>
            have hno : Pc.headN x = none := by
              rcases HOR.out with ⟨h1, _⟩ | ⟨_, h2⟩
              · cases h1
              · exact h2
            have HNO := Lib.hid hno
            clear hno
            have HT := Lib.hid (HR1.out.trans (Pc.leftN_bad HNO.out))
            obtain ⟨y1, y2, r0, r1, f0, f1⟩ := fin_patch (.string ⟨#[]⟩) (.slice none 0 0) (Nat.le_refl _) hCX.res hbw (hsT_nil X none)
            have Q1 := Lib.hid y1
            have Q2 := Lib.hid y2
            clear y1 y2
            go_wp2_with fail
            exact bodyPost_ret (v := .tuple #[.agg #[.string ⟨#[]⟩, .slice none 0 0], .int .i64 4]) (by simp [results, Tryz.results11, go_sem, r0, r1]) rfl ⟨none, 0, by rw [HT.out]; rfl, by rw [HT.out]; exact Q1.out, Q2.out⟩
          | true =>
          by_cases hn0 : n = 0
          · have hno : Pc.headN x = none := by
              rcases HOR.out with ⟨_, h2⟩ | ⟨h1, _⟩
              · rw [h2, if_pos hn0]
              · cases h1
            have n0 : ((n : Int) == 0) = true := by rw [hn0]; rfl
            have n0n : (n == 0) = true := by rw [hn0]; rfl
            have HNO := Lib.hid hno
            clear hno hn0
            have HT := Lib.hid (HR1.out.trans (Pc.leftN_bad HNO.out))
            obtain ⟨y1, y2, r0, r1, f0, f1⟩ := fin_patch (.string ⟨#[]⟩) (.slice none 0 0) (Nat.le_refl _) hCX.res hbw (hsT_nil X none)
            have Q1 := Lib.hid y1
            have Q2 := Lib.hid y2
            clear y1 y2
            go_wp2_with fail
            exact bodyPost_ret (v := .tuple #[.agg #[.string ⟨#[]⟩, .slice none 0 0], .int .i64 4]) (by simp [results, Tryz.results11, go_sem, r0, r1]) rfl ⟨none, 0, by rw [HT.out]; rfl, by rw [HT.out]; exact Q1.out, Q2.out⟩
          have HO := Lib.hid (show Pc.headN x = some (k, n) by
            rcases HOR.out with ⟨_, h2⟩ | ⟨h1, _⟩
            · rw [h2, if_neg hn0]
            · cases h1)
          have n0 : ((n : Int) == 0) = false := by rw [beq_eq_false_iff_ne]; omega
          have n0n : (n == 0) = false := by rw [beq_eq_false_iff_ne]; exact hn0
          have hn1 : 1 ≤ n := by omega
          go_upto_region 27 with (fail)
          clear hn0 n0 n0n HOR c0 c0n
          obtain ⟨j, hj⟩ : ∃ j, i + 1 = j := ⟨_, rfl⟩
          have hji : (i : Int) + 1 = (j : Int) := by omega
          rw [hj] at HR1
          rw [hji]
          have hjl : j ≤ ll.length := by omega
          have hlj : l.length + 1 ≤ j := by omega
          have hfj : ll.length - j ≤ f := by omega
          have hij : i < j := by omega
          clear hji hj hi hf hli
          by_cases hk3 : k = 3
          · subst hk3
            obtain ⟨Y, hY⟩ : ∃ Y, j + n = Y := ⟨_, rfl⟩
            have hYI : (j : Int) + (n : Int) = (Y : Int) := by omega
            by_cases hmr : ll.length < Y
            · have g3 : decide ((ll.length : Int) < (Y : Int)) = true := decide_eq_true (by omega)
              have g3n : decide (ll.length < Y) = true := decide_eq_true hmr
              have hmd : (ll.drop j).length < n := by rw [List.length_drop]; omega
              have HT0 := Lib.hid (HR1.out.trans (Pc.leftN_short HO.out hmd))
              clear hmd hmr hY
              have HT := Lib.hid (HT0.out)
              obtain ⟨y1, y2, r0, r1, f0, f1⟩ := fin_patch (.string ⟨#[]⟩) (.slice none 0 0) (Nat.le_refl _) hCX.res hbw (hsT_nil X none)
              have Q1 := Lib.hid y1
              have Q2 := Lib.hid y2
              clear y1 y2
              go_wp2_with fail
              exact bodyPost_ret (v := .tuple #[.agg #[.string ⟨#[]⟩, .slice none 0 0], .int .i64 4]) (by simp [results, Tryz.results11, go_sem, r0, r1]) rfl ⟨none, 0, by rw [HT.out]; rfl, by rw [HT.out]; exact Q1.out, Q2.out⟩
            have g3 : decide ((ll.length : Int) < (Y : Int)) = false := decide_eq_false (by omega)
            have g3n : decide (ll.length < Y) = false := decide_eq_false hmr
            have HR3 := Lib.hid (HR1.out.trans (Pc.leftN_add HO.out (by rw [List.length_drop]; omega)))
            obtain ⟨xs, hxs⟩ : ∃ xs, (ll.drop j).take n = xs := ⟨_, rfl⟩
            have hxl : xs.length = n := by rw [← hxs, List.length_take, List.length_drop]; omega
            rw [hxs] at HR3
            have HXY := Lib.hid (show ∀ y ∈ xs, y.length ≤ 1000000 from fun y hy => HYY.out y (List.mem_of_mem_drop (List.mem_of_mem_take (hxs ▸ hy))))
            have hxg : ∀ (jj : Nat) (u : Value), (strs xs)[jj]? = some u → (strs ll)[j + jj]? = some u := fun jj u hu => by
              have hlt := (List.getElem?_eq_some_iff.1 hu).1
              rw [strs_len] at hlt
              unfold strs at hu ⊢
              rw [List.getElem?_map] at hu ⊢
              rw [← hxs, List.getElem?_take, if_pos (by omega), List.getElem?_drop] at hu
              exact hu
            clear hxs
            have hcw : ∀ (jj : Nat) (u : Value), (strs xs)[jj]? = some u → X.drew.cell? ⟨ga, oa + j + jj, none⟩ = some u := fun jj u hu => by
              rw [Nat.add_assoc]
              exact (hbX.drew.cell (p := ⟨ga, oa + (j + jj), none⟩) hga).trans (HCL.out (j + jj) u (hxg jj u hu))
            have hjc : ¬ ca = j := by omega
            have hjc2 : ¬ (ca : Int) = (j : Int) := by omega
            have y1 : (j : Int) ≤ (Y : Int) := by omega
            have y2 : (Y : Int) ≤ (ca : Int) := by omega
            have y3 : (0 : Int) ≤ (j : Int) := by omega
            have y4 : (0 : Int) ≤ (Y : Int) := by omega
            have hYl : Y ≤ ll.length := by omega
            have hYw : IntKind.i64.wrap (Y : Int) = (Y : Int) := IntWalk.i64_in _ (by omega)
            have hiY : i < Y := by omega
            have hlY : l.length + 1 ≤ Y := by omega
            have hfY : ll.length - Y ≤ f := by omega
            have HY := Lib.hid hY
            have hxl2 : xs.length = Y - j := by omega
            have HXL := Lib.hid hxl
            have HXL2 := Lib.hid hxl2
            have HYn := Lib.hid (show Y - j = n by omega)
            clear hY hxl hxl2
            have HBK := Lib.hid hbkX
            have HXG := Lib.hid hcw
            clear hbkX hxg hcw
            go_upto_region 30 with (fail)
            go_cut [] from 39 to 118 (fun wx => ∃ (A9 : Option Addr) (c9 : Nat), wx.heap[wr.heap.size]? = some (.cells #[.int .i64 3, .int .i64 (n : Int), .slice A9 (Y - j) c9] 47 (0, 0)) ∧ LnS wx ⟨⟨3, (n : Int), xs⟩, A9, c9⟩ ∧ Below wr.heap.size wr wx ∧ Below w1.heap.size w1 wx)
            case first =>
              go_region_law (refine step_append_lies _ (by rfl) _ _ _ (by rfl) X.heap.size 9 i0 _ 1 16 Tryz.underlying45 hi0 hz0 hz1 hz2 rfl (by omega) (.slice none 0 0) 0 _ (by rfl) (World.ownsRow_nil _ _ _ _) ⟨ga, oa + j, none⟩ (Y - j) (ca - j) (strs xs) (by rfl) (by rw [strs_len, Nat.mul_one]; exact HXL2.out) (fun jj u hj => by rw [addr_addS]; exact HXG.out jj u hj) (strs_one _) (by omega) (by unfold maxLen; omega) (by omega) (Nat.le_refl _) X.heap.size rfl ?_; intro gg cap w6 hown6 hgrow hat hlt6; have b6 := blk_grown0 (w := X.drew) (q := wr.heap.size) HBK.out hgrow (fun h => by cases h); have e26 : w6.cell? ⟨wr.heap.size, 2, none⟩ = some (.slice none 0 0) := (by rw [cell_of_row _ _ _ _ _ _ b6]; rfl); have f26 := frozen_of_row w6 wr.heap.size 2 _ _ b6)
              all_goals
                go_wp2_with fail
                go_meet
                rw [Nat.zero_add, List.nil_append] at hown6
                have hbD : Below X.heap.size X w6 := grown_own0 (Below.refl X.heap.size X).drew hgrow (fun k hk => by cases hk)
                have hbr6 : Below wr.heap.size wr w6 := hbx.trans (hbD.mono hbx.size)
                have hb16 : Below w1.heap.size w1 w6 := hbX.trans (hbD.mono hbX.size)
                have hown7 : w6.ownsRow X.heap.size 9 1 (.slice (some ⟨gg, 0, none⟩) xs.length cap) xs.length (strs xs) := by rw [HXL2.out]; exact hown6
                obtain ⟨A9, c9, he9, hln9⟩ := own_lns hown7
                injection he9 with he9 _ he9c
                subst he9 he9c
                exact ⟨some ⟨gg, 0, none⟩, cap, by first | exact heap_setCell_same w6 wr.heap.size 2 _ _ _ b6 | simpa using heap_setCell_same w6 wr.heap.size 2 _ _ _ b6, by first | exact (hln9 _ _).keep (KeptS.set b6 (.inl rfl)) | simpa using (hln9 3 (n : Int)).keep (KeptS.set (i := 2) b6 (.inl rfl)), by first | exact hbr6.setCell (p := ⟨wr.heap.size, 2, none⟩) (Nat.le_refl _) _ | simpa using hbr6.setCell (p := ⟨wr.heap.size, 2, none⟩) (Nat.le_refl _) _, by first | exact hb16.setCell (p := ⟨wr.heap.size, 2, none⟩) hqr _ | simpa using hb16.setCell (p := ⟨wr.heap.size, 2, none⟩) hqr _⟩
            case rest =>
            obtain ⟨A9, c9, hblk9, hln9, hb9, hb19⟩ := hcut
            rw [HYn.out] at hblk9
            have hxl := HXL.out
            clear HXL HXL2 HYn
            have hC9 := HC.out.next hb9
            clear x0 x1 x2 p1 hCX
            have e0 : wc.cell? ⟨wr.heap.size, 0, none⟩ = some (.int .i64 3) := by rw [cell_of_row _ _ _ _ _ _ hblk9]; rfl
            have e1 : wc.cell? ⟨wr.heap.size, 1, none⟩ = some (.int .i64 (n : Int)) := by rw [cell_of_row _ _ _ _ _ _ hblk9]; rfl
            have e2 : wc.cell? ⟨wr.heap.size, 2, none⟩ = some (.slice A9 n c9) := by rw [cell_of_row _ _ _ _ _ _ hblk9]; rfl
            have p1 : wc.cell? ⟨w1.heap.size, 1, none⟩ = some v := by rw [cell_of_row _ _ _ _ _ _ hC9.pat]; rfl
            have hWs := hb19.size
            have HLY2 := Lib.hid (show ∀ h ∈ (l ++ [(⟨⟨3, (n : Int), xs⟩, A9, c9⟩ : Hc)]).map (·.h), ∀ y ∈ h.ls, y.length ≤ 1000000 from fun h hh => by
              rw [List.map_append] at hh
              rcases List.mem_append.1 hh with hh | hh
              · exact HLY.out h hh
              · simp only [List.map_cons, List.map_nil, List.mem_singleton] at hh
                subst hh
                exact HXY.out)
            have HHL := Lib.hid hln9
            clear hbX hbx HBK HXG hblk9 g3 g3n hln9 y1 y2 y3 y4 hjc hjc2 hYw
            subst hxl
            have hln9 := HHL.out
            go_wp2_with (at_builtin; refine wpList_append_lies _ (by rfl) _ _ 22 (by rfl) w1.heap.size 47 ih _ 3 40 Tryz.underlying22 hih hzh0 hzh1 hzh2 rfl (by omega) v l.length _ (by rfl) (hC9.row.alloc _) ⟨wc.heap.size, 0, none⟩ 1 1 [_, _, _] (by rfl) (by rfl) (World.news_of_block (cs := #[_, _, _]) (t := 47) (fr := (0, 0)) (heap_alloc_new wc _)) (by simp [Value.oneCell']) (by omega) (by unfold maxLen; omega) (by omega) (by simp; omega) (wc.heap.size + 1) (by simp) ?_; intro gg cap w6 hown6 hgrow hat hlt6; obtain ⟨z1, z2, z3, z4, z5⟩ := hC9.add (W := wc.alloc _) ⟨⟨3, xs.length, xs⟩, A9, c9⟩ ((Below.refl _ _).alloc (Nat.le_refl _) _) hb19.size (by rw [hcsV_app, hcsV_one]; exact hown6) hgrow (hln9.keep (KeptS.of ((Below.refl _ _).alloc (Nat.le_refl _) _))))
            go_roundw
            case rel => exact ⟨Y, _, _, f, by first | rfl | go_num | (simp; done), hYl, hfY, by rw [List.length_append, List.length_singleton]; exact hlY, HLY2.out, by rw [List.map_append, ← HY.out, ← List.drop_drop]; exact HR3.out, z1, hb19.trans z2⟩
            case measure => show ll.length - ((Y : Int)).toNat < ll.length - ((i : Int)).toNat; omega
          · have b3 : (k == 3) = false := by rw [beq_eq_false_iff_ne]; exact hk3
            have HR3 := Lib.hid (HR1.out.trans (Pc.leftN_keep HO.out hk3))
            have HLY2 := Lib.hid (show ∀ h ∈ (l ++ [(⟨⟨k, (n : Int), []⟩, none, 0⟩ : Hc)]).map (·.h), ∀ y ∈ h.ls, y.length ≤ 1000000 from fun h hh => by
              rw [List.map_append] at hh
              rcases List.mem_append.1 hh with hh | hh
              · exact HLY.out h hh
              · simp only [List.map_cons, List.map_nil, List.mem_singleton] at hh
                subst hh
                intro y hy
                simp at hy)
            have hWs := hbX.size
            clear hbkX
            go_wp2_with (at_builtin; refine wpList_append_lies _ (by rfl) _ _ 22 (by rfl) w1.heap.size 47 ih _ 3 40 Tryz.underlying22 hih hzh0 hzh1 hzh2 rfl (by omega) v l.length _ (by rfl) (hCX.row.alloc _) ⟨X.heap.size, 0, none⟩ 1 1 [_, _, _] (by rfl) (by rfl) (World.news_of_block (cs := #[_, _, _]) (t := 47) (fr := (0, 0)) (heap_alloc_new X _)) (by simp [Value.oneCell']) (by omega) (by unfold maxLen; omega) (by omega) (by simp; omega) (X.heap.size + 1) (by simp) ?_; intro gg cap w6 hown6 hgrow hat hlt6; obtain ⟨z1, z2, z3, z4, z5⟩ := hCX.add (W := X.alloc _) ⟨⟨k, n, []⟩, none, 0⟩ ((Below.refl _ _).alloc (Nat.le_refl _) _) hbX.size (by rw [hcsV_app, hcsV_one]; exact hown6) hgrow ⟨Nat.le_refl _, Nat.zero_le _, .inl rfl⟩)
            go_roundw
            case rel => exact ⟨j, _, _, f, by first | rfl | go_num | (simp; done), by omega, by omega, by rw [List.length_append, List.length_singleton]; omega, HLY2.out, by rw [List.map_append]; exact HR3.out, z1, hbX.trans z2⟩
            case measure => show ll.length - ((j : Int)).toNat < ll.length - ((i : Int)).toNat; omega
        · have c0 : decide ((i : Int) < (ll.length : Int)) = false := decide_eq_false (by omega)
          have c0n : decide (i < ll.length) = false := decide_eq_false hlt
          have hCp := HC.out
          obtain ⟨A2, c2, rfl, hHT⟩ := hCp.hsT
          have hpat := hCp.pat
          have hres := hCp.res
          have HD3 := Lib.hid (show R = if Pc.valid ⟨b, l.map (·.h)⟩ = true then (⟨b, l.map (·.h)⟩, 0) else (⟨[], []⟩, 4) from HR.out.trans (by rw [List.drop_eq_nil_of_le (by omega)]; exact Pc.leftN_end _ _ _))
          have hnl : (l.map (·.h)).length ≤ 1024 := by rw [List.length_map]; omega
          have hea := HLY.out
          generalize l.map (·.h) = hs at *
          have p0 : wr.cell? ⟨w1.heap.size, 0, none⟩ = some (.string (str b)) := by rw [cell_of_row _ _ _ _ _ _ hpat]; rfl
          have p1 : wr.cell? ⟨w1.heap.size, 1, none⟩ = some (.slice A2 hs.length c2) := by rw [cell_of_row _ _ _ _ _ _ hpat]; rfl
          have hbw : Below w.heap.size w wr := hb01.trans (hb.mono hb01.size)
          have hv := qValid_any ⟨b, hs⟩ A2 c2 wr ⟨hHT.at_, by show hs.length ≤ _; omega, HBL.out, hea⟩
          rw [paV_def] at hv
          dsimp only at hv
          clear HLY HR HC hf hli hb hCp hnl hea hi
          go_wp2_with fail
          with_reducible refine hv.mono ?_
          clear hv
          rintro x w5 ⟨rfl, hb5⟩
          have hb05 := hbw.trans (hb5.mono hbw.size)
          have hk5 := (hb5.block _ (blk_lt hres)).trans hres
          have hpat5 := (hb5.block _ (blk_lt hpat)).trans hpat
          have hHT5 := hHT.next hb5
          have q0 : w5.cell? ⟨w1.heap.size, 0, none⟩ = some (.string (str b)) := by rw [cell_of_row _ _ _ _ _ _ hpat5]; rfl
          have q1 : w5.cell? ⟨w1.heap.size, 1, none⟩ = some (.slice A2 hs.length c2) := by rw [cell_of_row _ _ _ _ _ _ hpat5]; rfl
          clear p0 p1 hres hpat hpat5 hHT hb5 hbw
          by_cases hva : Pc.valid ⟨b, hs⟩ = true
          · have HT := Lib.hid (HD3.out.trans (if_pos hva))
            rw [hva]
            obtain ⟨z1, z2, r0, r1, f0, f1⟩ := fin_patch (.string (str b)) (.slice A2 hs.length c2) (Nat.le_refl _) hk5 hb05 hHT5
            have Q1 := Lib.hid z1
            have Q2 := Lib.hid z2
            clear z1 z2 hk5 hb05 hHT5 hva HD3
            go_wp2_with fail
            exact bodyPost_ret (v := .tuple #[.agg #[.string (str b), .slice A2 hs.length c2], .int .i64 0]) (by simp [results, Tryz.results11, go_sem, r0, r1]) rfl ⟨A2, c2, by rw [HT.out]; rfl, by rw [HT.out]; exact Q1.out, Q2.out⟩
          · have hvf : Pc.valid ⟨b, hs⟩ = false := by simpa using hva
            rw [hvf]
            have HT := Lib.hid (HD3.out.trans (if_neg hva))
            obtain ⟨y1, y2, r0, r1, f0, f1⟩ := fin_patch (.string ⟨#[]⟩) (.slice none 0 0) (Nat.le_refl _) hk5 hb05 (hsT_nil w5 none)
            have Q1 := Lib.hid y1
            have Q2 := Lib.hid y2
            clear y1 y2
            go_wp2_with fail
            exact bodyPost_ret (v := .tuple #[.agg #[.string ⟨#[]⟩, .slice none 0 0], .int .i64 4]) (by simp [results, Tryz.results11, go_sem, r0, r1]) rfl ⟨none, 0, by rw [HT.out]; rfl, by rw [HT.out]; exact Q1.out, Q2.out⟩
end Go.Proofs.YtmmdldicafbjdaaGreatDoor
