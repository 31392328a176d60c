/- The lines of a patch, of the reference. No condition but the lengths. -/
import Derived.Test.YtlfgnecfabdkmaaGreatDoorPrt
import Derived.Test.YtlfgnecfabdkmaaGreatDoorDgRefHex
import Derived.Test.YtlfgnecfabdkmaaGreatDoorPz4
namespace Go.Proofs.YtlfgnecfabdkmaaGreatDoor
open Go.RowKit Go.Deep Tr

theorem app_strs2 (ty : TypeId) (w : World) (B : Nat) (v : Value) (xs ys : List (List UInt8)) (hown : w.ownsRow B 9 1 v xs.length (strs xs)) (A : Option Addr) (c : Nat) (hA : CellsAt w w.heap.size A (strs ys)) (hB : B ≤ w.heap.size) (hlen : xs.length + ys.length ≤ 100000000) :
    ∃ v' w', (Builtin.append_ #[50, 50] ty #[v, .slice A ys.length c]).run Tryz.prog w = .ok v' w' ∧ w'.ownsRow B 9 1 v' (xs ++ ys).length (strs (xs ++ ys)) ∧ w.grownBy w' v.ownBlock ∧ ∀ q, v'.ownBlock = some q → v.ownBlock = some q ∨ q = w.heap.size := by
  obtain ⟨i0, hi0, hz0, hz1, hz2⟩ := info_parts infoS
  by_cases h0 : ys.length = 0
  · have e : ys = [] := List.length_eq_zero_iff.1 h0
    subst e
    obtain ⟨A0, c0, rfl, _⟩ := owns_cells hown
    obtain ⟨hcc, _⟩ := own_capS hown
    refine ⟨_, w, run_append_nothing w 50 50 ty 9 i0 Tryz.underlying50 hi0 A0 _ c0 hcc _ (src_noneS w Tryz.underlying50 A c), by rw [List.append_nil]; exact hown, ⟨rfl, rfl, rfl, Nat.le_refl _, fun _ _ _ => rfl⟩, fun q hq => .inl hq⟩
  · obtain ⟨g, o, rfl, hg, hc⟩ := cells_row hA (by rw [strs_len]; omega)
    obtain ⟨gg, cap, w3, hrun, hown3, hgrow, hat, _⟩ := run_append_lies (P := Tryz.prog) w 50 ty B 9 i0 _ 1 16 Tryz.underlying50 hi0 hz0 hz1 hz2 rfl (by omega) v xs.length _ hown ⟨g, o, none⟩ ys.length c (strs ys) (by rw [strs_len, Nat.mul_one]) (fun j u hj => by rw [addr_addS]; exact hc j u hj) (strs_one ys) (by omega) (by unfold maxLen; omega) (by omega) hB w.heap.size rfl
    refine ⟨_, w3, hrun, by rw [strs_app, List.length_append]; exact hown3, hgrow, fun q hq => ?_⟩
    have e : q = gg := (Option.some.inj hq).symm
    rw [e]; exact hat
/-- The four words lie. -/
def WordsAt (w : World) (wb : Nat) : Prop := w.heap[wb]? = some (.cells #[.string ⟨#[]⟩, .string ⟨#[107, 101, 101, 112, 32]⟩, .string ⟨#[100, 114, 111, 112, 32]⟩, .string ⟨#[97, 100, 100, 32]⟩] 9 (0, 0))
theorem WordsAt.grown {w w' : World} {wb : Nat} {row : Option Nat} (h : WordsAt w wb) (hg : w.grownBy w' row) (hne : ∀ q, row = some q → q ≠ wb) : WordsAt w' wb := (hg.block wb (blk_lt h) (fun e => hne wb e.symm rfl)).trans h
theorem WordsAt.next {w w' : World} {wb : Nat} (h : WordsAt w wb) (hb : Below w.heap.size w w') : WordsAt w' wb := (hb.block _ (blk_lt h)).trans h
theorem WordsAt.cell {w : World} {wb : Nat} (h : WordsAt w wb) : w.cell? ⟨wb, 1, none⟩ = some (.string ⟨#[107, 101, 101, 112, 32]⟩) ∧ w.cell? ⟨wb, 2, none⟩ = some (.string ⟨#[100, 114, 111, 112, 32]⟩) ∧ w.cell? ⟨wb, 3, none⟩ = some (.string ⟨#[97, 100, 100, 32]⟩) := ⟨by rw [cell_of_row _ _ _ _ _ _ h]; rfl, by rw [cell_of_row _ _ _ _ _ _ h]; rfl, by rw [cell_of_row _ _ _ _ _ _ h]; rfl⟩
set_option maxHeartbeats 16000000 in
set_option maxRecDepth 100000 in
theorem qlines_any (p : Pc.Pa) (A : Option Addr) (c : Nat) (w : World) (hP : PaOk w p A) (hH : ∀ h ∈ p.hs, Pc.isHunk h = true) (hl : p.hs.length ≤ 2048) (hsum : (Pc.bodyL p.hs).length ≤ 4096) (hbo : Pc.baseOk p.base = true) :
    Calls Tryz.prog 39 #[paV p A c] w (GotP w (Pc.printL p)) := by
  obtain ⟨base, hs⟩ := p
  obtain ⟨hA, _, hbl, heach⟩ := hP
  dsimp only at *
  rw [paV_def]
  dsimp only
  have HPL := Lib.hid (show Pc.printL ⟨base, hs⟩ = (if base = [] then [] else [Pc.baseW ++ Pc.hex base]) ++ Pc.bodyL hs from rfl)
  generalize Pc.printL ⟨base, hs⟩ = PL at *
  have hb0 : Below w.heap.size w (w.alloc (.cells #[.string (str base), .slice A hs.length c] 24)) := (Below.refl _ _).alloc (Nat.le_refl _) _
  have hN0 := heap_alloc_new w (.cells #[.string (str base), .slice A hs.length c] 24)
  have HW := Lib.hid (show ∀ w', Below (w.alloc (.cells #[.string (str base), .slice A hs.length c] 24)).heap.size (w.alloc (.cells #[.string (str base), .slice A hs.length c] 24)) w' →
      Below w.heap.size w w' ∧ HsAt w' w'.heap.size A hs ∧ w'.cell? ⟨w.heap.size, 0, none⟩ = some (.string (str base)) ∧ w'.cell? ⟨w.heap.size, 1, none⟩ = some (.slice A hs.length c) from fun w' h => by
    have hb := hb0.trans (h.mono hb0.size)
    have hN := (h.block w.heap.size (blk_lt hN0)).trans hN0
    exact ⟨hb, hA.next hb, by rw [cell_of_row _ _ _ _ _ _ hN]; rfl, by rw [cell_of_row _ _ _ _ _ _ hN]; rfl⟩)
  have hbb0 := Below.refl (w.alloc (.cells #[.string (str base), .slice A hs.length c] 24)).heap.size (w.alloc (.cells #[.string (str base), .slice A hs.length c] 24))
  obtain ⟨k0, k1⟩ := (HW.out _ hbb0).2.2
  have HBW := Lib.hid (show w.heap.size ≤ (w.alloc (.cells #[.string (str base), .slice A hs.length c] 24)).heap.size by simp)
  have HHK := Lib.hid hH
  have HEA := Lib.hid heach
  have HBO := Lib.hid hbo
  clear hA hb0 hN0 hH heach hbo
  obtain ⟨L0, hL0⟩ : ∃ L0, L0 = (if base = [] then [] else [Pc.baseW ++ Pc.hex base]) := ⟨_, rfl⟩
  have hL0l : L0.length ≤ 1 := by rw [hL0]; split <;> simp
  have HL0 := Lib.hid hL0
  have HPL1 := Lib.hid (show PL = L0 ++ Pc.bodyL hs by rw [HPL.out, hL0])
  clear hL0 HPL
  go_enter Tryz.func39, Tryz.ntmps39
  go_upto_if 11 with (fail)
  generalize w.alloc (.cells #[.string (str base), .slice A hs.length c] 24) = W at *
  go_cut [3] (fun s3 wx => wx.ownsRow W.heap.size 9 1 s3 L0.length (strs L0) ∧ Below W.heap.size W wx)
  case first =>
    by_cases hbe : base = []
    · have HE := Lib.hid (show L0 = [] by rw [HL0.out, if_pos hbe])
      have q3 : (!(str base).toList.isEmpty) = false := by rw [str_list, hbe]; rfl
      rw [q3]
      clear hbe HL0 HBO
      go_wp2_with fail
      go_meet
      exact ⟨by rw [HE.out]; exact World.ownsRow_nil _ _ _ _, hbb0⟩
    · have q3 : (!(str base).toList.isEmpty) = true := by rw [str_list]; cases hq : base with | nil => exact absurd hq hbe | cons _ _ => rfl
      rw [q3]
      have h32 : base.length = 32 := by
        have h := HBO.out
        unfold Pc.baseOk at h
        simp only [Bool.or_eq_true, decide_eq_true_eq] at h
        rcases h with h | h
        · exact absurd h hbe
        · exact h
      have hcall := Dg.refHex_good (str base) (by rw [str_size]; exact h32) W
      rw [show Dg.hexS (str base) = str (Pc.hex base) from rfl] at hcall
      have HE := Lib.hid (show L0 = [Pc.baseW ++ Pc.hex base] by rw [HL0.out, if_neg hbe])
      have hxs : (str (Pc.hex base)).size ≤ 64 := by rw [str_size, hex_len]; omega
      have HXA := Lib.hid (show (⟨#[98, 97, 115, 101, 32]⟩ : ByteArray) ++ str (Pc.hex base) = str (Pc.baseW ++ Pc.hex base) by rw [baseW_str, str_app])
      clear hbe h32 HL0 HBO
      generalize Pc.hex base = hx at *
      obtain ⟨i0, hi0, hz0, hz1, hz2⟩ := info_parts infoS
      go_wp2_with fail
      with_reducible refine hcall.mono ?_
      clear hcall k0 k1
      rintro x w2 ⟨rfl, hb2⟩
      have hbw2 : W.heap.size ≤ w2.heap.size := hb2.size
      go_wp2_with (at_builtin; refine wpList_append_lies _ (by rfl) _ _ 50 (by rfl) W.heap.size 9 i0 _ 1 16 Tryz.underlying50 hi0 hz0 hz1 hz2 rfl (by omega) (.slice none 0 0) 0 [] (by rfl) (World.ownsRow_nil _ _ _ _) ⟨w2.heap.size, 0, none⟩ 1 1 [_] (by rfl) (by rfl) (World.news_of_block (cs := #[_]) (t := 9) (fr := (0, 0)) (heap_alloc_new w2 _)) (by simp [Value.oneCell']) (by omega) (by unfold maxLen; omega) (by omega) (by simp; omega) _ rfl ?_; intro gg cap w3 hown3 hgrow hat hlt3)
      rw [HXA.out] at hown3
      have hbx : Below W.heap.size W w3 := (hb2.alloc hb2.size _).grown hgrow (by simp; have := hb2.size; omega) (fun q hq => by cases hq)
      go_meet
      exact ⟨by rw [HE.out]; exact hown3, hbx⟩
  case rest =>
  obtain ⟨hown, hbc⟩ := hcut
  clear HL0 HBO k0 k1 hbb0
  have hwd : WordsAt (wc.alloc (.cells #[.string ⟨#[]⟩, .string ⟨#[107, 101, 101, 112, 32]⟩, .string ⟨#[100, 114, 111, 112, 32]⟩, .string ⟨#[97, 100, 100, 32]⟩] 9)) wc.heap.size := heap_alloc_new wc _
  have hbd : Below W.heap.size W (wc.alloc (.cells #[.string ⟨#[]⟩, .string ⟨#[107, 101, 101, 112, 32]⟩, .string ⟨#[100, 114, 111, 112, 32]⟩, .string ⟨#[97, 100, 100, 32]⟩] 9)) := hbc.alloc hbc.size _
  have hownd := hown.alloc (.cells #[.string ⟨#[]⟩, .string ⟨#[107, 101, 101, 112, 32]⟩, .string ⟨#[100, 114, 111, 112, 32]⟩, .string ⟨#[97, 100, 100, 32]⟩] 9)
  have haw : ∀ q, u3.ownBlock = some q → q ≠ wc.heap.size := fun q hq => by have := (hown.lt q hq).2; omega
  obtain ⟨k0, k1⟩ := (HW.out _ hbd).2.2
  have hbt := fun k => bodyL_take hs k
  have HBT := Lib.hid hbt
  clear hbt hown hbc
  have hown0 : (wc.alloc (.cells #[.string ⟨#[]⟩, .string ⟨#[107, 101, 101, 112, 32]⟩, .string ⟨#[100, 114, 111, 112, 32]⟩, .string ⟨#[97, 100, 100, 32]⟩] 9)).ownsRow W.heap.size 9 1 u3 (L0 ++ Pc.bodyL (hs.take 0)).length (strs (L0 ++ Pc.bodyL (hs.take 0))) := by rw [List.take_zero, show Pc.bodyL [] = [] from rfl, List.append_nil]; exact hownd
  clear hownd
  obtain ⟨i0, hi0, hz0, hz1, hz2⟩ := info_parts infoS
  have HRES := Lib.hid (fun w' h => (HW.out w' h).1)
  have HHS := Lib.hid (HW.out _ (Below.refl W.heap.size W)).2.1
  go_upto_region 7 with (fail)
  have HD := Lib.hid hwd
  have HA := Lib.hid haw
  have HO := Lib.hid hown0
  have HB := Lib.hid hbd
  clear hwd haw hown0 hbd
  generalize wc.alloc (.cells #[.string ⟨#[]⟩, .string ⟨#[107, 101, 101, 112, 32]⟩, .string ⟨#[100, 114, 111, 112, 32]⟩, .string ⟨#[97, 100, 100, 32]⟩] 9) = W2 at *
  generalize wc.heap.size = wb at *
  go_loopw [3, 27] (fun v i wr => ∃ k : Nat, k ≤ hs.length ∧ i = .int .i64 k ∧ wr.ownsRow W.heap.size 9 1 v (L0 ++ Pc.bodyL (hs.take k)).length (strs (L0 ++ Pc.bodyL (hs.take k))) ∧ Below W.heap.size W wr ∧ WordsAt wr wb ∧ (∀ q, v.ownBlock = some q → q ≠ wb)) (fun _ i _ => hs.length - (intOf i).toNat)
  case atStart => exact ⟨0, by omega, rfl, HO.out, HB.out, HD.out, HA.out⟩
  case round =>
    clear HO HB HD HA k0 k1 HW
    obtain ⟨k, hk, rfl, hown, hb, hwd, haw⟩ := hrel
    have HAW := Lib.hid haw
    have HWD := Lib.hid hwd
    clear haw hwd
    have hpl : (L0 ++ Pc.bodyL (hs.take k)).length ≤ 4097 := by have := HBT.out k; rw [List.length_append]; omega
    by_cases hlt : k < hs.length
    · have b1 : decide ((k : Int) < hs.length) = true := by simp; omega
      have b1n : decide (k < hs.length) = true := by simp; omega
      obtain ⟨g, o, Ak, ck, rfl, hg, h0, h1, h2, hck, h4, h5⟩ := HHS.out k hlt
      have hd0 := (hb.cell (p := ⟨g, o + k * 3, none⟩) hg).trans h0
      have hd1 := (hb.cell (p := ⟨g, o + k * 3 + 1, none⟩) hg).trans h1
      have hd2 := (hb.cell (p := ⟨g, o + k * 3 + 2, none⟩) hg).trans h2
      have HCK := Lib.hid hck
      clear h0 h1 h2 hck
      have HSN := Lib.hid (bodyL_snoc' L0 hs k hlt)
      have hnx := HBT.out (k + 1)
      obtain ⟨⟨n1, n2⟩, hkd, hll⟩ := Pc.isHunk_num (HHK.out hs[k] (List.getElem_mem hlt))
      generalize hs[k] = h at *
      generalize L0 ++ Pc.bodyL (hs.take k) = pr at *
      obtain ⟨kd, n, ls⟩ := h
      dsimp only at *
      have hlsl : ls.length ≤ 1024 := by omega
      obtain ⟨m, rfl⟩ : ∃ m : Nat, n = m := ⟨n.toNat, by omega⟩
      go_upto_region 9 with (fail)
      have hnew := heap_alloc_new wr (.cells #[.int .i64 kd, .int .i64 m, .slice Ak ls.length ck] 54)
      have e0 : (wr.alloc (.cells #[.int .i64 kd, .int .i64 m, .slice Ak ls.length ck] 54)).cell? ⟨wr.heap.size, 0, none⟩ = some (.int .i64 kd) := by rw [cell_of_row _ _ _ _ _ _ hnew]; rfl
      have e1 : (wr.alloc (.cells #[.int .i64 kd, .int .i64 m, .slice Ak ls.length ck] 54)).cell? ⟨wr.heap.size, 1, none⟩ = some (.int .i64 m) := by rw [cell_of_row _ _ _ _ _ _ hnew]; rfl
      have e2 : (wr.alloc (.cells #[.int .i64 kd, .int .i64 m, .slice Ak ls.length ck] 54)).cell? ⟨wr.heap.size, 2, none⟩ = some (.slice Ak ls.length ck) := by rw [cell_of_row _ _ _ _ _ _ hnew]; rfl
      have hlw : wr.heap.size < (wr.alloc (.cells #[.int .i64 kd, .int .i64 m, .slice Ak ls.length ck] 54)).heap.size := by simp
      have hb2 : Below W.heap.size W (wr.alloc (.cells #[.int .i64 kd, .int .i64 m, .slice Ak ls.length ck] 54)) := hb.alloc hb.size _
      have hown2 := hown.alloc (.cells #[.int .i64 kd, .int .i64 m, .slice Ak ls.length ck] 54)
      have hwd2 : WordsAt (wr.alloc (.cells #[.int .i64 kd, .int .i64 m, .slice Ak ls.length ck] 54)) wb := HWD.out.next ((Below.refl _ _).alloc (Nat.le_refl _) _)
      have HROW := Lib.hid (show ∀ q, u3.ownBlock = some q → W.heap.size ≤ q ∧ q < wr.heap.size from fun q hq => hown.lt q hq)
      clear hd0 hd1 hd2 hown hb hnew HWD
      generalize wr.alloc (.cells #[.int .i64 kd, .int .i64 m, .slice Ak ls.length ck] 54) = w2 at *
      generalize hq : wr.heap.size = q at *
      have HQ := Lib.hid hq
      clear hq
      obtain ⟨m1, m2, m3⟩ := hwd2.cell
      have HL2 := Lib.hid hlw
      have HB2 := Lib.hid hb2
      have HD2 := Lib.hid hwd2
      have hdc : ∀ w, Calls Tryz.prog 66 #[.int .i64 (m : Int)] w fun e w' => e = .returned (.string (str (Lib.decDigits m))) ∧ Below w.heap.size w w' := fun w => Cd.decimal_any m (by omega) w
      have hxa : str (Pc.word kd) ++ str (Lib.decDigits m) = str (Pc.headL ⟨kd, m, ls⟩) := by rw [str_app]; rfl
      have hz5 := word_len kd
      have hz21 : (Lib.decDigits m).length ≤ 21 := Cd.dec_len m (by omega)
      have s1 : (str (Pc.word kd)).size ≤ 5 := by rw [str_size]; omega
      have s2 : (str (Lib.decDigits m)).size ≤ 21 := by rw [str_size]; omega
      have HXA := Lib.hid hxa
      have HWB := Lib.hid (blk_lt hwd2)
      clear hz5 hz21 hxa hwd2
      generalize Pc.headL ⟨kd, m, ls⟩ = hl1 at *
      generalize str (Lib.decDigits m) = dd at *
      have hsz2 := hb2.size
      have hk4 : (0 : Int) ≤ kd ∧ kd < 4 := by omega
      rcases hkd with rfl | rfl | rfl
      · rw [show str (Pc.word 1) = ⟨#[107, 101, 101, 112, 32]⟩ from rfl] at HXA s1
        have s3 : ¬ (9223372036854775807 < (⟨#[107, 101, 101, 112, 32]⟩ : ByteArray).size + dd.size) := by have : (⟨#[107, 101, 101, 112, 32]⟩ : ByteArray).size = 5 := rfl; omega
        have s4 : ¬ (9223372036854775807 < 5 + dd.size) := by omega
        go_region_law (first
          | (go_simp; go_at_call 66; (with_reducible refine (hdc _).mono ?_); rintro x w4 ⟨rfl, hb4⟩; have hown4 := owns_below hown2.drew hb4; have hb04 := HB2.out.drew.trans (hb4.mono HB2.out.drew.size); have f2 := (hb4.cell (p := ⟨q, 2, none⟩) HL2.out).trans e2; have f0 := (hb4.cell (p := ⟨q, 0, none⟩) HL2.out).trans e0; have fw := (hb4.cell (p := ⟨wb, 1, none⟩) HWB.out).trans m1; have hwd4 : WordsAt w4 wb := (hb4.block _ HWB.out).trans HD2.out; have hlq := Nat.lt_of_lt_of_le HL2.out hb4.size; have hs4 := hb04.size)
          | (refine step_append_lies _ (by rfl) _ _ _ (by rfl) W.heap.size 9 i0 _ 1 16 Tryz.underlying50 hi0 hz0 hz1 hz2 rfl (by omega) u3 pr.length _ (by rfl) (hown4.alloc _) ⟨w4.heap.size, 0, none⟩ 1 1 [_] (by rfl) (by rfl) (World.news_of_block (cs := #[_]) (t := 9) (fr := (0, 0)) (heap_alloc_new w4 _)) (by simp [Value.oneCell']) (by omega) (by unfold maxLen; omega) (by omega) (by simp; omega) (w4.heap.size + 1) (by simp) ?_; intro gg cap w6 hown6 hgrow hat hlt6))
        all_goals
          have hb6 : Below W.heap.size W w6 := grown_own0 (hb04.alloc hb04.size _) hgrow (fun q' hq' => (HROW.out q' hq').1)
          rw [strs_snoc' pr _ hl1 HXA.out] at hown6
          have hq0 : (w4.alloc (.cells #[.string (⟨#[107, 101, 101, 112, 32]⟩ ++ dd)] 9)).cell? ⟨q, 2, none⟩ = some (.slice Ak ls.length ck) := (((Below.refl _ w4).alloc (Nat.le_refl _) _).cell (p := ⟨q, 2, none⟩) hlq).trans f2
          have e6 : w6.cell? ⟨q, 2, none⟩ = some (.slice Ak ls.length ck) := (World.grownBy.cell_far hgrow ⟨q, 2, none⟩ (by simp; omega) (fun e => by have := (HROW.out q e.symm).2; have := HQ.out; omega)).trans hq0
          have hwd6 : WordsAt w6 wb := (hwd4.next ((Below.refl _ _).alloc (Nat.le_refl _) _)).grown hgrow (fun q hq => HAW.out q hq)
          have haw6 : gg ≠ wb := by
            rcases hat with e | e
            · exact HAW.out gg e
            · have := blk_lt hwd4; omega
          have hown6' : w6.ownsRow W.heap.size 9 1 (.slice (some ⟨gg, 0, none⟩) (pr.length + 1) cap) (pr ++ [hl1]).length (strs (pr ++ [hl1])) := by rw [List.length_append, List.length_singleton]; exact hown6
          have hcl : (pr ++ [hl1]).length = pr.length + 1 := by simp
          obtain ⟨v7, w7, hrun, hown7, hgrow7, hat7⟩ := app_strs2 50 w6 W.heap.size _ (pr ++ [hl1]) ls hown6' Ak ck (HCK.out.next hb6) hb6.size (by rw [hcl]; omega)
          have hb7 : Below W.heap.size W w7 := grown_own0 hb6 hgrow7 (fun q' hq' => (hown6'.lt q' hq').1)
          have hwd7 : WordsAt w7 wb := hwd6.grown hgrow7 (fun q hq => by have e := Option.some.inj hq; rw [← e]; exact haw6)
          have haw7 : ∀ q, v7.ownBlock = some q → q ≠ wb := fun q hq => by
            rcases hat7 q hq with e | e
            · have e := Option.some.inj e; rw [← e]; exact haw6
            · have := blk_lt hwd6; omega
          rw [← HSN.out] at hown7
          clear hown6 hown6' hgrow hgrow7 hat hlt6 hq0 hcl f2 f0 fw hlq hb04 hb6 hown4 hs4 hb4 hwd6 haw6 hwd4 hat7
          go_wp2_with (at_builtin; refine Lib.wpList_append_run _ rfl _ _ _ _ rfl _ _ rfl rfl _ _ hrun ?_)
          go_roundw
          case rel => exact ⟨k + 1, by omega, by go_num, hown7, hb7, hwd7, haw7⟩
          case measure => simp [intOf]; omega
      · rw [show str (Pc.word 2) = ⟨#[100, 114, 111, 112, 32]⟩ from rfl] at HXA s1
        have s3 : ¬ (9223372036854775807 < (⟨#[100, 114, 111, 112, 32]⟩ : ByteArray).size + dd.size) := by have : (⟨#[100, 114, 111, 112, 32]⟩ : ByteArray).size = 5 := rfl; omega
        have s4 : ¬ (9223372036854775807 < 5 + dd.size) := by omega
        go_region_law (first
          | (go_simp; go_at_call 66; (with_reducible refine (hdc _).mono ?_); rintro x w4 ⟨rfl, hb4⟩; have hown4 := owns_below hown2.drew hb4; have hb04 := HB2.out.drew.trans (hb4.mono HB2.out.drew.size); have f2 := (hb4.cell (p := ⟨q, 2, none⟩) HL2.out).trans e2; have f0 := (hb4.cell (p := ⟨q, 0, none⟩) HL2.out).trans e0; have fw := (hb4.cell (p := ⟨wb, 2, none⟩) HWB.out).trans m2; have hwd4 : WordsAt w4 wb := (hb4.block _ HWB.out).trans HD2.out; have hlq := Nat.lt_of_lt_of_le HL2.out hb4.size; have hs4 := hb04.size)
          | (refine step_append_lies _ (by rfl) _ _ _ (by rfl) W.heap.size 9 i0 _ 1 16 Tryz.underlying50 hi0 hz0 hz1 hz2 rfl (by omega) u3 pr.length _ (by rfl) (hown4.alloc _) ⟨w4.heap.size, 0, none⟩ 1 1 [_] (by rfl) (by rfl) (World.news_of_block (cs := #[_]) (t := 9) (fr := (0, 0)) (heap_alloc_new w4 _)) (by simp [Value.oneCell']) (by omega) (by unfold maxLen; omega) (by omega) (by simp; omega) (w4.heap.size + 1) (by simp) ?_; intro gg cap w6 hown6 hgrow hat hlt6))
        all_goals
          have hb6 : Below W.heap.size W w6 := grown_own0 (hb04.alloc hb04.size _) hgrow (fun q' hq' => (HROW.out q' hq').1)
          rw [strs_snoc' pr _ hl1 HXA.out] at hown6
          have hq0 : (w4.alloc (.cells #[.string (⟨#[100, 114, 111, 112, 32]⟩ ++ dd)] 9)).cell? ⟨q, 2, none⟩ = some (.slice Ak ls.length ck) := (((Below.refl _ w4).alloc (Nat.le_refl _) _).cell (p := ⟨q, 2, none⟩) hlq).trans f2
          have e6 : w6.cell? ⟨q, 2, none⟩ = some (.slice Ak ls.length ck) := (World.grownBy.cell_far hgrow ⟨q, 2, none⟩ (by simp; omega) (fun e => by have := (HROW.out q e.symm).2; have := HQ.out; omega)).trans hq0
          have hwd6 : WordsAt w6 wb := (hwd4.next ((Below.refl _ _).alloc (Nat.le_refl _) _)).grown hgrow (fun q hq => HAW.out q hq)
          have haw6 : gg ≠ wb := by
            rcases hat with e | e
            · exact HAW.out gg e
            · have := blk_lt hwd4; omega
          have hown6' : w6.ownsRow W.heap.size 9 1 (.slice (some ⟨gg, 0, none⟩) (pr.length + 1) cap) (pr ++ [hl1]).length (strs (pr ++ [hl1])) := by rw [List.length_append, List.length_singleton]; exact hown6
          have hcl : (pr ++ [hl1]).length = pr.length + 1 := by simp
          obtain ⟨v7, w7, hrun, hown7, hgrow7, hat7⟩ := app_strs2 50 w6 W.heap.size _ (pr ++ [hl1]) ls hown6' Ak ck (HCK.out.next hb6) hb6.size (by rw [hcl]; omega)
          have hb7 : Below W.heap.size W w7 := grown_own0 hb6 hgrow7 (fun q' hq' => (hown6'.lt q' hq').1)
          have hwd7 : WordsAt w7 wb := hwd6.grown hgrow7 (fun q hq => by have e := Option.some.inj hq; rw [← e]; exact haw6)
          have haw7 : ∀ q, v7.ownBlock = some q → q ≠ wb := fun q hq => by
            rcases hat7 q hq with e | e
            · have e := Option.some.inj e; rw [← e]; exact haw6
            · have := blk_lt hwd6; omega
          rw [← HSN.out] at hown7
          clear hown6 hown6' hgrow hgrow7 hat hlt6 hq0 hcl f2 f0 fw hlq hb04 hb6 hown4 hs4 hb4 hwd6 haw6 hwd4 hat7
          go_wp2_with (at_builtin; refine Lib.wpList_append_run _ rfl _ _ _ _ rfl _ _ rfl rfl _ _ hrun ?_)
          go_roundw
          case rel => exact ⟨k + 1, by omega, by go_num, hown7, hb7, hwd7, haw7⟩
          case measure => simp [intOf]; omega
      · rw [show str (Pc.word 3) = ⟨#[97, 100, 100, 32]⟩ from rfl] at HXA s1
        have s3 : ¬ (9223372036854775807 < (⟨#[97, 100, 100, 32]⟩ : ByteArray).size + dd.size) := by have : (⟨#[97, 100, 100, 32]⟩ : ByteArray).size = 4 := rfl; omega
        have s4 : ¬ (9223372036854775807 < 4 + dd.size) := by omega
        go_region_law (first
          | (go_simp; go_at_call 66; (with_reducible refine (hdc _).mono ?_); rintro x w4 ⟨rfl, hb4⟩; have hown4 := owns_below hown2.drew hb4; have hb04 := HB2.out.drew.trans (hb4.mono HB2.out.drew.size); have f2 := (hb4.cell (p := ⟨q, 2, none⟩) HL2.out).trans e2; have f0 := (hb4.cell (p := ⟨q, 0, none⟩) HL2.out).trans e0; have fw := (hb4.cell (p := ⟨wb, 3, none⟩) HWB.out).trans m3; have hwd4 : WordsAt w4 wb := (hb4.block _ HWB.out).trans HD2.out; have hlq := Nat.lt_of_lt_of_le HL2.out hb4.size; have hs4 := hb04.size)
          | (refine step_append_lies _ (by rfl) _ _ _ (by rfl) W.heap.size 9 i0 _ 1 16 Tryz.underlying50 hi0 hz0 hz1 hz2 rfl (by omega) u3 pr.length _ (by rfl) (hown4.alloc _) ⟨w4.heap.size, 0, none⟩ 1 1 [_] (by rfl) (by rfl) (World.news_of_block (cs := #[_]) (t := 9) (fr := (0, 0)) (heap_alloc_new w4 _)) (by simp [Value.oneCell']) (by omega) (by unfold maxLen; omega) (by omega) (by simp; omega) (w4.heap.size + 1) (by simp) ?_; intro gg cap w6 hown6 hgrow hat hlt6))
        all_goals
          have hb6 : Below W.heap.size W w6 := grown_own0 (hb04.alloc hb04.size _) hgrow (fun q' hq' => (HROW.out q' hq').1)
          rw [strs_snoc' pr _ hl1 HXA.out] at hown6
          have hq0 : (w4.alloc (.cells #[.string (⟨#[97, 100, 100, 32]⟩ ++ dd)] 9)).cell? ⟨q, 2, none⟩ = some (.slice Ak ls.length ck) := (((Below.refl _ w4).alloc (Nat.le_refl _) _).cell (p := ⟨q, 2, none⟩) hlq).trans f2
          have e6 : w6.cell? ⟨q, 2, none⟩ = some (.slice Ak ls.length ck) := (World.grownBy.cell_far hgrow ⟨q, 2, none⟩ (by simp; omega) (fun e => by have := (HROW.out q e.symm).2; have := HQ.out; omega)).trans hq0
          have hwd6 : WordsAt w6 wb := (hwd4.next ((Below.refl _ _).alloc (Nat.le_refl _) _)).grown hgrow (fun q hq => HAW.out q hq)
          have haw6 : gg ≠ wb := by
            rcases hat with e | e
            · exact HAW.out gg e
            · have := blk_lt hwd4; omega
          have hown6' : w6.ownsRow W.heap.size 9 1 (.slice (some ⟨gg, 0, none⟩) (pr.length + 1) cap) (pr ++ [hl1]).length (strs (pr ++ [hl1])) := by rw [List.length_append, List.length_singleton]; exact hown6
          have hcl : (pr ++ [hl1]).length = pr.length + 1 := by simp
          obtain ⟨v7, w7, hrun, hown7, hgrow7, hat7⟩ := app_strs2 50 w6 W.heap.size _ (pr ++ [hl1]) ls hown6' Ak ck (HCK.out.next hb6) hb6.size (by rw [hcl]; omega)
          have hb7 : Below W.heap.size W w7 := grown_own0 hb6 hgrow7 (fun q' hq' => (hown6'.lt q' hq').1)
          have hwd7 : WordsAt w7 wb := hwd6.grown hgrow7 (fun q hq => by have e := Option.some.inj hq; rw [← e]; exact haw6)
          have haw7 : ∀ q, v7.ownBlock = some q → q ≠ wb := fun q hq => by
            rcases hat7 q hq with e | e
            · have e := Option.some.inj e; rw [← e]; exact haw6
            · have := blk_lt hwd6; omega
          rw [← HSN.out] at hown7
          clear hown6 hown6' hgrow hgrow7 hat hlt6 hq0 hcl f2 f0 fw hlq hb04 hb6 hown4 hs4 hb4 hwd6 haw6 hwd4 hat7
          go_wp2_with (at_builtin; refine Lib.wpList_append_run _ rfl _ _ _ _ rfl _ _ rfl rfl _ _ hrun ?_)
          go_roundw
          case rel => exact ⟨k + 1, by omega, by go_num, hown7, hb7, hwd7, haw7⟩
          case measure => simp [intOf]; omega
    · have b1 : decide ((k : Int) < hs.length) = false := by simp; omega
      have b1n : decide (k < hs.length) = false := by simp; omega
      rw [show hs.take k = hs from List.take_of_length_le (by omega), ← HPL1.out] at hown
      have hbw := HRES.out _ hb
      clear hb
      go_wp2_with fail
      go_ret
      exact ⟨_, rfl, hown.mono HBW.out, hbw⟩
end Go.Proofs.YtlfgnecfabdkmaaGreatDoor
