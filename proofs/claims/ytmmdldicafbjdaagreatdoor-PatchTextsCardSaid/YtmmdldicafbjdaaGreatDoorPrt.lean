/- Print, isValid and Cost of the program. Condition: the digits' table lies. -/
import Derived.Test.YtmmdldicafbjdaaGreatDoorOwn
import Derived.Test.YtmmdldicafbjdaaGreatDoorPlc
namespace Go.Proofs.YtmmdldicafbjdaaGreatDoor
open Go.RowKit Go.Deep Tr

theorem hex_len (b : List UInt8) : (Pc.hex b).length = 64 := by
  rw [hex_def]
  show (Dg.hexS ⟨b.toArray⟩).data.toList.length = 64
  unfold Dg.hexS strOfNums
  simp
theorem baseW_str : (⟨#[98, 97, 115, 101, 32]⟩ : ByteArray) = str Pc.baseW := rfl
theorem headL_def (h : Pc.Hk) : Pc.headL h = Pc.word h.kind ++ Lib.decDigits h.n.toNat := rfl
theorem bodyL_take (hs : List Pc.Hk) (k : Nat) : (Pc.bodyL (hs.take k)).length ≤ (Pc.bodyL hs).length := by
  conv => rhs; rw [← List.take_append_drop k hs, Pc.bodyL_app, List.length_append]
  omega
theorem strs_snoc' (ps : List (List UInt8)) (x : ByteArray) (p : List UInt8) (h : x = str p) : strs ps ++ [Value.string x] = strs (ps ++ [p]) := by rw [h]; exact strs_snoc ps p
theorem bodyL_snoc' (L0 : List (List UInt8)) (hs : List Pc.Hk) (k : Nat) (h : k < hs.length) : L0 ++ Pc.bodyL (hs.take (k + 1)) = ((L0 ++ Pc.bodyL (hs.take k)) ++ [Pc.headL hs[k]]) ++ hs[k].ls := by
  rw [Pc.bodyL_snoc hs k h]; simp
theorem itoa_int (n : Int) (h0 : 0 ≤ n) (h1 : n ≤ 9223372036854775807) (w : World) (hT : Cd.Tabs w) : Calls Tryz.prog 21 #[.int .i64 n] w fun e w' => e = .returned (.string (str (Lib.decDigits n.toNat))) ∧ Below w.heap.size w w' := by
  have h := Cd.itoa_any n.toNat (by omega) w hT
  rwa [show ((n.toNat : Nat) : Int) = n by omega] at h
theorem bodyL_mem : ∀ (hs : List Pc.Hk) (l : List UInt8), l ∈ Pc.bodyL hs → (∃ h ∈ hs, l = Pc.headL h) ∨ (∃ h ∈ hs, l ∈ h.ls)
  | [], l, h => by simp [Pc.bodyL] at h
  | x :: t, l, h => by
    rw [Pc.bodyL] at h
    rcases List.mem_append.1 h with h | h
    · rcases List.mem_cons.1 h with rfl | h
      · exact .inl ⟨x, by simp, rfl⟩
      · exact .inr ⟨x, by simp, h⟩
    · rcases bodyL_mem t l h with ⟨y, hy, e⟩ | ⟨y, hy, e⟩
      · exact .inl ⟨y, by simp [hy], e⟩
      · exact .inr ⟨y, by simp [hy], e⟩
theorem print_bad {p : Pc.Pa} (h : Pc.valid p = false) : Pc.print p = ([], 1) := by rw [print_def, h]; rfl
set_option maxHeartbeats 8000000 in
set_option maxRecDepth 100000 in
theorem print_any (p : Pc.Pa) (A : Option Addr) (c : Nat) (w : World) (hP : PaOk w p A) (hT : Cd.Tabs w) :
    Calls Tryz.prog 6 #[paV p A c] w fun e w' => e = .returned (.tuple #[.string (str (Pc.print p).1), .int .i64 (Pc.print p).2]) ∧ Below w.heap.size w w' := by
  obtain ⟨base, hs⟩ := p
  obtain ⟨hA, hl, hbl, heach⟩ := hP
  dsimp only at hA hl hbl heach
  rw [paV_def]
  dsimp only
  have HV := Lib.hid (valid_def ⟨base, hs⟩)
  have HP := Lib.hid (print_def ⟨base, hs⟩)
  have HPB := Lib.hid (fun h => print_bad (p := ⟨base, hs⟩) h)
  have HPL := Lib.hid (printL_def ⟨base, hs⟩)
  change Hid (Pc.valid ⟨base, hs⟩ = (Pc.shape hs && Pc.baseOk base && decide ((Tre.join (Pc.printL ⟨base, hs⟩)).2 = 0))) at HV
  change Hid (Pc.printL ⟨base, hs⟩ = (if base = [] then [] else [Pc.baseW ++ Pc.hex base]) ++ Pc.bodyL hs) at HPL
  generalize Pc.print ⟨base, hs⟩ = R at *
  generalize Pc.valid ⟨base, hs⟩ = V at *
  generalize Pc.printL ⟨base, hs⟩ = PL at *
  have hb0 : Below w.heap.size w (w.alloc (.cells #[.string (str base), .slice A hs.length c] 24)) := (Below.refl _ _).alloc (Nat.le_refl _) _
  have hN0 := heap_alloc_new w (.cells #[.string (str base), .slice A hs.length c] 24)
  have hbs : w.heap.size < (w.alloc (.cells #[.string (str base), .slice A hs.length c] 24)).heap.size := by simp
  have HW := Lib.hid (show ∀ w', Below (w.alloc (.cells #[.string (str base), .slice A hs.length c] 24)).heap.size (w.alloc (.cells #[.string (str base), .slice A hs.length c] 24)) w' →
      Below w.heap.size w w' ∧ HsAt w' w'.heap.size A hs ∧ Cd.Tabs w' ∧ w'.cell? ⟨w.heap.size, 0, none⟩ = some (.string (str base)) ∧ w'.cell? ⟨w.heap.size, 1, none⟩ = some (.slice A hs.length c) from fun w' h => by
    have hb := hb0.trans (h.mono (Nat.le_of_lt hbs))
    have hN := (h.block w.heap.size hbs).trans hN0
    exact ⟨hb, hA.next hb, hT.below hb, by rw [cell_of_row _ _ _ _ _ _ hN]; rfl, by rw [cell_of_row _ _ _ _ _ _ hN]; rfl⟩)
  have hbb0 := Below.refl (w.alloc (.cells #[.string (str base), .slice A hs.length c] 24)).heap.size (w.alloc (.cells #[.string (str base), .slice A hs.length c] 24))
  have hcs := hasShape_any A c hs _ (HW.out _ hbb0).2.1 hl
  clear hA hT hb0 hN0
  go_enter Tryz.func6, Tryz.ntmps6
  go_wp2_with fail
  generalize w.alloc (.cells #[.string (str base), .slice A hs.length c] 24) = W at *
  have HBB := Lib.hid (show w.heap.size ≤ W.heap.size from Nat.le_of_lt hbs)
  generalize hbb : w.heap.size = b at *
  have HBE := Lib.hid hbb
  clear hbb
  cases hsh : Pc.shape hs with
  | false =>
    rw [hsh] at hcs
    have HT := Lib.hid (HPB.out (by rw [HV.out, hsh]; rfl))
    clear HV HP HPB HPL hsh
    with_reducible refine hcs.mono ?_
    clear hcs
    rintro x w1 ⟨rfl, hb1⟩
    go_wp2_with fail
    go_ret2
    rw [HT.out]
    exact ⟨rfl, by rw [HBE.out]; exact (HW.out _ hb1).1⟩
  | true =>
  rw [hsh] at hcs
  obtain ⟨hs1, hs2, hs3⟩ := Pc.shape_len hsh
  have HV1 := Lib.hid (show V = (Pc.baseOk base && decide ((Tre.join PL).2 = 0)) by rw [HV.out, hsh, Bool.true_and])
  have HS3 := Lib.hid hs3
  clear HV hsh hs3
  with_reducible refine hcs.mono ?_
  clear hcs
  rintro x w1 ⟨rfl, hb1⟩
  obtain ⟨k0, k1⟩ := (HW.out _ hb1).2.2.2
  obtain ⟨L0, hL0⟩ : ∃ L0, L0 = (if base = [] then [] else [Pc.baseW ++ Pc.hex base]) := ⟨_, rfl⟩
  have hL0l : L0.length ≤ 1 := by rw [hL0]; split <;> simp
  have hL0e : ∀ l ∈ L0, l.length ≤ 100 := fun l hl => by
    rw [hL0] at hl
    split at hl
    · simp at hl
    · rw [List.mem_singleton.1 hl, List.length_append, hex_len]; decide
  have HL0 := Lib.hid hL0
  have HPL1 := Lib.hid (show PL = L0 ++ Pc.bodyL hs by rw [HPL.out, hL0])
  have HBO := Lib.hid (show Pc.baseOk base = (decide (base = []) || decide (base.length = 32)) from rfl)
  clear hL0 HPL
  have HL0E := Lib.hid hL0e
  clear hL0e
  go_upto_if 17 with (fail)
  go_cut [4] (fun s4 wx => wx.ownsRow W.heap.size 9 1 s4 L0.length (strs L0) ∧ Below W.heap.size W wx ∧ Pc.baseOk base = true)
  case first =>
    by_cases hbe : base = []
    · have q3 : (!(str base).toList.isEmpty) = false := by rw [str_list, hbe]; rfl
      rw [q3]
      have HE := Lib.hid (show L0 = [] by rw [HL0.out, if_pos hbe])
      have HO := Lib.hid (show Pc.baseOk base = true by rw [HBO.out, hbe]; rfl)
      clear hbe HL0 HBO
      go_wp2_with fail
      go_meet
      exact ⟨by rw [HE.out]; exact World.ownsRow_nil _ _ _ _, hb1, HO.out⟩
    · have q3 : (!(str base).toList.isEmpty) = true := by rw [str_list]; cases hq : base with | nil => exact absurd hq hbe | cons _ _ => rfl
      rw [q3]
      have hcall := hex_any base w1
      by_cases h32 : base.length = 32
      · rw [if_pos h32] at hcall
        have HE := Lib.hid (show L0 = [Pc.baseW ++ Pc.hex base] by rw [HL0.out, if_neg hbe])
        have HO := Lib.hid (show Pc.baseOk base = true by rw [HBO.out, h32]; simp)
        have hxs : (str (Pc.hex base)).size ≤ 64 := by rw [str_size, hex_len]; omega
        have HXA := Lib.hid (show (⟨#[98, 97, 115, 101, 32]⟩ : ByteArray) ++ str (Pc.hex base) = str (Pc.baseW ++ Pc.hex base) by rw [baseW_str, str_app])
        clear hbe h32 HL0 HBO
        generalize Pc.hex base = hx at *
        obtain ⟨i0, hi0, hz0, hz1, hz2⟩ := info_parts infoS
        go_wp2_with fail
        with_reducible refine hcall.mono ?_
        clear hcall k0 k1
        rintro x w2 ⟨rfl, hb2⟩
        have hb02 := hb1.trans (hb2.mono hb1.size)
        have hbw2 : W.heap.size ≤ w2.heap.size := hb02.size
        go_wp2_with (at_builtin; refine wpList_append_lies _ (by rfl) _ _ 45 (by rfl) W.heap.size 9 i0 _ 1 16 Tryz.underlying45 hi0 hz0 hz1 hz2 rfl (by omega) (.slice none 0 0) 0 [] (by rfl) (World.ownsRow_nil _ _ _ _) ⟨w2.heap.size, 0, none⟩ 1 1 [_] (by rfl) (by rfl) (World.news_of_block (cs := #[_]) (t := 9) (fr := (0, 0)) (heap_alloc_new w2 _)) (by simp [Value.oneCell']) (by omega) (by unfold maxLen; omega) (by omega) (by simp; omega) _ rfl ?_; intro gg cap w3 hown3 hgrow hat hlt3)
        rw [HXA.out] at hown3
        have hbx : Below W.heap.size W w3 := (hb02.alloc hb02.size _).grown hgrow (by simp; have := hb02.size; omega) (fun q hq => by cases hq)
        go_meet
        exact ⟨by rw [HE.out]; exact hown3, hbx, HO.out⟩
      · rw [if_neg h32] at hcall
        have HT := Lib.hid (HPB.out (by rw [HV1.out, HBO.out, decide_eq_false hbe, decide_eq_false h32]; rfl))
        clear hbe h32 HL0 HBO HPL1 HP HPB HV1
        go_wp2_with fail
        with_reducible refine hcall.mono ?_
        clear hcall k0 k1
        rintro x w2 ⟨rfl, hb2⟩
        have hb02 := hb1.trans (hb2.mono hb1.size)
        go_wp2_with fail
        go_ret2
        rw [HT.out]
        exact ⟨rfl, by rw [HBE.out]; exact (HW.out _ hb02).1⟩
  case rest =>
  obtain ⟨hown, hbc, hbo⟩ := hcut
  have HV2 := Lib.hid (show V = decide ((Tre.join PL).2 = 0) by rw [HV1.out, hbo, Bool.true_and])
  clear HV1 hbo HL0 HBO k0 k1 hb1
  obtain ⟨k0, k1⟩ := (HW.out _ hbc).2.2.2
  have hbt := fun k => bodyL_take hs k
  have HBT := Lib.hid hbt
  clear hbt
  have hown0 : wc.ownsRow W.heap.size 9 1 u4 (L0 ++ Pc.bodyL (hs.take 0)).length (strs (L0 ++ Pc.bodyL (hs.take 0))) := by rw [List.take_zero, show Pc.bodyL [] = [] from rfl, List.append_nil]; exact hown
  clear hown
  obtain ⟨i0, hi0, hz0, hz1, hz2⟩ := info_parts infoS
  have HAW := Lib.hid (HW.out _ hbb0).2.1
  have HTW := Lib.hid (fun w' h => (HW.out w' h).2.2.1)
  have HRES := Lib.hid (fun w' h => (HW.out w' h).1)
  clear hbb0
  go_wp2_with fail
  go_loopw [4, 34] (fun v i wr => ∃ k : Nat, k ≤ hs.length ∧ i = .int .i64 k ∧ wr.ownsRow W.heap.size 9 1 v (L0 ++ Pc.bodyL (hs.take k)).length (strs (L0 ++ Pc.bodyL (hs.take k))) ∧ Below W.heap.size W wr) (fun _ i _ => hs.length - (intOf i).toNat)
  case atStart => exact ⟨0, by omega, rfl, hown0, hbc⟩
  case round =>
    clear hown0 hbc k0 k1 HW
    obtain ⟨k, hk, rfl, hown, hb⟩ := hrel
    have hpl : (L0 ++ Pc.bodyL (hs.take k)).length ≤ 4097 := by have := HBT.out k; rw [List.length_append]; omega
    by_cases hlt : k < hs.length
    · have b1 : decide ((k : Int) < hs.length) = true := by simp; omega
      have b1n : decide (k < hs.length) = true := by simp; omega
      obtain ⟨g, o, Ak, ck, rfl, hg, h0, h1, h2, hck, h4, h5⟩ := HAW.out k hlt
      have hd0 := (hb.cell (p := ⟨g, o + k * 3, none⟩) hg).trans h0
      have hd1 := (hb.cell (p := ⟨g, o + k * 3 + 1, none⟩) hg).trans h1
      have hd2 := (hb.cell (p := ⟨g, o + k * 3 + 2, none⟩) hg).trans h2
      have hsn := bodyL_snoc' L0 hs k hlt
      have hnx := HBT.out (k + 1)
      obtain ⟨⟨n1, n2⟩, hkd, hll⟩ := Pc.isHunk_num (HS3.out hs[k] (List.getElem_mem hlt))
      have HSN := Lib.hid hsn
      clear h0 h1 h2 hsn hkd
      generalize hs[k] = h at *
      generalize L0 ++ Pc.bodyL (hs.take k) = pr at *
      obtain ⟨kd, n, ls⟩ := h
      dsimp only at *
      have hlsl : ls.length ≤ 1024 := by omega
      have hn0 : 0 ≤ n := by omega
      go_upto_region 12 with (fail)
      have hnew := heap_alloc_new wr (.cells #[.int .i64 kd, .int .i64 n, .slice Ak ls.length ck] 47)
      have e0 : (wr.alloc (.cells #[.int .i64 kd, .int .i64 n, .slice Ak ls.length ck] 47)).cell? ⟨wr.heap.size, 0, none⟩ = some (.int .i64 kd) := by rw [cell_of_row _ _ _ _ _ _ hnew]; rfl
      have e1 : (wr.alloc (.cells #[.int .i64 kd, .int .i64 n, .slice Ak ls.length ck] 47)).cell? ⟨wr.heap.size, 1, none⟩ = some (.int .i64 n) := by rw [cell_of_row _ _ _ _ _ _ hnew]; rfl
      have e2 : (wr.alloc (.cells #[.int .i64 kd, .int .i64 n, .slice Ak ls.length ck] 47)).cell? ⟨wr.heap.size, 2, none⟩ = some (.slice Ak ls.length ck) := by rw [cell_of_row _ _ _ _ _ _ hnew]; rfl
      have hlw : wr.heap.size < (wr.alloc (.cells #[.int .i64 kd, .int .i64 n, .slice Ak ls.length ck] 47)).heap.size := by simp
      have hb2 : Below W.heap.size W (wr.alloc (.cells #[.int .i64 kd, .int .i64 n, .slice Ak ls.length ck] 47)) := hb.alloc hb.size _
      have hown2 := hown.alloc (.cells #[.int .i64 kd, .int .i64 n, .slice Ak ls.length ck] 47)
      have hrow : ∀ q, u4.ownBlock = some q → W.heap.size ≤ q ∧ q < wr.heap.size := fun q hq => hown.lt q hq
      have HROW := Lib.hid hrow
      clear hd0 hd1 hd2 hown hb hnew hrow
      generalize wr.alloc (.cells #[.int .i64 kd, .int .i64 n, .slice Ak ls.length ck] 47) = w2 at *
      generalize hq : wr.heap.size = q at *
      have HQ := Lib.hid hq
      clear hq
      have HL2 := Lib.hid hlw
      have HB2 := Lib.hid hb2
      have hw1 := fun w => wordOf_any kd w
      have hit := fun w' (h : Cd.Tabs w') => itoa_int n hn0 (by omega) w' h
      have hxa : str (Pc.word kd) ++ str (Lib.decDigits n.toNat) = str (Pc.headL ⟨kd, n, ls⟩) := by rw [str_app]; rfl
      have hz5 := word_len kd
      have hz21 : (Lib.decDigits n.toNat).length ≤ 21 := Cd.dec_len n.toNat (by omega)
      have s1 : (str (Pc.word kd)).size ≤ 5 := by rw [str_size]; omega
      have s2 : (str (Lib.decDigits n.toNat)).size ≤ 21 := by rw [str_size]; omega
      have s3 : ¬ (9223372036854775807 < (str (Pc.word kd)).size + (str (Lib.decDigits n.toNat)).size) := by omega
      have HXA := Lib.hid hxa
      clear hz5 hz21 hxa
      generalize Pc.headL ⟨kd, n, ls⟩ = hl1 at *
      generalize str (Pc.word kd) = wd at *
      generalize str (Lib.decDigits n.toNat) = dd at *
      have hsz2 := hb2.size
      go_region_law (first
        | (go_simp; go_at_call 20; (with_reducible refine (hw1 _).mono ?_); rintro x w3 ⟨rfl, rfl⟩)
        | (go_simp; go_at_call 21; (with_reducible refine (hit _ (HTW.out _ HB2.out.drew)).mono ?_); rintro x w4 ⟨rfl, hb4⟩; have hown4 := owns_below hown2.drew hb4; have hb04 := HB2.out.drew.trans (hb4.mono HB2.out.drew.size); have f2 := (hb4.cell (p := ⟨q, 2, none⟩) HL2.out).trans e2; have hlq := Nat.lt_of_lt_of_le HL2.out hb4.size; have hs4 := hb04.size)
        | (refine step_append_lies _ (by rfl) _ _ _ (by rfl) W.heap.size 9 i0 _ 1 16 Tryz.underlying45 hi0 hz0 hz1 hz2 rfl (by omega) u4 pr.length _ (by rfl) (hown4.alloc _) ⟨w4.heap.size, 0, none⟩ 1 1 [_] (by rfl) (by rfl) (World.news_of_block (cs := #[_]) (t := 9) (fr := (0, 0)) (heap_alloc_new w4 _)) (by simp [Value.oneCell']) (by omega) (by unfold maxLen; omega) (by omega) (by simp; omega) (w4.heap.size + 1) (by simp) ?_; intro gg cap w6 hown6 hgrow hat hlt6))
      all_goals
        have hb6 : Below W.heap.size W w6 := grown_own0 (hb04.alloc hb04.size _) hgrow (fun q' hq' => (HROW.out q' hq').1)
        rw [strs_snoc' pr _ hl1 HXA.out] at hown6
        have hq0 : (w4.alloc (.cells #[.string (wd ++ dd)] 9)).cell? ⟨q, 2, none⟩ = some (.slice Ak ls.length ck) := (((Below.refl _ w4).alloc (Nat.le_refl _) _).cell (p := ⟨q, 2, none⟩) hlq).trans f2
        have e6 : w6.cell? ⟨q, 2, none⟩ = some (.slice Ak ls.length ck) := (World.grownBy.cell_far hgrow ⟨q, 2, none⟩ (by simp; omega) (fun e => by have := (HROW.out q e.symm).2; have := HQ.out; omega)).trans hq0
        have hown6' : w6.ownsRow W.heap.size 9 1 (.slice (some ⟨gg, 0, none⟩) (pr.length + 1) cap) (pr ++ [hl1]).length (strs (pr ++ [hl1])) := by rw [List.length_append, List.length_singleton]; exact hown6
        have hcl : (pr ++ [hl1]).length = pr.length + 1 := by simp
        obtain ⟨v7, w7, hrun, hown7, hgrow7⟩ := app_strs 45 w6 W.heap.size _ (pr ++ [hl1]) ls hown6' Ak ck ((hck.next hb6)) hb6.size (by rw [hcl]; omega)
        have hb7 : Below W.heap.size W w7 := grown_own0 hb6 hgrow7 (fun q' hq' => (hown6'.lt q' hq').1)
        rw [← HSN.out] at hown7
        clear hown6 hown6' hgrow hgrow7 hat hlt6 hq0 hcl f2 hlq hb04 hb6 hown4 hs4 hb4
        go_wp2_with (at_builtin; refine Lib.wpList_append_run _ rfl _ _ _ _ rfl _ _ rfl rfl _ _ hrun ?_)
        go_roundw
        case rel => exact ⟨k + 1, by omega, by go_num, hown7, hb7⟩
        case measure => simp [intOf]; omega
    · have b1 : decide ((k : Int) < hs.length) = false := by simp; omega
      have b1n : decide (k < hs.length) = false := by simp; omega
      rw [show hs.take k = hs from List.take_of_length_le (by omega), ← HPL1.out] at hown
      obtain ⟨A4, c4, rfl, hA4⟩ := owns_cells hown
      obtain ⟨hc4, _⟩ := own_capS hown
      have hpl2 : PL.length ≤ 4097 := by rw [HPL1.out, List.length_append]; omega
      have hpe : ∀ l ∈ PL, l.length ≤ 1000000000 := fun l hl => by
        rw [HPL1.out] at hl
        rcases List.mem_append.1 hl with hl | hl
        · have := HL0E.out l hl; omega
        · rcases bodyL_mem hs l hl with ⟨h, hh, rfl⟩ | ⟨h, hh, hl⟩
          · have hn := (Pc.isHunk_num (HS3.out h hh)).1
            have := Cd.dec_len h.n.toNat (by omega)
            have := word_len h.kind
            rw [headL_def, List.length_append]; omega
          · have := heach h hh l hl; omega
      have hcall := join_any A4 c4 PL wr hA4 (by omega) hpe hc4
      have HJ := Lib.hid (joinV_def PL)
      have HJJ := Lib.hid (fun h => (Pc.join_ok (l := PL) h).1)
      clear hpe hown hA4 HL0E HBT
      cases hj : decide ((Tre.join PL).2 = 0) with
      | true =>
        have hj0 := of_decide_eq_true hj
        have HT := Lib.hid (show R = (Tre.joined PL, 0) by rw [HP.out, if_pos (by rw [HV2.out, hj])])
        rw [HJ.out, HJJ.out hj0] at hcall
        dsimp only at hcall
        clear hj hj0 HJ HJJ HP HPB HV2 HPL1
        generalize Tre.joined PL = jp at *
        go_wp2_with fail
        with_reducible refine hcall.mono ?_
        clear hcall
        rintro x w5 ⟨rfl, hb5⟩
        go_wp2_with fail
        go_ret2
        rw [HT.out]
        exact ⟨rfl, by rw [HBE.out]; exact HRES.out _ (hb.trans (hb5.mono hb.size))⟩
      | false =>
        have hj0 := of_decide_eq_false hj
        have HT := Lib.hid (HPB.out (by rw [HV2.out, hj]))
        have n0 : ((Tre.join PL).2 != 0) = true := by rw [bne_iff_ne]; exact hj0
        rw [HJ.out] at hcall
        clear hj hj0 HJ HJJ HP HPB HV2 HPL1
        generalize Tre.join PL = jp at *
        go_wp2_with fail
        with_reducible refine hcall.mono ?_
        clear hcall
        rintro x w5 ⟨rfl, hb5⟩
        go_wp2_with fail
        go_ret2
        rw [HT.out]
        exact ⟨rfl, by rw [HBE.out]; exact HRES.out _ (hb.trans (hb5.mono hb.size))⟩
set_option maxHeartbeats 4000000 in
set_option maxRecDepth 100000 in
theorem isValid_any (p : Pc.Pa) (A : Option Addr) (c : Nat) (w : World) (hP : PaOk w p A) (hT : Cd.Tabs w) :
    Calls Tryz.prog 26 #[paV p A c] w fun e w' => e = .returned (.bool (Pc.valid p)) ∧ Below w.heap.size w w' := by
  have hb0 : Below w.heap.size w (w.alloc (.cells #[.string (str p.base), .slice A p.hs.length c] 24)) := (Below.refl _ _).alloc (Nat.le_refl _) _
  have hcall := print_any p A c _ (hP.next hb0) (hT.below hb0)
  have HPR := Lib.hid (print_def p)
  rw [paV_def] at hcall ⊢
  cases hv : Pc.valid p with
  | true =>
    rw [HPR.out, if_pos hv] at hcall
    clear HPR hv hP hT
    go_enter Tryz.func26, Tryz.ntmps26
    go_wp2_with fail
    with_reducible refine hcall.mono ?_
    clear hcall
    rintro x w1 ⟨rfl, hb1⟩
    go_wp2_with fail
    go_ret
    exact ⟨rfl, hb0.trans (hb1.mono hb0.size)⟩
  | false =>
    rw [HPR.out, if_neg (by rw [hv]; simp)] at hcall
    clear HPR hv hP hT
    go_enter Tryz.func26, Tryz.ntmps26
    go_wp2_with fail
    with_reducible refine hcall.mono ?_
    clear hcall
    rintro x w1 ⟨rfl, hb1⟩
    go_wp2_with fail
    go_ret
    exact ⟨rfl, hb0.trans (hb1.mono hb0.size)⟩
theorem valid_all {p : Pc.Pa} (h : Pc.valid p = true) : p.hs.length ≤ 2048 ∧ (∀ h ∈ p.hs, Pc.isHunk h = true) ∧ (∀ h ∈ p.hs, 0 ≤ h.n ∧ h.n ≤ 1024) ∧ (1 ≤ Pc.cnt 1 p.hs + Pc.cnt 2 p.hs ∧ Pc.cnt 1 p.hs + Pc.cnt 2 p.hs ≤ 1024) ∧ (1 ≤ Pc.cnt 1 p.hs + Pc.cnt 3 p.hs ∧ Pc.cnt 1 p.hs + Pc.cnt 3 p.hs ≤ 1024) ∧ 0 ≤ Pc.cnt 1 p.hs ∧ 0 ≤ Pc.cnt 2 p.hs ∧ 0 ≤ Pc.cnt 3 p.hs := by
  have hsh := (Pc.valid_parts h).1
  obtain ⟨h1, _, h3⟩ := Pc.shape_len hsh
  unfold Pc.shape at hsh
  simp only [Bool.and_eq_true, Pc.isNum_iff] at hsh
  have hn : ∀ x ∈ p.hs, 1 ≤ x.n := fun x hx => (Pc.isHunk_num (h3 x hx)).1.1
  exact ⟨h1, h3, fun x hx => by have := (Pc.isHunk_num (h3 x hx)).1; omega, hsh.1.2, hsh.2, Pc.cnt_nonneg 1 _ hn, Pc.cnt_nonneg 2 _ hn, Pc.cnt_nonneg 3 _ hn⟩
theorem cost_def (p : Pc.Pa) : Pc.cost p = if Pc.valid p = true then (Pc.cnt 2 p.hs + Pc.cnt 3 p.hs, 0) else (0, 1) := rfl
set_option maxHeartbeats 4000000 in
set_option maxRecDepth 100000 in
theorem cost_any (p : Pc.Pa) (A : Option Addr) (c : Nat) (w : World) (hP : PaOk w p A) (hT : Cd.Tabs w) :
    Calls Tryz.prog 8 #[paV p A c] w fun e w' => e = .returned (.tuple #[.int .i64 (Pc.cost p).1, .int .i64 (Pc.cost p).2]) ∧ Below w.heap.size w w' := by
  have hb0 : Below w.heap.size w (w.alloc (.cells #[.string (str p.base), .slice A p.hs.length c] 24)) := (Below.refl _ _).alloc (Nat.le_refl _) _
  have hN0 := heap_alloc_new w (.cells #[.string (str p.base), .slice A p.hs.length c] 24)
  have hbs : w.heap.size < (w.alloc (.cells #[.string (str p.base), .slice A p.hs.length c] 24)).heap.size := by simp
  have hcall := isValid_any p A c _ (hP.next hb0) (hT.below hb0)
  have HAT := Lib.hid (hP.next hb0).at_
  have HCD := Lib.hid (cost_def p)
  have HVA := Lib.hid (fun h => valid_all (p := p) h)
  rw [paV_def] at hcall ⊢
  clear hP hT
  cases hv : Pc.valid p with
  | false =>
    rw [hv] at hcall
    have HT := Lib.hid (HCD.out.trans (if_neg (by rw [hv]; simp)))
    clear HCD hv HVA HAT
    generalize Pc.cost p = R at *
    go_enter Tryz.func8, Tryz.ntmps8
    go_wp2_with fail
    with_reducible refine hcall.mono ?_
    clear hcall
    rintro x w1 ⟨rfl, hb1⟩
    go_wp2_with fail
    go_ret2
    rw [HT.out]
    exact ⟨rfl, hb0.trans (hb1.mono hb0.size)⟩
  | true =>
    rw [hv] at hcall
    have HT := Lib.hid (HCD.out.trans (if_pos hv))
    obtain ⟨v1, v2, v3, v4, v5, v6, v7, v8⟩ := HVA.out hv
    clear HCD hv HVA
    generalize Pc.cost p = R at *
    go_enter Tryz.func8, Tryz.ntmps8
    go_wp2_with fail
    with_reducible refine hcall.mono ?_
    clear hcall
    rintro x w1 ⟨rfl, hb1⟩
    have hN := (hb1.block w.heap.size hbs).trans hN0
    have k1 : w1.cell? ⟨w.heap.size, 1, none⟩ = some (.slice A p.hs.length c) := by rw [cell_of_row _ _ _ _ _ _ hN]; rfl
    have hcc := count_any A c p.hs w1 (HAT.out.next hb1) (by omega) v3
    clear v2 v3 hN HAT
    generalize Pc.cnt 1 p.hs = x1 at *
    generalize Pc.cnt 2 p.hs = x2 at *
    generalize Pc.cnt 3 p.hs = x3 at *
    go_wp2_with fail
    with_reducible refine hcc.mono ?_
    clear hcc
    rintro x w2 ⟨rfl, hb2⟩
    go_wp2_with fail
    go_ret2
    rw [HT.out]
    exact ⟨by first | rfl | go_num, (hb0.trans (hb1.mono hb0.size)).trans (hb2.mono (hb0.trans (hb1.mono hb0.size)).size)⟩
end Go.Proofs.YtmmdldicafbjdaaGreatDoor
