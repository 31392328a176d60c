/- Invert of the reference. No condition but the lengths. -/
import Derived.Test.YtlfgnecfabdkmaaGreatDoorQkf
namespace Go.Proofs.YtlfgnecfabdkmaaGreatDoor
open Go.RowKit Go.Deep Tr

set_option maxHeartbeats 16000000 in
set_option maxRecDepth 100000 in
theorem qInvert_any (p : Pc.Pa) (A : Option Addr) (c : Nat) (s : ByteArray) (w : World) (hP : PaOk w p A) (hs : s.size ≤ 1000000) :
    Calls Tryz.prog 25 #[paV p A c, .string s] w (GotPa w (Pc.invert p s.data.toList)) := by
  obtain ⟨i0, hi0, hz0, hz1, hz2⟩ := info_parts infoA2
  have hb0 : Below w.heap.size w ((w.alloc (.cells #[.string (str p.base), .slice A p.hs.length c] 24)).alloc (.cells #[.string ⟨#[]⟩, .slice none 0 0] 24)) := ((Below.refl _ _).alloc (Nat.le_refl _) _).alloc (by simp) _
  have hN1 := heap_alloc_new w (.cells #[.string (str p.base), .slice A p.hs.length c] 24)
  have hN2 := heap_alloc_new (w.alloc (.cells #[.string (str p.base), .slice A p.hs.length c] 24)) (.cells #[.string ⟨#[]⟩, .slice none 0 0] 24)
  rw [show (w.alloc (.cells #[.string (str p.base), .slice A p.hs.length c] 24)).heap.size = w.heap.size + 1 by simp] at hN2
  have hN3 : ((w.alloc (.cells #[.string (str p.base), .slice A p.hs.length c] 24)).alloc (.cells #[.string ⟨#[]⟩, .slice none 0 0] 24)).heap[w.heap.size]? = some (.cells #[.string (str p.base), .slice A p.hs.length c] 24 (0, 0)) := by rw [blk_alloc_lt _ _ _ (by simp)]; exact hN1
  have hcall := qapply_any p A c s _ (hP.next hb0) hs
  have HW := Lib.hid (show ∀ w', Below ((w.alloc (.cells #[.string (str p.base), .slice A p.hs.length c] 24)).alloc (.cells #[.string ⟨#[]⟩, .slice none 0 0] 24)).heap.size ((w.alloc (.cells #[.string (str p.base), .slice A p.hs.length c] 24)).alloc (.cells #[.string ⟨#[]⟩, .slice none 0 0] 24)) w' →
      Below w.heap.size w w' ∧ PaOk w' p A ∧ Bp w' w.heap.size p A c ∧ w'.heap[w.heap.size + 1]? = some (.cells #[.string ⟨#[]⟩, .slice none 0 0] 24 (0, 0)) from fun w' h => by
    have hb := hb0.trans (h.mono hb0.size)
    have hN := (h.block w.heap.size (by simp; omega)).trans hN3
    exact ⟨hb, hP.next hb, hN, (h.block _ (by simp)).trans hN2⟩)
  have HD := Lib.hid (invert_def p s.data.toList)
  rw [paV_def] at hcall ⊢
  clear hP hb0 hN1 hN2 hN3
  generalize Pc.invert p s.data.toList = R at *
  go_enter Tryz.func25, Tryz.ntmps25
  go_wp2_with fail
  generalize (w.alloc (.cells #[.string (str p.base), .slice A p.hs.length c] 24)).alloc (.cells #[.string ⟨#[]⟩, .slice none 0 0] 24) = W at *
  with_reducible refine hcall.mono ?_
  clear hcall
  rintro x w1 ⟨v1, v2, rfl, hb1, hor⟩
  obtain ⟨hbw1, hP1, bx1, kr⟩ := HW.out _ hb1
  by_cases he : (Pc.apply p s.data.toList).2 ≠ 0
  · have HT := Lib.hid (HD.out.trans (if_pos he))
    have n0 : ((Pc.apply p s.data.toList).2 != 0) = true := by rw [bne_iff_ne]; exact he
    obtain ⟨q1, q2, r0, r1, f0, f1⟩ := fin_patch (.string ⟨#[]⟩) (.slice none 0 0) (Nat.le_succ _) kr hbw1 (hsT_nil w1 none)
    have Q1 := Lib.hid q1
    have Q2 := Lib.hid q2
    clear HD he q1 q2 kr hb1 hor hbw1 hP1 bx1
    generalize (Pc.apply p s.data.toList).2 = a2 at *
    go_wp2_with fail
    exact bodyPost_ret (v := .tuple #[.agg #[.string ⟨#[]⟩, .slice none 0 0], .int .i64 a2]) (by simp [results, Tryz.results25, go_sem, r0, r1]) rfl ⟨none, 0, by rw [HT.out]; rfl, by rw [HT.out]; exact Q1.out, Q2.out⟩
  · rcases hor with h | ⟨rs, a, b, A1, A2, c1, c2, h0, L, rfl, rfl, hA1, hA2, y1, y2, y3, y4⟩
    · exact absurd h he
    have HT := Lib.hid (HD.out.trans (if_neg he))
    rw [h0]
    have HLO := Lib.hid L
    have hll := pls_len L
    have hdl := text_len L.now
    have HKK := Lib.hid (show Pc.invK (Pc.placesOf p) 0 = [] ++ Pc.invK ((Pc.placesOf p).drop 0) 0 from rfl)
    have HMT := Lib.hid (show Pc.Mat b a 0 0 (Pc.invK (Pc.placesOf p) 0) by
      unfold Pc.placesOf
      rw [Pc.inv_places p.hs 0 _ 0 L.all]
      exact Pc.mat_swap L.mat)
    have hkl : (Pc.invK (Pc.placesOf p) 0).length ≤ 1024 := by
      rw [Pc.invK_len]
      have := List.countP_le_length (p := fun x : Pc.Pl => decide (0 ≤ x.old)) (l := Pc.placesOf p)
      omega
    have HT2 := Lib.hid (show R = Pc.keeping (if p.base = [] then [] else Pc.dig rs) b a (Pc.invK (Pc.placesOf p) 0) by
      have h := HT.out
      rw [h0] at h
      dsimp only at h
      rw [L.now, L.old] at h
      exact h)
    have la1 := (Pc.lines_ok L.old).2.1
    have la2 := (Pc.lines_ok L.old).2.2.1
    have lb1 := (Pc.lines_ok L.now).2.1
    have lb2 := (Pc.lines_ok L.now).2.2.1
    have lbj := (Pc.lines_ok L.now).2.2.2.2.1
    have HLBJ := Lib.hid lbj
    have HLAE := Lib.hid (show ∀ l ∈ a, l.length ≤ 1000000 from fun l hl => by
      rcases lines_cases s.data.toList with ⟨he, _⟩ | ⟨l', e1, _, _, e4⟩
      · rw [L.old] at he; exact absurd rfl he
      · rw [L.old] at e1
        injection e1 with e1
        subst e1
        have := e4 l hl
        rw [size_data] at this
        omega)
    have HLBE := Lib.hid (show ∀ l ∈ b, l.length ≤ 1000000000 from fun l hl => by
      rcases lines_cases rs with ⟨he, _⟩ | ⟨l', e1, _, _, e4⟩
      · rw [L.now] at he; exact absurd rfl he
      · rw [L.now] at e1
        injection e1 with e1
        subst e1
        have := e4 l hl
        omega)
    have ct := qTrace_any p A c (a.length : Int) w1 hP1
    have HTR := Lib.hid (show Pc.trace p (a.length : Int) = (Pc.placesOf p, 0) by
      obtain ⟨z1, z2⟩ := Pc.apply_base h0 L.old
      rw [trace_def, if_neg (by rw [L.valid]; simp), if_neg (fun h => h z1)])
    rw [paV_def, HTR.out] at ct
    obtain ⟨k0, k1⟩ := bx1.cells
    have HA1 := Lib.hid hA1
    have HA2 := Lib.hid hA2
    have HB1 := Lib.hid hb1
    clear HD he HT L HTR hP1 bx1 hA1 hA2 hb1 hbw1 kr lbj h0
    generalize Pc.invK (Pc.placesOf p) 0 = KK at *
    generalize Pc.placesOf p = PL at *
    go_wp2_with fail
    with_reducible refine ct.mono ?_
    clear ct k0 k1
    rintro x w2 ⟨vp, rfl, hop, hb2⟩
    have hb02 := HB1.out.trans (hb2.mono HB1.out.size)
    dsimp only at hop ⊢
    obtain ⟨Ap, cp, rfl, hPL2⟩ := owns_pls hop
    have HA1b := Lib.hid (HA1.out.next hb2)
    have HA2b := Lib.hid (HA2.out.next hb2)
    have hbb := Below.refl w2.heap.size w2
    clear hop hb2 HA1 HA2 HB1
    go_wp2_with fail
    go_loopw [11, 38] (fun s8 s25 wr => ∃ (k : Nat) (os : List (Nat × Nat)), k ≤ PL.length ∧ s25 = .int .i64 k ∧ os.length ≤ k ∧ wr.ownsRow w2.heap.size 79 2 s8 os.length (prsV os) ∧ KK = os ++ Pc.invK (PL.drop k) k ∧ Below w2.heap.size w2 wr) (fun _ s25 _ => PL.length - (intOf s25).toNat)
    case atStart => exact ⟨0, [], by omega, rfl, by simp, World.ownsRow_nil _ _ _ _, HKK.out, hbb⟩
    case round =>
      clear HKK hbb
      obtain ⟨k, os, hk, rfl, hol, hown, hKK, hb⟩ := hrel
      have HK1 := Lib.hid hKK
      clear hKK
      by_cases hlt : k < PL.length
      · have b1 : decide ((k : Int) < PL.length) = true := by simp; omega
        have b1n : decide (k < PL.length) = true := by simp; omega
        obtain ⟨g, o, rfl, hg, h0, h1⟩ := hPL2 k hlt
        have d0 := (hb.cell (p := ⟨g, o + k * 2, none⟩) hg).trans h0
        have d1 := (hb.cell (p := ⟨g, o + k * 2 + 1, none⟩) hg).trans h1
        have HST := Lib.hid (HK1.out.trans (by rw [invK_step PL k hlt]))
        clear h0 h1 HK1
        generalize PL[k] = pl at *
        obtain ⟨po, pn⟩ := pl
        dsimp only at *
        have hown1 := hown.alloc (.cells #[.int .i64 po, .int .i64 pn] 44)
        have hbw : Below w2.heap.size w2 (wr.alloc (.cells #[.int .i64 po, .int .i64 pn] 44)) := hb.alloc hb.size _
        have hnew := heap_alloc_new wr (.cells #[.int .i64 po, .int .i64 pn] 44)
        by_cases hpo : 0 ≤ po
        · obtain ⟨m, rfl⟩ : ∃ m : Nat, po = m := ⟨po.toNat, by omega⟩
          have b2 : decide ((0 : Int) ≤ (m : Int)) = true := by simp
          have HS2 := Lib.hid (show KK = (os ++ [(k, m)]) ++ Pc.invK (PL.drop (k + 1)) (k + 1) by
            have h := HST.out
            rw [if_pos hpo, ← List.append_assoc] at h
            exact h)
          clear HST hpo hown hb
          have hrow := hown1.lt
          go_upto_region 9 with (fail)
          have e0 : (wr.alloc (.cells #[.int .i64 (m : Int), .int .i64 pn] 44)).cell? ⟨wr.heap.size, 0, none⟩ = some (.int .i64 (m : Int)) := by rw [cell_of_row _ _ _ _ _ _ hnew]; rfl
          generalize wr.alloc (.cells #[.int .i64 (m : Int), .int .i64 pn] 44) = w3 at *
          clear d0 d1 hnew
          go_wp2_with (at_builtin; refine wpList_append_lies _ (by rfl) _ _ 78 (by rfl) w2.heap.size 79 i0 _ 2 16 Tryz.underlying78 hi0 hz0 hz1 hz2 rfl (by omega) u11 os.length _ (by rfl) (hown1.alloc _) ⟨w3.heap.size, 0, none⟩ 1 1 [_, _] (by rfl) (by rfl) (World.news_of_block (cs := #[_, _]) (t := 79) (fr := (0, 0)) (heap_alloc_new w3 _)) (by simp [Value.oneCell']) (by omega) (by unfold maxLen; omega) (by omega) (by have := hbw.size; simp; omega) (w3.heap.size + 1) (by simp) ?_; intro gg cap w6 hown6 hgrow hat hlt6)
          rw [prsV_snoc] at hown6
          have hown7 : w6.ownsRow w2.heap.size 79 2 (.slice (some ⟨gg, 0, none⟩) (os.length + 1) cap) (os ++ [(k, m)]).length (prsV (os ++ [(k, m)])) := by rw [List.length_append, List.length_singleton]; exact hown6
          have hb6 : Below w2.heap.size w2 w6 := grown_own0 (hbw.alloc hbw.size _) hgrow (fun q' hq' => (hrow q' hq').1)
          clear hown6 hgrow hat hlt6 hown1 hbw hrow
          go_roundw
          case rel => exact ⟨k + 1, os ++ [(k, m)], by omega, by go_num, by simp; omega, hown7, HS2.out, hb6⟩
          case measure => first | (simp [intOf]; done) | (simp [intOf]; omega)
        · have b2 : decide ((0 : Int) ≤ po) = false := decide_eq_false hpo
          have HS2 := Lib.hid (show KK = os ++ Pc.invK (PL.drop (k + 1)) (k + 1) by
            have h := HST.out
            rw [if_neg hpo, List.nil_append] at h
            exact h)
          clear HST hpo hown hb hnew
          go_wp2_with fail
          go_roundw
          case rel => exact ⟨k + 1, os, by omega, by go_num, by omega, hown1, HS2.out, hbw⟩
          case measure => first | (simp [intOf]; done) | (simp [intOf]; omega)
      · have b1 : decide ((k : Int) < PL.length) = false := by simp; omega
        have b1n : decide (k < PL.length) = false := by simp; omega
        have hke : os = KK := by rw [HK1.out, List.drop_of_length_le (by omega)]; simp [Pc.invK]
        subst hke
        obtain ⟨A4, c4, rfl, hK4⟩ := owns_prs2 hown
        have hb0r := hb02.trans (hb.mono hb02.size)
        have HB0 := Lib.hid hb0r
        have HA1c := Lib.hid (HA1b.out.next hb)
        have HA2c := Lib.hid (HA2b.out.next hb)
        have HK4 := Lib.hid hK4
        obtain ⟨k0, k1⟩ := (HW.out _ hb0r).2.2.1.cells
        clear HK1 hown hb hb02 hPL2 hK4 hb0r HA1b HA2b
        go_upto_if 56 with (fail)
        go_cut [14] (fun s14 wx => s14 = .string (str (if p.base = [] then [] else Pc.dig rs)) ∧ Below wr.heap.size wr wx)
        case first =>
          by_cases hbe : p.base = []
          · have q3 : (!(str p.base).toList.isEmpty) = false := by rw [str_list, hbe]; rfl
            rw [q3]
            have HE := Lib.hid hbe
            clear hbe
            go_wp2_with fail
            go_meet
            exact ⟨by rw [if_pos HE.out]; rfl, Below.refl _ _⟩
          · have q3 : (!(str p.base).toList.isEmpty) = true := by rw [str_list]; cases hq : p.base with | nil => exact absurd hq hbe | cons _ _ => rfl
            rw [q3]
            have HE := Lib.hid hbe
            have cj := qJoin_any A1 c1 b wr HA1c.out (by omega) HLBE.out y1
            rw [joinV_def, HLBJ.out] at cj
            dsimp only at cj
            clear hbe k0 k1
            go_wp2_with fail
            with_reducible refine cj.mono ?_
            clear cj
            rintro x w5 ⟨rfl, hb5⟩
            have hsm : Calls Tryz.prog 56 #[.string (str rs)] w5 fun e w' => e = .returned (.string (Dg.digS (str rs))) ∧ Below w5.heap.size w5 w' := Dg.refSum_any (str rs) w5 (by rw [str_size]; omega)
            rw [digS_str] at hsm
            go_wp2_with fail
            with_reducible refine hsm.mono ?_
            clear hsm
            rintro x w6 ⟨rfl, hb6⟩
            have hbx := hb5.trans (hb6.mono hb5.size)
            clear hb5 hb6
            go_wp2_with fail
            go_meet
            exact ⟨by rw [if_neg HE.out]; rfl, hbx⟩
        case rest =>
        obtain ⟨rfl, hbx⟩ := hcut
        have HBS := Lib.hid (show (if p.base = [] then [] else Pc.dig rs).length ≤ 32 by
          split
          · simp
          · exact Nat.le_of_eq (dig_len _))
        have hb0c := HB0.out.trans (hbx.mono HB0.out.size)
        obtain ⟨hf1, hf2⟩ := keep_facts lb1 lb2 la1 la2 HMT.out
        have co := qOf_any (if p.base = [] then [] else Pc.dig rs) b a os A4 A2 c4 c2 wc (HK4.out.next hbx) (HA2c.out.next hbx) HMT.out lb2 la2 hkl y3 y4
        have HF2 := Lib.hid hf2
        have HB0C := Lib.hid hb0c
        clear k0 k1 hbx hf2 hb0c HK4 HA1c HA2c HB0
        generalize (if p.base = [] then [] else Pc.dig rs) = bs at *
        have HT3 := Lib.hid (HT2.out.trans (keeping_def bs b a os))
        clear HT2 HMT
        generalize Pc.keepHs [] b a 0 0 os = hs2 at *
        go_wp2_with fail
        with_reducible refine co.mono ?_
        clear co
        rintro x w7 ⟨A7, c7, rfl, hH7, hb7⟩
        rw [paV_def]
        dsimp only
        have hb07 := HB0C.out.trans (hb7.mono HB0C.out.size)
        have hy : Below w7.heap.size w7 (w7.alloc (.cells #[.string (str bs), .slice A7 hs2.length c7] 24)) := (Below.refl _ _).alloc (Nat.le_refl _) _
        have hB8 := hb07.trans (hy.mono hb07.size)
        have bq : Bp (w7.alloc (.cells #[.string (str bs), .slice A7 hs2.length c7] 24)) w7.heap.size ⟨bs, hs2⟩ A7 c7 := heap_alloc_new w7 _
        have hH8 := hH7.next hy
        have cv := qValid_any ⟨bs, hs2⟩ A7 c7 (w7.alloc (.cells #[.string (str bs), .slice A7 hs2.length c7] 24)) ⟨hH8.at_, by show hs2.length ≤ _; omega, by show bs.length ≤ _; have := HBS.out; omega, fun h hh l hl => HLAE.out l (HF2.out h hh l hl)⟩
        rw [paV_def] at cv
        dsimp only at cv
        obtain ⟨m0, m1⟩ := bq.cells
        clear hb7 hb07 hy hH7
        go_wp2_with fail
        generalize w7.alloc (.cells #[.string (str bs), .slice A7 hs2.length c7] 24) = w8 at *
        generalize w7.heap.size = q8 at *
        with_reducible refine cv.mono ?_
        clear cv m0 m1
        rintro x w9 ⟨rfl, hb9⟩
        have hB9 := hB8.trans (hb9.mono hB8.size)
        have hH9 := hH8.next hb9
        obtain ⟨m0, m1⟩ := (bq.next hb9).cells
        dsimp only at m0 m1
        obtain ⟨hbw9, _, _, kr9⟩ := HW.out _ hB9
        by_cases hva : Pc.valid ⟨bs, hs2⟩ = true
        · have HE := Lib.hid (HT3.out.trans (if_pos hva))
          rw [hva]
          obtain ⟨z1, z2, r0, r1, f0, f1⟩ := fin_patch (.string (str bs)) (.slice A7 hs2.length c7) (Nat.le_succ _) kr9 hbw9 hH9
          have Q1 := Lib.hid z1
          have Q2 := Lib.hid z2
          clear z1 z2 kr9 hbw9 hH9 hva hB9 hB8 hH8 bq hb9 HT3
          go_wp2_with fail
          exact bodyPost_ret (v := .tuple #[.agg #[.string (str bs), .slice A7 hs2.length c7], .int .i64 0]) (by simp [results, Tryz.results25, go_sem, r0, r1]) rfl ⟨A7, c7, by rw [HE.out]; rfl, by rw [HE.out]; exact Q1.out, Q2.out⟩
        · have HE := Lib.hid (HT3.out.trans (if_neg hva))
          have hvf : Pc.valid ⟨bs, hs2⟩ = false := by simpa using hva
          rw [hvf]
          obtain ⟨z1, z2, r0, r1, f0, f1⟩ := fin_patch (.string ⟨#[]⟩) (.slice none 0 0) (Nat.le_succ _) kr9 hbw9 (hsT_nil w9 none)
          have Q1 := Lib.hid z1
          have Q2 := Lib.hid z2
          clear z1 z2 kr9 hbw9 hH9 hva hvf hB9 hB8 hH8 bq hb9 HT3
          go_wp2_with fail
          exact bodyPost_ret (v := .tuple #[.agg #[.string ⟨#[]⟩, .slice none 0 0], .int .i64 10]) (by simp [results, Tryz.results25, go_sem, r0, r1]) rfl ⟨none, 0, by rw [HE.out]; rfl, by rw [HE.out]; exact Q1.out, Q2.out⟩
end Go.Proofs.YtlfgnecfabdkmaaGreatDoor
