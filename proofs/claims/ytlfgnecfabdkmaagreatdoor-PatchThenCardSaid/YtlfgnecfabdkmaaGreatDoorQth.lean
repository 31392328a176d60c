/- Then of the reference. No condition but the lengths. -/
import Derived.Test.YtlfgnecfabdkmaaGreatDoorQkf
import Derived.Test.YtlfgnecfabdkmaaGreatDoorThn
namespace Go.Proofs.YtlfgnecfabdkmaaGreatDoor
open Go.RowKit Go.Deep Tr

set_option maxHeartbeats 16000000 in
set_option maxRecDepth 100000 in
theorem qThen_any (p q : Pc.Pa) (A A' : Option Addr) (c c' : Nat) (s : ByteArray) (w : World) (hP : PaOk w p A) (hQ : PaOk w q A') (hs : s.size ≤ 1000000) :
    Calls Tryz.prog 30 #[paV p A c, paV q A' c', .string s] w (GotPa w (Pc.thenP p q s.data.toList)) := by
  obtain ⟨i0, hi0, hz0, hz1, hz2⟩ := info_parts infoA2
  rw [paV_def, paV_def]
  obtain ⟨W, hW, hb0, n1, n2, n3⟩ : ∃ W, W = ((w.alloc (.cells #[.string (str p.base), .slice A p.hs.length c] 24)).alloc (.cells #[.string (str q.base), .slice A' q.hs.length c'] 24)).alloc (.cells #[.string ⟨#[]⟩, .slice none 0 0] 24) ∧ Below w.heap.size w W ∧ Bp W w.heap.size p A c ∧ Bp W (w.heap.size + 1) q A' c' ∧ W.heap[w.heap.size + 2]? = some (.cells #[.string ⟨#[]⟩, .slice none 0 0] 24 (0, 0)) := by
    refine ⟨_, rfl, (((Below.refl _ _).alloc (Nat.le_refl _) _).alloc (by simp) _).alloc (by simp; omega) _, ?_, ?_, ?_⟩
    · unfold Bp
      rw [blk_alloc_lt _ _ _ (by simp; omega), blk_alloc_lt _ _ _ (by simp)]
      exact heap_alloc_new w _
    · unfold Bp
      rw [blk_alloc_lt _ _ _ (by simp)]
      have := heap_alloc_new (w.alloc (.cells #[.string (str p.base), .slice A p.hs.length c] 24)) (.cells #[.string (str q.base), .slice A' q.hs.length c'] 24)
      rwa [show (w.alloc (.cells #[.string (str p.base), .slice A p.hs.length c] 24)).heap.size = w.heap.size + 1 by simp] at this
    · have := heap_alloc_new ((w.alloc (.cells #[.string (str p.base), .slice A p.hs.length c] 24)).alloc (.cells #[.string (str q.base), .slice A' q.hs.length c'] 24)) (.cells #[.string ⟨#[]⟩, .slice none 0 0] 24)
      rwa [show ((w.alloc (.cells #[.string (str p.base), .slice A p.hs.length c] 24)).alloc (.cells #[.string (str q.base), .slice A' q.hs.length c'] 24)).heap.size = w.heap.size + 2 by simp] at this
  have HW := Lib.hid (show ∀ w', Below W.heap.size W w' → Below w.heap.size w w' ∧ PaOk w' p A ∧ PaOk w' q A' ∧ Bp w' w.heap.size p A c ∧ Bp w' (w.heap.size + 1) q A' c' ∧ w'.heap[w.heap.size + 2]? = some (.cells #[.string ⟨#[]⟩, .slice none 0 0] 24 (0, 0)) from fun w' h => by
    have hb := hb0.trans (h.mono hb0.size)
    exact ⟨hb, hP.next hb, hQ.next hb, n1.next h, n2.next h, (h.block _ (blk_lt n3)).trans n3⟩)
  have HD := Lib.hid (then_def p q s.data.toList)
  have HLP := Lib.hid (fun m h => Pc.led_of (p := p) (data := s.data.toList) (s := m) h)
  generalize Pc.thenP p q s.data.toList = R at *
  have HPB := Lib.hid hP.base
  clear hP hQ hb0 n1 n2 n3
  obtain ⟨_, hP0, _⟩ := HW.out W (Below.refl _ _)
  have c1 := qApply_any p A c s W hP0 hs
  rw [apV_def, paV_def] at c1
  clear hP0
  go_enter Tryz.func30, Tryz.ntmps30
  go_wp2_with fail
  rw [← hW]
  with_reducible refine c1.mono ?_
  clear c1 hW
  rintro x w1 ⟨rfl, hb1⟩
  obtain ⟨hbw1, hP1, hQ1, bp1, bq1, kr1⟩ := HW.out _ hb1
  obtain ⟨k0, k1⟩ := bq1.cells
  by_cases he : (Pc.apply p s.data.toList).2 ≠ 0
  · have HT := Lib.hid (HD.out.trans (if_pos he))
    have n0 : ((Pc.apply p s.data.toList).2 != 0) = true := by rw [bne_iff_ne]; exact he
    obtain ⟨q1, q2, r0, r1, f0, f1⟩ := fin_patch (.string ⟨#[]⟩) (.slice none 0 0) (by omega) kr1 hbw1 (hsT_nil w1 none)
    have Q1 := Lib.hid q1
    have Q2 := Lib.hid q2
    clear HD HLP he q1 q2 kr1 hb1 hbw1 hP1 hQ1 bp1 bq1 k0 k1
    generalize (Pc.apply p s.data.toList).1 = a1 at *
    generalize (Pc.apply p s.data.toList).2 = a2 at *
    go_wp2_with fail
    exact bodyPost_ret (v := .tuple #[.agg #[.string ⟨#[]⟩, .slice none 0 0], .int .i64 a2]) (by simp [results, Tryz.results30, go_sem, r0, r1]) rfl ⟨none, 0, by rw [HT.out]; rfl, by rw [HT.out]; exact Q1.out, Q2.out⟩
  · obtain ⟨m, hm⟩ : ∃ m, Pc.apply p s.data.toList = (m, 0) := ⟨(Pc.apply p s.data.toList).1, Prod.ext rfl (by simpa using he)⟩
    obtain ⟨a, b, L⟩ := HLP.out m hm
    have HD1 := Lib.hid (show R = if (Pc.apply q m).2 ≠ 0 then (⟨[], []⟩, (Pc.apply q m).2) else Pc.keeping p.base (Tre.lines s.data.toList).1 (Tre.lines (Pc.apply q m).1).1 (Pc.thenK (Pc.placesOf p) (Pc.placesOf q) 0) by
      have h := HD.out.trans (if_neg he)
      rwa [hm] at h)
    have htl := text_len L.now
    have hms := str_size m
    have HL := Lib.hid L
    have HHM := Lib.hid hm
    rw [hm]
    have c2 := qapply_any q A' c' (str m) w1 hQ1 (by omega)
    rw [str_data, paV_def] at c2
    clear HD he hm HLP hP1 hQ1 bp1 bq1 kr1 L
    go_wp2_with fail
    with_reducible refine c2.mono ?_
    clear c2 k0 k1
    rintro x w2 ⟨v1, v2, rfl, hb2, hor⟩
    have hb02 := hb1.trans (hb2.mono hb1.size)
    obtain ⟨hbw2, hP2, hQ2, bp2, bq2, kr2⟩ := HW.out _ hb02
    clear hb1 hb2 hbw1
    by_cases he : (Pc.apply q m).2 ≠ 0
    · have HT := Lib.hid (HD1.out.trans (if_pos he))
      have n0 : ((Pc.apply q m).2 != 0) = true := by rw [bne_iff_ne]; exact he
      obtain ⟨q1, q2, r0, r1, f0, f1⟩ := fin_patch (.string ⟨#[]⟩) (.slice none 0 0) (by omega) kr2 hbw2 (hsT_nil w2 none)
      have Q1 := Lib.hid q1
      have Q2 := Lib.hid q2
      clear HD1 he q1 q2 kr2 hb02 hbw2 hP2 hQ2 bp2 bq2 HL HHM hor
      generalize (Pc.apply q m).2 = a2 at *
      go_wp2_with fail
      exact bodyPost_ret (v := .tuple #[.agg #[.string ⟨#[]⟩, .slice none 0 0], .int .i64 a2]) (by simp [results, Tryz.results30, go_sem, r0, r1]) rfl ⟨none, 0, by rw [HT.out]; rfl, by rw [HT.out]; exact Q1.out, Q2.out⟩
    · rcases hor with h | ⟨t, b', cc, A1, A2, c1, c2, ht, M, rfl, rfl, hA1, hA2, y1, y2, y3, y4⟩
      · exact absurd h he
      obtain rfl : b' = b := by
        have h1 := M.old
        rw [HL.out.now] at h1
        exact (Prod.mk.inj h1).1.symm
      have HT2 := Lib.hid (show R = Pc.keeping p.base a cc (Pc.thenK (Pc.placesOf p) (Pc.placesOf q) 0) by
        have h := HD1.out.trans (if_neg he)
        rw [ht] at h
        dsimp only at h
        rwa [HL.out.old, M.now] at h)
      have HTQ := Lib.hid (show Pc.trace q (b'.length : Int) = (Pc.placesOf q, 0) by
        obtain ⟨z1, z2⟩ := Pc.apply_base ht M.old
        rw [trace_def, if_neg (by rw [M.valid]; simp), if_neg (fun h => h z1)])
      have HTP := Lib.hid (show Pc.trace p (a.length : Int) = (Pc.placesOf p, 0) by
        obtain ⟨z1, z2⟩ := Pc.apply_base HHM.out HL.out.old
        rw [trace_def, if_neg (by rw [HL.out.valid]; simp), if_neg (fun h => h z1)])
      rw [ht]
      clear HD1 he ht
      have HM := Lib.hid M
      have hpq := pls_len HL.out
      have hqq := pls_len M
      have HMT := Lib.hid (show Pc.Mat a cc 0 0 (Pc.thenK (Pc.placesOf p) (Pc.placesOf q) 0) by
        have h := Pc.then_mat HL.out M
        rw [← Pc.then_places (Pc.placesOf p) q.hs 0 (if q.base = [] then 0 else 1) 0 M.all] at h
        exact h)
      have hkl : (Pc.thenK (Pc.placesOf p) (Pc.placesOf q) 0).length ≤ 1024 := by
        have e : Pc.thenK (Pc.placesOf p) (Pc.placesOf q) 0 = (Pc.prs q.hs 0 0).filterMap (Pc.thr (Pc.placesOf p)) := Pc.then_places (Pc.placesOf p) q.hs 0 (if q.base = [] then 0 else 1) 0 M.all
        rw [e]
        have h1 := List.length_filterMap_le (Pc.thr (Pc.placesOf p)) (Pc.prs q.hs 0 0)
        have h2 : (Pc.prs q.hs 0 0).length = (Pc.placesOf q).countP fun x => decide (0 ≤ x.old) := by
          rw [← Pc.invK_len (Pc.placesOf q) 0]
          unfold Pc.placesOf
          rw [Pc.inv_places q.hs 0 _ 0 M.all, List.length_map]
        have h3 := List.countP_le_length (p := fun x : Pc.Pl => decide (0 ≤ x.old)) (l := Pc.placesOf q)
        omega
      have HBD := Lib.hid (show ∀ x ∈ Pc.placesOf q, 0 ≤ x.old → x.old < (Pc.placesOf p).length from fun x hx h0 => by
        have h := said_lt M hx h0
        rw [HL.out.says.len]
        exact h)
      have la1 := (Pc.lines_ok HL.out.old).2.1
      have la2 := (Pc.lines_ok HL.out.old).2.2.1
      have lc1 := (Pc.lines_ok M.now).2.1
      have lc2 := (Pc.lines_ok M.now).2.2.1
      have hdt := text_len M.now
      have HLAE := Lib.hid (show ∀ l ∈ cc, l.length ≤ 1000000 from fun l hl => by
        rcases lines_cases t with ⟨he, _⟩ | ⟨l', e1, _, _, e4⟩
        · rw [M.now] at he; exact absurd rfl he
        · rw [M.now] at e1
          injection e1 with e1
          subst e1
          have := e4 l hl
          omega)
      have HA1 := Lib.hid hA1
      have HB2 := Lib.hid hb02
      have cl := qLines_any s w2 (by omega)
      have HLO := Lib.hid HL.out.old
      obtain ⟨k0, k1⟩ := bp2.cells
      have hpb := hP2.base
      have HKK := Lib.hid (show Pc.thenK (Pc.placesOf p) (Pc.placesOf q) 0 = [] ++ Pc.thenK (Pc.placesOf p) ((Pc.placesOf q).drop 0) 0 from rfl)
      generalize Pc.thenK (Pc.placesOf p) (Pc.placesOf q) 0 = KK at *
      clear hbw2 hP2 hQ2 bp2 bq2 kr2 hA1 hA2 hb02 M HL k0 k1 HHM HM
      go_wp2_with fail
      with_reducible refine cl.mono ?_
      clear cl
      rintro x w3 ⟨v3, rfl, ho3, hb3⟩
      rw [HLO.out] at ho3 ⊢
      dsimp only at ho3 ⊢
      obtain ⟨Ax, cx, rfl, _⟩ := owns_cells ho3
      have HB3 := Lib.hid (HB2.out.trans (hb3.mono HB2.out.size))
      have HA1b := Lib.hid (HA1.out.next hb3)
      obtain ⟨_, hP3, _, bp3, _⟩ := HW.out _ HB3.out
      have ct := qTrace_any p A c (a.length : Int) w3 hP3
      rw [paV_def, HTP.out] at ct
      obtain ⟨k0, k1⟩ := bp3.cells
      clear ho3 hb3 hP3 bp3 HB2 HA1
      go_wp2_with fail
      with_reducible refine ct.mono ?_
      clear ct k0 k1
      rintro x w4 ⟨vp, rfl, hop, hb4⟩
      dsimp only at hop ⊢
      have HB4 := Lib.hid (HB3.out.trans (hb4.mono HB3.out.size))
      have HA1c := Lib.hid (HA1b.out.next hb4)
      obtain ⟨Ap, cp, rfl, hPLp⟩ := owns_pls hop
      have HPLp := Lib.hid hPLp
      obtain ⟨_, _, hQ4, _, bq4, _⟩ := HW.out _ HB4.out
      have ct := qTrace_any q A' c' (b'.length : Int) w4 hQ4
      rw [paV_def, HTQ.out] at ct
      obtain ⟨k0, k1⟩ := bq4.cells
      clear hop hb4 hPLp hQ4 bq4 HB3 HA1b HTP HTQ
      generalize Pc.placesOf p = PL at *
      generalize Pc.placesOf q = QL at *
      go_wp2_with fail
      with_reducible refine ct.mono ?_
      clear ct k0 k1
      rintro x w5 ⟨vq, rfl, hoq, hb5⟩
      dsimp only at hoq ⊢
      have HB5 := Lib.hid (HB4.out.trans (hb5.mono HB4.out.size))
      have HA1d := Lib.hid (HA1c.out.next hb5)
      obtain ⟨Aq, cq, rfl, hQL5⟩ := owns_pls hoq
      have hPL5 := HPLp.out.next hb5
      have hbb := Below.refl w5.heap.size w5
      clear hoq hb5 HB4 HA1c HPLp
      go_wp2_with fail
      go_loopw [18, 64] (fun s11 s40 wr => ∃ (k : Nat) (os : List (Nat × Nat)), k ≤ QL.length ∧ s40 = .int .i64 k ∧ os.length ≤ k ∧ wr.ownsRow w5.heap.size 79 2 s11 os.length (prsV os) ∧ KK = os ++ Pc.thenK PL (QL.drop k) k ∧ Below w5.heap.size w5 wr) (fun _ s40 _ => QL.length - (intOf s40).toNat)
      case atStart => exact ⟨0, [], by omega, rfl, by simp, World.ownsRow_nil _ _ _ _, HKK.out, hbb⟩
      case round =>
        clear HKK hbb
        obtain ⟨k, os, hk, rfl, hol, hown, hKK, hb⟩ := hrel
        have HK1 := Lib.hid hKK
        clear hKK
        by_cases hlt : k < QL.length
        · have b1 : decide ((k : Int) < QL.length) = true := by simp; omega
          have b1n : decide (k < QL.length) = true := by simp; omega
          obtain ⟨g, o, rfl, hg, h0, h1⟩ := hQL5 k hlt
          have d0 := (hb.cell (p := ⟨g, o + k * 2, none⟩) hg).trans h0
          have d1 := (hb.cell (p := ⟨g, o + k * 2 + 1, none⟩) hg).trans h1
          have HST := Lib.hid (HK1.out.trans (by rw [thenK_step PL QL k hlt]))
          have hbd := HBD.out QL[k] (List.getElem_mem hlt)
          clear h0 h1 HK1
          generalize QL[k] = pl at *
          obtain ⟨po, pn⟩ := pl
          dsimp only at *
          have hown1 := hown.alloc (.cells #[.int .i64 po, .int .i64 pn] 44)
          have hbw : Below w5.heap.size w5 (wr.alloc (.cells #[.int .i64 po, .int .i64 pn] 44)) := hb.alloc hb.size _
          have hnew := heap_alloc_new wr (.cells #[.int .i64 po, .int .i64 pn] 44)
          by_cases hpo : 0 ≤ po
          · obtain ⟨mm, rfl⟩ : ∃ mm : Nat, po = mm := ⟨po.toNat, by omega⟩
            have b2 : decide ((0 : Int) ≤ (mm : Int)) = true := by simp
            have hmm : mm < PL.length := by have := hbd hpo; omega
            have g1 : (mm : Int) < (PL.length : Int) := by omega
            obtain ⟨gf, of, rfl, hgf, hf0, _⟩ := hPL5 mm hmm
            have HS1 := Lib.hid (show KK = os ++ ((if 0 ≤ PL[mm].old then [(PL[mm].old.toNat, k)] else []) ++ Pc.thenK PL (QL.drop (k + 1)) (k + 1)) by
              have h := HST.out
              rw [show ((mm : Int)).toNat = mm from rfl, Pc.getD_at _ _ _ hmm] at h
              rw [h]
              congr 2
              by_cases e : 0 ≤ PL[mm].old
              · rw [if_pos e, if_pos ⟨hpo, e⟩]
              · rw [if_neg e, if_neg (fun h => e h.2)])
            have e5 := (hbw.cell (p := ⟨gf, of + mm * 2, none⟩) hgf).trans hf0
            clear HST hpo hown hb hbd hf0
            generalize PL[mm].old = fo at *
            have hrow := hown1.lt
            go_upto_region 14 with (fail)
            have e0 : (wr.alloc (.cells #[.int .i64 (mm : Int), .int .i64 pn] 44)).cell? ⟨wr.heap.size, 0, none⟩ = some (.int .i64 (mm : Int)) := by rw [cell_of_row _ _ _ _ _ _ hnew]; rfl
            generalize wr.alloc (.cells #[.int .i64 (mm : Int), .int .i64 pn] 44) = w6 at *
            clear d0 d1 hnew
            by_cases hfo : 0 ≤ fo
            · obtain ⟨ff, rfl⟩ : ∃ ff : Nat, fo = ff := ⟨fo.toNat, by omega⟩
              have b3 : decide ((0 : Int) ≤ (ff : Int)) = true := by simp
              have HS2 := Lib.hid (show KK = (os ++ [(ff, k)]) ++ Pc.thenK PL (QL.drop (k + 1)) (k + 1) by
                have h := HS1.out
                rw [if_pos hfo, ← List.append_assoc] at h
                exact h)
              clear HS1 hfo
              go_wp2_with (at_builtin; refine wpList_append_lies _ (by rfl) _ _ 78 (by rfl) w5.heap.size 79 i0 _ 2 16 Tryz.underlying78 hi0 hz0 hz1 hz2 rfl (by omega) u18 os.length _ (by rfl) (hown1.alloc _) ⟨w6.heap.size, 0, none⟩ 1 1 [_, _] (by rfl) (by rfl) (World.news_of_block (cs := #[_, _]) (t := 79) (fr := (0, 0)) (heap_alloc_new w6 _)) (by simp [Value.oneCell']) (by omega) (by unfold maxLen; omega) (by omega) (by have := hbw.size; simp; omega) (w6.heap.size + 1) (by simp) ?_; intro gg cap w7 hown6 hgrow hat hlt6)
              rw [prsV_snoc] at hown6
              have hown7 : w7.ownsRow w5.heap.size 79 2 (.slice (some ⟨gg, 0, none⟩) (os.length + 1) cap) (os ++ [(ff, k)]).length (prsV (os ++ [(ff, k)])) := by rw [List.length_append, List.length_singleton]; exact hown6
              have hb6 : Below w5.heap.size w5 w7 := grown_own0 (hbw.alloc hbw.size _) hgrow (fun q' hq' => (hrow q' hq').1)
              clear hown6 hgrow hat hlt6 hown1 hbw hrow
              go_roundw
              case rel => exact ⟨k + 1, os ++ [(ff, k)], by omega, by go_num, by simp; omega, hown7, HS2.out, hb6⟩
              case measure => first | (simp [intOf]; done) | (simp [intOf]; omega)
            · have b3 : decide ((0 : Int) ≤ fo) = false := decide_eq_false hfo
              have HS2 := Lib.hid (show KK = os ++ Pc.thenK PL (QL.drop (k + 1)) (k + 1) by
                have h := HS1.out
                rw [if_neg hfo, List.nil_append] at h
                exact h)
              clear HS1 hfo hrow
              go_wp2_with fail
              go_roundw
              case rel => exact ⟨k + 1, os, by omega, by go_num, by omega, hown1, HS2.out, hbw⟩
              case measure => first | (simp [intOf]; done) | (simp [intOf]; omega)
          · have b2 : decide ((0 : Int) ≤ po) = false := decide_eq_false hpo
            have HS2 := Lib.hid (show KK = os ++ Pc.thenK PL (QL.drop (k + 1)) (k + 1) by
              have h := HST.out
              rw [if_neg (fun h => hpo h.1), List.nil_append] at h
              exact h)
            clear HST hpo hown hb hnew hbd
            go_wp2_with fail
            go_roundw
            case rel => exact ⟨k + 1, os, by omega, by go_num, by omega, hown1, HS2.out, hbw⟩
            case measure => first | (simp [intOf]; done) | (simp [intOf]; omega)
        · have b1 : decide ((k : Int) < QL.length) = false := by simp; omega
          have b1n : decide (k < QL.length) = false := by simp; omega
          have hke : os = KK := by rw [HK1.out, List.drop_of_length_le (by omega)]; simp [Pc.thenK]
          subst hke
          obtain ⟨A4, c4, rfl, hK4⟩ := owns_prs2 hown
          have HB0C := Lib.hid (HB5.out.trans (hb.mono HB5.out.size))
          obtain ⟨_, _, _, bpr, _, _⟩ := HW.out _ HB0C.out
          obtain ⟨k0, k1⟩ := bpr.cells
          have HBS := Lib.hid (show p.base.length ≤ 1000000000 from HPB.out)
          obtain ⟨hf1, hf2⟩ := keep_facts la1 la2 lc1 lc2 HMT.out
          have co := qOf_any p.base a cc os A4 A1 c4 c1 wr hK4 (HA1d.out.next hb) HMT.out la2 lc2 hkl y1 y2
          have HF2 := Lib.hid hf2
          clear HK1 hown hb hPL5 hQL5 hK4 bpr hf2 HA1d HB5
          generalize hbs : p.base = bs at *
          have HT3 := Lib.hid (HT2.out.trans (keeping_def bs a cc os))
          clear HT2 HMT
          generalize Pc.keepHs [] a cc 0 0 os = hs2 at *
          go_wp2_with fail
          with_reducible refine co.mono ?_
          clear co
          rintro x w7 ⟨A7, c7, rfl, hH7, hb7⟩
          rw [paV_def]
          dsimp only
          have hb07 := HB0C.out.trans (hb7.mono HB0C.out.size)
          have hy : Below w7.heap.size w7 (w7.alloc (.cells #[.string (str bs), .slice A7 hs2.length c7] 24)) := (Below.refl _ _).alloc (Nat.le_refl _) _
          have hB8 := hb07.trans (hy.mono hb07.size)
          have bq : Bp (w7.alloc (.cells #[.string (str bs), .slice A7 hs2.length c7] 24)) w7.heap.size ⟨bs, hs2⟩ A7 c7 := heap_alloc_new w7 _
          have hH8 := hH7.next hy
          have cv := qValid_any ⟨bs, hs2⟩ A7 c7 (w7.alloc (.cells #[.string (str bs), .slice A7 hs2.length c7] 24)) ⟨hH8.at_, by show hs2.length ≤ _; omega, by show bs.length ≤ _; have := HBS.out; omega, fun h hh l hl => HLAE.out l (HF2.out h hh l hl)⟩
          rw [paV_def] at cv
          dsimp only at cv
          obtain ⟨m0, m1⟩ := bq.cells
          clear hb7 hb07 hy hH7
          go_wp2_with fail
          generalize w7.alloc (.cells #[.string (str bs), .slice A7 hs2.length c7] 24) = w8 at *
          generalize w7.heap.size = q8 at *
          with_reducible refine cv.mono ?_
          clear cv m0 m1
          rintro x w9 ⟨rfl, hb9⟩
          have hB9 := hB8.trans (hb9.mono hB8.size)
          have hH9 := hH8.next hb9
          obtain ⟨m0, m1⟩ := (bq.next hb9).cells
          dsimp only at m0 m1
          obtain ⟨hbw9, _, _, _, _, kr9⟩ := HW.out _ hB9
          by_cases hva : Pc.valid ⟨bs, hs2⟩ = true
          · have HE := Lib.hid (HT3.out.trans (if_pos hva))
            rw [hva]
            obtain ⟨z1, z2, r0, r1, f0, f1⟩ := fin_patch (.string (str bs)) (.slice A7 hs2.length c7) (by omega) kr9 hbw9 hH9
            have Q1 := Lib.hid z1
            have Q2 := Lib.hid z2
            clear z1 z2 kr9 hbw9 hH9 hva hB9 hB8 hH8 bq hb9 HT3
            go_wp2_with fail
            exact bodyPost_ret (v := .tuple #[.agg #[.string (str bs), .slice A7 hs2.length c7], .int .i64 0]) (by simp [results, Tryz.results30, go_sem, r0, r1]) rfl ⟨A7, c7, by rw [HE.out]; rfl, by rw [HE.out]; exact Q1.out, Q2.out⟩
          · have HE := Lib.hid (HT3.out.trans (if_neg hva))
            have hvf : Pc.valid ⟨bs, hs2⟩ = false := by simpa using hva
            rw [hvf]
            obtain ⟨z1, z2, r0, r1, f0, f1⟩ := fin_patch (.string ⟨#[]⟩) (.slice none 0 0) (by omega) kr9 hbw9 (hsT_nil w9 none)
            have Q1 := Lib.hid z1
            have Q2 := Lib.hid z2
            clear z1 z2 kr9 hbw9 hH9 hva hvf hB9 hB8 hH8 bq hb9 HT3
            go_wp2_with fail
            exact bodyPost_ret (v := .tuple #[.agg #[.string ⟨#[]⟩, .slice none 0 0], .int .i64 10]) (by simp [results, Tryz.results30, go_sem, r0, r1]) rfl ⟨none, 0, by rw [HE.out]; rfl, by rw [HE.out]; exact Q1.out, Q2.out⟩
end Go.Proofs.YtlfgnecfabdkmaaGreatDoor
