/- Then of the program. Condition: the variables that the program reads lie. -/
import Derived.Test.YtlfgnecfabdkmaaGreatDoorBkw
namespace Go.Proofs.YtlfgnecfabdkmaaGreatDoor
open Go.RowKit Go.Deep Tr

theorem said_lt {p : Pc.Pa} {data s : List UInt8} {a b : List (List UInt8)} (h : Pc.Led p data s a b) {x : Pc.Pl} (hx : x ∈ Pc.placesOf p) (h0 : 0 ≤ x.old) : x.old < a.length := by
  obtain ⟨k, hk, rfl⟩ := List.mem_iff_getElem.1 hx
  rcases h.says.at_ k hk (by rw [← h.says.len]; exact hk) with ⟨i, e, hi⟩ | ⟨i, e, _⟩
  · rw [e]
    have := (List.getElem?_eq_some_iff.1 hi).1
    show (i : Int) < a.length
    omega
  · rw [e] at h0
    exact absurd h0 (by show ¬ (0 : Int) ≤ -1; decide)
set_option maxHeartbeats 16000000 in
set_option maxRecDepth 100000 in
theorem then_any (p q : Pc.Pa) (A A' : Option Addr) (c c' : Nat) (s : ByteArray) (w : World) (hP : PaOk w p A) (hQ : PaOk w q A') (hI : IdAt w) (hs : s.size ≤ 1000000000) :
    Calls Tryz.prog 29 #[paV p A c, paV q A' c', .string s] w (GotPa w (Pc.thenP p q s.data.toList)) := by
  obtain ⟨i0, hi0, hz0, hz1, hz2⟩ := info_parts infoPr
  rw [paV_def, paV_def]
  obtain ⟨W, hW, hb0, n1, n2, n3⟩ : ∃ W, W = ((w.alloc (.cells #[.string (str p.base), .slice A p.hs.length c] 24)).alloc (.cells #[.string (str q.base), .slice A' q.hs.length c'] 24)).alloc (.cells #[.string ⟨#[]⟩, .slice none 0 0] 24) ∧ Below w.heap.size w W ∧ Bp W w.heap.size p A c ∧ Bp W (w.heap.size + 1) q A' c' ∧ W.heap[w.heap.size + 2]? = some (.cells #[.string ⟨#[]⟩, .slice none 0 0] 24 (0, 0)) := by
    refine ⟨_, rfl, (((Below.refl _ _).alloc (Nat.le_refl _) _).alloc (by simp) _).alloc (by simp; omega) _, ?_, ?_, ?_⟩
    · unfold Bp
      rw [blk_alloc_lt _ _ _ (by simp; omega), blk_alloc_lt _ _ _ (by simp)]
      exact heap_alloc_new w _
    · unfold Bp
      rw [blk_alloc_lt _ _ _ (by simp)]
      have := heap_alloc_new (w.alloc (.cells #[.string (str p.base), .slice A p.hs.length c] 24)) (.cells #[.string (str q.base), .slice A' q.hs.length c'] 24)
      rwa [show (w.alloc (.cells #[.string (str p.base), .slice A p.hs.length c] 24)).heap.size = w.heap.size + 1 by simp] at this
    · have := heap_alloc_new ((w.alloc (.cells #[.string (str p.base), .slice A p.hs.length c] 24)).alloc (.cells #[.string (str q.base), .slice A' q.hs.length c'] 24)) (.cells #[.string ⟨#[]⟩, .slice none 0 0] 24)
      rwa [show ((w.alloc (.cells #[.string (str p.base), .slice A p.hs.length c] 24)).alloc (.cells #[.string (str q.base), .slice A' q.hs.length c'] 24)).heap.size = w.heap.size + 2 by simp] at this
  have HW := Lib.hid (show ∀ w', Below W.heap.size W w' → Below w.heap.size w w' ∧ PaOk w' p A ∧ PaOk w' q A' ∧ IdAt w' ∧ Bp w' w.heap.size p A c ∧ Bp w' (w.heap.size + 1) q A' c' ∧ w'.heap[w.heap.size + 2]? = some (.cells #[.string ⟨#[]⟩, .slice none 0 0] 24 (0, 0)) from fun w' h => by
    have hb := hb0.trans (h.mono hb0.size)
    exact ⟨hb, hP.next hb, hQ.next hb, hI.below hb, n1.next h, n2.next h, (h.block _ (blk_lt n3)).trans n3⟩)
  have HD := Lib.hid (then_def p q s.data.toList)
  have HLP := Lib.hid (fun m h => Pc.led_of (p := p) (data := s.data.toList) (s := m) h)
  have HLQ := Lib.hid (fun m t h => Pc.led_of (p := q) (data := m) (s := t) h)
  generalize Pc.thenP p q s.data.toList = R at *
  clear hP hQ hI hb0 n1 n2 n3
  obtain ⟨_, hP0, _, hI0, _⟩ := HW.out W (Below.refl _ _)
  have c1 := apply_any p A c s W hP0 hI0 hs
  rw [apV_def, paV_def] at c1
  clear hP0 hI0
  go_enter Tryz.func29, Tryz.ntmps29
  go_wp2_with fail
  rw [← hW]
  with_reducible refine c1.mono ?_
  clear c1 hW
  rintro x w1 ⟨rfl, hb1⟩
  obtain ⟨hbw1, hP1, hQ1, hI1, bp1, bq1, kr1⟩ := HW.out _ hb1
  obtain ⟨k0, k1⟩ := bq1.cells
  by_cases he : (Pc.apply p s.data.toList).2 ≠ 0
  · have HT := Lib.hid (HD.out.trans (if_pos he))
    have n0 : ((Pc.apply p s.data.toList).2 != 0) = true := by rw [bne_iff_ne]; exact he
    obtain ⟨q1, q2, r0, r1, f0, f1⟩ := fin_patch (.string ⟨#[]⟩) (.slice none 0 0) (by omega) kr1 hbw1 (hsT_nil w1 none)
    have Q1 := Lib.hid q1
    have Q2 := Lib.hid q2
    clear HD HLP HLQ he q1 q2 kr1 hb1 hbw1 hP1 hQ1 hI1 bp1 bq1 k0 k1
    generalize (Pc.apply p s.data.toList).1 = a1 at *
    generalize (Pc.apply p s.data.toList).2 = a2 at *
    go_wp2_with fail
    exact bodyPost_ret (v := .tuple #[.agg #[.string ⟨#[]⟩, .slice none 0 0], .int .i64 a2]) (by simp [results, Tryz.results29, go_sem, r0, r1]) rfl ⟨none, 0, by rw [HT.out]; rfl, by rw [HT.out]; exact Q1.out, Q2.out⟩
  · obtain ⟨m, hm⟩ : ∃ m, Pc.apply p s.data.toList = (m, 0) := ⟨(Pc.apply p s.data.toList).1, Prod.ext rfl (by simpa using he)⟩
    obtain ⟨a, b, L⟩ := HLP.out m hm
    have HD1 := Lib.hid (show R = if (Pc.apply q m).2 ≠ 0 then (⟨[], []⟩, (Pc.apply q m).2) else Pc.keeping p.base (Tre.lines s.data.toList).1 (Tre.lines (Pc.apply q m).1).1 (Pc.thenK (Pc.placesOf p) (Pc.placesOf q) 0) by
      have h := HD.out.trans (if_neg he)
      rwa [hm] at h)
    have htl := text_len L.now
    have hms := str_size m
    have HL := Lib.hid L
    rw [hm]
    have c2 := apply_any q A' c' (str m) w1 hQ1 hI1 (by omega)
    rw [str_data, apV_def, paV_def] at c2
    clear HD he hm HLP hP1 hQ1 hI1 bp1 bq1 kr1 L
    go_wp2_with fail
    with_reducible refine c2.mono ?_
    clear c2 k0 k1
    rintro x w2 ⟨rfl, hb2⟩
    have hb02 := hb1.trans (hb2.mono hb1.size)
    obtain ⟨hbw2, hP2, hQ2, hI2, bp2, bq2, kr2⟩ := HW.out _ hb02
    clear hb1 hb2 hbw1
    by_cases he : (Pc.apply q m).2 ≠ 0
    · have HT := Lib.hid (HD1.out.trans (if_pos he))
      have n0 : ((Pc.apply q m).2 != 0) = true := by rw [bne_iff_ne]; exact he
      obtain ⟨q1, q2, r0, r1, f0, f1⟩ := fin_patch (.string ⟨#[]⟩) (.slice none 0 0) (by omega) kr2 hbw2 (hsT_nil w2 none)
      have Q1 := Lib.hid q1
      have Q2 := Lib.hid q2
      clear HD1 HLQ he q1 q2 kr2 hb02 hbw2 hP2 hQ2 hI2 bp2 bq2 HL
      generalize (Pc.apply q m).1 = a1 at *
      generalize (Pc.apply q m).2 = a2 at *
      go_wp2_with fail
      exact bodyPost_ret (v := .tuple #[.agg #[.string ⟨#[]⟩, .slice none 0 0], .int .i64 a2]) (by simp [results, Tryz.results29, go_sem, r0, r1]) rfl ⟨none, 0, by rw [HT.out]; rfl, by rw [HT.out]; exact Q1.out, Q2.out⟩
    · obtain ⟨t, ht⟩ : ∃ t, Pc.apply q m = (t, 0) := ⟨(Pc.apply q m).1, Prod.ext rfl (by simpa using he)⟩
      obtain ⟨b', cc, M⟩ := HLQ.out m t ht
      obtain rfl : b' = b := by
        have h1 := M.old
        rw [HL.out.now] at h1
        exact (Prod.mk.inj h1).1.symm
      have HT := Lib.hid (show R = Pc.keeping p.base a cc (Pc.thenK (Pc.placesOf p) (Pc.placesOf q) 0) by
        have h := HD1.out.trans (if_neg he)
        rw [ht] at h
        dsimp only at h
        rwa [HL.out.old, M.now] at h)
      rw [ht]
      clear HD1 HLQ he ht
      have HM := Lib.hid M
      have hpq := pls_len HL.out
      have hqq := pls_len M
      have HMT := Lib.hid (show Pc.Mat a cc 0 0 (Pc.thenK (Pc.placesOf p) (Pc.placesOf q) 0) by
        have h := Pc.then_mat HL.out M
        rw [← Pc.then_places (Pc.placesOf p) q.hs 0 (if q.base = [] then 0 else 1) 0 M.all] at h
        exact h)
      have hkl : (Pc.thenK (Pc.placesOf p) (Pc.placesOf q) 0).length ≤ 1024 := by
        have e : Pc.thenK (Pc.placesOf p) (Pc.placesOf q) 0 = (Pc.prs q.hs 0 0).filterMap (Pc.thr (Pc.placesOf p)) := Pc.then_places (Pc.placesOf p) q.hs 0 (if q.base = [] then 0 else 1) 0 M.all
        rw [e]
        have h1 := List.length_filterMap_le (Pc.thr (Pc.placesOf p)) (Pc.prs q.hs 0 0)
        have h2 : (Pc.prs q.hs 0 0).length = (Pc.placesOf q).countP fun x => decide (0 ≤ x.old) := by
          rw [← Pc.invK_len (Pc.placesOf q) 0]
          unfold Pc.placesOf
          rw [Pc.inv_places q.hs 0 _ 0 M.all, List.length_map]
        have h3 := List.countP_le_length (p := fun x : Pc.Pl => decide (0 ≤ x.old)) (l := Pc.placesOf q)
        omega
      have HBD := Lib.hid (show ∀ x ∈ Pc.placesOf q, 0 ≤ x.old → x.old < (Pc.placesOf p).length from fun x hx h0 => by
        have h := said_lt M hx h0
        rw [HL.out.says.len]
        exact h)
      obtain ⟨v1, v2, _⟩ := valid_all HL.out.valid
      obtain ⟨u1, u2, _⟩ := valid_all M.valid
      have c3 := places_any p A c w2 hP2.at_ v1 v2
      rw [paV_def] at c3
      obtain ⟨k0, k1⟩ := bp2.cells
      have HKK := Lib.hid (show Pc.thenK (Pc.placesOf p) (Pc.placesOf q) 0 = [] ++ Pc.thenK (Pc.placesOf p) ((Pc.placesOf q).drop 0) 0 from rfl)
      have hpb := hP2.base
      generalize Pc.thenK (Pc.placesOf p) (Pc.placesOf q) 0 = KK at *
      generalize hPL : Pc.placesOf p = PL at *
      generalize hQL : Pc.placesOf q = QL at *
      clear hPL hP2 hQ2 hI2 bp2 M
      go_wp2_with fail
      with_reducible refine c3.mono ?_
      clear c3 k0 k1
      rintro x w3 ⟨vp, rfl, hop, hb3⟩
      obtain ⟨Ap, cp, rfl, hPL3⟩ := owns_pls hop
      have hb03 := hb02.trans (hb3.mono hb02.size)
      obtain ⟨_, _, hQ3, _, _, bq3, _⟩ := HW.out _ hb03
      have c4 := places_any q A' c' w3 hQ3.at_ u1 u2
      rw [paV_def, hQL] at c4
      obtain ⟨k0, k1⟩ := bq3.cells
      clear hop hb3 hb02 hbw2 hQ3 bq2 bq3 hQL kr2 v1 v2 u1 u2
      go_wp2_with fail
      with_reducible refine c4.mono ?_
      clear c4 k0 k1
      rintro x w4 ⟨vq, rfl, hoq, hb4⟩
      obtain ⟨Aq, cq, rfl, hQL4⟩ := owns_pls hoq
      have hPL4 := hPL3.next hb4
      have hb04 := hb03.trans (hb4.mono hb03.size)
      have hbb := Below.refl w4.heap.size w4
      clear hoq hb4 hb03 hPL3
      go_wp2_with fail
      go_loopw [11, 40] (fun s11 s40 wr => ∃ (k : Nat) (os : List (Nat × Nat)), k ≤ QL.length ∧ s40 = .int .i64 k ∧ os.length ≤ k ∧ wr.ownsRow w4.heap.size 76 2 s11 os.length (prsV os) ∧ KK = os ++ Pc.thenK PL (QL.drop k) k ∧ Below w4.heap.size w4 wr) (fun _ s40 _ => QL.length - (intOf s40).toNat)
      case atStart => exact ⟨0, [], by omega, rfl, by simp, World.ownsRow_nil _ _ _ _, HKK.out, hbb⟩
      case round =>
        clear HKK hbb
        obtain ⟨k, os, hk, rfl, hol, hown, hKK, hb⟩ := hrel
        have HK1 := Lib.hid hKK
        clear hKK
        by_cases hlt : k < QL.length
        · have b1 : decide ((k : Int) < QL.length) = true := by simp; omega
          have b1n : decide (k < QL.length) = true := by simp; omega
          obtain ⟨g, o, rfl, hg, h0, h1⟩ := hQL4 k hlt
          have d0 := (hb.cell (p := ⟨g, o + k * 2, none⟩) hg).trans h0
          have d1 := (hb.cell (p := ⟨g, o + k * 2 + 1, none⟩) hg).trans h1
          have HST := Lib.hid (HK1.out.trans (by rw [thenK_step PL QL k hlt]))
          have hbd := HBD.out QL[k] (List.getElem_mem hlt)
          clear h0 h1 HK1
          generalize QL[k] = pl at *
          obtain ⟨po, pn⟩ := pl
          dsimp only at *
          have hown1 := hown.alloc (.cells #[.int .i64 po, .int .i64 pn] 44)
          have hbw : Below w4.heap.size w4 (wr.alloc (.cells #[.int .i64 po, .int .i64 pn] 44)) := hb.alloc hb.size _
          have hnew := heap_alloc_new wr (.cells #[.int .i64 po, .int .i64 pn] 44)
          by_cases hpo : 0 ≤ po
          · obtain ⟨mm, rfl⟩ : ∃ mm : Nat, po = mm := ⟨po.toNat, by omega⟩
            have b2 : decide ((0 : Int) ≤ (mm : Int)) = true := by simp
            have hmm : mm < PL.length := by have := hbd hpo; omega
            have g1 : (mm : Int) < (PL.length : Int) := by omega
            obtain ⟨gf, of, rfl, hgf, hf0, _⟩ := hPL4 mm hmm
            have HS1 := Lib.hid (show KK = os ++ ((if 0 ≤ PL[mm].old then [(PL[mm].old.toNat, k)] else []) ++ Pc.thenK PL (QL.drop (k + 1)) (k + 1)) by
              have h := HST.out
              rw [show ((mm : Int)).toNat = mm from rfl, Pc.getD_at _ _ _ hmm] at h
              rw [h]
              congr 2
              by_cases e : 0 ≤ PL[mm].old
              · rw [if_pos e, if_pos ⟨hpo, e⟩]
              · rw [if_neg e, if_neg (fun h => e h.2)])
            have e5 := (hbw.cell (p := ⟨gf, of + mm * 2, none⟩) hgf).trans hf0
            clear HST hpo hown hb hbd hf0
            generalize PL[mm].old = fo at *
            have hrow := hown1.lt
            go_upto_region 12 with (fail)
            have e0 : (wr.alloc (.cells #[.int .i64 (mm : Int), .int .i64 pn] 44)).cell? ⟨wr.heap.size, 0, none⟩ = some (.int .i64 (mm : Int)) := by rw [cell_of_row _ _ _ _ _ _ hnew]; rfl
            generalize wr.alloc (.cells #[.int .i64 (mm : Int), .int .i64 pn] 44) = w5 at *
            clear d0 d1 hnew
            by_cases hfo : 0 ≤ fo
            · obtain ⟨ff, rfl⟩ : ∃ ff : Nat, fo = ff := ⟨fo.toNat, by omega⟩
              have b3 : decide ((0 : Int) ≤ (ff : Int)) = true := by simp
              have HS2 := Lib.hid (show KK = (os ++ [(ff, k)]) ++ Pc.thenK PL (QL.drop (k + 1)) (k + 1) by
                have h := HS1.out
                rw [if_pos hfo, ← List.append_assoc] at h
                exact h)
              clear HS1 hfo
              go_wp2_with (at_builtin; refine wpList_append_lies _ (by rfl) _ _ 74 (by rfl) w4.heap.size 76 i0 _ 2 16 Tryz.underlying74 hi0 hz0 hz1 hz2 rfl (by omega) u11 os.length _ (by rfl) (hown1.alloc _) ⟨w5.heap.size, 0, none⟩ 1 1 [_, _] (by rfl) (by rfl) (World.news_of_block (cs := #[_, _]) (t := 76) (fr := (0, 0)) (heap_alloc_new w5 _)) (by simp [Value.oneCell']) (by omega) (by unfold maxLen; omega) (by omega) (by have := hbw.size; simp; omega) (w5.heap.size + 1) (by simp) ?_; intro gg cap w6 hown6 hgrow hat hlt6)
              rw [prsV_snoc] at hown6
              have hown7 : w6.ownsRow w4.heap.size 76 2 (.slice (some ⟨gg, 0, none⟩) (os.length + 1) cap) (os ++ [(ff, k)]).length (prsV (os ++ [(ff, k)])) := by rw [List.length_append, List.length_singleton]; exact hown6
              have hb6 : Below w4.heap.size w4 w6 := grown_own0 (hbw.alloc hbw.size _) hgrow (fun q' hq' => (hrow q' hq').1)
              clear hown6 hgrow hat hlt6 hown1 hbw hrow
              go_roundw
              case rel => exact ⟨k + 1, os ++ [(ff, k)], by omega, by go_num, by simp; omega, hown7, HS2.out, hb6⟩
              case measure => first | (simp [intOf]; done) | (simp [intOf]; omega)
            · have b3 : decide ((0 : Int) ≤ fo) = false := decide_eq_false hfo
              have HS2 := Lib.hid (show KK = os ++ Pc.thenK PL (QL.drop (k + 1)) (k + 1) by
                have h := HS1.out
                rw [if_neg hfo, List.nil_append] at h
                exact h)
              clear HS1 hfo hrow
              go_wp2_with fail
              go_roundw
              case rel => exact ⟨k + 1, os, by omega, by go_num, by omega, hown1, HS2.out, hbw⟩
              case measure => first | (simp [intOf]; done) | (simp [intOf]; omega)
          · have b2 : decide ((0 : Int) ≤ po) = false := decide_eq_false hpo
            have HS2 := Lib.hid (show KK = os ++ Pc.thenK PL (QL.drop (k + 1)) (k + 1) by
              have h := HST.out
              rw [if_neg (fun h => hpo h.1), List.nil_append] at h
              exact h)
            clear HST hpo hown hb hnew hbd
            go_wp2_with fail
            go_roundw
            case rel => exact ⟨k + 1, os, by omega, by go_num, by omega, hown1, HS2.out, hbw⟩
            case measure => first | (simp [intOf]; done) | (simp [intOf]; omega)
        · have b1 : decide ((k : Int) < QL.length) = false := by simp; omega
          have b1n : decide (k < QL.length) = false := by simp; omega
          have hke : os = KK := by rw [HK1.out, List.drop_of_length_le (by omega)]; simp [Pc.thenK]
          subst hke
          obtain ⟨A5, c5, rfl, hK5⟩ := owns_prs hown
          have hb0r := hb04.trans (hb.mono hb04.size)
          obtain ⟨_, _, _, hI5, bp5, _, _⟩ := HW.out _ hb0r
          obtain ⟨k0, k1⟩ := bp5.cells
          have hts := str_size t
          have htt := text_len HM.out.now
          have hke := keeping_any p.base s (str t) a cc A5 c5 os wr hI5 HL.out.old HM.out.now hs (by omega) hK5 HMT.out hkl hpb
          rw [← HT.out] at hke
          clear HK1 hown hb hb04 hPL4 hQL4 HMT HL HM HT hK5 hI5 bp5 htt
          go_wp2_with fail
          with_reducible refine hke.mono ?_
          clear hke k0 k1
          rintro x w6 ⟨A6, c6, rfl, hH6, hb6⟩
          have hb06 := hb0r.trans (hb6.mono hb0r.size)
          obtain ⟨hbW, _, _, _, _, _, kr⟩ := HW.out _ hb06
          obtain ⟨q1, q2, r0, r1, f0, f1⟩ := fin_patch (.string (str R.1.base)) (.slice A6 R.1.hs.length c6) (by omega) kr hbW hH6
          have Q1 := Lib.hid q1
          have Q2 := Lib.hid q2
          rw [paV_def]
          clear q1 q2 kr hbW hH6 hb6 hb06 hb0r
          go_wp2_with fail
          exact bodyPost_ret (v := .tuple #[.agg #[.string (str R.1.base), .slice A6 R.1.hs.length c6], .int .i64 R.2]) (by simp [results, Tryz.results29, go_sem, r0, r1]) rfl ⟨A6, c6, rfl, Q1.out, Q2.out⟩
end Go.Proofs.YtlfgnecfabdkmaaGreatDoor
