/- The law of TreePlaces. Condition: the tables of digest, codec and the library lie. -/
import Derived.Test.YtinkpbobkeppiaaGreatDoorFlw
import Derived.Test.YtinkpbobkeppiaaGreatDoorEqt
import Derived.Deep.DeepCutAuto
namespace Go.Proofs.YtinkpbobkeppiaaGreatDoor
open Go.RowKit Go.Deep

theorem own_nilF {w : World} {B size n c : Nat} {e : TypeId} {A : Option Addr} {xs : List Value} (h : w.ownsRow B e size (.slice A n c) n xs) : A = none → c = 0 := fun e0 => by
  rcases h.2 with ⟨h1, _⟩ | ⟨g, cap, cur, h1, _⟩
  · injection h1
  · injection h1 with h2 _ _
    rw [e0] at h2; cases h2
theorem idR_good {ts : List Tre.Fl} (h : Tre.check ts = 0) : idV ts = .tuple #[.string (str (Tre.pid 9 ts)), .int .i64 0] := by
  unfold idV Tre.idR
  rw [if_neg (fun e => e h)]
set_option maxHeartbeats 32000000 in
set_option maxRecDepth 100000 in
theorem places_law (t : Tr) (p s d : ByteArray) (w : World) (hI : IdAt w) (ht : TrOk w t) (hcap : t.ts.length ≤ t.c) (hcap2 : t.c ≤ maxLen) (hps : p.size ≤ 9223372036854775807) (hss : s.size ≤ 9223372036854775807) (hds : d.size ≤ 9223372036854775807) :
    Calls Tryz.prog 9 #[.slice t.A t.ts.length t.c, .agg #[.string p, .string s], .string d] w fun e w' => e = .returned (.bool true) ∧ Below w.heap.size w w' := by
  have hb0 : Below w.heap.size w (w.alloc (.cells #[.string p, .string s] 31)) := (Below.refl _ _).alloc (Nat.le_refl _) _
  have hN0 := heap_alloc_new w (.cells #[.string p, .string s] 31)
  have hbs : w.heap.size < (w.alloc (.cells #[.string p, .string s] 31)).heap.size := by simp
  have haw := awake_any _ (hI.below hb0)
  have HW := Lib.hid (show ∀ w', Below (w.alloc (.cells #[.string p, .string s] 31)).heap.size (w.alloc (.cells #[.string p, .string s] 31)) w' →
      Below w.heap.size w w' ∧ TrOk w' t ∧ IdAt w' ∧ w'.cell? ⟨w.heap.size, 0, none⟩ = some (.string p) ∧ w'.cell? ⟨w.heap.size, 1, none⟩ = some (.string s) from fun w' h => by
    have hb := hb0.trans (h.mono (Nat.le_of_lt hbs))
    have hN := (h.block w.heap.size hbs).trans hN0
    exact ⟨hb, ⟨ht.at_.next hb, ht.len, ht.each⟩, hI.below hb, by rw [cell_of_row _ _ _ _ _ _ hN]; rfl, by rw [cell_of_row _ _ _ _ _ _ hN]; rfl⟩)
  clear hI ht hb0 hN0
  go_enter Tryz.func9, Tryz.ntmps9
  go_wp2_with fail
  generalize w.alloc (.cells #[.string p, .string s] 31) = W at *
  generalize hbb : w.heap.size = b at *
  have HBB := Lib.hid hbb
  clear hbb
  with_reducible refine haw.mono ?_
  clear haw
  rintro x w1 ⟨rfl, hb1⟩
  have hfew := few_oneK t w1 (HW.out _ hb1).2.1
  have hs1 := hb1.size
  go_wp2_with fail
  with_reducible refine hfew.mono ?_
  clear hfew
  rintro x w2 ⟨⟨bb, rfl, hfw⟩, hb2⟩
  have hb02 := hb1.trans (hb2.mono hs1)
  clear hb1 hb2 hs1
  cases bb with
  | false =>
    clear hfw
    go_wp2_with fail
    go_ret
    exact ⟨rfl, by rw [HBB.out]; exact (HW.out _ hb02).1⟩
  | true =>
  have hfk := hfw rfl
  obtain ⟨hL, hn⟩ := few_lens hfk
  have hL4 := few_bounds hfk
  clear hfw hfk
  obtain ⟨k0, k1⟩ := (HW.out _ hb02).2.2.2
  by_cases g1 : 300 < p.size
  · have bg1 : decide ((300 : Int) < (p.size : Int)) = true := by simp; omega
    have bg1n : decide (300 < p.size) = true := by simp; omega
    go_wp2_with fail
    go_ret
    exact ⟨rfl, by rw [HBB.out]; exact (HW.out _ hb02).1⟩
  have bg1 : decide ((300 : Int) < (p.size : Int)) = false := by simp; omega
  have bg1n : decide (300 < p.size) = false := by simp; omega
  by_cases g2 : 1000 < s.size
  · have bg2 : decide ((1000 : Int) < (s.size : Int)) = true := by simp; omega
    have bg2n : decide (1000 < s.size) = true := by simp; omega
    go_wp2_with fail
    go_ret
    exact ⟨rfl, by rw [HBB.out]; exact (HW.out _ hb02).1⟩
  have bg2 : decide ((1000 : Int) < (s.size : Int)) = false := by simp; omega
  have bg2n : decide (1000 < s.size) = false := by simp; omega
  by_cases g3 : 300 < d.size
  · have bg3 : decide ((300 : Int) < (d.size : Int)) = true := by simp; omega
    have bg3n : decide (300 < d.size) = true := by simp; omega
    go_wp2_with fail
    go_ret
    exact ⟨rfl, by rw [HBB.out]; exact (HW.out _ hb02).1⟩
  have bg3 : decide ((300 : Int) < (d.size : Int)) = false := by simp; omega
  have bg3n : decide (300 < d.size) = false := by simp; omega
  have hc1 := check_any t.A t.c t.ts w2 (HW.out _ hb02).2.1.at_ (by omega) hL (HW.out _ hb02).2.2.1.max hcap hcap2
  rcases (Classical.em (Tre.check t.ts = 0)).symm with h0 | h0
  · have n0 : (Tre.check t.ts != 0) = true := by rw [bne_iff_ne]; exact h0
    clear h0
    generalize Tre.check t.ts = e at *
    go_wp2_with fail
    with_reducible refine hc1.mono ?_
    clear hc1
    rintro x w3 ⟨rfl, hb3⟩
    go_wp2_with fail
    go_ret
    exact ⟨rfl, by rw [HBB.out]; exact (HW.out _ (hb02.trans (hb3.mono hb02.size))).1⟩
  have HG := Lib.hid ((Tre.good_iff t.ts).1 h0)
  have HC0 := Lib.hid h0
  rw [h0] at hc1
  clear h0
  go_wp2_with fail
  with_reducible refine hc1.mono ?_
  clear hc1 k0 k1
  rintro x w3 ⟨rfl, hb3⟩
  have hb03 := hb02.trans (hb3.mono hb02.size)
  clear hb02 hb3
  obtain ⟨k0, k1⟩ := (HW.out _ hb03).2.2.2
  have hq := find_any t.A t.c t.ts p w3 (HW.out _ hb03).2.1.at_ (by omega)
  rw [findV_def] at hq
  generalize hwas : (Tre.find t.ts p.data.toList).2 = was at *
  have HWAS := Lib.hid hwas
  clear hwas
  generalize (Tre.find t.ts p.data.toList).1 = fd at *
  go_wp2_with fail
  with_reducible refine hq.mono ?_
  clear hq k0 k1 bg1 bg1n bg2 bg2n bg3 bg3n
  rintro x w4 ⟨rfl, hb4⟩
  have hb04 := hb03.trans (hb4.mono hb03.size)
  clear hb03 hb4
  obtain ⟨k0, k1⟩ := (HW.out _ hb04).2.2.2
  have hq := put_any t.A t.c t.ts p s w4 (HW.out _ hb04).2.1.at_ (by omega) hL (HW.out _ hb04).2.2.1.max hcap hcap2 (by omega) (by omega)
  have HPC := Lib.hid (Tre.put_cases HG.out ⟨p.data.toList, s.data.toList⟩)
  generalize hR : Tre.put t.ts ⟨p.data.toList, s.data.toList⟩ = R at *
  have HR := Lib.hid hR
  clear hR
  obtain ⟨us, e⟩ := R
  go_wp2_with fail
  with_reducible refine hq.mono ?_
  clear hq k0 k1
  rintro x w5 ⟨v5, rfl, ho5, hb5⟩
  dsimp only at ho5
  have hb05 := hb04.trans (hb5.mono hb04.size)
  clear hb04 hb5
  go_upto_if 63 with (fail)
  go_cut [] (fun wx => Below W.heap.size W wx)
  case first =>
    rcases HPC.out with ⟨he, _⟩ | had
    · have n0 : (e == 0) = false := by rw [beq_eq_false_iff_ne]; exact he
      clear he
      go_wp2_with fail
      go_meet
      exact hb05
    · have hR2 := HR.out
      rw [had.put] at hR2
      injection hR2 with hu he
      subst he
      obtain ⟨A5, c5, rfl, hA5⟩ := owns_fls ho5
      obtain ⟨hc5, hc5m⟩ := own_cap0 ho5
      have hgu := had.good
      have hfo := had.found
      have hbk := had.back
      rw [hu] at hgu hfo hbk
      dsimp only at hfo hbk
      have hul := hgu.len
      have hf1 := find_any A5 c5 us p w5 hA5 (by omega)
      rw [findV_def, hfo, str_of] at hf1
      have hf2 := fun w' (hA' : FlsAt w' w'.heap.size A5 us) (h : Below W.heap.size W w') => drop_any A5 c5 us p w' hA' (by omega) (good_lens hgu) (HW.out _ h).2.2.1.max hc5 hc5m
      rw [dropR_def, if_neg (fun h => h ((Tre.good_iff us).2 hgu)), if_neg (by rw [hfo]; simp), hbk] at hf2
      have hf3 := fun w' (hA' : FlsAt w' w'.heap.size A5 us) (h : Below W.heap.size W w') => check_any A5 c5 us w' hA' (by omega) (good_lens hgu) (HW.out _ h).2.2.1.max hc5 hc5m
      rw [(Tre.good_iff us).2 hgu] at hf3
      have HDK := Lib.hid (fun h => (Tre.find_none (ts := t.ts) (p := p.data.toList) h).1)
      have HDO := Lib.hid (fun h => Tre.drop_one HG.out (p := p.data.toList) h)
      have hdl := Tre.drop_le t.ts p.data.toList
      have hDK : was = false → Tre.drop t.ts p.data.toList = t.ts := fun h => Tre.drop_keep _ _ (HDK.out (HWAS.out.trans h))
      have hDO : was = true → (Tre.drop t.ts p.data.toList).length + 1 = t.ts.length := fun h => HDO.out (HWAS.out.trans h)
      have HD1 := Lib.hid hDK
      have HD2 := Lib.hid hDO
      clear had hu hgu hfo hbk HPC HR HDK HDO hDK hDO ho5 HWAS
      generalize Tre.drop t.ts p.data.toList = D at *
      obtain ⟨k0, k1⟩ := (HW.out _ hb05).2.2.2
      go_wp2_with fail
      with_reducible refine hf1.mono ?_
      clear hf1 k0 k1
      rintro x w6 ⟨rfl, hb6⟩
      have hb06 := hb05.trans (hb6.mono hb05.size)
      have hA6 := hA5.next hb6
      clear hb05 hb6 hA5
      obtain ⟨k0, k1⟩ := (HW.out _ hb06).2.2.2
      have hf2 := hf2 w6 hA6 hb06
      go_wp2_with fail
      with_reducible refine hf2.mono ?_
      clear hf2 k0 k1
      rintro x w7 ⟨v7, rfl, ho7, hb7⟩
      dsimp only at ho7
      have hb07 := hb06.trans (hb7.mono hb06.size)
      have hA7 := hA6.next hb7
      obtain ⟨A7, c7, rfl, hD7⟩ := owns_fls ho7
      clear hb06 hb7 hA6 ho7
      obtain ⟨k0, k1⟩ := (HW.out _ hb07).2.2.2
      have hf3 := hf3 w7 hA7 hb07
      have o1 : (s.toList != s.toList) = false := bne_self_eq_false _
      go_wp2_with fail
      with_reducible refine hf3.mono ?_
      clear hf3 k0 k1 hA7
      rintro x w8 ⟨rfl, hb8⟩
      have hb08 := hb07.trans (hb8.mono hb07.size)
      have hD8 := hD7.next hb8
      clear hb07 hb8 hD7
      cases was with
      | false =>
        obtain rfl : D = t.ts := HD1.out rfl
        have hq := eqt_true A7 t.A c7 t.c t.ts w8 hD8 (HW.out _ hb08).2.1.at_ (by omega)
        clear HD1 HD2
        go_wp2_with fail
        with_reducible refine hq.mono ?_
        clear hq
        rintro x w9 ⟨rfl, hb9⟩
        go_wp2_with fail
        go_meet
        exact hb08.trans (hb9.mono hb08.size)
      | true =>
        have h1 := HD2.out rfl
        have o2 : ((D.length : Int) != (t.ts.length : Int) - 1) = false := by
          rw [bne, Bool.not_eq_false', beq_iff_eq]; omega
        have o3 : 1 ≤ t.ts.length := by omega
        clear HD1 HD2 h1
        go_wp2_with fail
        go_meet
        exact hb08
  case rest =>
  clear HPC HR ho5 hb05 HWAS
  have hq := mount_any t.A t.c t.ts d wc (HW.out _ hcut).2.1.at_ (by omega) hL4 (by omega) (HW.out _ hcut).2.2.1.max hcap hcap2
  have HMD := Lib.hid (mountR_def t.ts d.data.toList)
  have HUM := Lib.hid (fun h hd => und_mount (ts := t.ts) (d := d.data.toList) h hd)
  have HCM := Lib.hid (check_map d.data.toList HC0.out)
  have HML := Lib.hid (mount_len hL4 (d := d.data.toList) (by rw [size_data]; omega))
  have lM : (t.ts.map (mountF d.data.toList)).length = t.ts.length := List.length_map _
  generalize t.ts.map (mountF d.data.toList) = ms at *
  have hbad : (∀ e, mountR t.ts d.data.toList = ([], e) → e ≠ 0 → e = 2) := fun e he hne => by
    rw [HMD.out, if_neg (fun h => h HC0.out)] at he
    split at he
    · exact (Prod.mk.inj he).2.symm
    · split at he
      · exact absurd (Prod.mk.inj he).2.symm hne
      · exact (Prod.mk.inj he).2.symm
  have hcase : mountR t.ts d.data.toList = ([], 2) ∨ (mountR t.ts d.data.toList = (ms, 0) ∧ Tre.check ms = 0 ∧ d.data.toList ≠ []) := by
    rw [HMD.out, if_neg (fun h => h HC0.out)]
    by_cases hp : Tre.pathOk d.data.toList = false
    · rw [if_pos hp]; exact .inl rfl
    · rw [if_neg hp]
      by_cases hal : (t.ts.all fun f => Tre.pathOk (mountF d.data.toList f).path) = true
      · rw [if_pos hal]
        refine .inr ⟨rfl, by rw [HCM.out, if_pos hal], fun e => hp ?_⟩
        rw [e]; exact not_path_nil
      · rw [if_neg hal]; exact .inl rfl
  have HCASE := Lib.hid hcase
  clear hcase hbad HMD HCM
  have HLM := Lib.hid lM
  have hlm : ms.length ≤ 70 := by omega
  clear lM
  rcases HCASE.out with hR | ⟨hR, hcm, hdn⟩
  · rw [hR] at hq
    clear HCASE hR HUM HML HLM
    go_wp2_with fail
    with_reducible refine hq.mono ?_
    clear hq
    rintro x w6 ⟨v6, rfl, ho6, hb6⟩
    dsimp only at ho6
    obtain ⟨A6, c6, rfl, _⟩ := owns_fls ho6
    have hb06 := hcut.trans (hb6.mono hcut.size)
    clear ho6 hb6 hcut
    go_wp2_with fail
    go_ret
    exact ⟨by first | rfl | simp, by rw [HBB.out]; exact (HW.out _ hb06).1⟩
  rw [hR] at hq
  have HUN := Lib.hid (HUM.out hcm hdn)
  have hgm := (Tre.good_iff ms).1 hcm
  clear HCASE hR HUM HLM hdn
  go_wp2_with fail
  with_reducible refine hq.mono ?_
  clear hq
  rintro x w6 ⟨v6, rfl, ho6, hb6⟩
  dsimp only at ho6
  have hb06 := hcut.trans (hb6.mono hcut.size)
  clear hcut hb6
  obtain ⟨A6, c6, rfl, hA6⟩ := owns_fls ho6
  obtain ⟨hc6, hc6m⟩ := own_cap0 ho6
  have hn6 := own_nilF ho6
  have HN6 := Lib.hid hn6
  clear ho6 hn6
  have HIT := Lib.hid (idR_good HC0.out)
  have hq := id_any t.A t.c t.ts w6 (HW.out _ hb06).2.1.at_ (by omega) hL (HW.out _ hb06).2.2.1 hcap hcap2
  have hI2 := fun w' A c (hA' : FlsAt w' w'.heap.size A t.ts) (h : Below W.heap.size W w') h1 h2 => id_any A c t.ts w' hA' (by omega) hL (HW.out _ h).2.2.1 h1 h2
  rw [HIT.out] at hq
  simp only [HIT.out] at hI2
  have hU := fun w' (hA' : FlsAt w' w'.heap.size A6 ms) (h : Below W.heap.size W w') => under_any A6 c6 ms d w' hA' (by omega) HML.out (HW.out _ h).2.2.1.max hc6 hc6m HN6.out
  rw [HUN.out] at hU
  have hC := fun w' (hA' : FlsAt w' w'.heap.size A6 ms) (h : Below W.heap.size W w') => check_any A6 c6 ms w' hA' (by omega) HML.out (HW.out _ h).2.2.1.max hc6 hc6m
  rw [hcm] at hC
  clear hcm hgm HUN HN6 HIT HC0
  generalize Tre.pid 9 t.ts = pd at *
  go_wp2_with fail
  with_reducible refine hq.mono ?_
  clear hq
  rintro x w7 ⟨rfl, hb7⟩
  have hb07 := hb06.trans (hb7.mono hb06.size)
  have hA7 := hA6.next hb7
  clear hb06 hb7 hA6
  have hq := hU w7 hA7 hb07
  go_wp2_with fail
  with_reducible refine hq.mono ?_
  clear hq
  rintro x w8 ⟨v8, rfl, ho8, hb8⟩
  have hb08 := hb07.trans (hb8.mono hb07.size)
  have hA8 := hA7.next hb8
  obtain ⟨A8, c8, rfl, hU8⟩ := owns_fls ho8
  obtain ⟨hc8, hc8m⟩ := own_cap0 ho8
  have hq := hI2 w8 A8 c8 hU8 hb08 hc8 hc8m
  clear hb07 hb8 hA7 ho8 hU8 hI2
  go_wp2_with fail
  with_reducible refine hq.mono ?_
  clear hq
  rintro x w9 ⟨rfl, hb9⟩
  have hb09 := hb08.trans (hb9.mono hb08.size)
  have hA9 := hA8.next hb9
  clear hb08 hb9 hA8
  have hq := hC w9 hA9 hb09
  go_wp2_with fail
  with_reducible refine hq.mono ?_
  clear hq hC
  rintro x w10 ⟨rfl, hb10⟩
  have hb010 := hb09.trans (hb10.mono hb09.size)
  have hA10 := hA9.next hb10
  clear hb09 hb10 hA9
  have hq := hU w10 hA10 hb010
  clear hU hA10
  go_wp2_with fail
  with_reducible refine hq.mono ?_
  clear hq
  rintro x w11 ⟨v11, rfl, ho11, hb11⟩
  have hb011 := hb010.trans (hb11.mono hb010.size)
  obtain ⟨A11, c11, rfl, hU11⟩ := owns_fls ho11
  clear hb010 hb11 ho11
  have hq := eqt_true A11 t.A c11 t.c t.ts w11 hU11 (HW.out _ hb011).2.1.at_ (by omega)
  have o5 : ((str pd).toList == (str pd).toList) = true := by simp
  clear hU11
  go_wp2_with fail
  with_reducible refine hq.mono ?_
  clear hq
  rintro x w12 ⟨rfl, hb12⟩
  have hb012 := hb011.trans (hb12.mono hb011.size)
  go_wp2_with fail
  go_ret
  exact ⟨by first | rfl | simp, by rw [HBB.out]; exact (HW.out _ hb012).1⟩
end Go.Proofs.YtinkpbobkeppiaaGreatDoor
