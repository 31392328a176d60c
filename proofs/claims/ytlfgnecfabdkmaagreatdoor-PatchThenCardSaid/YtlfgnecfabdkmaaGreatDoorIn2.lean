/- Invert and Then of the program. Condition: the variables that the program reads lie. -/
import Derived.Test.YtlfgnecfabdkmaaGreatDoorInv
namespace Go.Proofs.YtlfgnecfabdkmaaGreatDoor
open Go.RowKit Go.Deep Tr

/-- Places where they lie. -/
def PlsAt (w : World) (A : Option Addr) (l : List Pc.Pl) : Prop := ∀ k (h : k < l.length), ∃ g o, A = some ⟨g, o, none⟩ ∧ g < w.heap.size ∧ w.cell? ⟨g, o + k * 2, none⟩ = some (.int .i64 l[k].old) ∧ w.cell? ⟨g, o + k * 2 + 1, none⟩ = some (.int .i64 l[k].new)
theorem PlsAt.next {w w' : World} {A : Option Addr} {l : List Pc.Pl} (h : PlsAt w A l) (hb : Below w.heap.size w w') : PlsAt w' A l := fun k hk => by
  obtain ⟨g, o, e, hg, h0, h1⟩ := h k hk
  exact ⟨g, o, e, Nat.lt_of_lt_of_le hg hb.size, (hb.cell (p := ⟨g, o + k * 2, none⟩) hg).trans h0, (hb.cell (p := ⟨g, o + k * 2 + 1, none⟩) hg).trans h1⟩
theorem plsOf_at : ∀ (l : List Pc.Pl) (k i : Nat) (h : k < l.length), i < 2 → (plsOf l)[k * 2 + i]? = (plOf l[k])[i]?
  | x :: t, 0, i, _, hi => by
    have : plsOf (x :: t) = plOf x ++ plsOf t := rfl
    rw [this, List.getElem?_append_left (by show 0 * 2 + i < 2; omega)]
    simp
  | x :: t, k + 1, i, h, hi => by
    have e : plsOf (x :: t) = plOf x ++ plsOf t := rfl
    rw [e, List.getElem?_append_right (by show 2 ≤ _; omega)]
    have := plsOf_at t k i (by simpa using h) hi
    rw [show (k + 1) * 2 + i - (plOf x).length = k * 2 + i by show (k + 1) * 2 + i - 2 = _; omega, this]
    simp
theorem owns_pls {w : World} {B : Nat} {v : Value} {l : List Pc.Pl} (h : w.ownsRow B 44 2 v l.length (plsOf l)) : ∃ A c, v = .slice A l.length c ∧ PlsAt w A l := by
  rcases h.2 with ⟨rfl, h0⟩ | ⟨g, cap, cur, rfl, hb, hg, h1, h2, _, _⟩
  · have : l = [] := List.length_eq_zero_iff.1 h0
    subst this
    exact ⟨none, 0, rfl, fun k hk => by simp at hk⟩
  · refine ⟨_, cap, rfl, fun k hk => ⟨g, 0, rfl, (Array.getElem?_eq_some_iff.1 hg).1, ?_, ?_⟩⟩
    · rw [Nat.zero_add, h.cellAt _ (by omega)]
      exact plsOf_at l k 0 hk (by omega)
    · rw [Nat.zero_add, h.cellAt _ (by omega)]
      exact plsOf_at l k 1 hk (by omega)
theorem invert_def (p : Pc.Pa) (data : List UInt8) : Pc.invert p data = if (Pc.apply p data).2 ≠ 0 then (⟨[], []⟩, (Pc.apply p data).2)
  else Pc.keeping (if p.base = [] then [] else Pc.dig (Pc.apply p data).1) (Tre.lines (Pc.apply p data).1).1 (Tre.lines data).1 (Pc.invK (Pc.placesOf p) 0) := rfl
theorem then_def (p q : Pc.Pa) (data : List UInt8) : Pc.thenP p q data = if (Pc.apply p data).2 ≠ 0 then (⟨[], []⟩, (Pc.apply p data).2)
  else if (Pc.apply q (Pc.apply p data).1).2 ≠ 0 then (⟨[], []⟩, (Pc.apply q (Pc.apply p data).1).2)
  else Pc.keeping p.base (Tre.lines data).1 (Tre.lines (Pc.apply q (Pc.apply p data).1).1).1 (Pc.thenK (Pc.placesOf p) (Pc.placesOf q) 0) := rfl
theorem invK_step (l : List Pc.Pl) (k : Nat) (h : k < l.length) : Pc.invK (l.drop k) k = (if 0 ≤ l[k].old then [(k, l[k].old.toNat)] else []) ++ Pc.invK (l.drop (k + 1)) (k + 1) := by
  rw [List.drop_eq_getElem_cons h, Pc.invK]
  split <;> rfl
theorem thenK_step (f l : List Pc.Pl) (k : Nat) (h : k < l.length) : Pc.thenK f (l.drop k) k = (if 0 ≤ l[k].old ∧ 0 ≤ (f.getD l[k].old.toNat default).old then [((f.getD l[k].old.toNat default).old.toNat, k)] else []) ++ Pc.thenK f (l.drop (k + 1)) (k + 1) := by
  rw [List.drop_eq_getElem_cons h, Pc.thenK]
  split <;> rfl
theorem dig_len (s : List UInt8) : (Pc.dig s).length = 32 := by unfold Pc.dig Dg.Spo.dig Dg.Spo.sq; simp
theorem text_len {s : List UInt8} {l : List (List UInt8)} (h : Tre.lines s = (l, 0)) : s.length ≤ 65536 := by
  unfold Tre.lines at h
  split at h
  · cases (Prod.mk.inj h).2
  · omega
theorem pls_len {p : Pc.Pa} {data s : List UInt8} {a b : List (List UInt8)} (h : Pc.Led p data s a b) : (Pc.placesOf p).length ≤ 1024 := by
  rw [h.says.len]; exact (Pc.lines_ok h.now).2.2.1
set_option maxHeartbeats 16000000 in
set_option maxRecDepth 100000 in
theorem invert_any (p : Pc.Pa) (A : Option Addr) (c : Nat) (s : ByteArray) (w : World) (hP : PaOk w p A) (hI : IdAt w) (hs : s.size ≤ 1000000000) :
    Calls Tryz.prog 24 #[paV p A c, .string s] w (GotPa w (Pc.invert p s.data.toList)) := by
  obtain ⟨i0, hi0, hz0, hz1, hz2⟩ := info_parts infoPr
  have hb0 : Below w.heap.size w ((w.alloc (.cells #[.string (str p.base), .slice A p.hs.length c] 24)).alloc (.cells #[.string ⟨#[]⟩, .slice none 0 0] 24)) := ((Below.refl _ _).alloc (Nat.le_refl _) _).alloc (by simp) _
  have hN1 := heap_alloc_new w (.cells #[.string (str p.base), .slice A p.hs.length c] 24)
  have hN2 := heap_alloc_new (w.alloc (.cells #[.string (str p.base), .slice A p.hs.length c] 24)) (.cells #[.string ⟨#[]⟩, .slice none 0 0] 24)
  rw [show (w.alloc (.cells #[.string (str p.base), .slice A p.hs.length c] 24)).heap.size = w.heap.size + 1 by simp] at hN2
  have hN3 : ((w.alloc (.cells #[.string (str p.base), .slice A p.hs.length c] 24)).alloc (.cells #[.string ⟨#[]⟩, .slice none 0 0] 24)).heap[w.heap.size]? = some (.cells #[.string (str p.base), .slice A p.hs.length c] 24 (0, 0)) := by rw [blk_alloc_lt _ _ _ (by simp)]; exact hN1
  have hcall := apply_any p A c s _ (hP.next hb0) (hI.below hb0) hs
  have HW := Lib.hid (show ∀ w', Below ((w.alloc (.cells #[.string (str p.base), .slice A p.hs.length c] 24)).alloc (.cells #[.string ⟨#[]⟩, .slice none 0 0] 24)).heap.size ((w.alloc (.cells #[.string (str p.base), .slice A p.hs.length c] 24)).alloc (.cells #[.string ⟨#[]⟩, .slice none 0 0] 24)) w' →
      Below w.heap.size w w' ∧ HsAt w' w'.heap.size A p.hs ∧ IdAt w' ∧ w'.cell? ⟨w.heap.size, 0, none⟩ = some (.string (str p.base)) ∧ w'.cell? ⟨w.heap.size, 1, none⟩ = some (.slice A p.hs.length c) ∧ w'.heap[w.heap.size + 1]? = some (.cells #[.string ⟨#[]⟩, .slice none 0 0] 24 (0, 0)) from fun w' h => by
    have hb := hb0.trans (h.mono hb0.size)
    have hN := (h.block w.heap.size (by simp; omega)).trans hN3
    exact ⟨hb, hP.at_.next hb, hI.below hb, by rw [cell_of_row _ _ _ _ _ _ hN]; rfl, by rw [cell_of_row _ _ _ _ _ _ hN]; rfl, (h.block _ (by simp)).trans hN2⟩)
  have HD := Lib.hid (invert_def p s.data.toList)
  have HLED := Lib.hid (fun h => Pc.led_of (p := p) (data := s.data.toList) (s := (Pc.apply p s.data.toList).1) h)
  have HVA := Lib.hid (fun h => valid_all (p := p) h)
  rw [paV_def] at hcall ⊢
  clear hP hI hb0 hN1 hN2 hN3
  generalize Pc.invert p s.data.toList = R at *
  go_enter Tryz.func24, Tryz.ntmps24
  go_wp2_with fail
  generalize (w.alloc (.cells #[.string (str p.base), .slice A p.hs.length c] 24)).alloc (.cells #[.string ⟨#[]⟩, .slice none 0 0] 24) = W at *
  with_reducible refine hcall.mono ?_
  clear hcall
  rintro x w1 ⟨rfl, hb1⟩
  rw [apV_def]
  obtain ⟨_, _, _, k0, k1, kr⟩ := HW.out _ hb1
  by_cases he : (Pc.apply p s.data.toList).2 ≠ 0
  · have HT := Lib.hid (HD.out.trans (if_pos he))
    have n0 : ((Pc.apply p s.data.toList).2 != 0) = true := by rw [bne_iff_ne]; exact he
    obtain ⟨q1, q2, r0, r1, f0, f1⟩ := fin_patch (.string ⟨#[]⟩) (.slice none 0 0) (Nat.le_succ _) kr (HW.out _ hb1).1 (hsT_nil w1 none)
    have Q1 := Lib.hid q1
    have Q2 := Lib.hid q2
    clear HD HLED he q1 q2 kr hb1 HVA
    generalize (Pc.apply p s.data.toList).1 = a1 at *
    generalize (Pc.apply p s.data.toList).2 = a2 at *
    go_wp2_with fail
    exact bodyPost_ret (v := .tuple #[.agg #[.string ⟨#[]⟩, .slice none 0 0], .int .i64 a2]) (by simp [results, Tryz.results24, go_sem, r0, r1]) rfl ⟨none, 0, by rw [HT.out]; rfl, by rw [HT.out]; exact Q1.out, Q2.out⟩
  · have he0 : (Pc.apply p s.data.toList).2 = 0 := by simpa using he
    obtain ⟨a, b, L⟩ := HLED.out (Prod.ext rfl he0)
    have HT := Lib.hid (HD.out.trans (if_neg he))
    rw [he0]
    obtain ⟨v1, v2, _⟩ := HVA.out L.valid
    have hpl := places_any p A c w1 (HW.out _ hb1).2.1 v1 v2
    rw [paV_def] at hpl
    have HLO := Lib.hid L
    have hll := pls_len L
    have hdl := text_len L.now
    have HKK := Lib.hid (show Pc.invK (Pc.placesOf p) 0 = [] ++ Pc.invK ((Pc.placesOf p).drop 0) 0 from rfl)
    have HMT := Lib.hid (show Pc.Mat b a 0 0 (Pc.invK (Pc.placesOf p) 0) by
      unfold Pc.placesOf
      rw [Pc.inv_places p.hs 0 _ 0 L.all]
      exact Pc.mat_swap L.mat)
    have hkl : (Pc.invK (Pc.placesOf p) 0).length ≤ 1024 := by
      rw [Pc.invK_len]
      have := List.countP_le_length (p := fun x : Pc.Pl => decide (0 ≤ x.old)) (l := Pc.placesOf p)
      omega
    have HT2 := Lib.hid (show R = Pc.keeping (if p.base = [] then [] else Pc.dig (Pc.apply p s.data.toList).1) b a (Pc.invK (Pc.placesOf p) 0) by rw [HT.out, L.now, L.old])
    have HDG := Lib.hid (show (if p.base = [] then [] else Pc.dig (Pc.apply p s.data.toList).1).length ≤ 32 by
      split
      · simp
      · exact Nat.le_of_eq (dig_len _))
    clear HD HLED he he0 HT HVA L v1 v2
    generalize Pc.invK (Pc.placesOf p) 0 = KK at *
    generalize (Pc.apply p s.data.toList).1 = rs at *
    generalize hPL : Pc.placesOf p = PL at *
    clear hPL
    go_wp2_with fail
    with_reducible refine hpl.mono ?_
    clear hpl k0 k1 kr
    rintro x w2 ⟨vp, rfl, hop, hb2⟩
    have hb02 := hb1.trans (hb2.mono hb1.size)
    obtain ⟨Ap, cp, rfl, hPL2⟩ := owns_pls hop
    have hbb := Below.refl w2.heap.size w2
    clear hop hb1 hb2
    go_wp2_with fail
    go_loopw [8, 25] (fun s8 s25 wr => ∃ (k : Nat) (os : List (Nat × Nat)), k ≤ PL.length ∧ s25 = .int .i64 k ∧ os.length ≤ k ∧ wr.ownsRow w2.heap.size 76 2 s8 os.length (prsV os) ∧ KK = os ++ Pc.invK (PL.drop k) k ∧ Below w2.heap.size w2 wr) (fun _ s25 _ => PL.length - (intOf s25).toNat)
    case atStart => exact ⟨0, [], by omega, rfl, by simp, World.ownsRow_nil _ _ _ _, HKK.out, hbb⟩
    case round =>
      clear HKK hbb
      obtain ⟨k, os, hk, rfl, hol, hown, hKK, hb⟩ := hrel
      have HK1 := Lib.hid hKK
      clear hKK
      by_cases hlt : k < PL.length
      · have b1 : decide ((k : Int) < PL.length) = true := by simp; omega
        have b1n : decide (k < PL.length) = true := by simp; omega
        obtain ⟨g, o, rfl, hg, h0, h1⟩ := hPL2 k hlt
        have d0 := (hb.cell (p := ⟨g, o + k * 2, none⟩) hg).trans h0
        have d1 := (hb.cell (p := ⟨g, o + k * 2 + 1, none⟩) hg).trans h1
        have HST := Lib.hid (HK1.out.trans (by rw [invK_step PL k hlt]))
        clear h0 h1 HK1
        generalize PL[k] = pl at *
        obtain ⟨po, pn⟩ := pl
        dsimp only at *
        have hown1 := hown.alloc (.cells #[.int .i64 po, .int .i64 pn] 44)
        have hbw : Below w2.heap.size w2 (wr.alloc (.cells #[.int .i64 po, .int .i64 pn] 44)) := hb.alloc hb.size _
        have hnew := heap_alloc_new wr (.cells #[.int .i64 po, .int .i64 pn] 44)
        by_cases hpo : 0 ≤ po
        · obtain ⟨m, rfl⟩ : ∃ m : Nat, po = m := ⟨po.toNat, by omega⟩
          have b2 : decide ((0 : Int) ≤ (m : Int)) = true := by simp
          have HS2 := Lib.hid (show KK = (os ++ [(k, m)]) ++ Pc.invK (PL.drop (k + 1)) (k + 1) by
            have h := HST.out
            rw [if_pos hpo, ← List.append_assoc] at h
            exact h)
          clear HST hpo hown hb
          have hrow := hown1.lt
          go_upto_region 9 with (fail)
          have e0 : (wr.alloc (.cells #[.int .i64 (m : Int), .int .i64 pn] 44)).cell? ⟨wr.heap.size, 0, none⟩ = some (.int .i64 (m : Int)) := by rw [cell_of_row _ _ _ _ _ _ hnew]; rfl
          generalize wr.alloc (.cells #[.int .i64 (m : Int), .int .i64 pn] 44) = w3 at *
          clear d0 d1 hnew
          go_wp2_with (at_builtin; refine wpList_append_lies _ (by rfl) _ _ 74 (by rfl) w2.heap.size 76 i0 _ 2 16 Tryz.underlying74 hi0 hz0 hz1 hz2 rfl (by omega) u8 os.length _ (by rfl) (hown1.alloc _) ⟨w3.heap.size, 0, none⟩ 1 1 [_, _] (by rfl) (by rfl) (World.news_of_block (cs := #[_, _]) (t := 76) (fr := (0, 0)) (heap_alloc_new w3 _)) (by simp [Value.oneCell']) (by omega) (by unfold maxLen; omega) (by omega) (by have := hbw.size; simp; omega) (w3.heap.size + 1) (by simp) ?_; intro gg cap w6 hown6 hgrow hat hlt6)
          rw [prsV_snoc] at hown6
          have hown7 : w6.ownsRow w2.heap.size 76 2 (.slice (some ⟨gg, 0, none⟩) (os.length + 1) cap) (os ++ [(k, m)]).length (prsV (os ++ [(k, m)])) := by rw [List.length_append, List.length_singleton]; exact hown6
          have hb6 : Below w2.heap.size w2 w6 := grown_own0 (hbw.alloc hbw.size _) hgrow (fun q' hq' => (hrow q' hq').1)
          clear hown6 hgrow hat hlt6 hown1 hbw hrow
          go_roundw
          case rel => exact ⟨k + 1, os ++ [(k, m)], by omega, by go_num, by simp; omega, hown7, HS2.out, hb6⟩
          case measure => first | (simp [intOf]; done) | (simp [intOf]; omega)
        · have b2 : decide ((0 : Int) ≤ po) = false := decide_eq_false hpo
          have HS2 := Lib.hid (show KK = os ++ Pc.invK (PL.drop (k + 1)) (k + 1) by
            have h := HST.out
            rw [if_neg hpo, List.nil_append] at h
            exact h)
          clear HST hpo hown hb hnew
          go_wp2_with fail
          go_roundw
          case rel => exact ⟨k + 1, os, by omega, by go_num, by omega, hown1, HS2.out, hbw⟩
          case measure => first | (simp [intOf]; done) | (simp [intOf]; omega)
      · have b1 : decide ((k : Int) < PL.length) = false := by simp; omega
        have b1n : decide (k < PL.length) = false := by simp; omega
        have hke : os = KK := by rw [HK1.out, List.drop_of_length_le (by omega)]; simp [Pc.invK]
        subst hke
        obtain ⟨A4, c4, rfl, hK4⟩ := owns_prs hown
        have hb0r := hb02.trans (hb.mono hb02.size)
        obtain ⟨_, _, _, k0, k1, kr⟩ := HW.out _ hb0r
        clear HK1 hown hb hb02 hPL2
        have hbx : ∀ x : List UInt8, x = p.base → True := fun _ _ => trivial
        clear hbx
        go_upto_if 43 with (fail)
        go_cut [11] (fun s11 wx => s11 = .string (str (if p.base = [] then [] else Pc.dig rs)) ∧ Below wr.heap.size wr wx)
        case first =>
          by_cases hbe : p.base = []
          · have q3 : (!(str p.base).toList.isEmpty) = false := by rw [str_list, hbe]; rfl
            rw [q3]
            have HE := Lib.hid hbe
            clear hbe
            go_wp2_with fail
            go_meet
            exact ⟨by rw [if_pos HE.out]; rfl, Below.refl _ _⟩
          · have q3 : (!(str p.base).toList.isEmpty) = true := by rw [str_list]; cases hq : p.base with | nil => exact absurd hq hbe | cons _ _ => rfl
            rw [q3]
            have HE := Lib.hid hbe
            have hsm := Dg.sum_any (str rs) wr (HW.out _ hb0r).2.2.1.consts (by rw [str_size]; omega)
            rw [digS_str] at hsm
            clear hbe
            go_wp2_with fail
            with_reducible refine hsm.mono ?_
            clear hsm
            rintro x w5 ⟨rfl, hb5⟩
            go_wp2_with fail
            go_meet
            exact ⟨by rw [if_neg HE.out]; rfl, hb5⟩
        case rest =>
        obtain ⟨rfl, hbc⟩ := hcut
        have hb0c := hb0r.trans (hbc.mono hb0r.size)
        have hKc := hK4.next hbc
        have hke := keeping_any (if p.base = [] then [] else Pc.dig rs) (str rs) s b a A4 c4 os wc (HW.out _ hb0c).2.2.1 HLO.out.now HLO.out.old (by rw [str_size]; omega) hs hKc HMT.out hkl (by have := HDG.out; omega)
        rw [← HT2.out] at hke
        generalize (if p.base = [] then [] else Pc.dig rs) = bs at *
        clear k0 k1 kr hK4 hKc hb0r hbc HDG HMT HLO HT2
        go_wp2_with fail
        with_reducible refine hke.mono ?_
        clear hke
        rintro x w6 ⟨A6, c6, rfl, hH6, hb6⟩
        have hb06 := hb0c.trans (hb6.mono hb0c.size)
        obtain ⟨hbW, _, _, _, _, kr⟩ := HW.out _ hb06
        obtain ⟨q1, q2, r0, r1, f0, f1⟩ := fin_patch (.string (str R.1.base)) (.slice A6 R.1.hs.length c6) (Nat.le_succ _) kr hbW hH6
        have Q1 := Lib.hid q1
        have Q2 := Lib.hid q2
        rw [paV_def]
        clear q1 q2 kr hbW hH6 hb6 hb06 hb0c
        go_wp2_with fail
        exact bodyPost_ret (v := .tuple #[.agg #[.string (str R.1.base), .slice A6 R.1.hs.length c6], .int .i64 R.2]) (by simp [results, Tryz.results24, go_sem, r0, r1]) rfl ⟨A6, c6, rfl, Q1.out, Q2.out⟩
end Go.Proofs.YtlfgnecfabdkmaaGreatDoor
