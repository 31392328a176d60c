/- Applying a patch, of the reference. No condition but the lengths. -/
import Derived.Test.YtlfgnecfabdkmaaGreatDoorQtr
import Derived.Test.YtlfgnecfabdkmaaGreatDoorPz3
import Derived.Test.YtlfgnecfabdkmaaGreatDoorIn2
import Derived.Test.YtlfgnecfabdkmaaGreatDoorPar
namespace Go.Proofs.YtlfgnecfabdkmaaGreatDoor
open Go.RowKit Go.Deep Tr

/-- What apply of the reference returns: the lines of the result, and those of the text. -/
def GotAp (w : World) (p : Pc.Pa) (d : List UInt8) : Ending → World → Prop := fun e w' => ∃ v1 v2 : Value, e = .returned (.tuple #[v1, v2, .int .i64 (Pc.apply p d).2]) ∧ Below w.heap.size w w' ∧ ((Pc.apply p d).2 ≠ 0 ∨ ∃ (s : List UInt8) (a b : List (List UInt8)) (A1 A2 : Option Addr) (c1 c2 : Nat), Pc.apply p d = (s, 0) ∧ Pc.Led p d s a b ∧ v1 = .slice A1 b.length c1 ∧ v2 = .slice A2 a.length c2 ∧ CellsAt w' w'.heap.size A1 (strs b) ∧ CellsAt w' w'.heap.size A2 (strs a) ∧ b.length ≤ c1 ∧ c1 ≤ maxLen ∧ a.length ≤ c2 ∧ c2 ≤ maxLen)
theorem apply_valid {p : Pc.Pa} {d : List UInt8} (h : Pc.valid p = false) : Pc.apply p d = ([], 1) := by rw [apply_def, if_pos h]
namespace Pc
theorem change_length : ∀ (hs : List Hk) (l : List (List UInt8)), (∀ h ∈ hs, isHunk h = true) → eats hs ≤ l.length → (change hs l).length = puts hs
  | [], l, _, _ => rfl
  | h :: t, l, hh, he => by
    obtain ⟨⟨n1, n2⟩, hk, hls⟩ := isHunk_num (hh h (by simp))
    have ht : ∀ x ∈ t, isHunk x = true := fun x hx => hh x (by simp [hx])
    have h3 : h.kind = 3 → (h.ls.length : Int) = h.n := fun e => ((isHunk_ls (hh h (by simp))).1 e).symm
    rw [eats] at he
    rw [change, puts]
    rcases hk with e | e | e
    · simp only [e] at he ⊢
      have := change_length t (l.drop h.n.toNat) ht (by rw [List.length_drop]; simp at he; omega)
      simp at he ⊢
      omega
    · simp only [e] at he ⊢
      have := change_length t (l.drop h.n.toNat) ht (by rw [List.length_drop]; simp at he; omega)
      simp at he ⊢
      omega
    · simp only [e] at he ⊢
      have := change_length t l ht (by simp at he; omega)
      have := h3 e
      simp at he ⊢
      omega
theorem join_ten {p : Pa} {data : List UInt8} {a : List (List UInt8)} (hv : valid p = true) (hl : Tre.lines data = (a, 0)) (hn : cnt 1 p.hs + cnt 2 p.hs = a.length) (h : (Tre.join (change p.hs a)).2 ≠ 0) : (Tre.join (change p.hs a)).2 = 10 := by
  obtain ⟨v1, v2, v3, v4, v5, v6, v7, v8⟩ := valid_all hv
  obtain ⟨e1, e2⟩ := eats_cnt p.hs v2
  have hlen := change_length p.hs a v2 (by omega)
  have hp : ¬ (change p.hs a = [] ∨ ((change p.hs a).any fun s => s.contains 10) = true) := by
    rintro (e | e)
    · rw [e, List.length_nil] at hlen; omega
    · obtain ⟨x, hx, hc⟩ := List.any_eq_true.1 e
      rcases change_mem p.hs a x hx with hm | ⟨z, hz, hm⟩
      · have hs := (lines_ok hl).2.2.2.2.2
        rw [hs] at hm
        rw [pure_iff.2 (Tre.split_pure 10 data x hm)] at hc; cases hc
      · have hj := (valid_parts hv).2.2
        unfold Tre.join at hj
        split at hj
        · cases hj
        · rename_i hq
          refine hq (.inr (List.any_eq_true.2 ⟨x, ?_, hc⟩))
          unfold printL
          exact List.mem_append_right _ (body_mem p.hs z hz x hm)
  unfold Tre.join at h ⊢
  rw [if_neg hp] at h ⊢
  split
  · rfl
  · rename_i hq; rw [if_neg hq] at h; exact absurd rfl h
end Pc
/-- The lines that the places name, one by one. -/
theorem says_lines {p : Pc.Pa} {a : List (List UInt8)} (hv : Pc.valid p = true) (hl : Pc.cnt 1 p.hs + Pc.cnt 2 p.hs = a.length) : Pc.Says a (Pc.printL p) 0 (Pc.placesOf p) (Pc.change p.hs a) := by
  obtain ⟨v1, v2, v3, v4, v5, v6, v7, v8⟩ := valid_all hv
  have h := Pc.says_change a (Pc.printL p) p.hs 0 (if p.base = [] then 0 else 1) v2 (by omega) (by
    unfold Pc.printL
    by_cases e : p.base = []
    · rw [if_pos e, if_pos e]; rfl
    · rw [if_neg e, if_neg e]; rfl)
  rw [List.drop_zero] at h
  exact h
theorem join_bad {l : List (List UInt8)} (h : (Tre.join l).2 ≠ 0) : (Tre.join l).1 = [] := by
  unfold Tre.join at h ⊢
  split
  · rfl
  · split
    · rfl
    · rename_i h1 h2
      rw [if_neg h1, if_neg h2] at h
      exact absurd rfl h
set_option maxHeartbeats 16000000 in
set_option maxRecDepth 100000 in
theorem qapply_any (p : Pc.Pa) (A : Option Addr) (c : Nat) (s : ByteArray) (w : World) (hP : PaOk w p A) (hs : s.size ≤ 1000000) :
    Calls Tryz.prog 53 #[paV p A c, .string s] w (GotAp w p s.data.toList) := by
  have hb0 : Below w.heap.size w (w.alloc (.cells #[.string (str p.base), .slice A p.hs.length c] 24)) := (Below.refl _ _).alloc (Nat.le_refl _) _
  have bx0 : Bp (w.alloc (.cells #[.string (str p.base), .slice A p.hs.length c] 24)) w.heap.size p A c := heap_alloc_new w _
  have HW := Lib.hid (show ∀ w', Below (w.alloc (.cells #[.string (str p.base), .slice A p.hs.length c] 24)).heap.size (w.alloc (.cells #[.string (str p.base), .slice A p.hs.length c] 24)) w' → Below w.heap.size w w' ∧ PaOk w' p A ∧ Bp w' w.heap.size p A c from fun w' h => ⟨hb0.trans (h.mono hb0.size), hP.next (hb0.trans (h.mono hb0.size)), bx0.next h⟩)
  have hbb0 := Below.refl (w.alloc (.cells #[.string (str p.base), .slice A p.hs.length c] 24)).heap.size (w.alloc (.cells #[.string (str p.base), .slice A p.hs.length c] 24))
  have HD := Lib.hid (apply_def p s.data.toList)
  have HLD := Lib.hid (fun t h => Pc.led_of (p := p) (data := s.data.toList) (s := t) h)
  have HSY := Lib.hid (fun a (hv : Pc.valid p = true) hl => says_lines (p := p) (a := a) hv hl)
  have HVA := Lib.hid (fun h => valid_all (p := p) h)
  have HVL := Lib.hid (fun h => Pc.valid_len (p := p) h)
  have hcall := qValid_any p A c _ (HW.out _ hbb0).2.1
  obtain ⟨k0, k1⟩ := (HW.out _ hbb0).2.2.cells
  have HPL := Lib.hid (fun h => (Pc.shape_len (Pc.valid_parts (p := p) h).1))
  have HTD := Lib.hid (fun n => trace_def p n)
  rw [paV_def] at hcall ⊢
  clear hb0 bx0 hP
  cases hv : Pc.valid p with
  | false =>
    rw [hv] at hcall
    have HE := Lib.hid (HD.out.trans (if_pos hv))
    clear HD hv HVA HPL HVL HSY HLD HTD
    go_enter Tryz.func53, Tryz.ntmps53
    go_wp2_with fail
    with_reducible refine hcall.mono ?_
    clear hcall k0 k1
    rintro x w1 ⟨rfl, hb1⟩
    have hres := (HW.out _ hb1).1
    go_wp2_with fail
    go_ret3
    exact ⟨_, _, by rw [HE.out]; rfl, hres, .inl (by rw [HE.out]; decide)⟩
  | true =>
  rw [hv] at hcall
  have HD1 := Lib.hid (HD.out.trans (if_neg (by rw [hv]; simp)))
  have HV := Lib.hid hv
  clear HD hv
  go_enter Tryz.func53, Tryz.ntmps53
  go_wp2_with fail
  with_reducible refine hcall.mono ?_
  clear hcall k0 k1
  rintro x w1 ⟨rfl, hb1⟩
  have HB1 := Lib.hid hb1
  have cl := qLines_any s w1 (by omega)
  clear hb1
  go_wp2_with fail
  with_reducible refine cl.mono ?_
  clear cl
  rintro x w2 ⟨v2, rfl, ho2, hb2⟩
  have hb02 := HB1.out.trans (hb2.mono HB1.out.size)
  clear HB1 hb2
  rcases lines_cases s.data.toList with ⟨he, hl⟩ | ⟨a, hl, a1, a2, a3⟩
  · have HE := Lib.hid (show Pc.apply p s.data.toList = ([], 10) by rw [HD1.out, if_pos he, hl])
    have hres := (HW.out _ hb02).1
    rw [hl] at ho2 ⊢
    clear HD1 he hl HVA HPL HVL HSY HLD HTD ho2 hb02
    go_wp2_with fail
    go_ret3
    exact ⟨_, _, by rw [HE.out]; rfl, hres, .inl (by rw [HE.out]; decide)⟩
  have HD2 := Lib.hid (show Pc.apply p s.data.toList = if Pc.cnt 1 p.hs + Pc.cnt 2 p.hs ≠ (a.length : Int) ∨ (p.base ≠ [] ∧ p.base ≠ Pc.dig s.data.toList) then ([], 9) else Tre.join (Pc.change p.hs a) by
    have h := HD1.out
    rw [hl] at h
    simpa using h)
  rw [hl] at ho2 ⊢
  dsimp only at ho2 ⊢
  obtain ⟨g2, c2, rfl, _, hg2, hc2, hcm2, _⟩ := own_pos ho2 (by omega)
  obtain ⟨A2, cc2, he2, hA2⟩ := owns_cells ho2
  injection he2 with he2 _ he2c
  subst he2 he2c
  have HLL := Lib.hid hl
  have HA2 := Lib.hid hA2
  obtain ⟨hbw2, hP2, bx2⟩ := HW.out _ hb02
  have ct := qTrace_any p A c (a.length : Int) w2 hP2
  rw [paV_def] at ct
  obtain ⟨k0, k1⟩ := bx2.cells
  have HB2 := Lib.hid hb02
  clear HD1 hl ho2 hA2 hbw2 hP2 bx2 hb02
  go_wp2_with fail
  with_reducible refine ct.mono ?_
  clear ct k0 k1
  rintro x w3 ⟨v3, rfl, ho3, hb3⟩
  have hb03 := HB2.out.trans (hb3.mono HB2.out.size)
  have HA3 := Lib.hid (HA2.out.next hb3)
  have HT1 := Lib.hid (HTD.out (a.length : Int))
  clear HB2 hb3 HA2 HTD
  by_cases hn : Pc.cnt 1 p.hs + Pc.cnt 2 p.hs ≠ (a.length : Int)
  · have HT2 := Lib.hid (show Pc.trace p (a.length : Int) = ([], 9) by rw [HT1.out, if_neg (by rw [HV.out]; simp), if_pos hn])
    have HE := Lib.hid (show Pc.apply p s.data.toList = ([], 9) by rw [HD2.out, if_pos (.inl hn)])
    have hres := (HW.out _ hb03).1
    rw [HT2.out] at ho3 ⊢
    obtain ⟨k0, k1⟩ := (HW.out _ hb03).2.2.cells
    clear HD2 hn HVA HPL HVL HSY HLD HT1 HT2 ho3 hb03
    go_wp2_with fail
    go_quiet (fail)
    go_wp2_with fail
    go_ret3
    exact ⟨_, _, by rw [HE.out]; rfl, below_drewN hres nq, .inl (by rw [HE.out]; decide)⟩
  have HT2 := Lib.hid (show Pc.trace p (a.length : Int) = (Pc.placesOf p, 0) by rw [HT1.out, if_neg (by rw [HV.out]; simp), if_neg hn])
  have HSAY := Lib.hid (HSY.out a HV.out (by omega))
  rw [HT2.out] at ho3 ⊢
  dsimp only at ho3 ⊢
  clear HT1 HT2 HSY
  obtain ⟨A3, c3, rfl, hPL3⟩ := owns_pls ho3
  obtain ⟨hbw3, hP3, bx3⟩ := HW.out _ hb03
  obtain ⟨k0, k1⟩ := bx3.cells
  have HB3 := Lib.hid hb03
  have HP3 := Lib.hid hP3
  have hblt := blk_lt bx3
  have HPL3 := Lib.hid hPL3
  have HD3 := Lib.hid (show Pc.apply p s.data.toList = if p.base ≠ [] ∧ p.base ≠ Pc.dig s.data.toList then ([], 9) else Tre.join (Pc.change p.hs a) by
    rw [HD2.out]
    by_cases e : p.base ≠ [] ∧ p.base ≠ Pc.dig s.data.toList
    · rw [if_pos e, if_pos (.inr e)]
    · rw [if_neg e, if_neg (fun h => h.elim hn e)])
  have HTEN := Lib.hid (show (Tre.join (Pc.change p.hs a)).2 ≠ 0 → (Tre.join (Pc.change p.hs a)).2 = 10 from fun h => Pc.join_ten HV.out HLL.out (by omega) h)
  obtain ⟨u1, u2, u3⟩ := HPL.out HV.out
  clear HD2 hn ho3 hb03 hbw3 hP3 bx3 hPL3 HPL HVA HVL
  go_upto_region 7 with (fail)
  go_cut [45] (fun s46 wx => Below w3.heap.size w3 wx ∧ ((s46 = .bool false ∧ ¬ (p.base ≠ [] ∧ p.base ≠ Pc.dig s.data.toList)) ∨ (s46 = .bool true ∧ (p.base ≠ [] ∧ p.base ≠ Pc.dig s.data.toList))))
  case first =>
    by_cases hbe : p.base = []
    · have q3 : (!(str p.base).toList.isEmpty) = false := by rw [str_list, hbe]; rfl
      have HE := Lib.hid hbe
      clear hbe
      go_quiet (fail)
      go_wp2_with fail
      go_meet
      exact ⟨below_drewN (Below.refl w3.heap.size w3) nq, .inl ⟨rfl, fun h => h.1 HE.out⟩⟩
    · have q3 : (!(str p.base).toList.isEmpty) = true := by rw [str_list]; cases hq : p.base with | nil => exact absurd hq hbe | cons _ _ => rfl
      have hsm : Calls Tryz.prog 56 #[.string s] w3.drew fun e w' => e = .returned (.string (Dg.digS s)) ∧ Below w3.drew.heap.size w3.drew w' := Dg.refSum_any s w3.drew hs
      rw [digS_str] at hsm
      obtain ⟨bb, q4⟩ : ∃ bb, ((str p.base).toList != (str (Pc.dig s.data.toList)).toList) = bb := ⟨_, rfl⟩
      have q5 : ((str p.base).toList == (str (Pc.dig s.data.toList)).toList) = !bb := by rw [← q4, bne, Bool.not_not]
      have HE := Lib.hid (show (bb = false ∧ ¬ (p.base ≠ [] ∧ p.base ≠ Pc.dig s.data.toList)) ∨ (bb = true ∧ (p.base ≠ [] ∧ p.base ≠ Pc.dig s.data.toList)) by
        rw [str_list, str_list] at q4
        cases bb with
        | false => exact .inl ⟨rfl, fun h => h.2 (by simpa [bne] using q4)⟩
        | true => exact .inr ⟨rfl, hbe, by simpa [bne] using q4⟩)
      clear hbe
      generalize Pc.dig s.data.toList = dg at *
      generalize hpb : str p.base = pb at *
      clear hpb
      generalize str dg = ds at *
      go_region_with (go_at_call 56; (with_reducible refine hsm.mono ?_); rintro e w4 ⟨rfl, hb4⟩; have e0 := (hb4.cell (p := ⟨w.heap.size, 0, none⟩) hblt).trans k0)
      all_goals
        go_wp2_with fail
        go_meet
        refine ⟨(Below.refl w3.heap.size w3).drew.trans hb4, ?_⟩
        rcases HE.out with ⟨rfl, h⟩ | ⟨rfl, h⟩
        · exact .inl ⟨by first | rfl | simp, h⟩
        · exact .inr ⟨by first | rfl | simp, h⟩
  case rest =>
  obtain ⟨hbc3, ⟨rfl, hne⟩ | ⟨rfl, hne⟩⟩ := hcut
  case inr =>
    have HE := Lib.hid (HD3.out.trans (if_pos hne))
    have hres := (HW.out _ (HB3.out.trans (hbc3.mono HB3.out.size))).1
    clear HD3 hne HSAY hbc3
    go_wp2_with fail
    go_ret3
    exact ⟨_, _, by rw [HE.out]; rfl, hres, .inl (by rw [HE.out]; decide)⟩
  have HE := Lib.hid (HD3.out.trans (if_neg hne))
  have hb0c := HB3.out.trans (hbc3.mono HB3.out.size)
  obtain ⟨hbwc, hPc, bxc⟩ := HW.out _ hb0c
  have cq := qlines_any p A c wc hPc u3 u1 u2 (Pc.valid_parts HV.out).2.1
  rw [paV_def] at cq
  obtain ⟨m0, m1⟩ := bxc.cells
  have HBC := Lib.hid hb0c
  have HB3C := Lib.hid hbc3
  have hpl3 : (Pc.printL p).length ≤ 1024 := Pc.join_len (Pc.valid_parts HV.out).2.2
  clear HD3 hne k0 k1 hbwc hPc bxc hb0c hbc3
  have HCL := Lib.hid (show ∀ l ∈ Pc.change p.hs a, l.length ≤ 1000000000 from fun l hl => by
    rcases change_mem p.hs a l hl with h | ⟨h, hh, hl⟩
    · have := a3 l h
      rw [size_data] at this
      omega
    · have := HP3.out.each h hh l hl; omega)
  generalize Pc.printL p = PR at *
  go_wp2_with fail
  with_reducible refine cq.mono ?_
  clear cq m0 m1
  rintro x wd ⟨vd, rfl, hod, hbd⟩
  obtain ⟨Ad, cd, rfl, hAd⟩ := owns_cells hod
  have HBD := Lib.hid (HBC.out.trans (hbd.mono HBC.out.size))
  have hPLd := HPL3.out.next (HB3C.out.trans (hbd.mono HB3C.out.size))
  have hAad := (HA3.out.next HB3C.out).next hbd
  have HSL := Lib.hid HSAY.out.len
  have hpls : (Pc.placesOf p).length ≤ 4096 := by
    have h1 := change_len p.hs a u3
    have h2 := (Pc.eats_cnt p.hs u3).2
    have h3 := (valid_all HV.out).2.2.2.2
    have := HSL.out
    omega
  have HSY := Lib.hid HSAY.out.at_
  clear HSAY hod hbd HBC HB3C HPL3 HA3
  generalize Pc.placesOf p = PL at *
  generalize hch : Pc.change p.hs a = ch at *
  have HCH := Lib.hid hch
  clear hch
  obtain ⟨i0, hi0, hz0, hz1, hz2⟩ := info_parts infoS
  have hbb := Below.refl wd.heap.size wd
  go_wp2_with fail
  go_loopw [11, 50] (fun s11 s50 wr => ∃ k : Nat, k ≤ PL.length ∧ s50 = .int .i64 k ∧ wr.ownsRow wd.heap.size 9 1 s11 (ch.take k).length (strs (ch.take k)) ∧ Below wd.heap.size wd wr) (fun _ s50 _ => PL.length - (intOf s50).toNat)
  case atStart => exact ⟨0, by omega, rfl, by rw [List.take_zero]; exact World.ownsRow_nil _ _ _ _, hbb⟩
  case round =>
    clear hbb
    obtain ⟨k, hk, rfl, hown, hb⟩ := hrel
    have HCK := Lib.hid (show (ch.take k).length = k by rw [List.length_take]; have := HSL.out; omega)
    have hckl : (ch.take k).length ≤ 4096 := by have := HCK.out; omega
    by_cases hlt : k < PL.length
    · have b1 : decide ((k : Int) < PL.length) = true := by simp; omega
      have b1n : decide (k < PL.length) = true := by simp; omega
      obtain ⟨g, o, rfl, hg, h0, h1⟩ := hPLd k hlt
      have d0 := (hb.cell (p := ⟨g, o + k * 2, none⟩) hg).trans h0
      have d1 := (hb.cell (p := ⟨g, o + k * 2 + 1, none⟩) hg).trans h1
      have hsk := HSY.out k hlt (by have := HSL.out; omega)
      have HTS := Lib.hid (List.take_succ_eq_append_getElem (show k < ch.length by have := HSL.out; omega))
      clear h0 h1
      generalize PL[k] = pl at *
      generalize ch[k] = ck at *
      obtain ⟨po, pn⟩ := pl
      dsimp only at d0 d1
      have hown1 := hown.alloc (.cells #[.int .i64 po, .int .i64 pn] 44)
      have hbw : Below wd.heap.size wd (wr.alloc (.cells #[.int .i64 po, .int .i64 pn] 44)) := hb.alloc hb.size _
      have hnew := heap_alloc_new wr (.cells #[.int .i64 po, .int .i64 pn] 44)
      have hrow := hown1.lt
      clear hown hb
      go_upto_region 14 with (fail)
      have e0 : (wr.alloc (.cells #[.int .i64 po, .int .i64 pn] 44)).cell? ⟨wr.heap.size, 0, none⟩ = some (.int .i64 po) := by rw [cell_of_row _ _ _ _ _ _ hnew]; rfl
      have e1 : (wr.alloc (.cells #[.int .i64 po, .int .i64 pn] 44)).cell? ⟨wr.heap.size, 1, none⟩ = some (.int .i64 pn) := by rw [cell_of_row _ _ _ _ _ _ hnew]; rfl
      generalize wr.alloc (.cells #[.int .i64 po, .int .i64 pn] 44) = w5 at *
      clear d0 d1 hnew
      rcases hsk with ⟨i, hi, hai⟩ | ⟨i, hi, hai⟩
      · injection hi with hi1 hi2
        subst hi1 hi2
        have hia : i < a.length := (List.getElem?_eq_some_iff.1 hai).1
        have hie : a[i] = ck := (List.getElem?_eq_some_iff.1 hai).2
        have b2 : decide ((0 : Int) ≤ (i : Int)) = true := by simp
        have g1 : (i : Int) < (a.length : Int) := by omega
        obtain ⟨ga, oa, hae, hga, hca⟩ := hAad i (by rw [strs_len]; exact hia)
        injection hae with hae
        injection hae with hae1 hae2
        subst hae1 hae2
        rw [strs_get a i hia, hie, Nat.zero_add] at hca
        have hc5 := (hbw.cell (p := ⟨g2, i, none⟩) hga).trans hca
        clear hca hie hai
        go_wp2_with (at_builtin; refine wpList_append_lies _ (by rfl) _ _ 50 (by rfl) wd.heap.size 9 i0 _ 1 16 Tryz.underlying50 hi0 hz0 hz1 hz2 rfl (by omega) u11 (ch.take k).length _ (by rfl) (hown1.alloc _) ⟨w5.heap.size, 0, none⟩ 1 1 [_] (by rfl) (by rfl) (World.news_of_block (cs := #[_]) (t := 9) (fr := (0, 0)) (heap_alloc_new w5 _)) (by simp [Value.oneCell']) (by omega) (by unfold maxLen; omega) (by omega) (by have := hbw.size; simp; omega) (w5.heap.size + 1) (by simp) ?_; intro gg cap w6 hown6 hgrow hat hlt6)
        rw [strs_snoc, ← HTS.out] at hown6
        have hown7 : w6.ownsRow wd.heap.size 9 1 (.slice (some ⟨gg, 0, none⟩) ((ch.take k).length + 1) cap) (ch.take (k + 1)).length (strs (ch.take (k + 1))) := by rw [show (ch.take (k + 1)).length = (ch.take k).length + 1 by rw [List.length_take, List.length_take]; have := HSL.out; omega]; exact hown6
        have hb6 : Below wd.heap.size wd w6 := grown_own0 (hbw.alloc hbw.size _) hgrow (fun q' hq' => (hrow q' hq').1)
        clear hown6 hgrow hat hlt6 hown1 hbw hrow
        go_roundw
        case rel => exact ⟨k + 1, by omega, by go_num, by rw [List.length_take (i := k)] at hown7; exact hown7, hb6⟩
        case measure => first | (simp [intOf]; done) | (simp [intOf]; omega)
      · injection hi with hi1 hi2
        subst hi1 hi2
        have hia : i < PR.length := (List.getElem?_eq_some_iff.1 hai).1
        have hie : PR[i] = ck := (List.getElem?_eq_some_iff.1 hai).2
        have b2 : decide ((0 : Int) ≤ (-1 : Int)) = false := by decide
        have g1 : (i : Int) < (PR.length : Int) := by omega
        obtain ⟨ga, oa, rfl, hga, hca⟩ := hAd i (by rw [strs_len]; exact hia)
        rw [strs_get PR i hia, hie] at hca
        have hc5 := (hbw.cell (p := ⟨ga, oa + i, none⟩) hga).trans hca
        clear hca hie hai
        go_wp2_with (at_builtin; refine wpList_append_lies _ (by rfl) _ _ 50 (by rfl) wd.heap.size 9 i0 _ 1 16 Tryz.underlying50 hi0 hz0 hz1 hz2 rfl (by omega) u11 (ch.take k).length _ (by rfl) (hown1.alloc _) ⟨w5.heap.size, 0, none⟩ 1 1 [_] (by rfl) (by rfl) (World.news_of_block (cs := #[_]) (t := 9) (fr := (0, 0)) (heap_alloc_new w5 _)) (by simp [Value.oneCell']) (by omega) (by unfold maxLen; omega) (by omega) (by have := hbw.size; simp; omega) (w5.heap.size + 1) (by simp) ?_; intro gg cap w6 hown6 hgrow hat hlt6)
        rw [strs_snoc, ← HTS.out] at hown6
        have hown7 : w6.ownsRow wd.heap.size 9 1 (.slice (some ⟨gg, 0, none⟩) ((ch.take k).length + 1) cap) (ch.take (k + 1)).length (strs (ch.take (k + 1))) := by rw [show (ch.take (k + 1)).length = (ch.take k).length + 1 by rw [List.length_take, List.length_take]; have := HSL.out; omega]; exact hown6
        have hb6 : Below wd.heap.size wd w6 := grown_own0 (hbw.alloc hbw.size _) hgrow (fun q' hq' => (hrow q' hq').1)
        clear hown6 hgrow hat hlt6 hown1 hbw hrow
        go_roundw
        case rel => exact ⟨k + 1, by omega, by go_num, by rw [List.length_take (i := k)] at hown7; exact hown7, hb6⟩
        case measure => first | (simp [intOf]; done) | (simp [intOf]; omega)
    · have b1 : decide ((k : Int) < PL.length) = false := by simp; omega
      have b1n : decide (k < PL.length) = false := by simp; omega
      rw [List.take_of_length_le (show ch.length ≤ k by have := HSL.out; omega)] at hown hckl
      clear HCK
      obtain ⟨A5, c5, rfl, hA5⟩ := owns_cells hown
      obtain ⟨hc5, hc5m⟩ := own_capS hown
      have cj := qJoin_any A5 c5 ch wr hA5 (by have := HSL.out; omega) HCL.out hc5
      rw [joinV_def] at cj
      have HBR := Lib.hid (HBD.out.trans (hb.mono HBD.out.size))
      have hAar := hAad.next hb
      clear hown hAd hAad hPLd HSY hb
      by_cases hj : (Tre.join ch).2 = 0
      · have hj2 : Tre.join ch = ((Tre.join ch).1, 0) := Prod.ext rfl hj
        obtain ⟨t, ht⟩ : ∃ t, Tre.join ch = (t, 0) := ⟨_, hj2⟩
        have HE2 := Lib.hid (show Pc.apply p s.data.toList = (t, 0) by rw [HE.out, ht])
        rw [ht] at cj
        dsimp only at cj
        clear hj hj2
        go_wp2_with fail
        with_reducible refine cj.mono ?_
        clear cj
        rintro e w6 ⟨rfl, hb6⟩
        have hA6 := hA5.next hb6
        have hAa6 := hAar.next hb6
        have hres := (HW.out _ (HBR.out.trans (hb6.mono HBR.out.size))).1
        clear hA5 hAar hb6
        go_wp2_with fail
        go_ret3
        refine ⟨_, _, by rw [HE2.out]; rfl, hres, .inr ?_⟩
        obtain ⟨a', b', L⟩ := HLD.out t HE2.out
        obtain rfl : a' = a := by have h := L.old; rw [HLL.out] at h; exact (Prod.mk.inj h).1.symm
        obtain rfl : b' = ch := by rw [← HCH.out]; exact L.chg
        exact ⟨t, a', b', _, _, _, _, HE2.out, L, rfl, rfl, hA6, hAa6, hc5, hc5m, by omega, hcm2⟩
      · have HE2 := Lib.hid (show Pc.apply p s.data.toList = ([], 10) by rw [HE.out]; exact Prod.ext (join_bad hj) (HTEN.out hj))
        have n1 : ((Tre.join ch).2 != 0) = true := bne_iff_ne.2 hj
        have n2 := HTEN.out hj
        clear hj
        generalize Tre.join ch = J at *
        go_wp2_with fail
        with_reducible refine cj.mono ?_
        clear cj
        rintro e w6 ⟨rfl, hb6⟩
        have hres := (HW.out _ (HBR.out.trans (hb6.mono HBR.out.size))).1
        clear hb6 hA5 hAar n2
        go_wp2_with fail
        go_ret3
        exact ⟨_, _, by rw [HE2.out]; rfl, hres, .inl (by rw [HE2.out]; decide)⟩
end Go.Proofs.YtlfgnecfabdkmaaGreatDoor
