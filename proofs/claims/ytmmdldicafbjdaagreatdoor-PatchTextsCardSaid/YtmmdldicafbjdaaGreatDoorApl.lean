/- Apply of the program. Condition: the tables of digest, codec and the library lie. -/
import Derived.Test.YtmmdldicafbjdaaGreatDoorPrt
import Derived.Test.YtmmdldicafbjdaaGreatDoorChg
import Derived.Test.YtmmdldicafbjdaaGreatDoorTrFnd
import Derived.BigQuiet
import Derived.Deep.QuietTactic
import Derived.Deep.RegionWith
namespace Go.Proofs.YtmmdldicafbjdaaGreatDoor
open Go.RowKit Go.Deep Tr

/-- The variables that the program reads. -/
structure IdAt (w : World) : Prop where
  max : MaxAt w
  consts : Dg.Consts w
  tabs : Cd.Tabs w
theorem IdAt.below {w w' : World} (h : IdAt w) (hb : Below w.heap.size w w') : IdAt w' := ⟨h.max.below hb, h.consts.below hb, h.tabs.below hb⟩
theorem apply_def (p : Pc.Pa) (data : List UInt8) : Pc.apply p data = if Pc.valid p = false then ([], 1)
      else if (Tre.lines data).2 ≠ 0 then ([], (Tre.lines data).2)
      else if Pc.cnt 1 p.hs + Pc.cnt 2 p.hs ≠ ((Tre.lines data).1.length : Int) ∨ (p.base ≠ [] ∧ p.base ≠ Pc.dig data) then ([], 9)
      else Tre.join (Pc.change p.hs (Tre.lines data).1) := rfl
theorem change_len : ∀ (hs : List Pc.Hk) (l : List (List UInt8)), (∀ h ∈ hs, Pc.isHunk h = true) → (Pc.change hs l).length ≤ Pc.puts hs
  | [], _, _ => by simp [Pc.change, Pc.puts]
  | h :: t, l, hh => by
    have ih := fun l => change_len t l fun x hx => hh x (by simp [hx])
    have h1 := hh h (by simp)
    obtain ⟨_, hk, hl⟩ := Pc.isHunk_num h1
    have i1 := ih (l.drop h.n.toNat)
    have i2 := ih l
    rw [Pc.change, Pc.puts]
    rcases hk with e | e | e
    · rw [if_pos e, if_pos (.inl e), List.length_append, List.length_take]; omega
    · rw [if_neg (by omega), if_pos e, if_neg (by omega)]; omega
    · rw [if_neg (by omega), if_neg (by omega), if_pos e, if_pos (.inr e), List.length_append]; omega
theorem change_mem : ∀ (hs : List Pc.Hk) (l : List (List UInt8)) (x : List UInt8), x ∈ Pc.change hs l → x ∈ l ∨ ∃ h ∈ hs, x ∈ h.ls
  | [], _, x, h => by simp [Pc.change] at h
  | h :: t, l, x, hx => by
    have ih := fun l => change_mem t l x
    have up : ∀ l', (∀ y ∈ l', y ∈ l) → x ∈ Pc.change t l' → x ∈ l ∨ ∃ h' ∈ h :: t, x ∈ h'.ls := fun l' hl hm => by
      rcases ih l' hm with h1 | ⟨h', h1, h2⟩
      · exact .inl (hl x h1)
      · exact .inr ⟨h', by simp [h1], h2⟩
    rw [Pc.change] at hx
    split at hx
    · rcases List.mem_append.1 hx with hx | hx
      · exact .inl (List.mem_of_mem_take hx)
      · exact up _ (fun y hy => List.mem_of_mem_drop hy) hx
    · split at hx
      · exact up _ (fun y hy => List.mem_of_mem_drop hy) hx
      · split at hx
        · rcases List.mem_append.1 hx with hx | hx
          · exact .inr ⟨h, by simp, hx⟩
          · exact up _ (fun y hy => hy) hx
        · exact up _ (fun y hy => hy) hx
theorem lines_cases (d : List UInt8) : ((Tre.lines d).2 ≠ 0 ∧ Tre.lines d = ([], 10)) ∨ ∃ l, Tre.lines d = (l, 0) ∧ 1 ≤ l.length ∧ l.length ≤ 1024 ∧ ∀ x ∈ l, x.length ≤ d.length := by
  by_cases h : 65536 < d.length ∨ 1024 < (Tre.split 10 d).length
  · have e : Tre.lines d = ([], 10) := by unfold Tre.lines; rw [if_pos h]
    exact .inl ⟨by rw [e]; decide, e⟩
  · have e : Tre.lines d = (Tre.split 10 d, 0) := by unfold Tre.lines; rw [if_neg h]
    exact .inr ⟨_, e, List.length_pos_iff.2 (Tre.split_ne 10 d), by omega, Tre.split_le 10 d⟩
/-- Applying's value. -/
def apV (R : List UInt8 × Int) : Value := .tuple #[.string (str R.1), .int .i64 R.2]
theorem apV_def (R : List UInt8 × Int) : apV R = .tuple #[.string (str R.1), .int .i64 R.2] := rfl
theorem digS_str (s : ByteArray) : Dg.digS s = str (Pc.dig s.data.toList) := rfl
set_option maxHeartbeats 8000000 in
set_option maxRecDepth 100000 in
theorem apply_any (p : Pc.Pa) (A : Option Addr) (c : Nat) (s : ByteArray) (w : World) (hP : PaOk w p A) (hI : IdAt w) (hs : s.size ≤ 1000000000) :
    Calls Tryz.prog 13 #[paV p A c, .string s] w fun e w' => e = .returned (apV (Pc.apply p s.data.toList)) ∧ Below w.heap.size w w' := by
  have hb0 : Below w.heap.size w (w.alloc (.cells #[.string (str p.base), .slice A p.hs.length c] 24)) := (Below.refl _ _).alloc (Nat.le_refl _) _
  have hN0 := heap_alloc_new w (.cells #[.string (str p.base), .slice A p.hs.length c] 24)
  have hbs : w.heap.size < (w.alloc (.cells #[.string (str p.base), .slice A p.hs.length c] 24)).heap.size := by simp
  have hcall := isValid_any p A c _ (hP.next hb0) (hI.tabs.below hb0)
  have HW := Lib.hid (show ∀ w', Below (w.alloc (.cells #[.string (str p.base), .slice A p.hs.length c] 24)).heap.size (w.alloc (.cells #[.string (str p.base), .slice A p.hs.length c] 24)) w' →
      Below w.heap.size w w' ∧ HsAt w' w'.heap.size A p.hs ∧ IdAt w' ∧ w'.cell? ⟨w.heap.size, 0, none⟩ = some (.string (str p.base)) ∧ w'.cell? ⟨w.heap.size, 1, none⟩ = some (.slice A p.hs.length c) from fun w' h => by
    have hb := hb0.trans (h.mono (Nat.le_of_lt hbs))
    have hN := (h.block w.heap.size hbs).trans hN0
    exact ⟨hb, hP.at_.next hb, hI.below hb, by rw [cell_of_row _ _ _ _ _ _ hN]; rfl, by rw [cell_of_row _ _ _ _ _ _ hN]; rfl⟩)
  have HEA := Lib.hid hP.each
  have HD := Lib.hid (apply_def p s.data.toList)
  have HVA := Lib.hid (fun h => valid_all (p := p) h)
  have hHW0 := hb0.size
  rw [paV_def] at hcall ⊢
  clear hP hI hb0 hN0
  generalize Pc.apply p s.data.toList = R at *
  go_enter Tryz.func13, Tryz.ntmps13
  go_wp2_with fail
  generalize w.alloc (.cells #[.string (str p.base), .slice A p.hs.length c] 24) = W at *
  generalize hbb : w.heap.size = b at *
  have HBE := Lib.hid hbb
  clear hbb
  with_reducible refine hcall.mono ?_
  clear hcall
  rintro x w1 ⟨rfl, hb1⟩
  cases hv : Pc.valid p with
  | false =>
    have HT := Lib.hid (HD.out.trans (if_pos hv))
    clear HD HVA hv
    go_wp2_with fail
    go_ret2
    rw [HT.out]
    exact ⟨rfl, by rw [HBE.out]; exact (HW.out _ hb1).1⟩
  | true =>
  have HD1 := Lib.hid (HD.out.trans (if_neg (by rw [hv]; simp)))
  obtain ⟨v1, v2, v3, v4, v5, v6, v7, v8⟩ := HVA.out hv
  have HH := Lib.hid v2
  clear HD HVA hv v2
  have hcl := lines_any s w1 (by omega) (HW.out _ hb1).2.2.1.max
  rcases lines_cases s.data.toList with ⟨he, hl⟩ | ⟨ls, hl, hl1, hl2, hl3⟩
  · have HT := Lib.hid (HD1.out.trans (if_pos he))
    rw [hl] at hcl HT
    clear HD1 he hl v3
    go_wp2_with fail
    with_reducible refine hcl.mono ?_
    clear hcl
    rintro x w2 ⟨v2, rfl, ho2, hb2⟩
    dsimp only at ho2
    go_wp2_with fail
    go_ret2
    rw [HT.out]
    exact ⟨rfl, by rw [HBE.out]; exact (HW.out _ (hb1.trans (hb2.mono hb1.size))).1⟩
  · have HD2 := Lib.hid (HD1.out.trans (if_neg (by rw [hl]; simp)))
    rw [hl] at hcl HD2
    rw [size_data] at hl3
    have HL3 := Lib.hid hl3
    clear HD1 hl hl3
    go_wp2_with fail
    with_reducible refine hcl.mono ?_
    clear hcl
    rintro x w2 ⟨v2, rfl, ho2, hb2⟩
    dsimp only at ho2
    have hb02 := hb1.trans (hb2.mono hb1.size)
    obtain ⟨A2, c2, rfl, hA2⟩ := owns_cells ho2
    obtain ⟨hc2, hc2m⟩ := own_capS ho2
    obtain ⟨_, hAt, _, k0, k1⟩ := HW.out _ hb02
    have hcc := count_any A c p.hs w2 hAt (by omega) v3
    have HCE := Lib.hid (Pc.eats_cnt p.hs HH.out).2
    have HC1 := Lib.hid (show Pc.cnt 1 p.hs + Pc.cnt 2 p.hs = Pc.cnt 1 p.hs + Pc.cnt 2 p.hs from rfl)
    have HCH := Lib.hid (fun w' (h : HsAt w' w'.heap.size A p.hs) (h2 : CellsAt w' w'.heap.size A2 (strs ls)) (h3 : Pc.cnt 1 p.hs + Pc.cnt 2 p.hs = ls.length) => change_any A c p.hs A2 c2 ls w' h v1 HH.out h2 h3 hl2 hc2 hc2m)
    have HLN := Lib.hid (change_len p.hs ls HH.out)
    have HMM := Lib.hid (change_mem p.hs ls)
    clear hb1 hb2 hAt ho2 v3
    generalize hx1 : Pc.cnt 1 p.hs = x1 at *
    generalize hx2 : Pc.cnt 2 p.hs = x2 at *
    generalize hx3 : Pc.cnt 3 p.hs = x3 at *
    clear hx1 hx2 hx3
    generalize Pc.change p.hs ls = ch at *
    have HD3 := Lib.hid (show R = if x1 + x2 ≠ (ls.length : Int) ∨ (p.base ≠ [] ∧ p.base ≠ Pc.dig s.data.toList) then ([], 9) else Tre.join ch from HD2.out)
    clear HD2
    go_wp2_with fail
    with_reducible refine hcc.mono ?_
    clear hcc k0 k1
    rintro x w3 ⟨rfl, hb3⟩
    have hb03 := hb02.trans (hb3.mono hb02.size)
    have hA3 := hA2.next hb3
    obtain ⟨_, _, _, k0, k1⟩ := HW.out _ hb03
    clear hb02 hb3 hA2
    by_cases hn : x1 + x2 = (ls.length : Int)
    · have q1 : ((x1 + x2) != (ls.length : Int)) = false := by rw [hn]; simp
      have hch := fun w' h2 h3 => HCH.out w' h2 h3 hn
      have HD4 := Lib.hid (show R = if p.base ≠ [] ∧ p.base ≠ Pc.dig s.data.toList then ([], 9) else Tre.join ch by
        rw [HD3.out]
        by_cases e : p.base ≠ [] ∧ p.base ≠ Pc.dig s.data.toList
        · rw [if_pos e, if_pos (.inr e)]
        · rw [if_neg e, if_neg (fun h => h.elim (fun h => h hn) e)])
      have hchl : ch.length ≤ 3072 := by have := HLN.out; have := HCE.out; omega
      have HSM := Lib.hid hn
      clear HD3 HCH HC1 hn
      go_upto_region 7 with (fail)
      go_cut [46] (fun s46 wx => Below W.heap.size W wx ∧ Below w3.heap.size w3 wx ∧ ((s46 = .bool false ∧ ¬ (p.base ≠ [] ∧ p.base ≠ Pc.dig s.data.toList)) ∨ (s46 = .bool true ∧ (p.base ≠ [] ∧ p.base ≠ Pc.dig s.data.toList))))
      case first =>
        by_cases hbe : p.base = []
        · have q3 : (!(str p.base).toList.isEmpty) = false := by rw [str_list, hbe]; rfl
          have HE := Lib.hid hbe
          clear hbe hch
          go_quiet (fail)
          go_wp2_with fail
          go_meet
          exact ⟨hb03.trans ((below_drewN (Below.refl w3.heap.size w3) nq).mono hb03.size), below_drewN (Below.refl w3.heap.size w3) nq, .inl ⟨rfl, fun h => h.1 HE.out⟩⟩
        · have q3 : (!(str p.base).toList.isEmpty) = true := by rw [str_list]; cases hq : p.base with | nil => exact absurd hq hbe | cons _ _ => rfl
          have hsm := Dg.sum_any s w3.drew (HW.out _ hb03).2.2.1.consts (by omega)
          rw [digS_str] at hsm
          have hblt : b < w3.heap.size := Nat.lt_of_lt_of_le hbs hb03.size
          have hws : IntKind.i64.wrap (x1 + x2) = (ls.length : Int) := by rw [IntWalk.i64_in _ (by omega)]; exact HSM.out
          obtain ⟨bb, q4⟩ : ∃ bb, ((str p.base).toList != (str (Pc.dig s.data.toList)).toList) = bb := ⟨_, rfl⟩
          have q5 : ((str p.base).toList == (str (Pc.dig s.data.toList)).toList) = !bb := by rw [← q4, bne, Bool.not_not]
          have HE := Lib.hid (show (bb = false ∧ ¬ (p.base ≠ [] ∧ p.base ≠ Pc.dig s.data.toList)) ∨ (bb = true ∧ (p.base ≠ [] ∧ p.base ≠ Pc.dig s.data.toList)) by
            rw [str_list, str_list] at q4
            cases bb with
            | false => exact .inl ⟨rfl, fun h => h.2 (by simpa [bne] using q4)⟩
            | true => exact .inr ⟨rfl, hbe, by simpa [bne] using q4⟩)
          clear hbe hch
          generalize Pc.dig s.data.toList = dg at *
          generalize hpb : str p.base = pb at *
          clear hpb
          generalize str dg = ds at *
          go_region_with (go_at_call 38; (with_reducible refine hsm.mono ?_); rintro e w4 ⟨rfl, hb4⟩; have e0 := (hb4.cell (p := ⟨b, 0, none⟩) hblt).trans k0)
          all_goals
            go_wp2_with fail
            go_meet
            refine ⟨hb03.drew.trans (hb4.mono hb03.size), (Below.refl w3.heap.size w3).drew.trans hb4, ?_⟩
            rcases HE.out with ⟨rfl, h⟩ | ⟨rfl, h⟩
            · exact .inl ⟨by first | rfl | simp, h⟩
            · exact .inr ⟨by first | rfl | simp, h⟩
      case rest =>
      obtain ⟨hbc, hbc3, ⟨rfl, hne⟩ | ⟨rfl, hne⟩⟩ := hcut
      case inr =>
        have HT := Lib.hid (HD4.out.trans (if_pos hne))
        clear HD4 hne hch
        go_wp2_with fail
        go_ret2
        rw [HT.out]
        exact ⟨rfl, by rw [HBE.out]; exact (HW.out _ hbc).1⟩
      have HT := Lib.hid (HD4.out.trans (if_neg hne))
      obtain ⟨_, hAc, _, k0', k1'⟩ := HW.out _ hbc
      have hcg := hch wc hAc (hA3.next hbc3)
      have hbl2 : ∀ l ∈ ch, l.length ≤ 1000000000 := fun l hl => by
        rcases HMM.out l hl with h | ⟨h, hh, hl⟩
        · have := HL3.out l h; omega
        · have := HEA.out h hh l hl; omega
      have HBL := Lib.hid hbl2
      clear HD4 hne hch k0 k1 hbc3 hA3 hAc hbl2
      go_wp2_with fail
      with_reducible refine hcg.mono ?_
      clear hcg k0' k1'
      rintro x w5 ⟨v5, rfl, ho5, hb5⟩
      obtain ⟨A5, c5, rfl, hA5⟩ := owns_cells ho5
      obtain ⟨hc5, _⟩ := own_capS ho5
      have hb05 := hbc.trans (hb5.mono hbc.size)
      have hj := join_any A5 c5 ch w5 hA5 (by omega) HBL.out hc5
      rw [joinV_def, ← apV_def, ← HT.out, apV_def] at hj
      clear ho5 hA5 hb5 hbc HT
      go_wp2_with fail
      with_reducible refine hj.mono ?_
      clear hj
      rintro x w6 ⟨rfl, hb6⟩
      go_wp2_with fail
      go_ret2
      exact ⟨rfl, by rw [HBE.out]; exact (HW.out _ (hb05.trans (hb6.mono hb05.size))).1⟩
    · have q1 : ((x1 + x2) != (ls.length : Int)) = true := by rw [bne_iff_ne]; exact hn
      have HT := Lib.hid (HD3.out.trans (if_pos (.inl hn)))
      clear HD3 hn
      go_upto_region 7 with (fail)
      go_quiet (fail)
      go_wp2_with fail
      go_ret2
      rw [HT.out]
      exact ⟨rfl, by rw [HBE.out]; exact (HW.out _ (hb03.trans ((below_drewN (Below.refl w3.heap.size w3) nq).mono hb03.size))).1⟩
end Go.Proofs.YtmmdldicafbjdaaGreatDoor
