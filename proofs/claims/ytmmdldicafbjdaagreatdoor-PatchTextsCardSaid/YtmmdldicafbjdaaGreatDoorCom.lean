/- The pairs of the longest common subsequence: common of the program. No condition but the lengths. -/
import Derived.Test.YtmmdldicafbjdaaGreatDoorTab
import Derived.Deep.AppendLies
namespace Go.Proofs.YtmmdldicafbjdaaGreatDoor
open Go.RowKit Go.Deep Tr

def prV (p : Nat × Nat) : List Value := [.int .i64 (p.1 : Int), .int .i64 (p.2 : Int)]
def prsV (l : List (Nat × Nat)) : List Value := l.flatMap prV
theorem prsV_snoc (l : List (Nat × Nat)) (i j : Nat) : prsV l ++ [.int .i64 (i : Int), .int .i64 (j : Int)] = prsV (l ++ [(i, j)]) := by simp [prsV, prV]
theorem infoPr : (Tryz.prog.info? 69).map (fun i => (i.zero, i.size, i.bytes)) = some (some (.agg #[.int .i64 0, .int .i64 0]), 2, 16) := by kernel_rfl
theorem com_at (a b : List (List UInt8)) (i j : Nat) (hi : i < a.length) : Pc.common (a.drop i) (b.drop j) i j = match Pc.firstEq a[i] (b.drop j) with
    | none => Pc.common (a.drop (i + 1)) (b.drop j) (i + 1) j
    | some k => if Pc.lcs (a.drop (i + 1)) ((b.drop j).drop (k + 1)) + 1 = Pc.lcs (a.drop i) (b.drop j) then (i, j + k) :: Pc.common (a.drop (i + 1)) ((b.drop j).drop (k + 1)) (i + 1) (j + k + 1) else Pc.common (a.drop (i + 1)) (b.drop j) (i + 1) j := by
  conv => lhs; rw [drop_at a i hi, Pc.common]
  rw [← drop_at a i hi]
  cases Pc.firstEq a[i] (b.drop j) <;> rfl
theorem com_none {a b : List (List UInt8)} {i j : Nat} (hi : i < a.length) (h : ∀ y, j ≤ y → y < b.length → b[y]? ≠ some a[i]) : Pc.common (a.drop i) (b.drop j) i j = Pc.common (a.drop (i + 1)) (b.drop j) (i + 1) j := by
  rw [com_at a b i j hi, Pc.first_miss (fun y => ?_)]
  rw [List.getElem?_drop]
  by_cases hy : j + y < b.length
  · exact h _ (by omega) hy
  · rw [List.getElem?_eq_none (by omega)]; simp
theorem com_first {a b : List (List UInt8)} {i j l : Nat} (hi : i < a.length) (hl : j ≤ l) (hb : l < b.length) (he : a[i] = b[l]) (h : ∀ y, j ≤ y → y < l → b[y]? ≠ some a[i]) : Pc.firstEq a[i] (b.drop j) = some (l - j) := by
  refine Pc.first_hit ?_ fun y hy => ?_
  · rw [List.getElem?_drop, show j + (l - j) = l by omega, List.getElem?_eq_getElem hb, he]
  · rw [List.getElem?_drop]; exact h _ (by omega) (by omega)
theorem com_hit {a b : List (List UInt8)} {i j l : Nat} (hi : i < a.length) (hl : j ≤ l) (hb : l < b.length) (he : a[i] = b[l]) (h : ∀ y, j ≤ y → y < l → b[y]? ≠ some a[i]) (hv : Pc.lcs (a.drop (i + 1)) (b.drop (l + 1)) + 1 = Pc.lcs (a.drop i) (b.drop j)) : Pc.common (a.drop i) (b.drop j) i j = (i, l) :: Pc.common (a.drop (i + 1)) (b.drop (l + 1)) (i + 1) (l + 1) := by
  rw [com_at a b i j hi, com_first hi hl hb he h]
  simp only [List.drop_drop]
  rw [show j + (l - j + 1) = l + 1 by omega, show j + (l - j) = l by omega, if_pos hv]
theorem com_skip {a b : List (List UInt8)} {i j l : Nat} (hi : i < a.length) (hl : j ≤ l) (hb : l < b.length) (he : a[i] = b[l]) (h : ∀ y, j ≤ y → y < l → b[y]? ≠ some a[i]) (hv : ¬ Pc.lcs (a.drop (i + 1)) (b.drop (l + 1)) + 1 = Pc.lcs (a.drop i) (b.drop j)) : Pc.common (a.drop i) (b.drop j) i j = Pc.common (a.drop (i + 1)) (b.drop j) (i + 1) j := by
  rw [com_at a b i j hi, com_first hi hl hb he h]
  simp only [List.drop_drop]
  rw [show j + (l - j + 1) = l + 1 by omega, if_neg hv]
/-- What common returns. -/
def GotPr (w : World) (l : List (Nat × Nat)) : Ending → World → Prop := fun x w' => ∃ v, x = .returned v ∧ w'.ownsRow w.heap.size 69 2 v l.length (prsV l) ∧ Below w.heap.size w w'
set_option maxHeartbeats 16000000 in
set_option maxRecDepth 100000 in
theorem common_any (A A' : Option Addr) (c c' : Nat) (a b : List (List UInt8)) (w : World) (hA : CellsAt w w.heap.size A (strs a)) (hA' : CellsAt w w.heap.size A' (strs b)) (hl : a.length ≤ 1024) (hl' : b.length ≤ 1024) :
    Calls Tryz.prog 42 #[.slice A a.length c, .slice A' b.length c'] w (GotPr w (Pc.common a b 0 0)) := by
  obtain ⟨i0, hi0, hz0, hz1, hz2⟩ := info_parts infoPr
  have hcall := lengths_any A A' c c' a b w hA hA' hl hl'
  have HR := Lib.hid (show Pc.common a b 0 0 = [] ++ Pc.common (a.drop 0) (b.drop 0) 0 0 from rfl)
  generalize Pc.common a b 0 0 = R at *
  go_enter Tryz.func42, Tryz.ntmps42
  go_wp2_with fail
  go_step3
  go_wp2_with fail
  with_reducible refine hcall.mono ?_
  clear hcall
  rintro x w2 ⟨g0, rfl, hT0, hb2⟩
  have hA2 := hA.next hb2
  have hA2' := hA'.next hb2
  have hbb := Below.refl w2.heap.size w2
  clear hA hA'
  go_wp2_with fail
  go_step3
  go_wp2_with fail
  go_loopw [6, 7, 15] (fun s6 s7 s15 wr => ∃ (i j : Nat) (os : List (Nat × Nat)), i ≤ a.length ∧ s15 = .int .i64 i ∧ s7 = .int .i64 j ∧ j ≤ b.length ∧ os.length ≤ i ∧ wr.ownsRow w2.heap.size 69 2 s6 os.length (prsV os) ∧ R = os ++ Pc.common (a.drop i) (b.drop j) i j ∧ Below w2.heap.size w2 wr) (fun _ _ s15 _ => a.length - (intOf s15).toNat)
  case atStart => exact ⟨0, 0, [], by omega, rfl, rfl, by omega, by simp, World.ownsRow_nil _ _ _ _, HR.out, hbb⟩
  case round =>
    clear HR hbb
    obtain ⟨i, j, os, hi, rfl, rfl, hj, hol, hown, hR, hb⟩ := hrel
    have HR := Lib.hid hR
    clear hR
    by_cases hia : i < a.length
    · have b1 : decide ((i : Int) < a.length) = true := by simp; omega
      have b1n : decide (i < a.length) = true := by simp; omega
      obtain ⟨g, o, rfl, hg, hx0⟩ := hA2 i (by rw [strs_len]; exact hia)
      rw [strs_get a i hia] at hx0
      go_wp2_with fail
      obtain ⟨wo2, rfl⟩ : ∃ wo : World, wo = wr := ⟨_, rfl⟩
      go_loopw [6, 7, 9] (fun s6 s7 s9 wq => ∃ l : Nat, j ≤ l ∧ l ≤ b.length ∧ s9 = .int .i64 l ∧ s7 = .int .i64 j ∧ (∀ y, j ≤ y → y < l → b[y]? ≠ some a[i]) ∧ wq.ownsRow w2.heap.size 69 2 s6 os.length (prsV os) ∧ Below w2.heap.size w2 wq) (fun _ _ s9 _ => b.length - (intOf s9).toNat)
      case atStart => exact ⟨j, Nat.le_refl _, hj, rfl, rfl, fun y h1 h2 => by omega, hown, hb⟩
      case round =>
        clear hown hb
        obtain ⟨l, hjl, hlb, rfl, rfl, hno, hown, hb⟩ := hrel
        have HNO := Lib.hid hno
        clear hno
        by_cases hlt : l < b.length
        · have b2 : decide ((l : Int) < b.length) = true := by simp; omega
          have b2n : decide (l < b.length) = true := by simp; omega
          obtain ⟨g', o', rfl, hg', hy0⟩ := hA2' l (by rw [strs_len]; exact hlt)
          rw [strs_get b l hlt] at hy0
          have d1 := (hb.cell (p := ⟨g, o + i, none⟩) hg).trans hx0
          have d2 := (hb.cell (p := ⟨g', o' + l, none⟩) hg').trans hy0
          clear hy0
          by_cases hab : a[i] = b[l]
          · have q : ((str a[i]).toList != (str b[l]).toList) = false := by rw [str_list, str_list, hab]; simp
            have q2 : ((str a[i]).toList == (str b[l]).toList) = true := by rw [str_list, str_list, hab]; simp
            have HAB := Lib.hid hab
            clear hab
            go_upto_region 10 with (fail)
            go_quiet (fail)
            have hb4 := below_drewN hb nq
            have hown4 : (wr.drewN nq).ownsRow w2.heap.size 69 2 u6 os.length (prsV os) := hown
            obtain ⟨g1, k1, _, r1⟩ := (hT0.next hb4).cell (r := i + 1) (Nat.zero_le _) (by omega)
            obtain ⟨g2, k2, _, r2⟩ := (hT0.next hb4).cell (r := i) (Nat.zero_le _) (by omega)
            have e1 : (wr.drewN nq).cell? ⟨g1, l + 1, none⟩ = some (.int .i64 ((Pc.lcs (a.drop (i + 1)) (b.drop (l + 1)) : Nat) : Int)) := r1.cell (show l + 1 < b.length + 1 by omega)
            have e2 : (wr.drewN nq).cell? ⟨g2, j, none⟩ = some (.int .i64 ((Pc.lcs (a.drop i) (b.drop j) : Nat) : Int)) := r2.cell (show j < b.length + 1 by omega)
            have hv1 := lc_le a b (i + 1) (l + 1)
            have hv2 := lc_le a b i j
            have HIT := Lib.hid (fun h => com_hit hia hjl hlt HAB.out HNO.out h)
            have HSK := Lib.hid (fun h => com_skip hia hjl hlt HAB.out HNO.out h)
            clear d1 d2 q q2 hb hown r1 r2
            generalize wr.drewN nq = w4 at *
            generalize Pc.lcs (a.drop (i + 1)) (b.drop (l + 1)) = v1 at *
            generalize Pc.lcs (a.drop i) (b.drop j) = v2 at *
            have z1 : (i : Int) + 1 < (a.length : Int) + 1 := by omega
            have z2 : (l : Int) + 1 < (b.length : Int) + 1 := by omega
            have z3 : (j : Int) < (b.length : Int) + 1 := by omega
            have z4 : (i : Int) < (a.length : Int) + 1 := by omega
            have z5 : (0 : Int) ≤ (i : Int) + 1 := by omega
            have z6 : (0 : Int) ≤ (l : Int) + 1 := by omega
            by_cases hv : v1 + 1 = v2
            · have q3 : ((v1 : Int) + 1 == (v2 : Int)) = true := by rw [beq_iff_eq]; omega
              have HT := Lib.hid (show R = (os ++ [(i, l)]) ++ Pc.common (a.drop (i + 1)) (b.drop (l + 1)) (i + 1) (l + 1) by rw [HR.out, HIT.out hv, List.append_assoc]; rfl)
              clear hv HIT HSK HR
              go_wp2_with fail
              go_quiet (fail)
              have hb5 := below_drewN hb4 nq
              have hown5 : (w4.drewN nq).ownsRow w2.heap.size 69 2 u6 os.length (prsV os) := hown4
              clear hb4 hown4 e1 e2 k1 k2 q3
              generalize w4.drewN nq = w5 at *
              have hrow := hown5.lt
              go_upto_region 13 with (at_builtin; refine wpList_append_lies _ (by rfl) _ _ 67 (by rfl) w2.heap.size 69 i0 _ 2 16 Tryz.underlying67 hi0 hz0 hz1 hz2 rfl (by omega) u6 os.length _ (by rfl) (hown5.alloc _) ⟨w5.heap.size, 0, none⟩ 1 1 [_, _] (by rfl) (by rfl) (World.news_of_block (cs := #[_, _]) (t := 69) (fr := (0, 0)) (heap_alloc_new w5 _)) (by simp [Value.oneCell']) (by omega) (by unfold maxLen; omega) (by omega) (by have := hb5.size; simp; omega) (w5.heap.size + 1) (by simp) ?_; intro gg cap w6 hown6 hgrow hat hlt6)
              rw [prsV_snoc] at hown6
              have hown7 : w6.ownsRow w2.heap.size 69 2 (.slice (some ⟨gg, 0, none⟩) (os.length + 1) cap) (os ++ [(i, l)]).length (prsV (os ++ [(i, l)])) := by rw [List.length_append, List.length_singleton]; exact hown6
              have hb6 : Below w2.heap.size w2 w6 := grown_own0 (hb5.alloc hb5.size _) hgrow (fun q' hq' => (hrow q' hq').1)
              clear hown6 hgrow hat hlt6 hown5 hb5 hrow
              go_wp2_with fail
              go_roundw
              case rel => exact ⟨i + 1, l + 1, os ++ [(i, l)], by omega, by go_num, by go_num, by omega, by simp; omega, hown7, HT.out, hb6⟩
              case measure => first | (simp [intOf]; done) | (simp [intOf]; omega)
            · have q3 : ((v1 : Int) + 1 == (v2 : Int)) = false := by rw [beq_eq_false_iff_ne]; omega
              have HT := Lib.hid (show R = os ++ Pc.common (a.drop (i + 1)) (b.drop j) (i + 1) j by rw [HR.out, HSK.out hv])
              clear hv HIT HSK HR
              go_wp2_with fail
              go_quiet (fail)
              have hb5 := below_drewN hb4 nq
              have hown5 : (w4.drewN nq).ownsRow w2.heap.size 69 2 u6 os.length (prsV os) := hown4
              clear hb4 hown4 e1 e2 k1 k2 q3
              go_wp2_with fail
              go_roundw
              case rel => exact ⟨i + 1, j, os, by omega, by go_num, rfl, hj, by omega, hown5, HT.out, hb5⟩
              case measure => first | (simp [intOf]; done) | (simp [intOf]; omega)
          · have q : ((str a[i]).toList != (str b[l]).toList) = true := by rw [str_list, str_list, bne_iff_ne]; exact hab
            have q2 : ((str a[i]).toList == (str b[l]).toList) = false := by rw [str_list, str_list, beq_eq_false_iff_ne]; exact hab
            have HN2 := Lib.hid (show ∀ y, j ≤ y → y < l + 1 → b[y]? ≠ some a[i] from fun y h1 h2 => by
              by_cases e : y = l
              · subst e
                rw [List.getElem?_eq_getElem hlt]
                exact fun h => hab (Option.some.inj h).symm
              · exact HNO.out y h1 (by omega))
            clear hab
            go_upto_region 10 with (fail)
            go_quiet (fail)
            have hb4 := below_drewN hb nq
            have hown4 : (wr.drewN nq).ownsRow w2.heap.size 69 2 u6 os.length (prsV os) := hown
            clear d1 d2 q q2 hb hown
            go_wp2_with fail
            go_roundw
            case rel => exact ⟨l + 1, by omega, by omega, by go_num, rfl, HN2.out, hown4, hb4⟩
            case measure => first | (simp [intOf]; done) | (simp [intOf]; omega)
        · have b2 : decide ((l : Int) < b.length) = false := by simp; omega
          have b2n : decide (l < b.length) = false := by simp; omega
          have HT := Lib.hid (show R = os ++ Pc.common (a.drop (i + 1)) (b.drop j) (i + 1) j by rw [HR.out, com_none hia (fun y h1 h2 => HNO.out y h1 (by omega))])
          clear HR
          go_wp2_with fail
          go_roundw
          case rel => exact ⟨i + 1, j, os, by omega, by go_num, rfl, hj, by omega, hown, HT.out, hb⟩
          case measure => first | (simp [intOf]; done) | (simp [intOf]; omega)
    · have b1 : decide ((i : Int) < a.length) = false := by simp; omega
      have b1n : decide (i < a.length) = false := by simp; omega
      have HT := Lib.hid (show R = os by rw [HR.out, List.drop_of_length_le (by omega)]; exact List.append_nil _)
      clear HR
      go_wp2_with fail
      try rw [Exit.noGoto_ret]
      go_ret
      rw [HT.out]
      exact ⟨_, rfl, hown.mono hb2.size, hb2.trans (hb.mono hb2.size)⟩
end Go.Proofs.YtmmdldicafbjdaaGreatDoor
