/- Make, Invert and Then of the program. Condition: the variables that the program reads lie. -/
import Derived.Test.YtlfgnecfabdkmaaGreatDoorKee
import Derived.Test.YtlfgnecfabdkmaaGreatDoorTra
namespace Go.Proofs.YtlfgnecfabdkmaaGreatDoor
open Go.RowKit Go.Deep Tr

/-- The result's cell is stored. -/
theorem fin_patch {w w5 : World} {rb : Nat} {A : Option Addr} {hs : List Pc.Hk} (x y : Value) (hr : w.heap.size ≤ rb) (hk : w5.heap[rb]? = some (.cells #[.string ⟨#[]⟩, .slice none 0 0] 24 (0, 0))) (hb : Below w.heap.size w w5) (hH : HsT w5 A hs) :
    HsT ((w5.setCell ⟨rb, 0, none⟩ x).setCell ⟨rb, 1, none⟩ y) A hs ∧ Below w.heap.size w ((w5.setCell ⟨rb, 0, none⟩ x).setCell ⟨rb, 1, none⟩ y) ∧ w5.cell? ⟨rb, 0, none⟩ = some (.string ⟨#[]⟩) ∧ w5.cell? ⟨rb, 1, none⟩ = some (.slice none 0 0) ∧ w5.frozen? ⟨rb, 0, none⟩ = false ∧ w5.frozen? ⟨rb, 1, none⟩ = false :=
  ⟨(hH.set hk).set (heap_setCell_same w5 rb 0 _ _ _ hk), (hb.setCell hr _).setCell hr _, by rw [cell_of_row _ _ _ _ _ _ hk]; rfl, by rw [cell_of_row _ _ _ _ _ _ hk]; rfl, frozen_of_row w5 rb 0 _ _ hk, frozen_of_row w5 rb 1 _ _ hk⟩
theorem hsT_nil (w : World) (A : Option Addr) : HsT w A [] := fun k hk => by simp at hk
theorem make_def (f t : List UInt8) : Pc.make f t = if (Tre.lines f).2 ≠ 0 then (⟨[], []⟩, (Tre.lines f).2)
  else if (Tre.lines t).2 ≠ 0 then (⟨[], []⟩, (Tre.lines t).2)
  else Pc.keeping [] (Tre.lines f).1 (Tre.lines t).1 (Pc.common (Tre.lines f).1 (Tre.lines t).1 0 0) := rfl
set_option maxHeartbeats 8000000 in
set_option maxRecDepth 100000 in
theorem make_any (f t : ByteArray) (w : World) (hI : IdAt w) (hfs : f.size ≤ 1000000000) (hts : t.size ≤ 1000000000) :
    Calls Tryz.prog 27 #[.string f, .string t] w (GotPa w (Pc.make f.data.toList t.data.toList)) := by
  have HD := Lib.hid (make_def f.data.toList t.data.toList)
  generalize Pc.make f.data.toList t.data.toList = R at *
  have hb0 : Below w.heap.size w (w.alloc (.cells #[.string ⟨#[]⟩, .slice none 0 0] 24)) := (Below.refl _ _).alloc (Nat.le_refl _) _
  have hk0 := heap_alloc_new w (.cells #[.string ⟨#[]⟩, .slice none 0 0] 24)
  have hl1 := lines_any f _ hfs (hI.below hb0).max
  go_enter Tryz.func27, Tryz.ntmps27
  go_wp2_with fail
  with_reducible refine hl1.mono ?_
  clear hl1
  rintro x w1 ⟨v1, rfl, ho1, hb1⟩
  have hb01 := hb0.trans (hb1.mono hb0.size)
  have hk1 := (hb1.block _ (blk_lt hk0)).trans hk0
  have hI1 := hI.below hb01
  clear hb0 hk0 hb1 hI
  rcases lines_cases f.data.toList with ⟨he, hl⟩ | ⟨a, hl, a1, a2, _⟩
  · have HT := Lib.hid (HD.out.trans (if_pos he))
    rw [hl] at ho1 HT ⊢
    obtain ⟨A1, c1, rfl, _⟩ := owns_cells ho1
    obtain ⟨q1, q2, r0, r1, f0, f1⟩ := fin_patch (.string ⟨#[]⟩) (.slice none 0 0) (Nat.le_refl _) hk1 hb01 (hsT_nil w1 none)
    have Q1 := Lib.hid q1
    have Q2 := Lib.hid q2
    clear HD he hl ho1 q1 q2 hk1 hb01 hI1
    go_wp2_with fail
    exact bodyPost_ret (v := .tuple #[.agg #[.string ⟨#[]⟩, .slice none 0 0], .int .i64 10]) (by simp [results, Tryz.results27, go_sem, r0, r1]) rfl ⟨none, 0, by rw [HT.out]; rfl, by rw [HT.out]; exact Q1.out, Q2.out⟩
  · have HD1 := Lib.hid (HD.out.trans (if_neg (by rw [hl]; simp)))
    have HLF := Lib.hid hl
    rw [hl] at ho1 HD1 ⊢
    dsimp only at ho1
    obtain ⟨ga, ca, rfl, _, hga, hca, hcam, _⟩ := own_pos ho1 (by omega)
    obtain ⟨A1, c1, he1, hA1⟩ := owns_cells ho1
    injection he1 with he1 _ he1c
    subst he1 he1c
    have hl2 := lines_any t w1 hts hI1.max
    clear HD hl ho1
    go_wp2_with fail
    with_reducible refine hl2.mono ?_
    clear hl2
    rintro x w2 ⟨v2, rfl, ho2, hb2⟩
    have hb02 := hb01.trans (hb2.mono hb01.size)
    have hk2 := (hb2.block _ (blk_lt hk1)).trans hk1
    have hI2 := hI1.below hb2
    have hA2 := hA1.next hb2
    clear hb01 hk1 hb2 hI1 hA1
    rcases lines_cases t.data.toList with ⟨he, hl⟩ | ⟨b, hl, b1, b2, _⟩
    · have HT := Lib.hid (HD1.out.trans (if_pos he))
      rw [hl] at ho2 HT ⊢
      obtain ⟨A2, c2, rfl, _⟩ := owns_cells ho2
      obtain ⟨q1, q2, r0, r1, f0, f1⟩ := fin_patch (.string ⟨#[]⟩) (.slice none 0 0) (Nat.le_refl _) hk2 hb02 (hsT_nil w2 none)
      have Q1 := Lib.hid q1
      have Q2 := Lib.hid q2
      clear HD1 he hl ho2 q1 q2 hk2 hb02 hI2
      go_wp2_with fail
      exact bodyPost_ret (v := .tuple #[.agg #[.string ⟨#[]⟩, .slice none 0 0], .int .i64 10]) (by simp [results, Tryz.results27, go_sem, r0, r1]) rfl ⟨none, 0, by rw [HT.out]; rfl, by rw [HT.out]; exact Q1.out, Q2.out⟩
    · have HT := Lib.hid (HD1.out.trans (if_neg (by rw [hl]; simp)))
      have HLT := Lib.hid hl
      rw [hl] at ho2 HT ⊢
      dsimp only at ho2
      have HT2 := Lib.hid (show R = Pc.keeping [] a b (Pc.common a b 0 0) from HT.out)
      obtain ⟨gb, cb, rfl, _, hgb, hcb, hcbm, _⟩ := own_pos ho2 (by omega)
      obtain ⟨A2, c2, he2, hB2⟩ := owns_cells ho2
      injection he2 with he2 _ he2c
      subst he2 he2c
      have hcm := common_any (some ⟨ga, 0, none⟩) (some ⟨gb, 0, none⟩) ca cb a b w2 hA2 hB2 a2 b2
      have HMT := Lib.hid (Pc.common_mat a b a b 0 0 rfl rfl)
      have hcl : (Pc.common a b 0 0).length ≤ 1024 := by
        rw [Pc.common_len]
        have := lc_le a b 0 0
        simp only [List.drop_zero] at this
        omega
      clear HD1 HT hl ho2
      generalize Pc.common a b 0 0 = K at *
      go_wp2_with fail
      with_reducible refine hcm.mono ?_
      clear hcm
      rintro x w3 ⟨v3, rfl, ho3, hb3⟩
      obtain ⟨A3, c3, rfl, hK3⟩ := owns_prs ho3
      have hb03 := hb02.trans (hb3.mono hb02.size)
      have hk3 := (hb3.block _ (blk_lt hk2)).trans hk2
      have hke := keeping_any [] f t a b A3 c3 K w3 (hI2.below hb3) HLF.out HLT.out hfs hts hK3 HMT.out hcl (by simp)
      rw [show str [] = ⟨#[]⟩ from rfl, ← HT2.out] at hke
      clear ho3 hK3 hb02 hk2 hI2 hb3 hA2 hB2
      go_wp2_with fail
      with_reducible refine hke.mono ?_
      clear hke
      rintro x w4 ⟨A4, c4, rfl, hH4, hb4⟩
      have hb04 := hb03.trans (hb4.mono hb03.size)
      have hk4 := (hb4.block _ (blk_lt hk3)).trans hk3
      obtain ⟨q1, q2, r0, r1, f0, f1⟩ := fin_patch (.string (str R.1.base)) (.slice A4 R.1.hs.length c4) (Nat.le_refl _) hk4 hb04 hH4
      have Q1 := Lib.hid q1
      have Q2 := Lib.hid q2
      rw [paV_def]
      clear q1 q2 hk4 hb04 hH4 hb4 hb03 hk3 HT2
      go_wp2_with fail
      exact bodyPost_ret (v := .tuple #[.agg #[.string (str R.1.base), .slice A4 R.1.hs.length c4], .int .i64 R.2]) (by simp [results, Tryz.results27, go_sem, r0, r1]) rfl ⟨A4, c4, rfl, Q1.out, Q2.out⟩
end Go.Proofs.YtlfgnecfabdkmaaGreatDoor
