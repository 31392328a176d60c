/- The law CodecStops returns true. Condition: the library's table of powers of ten lies in its variable. -/
import Derived.Test.YthkijcombpmfeaaDoorInv
namespace Go.Proofs.YthkijcombpmfeaaDoor
open Go.RowKit

set_option maxHeartbeats 8000000 in
set_option maxRecDepth 100000 in
theorem stops_law (s : ByteArray) (kd lo hi : Int) (w : World) (hT : Tabs w) (h0 : 0 ≤ kd) (_ : kd ≤ 255) :
    Calls Tryd.prog 9 #[.string s, .agg #[.int .u8 kd, .int .i64 lo, .int .i64 hi]] w fun e w' => e = .returned (.bool true) ∧ Below w.heap.size w w' := by
  obtain ⟨W, hW⟩ : ∃ W, W = w.alloc (.cells #[.int .u8 kd, .int .i64 lo, .int .i64 hi] 40) := ⟨_, rfl⟩
  have hb0 : Below w.heap.size w W := by rw [hW]; exact (Below.refl w.heap.size w).alloc (Nat.le_refl _) _
  have hlt : w.heap.size + 1 ≤ W.heap.size := by rw [hW]; simp
  have k0 : W.cell? ⟨w.heap.size, 0, none⟩ = some (.int .u8 kd) := by rw [hW]; go_simp
  have k1 : W.cell? ⟨w.heap.size, 1, none⟩ = some (.int .i64 lo) := by rw [hW]; go_simp
  have k2 : W.cell? ⟨w.heap.size, 2, none⟩ = some (.int .i64 hi) := by rw [hW]; go_simp
  obtain ⟨b0, hb⟩ : ∃ b, b = w.heap.size := ⟨_, rfl⟩
  have HB := Lib.hid hb
  clear hb
  by_cases h : 300 < s.size
  · have d : decide ((300 : Int) < s.size) = true := by simp; omega
    clear h
    go_enter Tryd.func9, Tryd.ntmps9
    go_wp2_with fail
    rw [← hW, ← HB.out]
    refine (awake_any W (hT.below hb0)).mono ?_
    rintro e w1 ⟨rfl, hb1⟩
    replace hb0 := hb0.trans (hb1.mono hb0.size)
    go_wp2_with fail
    go_ret
    exact ⟨rfl, hb0⟩
  · have d : decide ((300 : Int) < s.size) = false := by simp; omega
    have hs : s.data.toList.length ≤ 300 := by show s.size ≤ 300; omega
    obtain ⟨m, hm⟩ : ∃ m, kd.tmod 4 = m := ⟨_, rfl⟩
    have hm2 : kd % 4 = m := by rw [← hm, Int.tmod_eq_emod_of_nonneg h0]
    have hmr : m = 0 ∨ m = 1 ∨ m = 2 ∨ m = 3 := by omega
    have hmw : IntKind.u8.wrap m = m := by rw [IntKind.wrap_u8']; omega
    clear h
    go_enter Tryd.func9, Tryd.ntmps9
    go_wp2_with fail
    rw [← hW, ← HB.out]
    rw [← HB.out] at k0 k1 k2 hlt
    clear hW
    refine (awake_any W (hT.below hb0)).mono ?_
    rintro e w1 ⟨rfl, hb1⟩
    have hB := hb1.mono hlt
    clear hb1
    go_wp2_with fail
    refine (newReader_any s w1).mono ?_
    rintro e w2 ⟨rfl, hr, hb2⟩
    obtain ⟨b, hb⟩ : ∃ b, b = w1.heap.size := ⟨_, rfl⟩
    rw [← hb] at hr
    rw [← hb]
    have hlt1 := Nat.le_trans hlt hB.size
    have hbs : b0 + 1 ≤ b := by rw [hb]; exact hlt1
    replace hB := hB.trans (hb2.mono hlt1)
    clear hb2 hb hlt1
    go_wp2_with fail
    go_loopw [16] (fun v wr => ∃ (k : Nat) (r : Cod.Rd), k ≤ 310 ∧ v = .int .i64 k ∧ RdAt wr b (str r.rest) r.err ∧ Cod.Inv k r ∧ Below (b0 + 1) W wr) (fun v _ => 310 - (intOf v).toNat)
    case atStart => exact ⟨0, ⟨s.data.toList, 0⟩, by omega, rfl, by rw [str_of]; exact hr, .inl ⟨rfl, by show s.data.toList.length + 0 ≤ 300; omega⟩, hB⟩
    case round =>
      clear hr hB
      obtain ⟨k, r, hk, rfl, hr, hI, hB⟩ := hrel
      have c0 := (hB.cell (p := ⟨b0, 0, none⟩) (Nat.lt_succ_self b0)).trans k0
      have c1 := (hB.cell (p := ⟨b0, 1, none⟩) (Nat.lt_succ_self b0)).trans k1
      have c2 := (hB.cell (p := ⟨b0, 2, none⟩) (Nat.lt_succ_self b0)).trans k2
      have hlen := hI.len
      by_cases hlt2 : k < 310
      · rcases hmr with hm0 | hm0 | hm0 | hm0
        all_goals rw [hm0] at hm hm2 hmw
        · go_wp2_with fail
          have hcall := rdNumber_at b lo hi r wr hr (by omega)
          with_reducible refine hcall.mono ?_
          clear hcall
          rintro e w3 ⟨rfl, hr3, hg⟩
          have hB3 := hB.trans (below_grown hg hbs (Nat.le_trans hlt hB.size))
          have hI3 := hI.step (Cod.number_stops lo hi) (Cod.number_takes lo hi)
          clear hg hr hB
          go_wp2_with fail
          go_roundw
          case rel => exact ⟨k + 1, _, by omega, by go_num, hr3, hI3, hB3⟩
          case measure => simp [intOf]; omega
        · go_wp2_with fail
          have hcall := rdText_at b hi r wr hr (by omega)
          with_reducible refine hcall.mono ?_
          clear hcall
          rintro e w3 ⟨rfl, hr3, hg⟩
          have hB3 := hB.trans (below_grown hg hbs (Nat.le_trans hlt hB.size))
          have hI3 := hI.step (Cod.text_stops hi) (Cod.text_takes hi)
          clear hg hr hB
          go_wp2_with fail
          go_roundw
          case rel => exact ⟨k + 1, _, by omega, by go_num, hr3, hI3, hB3⟩
          case measure => simp [intOf]; omega
        · go_wp2_with fail
          have hcall := rdNumbers_at b lo hi r wr hr (by omega)
          with_reducible refine hcall.mono ?_
          clear hcall
          rintro e w3 hgot
          obtain ⟨v, rfl, _, hr3, hg⟩ := hgot
          have hB3 := hB.trans (below_grown hg hbs (Nat.le_trans hlt hB.size))
          have hI3 := hI.step (Cod.list_stops (Cod.number_stops lo hi)) (Cod.nums_takes lo hi)
          clear hg hr hB
          go_wp2_with fail
          go_roundw
          case rel => exact ⟨k + 1, _, by omega, by go_num, hr3, hI3, hB3⟩
          case measure => simp [intOf]; omega
        · go_wp2_with fail
          have hcall := rdTexts_at b hi r wr hr (by omega)
          with_reducible refine hcall.mono ?_
          clear hcall
          rintro e w3 hgot
          obtain ⟨v, rfl, _, hr3, hg⟩ := hgot
          have hB3 := hB.trans (below_grown hg hbs (Nat.le_trans hlt hB.size))
          have hI3 := hI.step (Cod.list_stops (Cod.nextT_stops hi)) (Cod.txts_takes hi)
          clear hg hr hB
          go_wp2_with fail
          go_roundw
          case rel => exact ⟨k + 1, _, by omega, by go_num, hr3, hI3, hB3⟩
          case measure => simp [intOf]; omega
      · have hk3 : k = 310 := by omega
        subst hk3
        obtain ⟨he, hrest⟩ := hI.done
        obtain ⟨l, er⟩ := r
        simp only at he hrest hr
        subst hrest
        have q0 : (er != 0) = true := by simpa using he
        have q1 : (er == 0) = false := by simpa using he
        have hR1 := (Cod.number_stops 0 9).1 ⟨[], er⟩ he
        have hR2 := (Cod.text_stops 9).1 ⟨[], er⟩ he
        have hR3 := (Cod.list_stops (Cod.number_stops 0 9)).1 ⟨[], er⟩ he
        have hR4 := (Cod.list_stops (Cod.nextT_stops 9)).1 ⟨[], er⟩ he
        have hend : w.heap.size ≤ b := by rw [← HB.out]; omega
        replace hb0 := hb0.trans (hB.mono (by rw [← HB.out]; omega) )
        clear he hI hlen c0 c1 c2 k0 k1 k2 hlt2 hk hB
        go_wp2_with fail
        refine (err_any b _ _ _ hr).mono ?_
        rintro e w3 ⟨rfl, rfl⟩
        go_wp2_with fail
        have hcall := rdNumber_at b 0 9 ⟨[], er⟩ wr hr (by simp)
        rw [hR1] at hcall
        with_reducible refine hcall.mono ?_
        clear hcall
        rintro e w3 ⟨rfl, hr3, hg⟩
        replace hb0 := hb0.trans (below_grown hg hend hb0.size)
        clear hg hr
        go_wp2_with fail
        have hcall := rdText_at b 9 ⟨[], er⟩ w3 hr3 (by simp)
        rw [hR2] at hcall
        with_reducible refine hcall.mono ?_
        clear hcall
        rw [show str [] = ⟨#[]⟩ from rfl]
        rintro e w4 ⟨rfl, hr4, hg⟩
        replace hb0 := hb0.trans (below_grown hg hend hb0.size)
        clear hg hr3
        go_wp2_with fail
        have hcall := rdNumbers_at b 0 9 ⟨[], er⟩ w4 hr4 (by simp)
        rw [hR3] at hcall
        with_reducible refine hcall.mono ?_
        clear hcall
        rintro e w5 hgot
        obtain ⟨v, rfl, hown, hr5, hg⟩ := hgot
        obtain ⟨A, c, rfl⟩ : ∃ A c, v = .slice A 0 c := by
          obtain ⟨A, c, hv, _⟩ := owns_cells hown
          exact ⟨A, c, hv⟩
        replace hb0 := hb0.trans (below_grown hg hend hb0.size)
        clear hg hr4 hown
        go_wp2_with fail
        have hcall := rdTexts_at b 9 ⟨[], er⟩ w5 hr5 (by simp)
        rw [hR4] at hcall
        with_reducible refine hcall.mono ?_
        clear hcall
        rintro e w6 hgot
        obtain ⟨v, rfl, hown, hr6, hg⟩ := hgot
        obtain ⟨A', c', rfl⟩ : ∃ A c, v = .slice A 0 c := by
          obtain ⟨A, c, hv, _⟩ := owns_cells hown
          exact ⟨A, c, hv⟩
        replace hb0 := hb0.trans (below_grown hg hend hb0.size)
        clear hg hr5 hown
        go_wp2_with fail
        refine (left_any b _ _ _ hr6).mono ?_
        rintro e w7 ⟨rfl, rfl⟩
        rw [show ((str (([] : List ByteArray), (⟨[], er⟩ : Cod.Rd)).2.rest).size : Int) = 0 from rfl]
        go_wp2_with fail
        refine (err_any b _ _ _ hr6).mono ?_
        rintro e w7 ⟨rfl, rfl⟩
        go_wp2_with fail
        refine (close_any b _ _ _ hr6).mono ?_
        rintro e w7 ⟨rfl, rfl⟩
        rw [show closeI (str (([] : List ByteArray), (⟨[], er⟩ : Cod.Rd)).2.rest) er = er from rfl]
        go_wp2_with fail
        go_ret
        exact ⟨rfl, hb0⟩
end Go.Proofs.YthkijcombpmfeaaDoor
