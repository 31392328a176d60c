/- The law of TreeLeads. Condition: the tables of digest, codec and the library lie. -/
import Derived.Test.YtinkpbobkeppiaaGreatDoorPza
import Derived.Test.YtinkpbobkeppiaaGreatDoorPll
import Derived.Test.YtinkpbobkeppiaaGreatDoorChs
import Derived.Test.YtinkpbobkeppiaaGreatDoorEqt
namespace Go.Proofs.YtinkpbobkeppiaaGreatDoor
open Go.RowKit Go.Deep

/-- A list of files where it lies, as a slot has it. -/
def Carry (w : World) (v : Value) (ts : List Tre.Fl) : Prop := ∃ A c, v = .slice A ts.length c ∧ FlsAt w w.heap.size A ts ∧ ts.length ≤ c ∧ c ≤ maxLen
theorem Carry.next {w w' : World} {v : Value} {ts : List Tre.Fl} (h : Carry w v ts) (hb : Below w.heap.size w w') : Carry w' v ts := by
  obtain ⟨A, c, h1, h2, h3, h4⟩ := h
  exact ⟨A, c, h1, h2.next hb, h3, h4⟩
theorem carry_own {w : World} {B : Nat} {v : Value} {ts : List Tre.Fl} (h : w.ownsRow B 31 2 v ts.length (flsOf ts)) : Carry w v ts := by
  obtain ⟨A, c, rfl, hA⟩ := owns_fls h
  obtain ⟨h1, h2⟩ := own_cap0 h
  exact ⟨A, c, rfl, hA, h1, h2⟩
theorem diffR_good {a b : List Tre.Fl} (ha : Tre.check a = 0) (hb : Tre.check b = 0) : Tre.diffR a b = (Tre.diff a b, 0) := by
  rw [diffR_def, if_neg]
  · rfl
  · rintro (h | h)
    · exact h ha
    · exact h hb
set_option maxHeartbeats 16000000 in
set_option maxRecDepth 100000 in
theorem leads_law (t u : Tr) (w : World) (hI : IdAt w) (ht : TrOk w t) (hcap : t.ts.length ≤ t.c) (hcap2 : t.c ≤ maxLen) (hu : TrOk w u) (hcap' : u.ts.length ≤ u.c) (hcap2' : u.c ≤ maxLen) :
    Calls Tryz.prog 8 #[.slice t.A t.ts.length t.c, .slice u.A u.ts.length u.c] w fun e w' => e = .returned (.bool true) ∧ Below w.heap.size w w' := by
  have haw := awake_any w hI
  go_enter Tryz.func8, Tryz.ntmps8
  go_wp2_with fail
  with_reducible refine haw.mono ?_
  clear haw
  rintro x w1 ⟨rfl, hb1⟩
  have hI1 := hI.below hb1
  have ht1 : TrOk w1 t := ⟨ht.at_.next hb1, ht.len, ht.each⟩
  have hu1 : TrOk w1 u := ⟨hu.at_.next hb1, hu.len, hu.each⟩
  clear hI ht hu
  have hfew := few_two t u w1 ht1 hu1
  go_wp2_with fail
  with_reducible refine hfew.mono ?_
  clear hfew
  rintro x w2 ⟨⟨b, rfl, hfw⟩, hb2⟩
  have hb02 := hb1.trans (hb2.mono hb1.size)
  have hI2 := hI1.below hb2
  have hA2 := ht1.at_.next hb2
  have hA2' := hu1.at_.next hb2
  clear hI1 ht1 hu1 hb1 hb2
  cases b with
  | false =>
    clear hfw
    go_wp2_with fail
    go_ret
    exact ⟨rfl, hb02⟩
  | true =>
  obtain ⟨⟨hL, hn⟩, ⟨hL', hn'⟩⟩ := hfw rfl
  clear hfw
  have HW := Lib.hid (show ∀ w', Below w2.heap.size w2 w' → Below w.heap.size w w' ∧ FlsAt w' w'.heap.size t.A t.ts ∧ FlsAt w' w'.heap.size u.A u.ts ∧ IdAt w' from fun w' h =>
    ⟨hb02.trans (h.mono hb02.size), hA2.next h, hA2'.next h, hI2.below h⟩)
  have hb22 := Below.refl w2.heap.size w2
  clear hb02 hA2 hA2' hI2
  have hc1 := check_any t.A t.c t.ts w2 (HW.out _ hb22).2.1 (by omega) hL (HW.out _ hb22).2.2.2.max hcap hcap2
  rcases (Classical.em (Tre.check t.ts = 0)).symm with h0 | h0
  · have n0 : (Tre.check t.ts != 0) = true := by rw [bne_iff_ne]; exact h0
    clear h0
    generalize Tre.check t.ts = e at *
    go_wp2_with fail
    with_reducible refine hc1.mono ?_
    clear hc1
    rintro x w3 ⟨rfl, hb3⟩
    go_wp2_with fail
    go_ret
    exact ⟨rfl, (HW.out _ hb3).1⟩
  have HG := Lib.hid ((Tre.good_iff t.ts).1 h0)
  rw [h0] at hc1
  go_wp2_with fail
  with_reducible refine hc1.mono ?_
  clear hc1
  rintro x w3 ⟨rfl, hb3⟩
  have hc1 := check_any u.A u.c u.ts w3 (HW.out _ hb3).2.2.1 (by omega) hL' (HW.out _ hb3).2.2.2.max hcap' hcap2'
  rcases (Classical.em (Tre.check u.ts = 0)).symm with h1 | h1
  · have n0 : (Tre.check u.ts != 0) = true := by rw [bne_iff_ne]; exact h1
    clear h0 h1
    generalize Tre.check u.ts = e at *
    go_wp2_with fail
    with_reducible refine hc1.mono ?_
    clear hc1
    rintro x w4 ⟨rfl, hb4⟩
    go_wp2_with fail
    go_ret
    exact ⟨rfl, (HW.out _ (hb3.trans (hb4.mono hb3.size))).1⟩
  have HG' := Lib.hid ((Tre.good_iff u.ts).1 h1)
  have hdr := diffR_good h0 h1
  have hdr2 := diffR_good h0 h0
  rw [Tre.diff_self] at hdr2
  rw [h1] at hc1
  clear h0 h1
  go_wp2_with fail
  with_reducible refine hc1.mono ?_
  clear hc1
  rintro x w4 ⟨rfl, hb4⟩
  have hb24 := hb3.trans (hb4.mono hb3.size)
  clear hb3 hb4 hb22
  have hc1 := differ_any t.A u.A t.c u.c t.ts u.ts w4 (HW.out _ hb24).2.1 (HW.out _ hb24).2.2.1 (by omega) (by omega) hL hL' (HW.out _ hb24).2.2.2 hcap hcap2 hcap' hcap2'
  have hc2 := fun w' (h : Below w2.heap.size w2 w') => differ_any t.A t.A t.c t.c t.ts t.ts w' (HW.out _ h).2.1 (HW.out _ h).2.1 (by omega) (by omega) hL hL (HW.out _ h).2.2.2 hcap hcap2 hcap hcap2
  have hlen := diffR_len t.ts u.ts
  rw [hdr] at hc1 hlen
  rw [hdr2] at hc2
  have HDO := Lib.hid (Tre.diff_of t.ts u.ts)
  clear hdr hdr2
  generalize Tre.diff t.ts u.ts = l at *
  dsimp only at hlen
  go_wp2_with fail
  with_reducible refine hc1.mono ?_
  clear hc1
  rintro x w5 ⟨v5, rfl, ho5, hb5⟩
  dsimp only at ho5
  have hb25 := hb24.trans (hb5.mono hb24.size)
  obtain ⟨Al, cl, rfl, hAl⟩ := owns_chs ho5
  clear ho5 hb5 hb24
  have hc2 := hc2 w5 hb25
  go_wp2_with fail
  with_reducible refine hc2.mono ?_
  clear hc2
  rintro x w6 ⟨v6, rfl, ho6, hb6⟩
  dsimp only at ho6
  obtain ⟨An, cn, rfl, _⟩ := owns_chs ho6
  have hb26 := hb25.trans (hb6.mono hb25.size)
  have hAl6 := hAl.next hb6
  clear ho6 hb6 hb25 hAl
  have HWX := Lib.hid (show ∀ w', Below w6.heap.size w6 w' → Below w.heap.size w w' ∧ FlsAt w' w'.heap.size t.A t.ts ∧ FlsAt w' w'.heap.size u.A u.ts ∧ IdAt w' ∧ ChsAt w' w'.heap.size Al l from fun w' h =>
    ⟨(HW.out _ (hb26.trans (h.mono hb26.size))).1, (HW.out _ (hb26.trans (h.mono hb26.size))).2.1, (HW.out _ (hb26.trans (h.mono hb26.size))).2.2.1, (HW.out _ (hb26.trans (h.mono hb26.size))).2.2.2, hAl6.next h⟩)
  have hc0 : Carry w6 (.slice t.A t.ts.length t.c) t.ts := ⟨_, _, rfl, (HW.out _ hb26).2.1, hcap, hcap2⟩
  clear HW hAl6 hb26
  have hlb : l.length ≤ 200 := by omega
  clear hlen
  simp only [List.length_nil]
  go_wp2_with fail
  go_loopw [9, 63] (fun v i wr => ∃ (k : Nat) (ts : List Tre.Fl), k ≤ l.length ∧ i = .int .i64 k ∧ Carry wr v ts ∧ Tre.Led1 t.ts l k ts ∧ Below w6.heap.size w6 wr) (fun _ i _ => l.length - (intOf i).toNat)
  case atStart => exact ⟨0, t.ts, by omega, rfl, hc0, Tre.led1_zero HG.out l, Below.refl _ _⟩
  case round =>
    clear hc0
    obtain ⟨k, ts, hk, rfl, hcar, hled, hb⟩ := hrel
    obtain ⟨A, c, rfl, hA, hc1, hc2⟩ := hcar
    have HLED := Lib.hid hled
    clear hled
    by_cases hlt : k < l.length
    · have b1 : decide ((k : Int) < l.length) = true := by simp; omega
      have b1n : decide (k < l.length) = true := by simp; omega
      obtain ⟨g, o, rfl, hg, hd0, hd1, hd2, hd3⟩ := (HWX.out _ hb).2.2.2.2 k hlt
      have HSK := Lib.hid (fun h => Tre.led1_skip HLED.out hlt h)
      have HST := Lib.hid (fun h => Tre.led1_step HDO.out HLED.out hlt h)
      generalize l[k] = ch at *
      have hnew := heap_alloc_new wr (.cells #[.string (str ch.path), .int .i64 ch.kind, .string (str ch.old), .string (str ch.new)] 59)
      have hbw : Below wr.heap.size wr (wr.alloc (.cells #[.string (str ch.path), .int .i64 ch.kind, .string (str ch.old), .string (str ch.new)] 59)) := (Below.refl _ _).alloc (Nat.le_refl _) _
      have hA1 := hA.next hbw
      have hb1 := hb.trans (hbw.mono hb.size)
      have hlw : wr.heap.size < (wr.alloc (.cells #[.string (str ch.path), .int .i64 ch.kind, .string (str ch.old), .string (str ch.new)] 59)).heap.size := by simp
      go_upto_region 13 with (fail)
      generalize wr.alloc (.cells #[.string (str ch.path), .int .i64 ch.kind, .string (str ch.old), .string (str ch.new)] 59) = W at *
      clear hd0 hd1 hd2 hd3 hbw hA hb
      have e0 : W.cell? ⟨wr.heap.size, 0, none⟩ = some (.string (str ch.path)) := by rw [cell_of_row _ _ _ _ _ _ hnew]; rfl
      have e1 : W.cell? ⟨wr.heap.size, 1, none⟩ = some (.int .i64 ch.kind) := by rw [cell_of_row _ _ _ _ _ _ hnew]; rfl
      clear hnew
      by_cases h2 : ch.kind = 2
      · obtain ⟨hfnd, hnext⟩ := HST.out h2
        have b2 : (ch.kind == 2) = true := by rw [beq_iff_eq]; exact h2
        have hgd := HLED.out.good
        have hcall := drop_any A c ts (str ch.path) W hA1 (by have := hgd.len; omega) (good_lens hgd) (HWX.out _ hb1).2.2.2.1.max hc1 hc2
        rw [str_data, dropR_def, if_neg (fun h => h ((Tre.good_iff ts).2 hgd)), if_neg (by rw [hfnd]; decide)] at hcall
        have HN := Lib.hid hnext
        clear hfnd hnext h2 hgd HST HSK HLED
        generalize Tre.drop ts ch.path = ts2 at *
        go_wp2_with fail
        with_reducible refine hcall.mono ?_
        clear hcall
        rintro x w8 ⟨v8, rfl, ho8, hb8⟩
        dsimp only at ho8
        have hb18 := hb1.trans (hb8.mono hb1.size)
        have hcar := carry_own ho8
        clear ho8 hb8 hb1 e0 e1 hA1
        go_wp2_with fail
        go_roundw
        case rel => exact ⟨k + 1, ts2, by omega, by go_num, hcar, HN.out, hb18⟩
        case measure => simp [intOf]; omega
      · have b2 : (ch.kind == 2) = false := by rw [beq_eq_false_iff_ne]; exact h2
        have HN := Lib.hid (HSK.out h2)
        have hcar : Carry W (.slice A ts.length c) ts := ⟨_, _, rfl, hA1, hc1, hc2⟩
        clear h2 HST HSK HLED hA1
        go_wp2_with fail
        go_roundw
        case rel => exact ⟨k + 1, ts, by omega, by go_num, hcar, HN.out, hb1⟩
        case measure => simp [intOf]; omega
    · have b1 : decide ((k : Int) < l.length) = false := by simp; omega
      have b1n : decide (k < l.length) = false := by simp; omega
      obtain rfl : k = l.length := by omega
      have HL2 := Lib.hid (Tre.led2_zero HDO.out HLED.out)
      have hcar : Carry wr (.slice A ts.length c) ts := ⟨_, _, rfl, hA, hc1, hc2⟩
      have HWY := Lib.hid (show ∀ w', Below wr.heap.size wr w' → Below w.heap.size w w' ∧ FlsAt w' w'.heap.size t.A t.ts ∧ FlsAt w' w'.heap.size u.A u.ts ∧ IdAt w' ∧ ChsAt w' w'.heap.size Al l from fun w' h => HWX.out _ (hb.trans (h.mono hb.size)))
      clear HLED HWX hA hb
      obtain ⟨w7, hw7⟩ : ∃ w7, w7 = wr := ⟨_, rfl⟩
      rw [← hw7] at hcar HWY ⊢
      clear hw7
      go_wp2_with fail
      go_loopw [9, 83] (fun v i wr => ∃ (k : Nat) (ts : List Tre.Fl), k ≤ l.length ∧ i = .int .i64 k ∧ Carry wr v ts ∧ Tre.Led2 u.ts l k ts ∧ Below w7.heap.size w7 wr) (fun _ i _ => l.length - (intOf i).toNat)
      case atStart => exact ⟨0, ts, by omega, rfl, hcar, HL2.out, Below.refl _ _⟩
      case round =>
        clear hcar HL2
        obtain ⟨k, ts, hk, rfl, hcar, hled, hb⟩ := hrel
        obtain ⟨A, c, rfl, hA, hc1, hc2⟩ := hcar
        have HLED := Lib.hid hled
        clear hled
        by_cases hlt : k < l.length
        · have b1 : decide ((k : Int) < l.length) = true := by simp; omega
          have b1n : decide (k < l.length) = true := by simp; omega
          obtain ⟨g, o, rfl, hg, hd0, hd1, hd2, hd3⟩ := (HWY.out _ hb).2.2.2.2 k hlt
          have HSK := Lib.hid (fun h => Tre.led2_skip HLED.out hlt h)
          have HST := Lib.hid (fun h => Tre.led2_step HG'.out HDO.out HLED.out hlt h)
          generalize l[k] = ch at *
          have hnew := heap_alloc_new wr (.cells #[.string (str ch.path), .int .i64 ch.kind, .string (str ch.old), .string (str ch.new)] 59)
          have hbw : Below wr.heap.size wr (wr.alloc (.cells #[.string (str ch.path), .int .i64 ch.kind, .string (str ch.old), .string (str ch.new)] 59)) := (Below.refl _ _).alloc (Nat.le_refl _) _
          have hA1 := hA.next hbw
          have hb1 := hb.trans (hbw.mono hb.size)
          have hlw : wr.heap.size < (wr.alloc (.cells #[.string (str ch.path), .int .i64 ch.kind, .string (str ch.old), .string (str ch.new)] 59)).heap.size := by simp
          go_upto_region 22 with (fail)
          generalize wr.alloc (.cells #[.string (str ch.path), .int .i64 ch.kind, .string (str ch.old), .string (str ch.new)] 59) = W at *
          clear hd0 hd1 hd2 hd3 hbw hA hb
          have e0 : W.cell? ⟨wr.heap.size, 0, none⟩ = some (.string (str ch.path)) := by rw [cell_of_row _ _ _ _ _ _ hnew]; rfl
          have e1 : W.cell? ⟨wr.heap.size, 1, none⟩ = some (.int .i64 ch.kind) := by rw [cell_of_row _ _ _ _ _ _ hnew]; rfl
          by_cases h2 : ch.kind = 2
          · have b2 : (ch.kind != 2) = false := by rw [h2]; rfl
            have HN := Lib.hid (HSK.out h2)
            have hcar : Carry W (.slice A ts.length c) ts := ⟨_, _, rfl, hA1, hc1, hc2⟩
            clear h2 HST HSK HLED hA1 hnew
            go_wp2_with fail
            go_roundw
            case rel => exact ⟨k + 1, ts, by omega, by go_num, hcar, HN.out, hb1⟩
            case measure => simp [intOf]; omega
          · have b2 : (ch.kind != 2) = true := by rw [bne_iff_ne]; exact h2
            obtain ⟨hfnd, t2, hput, hnext⟩ := HST.out h2
            have hgd := HLED.out.good
            have hfs := find_size ((Tre.good_iff _).2 HG'.out) ch.path
            have hpl : ch.path.length ≤ 1000000000 := by
              obtain ⟨f, hf, e, _⟩ := Tre.find_mem hfnd
              rw [← e]; exact (good_lens HG'.out f hf).1
            have hcall := find_any u.A u.c u.ts (str ch.path) W (HWY.out _ hb1).2.2.1 (by omega)
            rw [str_data, findV_def, hfnd] at hcall
            have hcp := fun w' (hA' : FlsAt w' w'.heap.size A ts) (h : Below w7.heap.size w7 w') => put_any A c ts (str ch.path) (str (Tre.find u.ts ch.path).1) w' hA' (by have := hgd.len; omega) (good_lens hgd) (HWY.out _ h).2.2.2.1.max hc1 hc2 (by rw [str_size]; exact hpl) (by rw [str_size]; omega)
            simp only [str_data, hput] at hcp
            have HN := Lib.hid hnext
            clear hfnd hnext h2 hgd HST HSK HLED hput hpl hfs
            generalize (Tre.find u.ts ch.path).1 = fd at *
            go_wp2_with fail
            with_reducible refine hcall.mono ?_
            clear hcall e0 e1
            rintro x w8 ⟨rfl, hb8⟩
            have hb18 := hb1.trans (hb8.mono hb1.size)
            have hcp := hcp w8 (hA1.next hb8) hb18
            have hnew8 := (hb8.block wr.heap.size hlw).trans hnew
            have e0 : w8.cell? ⟨wr.heap.size, 0, none⟩ = some (.string (str ch.path)) := by rw [cell_of_row _ _ _ _ _ _ hnew8]; rfl
            clear hb8 hb1 hA1 hnew hnew8
            go_wp2_with fail
            with_reducible refine hcp.mono ?_
            clear hcp e0
            rintro x w9 ⟨v9, rfl, ho9, hb9⟩
            dsimp only at ho9
            have hb19 := hb18.trans (hb9.mono hb18.size)
            have hcar := carry_own ho9
            clear ho9 hb9 hb18
            go_wp2_with fail
            go_roundw
            case rel => exact ⟨k + 1, t2, by omega, by go_num, hcar, HN.out, hb19⟩
            case measure => simp [intOf]; omega
        · have b1 : decide ((k : Int) < l.length) = false := by simp; omega
          have b1n : decide (k < l.length) = false := by simp; omega
          obtain rfl : k = l.length := by omega
          obtain rfl : ts = u.ts := Tre.led2_end HG'.out HLED.out
          have hcall := eqt_true A u.A c u.c u.ts wr hA (HWY.out _ hb).2.2.1 (by omega)
          clear HLED hA
          go_wp2_with fail
          with_reducible refine hcall.mono ?_
          clear hcall
          rintro x w8 ⟨rfl, hb8⟩
          go_wp2_with fail
          go_ret
          exact ⟨rfl, (HWY.out _ (hb.trans (hb8.mono hb.size))).1⟩
end Go.Proofs.YtinkpbobkeppiaaGreatDoor
