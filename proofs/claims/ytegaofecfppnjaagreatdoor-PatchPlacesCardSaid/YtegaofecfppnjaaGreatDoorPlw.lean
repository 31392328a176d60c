/- The law PatchPlaces returns true. Condition: the variables that the program reads lie. -/
import Derived.Test.YtegaofecfppnjaaGreatDoorBkw
namespace Go.Proofs.YtegaofecfppnjaaGreatDoor
open Go.RowKit Go.Deep Tr

set_option maxHeartbeats 8000000 in
set_option maxRecDepth 100000 in
theorem places_law (p : Pc.Pa) (A : Option Addr) (c : Nat) (d : List UInt8) (w : World) (hP : PaRaw w p A) (hI : IdAt w) :
    Calls Tryz.prog 8 #[paV p A c, .string (str d)] w fun e w' => e = .returned (.bool true) ∧ Below w.heap.size w w' := by
  rw [paV_def]
  have hB0 : Below w.heap.size w (w.alloc (.cells #[.string (str p.base), .slice A p.hs.length c] 24)) := (Below.refl _ _).alloc (Nat.le_refl _) _
  have bx : Bp (w.alloc (.cells #[.string (str p.base), .slice A p.hs.length c] 24)) w.heap.size p A c := heap_alloc_new w _
  have hP0 := hP.next hB0
  have hI0 := hI.below hB0
  go_enter Tryz.func8, Tryz.ntmps8
  go_wp2_with fail
  generalize w.alloc (.cells #[.string (str p.base), .slice A p.hs.length c] 24) = W at *
  have c1 := awake_any W hI0
  with_reducible refine c1.mono ?_
  clear c1 hP hI
  rintro x w1 ⟨rfl, hb1⟩
  have hB1 := hB0.trans (hb1.mono hB0.size)
  have hP1 := hP0.next hb1
  have hI1 := hI0.below hb1
  have bx1 := bx.next hb1
  clear hB0 hP0 hI0 bx hb1
  have c2 := qFew_any p A c w1 hP1
  rw [paV_def] at c2
  obtain ⟨p0, p1⟩ := bx1.cells
  go_wp2_with fail
  with_reducible refine c2.mono ?_
  clear c2 p0 p1
  rintro x w2 ⟨b, rfl, hsm, hb2⟩
  have hB2 := hB1.trans (hb2.mono hB1.size)
  have hP2 := hP1.next hb2
  have hI2 := hI1.below hb2
  have bx2 := bx1.next hb2
  clear hB1 hP1 hI1 bx1 hb2
  cases b with
  | false =>
    clear hsm
    go_wp2_with fail
    go_ret
    exact ⟨rfl, hB2⟩
  | true =>
  have HSM := Lib.hid (hsm rfl)
  clear hsm
  have hy : Below w2.heap.size w2 (w2.alloc (.cells #[.string (str d)] 9)) := (Below.refl _ _).alloc (Nat.le_refl _) _
  have hz := heap_alloc_new w2 (.cells #[.string (str d)] 9)
  have c3 := few_any (some ⟨w2.heap.size, 0, none⟩) 1 [d] (w2.alloc (.cells #[.string (str d)] 9)) (fun i hi => by
    have hi0 : i = 0 := by simp [strs] at hi; omega
    subst hi0
    exact ⟨w2.heap.size, 0, rfl, by simp, by rw [cell_of_row _ _ _ _ _ _ hz]; rfl⟩) (by simp)
  rw [show [d].length = 1 from rfl] at c3
  have hB3 := hB2.trans (hy.mono hB2.size)
  have hP3 := hP2.next hy
  have hI3 := hI2.below hy
  have bx3 := bx2.next hy
  clear hB2 hP2 hI2 bx2 hy hz
  go_wp2_with fail
  generalize w2.alloc (.cells #[.string (str d)] 9) = W3 at *
  with_reducible refine c3.mono ?_
  clear c3
  rintro x w4 ⟨b, rfl, hfew, hb4⟩
  have hB4 := hB3.trans (hb4.mono hB3.size)
  have hP4 := hP3.next hb4
  have hI4 := hI3.below hb4
  have bx4 := bx3.next hb4
  clear hB3 hP3 hI3 bx3 hb4
  cases b with
  | false =>
    clear hfew
    go_wp2_with fail
    go_ret
    exact ⟨rfl, hB4⟩
  | true =>
  have hdl : d.length ≤ 500 := (by simpa using hfew)
  have hds := str_size d
  have hok := fun w (h : PaRaw w p A) => h.ok HSM.out
  have c5 := apply_any p A c (str d) w4 (hok _ hP4) hI4 (by omega)
  rw [str_data, apV_def, paV_def] at c5
  obtain ⟨p0, p1⟩ := bx4.cells
  clear hfew
  go_wp2_with fail
  with_reducible refine c5.mono ?_
  clear c5 p0 p1
  rintro x w5 ⟨rfl, hb5⟩
  have hB5 := hB4.trans (hb5.mono hB4.size)
  have hP5 := hP4.next hb5
  have hI5 := hI4.below hb5
  have bx5 := bx4.next hb5
  clear hB4 hP4 hI4 bx4 hb5
  by_cases he : (Pc.apply p d).2 = 0
  · obtain ⟨t, ht⟩ : ∃ t, Pc.apply p d = (t, 0) := ⟨(Pc.apply p d).1, by rw [← he]⟩
    obtain ⟨a, b, hL⟩ := Pc.led_of ht
    obtain ⟨hsh, hba, hjo⟩ := Pc.valid_parts hL.valid
    obtain ⟨j1, j2, _, _, j5⟩ := Pc.join_ok hjo
    have hpr : Pc.print p = (Tre.joined (Pc.printL p), 0) := by rw [print_def, if_pos hL.valid]
    have htr : Pc.trace p (a.length : Int) = (Pc.placesOf p, 0) := by
      unfold Pc.trace
      rw [if_neg (by rw [hL.valid]; simp), if_neg (by rw [(Pc.apply_base ht hL.old).1]; simp)]
    have hold := hL.old
    have hnow := hL.now
    have hsay := hL.says
    have htl := text_len hnow
    have hts := str_size t
    have HAL := Lib.hid (Pc.lines_ok hold).2.2.1
    have HOL := Lib.hid (Pc.lines_ok j2).2.2.1
    have HBN := Lib.hid (Pc.lines_ok hnow).2.2.1
    clear hsh hba hjo j1 hL he
    rw [ht]
    generalize Tre.joined (Pc.printL p) = tx at *
    generalize Pc.printL p = own at *
    generalize Pc.placesOf p = l at *
    have htx := str_size tx
    have c6 := qLines_any (str d) w5 (by omega)
    rw [str_data, hold] at c6
    go_wp2_with fail
    with_reducible refine c6.mono ?_
    clear c6
    rintro x w6 ⟨v6, rfl, ho6, hb6⟩
    dsimp only at ho6 ⊢
    obtain ⟨Aa, ca, rfl, hAa6⟩ := owns_cells ho6
    clear ho6
    have hB6 := hB5.trans (hb6.mono hB5.size)
    have hP6 := hP5.next hb6
    have hI6 := hI5.below hb6
    have bx6 := bx5.next hb6
    clear hB5 hb6 hP5 hI5 bx5
    have c7 := print_any p A c w6 (hok _ hP6) hI6.tabs
    rw [hpr, paV_def] at c7
    dsimp only at c7
    obtain ⟨p0, p1⟩ := bx6.cells
    go_wp2_with fail
    with_reducible refine c7.mono ?_
    clear c7 p0 p1
    rintro x w7 ⟨rfl, hb7⟩
    have hB7 := hB6.trans (hb7.mono hB6.size)
    have hP7 := hP6.next hb7
    have hI7 := hI6.below hb7
    have bx7 := bx6.next hb7
    have hAa7 := hAa6.next hb7
    clear hB6 hb7 hP6 hI6 bx6 hAa6
    have c8 := qLines_any (str tx) w7 (by omega)
    rw [str_data, j2] at c8
    go_wp2_with fail
    with_reducible refine c8.mono ?_
    clear c8
    rintro x w8 ⟨v8, rfl, ho8, hb8⟩
    dsimp only at ho8 ⊢
    obtain ⟨Ao, co, rfl, hAo8⟩ := owns_cells ho8
    clear ho8
    have hB8 := hB7.trans (hb8.mono hB7.size)
    have hP8 := hP7.next hb8
    have hI8 := hI7.below hb8
    have bx8 := bx7.next hb8
    have hAa8 := hAa7.next hb8
    clear hB7 hb8 hP7 hI7 bx7 hAa7
    have c9 := qLines_any (str t) w8 (by omega)
    rw [str_data, hnow] at c9
    go_wp2_with fail
    with_reducible refine c9.mono ?_
    clear c9
    rintro x w9 ⟨v9, rfl, ho9, hb9⟩
    dsimp only at ho9 ⊢
    obtain ⟨Ab, cb, rfl, hAb9⟩ := owns_cells ho9
    clear ho9
    have hB9 := hB8.trans (hb9.mono hB8.size)
    have hP9 := hP8.next hb9
    have hI9 := hI8.below hb9
    have bx9 := bx8.next hb9
    have hAa9 := hAa8.next hb9
    have hAo9 := hAo8.next hb9
    clear hB8 hb9 hP8 hI8 bx8 hAa8 hAo8
    have c10 := trace_any p A c (a.length : Int) w9 (hok _ hP9) hI9.tabs
    rw [htr, paV_def] at c10
    obtain ⟨p0, p1⟩ := bx9.cells
    go_wp2_with fail
    with_reducible refine c10.mono ?_
    clear c10 p0 p1
    rintro x w10 ⟨v10, rfl, ho10, hb10⟩
    dsimp only at ho10 ⊢
    obtain ⟨Al, cl, rfl, hPl⟩ := owns_pls ho10
    clear ho10
    have hAa := hAa9.next hb10
    have hAo := hAo9.next hb10
    have hAb := hAb9.next hb10
    have hB10 := hB9.trans (hb10.mono hB9.size)
    clear hB9 hP9 hI9 bx9 hAa9 hAo9 hAb9 hb10 hok hold hnow hpr htr j2 j5
    rw [hsay.len]
    have HB := Lib.hid hB10
    have HS := Lib.hid hsay
    have hll := hsay.len
    have hal := HAL.out
    have hol := HOL.out
    have hbn := HBN.out
    clear hB10
    go_wp2_with fail
    go_loopw [17, 95] (fun s17 s95 wr => ∃ (k : Nat) (last : Int), k ≤ b.length ∧ s95 = .int .i64 k ∧ s17 = .int .i64 last ∧ (∀ y ∈ l.drop k, y.new = -1 → last < y.old) ∧ Below w10.heap.size w10 wr) (fun _ s95 _ => b.length - (intOf s95).toNat)
    case atStart => exact ⟨0, -1, by omega, rfl, rfl, fun y hy hn => by have := HS.out.low y hy hn; omega, Below.refl _ _⟩
    case round =>
      obtain ⟨k, last, hk, rfl, rfl, hdr, hb⟩ := hrel
      by_cases hlt : k < b.length
      · have hki : (k : Int) < (b.length : Int) := by omega
        have hlk : k < l.length := by omega
        obtain ⟨g, o, rfl, hg, h0, h1⟩ := hPl k hlk
        have hd0 := (hb.cell (p := ⟨g, o + k * 2, none⟩) hg).trans h0
        have hd1 := (hb.cell (p := ⟨g, o + k * 2 + 1, none⟩) hg).trans h1
        obtain ⟨gb, ob, rfl, hgb, hcb⟩ := hAb k (by rw [strs_len]; exact hlt)
        rw [strs_get _ k hlt] at hcb
        have hcase := HS.out.at_ k hlk hlt
        have HRI := Lib.hid (show l[k].new = -1 → ∀ y ∈ l.drop (k + 1), y.new = -1 → l[k].old < y.old from fun hn y hy hny => by
          have hp := HS.out.rise
          rw [List.pairwise_iff_getElem] at hp
          obtain ⟨j, hj, rfl⟩ := List.mem_iff_getElem.1 hy
          rw [List.getElem_drop] at hny ⊢
          exact hp k (k + 1 + j) hlk (by rw [List.length_drop] at hj; omega) (by omega) hn hny)
        have HDR := Lib.hid (show (l[k].new = -1 → last < l[k].old) ∧ ∀ y ∈ l.drop (k + 1), y.new = -1 → last < y.old from by
          rw [list_drop l k hlk] at hdr
          exact ⟨hdr l[k] (List.mem_cons_self ..), fun y hy => hdr y (List.mem_cons_of_mem _ hy)⟩)
        clear h0 h1 hdr
        generalize hx : l[k] = x at *
        clear hx
        generalize b[k] = y at *
        rcases hcase with ⟨i, rfl, hi⟩ | ⟨i, rfl, hi⟩
        · obtain ⟨hia, hie⟩ := List.getElem?_eq_some_iff.1 hi
          obtain ⟨gi, oi, rfl, hgi, hci⟩ := hAa i (by rw [strs_len]; exact hia)
          rw [strs_get _ i hia, hie] at hci
          have hlast := HDR.out.1 rfl
          dsimp only at hlast hd0 hd1
          have g1 : decide (last < (i : Int)) = true := decide_eq_true hlast
          have g2 : decide ((i : Int) < (a.length : Int)) = true := decide_eq_true (by omega)
          have g2n : decide (i < a.length) = true := decide_eq_true hia
          have g3 : (i : Int) < (a.length : Int) := by omega
          have hbW := hb.alloc hb.size (.cells #[.int .i64 i, .int .i64 (-1)] 44)
          have e := heap_alloc_new wr (.cells #[.int .i64 i, .int .i64 (-1)] 44)
          have f0 := (hbW.cell (p := ⟨gi, oi + i, none⟩) hgi).trans hci
          have f1 := (hbW.cell (p := ⟨gb, ob + k, none⟩) hgb).trans hcb
          clear hcb hci
          go_upto_region 21 with (fail)
          generalize wr.alloc (.cells #[.int .i64 i, .int .i64 (-1)] 44) = W2 at *
          generalize wr.heap.size = q at *
          have e0 : W2.cell? ⟨q, 0, none⟩ = some (.int .i64 i) := by rw [cell_of_row _ _ _ _ _ _ e]; rfl
          go_quiet (fail)
          have hb2 := below_drewN hbW nq
          have e2 : (W2.drewN nq).cell? ⟨q, 0, none⟩ = some (.int .i64 i) := e0
          generalize W2.drewN nq = w3 at *
          clear e e0 f0 f1 hd0 hd1 hbW hb g1 g2 g2n
          go_wp2_with fail
          go_roundw
          case rel => exact ⟨k + 1, i, by omega, by go_num, rfl, HRI.out rfl, hb2⟩
          case measure => simp [intOf]; omega
        · obtain ⟨hia, hie⟩ := List.getElem?_eq_some_iff.1 hi
          obtain ⟨gi, oi, rfl, hgi, hci⟩ := hAo i (by rw [strs_len]; exact hia)
          rw [strs_get _ i hia, hie] at hci
          dsimp only at hd0 hd1
          have g1 : ((i : Int) == -1) = false := by rw [beq_eq_false_iff_ne]; omega
          have g2 : decide ((i : Int) < (own.length : Int)) = true := decide_eq_true (by omega)
          have g2n : decide (i < own.length) = true := decide_eq_true hia
          have g3 : (i : Int) < (own.length : Int) := by omega
          have g4 : decide ((0 : Int) ≤ (i : Int)) = true := decide_eq_true (by omega)
          have hbW := hb.alloc hb.size (.cells #[.int .i64 (-1), .int .i64 i] 44)
          have e := heap_alloc_new wr (.cells #[.int .i64 (-1), .int .i64 i] 44)
          have f0 := (hbW.cell (p := ⟨gi, oi + i, none⟩) hgi).trans hci
          have f1 := (hbW.cell (p := ⟨gb, ob + k, none⟩) hgb).trans hcb
          clear hcb hci
          go_upto_region 25 with (fail)
          generalize wr.alloc (.cells #[.int .i64 (-1), .int .i64 i] 44) = W2 at *
          generalize wr.heap.size = q at *
          have e0 : W2.cell? ⟨q, 1, none⟩ = some (.int .i64 i) := by rw [cell_of_row _ _ _ _ _ _ e]; rfl
          go_quiet (fail)
          have hb2 := below_drewN hbW nq
          generalize W2.drewN nq = w3 at *
          clear e e0 f0 f1 hd0 hd1 hbW hb g1 g2 g2n g4
          go_wp2_with fail
          go_roundw
          case rel => exact ⟨k + 1, last, by omega, by go_num, rfl, HDR.out.2, hb2⟩
          case measure => simp [intOf]; omega
      · have b9 : decide ((k : Int) < (b.length : Int)) = false := by simp; omega
        have b9n : decide (k < b.length) = false := by simp; omega
        have hbb := HB.out.trans (hb.mono HB.out.size)
        go_wp2_with fail
        go_ret
        exact ⟨rfl, hbb⟩
  · have hz : (Pc.apply p d).1 = [] := by
      rcases Pc.apply_cases p d with ⟨_, h⟩ | ⟨h, _⟩
      · exact h
      · exact absurd h he
    rw [hz]
    have be : ((Pc.apply p d).2 == 0) = false := by simpa using he
    have ben : ((Pc.apply p d).2 != 0) = true := by simpa using he
    have i1 : (str ([] : List UInt8)).toList.isEmpty = true := by rw [str_list]; rfl
    clear he hz
    generalize Pc.apply p d = r at *
    go_wp2_with fail
    go_ret
    exact ⟨rfl, hB5⟩
theorem places_law' (p : Pc.Pa) (A : Option Addr) (c : Nat) (s : ByteArray) (w : World) (hP : PaRaw w p A) (hI : IdAt w) :
    Calls Tryz.prog 8 #[paV p A c, .string s] w fun e w' => e = .returned (.bool true) ∧ Below w.heap.size w w' := by
  have h := places_law p A c s.data.toList w hP hI
  rwa [str_of] at h
end Go.Proofs.YtegaofecfppnjaaGreatDoor
