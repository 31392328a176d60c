/- The law of TreeFiles. Condition: the tables of digest, codec and the library lie. -/
import Derived.Test.YtinkpbobkeppiaaGreatDoorPza
import Derived.Test.YtinkpbobkeppiaaGreatDoorQpu
import Derived.Test.YtinkpbobkeppiaaGreatDoorQmo
import Derived.Test.YtinkpbobkeppiaaGreatDoorPzb
import Derived.Test.YtinkpbobkeppiaaGreatDoorFws
namespace Go.Proofs.YtinkpbobkeppiaaGreatDoor
open Go.RowKit Go.Deep

theorem put_len (ts : List Tre.Fl) (f : Tre.Fl) : (Tre.put ts f).1.length ≤ ts.length + 1 := by
  have := Tre.drop_le ts f.path
  rw [put_def]
  repeat' split
  all_goals first | (show (Tre.ins _ _).length ≤ _; rw [Tre.ins_len]; omega) | (simp; done)
theorem dropR_len (ts : List Tre.Fl) (p : List UInt8) : (dropR ts p).1.length ≤ ts.length := by
  have := Tre.drop_le ts p
  rw [dropR_def]
  repeat' split
  all_goals first | exact this | (simp; done)
theorem mountR_len (ts : List Tre.Fl) (p : List UInt8) : (mountR ts p).1.length ≤ ts.length := by
  rw [mountR_def]
  repeat' split
  all_goals simp
theorem undQ_len (ts : List Tre.Fl) (p : List UInt8) : (undQ ts p).length ≤ ts.length := by
  rw [undQ_def]
  repeat' split
  all_goals first | exact List.length_filterMap_le _ _ | (simp; done)
theorem few_oneK (t : Tr) (w : World) (hok : TrOk w t) :
    Calls Tryz.prog 12 #[.slice (some ⟨w.heap.size, 0, none⟩) 1 1] (w.alloc (.cells #[.slice t.A t.ts.length t.c] 23)) fun x w' => (∃ b, x = .returned (.bool b) ∧ (b = true → FewOk 70 3000 t.ts)) ∧ Below w.heap.size w w' := by
  have hb : Below w.heap.size w (w.alloc (.cells #[.slice t.A t.ts.length t.c] 23)) := (Below.refl _ _).alloc (Nat.le_refl _) _
  have h := few_all w.heap.size 1 [t] (w.alloc (.cells #[.slice t.A t.ts.length t.c] 23)) (by simp)
    (fun i h => by
      rw [cell_of_row _ _ _ _ _ _ (heap_alloc_new w _)]
      match i, h with
      | 0, _ => rfl)
    (fun p hp => by
      rw [List.mem_singleton.1 hp]
      exact ⟨hok.at_.next hb, hok.len, hok.each⟩) (by simp)
  exact h.mono fun x w' ⟨⟨b, e, h1⟩, h2⟩ => ⟨⟨b, e, fun hb => h1 hb t (by simp)⟩, hb.trans (h2.mono hb.size)⟩
theorem few_bounds {ts : List Tre.Fl} (h : FewOk 70 3000 ts) : ∀ f ∈ ts, f.path.length ≤ 400000000 ∧ f.data.length ≤ 1000000000 := fun f hf =>
  ⟨by have := h.2.1 f hf; omega, ((few_lens h).1 f hf).2⟩
set_option maxHeartbeats 32000000 in
set_option maxRecDepth 100000 in
theorem files_law (t : Tr) (p s d : ByteArray) (w : World) (hI : IdAt w) (ht : TrOk w t) (hcap : t.ts.length ≤ t.c) (hcap2 : t.c ≤ maxLen) (hnil : t.A = none → t.c = 0) (hps : p.size ≤ 9223372036854775807) (hss : s.size ≤ 9223372036854775807) (hds : d.size ≤ 9223372036854775807) :
    Calls Tryz.prog 4 #[.slice t.A t.ts.length t.c, .agg #[.string p, .string s], .string d] w fun e w' => e = .returned (.bool true) ∧ Below w.heap.size w w' := by
  have hb0 : Below w.heap.size w (w.alloc (.cells #[.string p, .string s] 31)) := (Below.refl _ _).alloc (Nat.le_refl _) _
  have hN0 := heap_alloc_new w (.cells #[.string p, .string s] 31)
  have hbs : w.heap.size < (w.alloc (.cells #[.string p, .string s] 31)).heap.size := by simp
  have haw := awake_any _ (hI.below hb0)
  have HW := Lib.hid (show ∀ w', Below (w.alloc (.cells #[.string p, .string s] 31)).heap.size (w.alloc (.cells #[.string p, .string s] 31)) w' →
      Below w.heap.size w w' ∧ TrOk w' t ∧ IdAt w' ∧ w'.cell? ⟨w.heap.size, 0, none⟩ = some (.string p) ∧ w'.cell? ⟨w.heap.size, 1, none⟩ = some (.string s) from fun w' h => by
    have hb := hb0.trans (h.mono (Nat.le_of_lt hbs))
    have hN := (h.block w.heap.size hbs).trans hN0
    exact ⟨hb, ⟨ht.at_.next hb, ht.len, ht.each⟩, hI.below hb, by rw [cell_of_row _ _ _ _ _ _ hN]; rfl, by rw [cell_of_row _ _ _ _ _ _ hN]; rfl⟩)
  clear hI ht hb0 hN0
  go_enter Tryz.func4, Tryz.ntmps4
  go_wp2_with fail
  generalize w.alloc (.cells #[.string p, .string s] 31) = W at *
  generalize hbb : w.heap.size = b at *
  have HBB := Lib.hid hbb
  clear hbb
  with_reducible refine haw.mono ?_
  clear haw
  rintro x w1 ⟨rfl, hb1⟩
  have hfew := few_oneK t w1 (HW.out _ hb1).2.1
  have hs1 := hb1.size
  go_wp2_with fail
  with_reducible refine hfew.mono ?_
  clear hfew
  rintro x w2 ⟨⟨bb, rfl, hfw⟩, hb2⟩
  have hb02 := hb1.trans (hb2.mono hs1)
  clear hb1 hb2 hs1
  cases bb with
  | false =>
    clear hfw
    go_wp2_with fail
    go_ret
    exact ⟨rfl, by rw [HBB.out]; exact (HW.out _ hb02).1⟩
  | true =>
  have hfk := hfw rfl
  obtain ⟨hL, hn⟩ := few_lens hfk
  have hL4 := few_bounds hfk
  clear hfw hfk
  obtain ⟨k0, k1⟩ := (HW.out _ hb02).2.2.2
  by_cases g1 : 300 < p.size
  · have b1 : decide ((300 : Int) < (p.size : Int)) = true := by simp; omega
    have b1n : decide (300 < p.size) = true := by simp; omega
    go_wp2_with fail
    go_ret
    exact ⟨rfl, by rw [HBB.out]; exact (HW.out _ hb02).1⟩
  have b1 : decide ((300 : Int) < (p.size : Int)) = false := by simp; omega
  have b1n : decide (300 < p.size) = false := by simp; omega
  by_cases g3 : 1000 < s.size ∧ s.size < 65536
  · have b2 : decide ((1000 : Int) < (s.size : Int)) = true := by simp; omega
    have b2n : decide (1000 < s.size) = true := by simp; omega
    have b3 : decide ((s.size : Int) < 65536) = true := by simp; omega
    have b3n : decide (s.size < 65536) = true := by simp; omega
    go_wp2_with fail
    go_ret
    exact ⟨rfl, by rw [HBB.out]; exact (HW.out _ hb02).1⟩
  by_cases g4 : 65538 < s.size
  · have b2 : decide ((1000 : Int) < (s.size : Int)) = true := by simp; omega
    have b2n : decide (1000 < s.size) = true := by simp; omega
    have b3 : decide ((s.size : Int) < 65536) = false := by simp; omega
    have b3n : decide (s.size < 65536) = false := by simp; omega
    have b4 : decide ((65538 : Int) < (s.size : Int)) = true := by simp; omega
    have b4n : decide (65538 < s.size) = true := by simp; omega
    go_wp2_with fail
    go_ret
    exact ⟨rfl, by rw [HBB.out]; exact (HW.out _ hb02).1⟩
  have b4 : decide ((65538 : Int) < (s.size : Int)) = false := by simp; omega
  have b4n : decide (65538 < s.size) = false := by simp; omega
  have hbb23 : (decide ((1000 : Int) < (s.size : Int)) = true ∧ decide (1000 < s.size) = true ∧ decide ((s.size : Int) < 65536) = false ∧ decide (s.size < 65536) = false) ∨ (decide ((1000 : Int) < (s.size : Int)) = false ∧ decide (1000 < s.size) = false ∧ decide ((s.size : Int) < 65536) = true ∧ decide (s.size < 65536) = true) := by
    by_cases h : 1000 < s.size
    · exact .inl ⟨by simp; omega, by simp; omega, by simp; omega, by simp; omega⟩
    · exact .inr ⟨by simp; omega, by simp; omega, by simp; omega, by simp; omega⟩
  by_cases g5 : 300 < d.size
  · have b5 : decide ((300 : Int) < (d.size : Int)) = true := by simp; omega
    have b5n : decide (300 < d.size) = true := by simp; omega
    rcases hbb23 with ⟨b2, b2n, b3, b3n⟩ | ⟨b2, b2n, b3, b3n⟩
    all_goals
      go_wp2_with fail
      go_ret
      exact ⟨rfl, by rw [HBB.out]; exact (HW.out _ hb02).1⟩
  have b5 : decide ((300 : Int) < (d.size : Int)) = false := by simp; omega
  have b5n : decide (300 < d.size) = false := by simp; omega
  have hF1 := find_any t.A t.c t.ts d w2 (HW.out _ hb02).2.1.at_ (by omega)
  have hF2 := fun w' (h : Below W.heap.size W w') => qFind_any t.A t.c t.ts d w' (HW.out _ h).2.1.at_ (by omega)
  have hP1 := fun w' (h : Below W.heap.size W w') => put_any t.A t.c t.ts p s w' (HW.out _ h).2.1.at_ (by omega) hL (HW.out _ h).2.2.1.max hcap hcap2 (by omega) (by omega)
  have hP2 := fun w' (h : Below W.heap.size W w') => qPut_any t.A t.c t.ts ⟨p.data.toList, s.data.toList⟩ w' (HW.out _ h).2.1.at_ (by omega) hL hcap hcap2 (by show p.data.toList.length ≤ _; rw [size_data]; omega) (by show s.data.toList.length ≤ _; rw [size_data]; omega)
  have hD1 := fun w' (h : Below W.heap.size W w') => drop_any t.A t.c t.ts d w' (HW.out _ h).2.1.at_ (by omega) hL (HW.out _ h).2.2.1.max hcap hcap2
  have hD2 := fun w' (h : Below W.heap.size W w') => qDrop_any t.A t.c t.ts d w' (HW.out _ h).2.1.at_ (by omega) hL hcap hcap2
  have hM1 := fun w' (h : Below W.heap.size W w') => mount_any t.A t.c t.ts d w' (HW.out _ h).2.1.at_ (by omega) hL4 (by omega) (HW.out _ h).2.2.1.max hcap hcap2
  have hM2 := fun w' (h : Below W.heap.size W w') => qMount_any t.A t.c t.ts d w' (HW.out _ h).2.1.at_ (by omega) hL4 (by omega) hcap hcap2
  have hU1 := fun w' (h : Below W.heap.size W w') => under_any t.A t.c t.ts d w' (HW.out _ h).2.1.at_ (by omega) hL (HW.out _ h).2.2.1.max hcap hcap2 hnil
  have hU2 := fun w' (h : Below W.heap.size W w') => qUnder_any t.A t.c t.ts d w' (HW.out _ h).2.1.at_ (by omega) hL (by omega) hcap hcap2
  simp only [flV, str_of] at hP2
  rw [findV_def] at hF1
  simp only [findV_def] at hF2
  have lP := put_len t.ts ⟨p.data.toList, s.data.toList⟩
  have lD := dropR_len t.ts d.data.toList
  have lM := mountR_len t.ts d.data.toList
  have lU := undQ_len t.ts d.data.toList
  generalize (Tre.find t.ts d.data.toList).1 = fd at *
  generalize (Tre.find t.ts d.data.toList).2 = fb at *
  generalize Tre.put t.ts ⟨p.data.toList, s.data.toList⟩ = RP at *
  generalize dropR t.ts d.data.toList = RD at *
  generalize mountR t.ts d.data.toList = RM at *
  generalize undQ t.ts d.data.toList = RU at *
  obtain ⟨P1, P2⟩ := RP
  obtain ⟨D1, D2⟩ := RD
  obtain ⟨M1, M2⟩ := RM
  dsimp only at lP lD lM
  have e1 : ((str fd).toList == (str fd).toList) = true := by simp
  have e2 : (fb == fb) = true := by simp
  have e3 : decide (P2 = P2) = true := decide_eq_true rfl
  have e4 : decide (D2 = D2) = true := decide_eq_true rfl
  have e5 : decide (M2 = M2) = true := decide_eq_true rfl
  clear hL4 g1 g3 g4 g5
  rcases hbb23 with ⟨b2, b2n, b3, b3n⟩ | ⟨b2, b2n, b3, b3n⟩
  all_goals
    have hq := hF1
    clear hF1
    go_wp2_with fail
    with_reducible refine hq.mono ?_
    clear hq
    rintro x w3 ⟨rfl, hb3⟩
    have hb03 := hb02.trans (hb3.mono hb02.size)
    clear hb3 hb02
    clear b1 b1n b2 b2n b3 b3n b4 b4n b5 b5n k0 k1
    have hq := hF2 w3 hb03
    clear hF2
    go_wp2_with fail
    with_reducible refine hq.mono ?_
    clear hq
    rintro x w4 ⟨rfl, hb4⟩
    have hb04 := hb03.trans (hb4.mono hb03.size)
    clear hb4 hb03
    have hq := hP1 w4 hb04
    clear hP1
    obtain ⟨k0, k1⟩ := (HW.out _ hb04).2.2.2
    go_wp2_with fail
    with_reducible refine hq.mono ?_
    clear hq k0 k1
    rintro x w5 ⟨v5, rfl, ho5, hb5⟩
    dsimp only at ho5
    obtain ⟨A5, c5, rfl, hA5⟩ := owns_fls ho5
    clear ho5
    have hb05 := hb04.trans (hb5.mono hb04.size)
    clear hb5 hb04
    have hq := hP2 w5 hb05
    clear hP2
    obtain ⟨k0, k1⟩ := (HW.out _ hb05).2.2.2
    go_wp2_with fail
    with_reducible refine hq.mono ?_
    clear hq k0 k1
    rintro x w6 ⟨v6, rfl, ho6, hb6⟩
    dsimp only at ho6
    obtain ⟨A6, c6, rfl, hA6⟩ := owns_fls ho6
    clear ho6
    have hb06 := hb05.trans (hb6.mono hb05.size)
    have hA5 := hA5.next hb6
    clear hb6 hb05
    have hq := hD1 w6 hb06
    clear hD1
    go_wp2_with fail
    with_reducible refine hq.mono ?_
    clear hq
    rintro x w7 ⟨v7, rfl, ho7, hb7⟩
    dsimp only at ho7
    obtain ⟨A7, c7, rfl, hA7⟩ := owns_fls ho7
    clear ho7
    have hb07 := hb06.trans (hb7.mono hb06.size)
    have hA5 := hA5.next hb7
    have hA6 := hA6.next hb7
    clear hb7 hb06
    have hq := hD2 w7 hb07
    clear hD2
    go_wp2_with fail
    with_reducible refine hq.mono ?_
    clear hq
    rintro x w8 ⟨v8, rfl, ho8, hb8⟩
    dsimp only at ho8
    obtain ⟨A8, c8, rfl, hA8⟩ := owns_fls ho8
    clear ho8
    have hb08 := hb07.trans (hb8.mono hb07.size)
    have hA5 := hA5.next hb8
    have hA6 := hA6.next hb8
    have hA7 := hA7.next hb8
    clear hb8 hb07
    have hq := hM1 w8 hb08
    clear hM1
    go_wp2_with fail
    with_reducible refine hq.mono ?_
    clear hq
    rintro x w9 ⟨v9, rfl, ho9, hb9⟩
    dsimp only at ho9
    obtain ⟨A9, c9, rfl, hA9⟩ := owns_fls ho9
    clear ho9
    have hb09 := hb08.trans (hb9.mono hb08.size)
    have hA5 := hA5.next hb9
    have hA6 := hA6.next hb9
    have hA7 := hA7.next hb9
    have hA8 := hA8.next hb9
    clear hb9 hb08
    have hq := hM2 w9 hb09
    clear hM2
    go_wp2_with fail
    with_reducible refine hq.mono ?_
    clear hq
    rintro x w10 ⟨v10, rfl, ho10, hb10⟩
    dsimp only at ho10
    obtain ⟨A10, c10, rfl, hA10⟩ := owns_fls ho10
    clear ho10
    have hb010 := hb09.trans (hb10.mono hb09.size)
    have hA5 := hA5.next hb10
    have hA6 := hA6.next hb10
    have hA7 := hA7.next hb10
    have hA8 := hA8.next hb10
    have hA9 := hA9.next hb10
    clear hb10 hb09
    have hq := same_true A5 A6 c5 c6 P1 w10 hA5 hA6 (by omega)
    go_wp2_with fail
    with_reducible refine hq.mono ?_
    clear hq hA5 hA6
    rintro x w11 ⟨rfl, hb11⟩
    have hb011 := hb010.trans (hb11.mono hb010.size)
    have hA7 := hA7.next hb11
    have hA8 := hA8.next hb11
    have hA9 := hA9.next hb11
    have hA10 := hA10.next hb11
    clear hb11 hb010
    have hq := same_true A7 A8 c7 c8 D1 w11 hA7 hA8 (by omega)
    go_wp2_with fail
    with_reducible refine hq.mono ?_
    clear hq hA7 hA8
    rintro x w12 ⟨rfl, hb12⟩
    have hb012 := hb011.trans (hb12.mono hb011.size)
    have hA9 := hA9.next hb12
    have hA10 := hA10.next hb12
    clear hb12 hb011
    have hq := same_true A9 A10 c9 c10 M1 w12 hA9 hA10 (by omega)
    go_wp2_with fail
    with_reducible refine hq.mono ?_
    clear hq hA9 hA10
    rintro x w13 ⟨rfl, hb13⟩
    have hb013 := hb012.trans (hb13.mono hb012.size)
    clear hb13 hb012
    have hq := hU1 w13 hb013
    clear hU1
    go_wp2_with fail
    with_reducible refine hq.mono ?_
    clear hq
    rintro x w14 ⟨v14, rfl, ho14, hb14⟩
    obtain ⟨A14, c14, rfl, hA14⟩ := owns_fls ho14
    clear ho14
    have hb014 := hb013.trans (hb14.mono hb013.size)
    clear hb14 hb013
    have hq := hU2 w14 hb014
    clear hU2
    go_wp2_with fail
    with_reducible refine hq.mono ?_
    clear hq
    rintro x w15 ⟨v15, rfl, ho15, hb15⟩
    obtain ⟨A15, c15, rfl, hA15⟩ := owns_fls ho15
    clear ho15
    have hb015 := hb014.trans (hb15.mono hb014.size)
    have hA14 := hA14.next hb15
    clear hb15 hb014
    have hq := same_true A14 A15 c14 c15 RU w15 hA14 hA15 (by omega)
    go_wp2_with fail
    with_reducible refine hq.mono ?_
    clear hq hA14 hA15
    rintro x w16 ⟨rfl, hb16⟩
    have hb016 := hb015.trans (hb16.mono hb015.size)
    clear hb16 hb015
    go_wp2_with fail
    go_ret
    exact ⟨by first | rfl | simp, by rw [HBB.out]; exact (HW.out _ hb016).1⟩
end Go.Proofs.YtinkpbobkeppiaaGreatDoor
