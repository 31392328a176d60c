/- The law CodecReads returns true. Condition: the library's table of powers of ten lies in its variable. -/
import Derived.Test.YtmbgblfoadojnaaDoorQels
import Derived.Test.YtmbgblfoadojnaaDoorAll
import Derived.Deep.RegionWith
import Derived.Deep.RegionHeld3
import Derived.WalkSmall
import Derived.BigQuiet
import Derived.Deep.QuietTactic
namespace Go.Proofs.YtmbgblfoadojnaaDoor
open Go.RowKit

/-- A list of calls lies in memory. -/
def ActsAt (w : World) (B : Nat) (A : Option Addr) (acts : List (Int × Int × Int)) : Prop := ∀ i (h : i < acts.length), ∃ g o, A = some ⟨g, o, none⟩ ∧ g < B ∧ w.cell? ⟨g, o + i * 3, none⟩ = some (.int .u8 acts[i].1) ∧ w.cell? ⟨g, o + i * 3 + 1, none⟩ = some (.int .i64 acts[i].2.1) ∧ w.cell? ⟨g, o + i * 3 + 2, none⟩ = some (.int .i64 acts[i].2.2) ∧ 0 ≤ acts[i].1 ∧ acts[i].1 ≤ 255

theorem qNumber_at (b : Nat) (low high : Int) (r : Cod.Rd) (w : World) (h : QdAt w b (str r.rest) r.err) (hs : r.rest.length ≤ 1000000000) :
    Calls Tryd.prog 21 #[.pointer (some ⟨b, 0, none⟩), .int .i64 low, .int .i64 high] w fun x w' =>
      x = .returned (.int .i64 (Cod.number low high r).1) ∧ QdAt w' b (str (Cod.number low high r).2.rest) (Cod.number low high r).2.err ∧ w.grownBy w' (some b) :=
  qNumber_any b low high (str r.rest) r.err w h (by rw [str_size]; exact hs)
theorem qText_at (b : Nat) (most : Int) (r : Cod.Rd) (w : World) (h : QdAt w b (str r.rest) r.err) (hs : r.rest.length ≤ 1000000000) :
    Calls Tryd.prog 23 #[.pointer (some ⟨b, 0, none⟩), .int .i64 most] w fun x w' =>
      x = .returned (.string (str (Cod.text most r).1)) ∧ QdAt w' b (str (Cod.text most r).2.rest) (Cod.text most r).2.err ∧ w.grownBy w' (some b) :=
  qText_any b most (str r.rest) r.err w h (by rw [str_size]; exact hs)
theorem qNumbers_at (b : Nat) (low high : Int) (r : Cod.Rd) (w : World) (h : QdAt w b (str r.rest) r.err) (hs : r.rest.length ≤ 1000000000) :
    Calls Tryd.prog 26 #[.pointer (some ⟨b, 0, none⟩), .int .i64 low, .int .i64 high] w (GotQI w b (Cod.list (Cod.number low high) r)) :=
  qNumbers_any b low high (str r.rest) r.err w h (by rw [str_size]; exact hs)
theorem qTexts_at (b : Nat) (most : Int) (r : Cod.Rd) (w : World) (h : QdAt w b (str r.rest) r.err) (hs : r.rest.length ≤ 1000000000) :
    Calls Tryd.prog 29 #[.pointer (some ⟨b, 0, none⟩), .int .i64 most] w (GotQS w b (Cod.list (nextT most) r)) :=
  qTexts_any b most (str r.rest) r.err w h (by rw [str_size]; exact hs)

theorem loop_len {α : Type} (next : Cod.Rd → α × Cod.Rd) : ∀ (k : Nat) (r : Cod.Rd) (acc : List α), (Cod.loop next k r acc).1.length ≤ acc.length + k
  | 0, r, acc => Nat.le_refl _
  | k + 1, r, acc => by
    rw [Cod.loop]
    split
    · have h := loop_len next k (next r).2 (acc ++ [(next r).1])
      rw [List.length_append, List.length_singleton] at h
      omega
    · simp
theorem list_len {α : Type} (next : Cod.Rd → α × Cod.Rd) (r : Cod.Rd) : (Cod.list next r).1.length ≤ 1024 := by
  have h := loop_len next (Cod.number 0 1024 r).1.toNat (Cod.number 0 1024 r).2 []
  have h1 := number_le 0 1024 r (by omega) (by omega)
  have h2 := number_err 0 1024 r
  have h3 : (Cod.number 0 1024 r).1.toNat ≤ 1024 := by
    rcases h1 with h1 | h1
    · omega
    · rw [h2 h1]; decide
  have h4 : (Cod.list next r).1.length ≤ 0 + (Cod.number 0 1024 r).1.toNat := h
  omega

set_option maxHeartbeats 8000000 in
set_option maxRecDepth 100000 in
theorem reads_main (s : ByteArray) (A : Option Addr) (c : Nat) (acts : List (Int × Int × Int)) (w : World) (hT : Tabs w) (hA : ActsAt w w.heap.size A acts) (hs : s.size ≤ 3000) (hl : acts.length ≤ 20) :
    Calls Tryd.prog 5 #[.string s, .slice A acts.length c] w fun e w' => e = .returned (.bool true) ∧ Below w.heap.size w w' := by
  have d1 : decide ((3000 : Int) < s.size) = false := by simp; omega
  have d2 : decide ((20 : Int) < acts.length) = false := by simp; omega
  go_enter Tryd.func5, Tryd.ntmps5
  go_wp2_with fail
  refine (awake_any w hT).mono ?_
  rintro e w1 ⟨rfl, hb1⟩
  go_wp2_with fail
  refine (newReader_any s w1).mono ?_
  rintro e w2 ⟨rfl, hr, hb2⟩
  obtain ⟨b, hb⟩ : ∃ b, b = w1.heap.size := ⟨_, rfl⟩
  rw [← hb] at hr
  rw [← hb]
  have hwb : w.heap.size ≤ b := by rw [hb]; exact hb1.size
  replace hb1 := hb1.trans (hb2.mono hb1.size)
  have hbw := hr.lt
  clear hb2 hb
  have hq : QdAt (w2.alloc (.cells #[.string s, .int .i64 0] 38)) w2.heap.size s 0 := heap_alloc_new w2 _
  replace hr := hr.alloc (.cells #[.string s, .int .i64 0] 38)
  replace hb1 := hb1.alloc hb1.size (.cells #[.string s, .int .i64 0] 38)
  obtain ⟨W, hW⟩ : ∃ W, W = w2.alloc (.cells #[.string s, .int .i64 0] 38) := ⟨_, rfl⟩
  go_upto_region 9 with fail
  rw [← hW] at hq hr hb1
  rw [← hW]
  obtain ⟨q, hqe⟩ : ∃ q, q = w2.heap.size := ⟨_, rfl⟩
  rw [← hqe] at hq hbw
  rw [← hqe]
  have hwq : w.heap.size ≤ q := by omega
  clear hqe hW
  go_wp2_with fail
  go_loopw [29] (fun v wr => ∃ (k : Nat) (r : Cod.Rd), k ≤ acts.length ∧ v = .int .i64 k ∧ RdAt wr b (str r.rest) r.err ∧ QdAt wr q (str r.rest) r.err ∧ (r.err ≠ 0 → r.rest = []) ∧ r.rest.length ≤ 3000 ∧ Below w.heap.size w wr) (fun v _ => acts.length - (intOf v).toNat)
  case atStart => exact ⟨0, ⟨s.data.toList, 0⟩, by omega, rfl, by rw [str_of]; exact hr, by rw [str_of]; exact hq, fun h => absurd rfl h, by show s.size ≤ 3000; exact hs, hb1⟩
  case round =>
    clear hr hq hb1
    obtain ⟨k, r, hk, rfl, hr, hq, hE, hlen, hB⟩ := hrel
    by_cases hlt : k < acts.length
    · obtain ⟨g, o, rfl, hg, hc0, hc1, hc2, hk0, hk1⟩ := hA k hlt
      have c0 := (hB.cell (p := ⟨g, o + k * 3, none⟩) hg).trans hc0
      have c1 := (hB.cell (p := ⟨g, o + k * 3 + 1, none⟩) hg).trans hc1
      have c2 := (hB.cell (p := ⟨g, o + k * 3 + 2, none⟩) hg).trans hc2
      obtain ⟨⟨kd, lo, hi⟩, ha⟩ : ∃ x, acts[k] = x := ⟨_, rfl⟩
      rw [ha] at c0 c1 c2 hk0 hk1
      simp only at c0 c1 c2 hk0 hk1
      clear hc0 hc1 hc2 ha
      obtain ⟨m, hm⟩ : ∃ m, kd.tmod 4 = m := ⟨_, rfl⟩
      have hm2 : kd % 4 = m := by rw [← hm, Int.tmod_eq_emod_of_nonneg hk0]
      have hmr : m = 0 ∨ m = 1 ∨ m = 2 ∨ m = 3 := by omega
      have hmw : IntKind.u8.wrap m = m := by rw [IntKind.wrap_u8']; omega
      have k9 : decide ((k : Int) < (acts.length : Int)) = true := by simp; omega
      have k9n : decide (k < acts.length) = true := by simp; omega
      go_upto_region 11 with fail
      obtain ⟨X, hX⟩ : ∃ X, X = wr.alloc (.cells #[.int .u8 kd, .int .i64 lo, .int .i64 hi] 40) := ⟨_, rfl⟩
      have hBX : Below w.heap.size w X := by rw [hX]; exact hB.alloc hB.size _
      have hrX : RdAt X b (str r.rest) r.err := by rw [hX]; exact hr.alloc _
      have hqX : QdAt X q (str r.rest) r.err := by rw [hX]; exact (heap_alloc_old wr _ hq.lt).trans hq
      have e0 : X.cell? ⟨wr.heap.size, 0, none⟩ = some (.int .u8 kd) := by rw [hX]; go_simp
      have e1 : X.cell? ⟨wr.heap.size, 1, none⟩ = some (.int .i64 lo) := by rw [hX]; go_simp
      have e2 : X.cell? ⟨wr.heap.size, 2, none⟩ = some (.int .i64 hi) := by rw [hX]; go_simp
      rw [← hX]
      obtain ⟨p, hp⟩ : ∃ p, p = wr.heap.size := ⟨_, rfl⟩
      have hpb : b < p := by rw [hp]; exact hr.lt
      have hpq : q < p := by rw [hp]; exact hq.lt
      rw [← hp] at e0 e1 e2
      rw [← hp]
      have hqlt : q < X.drew.heap.size := hqX.lt
      have hplt : p < X.drew.heap.size := by show p < X.heap.size; rw [hX, hp]; simp
      have n1 : some p ≠ some b := by simp; omega
      have n2 : some q ≠ some b := by simp; omega
      have n3 : some p ≠ some q := by simp; omega
      have n4 : some b ≠ some q := by simp; omega
      have hqK : ∀ w5, X.drew.grownBy w5 (some b) → QdAt w5 q (str r.rest) r.err := fun w5 hg5 => by
        have h := hg5.block q hqlt n2
        exact h.trans hqX
      have hrK : ∀ w5 w6 t e, RdAt w5 b t e → w5.grownBy w6 (some q) → RdAt w6 b t e := fun w5 w6 t e h5 hg6 => (hg6.block b h5.lt n4).trans h5
      have e1d : X.drew.cell? ⟨p, 1, none⟩ = some (.int .i64 lo) := e1
      have e2d : X.drew.cell? ⟨p, 2, none⟩ = some (.int .i64 hi) := e2
      have hrD : RdAt X.drew b (str r.rest) r.err := hrX
      have hqD : QdAt X.drew q (str r.rest) r.err := hqX
      clear hp hX hr hq hB c0 c1 c2 hrX hqX
      rcases hmr with hm0 | hm0 | hm0 | hm0
      all_goals rw [hm0] at hm hm2 hmw
      · go_upto_region 15 with fail
        have hlen9 : r.rest.length ≤ 1000000000 := by omega
        obtain ⟨D, hD⟩ : ∃ D, Cod.number lo hi r = D := ⟨_, rfl⟩
        have hcall1 := rdNumber_at b lo hi r X.drew hrD (by omega)
        rw [hD] at hcall1
        go_region_held3 (fun w' => w'.cell? ⟨p, 1, none⟩ = some (.int .i64 lo) ∧ w'.cell? ⟨p, 2, none⟩ = some (.int .i64 hi)) (first | exact ⟨e1, e2⟩ | exact ⟨f1, f2⟩ | exact ⟨f3, f4⟩) (first | (go_at_call 20; (with_reducible refine hcall1.mono ?_); rintro e w5 ⟨rfl, hr5, hg5⟩; have f1 := (World.grownBy.cell_far hg5 ⟨p, 1, none⟩ hplt n1).trans e1d; have f2 := (World.grownBy.cell_far hg5 ⟨p, 2, none⟩ hplt n1).trans e2d; have hplt5 := Nat.lt_of_lt_of_le hplt hg5.size; have hq5 := hqK w5 hg5) | (go_at_call 21; have hc2 := qNumber_at q lo hi r w5 hq5 hlen9; rw [hD] at hc2; (with_reducible refine hc2.mono ?_); rintro e w6 ⟨rfl, hq6, hg6⟩; have f3 := (World.grownBy.cell_far hg6 ⟨p, 1, none⟩ hplt5 n3).trans f1; have f4 := (World.grownBy.cell_far hg6 ⟨p, 2, none⟩ hplt5 n3).trans f2; have hr6 := hrK w5 w6 _ _ hr5 hg6))
        clear hcall1 hrD hqD
        have hEE : D.2.err ≠ 0 → D.2.rest = [] := by
          intro h9
          rw [← hD] at h9 ⊢
          by_cases h8 : r.err = 0
          · obtain ⟨rl, re⟩ := r
            simp only at h8
            subst h8
            exact ((Cod.number_stops lo hi).2 rl h9).2
          · have h7 := (Cod.number_stops lo hi).1 r h8
            rw [h7] at h9 ⊢
            exact hE h8
        have hcl : qcloseI (str D.2.rest) D.2.err = closeI (str D.2.rest) D.2.err := by
          unfold qcloseI closeI
          by_cases h9 : D.2.err = 0
          · rw [if_pos h9, h9]
          · rw [if_neg h9, hEE h9]; rfl
        have j1 := hq6.c1
        have j0 := hq6.c0
        have t1 := fun m => (err_any b _ _ (w6.drewN m) hr6).mono (fun _ _ ⟨x, y⟩ => ⟨x, y.symm⟩ : ∀ x w', _ → x = Ending.returned (.int .i64 D.2.err) ∧ w' = w6.drewN m)
        have t2 := fun m => (left_any b _ _ (w6.drewN m) hr6).mono (fun _ _ ⟨x, y⟩ => ⟨x, y.symm⟩ : ∀ x w', _ → x = Ending.returned (.int .i64 (str D.2.rest).size) ∧ w' = w6.drewN m)
        have t3 := fun m => (close_any b _ _ (w6.drewN m) hr6).mono (fun _ _ ⟨x, y⟩ => ⟨x, y.symm⟩ : ∀ x w', _ → x = Ending.returned (.int .i64 (closeI (str D.2.rest) D.2.err)) ∧ w' = w6.drewN m)
        have t4 := fun m => (qclose_any q _ _ (w6.drewN m) hq6).mono (fun _ _ ⟨x, y⟩ => ⟨by rw [← hcl]; exact x, y.symm⟩ : ∀ x w', _ → x = Ending.returned (.int .i64 (closeI (str D.2.rest) D.2.err)) ∧ w' = w6.drewN m)
        go_upto_region 20 with fail
        go_quiet ((first | (go_at_call 30; exact Calls.quiet_of_same (t1 _)) | (go_at_call 31; exact Calls.quiet_of_same (t2 _)) | (go_at_call 32; exact Calls.quiet_of_same (t3 _)) | (go_at_call 33; exact Calls.quiet_of_same (t4 _))))
        have hB6 : ∀ m, Below w.heap.size w (w6.drewN m) := fun m => by
          have h1 : Below w.heap.size w X.drew := hBX.drew
          have h2 := h1.trans (below_grown hg5 hwb h1.size)
          have h3 := h2.trans (below_grown hg6 hwq h2.size)
          exact ⟨h3.os, h3.tape, h3.output, h3.size, h3.block⟩
        have hl6 : D.2.rest.length ≤ 3000 := by rw [← hD]; exact Nat.le_trans (Cod.number_short lo hi r) hlen
        clear hcl j0 j1 t1 t2 t3 t4 hqK hrK
        try (rintro w7 ⟨m7, rfl⟩)
        go_wp2_with fail
        go_roundw
        case rel => exact ⟨k + 1, D.2, by omega, by go_num, hr6, hq6, hEE, hl6, hB6 _⟩
        case measure => simp [intOf]; omega
      · go_upto_region 17 with fail
        have hlen9 : r.rest.length ≤ 1000000000 := by omega
        obtain ⟨D, hD⟩ : ∃ D, Cod.text hi r = D := ⟨_, rfl⟩
        have hcall1 := rdText_at b hi r X.drew hrD (by omega)
        rw [hD] at hcall1
        go_region_held3 (fun w' => w'.cell? ⟨p, 1, none⟩ = some (.int .i64 lo) ∧ w'.cell? ⟨p, 2, none⟩ = some (.int .i64 hi)) (first | exact ⟨e1, e2⟩ | exact ⟨f1, f2⟩ | exact ⟨f3, f4⟩) (first | (go_at_call 22; (with_reducible refine hcall1.mono ?_); rintro e w5 ⟨rfl, hr5, hg5⟩; have f1 := (World.grownBy.cell_far hg5 ⟨p, 1, none⟩ hplt n1).trans e1d; have f2 := (World.grownBy.cell_far hg5 ⟨p, 2, none⟩ hplt n1).trans e2d; have hplt5 := Nat.lt_of_lt_of_le hplt hg5.size; have hq5 := hqK w5 hg5) | (go_at_call 23; have hc2 := qText_at q hi r w5 hq5 hlen9; rw [hD] at hc2; (with_reducible refine hc2.mono ?_); rintro e w6 ⟨rfl, hq6, hg6⟩; have f3 := (World.grownBy.cell_far hg6 ⟨p, 1, none⟩ hplt5 n3).trans f1; have f4 := (World.grownBy.cell_far hg6 ⟨p, 2, none⟩ hplt5 n3).trans f2; have hr6 := hrK w5 w6 _ _ hr5 hg6))
        clear hcall1 hrD hqD
        have hEE : D.2.err ≠ 0 → D.2.rest = [] := by
          intro h9
          rw [← hD] at h9 ⊢
          by_cases h8 : r.err = 0
          · obtain ⟨rl, re⟩ := r
            simp only at h8
            subst h8
            exact ((Cod.text_stops hi).2 rl h9).2
          · have h7 := (Cod.text_stops hi).1 r h8
            rw [h7] at h9 ⊢
            exact hE h8
        have hcl : qcloseI (str D.2.rest) D.2.err = closeI (str D.2.rest) D.2.err := by
          unfold qcloseI closeI
          by_cases h9 : D.2.err = 0
          · rw [if_pos h9, h9]
          · rw [if_neg h9, hEE h9]; rfl
        have j1 := hq6.c1
        have j0 := hq6.c0
        have t1 := fun m => (err_any b _ _ (w6.drewN m) hr6).mono (fun _ _ ⟨x, y⟩ => ⟨x, y.symm⟩ : ∀ x w', _ → x = Ending.returned (.int .i64 D.2.err) ∧ w' = w6.drewN m)
        have t2 := fun m => (left_any b _ _ (w6.drewN m) hr6).mono (fun _ _ ⟨x, y⟩ => ⟨x, y.symm⟩ : ∀ x w', _ → x = Ending.returned (.int .i64 (str D.2.rest).size) ∧ w' = w6.drewN m)
        have t3 := fun m => (close_any b _ _ (w6.drewN m) hr6).mono (fun _ _ ⟨x, y⟩ => ⟨x, y.symm⟩ : ∀ x w', _ → x = Ending.returned (.int .i64 (closeI (str D.2.rest) D.2.err)) ∧ w' = w6.drewN m)
        have t4 := fun m => (qclose_any q _ _ (w6.drewN m) hq6).mono (fun _ _ ⟨x, y⟩ => ⟨by rw [← hcl]; exact x, y.symm⟩ : ∀ x w', _ → x = Ending.returned (.int .i64 (closeI (str D.2.rest) D.2.err)) ∧ w' = w6.drewN m)
        go_upto_region 20 with fail
        go_quiet ((first | (go_at_call 30; exact Calls.quiet_of_same (t1 _)) | (go_at_call 31; exact Calls.quiet_of_same (t2 _)) | (go_at_call 32; exact Calls.quiet_of_same (t3 _)) | (go_at_call 33; exact Calls.quiet_of_same (t4 _))))
        have hB6 : ∀ m, Below w.heap.size w (w6.drewN m) := fun m => by
          have h1 : Below w.heap.size w X.drew := hBX.drew
          have h2 := h1.trans (below_grown hg5 hwb h1.size)
          have h3 := h2.trans (below_grown hg6 hwq h2.size)
          exact ⟨h3.os, h3.tape, h3.output, h3.size, h3.block⟩
        have hl6 : D.2.rest.length ≤ 3000 := by rw [← hD]; exact Nat.le_trans (Cod.text_short hi r) hlen
        clear hcl j0 j1 t1 t2 t3 t4 hqK hrK
        try (rintro w7 ⟨m7, rfl⟩)
        go_wp2_with fail
        go_roundw
        case rel => exact ⟨k + 1, D.2, by omega, by go_num, hr6, hq6, hEE, hl6, hB6 _⟩
        case measure => simp [intOf]; omega
      · go_upto_region 19 with fail
        have hlen9 : r.rest.length ≤ 1000000000 := by omega
        obtain ⟨D, hD⟩ : ∃ D, Cod.list (Cod.number lo hi) r = D := ⟨_, rfl⟩
        have hDl : D.1.length ≤ 1000000000 := by rw [← hD]; exact Nat.le_trans (list_len _ _) (by omega)
        have hcall1 := rdNumbers_at b lo hi r X.drew hrD (by omega)
        rw [hD] at hcall1
        go_region_held3 (fun w' => w'.cell? ⟨p, 1, none⟩ = some (.int .i64 lo) ∧ w'.cell? ⟨p, 2, none⟩ = some (.int .i64 hi)) (first | exact ⟨e1, e2⟩ | exact ⟨f1, f2⟩ | exact ⟨f3, f4⟩ | exact ⟨f5, f6⟩) (first | (go_at_call 25; (with_reducible refine hcall1.mono ?_); rintro e w5 hgot; obtain ⟨v1, rfl, hown1, hr5, hg5⟩ := hgot; have f1 := (World.grownBy.cell_far hg5 ⟨p, 1, none⟩ hplt n1).trans e1d; have f2 := (World.grownBy.cell_far hg5 ⟨p, 2, none⟩ hplt n1).trans e2d; have hplt5 := Nat.lt_of_lt_of_le hplt hg5.size; have hq5 := hqK w5 hg5) | (go_at_call 26; have hc2 := qNumbers_at q lo hi r w5 hq5 hlen9; rw [hD] at hc2; (with_reducible refine hc2.mono ?_); rintro e w6 hgot; obtain ⟨v2, rfl, hown2, hq6, hg6⟩ := hgot; have f3 := (World.grownBy.cell_far hg6 ⟨p, 1, none⟩ hplt5 n3).trans f1; have f4 := (World.grownBy.cell_far hg6 ⟨p, 2, none⟩ hplt5 n3).trans f2; have hr6 := hrK w5 w6 _ _ hr5 hg6; have hown3 := owns_kept hown1 hg6 hqlt; obtain ⟨A1, x1, rfl, hA1⟩ := owns_cells hown3; obtain ⟨A2, x2, rfl, hA2⟩ := owns_cells hown2; have hplt6 := Nat.lt_of_lt_of_le hplt5 hg6.size) | (go_at_call 24; have hc3 := sameNumbers_true A1 A2 x1 x2 D.1 w6 hA1 hA2 hDl; (with_reducible refine hc3.mono ?_); rintro e w7 ⟨rfl, hb7⟩; have f5 := (hb7.cell (p := ⟨p, 1, none⟩) hplt6).trans f3; have f6 := (hb7.cell (p := ⟨p, 2, none⟩) hplt6).trans f4; have hr7 := hr6.below hb7; have hq7 := hq6.below hb7))
        clear hcall1 hrD hqD
        have hEE : D.2.err ≠ 0 → D.2.rest = [] := by
          intro h9
          rw [← hD] at h9 ⊢
          by_cases h8 : r.err = 0
          · obtain ⟨rl, re⟩ := r
            simp only at h8
            subst h8
            exact ((Cod.list_stops (Cod.number_stops lo hi)).2 rl h9).2
          · have h7 := (Cod.list_stops (Cod.number_stops lo hi)).1 r h8
            rw [h7] at h9 ⊢
            exact hE h8
        have hcl : qcloseI (str D.2.rest) D.2.err = closeI (str D.2.rest) D.2.err := by
          unfold qcloseI closeI
          by_cases h9 : D.2.err = 0
          · rw [if_pos h9, h9]
          · rw [if_neg h9, hEE h9]; rfl
        have j1 := hq7.c1
        have j0 := hq7.c0
        have t1 := fun m => (err_any b _ _ (w7.drewN m) hr7).mono (fun _ _ ⟨x, y⟩ => ⟨x, y.symm⟩ : ∀ x w', _ → x = Ending.returned (.int .i64 D.2.err) ∧ w' = w7.drewN m)
        have t2 := fun m => (left_any b _ _ (w7.drewN m) hr7).mono (fun _ _ ⟨x, y⟩ => ⟨x, y.symm⟩ : ∀ x w', _ → x = Ending.returned (.int .i64 (str D.2.rest).size) ∧ w' = w7.drewN m)
        have t3 := fun m => (close_any b _ _ (w7.drewN m) hr7).mono (fun _ _ ⟨x, y⟩ => ⟨x, y.symm⟩ : ∀ x w', _ → x = Ending.returned (.int .i64 (closeI (str D.2.rest) D.2.err)) ∧ w' = w7.drewN m)
        have t4 := fun m => (qclose_any q _ _ (w7.drewN m) hq7).mono (fun _ _ ⟨x, y⟩ => ⟨by rw [← hcl]; exact x, y.symm⟩ : ∀ x w', _ → x = Ending.returned (.int .i64 (closeI (str D.2.rest) D.2.err)) ∧ w' = w7.drewN m)
        go_upto_region 20 with fail
        go_quiet ((first | (go_at_call 30; exact Calls.quiet_of_same (t1 _)) | (go_at_call 31; exact Calls.quiet_of_same (t2 _)) | (go_at_call 32; exact Calls.quiet_of_same (t3 _)) | (go_at_call 33; exact Calls.quiet_of_same (t4 _))))
        have hB6 : ∀ m, Below w.heap.size w (w7.drewN m) := fun m => by
          have h1 : Below w.heap.size w X.drew := hBX.drew
          have h2 := h1.trans (below_grown hg5 hwb h1.size)
          have h3 := h2.trans (below_grown hg6 hwq h2.size)
          have h4 := h3.trans (hb7.mono h3.size)
          exact ⟨h4.os, h4.tape, h4.output, h4.size, h4.block⟩
        have hl6 : D.2.rest.length ≤ 3000 := by rw [← hD]; exact Nat.le_trans (list_short _ (Cod.number_short lo hi) r) hlen
        clear hcl j0 j1 t1 t2 t3 t4 hqK hrK
        try (rintro w7 ⟨m7, rfl⟩)
        go_wp2_with fail
        go_roundw
        case rel => exact ⟨k + 1, D.2, by omega, by go_num, hr7, hq7, hEE, hl6, hB6 _⟩
        case measure => simp [intOf]; omega
      · go_upto_region 13 with fail
        have hlen9 : r.rest.length ≤ 1000000000 := by omega
        obtain ⟨D, hD⟩ : ∃ D, Cod.list (nextT hi) r = D := ⟨_, rfl⟩
        have hDl : D.1.length ≤ 1000000000 := by rw [← hD]; exact Nat.le_trans (list_len _ _) (by omega)
        have hcall1 := rdTexts_at b hi r X.drew hrD (by omega)
        rw [hD] at hcall1
        go_region_held3 (fun w' => w'.cell? ⟨p, 1, none⟩ = some (.int .i64 lo) ∧ w'.cell? ⟨p, 2, none⟩ = some (.int .i64 hi)) (first | exact ⟨e1, e2⟩ | exact ⟨f1, f2⟩ | exact ⟨f3, f4⟩ | exact ⟨f5, f6⟩) (first | (go_at_call 28; (with_reducible refine hcall1.mono ?_); rintro e w5 hgot; obtain ⟨v1, rfl, hown1, hr5, hg5⟩ := hgot; have f1 := (World.grownBy.cell_far hg5 ⟨p, 1, none⟩ hplt n1).trans e1d; have f2 := (World.grownBy.cell_far hg5 ⟨p, 2, none⟩ hplt n1).trans e2d; have hplt5 := Nat.lt_of_lt_of_le hplt hg5.size; have hq5 := hqK w5 hg5) | (go_at_call 29; have hc2 := qTexts_at q hi r w5 hq5 hlen9; rw [hD] at hc2; (with_reducible refine hc2.mono ?_); rintro e w6 hgot; obtain ⟨v2, rfl, hown2, hq6, hg6⟩ := hgot; have f3 := (World.grownBy.cell_far hg6 ⟨p, 1, none⟩ hplt5 n3).trans f1; have f4 := (World.grownBy.cell_far hg6 ⟨p, 2, none⟩ hplt5 n3).trans f2; have hr6 := hrK w5 w6 _ _ hr5 hg6; have hown3 := owns_kept hown1 hg6 hqlt; obtain ⟨A1, x1, rfl, hA1⟩ := owns_cells hown3; obtain ⟨A2, x2, rfl, hA2⟩ := owns_cells hown2; have hplt6 := Nat.lt_of_lt_of_le hplt5 hg6.size) | (go_at_call 27; have hc3 := sameTexts_true A1 A2 x1 x2 D.1 w6 hA1 hA2 hDl; (with_reducible refine hc3.mono ?_); rintro e w7 ⟨rfl, hb7⟩; have f5 := (hb7.cell (p := ⟨p, 1, none⟩) hplt6).trans f3; have f6 := (hb7.cell (p := ⟨p, 2, none⟩) hplt6).trans f4; have hr7 := hr6.below hb7; have hq7 := hq6.below hb7))
        clear hcall1 hrD hqD
        have hEE : D.2.err ≠ 0 → D.2.rest = [] := by
          intro h9
          rw [← hD] at h9 ⊢
          by_cases h8 : r.err = 0
          · obtain ⟨rl, re⟩ := r
            simp only at h8
            subst h8
            exact ((Cod.list_stops (Cod.nextT_stops hi)).2 rl h9).2
          · have h7 := (Cod.list_stops (Cod.nextT_stops hi)).1 r h8
            rw [h7] at h9 ⊢
            exact hE h8
        have hcl : qcloseI (str D.2.rest) D.2.err = closeI (str D.2.rest) D.2.err := by
          unfold qcloseI closeI
          by_cases h9 : D.2.err = 0
          · rw [if_pos h9, h9]
          · rw [if_neg h9, hEE h9]; rfl
        have j1 := hq7.c1
        have j0 := hq7.c0
        have t1 := fun m => (err_any b _ _ (w7.drewN m) hr7).mono (fun _ _ ⟨x, y⟩ => ⟨x, y.symm⟩ : ∀ x w', _ → x = Ending.returned (.int .i64 D.2.err) ∧ w' = w7.drewN m)
        have t2 := fun m => (left_any b _ _ (w7.drewN m) hr7).mono (fun _ _ ⟨x, y⟩ => ⟨x, y.symm⟩ : ∀ x w', _ → x = Ending.returned (.int .i64 (str D.2.rest).size) ∧ w' = w7.drewN m)
        have t3 := fun m => (close_any b _ _ (w7.drewN m) hr7).mono (fun _ _ ⟨x, y⟩ => ⟨x, y.symm⟩ : ∀ x w', _ → x = Ending.returned (.int .i64 (closeI (str D.2.rest) D.2.err)) ∧ w' = w7.drewN m)
        have t4 := fun m => (qclose_any q _ _ (w7.drewN m) hq7).mono (fun _ _ ⟨x, y⟩ => ⟨by rw [← hcl]; exact x, y.symm⟩ : ∀ x w', _ → x = Ending.returned (.int .i64 (closeI (str D.2.rest) D.2.err)) ∧ w' = w7.drewN m)
        go_upto_region 20 with fail
        go_quiet ((first | (go_at_call 30; exact Calls.quiet_of_same (t1 _)) | (go_at_call 31; exact Calls.quiet_of_same (t2 _)) | (go_at_call 32; exact Calls.quiet_of_same (t3 _)) | (go_at_call 33; exact Calls.quiet_of_same (t4 _))))
        have hB6 : ∀ m, Below w.heap.size w (w7.drewN m) := fun m => by
          have h1 : Below w.heap.size w X.drew := hBX.drew
          have h2 := h1.trans (below_grown hg5 hwb h1.size)
          have h3 := h2.trans (below_grown hg6 hwq h2.size)
          have h4 := h3.trans (hb7.mono h3.size)
          exact ⟨h4.os, h4.tape, h4.output, h4.size, h4.block⟩
        have hl6 : D.2.rest.length ≤ 3000 := by rw [← hD]; exact Nat.le_trans (list_short _ (nextT_short hi) r) hlen
        clear hcl j0 j1 t1 t2 t3 t4 hqK hrK
        try (rintro w7 ⟨m7, rfl⟩)
        go_wp2_with fail
        go_roundw
        case rel => exact ⟨k + 1, D.2, by omega, by go_num, hr7, hq7, hEE, hl6, hB6 _⟩
        case measure => simp [intOf]; omega
    · have k9 : decide ((k : Int) < (acts.length : Int)) = false := by simp; omega
      have k9n : decide (k < acts.length) = false := by simp; omega
      have j1 := hq.c1
      have j0 := hq.c0
      have t1 := fun m => (err_any b _ _ (wr.drewN m) hr).mono (fun _ _ ⟨x, y⟩ => ⟨x, y.symm⟩ : ∀ x w', _ → x = Ending.returned (.int .i64 r.err) ∧ w' = wr.drewN m)
      have t2 := fun m => (left_any b _ _ (wr.drewN m) hr).mono (fun _ _ ⟨x, y⟩ => ⟨x, y.symm⟩ : ∀ x w', _ → x = Ending.returned (.int .i64 (str r.rest).size) ∧ w' = wr.drewN m)
      go_upto_region 23 with fail
      go_quiet ((first | (go_at_call 30; exact Calls.quiet_of_same (t1 _)) | (go_at_call 31; exact Calls.quiet_of_same (t2 _))))
      clear j0 j1 t1 t2
      have hbE := below_drewN hB nq
      generalize wr.drewN nq = w7 at *
      go_wp2_with fail
      go_ret
      exact ⟨rfl, hbE⟩
set_option maxHeartbeats 4000000 in
set_option maxRecDepth 100000 in
theorem reads_skip (s : ByteArray) (A : Option Addr) (c : Nat) (acts : List (Int × Int × Int)) (w : World) (hT : Tabs w) (h : 3000 < s.size ∨ 20 < acts.length) :
    Calls Tryd.prog 5 #[.string s, .slice A acts.length c] w fun e w' => e = .returned (.bool true) ∧ Below w.heap.size w w' := by
  have hd : decide ((3000 : Int) < s.size) = true ∨ (decide ((3000 : Int) < s.size) = false ∧ decide ((20 : Int) < acts.length) = true) := by
    by_cases h1 : 3000 < s.size
    · left; simp; omega
    · right; exact ⟨by simp; omega, by simp; omega⟩
  clear h
  rcases hd with d1 | ⟨d1, d2⟩
  all_goals
    go_enter Tryd.func5, Tryd.ntmps5
    go_wp2_with fail
    refine (awake_any w hT).mono ?_
    rintro e w1 ⟨rfl, hb1⟩
    go_wp2_with fail
    go_ret
    exact ⟨rfl, hb1⟩
theorem reads_law (s : ByteArray) (A : Option Addr) (c : Nat) (acts : List (Int × Int × Int)) (w : World) (hT : Tabs w) (hA : ActsAt w w.heap.size A acts) :
    Calls Tryd.prog 5 #[.string s, .slice A acts.length c] w fun e w' => e = .returned (.bool true) ∧ Below w.heap.size w w' := by
  by_cases h : 3000 < s.size ∨ 20 < acts.length
  · exact reads_skip s A c acts w hT h
  · exact reads_main s A c acts w hT hA (by omega) (by omega)
end Go.Proofs.YtmbgblfoadojnaaDoor
