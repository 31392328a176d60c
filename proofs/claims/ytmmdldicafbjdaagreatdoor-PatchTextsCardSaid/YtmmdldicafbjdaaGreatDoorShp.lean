/- The form of hunks. No condition but the lengths. -/
import Derived.Test.YtmmdldicafbjdaaGreatDoorMem
import Derived.Test.YtmmdldicafbjdaaGreatDoorTrJoi
namespace Go.Proofs.YtmmdldicafbjdaaGreatDoor
open Go.RowKit Go.Deep Tr

theorem isNum_def (n : Int) : Pc.isNum n = (decide (1 ≤ n) && decide (n ≤ 1024)) := rfl
set_option maxHeartbeats 2000000 in
theorem isNumber_any (n : Int) (w : World) : Calls Tryz.prog 44 #[.int .i64 n] w fun e w' => e = .returned (.bool (Pc.isNum n)) ∧ w = w' := by
  have HV := Lib.hid (isNum_def n)
  generalize Pc.isNum n = v at *
  by_cases h1 : 1 ≤ n
  · have b1 : decide (1 ≤ n) = true := decide_eq_true h1
    by_cases h2 : n ≤ 1024
    · have b2 : decide (n ≤ 1024) = true := decide_eq_true h2
      have HT := Lib.hid (show v = true by rw [HV.out, b1, b2]; rfl)
      clear HV
      go_enter Tryz.func44, Tryz.ntmps44
      go_wp2_with fail
      go_ret
      exact ⟨by rw [HT.out]; rfl, rfl⟩
    · have b2 : decide (n ≤ 1024) = false := decide_eq_false h2
      have HT := Lib.hid (show v = false by rw [HV.out, b1, b2]; rfl)
      clear HV
      go_enter Tryz.func44, Tryz.ntmps44
      go_wp2_with fail
      go_ret
      exact ⟨by rw [HT.out]; rfl, rfl⟩
  · have b1 : decide (1 ≤ n) = false := decide_eq_false h1
    have HT := Lib.hid (show v = false by rw [HV.out, b1]; rfl)
    clear HV
    go_enter Tryz.func44, Tryz.ntmps44
    go_wp2_with fail
    go_ret
    exact ⟨by rw [HT.out]; rfl, rfl⟩
def hkV (h : Pc.Hk) (A : Option Addr) (c : Nat) : Value := .agg #[.int .i64 h.kind, .int .i64 h.n, .slice A h.ls.length c]
theorem hkV_def (h : Pc.Hk) (A : Option Addr) (c : Nat) : hkV h A c = .agg #[.int .i64 h.kind, .int .i64 h.n, .slice A h.ls.length c] := rfl
theorem isHunk_def (h : Pc.Hk) : Pc.isHunk h = if h.kind = 1 ∨ h.kind = 2 then Pc.isNum h.n && decide (h.ls.length = 0) else if h.kind = 3 then Pc.isNum h.n && decide ((h.ls.length : Int) = h.n) else false := rfl
set_option maxHeartbeats 4000000 in
set_option maxRecDepth 100000 in
theorem isHunk_any (h : Pc.Hk) (A : Option Addr) (c : Nat) (w : World) : Calls Tryz.prog 43 #[hkV h A c] w fun e w' => e = .returned (.bool (Pc.isHunk h)) ∧ Below w.heap.size w w' := by
  have HV := Lib.hid (isHunk_def h)
  generalize Pc.isHunk h = v at *
  unfold hkV
  obtain ⟨k, n, ls⟩ := h
  change Hid (v = if k = 1 ∨ k = 2 then Pc.isNum n && decide (ls.length = 0) else if k = 3 then Pc.isNum n && decide ((ls.length : Int) = n) else false) at HV
  have hb0 : Below w.heap.size w (w.alloc (.cells #[.int .i64 k, .int .i64 n, .slice A ls.length c] 47)) := (Below.refl _ _).alloc (Nat.le_refl _) _
  have hcall := fun w => isNumber_any n w
  dsimp only
  by_cases h12 : k = 1 ∨ k = 2
  · have HV1 := Lib.hid (HV.out.trans (if_pos h12))
    clear HV
    have hb : (k == 1) = true ∨ ((k == 1) = false ∧ (k == 2) = true) := by
      rcases h12 with e | e
      · exact .inl (by rw [e]; rfl)
      · exact .inr ⟨by rw [e]; rfl, by rw [e]; rfl⟩
    clear h12
    cases hnum : Pc.isNum n with
    | false =>
      rw [hnum] at hcall
      have HT := Lib.hid (show v = false by rw [HV1.out, hnum]; rfl)
      clear HV1 hnum
      rcases hb with b1 | ⟨b1, b2⟩
      all_goals
        go_enter Tryz.func43, Tryz.ntmps43
        go_wp2_with (go_at_call 44; (with_reducible refine (hcall _).mono ?_); rintro e w' ⟨rfl, rfl⟩)
        go_ret
        exact ⟨by rw [HT.out]; rfl, hb0⟩
    | true =>
      rw [hnum] at hcall
      have HT := Lib.hid (show v = decide (ls.length = 0) by rw [HV1.out, hnum]; rfl)
      clear HV1 hnum
      by_cases hz : ls.length = 0
      · have b3 : ((ls.length : Int) == 0) = true := by rw [beq_iff_eq]; omega
        have b3n : (ls.length == 0) = true := by rw [beq_iff_eq]; omega
        have HU := Lib.hid (show v = true by rw [HT.out]; exact decide_eq_true hz)
        clear HT
        have HZ := Lib.hid hz
        clear hz
        rcases hb with b1 | ⟨b1, b2⟩
        all_goals
          go_enter Tryz.func43, Tryz.ntmps43
          go_wp2_with (go_at_call 44; (with_reducible refine (hcall _).mono ?_); rintro e w' ⟨rfl, rfl⟩)
          go_ret
          exact ⟨by rw [HU.out]; rfl, hb0⟩
      · have b3 : ((ls.length : Int) == 0) = false := by rw [beq_eq_false_iff_ne]; omega
        have b3n : (ls.length == 0) = false := by rw [beq_eq_false_iff_ne]; omega
        have HU := Lib.hid (show v = false by rw [HT.out]; exact decide_eq_false hz)
        clear HT
        rcases hb with b1 | ⟨b1, b2⟩
        all_goals
          go_enter Tryz.func43, Tryz.ntmps43
          go_wp2_with (go_at_call 44; (with_reducible refine (hcall _).mono ?_); rintro e w' ⟨rfl, rfl⟩)
          go_ret
          exact ⟨by rw [HU.out]; rfl, hb0⟩
  · have HV1 := Lib.hid (HV.out.trans (if_neg h12))
    have b1 : (k == 1) = false := by rw [beq_eq_false_iff_ne]; omega
    have b2 : (k == 2) = false := by rw [beq_eq_false_iff_ne]; omega
    clear HV h12
    by_cases h3 : k = 3
    · have HV2 := Lib.hid (HV1.out.trans (if_pos h3))
      have b3 : (k == 3) = true := by rw [beq_iff_eq]; exact h3
      clear HV1 h3
      cases hnum : Pc.isNum n with
      | false =>
        rw [hnum] at hcall
        have HT := Lib.hid (show v = false by rw [HV2.out, hnum]; rfl)
        clear HV2 hnum
        go_enter Tryz.func43, Tryz.ntmps43
        go_wp2_with (go_at_call 44; (with_reducible refine (hcall _).mono ?_); rintro e w' ⟨rfl, rfl⟩)
        go_ret
        exact ⟨by rw [HT.out]; rfl, hb0⟩
      | true =>
        rw [hnum] at hcall
        have HT := Lib.hid (show v = decide ((ls.length : Int) = n) by rw [HV2.out, hnum]; rfl)
        clear HV2 hnum
        by_cases hz : (ls.length : Int) = n
        · have b4 : ((ls.length : Int) == n) = true := by rw [beq_iff_eq]; exact hz
          have HU := Lib.hid (show v = true by rw [HT.out]; exact decide_eq_true hz)
          clear HT hz
          go_enter Tryz.func43, Tryz.ntmps43
          go_wp2_with (go_at_call 44; (with_reducible refine (hcall _).mono ?_); rintro e w' ⟨rfl, rfl⟩)
          go_ret
          exact ⟨by rw [HU.out]; rfl, hb0⟩
        · have b4 : ((ls.length : Int) == n) = false := by rw [beq_eq_false_iff_ne]; exact hz
          have HU := Lib.hid (show v = false by rw [HT.out]; exact decide_eq_false hz)
          clear HT hz
          go_enter Tryz.func43, Tryz.ntmps43
          go_wp2_with (go_at_call 44; (with_reducible refine (hcall _).mono ?_); rintro e w' ⟨rfl, rfl⟩)
          go_ret
          exact ⟨by rw [HU.out]; rfl, hb0⟩
    · have HT := Lib.hid (HV1.out.trans (if_neg h3))
      have b3 : (k == 3) = false := by rw [beq_eq_false_iff_ne]; exact h3
      clear HV1 h3
      go_enter Tryz.func43, Tryz.ntmps43
      go_wp2_with fail
      go_ret
      exact ⟨by rw [HT.out]; rfl, hb0⟩
theorem kind_four (k : Int) : k = 1 ∨ k = 2 ∨ k = 3 ∨ (k ≠ 1 ∧ k ≠ 2 ∧ k ≠ 3) := by omega
set_option maxHeartbeats 4000000 in
set_option maxRecDepth 100000 in
theorem count_any (A : Option Addr) (c : Nat) (hs : List Pc.Hk) (w : World) (hA : HsAt w w.heap.size A hs) (hl : hs.length ≤ 1000000000) (hn : ∀ h ∈ hs, 0 ≤ h.n ∧ h.n ≤ 1024) :
    Calls Tryz.prog 27 #[.slice A hs.length c] w fun e w' => e = .returned (.tuple #[.int .i64 (Pc.cnt 1 hs), .int .i64 (Pc.cnt 2 hs), .int .i64 (Pc.cnt 3 hs)]) ∧ Below w.heap.size w w' := by
  have HB := Lib.hid (fun k j => Pc.cnt_le k (hs.take j) fun h hm => hn h (List.mem_of_mem_take hm))
  go_enter Tryz.func27, Tryz.ntmps27
  go_wp2_with fail
  go_loopw [2, 3, 4, 9] (fun s2 s3 s4 i wr => ∃ k : Nat, k ≤ hs.length ∧ i = .int .i64 k ∧ s2 = .int .i64 (Pc.cnt 1 (hs.take k)) ∧ s3 = .int .i64 (Pc.cnt 2 (hs.take k)) ∧ s4 = .int .i64 (Pc.cnt 3 (hs.take k)) ∧ Below w.heap.size w wr) (fun _ _ _ i _ => hs.length - (intOf i).toNat)
  case atStart => exact ⟨0, by omega, rfl, rfl, rfl, rfl, Below.refl _ _⟩
  case round =>
    obtain ⟨k, hk, rfl, rfl, rfl, rfl, hb⟩ := hrel
    by_cases hlt : k < hs.length
    · have b1 : decide ((k : Int) < hs.length) = true := by simp; omega
      have b1n : decide (k < hs.length) = true := by simp; omega
      obtain ⟨g, o, Ak, ck, rfl, hg, h0, h1, h2, _⟩ := hA k hlt
      have hd0 := (hb.cell (p := ⟨g, o + k * 3, none⟩) hg).trans h0
      have hd1 := (hb.cell (p := ⟨g, o + k * 3 + 1, none⟩) hg).trans h1
      have hd2 := (hb.cell (p := ⟨g, o + k * 3 + 2, none⟩) hg).trans h2
      have H1 := Lib.hid (Pc.cnt_snoc 1 hs k hlt)
      have H2 := Lib.hid (Pc.cnt_snoc 2 hs k hlt)
      have H3 := Lib.hid (Pc.cnt_snoc 3 hs k hlt)
      have hnk := hn hs[k] (List.getElem_mem hlt)
      obtain ⟨c1a, c1b⟩ := HB.out 1 k
      obtain ⟨c2a, c2b⟩ := HB.out 2 k
      obtain ⟨c3a, c3b⟩ := HB.out 3 k
      have hlk : (hs.take k).length ≤ k := List.length_take_le _ _
      clear h0 h1 h2
      generalize hs[k] = h at *
      obtain ⟨kd, n, ls⟩ := h
      dsimp only at *
      generalize Pc.cnt 1 (hs.take k) = x1 at *
      generalize Pc.cnt 2 (hs.take k) = x2 at *
      generalize Pc.cnt 3 (hs.take k) = x3 at *
      have hbw : Below w.heap.size w (wr.alloc (.cells #[.int .i64 kd, .int .i64 n, .slice Ak ls.length ck] 47)) := hb.alloc hb.size _
      have q1 : x1 ≤ 1024000000000 := by omega
      have q2 : x2 ≤ 1024000000000 := by omega
      have q3 : x3 ≤ 1024000000000 := by omega
      obtain ⟨n0, n1⟩ := hnk
      clear c1b c2b c3b hlk
      rcases kind_four kd with e | e | e | ⟨e1, e2, e3⟩
      · subst e
        go_wp2_with fail
        go_roundw
        case rel => exact ⟨k + 1, by omega, by go_num, by rw [H1.out]; rfl, by rw [H2.out]; simp, by rw [H3.out]; simp, hbw⟩
        case measure => simp [intOf]; omega
      · subst e
        go_wp2_with fail
        go_roundw
        case rel => exact ⟨k + 1, by omega, by go_num, by rw [H1.out]; simp, by rw [H2.out]; rfl, by rw [H3.out]; simp, hbw⟩
        case measure => simp [intOf]; omega
      · subst e
        go_wp2_with fail
        go_roundw
        case rel => exact ⟨k + 1, by omega, by go_num, by rw [H1.out]; simp, by rw [H2.out]; simp, by rw [H3.out]; rfl, hbw⟩
        case measure => simp [intOf]; omega
      · have f1 : (kd == 1) = false := by rw [beq_eq_false_iff_ne]; exact e1
        have f2 : (kd == 2) = false := by rw [beq_eq_false_iff_ne]; exact e2
        have f3 : (kd == 3) = false := by rw [beq_eq_false_iff_ne]; exact e3
        have HE := Lib.hid (show kd ≠ 1 ∧ kd ≠ 2 ∧ kd ≠ 3 from ⟨e1, e2, e3⟩)
        clear e1 e2 e3
        go_wp2_with fail
        go_roundw
        case rel => exact ⟨k + 1, by omega, by go_num, by rw [H1.out]; simp [HE.out.1], by rw [H2.out]; simp [HE.out.2.1], by rw [H3.out]; simp [HE.out.2.2], hbw⟩
        case measure => simp [intOf]; omega
    · have b1 : decide ((k : Int) < hs.length) = false := by simp; omega
      have b1n : decide (k < hs.length) = false := by simp; omega
      rw [List.take_of_length_le (show hs.length ≤ k by omega)]
      go_wp2_with fail
      go_ret3
      exact ⟨rfl, hb⟩
theorem shape_def (hs : List Pc.Hk) : Pc.shape hs = (Pc.inOrder 0 hs && Pc.isNum (Pc.cnt 1 hs + Pc.cnt 2 hs) && Pc.isNum (Pc.cnt 1 hs + Pc.cnt 3 hs)) := rfl
theorem beside_def (b : Int) (h : Pc.Hk) : Pc.beside b h = (Pc.isHunk h && !(h.kind == b) && !(h.kind == 2 && b == 3)) := rfl
set_option maxHeartbeats 4000000 in
set_option maxRecDepth 100000 in
theorem hasShape_any (A : Option Addr) (c : Nat) (hs : List Pc.Hk) (w : World) (hA : HsAt w w.heap.size A hs) (hl : hs.length ≤ 1000000000) :
    Calls Tryz.prog 18 #[.slice A hs.length c] w fun e w' => e = .returned (.bool (Pc.shape hs)) ∧ Below w.heap.size w w' := by
  have HV := Lib.hid (shape_def hs)
  generalize Pc.shape hs = v at *
  have HO := Lib.hid (show Pc.inOrder 0 hs = Pc.inOrder 0 (hs.drop 0) from rfl)
  generalize hio : Pc.inOrder 0 hs = io at *
  have HIO := Lib.hid hio
  clear hio
  go_enter Tryz.func18, Tryz.ntmps18
  go_wp2_with fail
  go_loopw [3, 11] (fun s3 i wr => ∃ (k : Nat) (b : Int), k ≤ hs.length ∧ i = .int .i64 k ∧ s3 = .int .i64 b ∧ io = Pc.inOrder b (hs.drop k) ∧ Below w.heap.size w wr) (fun _ i _ => hs.length - (intOf i).toNat)
  case atStart => exact ⟨0, 0, by omega, rfl, rfl, HO.out, Below.refl _ _⟩
  case round =>
    clear HO
    obtain ⟨k, bf, hk, rfl, rfl, hio, hb⟩ := hrel
    have HR := Lib.hid hio
    clear hio
    by_cases hlt : k < hs.length
    · have b1 : decide ((k : Int) < hs.length) = true := by simp; omega
      have b1n : decide (k < hs.length) = true := by simp; omega
      obtain ⟨g, o, Ak, ck, rfl, hg, h0, h1, h2, _⟩ := hA k hlt
      have hd0 := (hb.cell (p := ⟨g, o + k * 3, none⟩) hg).trans h0
      have hd1 := (hb.cell (p := ⟨g, o + k * 3 + 1, none⟩) hg).trans h1
      have hd2 := (hb.cell (p := ⟨g, o + k * 3 + 2, none⟩) hg).trans h2
      have HS := Lib.hid (HR.out.trans (Pc.inOrder_at hs k bf hlt))
      clear h0 h1 h2 HR
      generalize hs[k] = h at *
      have hnew := heap_alloc_new wr (.cells #[.int .i64 h.kind, .int .i64 h.n, .slice Ak h.ls.length ck] 47)
      have hbw : Below w.heap.size w (wr.alloc (.cells #[.int .i64 h.kind, .int .i64 h.n, .slice Ak h.ls.length ck] 47)) := hb.alloc hb.size _
      have hlw : wr.heap.size < (wr.alloc (.cells #[.int .i64 h.kind, .int .i64 h.n, .slice Ak h.ls.length ck] 47)).heap.size := by simp
      have hcall := isHunk_any h Ak ck (wr.alloc (.cells #[.int .i64 h.kind, .int .i64 h.n, .slice Ak h.ls.length ck] 47))
      rw [hkV_def] at hcall
      go_upto_region 5 with (fail)
      have e0 : (wr.alloc (.cells #[.int .i64 h.kind, .int .i64 h.n, .slice Ak h.ls.length ck] 47)).cell? ⟨wr.heap.size, 0, none⟩ = some (.int .i64 h.kind) := by rw [cell_of_row _ _ _ _ _ _ hnew]; rfl
      have e1 : (wr.alloc (.cells #[.int .i64 h.kind, .int .i64 h.n, .slice Ak h.ls.length ck] 47)).cell? ⟨wr.heap.size, 1, none⟩ = some (.int .i64 h.n) := by rw [cell_of_row _ _ _ _ _ _ hnew]; rfl
      have e2 : (wr.alloc (.cells #[.int .i64 h.kind, .int .i64 h.n, .slice Ak h.ls.length ck] 47)).cell? ⟨wr.heap.size, 2, none⟩ = some (.slice Ak h.ls.length ck) := by rw [cell_of_row _ _ _ _ _ _ hnew]; rfl
      generalize wr.alloc (.cells #[.int .i64 h.kind, .int .i64 h.n, .slice Ak h.ls.length ck] 47) = W at *
      clear hd0 hd1 hd2 hb
      have HBD := Lib.hid (beside_def bf h)
      generalize Pc.isHunk h = hh at *
      generalize Pc.beside bf h = bs at *
      go_wp2_with fail
      with_reducible refine hcall.mono ?_
      clear hcall
      rintro x w3 ⟨rfl, hb3⟩
      have hbn := hbw.trans (hb3.mono hbw.size)
      have g0 := (hb3.cell (p := ⟨wr.heap.size, 0, none⟩) hlw).trans e0
      clear hb3 hbw e0 e1 e2 hnew
      have hcases : (bs = false ∧ (hh = false ∨ (hh = true ∧ (h.kind == bf) = true) ∨ (hh = true ∧ (h.kind == bf) = false ∧ (h.kind == 2) = true ∧ (bf == 3) = true))) ∨ (bs = true ∧ hh = true ∧ (h.kind == bf) = false ∧ ((h.kind == 2) = false ∨ ((h.kind == 2) = true ∧ (bf == 3) = false))) := by
        rw [HBD.out]
        cases hh <;> cases (h.kind == bf) <;> cases (h.kind == 2) <;> cases (bf == 3) <;> simp
      generalize hkd : h.kind = kd at *
      clear HBD
      rcases hcases with ⟨hbs, hc⟩ | ⟨hbs, rfl, c2, hc⟩
      · have HT := Lib.hid (show v = false by rw [HV.out, HS.out, hbs]; rfl)
        clear HV HS hbs
        rcases hc with rfl | ⟨rfl, c2⟩ | ⟨rfl, c2, c3, c4⟩
        all_goals
          go_wp2_with fail
          go_ret
          exact ⟨by rw [HT.out]; rfl, hbn⟩
      · have HT := Lib.hid (show io = Pc.inOrder kd (hs.drop (k + 1)) by rw [HS.out, hbs]; rfl)
        clear HS hbs
        rcases hc with c3 | ⟨c3, c4⟩
        all_goals
          go_wp2_with fail
          go_roundw
          case rel => exact ⟨k + 1, kd, by omega, by go_num, rfl, HT.out, hbn⟩
          case measure => simp [intOf]; omega
    · have b1 : decide ((k : Int) < hs.length) = false := by simp; omega
      have b1n : decide (k < hs.length) = false := by simp; omega
      have HT := Lib.hid (show io = true by rw [HR.out, List.drop_of_length_le (by omega)]; rfl)
      have hall := Pc.inOrder_all 0 hs (by rw [HIO.out, HT.out])
      have hcall := count_any A c hs wr (hA.next hb) hl (fun h hm => by have := (Pc.isHunk_num (hall h hm)).1; omega)
      have hnn : ∀ h ∈ hs, 0 ≤ h.n ∧ h.n ≤ 1024 := fun h hm => by have := (Pc.isHunk_num (hall h hm)).1; omega
      obtain ⟨c1a, c1b⟩ := Pc.cnt_le 1 hs hnn
      obtain ⟨c2a, c2b⟩ := Pc.cnt_le 2 hs hnn
      obtain ⟨c3a, c3b⟩ := Pc.cnt_le 3 hs hnn
      have HW := Lib.hid (show v = (Pc.isNum (Pc.cnt 1 hs + Pc.cnt 2 hs) && Pc.isNum (Pc.cnt 1 hs + Pc.cnt 3 hs)) by rw [HV.out, HT.out, Bool.true_and])
      clear HR HT HIO HV hall hnn
      generalize Pc.cnt 1 hs = x1 at *
      generalize Pc.cnt 2 hs = x2 at *
      generalize Pc.cnt 3 hs = x3 at *
      have q1 : x1 ≤ 1024000000000 := by omega
      have q2 : x2 ≤ 1024000000000 := by omega
      have q3 : x3 ≤ 1024000000000 := by omega
      clear c1b c2b c3b
      have hn1 := fun w => isNumber_any (x1 + x2) w
      have hn2 := fun w => isNumber_any (x1 + x3) w
      go_wp2_with fail
      with_reducible refine hcall.mono ?_
      clear hcall
      rintro x w3 ⟨rfl, hb3⟩
      have hbn := hb.trans (hb3.mono hb.size)
      clear hb hb3
      cases h12 : Pc.isNum (x1 + x2) with
      | false =>
        rw [h12] at hn1
        have HX := Lib.hid (show v = false by rw [HW.out, h12]; rfl)
        clear HW h12
        go_wp2_with (go_at_call 44; (with_reducible refine (hn1 _).mono ?_); rintro e w' ⟨rfl, rfl⟩)
        go_ret
        exact ⟨by rw [HX.out]; rfl, hbn⟩
      | true =>
        rw [h12] at hn1
        have HX := Lib.hid (show v = Pc.isNum (x1 + x3) by rw [HW.out, h12, Bool.true_and])
        clear HW h12
        generalize Pc.isNum (x1 + x3) = v3 at *
        go_wp2_with (first | (go_at_call 44; (with_reducible refine (hn1 _).mono ?_); rintro e w' ⟨rfl, rfl⟩) | (go_at_call 44; (with_reducible refine (hn2 _).mono ?_); rintro e w' ⟨rfl, rfl⟩))
        go_ret
        exact ⟨by rw [HX.out]; rfl, hbn⟩
end Go.Proofs.YtmmdldicafbjdaaGreatDoor
