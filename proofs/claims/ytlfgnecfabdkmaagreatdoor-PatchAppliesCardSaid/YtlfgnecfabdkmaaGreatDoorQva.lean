/- Valid of the reference. No condition but the lengths. -/
import Derived.Test.YtlfgnecfabdkmaaGreatDoorQct
import Derived.Test.YtlfgnecfabdkmaaGreatDoorLed
import Derived.Test.YtlfgnecfabdkmaaGreatDoorQli
import Derived.Test.YtlfgnecfabdkmaaGreatDoorTrQjo
namespace Go.Proofs.YtlfgnecfabdkmaaGreatDoor
open Go.RowKit Go.Deep Tr

namespace Pc
theorem join_len {l : List (List UInt8)} (h : (Tre.join l).2 = 0) : l.length ≤ 1024 := by
  unfold Tre.join at h
  split at h
  · cases h
  · split at h
    · cases h
    · omega
theorem valid_len {p : Pa} (h : valid p = true) : p.hs.length ≤ 1024 ∧ (bodyL p.hs).length ≤ 1024 := by
  have h1 := h
  unfold valid at h1
  simp only [Bool.and_eq_true, decide_eq_true_eq] at h1
  have h2 := join_len h1.2
  have h3 := body_len p.hs
  unfold printL at h2
  rw [List.length_append] at h2
  omega
/-- The kind of the hunk in front of one. -/
def prevK (hs : List Hk) (k : Nat) : Int := if k = 0 then 0 else (hs.getD (k - 1) default).kind
theorem prevK_zero (hs : List Hk) : prevK hs 0 = 0 := rfl
theorem prevK_succ (hs : List Hk) (k : Nat) (h : k < hs.length) : prevK hs (k + 1) = hs[k].kind := by
  unfold prevK
  rw [if_neg (by omega), Nat.add_sub_cancel, List.getD_eq_getElem?_getD, List.getElem?_eq_getElem h]; rfl
theorem isHunk_bad (h : Hk) (hf : isHunk h = false) : h.kind < 1 ∨ 3 < h.kind ∨ h.n < 1 ∨ 1024 < h.n ∨ (h.kind = 3 ∧ (h.ls.length : Int) ≠ h.n) ∨ (h.kind ≠ 3 ∧ (h.ls.length : Int) ≠ 0) := by
  unfold isHunk at hf
  by_cases a : h.kind = 1 ∨ h.kind = 2
  · rw [if_pos a, Bool.and_eq_false_iff, decide_eq_false_iff_not] at hf
    rcases hf with hf | hf
    · have := (Bool.eq_false_iff.1 hf)
      rw [ne_eq, isNum_iff] at this
      omega
    · omega
  · rw [if_neg a] at hf
    by_cases b : h.kind = 3
    · rw [if_pos b, Bool.and_eq_false_iff, decide_eq_false_iff_not] at hf
      rcases hf with hf | hf
      · have := (Bool.eq_false_iff.1 hf)
        rw [ne_eq, isNum_iff] at this
        omega
      · omega
    · omega
end Pc
/-- What Valid looks at. -/
theorem valid_split (p : Pc.Pa) : Pc.valid p = (Pc.inOrder 0 p.hs && (Pc.isNum (Pc.cnt 1 p.hs + Pc.cnt 2 p.hs) && (Pc.isNum (Pc.cnt 1 p.hs + Pc.cnt 3 p.hs) && (Pc.baseOk p.base && decide ((Tre.join (Pc.printL p)).2 = 0))))) := by
  rw [valid_def, shape_def]; simp only [Bool.and_assoc]
set_option maxHeartbeats 16000000 in
set_option maxRecDepth 100000 in
theorem qValid_any (p : Pc.Pa) (A : Option Addr) (c : Nat) (w : World) (hP : PaOk w p A) :
    Calls Tryz.prog 37 #[paV p A c] w fun e w' => e = .returned (.bool (Pc.valid p)) ∧ Below w.heap.size w w' := by
  have HV := Lib.hid (valid_split p)
  have HL := Lib.hid (fun h : Pc.valid p = true => Pc.valid_len h)
  generalize Pc.valid p = V at *
  have hb0 : Below w.heap.size w (w.alloc (.cells #[.string (str p.base), .slice A p.hs.length c] 24)) := (Below.refl _ _).alloc (Nat.le_refl _) _
  have bx0 : Bp (w.alloc (.cells #[.string (str p.base), .slice A p.hs.length c] 24)) w.heap.size p A c := heap_alloc_new w _
  have HW := Lib.hid (show ∀ w', Below (w.alloc (.cells #[.string (str p.base), .slice A p.hs.length c] 24)).heap.size (w.alloc (.cells #[.string (str p.base), .slice A p.hs.length c] 24)) w' → Below w.heap.size w w' ∧ PaOk w' p A ∧ Bp w' w.heap.size p A c from fun w' h => ⟨hb0.trans (h.mono hb0.size), hP.next (hb0.trans (h.mono hb0.size)), bx0.next h⟩)
  have hbb0 := Below.refl (w.alloc (.cells #[.string (str p.base), .slice A p.hs.length c] 24)).heap.size (w.alloc (.cells #[.string (str p.base), .slice A p.hs.length c] 24))
  have HPW := Lib.hid (HW.out _ hbb0).2.1
  rw [paV_def]
  obtain ⟨base, hs⟩ := p
  dsimp only at *
  have hbl := hP.base
  have hll := hP.len
  have HEA := Lib.hid hP.each
  dsimp only at hbl hll
  have hbs : (str base).size = base.length := str_size base
  obtain ⟨k0, k1⟩ := (HW.out _ hbb0).2.2.cells
  clear hb0 bx0 hP
  go_enter Tryz.func37, Tryz.ntmps37
  by_cases hc1 : (¬ base = [] ∧ ¬ base.length = 32)
  · have HT := Lib.hid (show V = false by
      rw [HV.out]
      have : Pc.baseOk base = false := by unfold Pc.baseOk; simp [hc1.1, hc1.2]
      rw [this]; simp)
    have q1 : ((str base).toList != []) = true := by rw [str_list, bne_iff_ne]; exact hc1.1
    have q1b : (!(str base).toList.isEmpty) = true := by rw [str_list]; cases hq : base with | nil => exact absurd hq hc1.1 | cons _ _ => rfl
    have q2 : (((str base).size : Int) != 32) = true := by rw [bne_iff_ne]; have := hc1.2; omega
    have q2b : ¬ (str base).size = 32 := by have := hc1.2; omega
    clear hc1
    go_wp2_with fail
    go_ret
    exact ⟨by rw [HT.out]; rfl, (HW.out _ hbb0).1⟩
  have HBO := Lib.hid (show Pc.baseOk base = true by
    unfold Pc.baseOk
    simp only [Bool.or_eq_true, decide_eq_true_eq]
    by_cases e : base = []
    · exact .inl e
    · exact .inr (Classical.byContradiction fun e2 => hc1 ⟨e, e2⟩))
  have hq : ∃ x y, (!(str base).toList.isEmpty) = x ∧ (((str base).size : Int) != 32) = y ∧ (x && y) = false := by
    refine ⟨_, _, rfl, rfl, ?_⟩
    rw [str_list]
    by_cases e : base = []
    · rw [e]; rfl
    · have : base.length = 32 := Classical.byContradiction fun e2 => hc1 ⟨e, e2⟩
      have : (((str base).size : Int) != 32) = false := by rw [bne_eq_false_iff_eq]; omega
      rw [this, Bool.and_false]
  obtain ⟨x, y, q1, q2, q3⟩ := hq
  clear hc1 hbs
  have hxy : x = false ∨ (x = true ∧ y = false) := by cases x <;> cases y <;> simp_all
  clear q3
  have hLL : 1024 < hs.length → V = false := fun h => by
    rw [Bool.eq_false_iff]
    intro h2
    have := (HL.out h2).1
    omega
  have HLL := Lib.hid hLL
  have HIO := Lib.hid (show Pc.inOrder 0 hs = Pc.inOrder (Pc.prevK hs 0) (hs.drop 0) from rfl)
  generalize hio : Pc.inOrder 0 hs = io at *
  have HOI := Lib.hid hio
  clear hio HL hLL
  rcases hxy with rfl | ⟨rfl, rfl⟩
  all_goals
    by_cases hc2 : 1024 < hs.length
    · have HT := Lib.hid (HLL.out hc2)
      have q4 : decide ((1024 : Int) < hs.length) = true := decide_eq_true (by omega)
      have q4n : decide (1024 < hs.length) = true := decide_eq_true hc2
      have hres := (HW.out _ hbb0).1
      clear hc2
      go_wp2_with fail
      go_ret
      exact ⟨by rw [HT.out]; rfl, hres⟩
    have q4 : decide ((1024 : Int) < hs.length) = false := decide_eq_false (by omega)
    have q4n : decide (1024 < hs.length) = false := decide_eq_false hc2
    have hl24 : hs.length ≤ 1024 := by omega
    clear HLL hc2
    go_wp2_with fail
    generalize w.alloc (.cells #[.string (str base), .slice A hs.length c] 24) = W at *
    clear q1 q2 q4 q4n k0 k1
    go_loopw [28] (fun i wr => ∃ k : Nat, k ≤ hs.length ∧ i = .int .i64 k ∧ io = Pc.inOrder (Pc.prevK hs k) (hs.drop k) ∧ Below W.heap.size W wr) (fun i _ => hs.length - (intOf i).toNat)
    case atStart => exact ⟨0, by omega, rfl, HIO.out, hbb0⟩
    case round =>
      clear HIO hbb0
      obtain ⟨k, hk, rfl, hio, hb⟩ := hrel
      have HR := Lib.hid hio
      clear hio
      obtain ⟨hbw, hPk, bxk⟩ := HW.out _ hb
      by_cases hlt : k < hs.length
      · have b1 : decide ((k : Int) < hs.length) = true := by simp; omega
        have b1n : decide (k < hs.length) = true := by simp; omega
        obtain ⟨g, o, Ak, ck, rfl, hg, h0, h1, h2, _⟩ := hPk.at_ k hlt
        have HS := Lib.hid (HR.out.trans (Pc.inOrder_at hs k (Pc.prevK hs k) hlt))
        have HPS := Lib.hid (Pc.prevK_succ hs k hlt)
        have hpv : ∀ j, k = j + 1 → wr.cell? ⟨g, o + j * 3, none⟩ = some (.int .i64 (Pc.prevK hs k)) := fun j hj => by
          subst hj
          obtain ⟨g', o', _, _, e, _, h0', _⟩ := hPk.at_ j (show j < hs.length by omega)
          injection e with e
          injection e with e1 e2
          subst e1 e2
          rw [Pc.prevK_succ hs j (by omega)]
          exact h0'
        have hp0 : k = 0 → Pc.prevK hs k = 0 := fun h => by rw [h]; rfl
        clear HR hPk
        generalize Pc.prevK hs k = bf at *
        generalize hs[k] = h at *
        obtain ⟨kd, n, ls⟩ := h
        go_upto_region 6 with (fail)
        have hbq : Below wr.heap.size wr (wr.alloc (.cells #[.int .i64 kd, .int .i64 n, .slice Ak ls.length ck] 54)) := (Below.refl _ _).alloc (Nat.le_refl _) _
        have hnew := heap_alloc_new wr (.cells #[.int .i64 kd, .int .i64 n, .slice Ak ls.length ck] 54)
        have e0 : (wr.alloc (.cells #[.int .i64 kd, .int .i64 n, .slice Ak ls.length ck] 54)).cell? ⟨wr.heap.size, 0, none⟩ = some (.int .i64 kd) := by rw [cell_of_row _ _ _ _ _ _ hnew]; rfl
        have e1 : (wr.alloc (.cells #[.int .i64 kd, .int .i64 n, .slice Ak ls.length ck] 54)).cell? ⟨wr.heap.size, 1, none⟩ = some (.int .i64 n) := by rw [cell_of_row _ _ _ _ _ _ hnew]; rfl
        have e2 : (wr.alloc (.cells #[.int .i64 kd, .int .i64 n, .slice Ak ls.length ck] 54)).cell? ⟨wr.heap.size, 2, none⟩ = some (.slice Ak ls.length ck) := by rw [cell_of_row _ _ _ _ _ _ hnew]; rfl
        have hb3 := hb.trans (hbq.mono hb.size)
        have bx3 := bxk.next hbq
        have HPV := Lib.hid (fun j hj => (hbq.cell (p := ⟨g, o + j * 3, none⟩) hg).trans (hpv j hj))
        have HBR := Lib.hid (HW.out _ hb3).1
        clear hnew hbq h0 h1 h2 hb bxk hpv hg hbw
        generalize wr.alloc (.cells #[.int .i64 kd, .int .i64 n, .slice Ak ls.length ck] 54) = w3 at *
        generalize wr.heap.size = q at *
        have HBES := Lib.hid (show Pc.beside bf ⟨kd, n, ls⟩ = false → V = false from fun hb => by rw [HV.out, HS.out, hb]; rfl)
        have HBH := Lib.hid (show Pc.isHunk ⟨kd, n, ls⟩ = false → V = false from fun hb => HBES.out (by unfold Pc.beside; rw [hb]; rfl))
        have HGO := Lib.hid (show Pc.beside bf ⟨kd, n, ls⟩ = true → io = Pc.inOrder (Pc.prevK hs (k + 1)) (hs.drop (k + 1)) from fun hb => by rw [HS.out, hb, HPS.out]; rfl)
        clear HS HPS
        have hnot : ∀ (P : Prop), (Pc.isHunk ⟨kd, n, ls⟩ = true → ¬ P) → P → Pc.isHunk ⟨kd, n, ls⟩ = false := fun P h1 h2 => Bool.eq_false_iff.2 fun h => h1 h h2
        by_cases a1 : kd < 1
        · have HT := Lib.hid (HBH.out (hnot (kd < 1) (fun h => by have := (Pc.isHunk_num h).2.1; dsimp only at this; omega) a1))
          have t1 : decide (kd < 1) = true := decide_eq_true a1
          clear a1 hnot
          go_wp2_with fail
          go_ret
          exact ⟨by rw [HT.out]; rfl, HBR.out⟩
        have t1 : decide (kd < 1) = false := decide_eq_false a1
        by_cases a2 : 3 < kd
        · have HT := Lib.hid (HBH.out (hnot (3 < kd) (fun h => by have := (Pc.isHunk_num h).2.1; dsimp only at this; omega) a2))
          have t2 : decide ((3 : Int) < kd) = true := decide_eq_true a2
          clear a1 a2 hnot
          go_wp2_with fail
          go_ret
          exact ⟨by rw [HT.out]; rfl, HBR.out⟩
        have t2 : decide ((3 : Int) < kd) = false := decide_eq_false a2
        by_cases a3 : n < 1
        · have HT := Lib.hid (HBH.out (hnot (n < 1) (fun h => by have := (Pc.isHunk_num h).1; dsimp only at this; omega) a3))
          have t3 : decide (n < 1) = true := decide_eq_true a3
          clear a1 a2 a3 hnot
          go_wp2_with fail
          go_ret
          exact ⟨by rw [HT.out]; rfl, HBR.out⟩
        have t3 : decide (n < 1) = false := decide_eq_false a3
        by_cases a4 : 1024 < n
        · have HT := Lib.hid (HBH.out (hnot (1024 < n) (fun h => by have := (Pc.isHunk_num h).1; dsimp only at this; omega) a4))
          have t4 : decide ((1024 : Int) < n) = true := decide_eq_true a4
          clear a1 a2 a3 a4 hnot
          go_wp2_with fail
          go_ret
          exact ⟨by rw [HT.out]; rfl, HBR.out⟩
        have t4 : decide ((1024 : Int) < n) = false := decide_eq_false a4
        by_cases a5 : kd = 3
        · have t5 : (kd == 3) = true := beq_iff_eq.2 a5
          have t7 : (kd != 3) = false := by simp [a5]
          by_cases a6 : (ls.length : Int) = n
          · have t6 : ((ls.length : Int) != n) = false := by simp [a6]
            have hh : Pc.isHunk ⟨kd, n, ls⟩ = true := by
              unfold Pc.isHunk
              dsimp only
              rw [if_neg (by omega), if_pos a5, Bool.and_eq_true, Pc.isNum_iff, decide_eq_true_eq]
              omega
            by_cases a0 : k = 0
            · have hbf := hp0 a0
              have d0 : decide ((0 : Int) < (k : Int)) = false := decide_eq_false (by omega)
              have d0n : decide (0 < k) = false := decide_eq_false (by omega)
              have HG := Lib.hid (HGO.out (by
                unfold Pc.beside
                rw [hh, hbf]
                have : (kd == 0) = false := beq_eq_false_iff_ne.2 (by omega)
                dsimp only
                rw [this]; simp))
              clear a0 a1 a2 a3 a4 a5 hnot hbf hh
              go_upto_region 10 with (fail)
              go_quiet (fail)
              have hb4 := below_drewN hb3 nq
              clear hb3
              go_wp2_with fail
              go_roundw
              case rel => exact ⟨k + 1, by omega, by go_num, HG.out, hb4⟩
              case measure => simp [intOf]; omega
            · obtain ⟨j, hj⟩ : ∃ j, k = j + 1 := ⟨k - 1, by omega⟩
              have d0 : decide ((0 : Int) < (k : Int)) = true := decide_eq_true (by omega)
              have d0n : decide (0 < k) = true := decide_eq_true (by omega)
              have m1 := HPV.out j hj
              have j1 : IntKind.i64.wrap ((k : Int) - 1) = (j : Int) := by rw [IntWalk.i64_in _ (by omega)]; omega
              have j2 : (k : Int) - 1 = (j : Int) := by omega
              have j3 : (j : Int) < hs.length := by omega
              obtain ⟨x0, x1⟩ := bx3.cells
              dsimp only at x0 x1
              clear hj a0
              by_cases g1 : bf = kd
              · have t9 : (bf == kd) = true := beq_iff_eq.2 g1
                have HT := Lib.hid (HBES.out (by unfold Pc.beside; rw [← g1]; simp))
                clear a1 a2 a3 a4 a5 hnot hh g1
                go_upto_region 10 with (fail)
                go_quiet (fail)
                go_wp2_with fail
                go_ret
                exact ⟨by rw [HT.out]; rfl, below_drewN HBR.out nq⟩
              have t9 : (bf == kd) = false := beq_eq_false_iff_ne.2 g1
              by_cases g2 : bf = 3
              · have t10 : (bf == 3) = true := beq_iff_eq.2 g2
                by_cases g3 : kd = 2
                · have t11 : (kd == 2) = true := beq_iff_eq.2 g3
                  have HT := Lib.hid (HBES.out (by unfold Pc.beside; rw [g2, g3]; simp))
                  clear a1 a2 a3 a4 a5 hnot hh g1 g2 g3
                  go_upto_region 10 with (fail)
                  go_quiet (fail)
                  go_wp2_with fail
                  go_ret
                  exact ⟨by rw [HT.out]; rfl, below_drewN HBR.out nq⟩
                · have t11 : (kd == 2) = false := beq_eq_false_iff_ne.2 g3
                  have HG := Lib.hid (HGO.out (by unfold Pc.beside; dsimp only; rw [hh, t11, show (kd == bf) = false from beq_eq_false_iff_ne.2 fun e => g1 e.symm]; rfl))
                  clear a1 a2 a3 a4 a5 hnot hh g1 g2 g3
                  go_upto_region 10 with (fail)
                  go_quiet (fail)
                  have hb4 := below_drewN hb3 nq
                  clear hb3
                  go_wp2_with fail
                  go_roundw
                  case rel => exact ⟨k + 1, by omega, by go_num, HG.out, hb4⟩
                  case measure => simp [intOf]; omega
              · have t10 : (bf == 3) = false := beq_eq_false_iff_ne.2 g2
                have HG := Lib.hid (HGO.out (by unfold Pc.beside; dsimp only; rw [hh, t10, show (kd == bf) = false from beq_eq_false_iff_ne.2 fun e => g1 e.symm]; simp))
                clear a1 a2 a3 a4 a5 hnot hh g1 g2
                go_upto_region 10 with (fail)
                go_quiet (fail)
                have hb4 := below_drewN hb3 nq
                clear hb3
                go_wp2_with fail
                go_roundw
                case rel => exact ⟨k + 1, by omega, by go_num, HG.out, hb4⟩
                case measure => simp [intOf]; omega
          · have t6 : ((ls.length : Int) != n) = true := bne_iff_ne.2 a6
            have HT := Lib.hid (HBH.out (hnot ((ls.length : Int) ≠ n) (fun h => by have := (isHunk_ls h).1 a5; dsimp only at this; omega) a6))
            clear a1 a2 a3 a4 a5 a6 hnot
            go_wp2_with fail
            go_ret
            exact ⟨by rw [HT.out]; rfl, HBR.out⟩
        · have t5 : (kd == 3) = false := beq_eq_false_iff_ne.2 a5
          have t7 : (kd != 3) = true := bne_iff_ne.2 a5
          by_cases a8 : (ls.length : Int) = 0
          · have t8 : ((ls.length : Int) != 0) = false := by simp [a8]
            have hh : Pc.isHunk ⟨kd, n, ls⟩ = true := by
              unfold Pc.isHunk
              dsimp only
              rw [if_pos (by omega), Bool.and_eq_true, Pc.isNum_iff, decide_eq_true_eq]
              omega
            by_cases a0 : k = 0
            · have hbf := hp0 a0
              have d0 : decide ((0 : Int) < (k : Int)) = false := decide_eq_false (by omega)
              have d0n : decide (0 < k) = false := decide_eq_false (by omega)
              have HG := Lib.hid (HGO.out (by
                unfold Pc.beside
                rw [hh, hbf]
                have : (kd == 0) = false := beq_eq_false_iff_ne.2 (by omega)
                dsimp only
                rw [this]; simp))
              clear a0 a1 a2 a3 a4 a5 hnot hbf hh
              go_upto_region 10 with (fail)
              go_quiet (fail)
              have hb4 := below_drewN hb3 nq
              clear hb3
              go_wp2_with fail
              go_roundw
              case rel => exact ⟨k + 1, by omega, by go_num, HG.out, hb4⟩
              case measure => simp [intOf]; omega
            · obtain ⟨j, hj⟩ : ∃ j, k = j + 1 := ⟨k - 1, by omega⟩
              have d0 : decide ((0 : Int) < (k : Int)) = true := decide_eq_true (by omega)
              have d0n : decide (0 < k) = true := decide_eq_true (by omega)
              have m1 := HPV.out j hj
              have j1 : IntKind.i64.wrap ((k : Int) - 1) = (j : Int) := by rw [IntWalk.i64_in _ (by omega)]; omega
              have j2 : (k : Int) - 1 = (j : Int) := by omega
              have j3 : (j : Int) < hs.length := by omega
              obtain ⟨x0, x1⟩ := bx3.cells
              dsimp only at x0 x1
              clear hj a0
              by_cases g1 : bf = kd
              · have t9 : (bf == kd) = true := beq_iff_eq.2 g1
                have HT := Lib.hid (HBES.out (by unfold Pc.beside; rw [← g1]; simp))
                clear a1 a2 a3 a4 a5 hnot hh g1
                go_upto_region 10 with (fail)
                go_quiet (fail)
                go_wp2_with fail
                go_ret
                exact ⟨by rw [HT.out]; rfl, below_drewN HBR.out nq⟩
              have t9 : (bf == kd) = false := beq_eq_false_iff_ne.2 g1
              by_cases g2 : bf = 3
              · have t10 : (bf == 3) = true := beq_iff_eq.2 g2
                by_cases g3 : kd = 2
                · have t11 : (kd == 2) = true := beq_iff_eq.2 g3
                  have HT := Lib.hid (HBES.out (by unfold Pc.beside; rw [g2, g3]; simp))
                  clear a1 a2 a3 a4 a5 hnot hh g1 g2 g3
                  go_upto_region 10 with (fail)
                  go_quiet (fail)
                  go_wp2_with fail
                  go_ret
                  exact ⟨by rw [HT.out]; rfl, below_drewN HBR.out nq⟩
                · have t11 : (kd == 2) = false := beq_eq_false_iff_ne.2 g3
                  have HG := Lib.hid (HGO.out (by unfold Pc.beside; dsimp only; rw [hh, t11, show (kd == bf) = false from beq_eq_false_iff_ne.2 fun e => g1 e.symm]; rfl))
                  clear a1 a2 a3 a4 a5 hnot hh g1 g2 g3
                  go_upto_region 10 with (fail)
                  go_quiet (fail)
                  have hb4 := below_drewN hb3 nq
                  clear hb3
                  go_wp2_with fail
                  go_roundw
                  case rel => exact ⟨k + 1, by omega, by go_num, HG.out, hb4⟩
                  case measure => simp [intOf]; omega
              · have t10 : (bf == 3) = false := beq_eq_false_iff_ne.2 g2
                have HG := Lib.hid (HGO.out (by unfold Pc.beside; dsimp only; rw [hh, t10, show (kd == bf) = false from beq_eq_false_iff_ne.2 fun e => g1 e.symm]; simp))
                clear a1 a2 a3 a4 a5 hnot hh g1 g2
                go_upto_region 10 with (fail)
                go_quiet (fail)
                have hb4 := below_drewN hb3 nq
                clear hb3
                go_wp2_with fail
                go_roundw
                case rel => exact ⟨k + 1, by omega, by go_num, HG.out, hb4⟩
                case measure => simp [intOf]; omega
          · have t8 : ((ls.length : Int) != 0) = true := bne_iff_ne.2 a8
            have HT := Lib.hid (HBH.out (hnot ((ls.length : Int) ≠ 0) (fun h => by have := (isHunk_ls h).2 a5; dsimp only at this; rw [this]; simp) a8))
            clear a1 a2 a3 a4 a5 a8 hnot
            go_wp2_with fail
            go_ret
            exact ⟨by rw [HT.out]; rfl, HBR.out⟩
      · have b1 : decide ((k : Int) < hs.length) = false := by simp; omega
        have b1n : decide (k < hs.length) = false := by simp; omega
        have hio : io = true := by rw [HR.out, List.drop_of_length_le (by omega)]; rfl
        have hall := Pc.inOrder_all 0 hs (by rw [HOI.out, hio])
        have hnn : ∀ h ∈ hs, 0 ≤ h.n ∧ h.n ≤ 1024 := fun h hm => by have := (Pc.isHunk_num (hall h hm)).1; omega
        have HV2 := Lib.hid (show V = (Pc.isNum (Pc.cnt 1 hs + Pc.cnt 2 hs) && (Pc.isNum (Pc.cnt 1 hs + Pc.cnt 3 hs) && (Pc.baseOk base && decide ((Tre.join (Pc.printL ⟨base, hs⟩)).2 = 0)))) by rw [HV.out, hio]; rfl)
        have HSH := Lib.hid (show Pc.isNum (Pc.cnt 1 hs + Pc.cnt 2 hs) = true → Pc.isNum (Pc.cnt 1 hs + Pc.cnt 3 hs) = true → (Pc.bodyL hs).length ≤ 4096 from fun h1 h2 => (Pc.shape_len (hs := hs) (by unfold Pc.shape; rw [HOI.out, hio, h1, h2]; rfl)).2.1)
        obtain ⟨c1a, c1b⟩ := Pc.cnt_le 1 hs hnn
        obtain ⟨c2a, c2b⟩ := Pc.cnt_le 2 hs hnn
        obtain ⟨c3a, c3b⟩ := Pc.cnt_le 3 hs hnn
        have cc := qCounts_any ⟨base, hs⟩ A c wr hPk.at_ (by show hs.length ≤ _; omega) hall
        rw [paV_def] at cc
        dsimp only at cc
        have d1 : Pc.cnt 1 hs ≤ 10000000 := by omega
        have d2 : Pc.cnt 2 hs ≤ 10000000 := by omega
        have d3 : Pc.cnt 3 hs ≤ 10000000 := by omega
        have HAL := Lib.hid hall
        obtain ⟨k0, k1⟩ := bxk.cells
        have HB := Lib.hid hb
        clear HV HR HOI hio hall hnn c1b c2b c3b hPk bxk hbw hb
        generalize Pc.cnt 1 hs = x1 at *
        generalize Pc.cnt 2 hs = x2 at *
        generalize Pc.cnt 3 hs = x3 at *
        go_wp2_with fail
        with_reducible refine cc.mono ?_
        clear cc k0 k1
        rintro e w4 ⟨rfl, hb4⟩
        have hb04 := HB.out.trans (hb4.mono HB.out.size)
        obtain ⟨hbw4, hP4, bx4⟩ := HW.out _ hb04
        have HBR := Lib.hid hbw4
        clear hb4 hbw4 HB
        by_cases u1 : x1 + x2 < 1
        · have HT := Lib.hid (show V = false by rw [HV2.out]; have : Pc.isNum (x1 + x2) = false := (by rw [Bool.eq_false_iff, ne_eq, Pc.isNum_iff]; omega); rw [this]; rfl)
          have v1 : decide (x1 + x2 < 1) = true := decide_eq_true u1
          clear u1
          go_wp2_with fail
          go_ret
          exact ⟨by rw [HT.out]; rfl, HBR.out⟩
        have v1 : decide (x1 + x2 < 1) = false := decide_eq_false u1
        by_cases u2 : 1024 < x1 + x2
        · have HT := Lib.hid (show V = false by rw [HV2.out]; have : Pc.isNum (x1 + x2) = false := (by rw [Bool.eq_false_iff, ne_eq, Pc.isNum_iff]; omega); rw [this]; rfl)
          have v2 : decide ((1024 : Int) < x1 + x2) = true := decide_eq_true u2
          clear u1 u2
          go_wp2_with fail
          go_ret
          exact ⟨by rw [HT.out]; rfl, HBR.out⟩
        have v2 : decide ((1024 : Int) < x1 + x2) = false := decide_eq_false u2
        by_cases u3 : x1 + x3 < 1
        · have HT := Lib.hid (show V = false by rw [HV2.out]; have : Pc.isNum (x1 + x3) = false := (by rw [Bool.eq_false_iff, ne_eq, Pc.isNum_iff]; omega); rw [this]; cases Pc.isNum (x1 + x2) <;> rfl)
          have v3 : decide (x1 + x3 < 1) = true := decide_eq_true u3
          clear u1 u2 u3
          go_wp2_with fail
          go_ret
          exact ⟨by rw [HT.out]; rfl, HBR.out⟩
        have v3 : decide (x1 + x3 < 1) = false := decide_eq_false u3
        by_cases u4 : 1024 < x1 + x3
        · have HT := Lib.hid (show V = false by rw [HV2.out]; have : Pc.isNum (x1 + x3) = false := (by rw [Bool.eq_false_iff, ne_eq, Pc.isNum_iff]; omega); rw [this]; cases Pc.isNum (x1 + x2) <;> rfl)
          have v4 : decide ((1024 : Int) < x1 + x3) = true := decide_eq_true u4
          clear u1 u2 u3 u4
          go_wp2_with fail
          go_ret
          exact ⟨by rw [HT.out]; rfl, HBR.out⟩
        have v4 : decide ((1024 : Int) < x1 + x3) = false := decide_eq_false u4
        have i1 : Pc.isNum (x1 + x2) = true := (Pc.isNum_iff _).2 (by omega)
        have i2 : Pc.isNum (x1 + x3) = true := (Pc.isNum_iff _).2 (by omega)
        have hsum := HSH.out i1 i2
        have HT := Lib.hid (show V = decide ((Tre.join (Pc.printL ⟨base, hs⟩)).2 = 0) by rw [HV2.out, i1, i2, HBO.out]; rfl)
        have cc := qlines_any ⟨base, hs⟩ A c w4 hP4 HAL.out (by show hs.length ≤ _; omega) hsum HBO.out
        rw [paV_def] at cc
        dsimp only at cc
        have hpl : (Pc.printL ⟨base, hs⟩).length ≤ 4097 := by
          unfold Pc.printL
          rw [List.length_append]
          dsimp only
          split <;> simp <;> omega
        have hpe : ∀ l ∈ Pc.printL ⟨base, hs⟩, l.length ≤ 1000000000 := fun l hl => by
          unfold Pc.printL at hl
          rcases List.mem_append.1 hl with hl | hl
          · split at hl
            · simp at hl
            · rw [List.mem_singleton.1 hl, List.length_append, hex_len]; decide
          · rcases bodyL_mem hs l hl with ⟨h, hh, rfl⟩ | ⟨h, hh, hl⟩
            · have hn := (Pc.isHunk_num (HAL.out h hh)).1
              have := Cd.dec_len h.n.toNat (by omega)
              have := word_len h.kind
              rw [headL_def, List.length_append]; omega
            · have := HEA.out h hh l hl; omega
        have HPE := Lib.hid hpe
        obtain ⟨k0, k1⟩ := bx4.cells
        have HB4 := Lib.hid hb04
        clear u1 u2 u3 u4 i1 i2 HV2 HSH HAL hP4 bx4 hpe hb04 HBR
        generalize Pc.printL ⟨base, hs⟩ = PL at *
        go_wp2_with fail
        with_reducible refine cc.mono ?_
        clear cc k0 k1
        rintro e w5 ⟨v5, rfl, ho5, hb5⟩
        obtain ⟨A5, c5, rfl, hA5⟩ := owns_cells ho5
        obtain ⟨hc5, _⟩ := own_capS ho5
        have cj := qJoin_any A5 c5 PL w5 hA5 (by omega) HPE.out hc5
        rw [joinV_def] at cj
        have hb05 := HB4.out.trans (hb5.mono HB4.out.size)
        have HB5 := Lib.hid hb05
        clear ho5 hA5 hc5 hb5 hb05 HPE HB4
        generalize Tre.join PL = J at *
        go_wp2_with fail
        with_reducible refine cj.mono ?_
        clear cj
        rintro e w6 ⟨rfl, hb6⟩
        have hb06 := HB5.out.trans (hb6.mono HB5.out.size)
        have HBR := Lib.hid (HW.out _ hb06).1
        clear hb6 hb06
        go_wp2_with fail
        go_ret
        exact ⟨by rw [HT.out]; first | rfl | (congr 2; done) | (simp; done), HBR.out⟩
end Go.Proofs.YtlfgnecfabdkmaaGreatDoor
