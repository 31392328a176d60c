/- Has and Count of the reference. No condition but lengths. -/
import Derived.Test.YtlablbibdkcifaaGreatDoorRls
import Derived.Test.YtlablbibdkcifaaGreatDoorHas
namespace Go.Proofs.YtlablbibdkcifaaGreatDoor
open Go.RowKit Go.Deep Tr

set_option maxHeartbeats 8000000 in
set_option maxRecDepth 100000 in
theorem qhas_any (l : List Ls.Sp) (x : List UInt8) (m : Int) (A : Option Addr) (c : Nat) (w : World) (hA : Ls.SpAt w w.heap.size A l) (hl : l.length ≤ 1000000) (hp : ∀ s ∈ l, s.path.length ≤ 1000000) :
    Calls Tryz.prog 59 #[.slice A l.length c, .agg #[.string (str x), .int .i64 m]] w fun e w' => e = .returned (.bool (Ls.hasV l x m)) ∧ Below w.heap.size w w' := by
  have HV := Lib.hid (Ls.hasV_def l x m)
  generalize Ls.hasV l x m = V at *
  have hb0 : Below w.heap.size w (w.alloc (.cells #[.string (str x), .int .i64 m] 44)) := (Below.refl _ _).alloc (Nat.le_refl _) _
  have hN0 := heap_alloc_new w (.cells #[.string (str x), .int .i64 m] 44)
  have hva := qvalid_any l A c _ (hA.next hb0) hl hp
  have HAA := Lib.hid hA
  clear hA hp
  go_enter Tryz.func59, Tryz.ntmps59
  go_wp2_with fail
  with_reducible refine hva.mono ?_
  clear hva
  rintro e w1 ⟨rfl, hb1⟩
  have hb01 := hb0.trans (hb1.mono hb0.size)
  have hN1 := (hb1.block _ (blk_lt hN0)).trans hN0
  clear hb0 hb1 hN0
  cases hv : Ls.vld l with
  | false =>
    have HT := Lib.hid (show V = false by rw [HV.out, hv]; rfl)
    clear hv HV hN1
    go_wp2_with fail
    first | go_ret2 | go_ret
    exact ⟨by rw [HT.out]; rfl, hb01⟩
  | true =>
    have HT := Lib.hid (show V = Ls.has (l.drop 0) x m by rw [HV.out, hv]; rfl)
    clear hv HV
    have hf0 : w1.cell? ⟨w.heap.size, 0, none⟩ = some (.string (str x)) := by rw [cell_of_row _ _ _ _ _ _ hN1]; rfl
    have hf1 : w1.cell? ⟨w.heap.size, 1, none⟩ = some (.int .i64 m) := by rw [cell_of_row _ _ _ _ _ _ hN1]; rfl
    have hq1 := blk_lt hN1
    clear hN1
    go_wp2_with fail
    go_loopw [5] (fun s5 wr => ∃ k : Nat, s5 = .int .i64 k ∧ k ≤ l.length ∧ V = Ls.has (l.drop k) x m ∧ Below w1.heap.size w1 wr) (fun s5 _ => l.length - (intOf s5).toNat)
    case atStart => exact ⟨0, rfl, by omega, HT.out, Below.refl _ _⟩
    case round =>
      clear HT
      obtain ⟨k, rfl, hk, hR, hb⟩ := hrel
      by_cases hlt : k < l.length
      · have b1 : decide ((k : Int) < (l.length : Int)) = true := decide_eq_true (by omega)
        have b1n : decide (k < l.length) = true := decide_eq_true hlt
        have y3 : (k : Int) < (l.length : Int) := by omega
        obtain ⟨g, o, rfl, hg, hc⟩ := HAA.out k hlt
        rw [Ls.has_at l x m k hlt] at hR
        have HR := Lib.hid hR
        have hbw := hb01.trans (hb.mono hb01.size)
        have hd0 := (hbw.cell (p := ⟨g, o + k * 3, none⟩) hg).trans (hc 0 _ rfl)
        have hd1 := (hbw.cell (p := ⟨g, o + k * 3 + 1, none⟩) hg).trans (hc 1 _ rfl)
        have hd2 := (hbw.cell (p := ⟨g, o + k * 3 + 2, none⟩) hg).trans (hc 2 _ rfl)
        have f0 := (hb.cell (p := ⟨w.heap.size, 0, none⟩) hq1).trans hf0
        have f1 := (hb.cell (p := ⟨w.heap.size, 1, none⟩) hq1).trans hf1
        clear hc hR
        generalize l[k] = s at *
        have HBW := Lib.hid hbw
        have HBX := Lib.hid hb
        clear hb hbw
        have hcs : (Ls.inSp x m s = true ∧ ((str s.path).toList == (str x).toList) = true ∧ decide (s.lo ≤ m) = true ∧ decide (m < s.hi) = true) ∨ (Ls.inSp x m s = false ∧ (((str s.path).toList == (str x).toList) = false ∨ (((str s.path).toList == (str x).toList) = true ∧ decide (s.lo ≤ m) = false) ∨ (((str s.path).toList == (str x).toList) = true ∧ decide (s.lo ≤ m) = true ∧ decide (m < s.hi) = false))) := by
          have e : ((str s.path).toList == (str x).toList) = decide (s.path = x) := by
            rw [strL, strL]
            by_cases h : s.path = x
            · rw [h, decide_eq_true rfl]; simp
            · rw [decide_eq_false h, beq_eq_false_iff_ne]; exact h
          rw [e]
          unfold Ls.inSp
          cases decide (s.path = x) <;> cases decide (s.lo ≤ m) <;> cases decide (m < s.hi) <;> simp
        go_upto_region 6 with (fail)
        rcases hcs with ⟨hin, p1, p2, p3⟩ | ⟨hin, hcs⟩
        · have HT := Lib.hid (show V = true by rw [HR.out, hin]; rfl)
          clear hin HR
          go_quiet (fail)
          have HB2 := Lib.hid (show Below w.heap.size w (wr.drewN nq) from below_drewN HBW.out nq)
          go_wp2_with fail
          first | go_ret3 | go_ret2 | go_ret
          exact ⟨by rw [HT.out]; rfl, HB2.out⟩
        · have HT := Lib.hid (show V = Ls.has (l.drop (k + 1)) x m by rw [HR.out, hin]; rfl)
          clear hin HR
          rcases hcs with p1 | ⟨p1, p2⟩ | ⟨p1, p2, p3⟩
          all_goals
            go_quiet (fail)
            have HB2 := Lib.hid (show Below w1.heap.size w1 (wr.drewN nq) from below_drewN HBX.out nq)
            go_wp2_with fail
            go_roundw
            case rel => exact ⟨k + 1, by go_num, by omega, HT.out, HB2.out⟩
            case measure => simp [intOf]; omega
      · have b1 : decide ((k : Int) < (l.length : Int)) = false := decide_eq_false (by omega)
        have b1n : decide (k < l.length) = false := decide_eq_false hlt
        have HT := Lib.hid (show V = false by rw [hR, List.drop_eq_nil_of_le (by omega)]; rfl)
        have HB := Lib.hid (hb01.trans (hb.mono hb01.size))
        clear hR hb
        go_wp2_with fail
        first | go_ret2 | go_ret
        exact ⟨by rw [HT.out]; rfl, HB.out⟩
namespace Ls
theorem countV_list (l : List Sp) : countV l = ((list l).length : Int) := by
  unfold countV list
  by_cases h : vld l = true
  · rw [if_pos h, if_pos h]
    exact (length_lns fun s hs => ((vld_iff l).1 h).apart.ne s hs).symm
  · rw [if_neg h, if_neg h]; rfl
end Ls
end Go.Proofs.YtlablbibdkcifaaGreatDoor
