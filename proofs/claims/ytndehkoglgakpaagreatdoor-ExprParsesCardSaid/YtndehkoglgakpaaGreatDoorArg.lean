/- The parser's expressions and arguments. No condition. -/
import Derived.Test.YtndehkoglgakpaaGreatDoorLev
import Derived.Test.YtndehkoglgakpaaGreatDoorPa2
namespace Go.Proofs.YtndehkoglgakpaaGreatDoor
open Go.RowKit Go.Deep

set_option maxHeartbeats 2000000 in
set_option maxRecDepth 100000 in
theorem expression_any (b : Nat) (A : Option Addr) (c : Nat) (l : List Tok.Tk) (d i s : Nat) (out : List Ex.Op) (w : World) (hP : PA w b A c l d i s out) (r : Ex.Rs)
    (hcall : Calls Tryz.prog 24 #[.agg #[.pointer (some ⟨b, 0, none⟩), .int .i64 1]] w (Got w b A c l d s r)) :
    Calls Tryz.prog 26 #[.pointer (some ⟨b, 0, none⟩)] w (Got w b A c l d s r) := by
  have c5 : w.cell? ⟨b, 5, none⟩ = some (.func (Fn.func 24) #[.agg #[.pointer (some ⟨b, 0, none⟩), .int .i64 1]] #[]) := hP.lv 1 (by decide) (by decide)
  clear hP
  go_enter Tryz.func26, Tryz.ntmps26
  go_wp2_with fail
  with_reducible refine hcall.mono ?_
  clear hcall
  rintro x w3 ⟨rfl, hP3, hB3⟩
  go_wp2_with fail
  go_ret
  exact ⟨rfl, hP3, hB3⟩
/-- What the arguments leave. -/
def GotA (w : World) (b : Nat) (A : Option Addr) (c : Nat) (l : List Tok.Tk) (d s : Nat) (R : Nat × Ex.Rs) : Ending → World → Prop := fun x w' => x = .returned (.tuple #[.int .i64 (R.1 : Int), .int .i64 R.2.e]) ∧ PA w' b A c l d R.2.i (sl R.2.e s) R.2.out ∧ Fr b b w w'
theorem allArgs_def (l : List Tok.Tk) (f : Ex.Pr) (d i : Nat) (out : List Ex.Op) : Ex.allArgs l f d i out = if Ex.nxt l i = [41] then (0, ⟨0, i, out⟩) else Ex.args l f d 9 1 i out := rfl
set_option maxHeartbeats 4000000 in
set_option maxRecDepth 100000 in
theorem arguments_any (b : Nat) (A : Option Addr) (c : Nat) (l : List Tok.Tk) (d i s : Nat) (out : List Ex.Op) (w : World) (hP : PA w b A c l d i s out) (hl : l.length ≤ 1000000) (p : Ex.Pr) (hp : Ex.Fwd p)
    (hX : ∀ (i' : Nat) (out' : List Ex.Op) (w' : World), i ≤ i' → PA w' b A c l d i' s out' → Calls Tryz.prog 26 #[.pointer (some ⟨b, 0, none⟩)] w' (Got w' b A c l d s (p d i' out'))) :
    Calls Tryz.prog 101 #[.pointer (some ⟨b, 0, none⟩)] w (GotA w b A c l d s (Ex.allArgs l p d i out)) := by
  have HV := Lib.hid (allArgs_def l p d i out)
  have hlt := hP.lt
  have hn := next_any b A c l d i s out w hP
  generalize Ex.allArgs l p d i out = R at *
  by_cases h41 : Ex.nxt l i = [41]
  · have HR := Lib.hid (HV.out.trans (if_pos h41))
    have q1 := str_eq h41
    rw [h41] at q1 hn
    clear HV h41 hX
    go_enter Tryz.func101, Tryz.ntmps101
    go_wp2_with fail
    with_reducible refine hn.mono ?_
    clear hn
    rintro x w2 ⟨rfl, hb1⟩
    go_wp2_with fail
    go_ret2
    rw [HR.out]
    exact ⟨rfl, hP.below hb1, Fr.of hb1 hlt⟩
  · have HR := Lib.hid (HV.out.trans (if_neg h41))
    have q1 := str_ne h41
    generalize Ex.nxt l i = t at *
    clear HV h41
    go_enter Tryz.func101, Tryz.ntmps101
    go_wp2_with fail
    with_reducible refine hn.mono ?_
    clear hn
    rintro x w2 ⟨rfl, hb1⟩
    go_wp2_with fail
    go_loopw [4] (fun v wr => ∃ (m i' : Nat) (out' : List Ex.Op), 1 ≤ m ∧ m ≤ 8 ∧ i ≤ i' ∧ v = .int .i64 (m : Int) ∧ R = Ex.args l p d (10 - m) m i' out' ∧ PA wr b A c l d i' s out' ∧ Fr b b w wr) (fun v _ => 9 - (intOf v).toNat)
    case atStart => exact ⟨1, i, out, by omega, by omega, Nat.le_refl _, rfl, HR.out, hP.below hb1, Fr.of hb1 hlt⟩
    case round =>
      clear HR hb1 hP q1
      obtain ⟨m, i', out', hm1, hm2, hii, rfl, hR, hP, hB⟩ := hrel
      have HR := Lib.hid (hR.trans (by rw [show 10 - m = (9 - m) + 1 by omega, Ex.args_succ]))
      have hcall := hX i' out' wr hii hP
      have hfw := hp d i' out'
      clear hR
      generalize p d i' out' = r at *
      go_wp2_with fail
      with_reducible refine hcall.mono ?_
      clear hcall
      rintro x w3 ⟨rfl, hP3, hB3⟩
      replace hB := hB.trans hB3
      clear hB3 hP
      by_cases hr : r.e = 0
      · rw [hr] at hP3
        rw [sl_ok] at hP3
        have q3 : (r.e != 0) = false := by rw [hr]; rfl
        have q3n : (r.e == 0) = true := by rw [hr]; rfl
        have HR0 := Lib.hid hr
        have hn4 := next_any b A c l d r.i s r.out w3 hP3
        have HT3 := Lib.hid (HR.out.trans (if_pos hr))
        clear HR hr
        by_cases h44 : Ex.nxt l r.i = [44]
        · have hi4 := nxt_lt (l := l) (i := r.i) (by rw [h44]; decide)
          have HT4 := Lib.hid (HT3.out.trans (if_pos h44))
          have q5 := str_eq h44
          have q6 := str_eq' h44
          rw [h44] at q5 q6 hn4
          clear HT3 h44
          by_cases h8 : m = 8
          · have HT5 := Lib.hid (HT4.out.trans (if_pos h8))
            have t8 : ((m : Int) == 8) = true := by rw [h8]; rfl
            clear HT4 h8
            go_wp2_with fail
            with_reducible refine hn4.mono ?_
            clear hn4
            rintro x w4 ⟨rfl, hb4⟩
            go_wp2_with fail
            go_ret2
            rw [HT5.out]
            exact ⟨rfl, (hP3.below hb4).weak (Nat.zero_le _), hB.trans (Fr.of hb4 hP3.lt)⟩
          · have HT5 := Lib.hid (HT4.out.trans (if_neg h8))
            have t8 : ((m : Int) == 8) = false := by rw [beq_eq_false_iff_ne]; omega
            have hm8 : m ≤ 7 := by omega
            clear HT4 h8
            go_wp2_with fail
            with_reducible refine hn4.mono ?_
            clear hn4
            rintro x w4 ⟨rfl, hb4⟩
            have hP4 := hP3.below hb4
            have c1 := hP4.at_
            have f1 := hP4.frz 1
            have hP5 := hP4.setAt ((r.i : Int) + 1) (r.i + 1) s (by omega) (by omega) (by have := hP4.room; omega)
            have hB5 := (hB.trans (Fr.of hb4 hP3.lt)).trans (Fr.set hP4 1 (.int .i64 ((r.i : Int) + 1)))
            clear hP3 hP4 hB hb4
            go_wp2_with fail
            go_roundw
            case rel => exact ⟨m + 1, r.i + 1, r.out, by omega, by omega, by omega, by go_num, by rw [HT5.out, show 10 - (m + 1) = 9 - m by omega], hP5, hB5⟩
            case measure => simp [intOf]; omega
        · have HT4 := Lib.hid (HT3.out.trans (if_neg h44))
          have q5 := str_ne h44
          have q6 := str_ne' h44
          generalize Ex.nxt l r.i = t4 at *
          clear HT3 h44
          go_wp2_with fail
          with_reducible refine hn4.mono ?_
          clear hn4
          rintro x w4 ⟨rfl, hb4⟩
          go_wp2_with fail
          go_ret2
          rw [HT4.out]
          exact ⟨by rw [HR0.out]; rfl, by rw [HR0.out, sl_ok]; exact hP3.below hb4, hB.trans (Fr.of hb4 hP3.lt)⟩
      · have q3 : (r.e != 0) = true := by rw [bne_iff_ne]; exact hr
        have q3n : (r.e == 0) = false := by rw [beq_eq_false_iff_ne]; exact hr
        have HT := Lib.hid (HR.out.trans (if_neg hr))
        clear HR hr
        go_wp2_with fail
        go_ret2
        rw [HT.out]
        exact ⟨rfl, hP3, hB⟩
end Go.Proofs.YtndehkoglgakpaaGreatDoor
