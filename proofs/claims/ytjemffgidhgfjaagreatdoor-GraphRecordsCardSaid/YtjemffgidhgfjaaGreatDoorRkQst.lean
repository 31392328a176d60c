/- step and Check of the reference. -/
import Derived.Test.YtjemffgidhgfjaaGreatDoorMz6
namespace Go.Proofs.YtjemffgidhgfjaaGreatDoor.Rk
open Go.RowKit Go.Deep Tr
theorem qstep_any (r : List Dn) (i : Nat) (hi : i < r.length) (A : Option Addr) (c : Nat) (w : World) (hA : RcAt w A r) (hS : Sht r) :
    Calls Tryz.prog 73 #[.slice A r.length c, .int .i64 i] w fun e w' => e = .returned (.int .i64 (Rc.stepE r i r[i])) ∧ Below w.heap.size w w' := by
  cases hR : (Rc.isF r[i].pkg 0 15 && Rc.isF r[i].lin 0 1023 && Rc.isF r[i].knd 1 8) with
  | false => exact qstep_h r i hi A c w hA hS hR
  | true =>
    by_cases h0 : 0 < i
    · cases ho : Rc.ordE r i r[i] with
      | true => exact qstep_o r i hi A c w hA hS hR h0 ho
      | false =>
        have hj : i - 1 < r.length := by omega
        have hg := List.getElem?_eq_getElem hj
        by_cases hp : r[i].pkg = (r[i - 1]'hj).pkg
        · exact qstep_s r i hi A c w hA hS hR h0 ho fun b hb => by rw [hg] at hb; injection hb with hb; rw [← hb]; exact hp
        · exact qstep_l r i hi A c w hA hS hR h0 ho fun b hb => by rw [hg] at hb; injection hb with hb; rw [← hb]; exact hp
    · exact qstep_0 r i hi A c w hA hS hR (by omega)
set_option maxHeartbeats 4000000 in
set_option maxRecDepth 100000 in
theorem qcheck_any (r : List Dn) (A : Option Addr) (c : Nat) (w : World) (hA : RcAt w A r) (hS : r.length ≤ 1024 → Sht r) :
    Calls Tryz.prog 33 #[.slice A r.length c] w fun e w' => e = .returned (.int .i64 (Rc.chk r)) ∧ Below w.heap.size w w' := by
  have HA := Lib.hid hA
  have hrl := hA.rl
  clear hA
  by_cases h1 : 1024 < r.length
  · have b1 : decide ((1024 : Int) < (r.length : Int)) = true := decide_eq_true (by omega)
    have b1n : decide (1024 < r.length) = true := decide_eq_true h1
    have HT := Lib.hid (Rc.chk_big h1)
    clear h1 hS
    go_enter Tryz.func33, Tryz.ntmps33
    go_wp2_with fail
    first | go_ret3 | go_ret2 | go_ret
    exact ⟨by rw [HT.out]; rfl, Below.refl _ _⟩
  have b1 : decide ((1024 : Int) < (r.length : Int)) = false := decide_eq_false (by omega)
  have b1n : decide (1024 < r.length) = false := decide_eq_false h1
  have hL : r.length ≤ 1024 := by omega
  have HS := Lib.hid (hS hL)
  have HL := Lib.hid hL
  obtain ⟨V, hV⟩ : ∃ V, V = Rc.chk r := ⟨_, rfl⟩
  rw [← hV]
  have HV := Lib.hid hV
  clear h1 hS hV
  go_enter Tryz.func33, Tryz.ntmps33
  go_wp2_with fail
  go_loopw [3] (fun s2 wr => ∃ k : Nat, s2 = .int .i64 k ∧ k ≤ r.length ∧ (∀ j (h : j < r.length), j < k → Rc.stepE r j r[j] = 0) ∧ Below w.heap.size w wr) (fun s2 _ => r.length - (intOf s2).toNat)
  case atStart => exact ⟨0, rfl, Nat.zero_le _, fun j _ h => (by omega), Below.refl _ _⟩
  case round =>
    obtain ⟨k, rfl, hk, hall, hb⟩ := hrel
    have HAL := Lib.hid hall
    have HB := Lib.hid hb
    clear hall
    by_cases hlt : k < r.length
    · have c1 : decide ((k : Int) < (r.length : Int)) = true := decide_eq_true (by omega)
      have c1n : decide (k < r.length) = true := decide_eq_true hlt
      have cc := qstep_any r k hlt A c wr (HA.out.next hb) HS.out
      have HY := Lib.hid (fun (h : Rc.stepE r k r[k] ≠ 0) => HV.out.trans (Rc.chk_step HL.out hlt (fun j hj => HAL.out j (by omega) hj) h))
      have HN := Lib.hid (fun (h : Rc.stepE r k r[k] = 0) j (hj : j < r.length) (hjk : j < k + 1) => show Rc.stepE r j r[j] = 0 by
        by_cases e : j = k
        · subst e; exact h
        · exact HAL.out j hj (by omega))
      generalize Rc.stepE r k r[k] = E at *
      clear hb
      go_wp2_with fail
      with_reducible refine cc.mono ?_
      clear cc
      rintro e w5 ⟨rfl, hb5⟩
      have HB5 := Lib.hid (HB.out.trans (hb5.mono HB.out.size))
      clear hb5
      by_cases he : E = 0
      · have HQ := Lib.hid (HN.out he)
        subst he
        clear HY HN
        go_wp2_with fail
        go_roundw
        case rel => exact ⟨k + 1, by go_num, by omega, HQ.out, HB5.out⟩
        case measure => simp [intOf]; omega
      · have HQ := Lib.hid (HY.out he)
        have q1 : (E == 0) = false := by rw [beq_eq_false_iff_ne]; exact he
        have q2 : (E != 0) = true := by rw [bne_iff_ne]; exact he
        clear HY HN
        go_wp2_with fail
        first | go_ret3 | go_ret2 | go_ret
        exact ⟨by rw [HQ.out]; rfl, HB5.out⟩
    · have c1 : decide ((k : Int) < (r.length : Int)) = false := decide_eq_false (by omega)
      have c1n : decide (k < r.length) = false := decide_eq_false hlt
      have HQ := Lib.hid (HV.out.trans (Rc.chk_zero HL.out fun j hj => HAL.out j hj (by omega)))
      clear hb
      go_wp2_with fail
      first | go_ret3 | go_ret2 | go_ret
      exact ⟨by rw [HQ.out]; rfl, HB.out⟩
end Go.Proofs.YtjemffgidhgfjaaGreatDoor.Rk
