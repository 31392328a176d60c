/- The rightmost least place (both sides), Least, and Select of the reference. No condition but the lengths. -/
import Derived.Test.YtkmldaelgbkfbaaDoorGot
namespace Go.Proofs.YtkmldaelgbkfbaaDoor
open Go.RowKit Go.Deep
namespace Wn
theorem in_at {w : World} {B : Nat} {A : Option Addr} {l : List Int} (h : Gr.InAt w B A l) (h0 : 0 < l.length) : ∃ g o, A = some ⟨g, o, none⟩ ∧ g < B ∧ ∀ j, j < l.length → w.cell? ⟨g, o + j, none⟩ = some (.int .i64 (l.getD j 0)) := by
  obtain ⟨g, o, rfl, hg, hc⟩ := h.row h0
  exact ⟨g, o, rfl, hg, in_zs h⟩
set_option maxHeartbeats 8000000 in
set_option maxRecDepth 100000 in
theorem qleast_any (l : List Int) (f n : Nat) (A : Option Addr) (c : Nat) (w : World) (hA : Gr.InAt w w.heap.size A l) (hl : l.length ≤ 100000) (hn : 0 < n) (hf : f + n ≤ l.length) :
    Calls Tryd.prog 37 #[.slice A l.length c, .int .i64 f, .int .i64 ((f + n : Nat) : Int)] w fun e w' => e = .returned (.int .i64 (lst l f n : Int)) ∧ Below w.heap.size w w' := by
  obtain ⟨g, o, rfl, hg, hc⟩ := in_at hA (by omega)
  obtain ⟨t, ht⟩ : ∃ t, t = f + n := ⟨_, rfl⟩
  rw [← ht]
  have HT := Lib.hid ht
  have HC := Lib.hid hc
  have HF := Lib.hid hf
  clear hc hf hA ht
  go_enter Tryd.func37, Tryd.ntmps37
  go_wp2_with fail
  go_loopw [7, 8] (fun s7 s8 wr => ∃ i : Nat, s8 = .int .i64 ((f + i : Nat) : Int) ∧ i ≤ n ∧ s7 = .int .i64 (lst l f i : Int) ∧ Below w.heap.size w wr) (fun _ s8 _ => t - (intOf s8).toNat)
  case atStart => exact ⟨0, rfl, by omega, rfl, Below.refl _ _⟩
  case round =>
    obtain ⟨i, rfl, hi, rfl, hb⟩ := hrel
    have hft := HT.out
    by_cases hlt : i < n
    · have hlf := HF.out
      obtain ⟨p, hp⟩ : ∃ p, p = f + i := ⟨_, rfl⟩
      have hm : lst l f i ≤ p := by
        rcases Nat.eq_zero_or_pos i with h0 | h0
        · subst h0; unfold lst; omega
        · have := (lst_of (l := l) (f := f) h0).lt; omega
      have b1 : decide ((p : Int) < (t : Int)) = true := decide_eq_true (by omega)
      have b1n : decide (p < t) = true := decide_eq_true (by omega)
      have HN := Lib.hid (show lst l f (i + 1) = if l.getD p 0 ≤ l.getD (lst l f i) 0 then p else lst l f i by rw [hp]; rfl)
      have HP := Lib.hid (show p + 1 = f + (i + 1) by omega)
      have e1 := (hb.cell (p := ⟨g, o + p, none⟩) hg).trans (HC.out p (by omega))
      have e2 := (hb.cell (p := ⟨g, o + lst l f i, none⟩) hg).trans (HC.out (lst l f i) (by omega))
      have y1 : (p : Int) < (l.length : Int) := by omega
      have y2 : (lst l f i : Int) < (l.length : Int) := by omega
      have HK := Lib.hid (show i + 1 ≤ n ∧ p < t from ⟨by omega, by omega⟩)
      rw [← hp]
      generalize lst l f i = m at *
      generalize hzp : l.getD p 0 = zp at *
      generalize hzm : l.getD m 0 = zm at *
      have HB := Lib.hid hb
      clear hp hft hlt hi hm hlf hb hzp hzm
      by_cases hle : zp ≤ zm
      · have d1 : decide (zp ≤ zm) = true := decide_eq_true hle
        have HR := Lib.hid (HN.out.trans (if_pos hle))
        clear HN hle
        go_wp2_with fail
        go_region
        go_wp2_with fail
        go_roundw
        case rel => exact ⟨i + 1, by rw [← HP.out]; go_num, HK.out.1, by rw [HR.out], by have := HB.out; exact ⟨this.os, this.tape, this.output, this.size, this.block⟩⟩
        case measure => have := HK.out; simp [intOf]; omega
      · have d1 : decide (zp ≤ zm) = false := decide_eq_false hle
        have HR := Lib.hid (HN.out.trans (if_neg hle))
        clear HN hle
        go_wp2_with fail
        go_region
        go_wp2_with fail
        go_roundw
        case rel => exact ⟨i + 1, by rw [← HP.out]; go_num, HK.out.1, by rw [HR.out], by have := HB.out; exact ⟨this.os, this.tape, this.output, this.size, this.block⟩⟩
        case measure => have := HK.out; simp [intOf]; omega
    · obtain ⟨p, hp⟩ : ∃ p, p = f + i := ⟨_, rfl⟩
      have b1 : decide ((p : Int) < (t : Int)) = false := decide_eq_false (by omega)
      have b1n : decide (p < t) = false := decide_eq_false (by omega)
      have HI := Lib.hid (show lst l f i = lst l f n by rw [show i = n by omega])
      rw [← hp]
      generalize lst l f i = m at *
      have HB := Lib.hid hb
      clear hp hb hft hlt hi
      go_wp2_with fail
      go_ret
      exact ⟨by rw [HI.out]; rfl, HB.out⟩
/-- What Least returns. -/
def leaI (l : List Int) (a b : Int) : Int := if 0 ≤ a ∧ a < b ∧ b ≤ l.length then (lst l a.toNat (b.toNat - a.toNat) : Int) else 0
def leaE (l : List Int) (a b : Int) : Int := if 0 ≤ a ∧ a < b ∧ b ≤ l.length then 0 else 3
end Wn
end Go.Proofs.YtkmldaelgbkfbaaDoor
