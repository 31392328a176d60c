/- Few of the reference: what is true behind it; slices.Equal of one set. No condition but the lengths. -/
import Derived.Test.YtlablbibdkcifaaGreatDoorAwk
namespace Go.Proofs.YtlablbibdkcifaaGreatDoor
open Go.RowKit Go.Deep Tr

/-- A set as it comes in. -/
structure SetRaw (w : World) (A : Option Addr) (l : List Ls.Sp) : Prop where
  at_ : Ls.SpAt w w.heap.size A l
  len : l.length ≤ 140737488351232
theorem SetRaw.next {w w' : World} {A : Option Addr} {l : List Ls.Sp} (h : SetRaw w A l) (hb : Below w.heap.size w w') : SetRaw w' A l := ⟨h.at_.next hb, h.len⟩
def Few (l : List Ls.Sp) : Prop := l.length ≤ 12 ∧ ∀ s ∈ l, s.path.length ≤ 200
theorem SetRaw.set {w : World} {A : Option Addr} {l : List Ls.Sp} (h : SetRaw w A l) (hf : Few l) : SetAt w A l := ⟨h.at_, by have := hf.1; omega, fun s hs => by have := hf.2 s hs; omega⟩
def GotF (w : World) (P : Prop) : Ending → World → Prop := fun e w' => ∃ b, e = .returned (.bool b) ∧ (b = true → P) ∧ Below w.heap.size w w'
theorem take_all {α : Type} {P : α → Prop} (l : List α) (k : Nat) (h : k < l.length) (h0 : ∀ x ∈ l.take k, P x) (h1 : P l[k]) : ∀ x ∈ l.take (k + 1), P x := by
  intro x hx
  rw [List.take_succ_eq_append_getElem h] at hx
  rcases List.mem_append.1 hx with hx | hx
  · exact h0 x hx
  · rw [List.mem_singleton.1 hx]; exact h1
set_option maxHeartbeats 4000000 in
set_option maxRecDepth 100000 in
theorem few_any (l : List Ls.Sp) (A : Option Addr) (c : Nat) (w : World) (hR : SetRaw w A l) :
    Calls Tryz.prog 7 #[.slice A l.length c] w (GotF w (Few l)) := by
  have HAA := Lib.hid hR.at_
  have hll := hR.len
  clear hR
  by_cases h12 : 12 < l.length
  · have g1 : decide ((12 : Int) < (l.length : Int)) = true := decide_eq_true (by omega)
    have g1n : decide (12 < l.length) = true := decide_eq_true h12
    go_enter Tryz.func7, Tryz.ntmps7
    go_wp2_with fail
    first | go_ret2 | go_ret
    exact ⟨false, rfl, fun h => (by cases h), Below.refl _ _⟩
  · have g1 : decide ((12 : Int) < (l.length : Int)) = false := decide_eq_false (by omega)
    have g1n : decide (12 < l.length) = false := decide_eq_false h12
    go_enter Tryz.func7, Tryz.ntmps7
    go_wp2_with fail
    go_loopw [3] (fun v wr => ∃ k : Nat, k ≤ l.length ∧ v = .int .i64 k ∧ (∀ s ∈ l.take k, s.path.length ≤ 200) ∧ w = wr) (fun v _ => l.length - (intOf v).toNat)
    case atStart => exact ⟨0, by omega, rfl, fun s h => by simp at h, rfl⟩
    case round =>
      obtain ⟨k, hk, rfl, hall, rfl⟩ := hrel
      by_cases hlt : k < l.length
      · have b1 : decide ((k : Int) < (l.length : Int)) = true := decide_eq_true (by omega)
        have b1n : decide (k < l.length) = true := decide_eq_true hlt
        obtain ⟨g, o, rfl, hg, hc⟩ := HAA.out k hlt
        have hc0 := hc 0 _ rfl
        rw [Nat.add_zero] at hc0
        have HT := Lib.hid (fun h => take_all (P := fun s : Ls.Sp => s.path.length ≤ 200) l k hlt hall h)
        generalize l[k] = s at *
        have hz := str_size s.path
        clear hall hc
        by_cases h5 : 200 < s.path.length
        · have g2 : decide ((200 : Int) < ((str s.path).size : Int)) = true := decide_eq_true (by omega)
          have g2n : decide (200 < (str s.path).size) = true := decide_eq_true (by omega)
          clear hz
          go_wp2_with fail
          first | go_ret3 | go_ret2 | go_ret
          exact ⟨false, rfl, fun h => (by cases h), Below.refl _ _⟩
        · have g2 : decide ((200 : Int) < ((str s.path).size : Int)) = false := decide_eq_false (by omega)
          have g2n : decide (200 < (str s.path).size) = false := decide_eq_false (by omega)
          clear hz
          go_wp2_with fail
          go_roundw
          case rel => exact ⟨k + 1, by omega, by go_num, HT.out (by omega), by first | rfl | trivial⟩
          case measure => simp [intOf]; omega
      · have b1 : decide ((k : Int) < (l.length : Int)) = false := decide_eq_false (by omega)
        have b1n : decide (k < l.length) = false := decide_eq_false hlt
        rw [List.take_of_length_le (show l.length ≤ k by omega)] at hall
        have HT := Lib.hid (show Few l from ⟨by omega, hall⟩)
        clear hall
        go_wp2_with fail
        first | go_ret2 | go_ret
        exact ⟨true, rfl, fun _ => HT.out, Below.refl _ _⟩
set_option maxHeartbeats 4000000 in
set_option maxRecDepth 100000 in
theorem eq_true_any (A A' : Option Addr) (c c' : Nat) (l : List Ls.Sp) (w : World) (hA : Ls.SpAt w w.heap.size A l) (hA' : Ls.SpAt w w.heap.size A' l) (hl : l.length ≤ 1000000) :
    Calls Tryz.prog 16 #[.slice A l.length c, .slice A' l.length c'] w fun x w' => x = .returned (.bool true) ∧ Below w.heap.size w w' := by
  go_enter Tryz.func16, Tryz.ntmps16
  go_wp2_with fail
  go_loopw [13] (fun v wr => ∃ k : Nat, k ≤ l.length ∧ v = .int .i64 k ∧ Below w.heap.size w wr) (fun v _ => l.length - (intOf v).toNat)
  case atStart => exact ⟨0, by omega, rfl, Below.refl _ _⟩
  case round =>
    obtain ⟨k, hk, rfl, hb⟩ := hrel
    by_cases hlt : k < l.length
    · obtain ⟨g, o, rfl, hg, hc⟩ := hA k hlt
      obtain ⟨g', o', rfl, hg', hc'⟩ := hA' k hlt
      have hd0 := (hb.cell (p := ⟨g, o + k * 3, none⟩) hg).trans (hc 0 _ rfl)
      have hd1 := (hb.cell (p := ⟨g, o + k * 3 + 1, none⟩) hg).trans (hc 1 _ rfl)
      have hd2 := (hb.cell (p := ⟨g, o + k * 3 + 2, none⟩) hg).trans (hc 2 _ rfl)
      have hd0' := (hb.cell (p := ⟨g', o' + k * 3, none⟩) hg').trans (hc' 0 _ rfl)
      have hd1' := (hb.cell (p := ⟨g', o' + k * 3 + 1, none⟩) hg').trans (hc' 1 _ rfl)
      have hd2' := (hb.cell (p := ⟨g', o' + k * 3 + 2, none⟩) hg').trans (hc' 2 _ rfl)
      clear hc hc' hA hA'
      have hki : (k : Int) < (l.length : Int) := by omega
      go_upto_region 6 with (fail)
      generalize l[k] = s at *
      go_quiet (fail)
      have hb2 := below_drewN hb nq
      generalize wr.drewN nq = w2 at *
      clear hd0 hd1 hd2 hd0' hd1' hd2' hb
      go_wp2_with fail
      go_roundw
      case rel => exact ⟨k + 1, by omega, by go_num, hb2⟩
      case measure => simp [intOf]; omega
    · have hki : decide ((k : Int) < (l.length : Int)) = false := by simp; omega
      go_wp2_with fail
      go_ret
      exact ⟨rfl, hb⟩
end Go.Proofs.YtlablbibdkcifaaGreatDoor
