/- Diverge. -/
import Derived.Test.YtkgnbjhgdjmfdaaDoorDiv
namespace Go.Proofs.YtkgnbjhgdjmfdaaDoor
open Go.RowKit Go.Deep Tr

/-- n is the first step at which two records differ. -/
def DivP (a b : List Dn) (n : Int) : Prop := ∃ i : Nat, i ≤ a.length ∧ i ≤ b.length ∧ (∀ j x y, j < i → a[j]? = some x → b[j]? = some y → sameB x y = true) ∧ (∀ x y, a[i]? = some x → b[i]? = some y → sameB x y = false) ∧ n = if i = a.length ∧ i = b.length then -1 else (i : Int)
theorem DivP.uniq {a b : List Dn} {n m : Int} (h : DivP a b n) (h' : DivP a b m) : n = m := by
  have key : ∀ i i' : Nat, i < i' → i' ≤ a.length → i' ≤ b.length → (∀ j x y, j < i' → a[j]? = some x → b[j]? = some y → sameB x y = true) → (∀ x y, a[i]? = some x → b[i]? = some y → sameB x y = false) → False := fun i i' hi h1 h2 h3 h4 => by
    have h5 := h3 i a[i] b[i] hi (List.getElem?_eq_getElem (by omega)) (List.getElem?_eq_getElem (by omega))
    rw [h4 a[i] b[i] (List.getElem?_eq_getElem (by omega)) (List.getElem?_eq_getElem (by omega))] at h5
    cases h5
  obtain ⟨i, h1, h2, h3, h4, rfl⟩ := h
  obtain ⟨i', h1', h2', h3', h4', rfl⟩ := h'
  have : i = i' := by
    rcases Nat.lt_trichotomy i i' with hlt | he | hgt
    · exact (key i i' hlt h1' h2' h3' h4).elim
    · exact he
    · exact (key i' i hgt h1 h2 h3 h4').elim
  rw [this]
set_option maxHeartbeats 4000000 in
set_option maxRecDepth 100000 in
theorem diverge_any (a b : List Dn) (A B : Option Addr) (c d : Nat) (w : World) (hA : RcAt w A a) (hB : RcAt w B b) :
    Calls Tryd.prog 21 #[.slice A a.length c, .slice B b.length d] w fun e w' => (∃ n, e = .returned (.int .i64 n) ∧ DivP a b n) ∧ Below w.heap.size w w' := by
  have HA := Lib.hid hA
  have HB := Lib.hid hB
  have hra := hA.rl
  have hrb := hB.rl
  obtain ⟨m, hm, hma, hmb, hmab⟩ : ∃ m : Nat, min (a.length : Int) (b.length : Int) = (m : Int) ∧ m ≤ a.length ∧ m ≤ b.length ∧ (m = a.length ∨ m = b.length) := ⟨min a.length b.length, by omega, by omega, by omega, by omega⟩
  clear hA hB
  go_enter Tryd.func21, Tryd.ntmps21
  go_wp2_with fail
  clear hm
  go_loopw [13] (fun s13 wr => ∃ k : Nat, s13 = .int .i64 k ∧ k ≤ m ∧ (∀ j x y, j < k → a[j]? = some x → b[j]? = some y → sameB x y = true) ∧ Below w.heap.size w wr) (fun s13 _ => m - (intOf s13).toNat)
  case atStart => exact ⟨0, rfl, Nat.zero_le _, fun j _ _ h => by omega, Below.refl _ _⟩
  case round =>
    obtain ⟨k, rfl, hk, hall, hb⟩ := hrel
    have HAL := Lib.hid hall
    clear hall
    by_cases hlt : k < m
    · have c1 : decide ((k : Int) < (m : Int)) = true := decide_eq_true (by omega)
      have c1n : decide (k < m) = true := decide_eq_true hlt
      have y1 : (k : Int) < (a.length : Int) := by omega
      have y2 : (k : Int) < (b.length : Int) := by omega
      have hla : k < a.length := by omega
      have hlb : k < b.length := by omega
      obtain ⟨g, o, rfl, hg, hc⟩ := (HA.out.next hb).st k hla
      obtain ⟨g', o', rfl, hg', hc'⟩ := (HB.out.next hb).st k hlb
      have hd0 := hc 0 _ rfl
      have hd1 := hc 1 _ rfl
      have hd2 := hc 2 _ rfl
      have hd3 := hc 3 _ rfl
      have hd4 := hc 4 _ rfl
      have hd5 := hc 5 _ rfl
      rw [show o + k * 6 + 0 = o + k * 6 from rfl] at hd0
      have he0 := hc' 0 _ rfl
      have he1 := hc' 1 _ rfl
      have he2 := hc' 2 _ rfl
      have he3 := hc' 3 _ rfl
      have he4 := hc' 4 _ rfl
      have he5 := hc' 5 _ rfl
      rw [show o' + k * 6 + 0 = o' + k * 6 from rfl] at he0
      clear hc hc'
      have hma2 := List.getElem_mem hla
      have hmb2 := List.getElem_mem hlb
      have cc := isSame_any a[k] b[k] wr.drew ((HA.out.next hb.drew).rd _ hma2) ((HB.out.next hb.drew).rd _ hmb2) (HA.out.tl _ hma2) (HB.out.tl _ hmb2)
      rw [dnA_def, dnA_def] at cc
      have HX := Lib.hid (show a[k]? = some a[k] from List.getElem?_eq_getElem hla)
      have HY := Lib.hid (show b[k]? = some b[k] from List.getElem?_eq_getElem hlb)
      clear hma2 hmb2
      generalize a[k] = x at *
      generalize b[k] = y at *
      cases hv : sameB x y with
      | true =>
        rw [hv] at cc
        have HN := Lib.hid (show ∀ j x y, j < k + 1 → a[j]? = some x → b[j]? = some y → sameB x y = true from fun j x' y' hj hx hy => by
          by_cases e : j = k
          · subst e
            rw [HX.out] at hx
            rw [HY.out] at hy
            cases hx; cases hy; exact hv
          · exact HAL.out j x' y' (by omega) hx hy)
        clear hv
        have HBD := Lib.hid hb.drew
        clear hb
        go_upto_region 5 with (fail)
        go_region_with (go_at_call 41; (with_reducible refine cc.mono ?_); rintro e w4 ⟨rfl, hb4⟩; have HB4 := Lib.hid (HBD.out.trans (hb4.mono HBD.out.size)); clear hb4)
        all_goals
          clear hd0 hd1 hd2 hd3 hd4 hd5 he0 he1 he2 he3 he4 he5
          go_wp2_with fail
          go_roundw
          case rel => exact ⟨k + 1, by go_num, by omega, HN.out, HB4.out⟩
          case measure => simp [intOf]; omega
      | false =>
        rw [hv] at cc
        have HD := Lib.hid (show DivP a b (k : Int) from ⟨k, by omega, by omega, HAL.out, fun x' y' hx hy => by
          rw [HX.out] at hx
          rw [HY.out] at hy
          cases hx; cases hy; exact hv, by rw [if_neg (by omega)]⟩)
        clear hv
        have HBD := Lib.hid hb.drew
        clear hb
        go_upto_region 5 with (fail)
        go_region_with (go_at_call 41; (with_reducible refine cc.mono ?_); rintro e w4 ⟨rfl, hb4⟩; have HB4 := Lib.hid (HBD.out.trans (hb4.mono HBD.out.size)); clear hb4)
        all_goals
          clear hd0 hd1 hd2 hd3 hd4 hd5 he0 he1 he2 he3 he4 he5
          go_wp2_with fail
          first | go_ret2 | go_ret
          exact ⟨⟨_, rfl, HD.out⟩, HB4.out⟩
    · have c1 : decide ((k : Int) < (m : Int)) = false := decide_eq_false (by omega)
      have c1n : decide (k < m) = false := decide_eq_false hlt
      have hkm : k = m := by omega
      have HB4 := Lib.hid hb
      have hnone : ∀ x y, a[m]? = some x → b[m]? = some y → sameB x y = false := fun x y hx hy => by
        have h1 := (List.getElem?_eq_some_iff.1 hx).1
        have h2 := (List.getElem?_eq_some_iff.1 hy).1
        omega
      subst hkm
      clear hb
      by_cases hl : a.length = b.length
      · have q1 : ((a.length : Int) == (b.length : Int)) = true := by rw [beq_iff_eq]; omega
        have HD := Lib.hid (show DivP a b (-1) from ⟨k, by omega, by omega, HAL.out, hnone, by rw [if_pos (by omega)]⟩)
        clear hl hmab hnone
        go_wp2_with fail
        go_ret
        exact ⟨⟨_, rfl, HD.out⟩, HB4.out⟩
      · have q1 : ((a.length : Int) == (b.length : Int)) = false := by rw [beq_eq_false_iff_ne]; omega
        have HD := Lib.hid (show DivP a b (k : Int) from ⟨k, by omega, by omega, HAL.out, hnone, by rw [if_neg (by omega)]⟩)
        clear hl hmab hnone
        go_wp2_with fail
        go_ret
        exact ⟨⟨_, rfl, HD.out⟩, HB4.out⟩
end Go.Proofs.YtkgnbjhgdjmfdaaDoor
