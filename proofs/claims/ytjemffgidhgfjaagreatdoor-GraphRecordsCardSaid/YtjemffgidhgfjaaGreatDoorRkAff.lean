/- Affected. -/
import Derived.Test.YtjemffgidhgfjaaGreatDoorMz5
namespace Go.Proofs.YtjemffgidhgfjaaGreatDoor.Rk
open Go.RowKit Go.Deep Go.Maps Tr

namespace Rc
def hitB (C : List (List UInt8)) (s : Dn) : Bool := s.rds.any fun t => C.contains t.pth
/-- The changed paths and the affected steps of the first k. -/
def aft (r : List Dn) (ps : List (List UInt8)) : Nat → List (List UInt8) × List Nat
  | 0 => (ps, [])
  | k + 1 => match r[k]? with | some s => if hitB (aft r ps k).1 s then ((aft r ps k).1 ++ [s.wr.pth], (aft r ps k).2 ++ [k]) else aft r ps k | none => aft r ps k
theorem aft_succ {r : List Dn} {ps : List (List UInt8)} {k : Nat} {s : Dn} (h : r[k]? = some s) : aft r ps (k + 1) = if hitB (aft r ps k).1 s then ((aft r ps k).1 ++ [s.wr.pth], (aft r ps k).2 ++ [k]) else aft r ps k := by
  show (match r[k]? with | some s => if hitB (aft r ps k).1 s then ((aft r ps k).1 ++ [s.wr.pth], (aft r ps k).2 ++ [k]) else aft r ps k | none => aft r ps k) = _
  rw [h]
theorem aft_len (r : List Dn) (ps : List (List UInt8)) : ∀ k, (aft r ps k).2.length ≤ k
  | 0 => Nat.le_refl _
  | k + 1 => by
    have ih := aft_len r ps k
    cases h : r[k]? with
    | none =>
      have : aft r ps (k + 1) = aft r ps k := by
        show (match r[k]? with | some s => if hitB (aft r ps k).1 s then ((aft r ps k).1 ++ [s.wr.pth], (aft r ps k).2 ++ [k]) else aft r ps k | none => aft r ps k) = _
        rw [h]
      rw [this]; omega
    | some s =>
      rw [aft_succ h]
      by_cases hh : hitB (aft r ps k).1 s = true
      · rw [if_pos hh]; simp; omega
      · rw [if_neg hh]; omega
theorem any_take {α : Type} (p : α → Bool) (l : List α) (k : Nat) (hk : k < l.length) (h : (l.take k).any p = false) (h2 : p l[k] = false) : (l.take (k + 1)).any p = false := by
  rw [List.take_succ_eq_append_getElem hk, List.any_append, h]
  simp [h2]
theorem any_full {α : Type} (p : α → Bool) (l : List α) (k : Nat) (hk : ¬ k < l.length) (h : (l.take k).any p = false) : l.any p = false := by
  rwa [List.take_of_length_le (by omega)] at h
theorem any_hit {α : Type} (p : α → Bool) (l : List α) (k : Nat) (hk : k < l.length) (h : p l[k] = true) : l.any p = true := List.any_eq_true.2 ⟨l[k], List.getElem_mem hk, h⟩
end Rc
theorem zBool (w : World) : (zeroValue 4).run Tryz.prog w = .ok (.bool false) w := by kernel_rfl
/-- What the map of the changed paths says. -/
def cF (C : List (List UInt8)) (p : List UInt8) : Option Value := if C.contains p then some (.bool true) else none
/-- The variable in which the map of the changed paths lies. -/
structure CgAt (w : World) (fb b n : Nat) (C : List (List UInt8)) : Prop where
  var : w.heap[fb]? = some (.cells #[.map (some b)] 91 (0, 0))
  mp : Mp w b n (cF C)
theorem CgAt.next {w w' : World} {fb b n : Nat} {C : List (List UInt8)} (h : CgAt w fb b n C) (hb : Below w.heap.size w w') : CgAt w' fb b n C := ⟨(hb.block _ (blk_lt h.var)).trans h.var, h.mp.next hb⟩
set_option maxHeartbeats 2000000 in
set_option maxRecDepth 100000 in
theorem aff1_any (t : Tch) (fb b n : Nat) (C : List (List UInt8)) (w : World) (h : CgAt w fb b n C) (hp : t.pth.length ≤ 100000000) :
    Calls Tryz.prog 55 #[tcA t, .pointer (some ⟨fb, 0, none⟩)] w fun e w' => e = .returned (.bool (C.contains t.pth)) ∧ Below w.heap.size w w' := by
  rw [tcA_def]
  have hba : Below w.heap.size w (w.alloc (tcO t)) := (Below.refl _ _).alloc (Nat.le_refl _) _
  have h2 := h.next hba
  have f0 : (w.alloc (tcO t)).cell? ⟨fb, 0, none⟩ = some (.map (some b)) := by rw [cell_of_row _ _ _ _ _ _ h2.var]; rfl
  have hl := h2.mp.get Tryz.underlying91 (zBool _) t.pth (by unfold maxLen; omega)
  have hv : (cF C t.pth).getD (.bool false) = .bool (C.contains t.pth) := by
    unfold cF
    cases C.contains t.pth <;> rfl
  rw [hv] at hl
  have HB := Lib.hid hba
  clear h h2 hba hv
  generalize C.contains t.pth = V at *
  go_enter Tryz.func55, Tryz.ntmps55
  go_wp2_with fail
  go_ret
  exact ⟨rfl, HB.out⟩
set_option maxHeartbeats 4000000 in
set_option maxRecDepth 100000 in
theorem indexAff_any (l : List Tch) (fb b n : Nat) (C : List (List UInt8)) (A0 : Option Addr) (c0 : Nat) (w : World) (hA : Rc.TcAt w w.heap.size A0 l) (hl : l.length ≤ 100000) (h : CgAt w fb b n C) (hs : ∀ t ∈ l, t.pth.length ≤ 100000000) :
    Calls Tryz.prog 81 #[.slice A0 l.length c0, .func (.func 55) #[] #[.pointer (some ⟨fb, 0, none⟩)]] w fun e w' => ∃ n : Int, e = .returned (.int .i64 n) ∧ l.any (fun t => C.contains t.pth) = decide (0 ≤ n) ∧ Below w.heap.size w w' := by
  have HAA := Lib.hid hA
  have HC := Lib.hid h
  have HS := Lib.hid hs
  clear hA h hs
  go_enter Tryz.func81, Tryz.ntmps81
  go_wp2_with fail
  go_loopw [8] (fun s8 wr => ∃ k : Nat, s8 = .int .i64 k ∧ k ≤ l.length ∧ (l.take k).any (fun t => C.contains t.pth) = false ∧ Below w.heap.size w wr) (fun s8 _ => l.length - (intOf s8).toNat)
  case atStart => exact ⟨0, rfl, by omega, by simp, Below.refl _ _⟩
  case round =>
    obtain ⟨k, rfl, hk, hall, hb⟩ := hrel
    have HAL := Lib.hid hall
    clear hall
    by_cases hlt : k < l.length
    · have b1 : decide ((k : Int) < (l.length : Int)) = true := decide_eq_true (by omega)
      have b1n : decide (k < l.length) = true := decide_eq_true hlt
      have y2 : (k : Int) < (l.length : Int) := by omega
      obtain ⟨g0, o, rfl, hg, hc⟩ := HAA.out k hlt
      have hd0 := (hb.cell (p := ⟨g0, o + k * 2 + 0, none⟩) hg).trans (hc 0 _ rfl)
      have hd1 := (hb.cell (p := ⟨g0, o + k * 2 + 1, none⟩) hg).trans (hc 1 _ rfl)
      rw [show o + k * 2 + 0 = o + k * 2 from rfl] at hd0
      clear hc
      have HTK := Lib.hid (show C.contains l[k].pth = false → (l.take (k + 1)).any (fun t => C.contains t.pth) = false from fun h => Rc.any_take (fun t : Tch => C.contains t.pth) l k hlt HAL.out h)
      have HHT := Lib.hid (show C.contains l[k].pth = true → l.any (fun t => C.contains t.pth) = true from fun h => Rc.any_hit (fun t : Tch => C.contains t.pth) l k hlt h)
      have hp := HS.out l[k] (List.getElem_mem hlt)
      generalize l[k] = x at *
      have cc := aff1_any x fb b n C wr (HC.out.next hb) hp
      rw [tcA_def] at cc
      generalize hv : C.contains x.pth = v at *
      cases v with
      | false =>
        have HN := Lib.hid (HTK.out rfl)
        clear HTK HHT hv
        go_wp2_with fail
        with_reducible refine cc.mono ?_
        clear cc
        rintro e w4 ⟨rfl, hb4⟩
        have HB3 := Lib.hid (hb.trans (hb4.mono hb.size))
        clear hb4 hb hd0 hd1
        go_wp2_with fail
        go_roundw
        case rel => exact ⟨k + 1, by go_num, by omega, HN.out, HB3.out⟩
        case measure => simp [intOf]; omega
      | true =>
        have HN := Lib.hid (HHT.out rfl)
        clear HTK HHT hv
        go_wp2_with fail
        with_reducible refine cc.mono ?_
        clear cc
        rintro e w4 ⟨rfl, hb4⟩
        have HB3 := Lib.hid (hb.trans (hb4.mono hb.size))
        clear hb4 hb hd0 hd1
        go_wp2_with fail
        first | go_ret2 | go_ret
        exact ⟨k, rfl, by rw [HN.out]; exact (decide_eq_true (by omega)).symm, HB3.out⟩
    · have b1 : decide ((k : Int) < (l.length : Int)) = false := decide_eq_false (by omega)
      have b1n : decide (k < l.length) = false := decide_eq_false hlt
      have HN := Lib.hid (Rc.any_full _ l k hlt HAL.out)
      have HB := Lib.hid hb
      clear hb
      go_wp2_with fail
      go_ret
      exact ⟨-1, rfl, by rw [HN.out]; rfl, HB.out⟩
set_option maxHeartbeats 2000000 in
set_option maxRecDepth 100000 in
theorem containsAff_any (l : List Tch) (fb b n : Nat) (C : List (List UInt8)) (A0 : Option Addr) (c0 : Nat) (w : World) (hA : Rc.TcAt w w.heap.size A0 l) (hl : l.length ≤ 100000) (h : CgAt w fb b n C) (hs : ∀ t ∈ l, t.pth.length ≤ 100000000) :
    Calls Tryz.prog 54 #[.slice A0 l.length c0, .func (.func 55) #[] #[.pointer (some ⟨fb, 0, none⟩)]] w fun e w' => e = .returned (.bool (l.any fun t => C.contains t.pth)) ∧ Below w.heap.size w w' := by
  have cc := indexAff_any l fb b n C A0 c0 w hA hl h hs
  generalize l.any (fun t => C.contains t.pth) = V at *
  clear hA h hs
  go_enter Tryz.func54, Tryz.ntmps54
  go_wp2_with fail
  with_reducible refine cc.mono ?_
  clear cc
  rintro e w1 ⟨n, rfl, hn, hb⟩
  have HB := Lib.hid hb
  clear hb
  subst hn
  go_wp2_with fail
  go_ret
  exact ⟨rfl, HB.out⟩
end Go.Proofs.YtjemffgidhgfjaaGreatDoor.Rk
