/- wrote, Writer of the reference. No condition but the lengths. -/
import Derived.Test.YtkgnbjhgdjmfdaaDoorQst
import Derived.Test.YtkgnbjhgdjmfdaaDoorNdp
namespace Go.Proofs.YtkgnbjhgdjmfdaaDoor
open Go.RowKit Go.Deep Tr

namespace Rc
/-- The first step that writes a path. -/
def fw (r : List Dn) (p : List UInt8) : Int := match r.findIdx? (fun s => s.wr.pth == p) with | some i => (i : Int) | none => -1
theorem fw_some {r : List Dn} {k : Nat} {p : List UInt8} (hk : k < r.length) (hb : (r.take k).any (fun s => s.wr.pth == p) = false) (h : (r[k].wr.pth == p) = true) : fw r p = (k : Int) := by
  have e : r.findIdx? (fun s => s.wr.pth == p) = some k := by
    rw [List.findIdx?_eq_some_iff_getElem]
    refine ⟨hk, h, fun j hj => ?_⟩
    intro hc
    have : (r.take k).any (fun s => s.wr.pth == p) = true := List.any_eq_true.2 ⟨r[j]'(by omega), List.mem_take_iff_getElem.2 ⟨j, by omega, rfl⟩, hc⟩
    rw [hb] at this; cases this
  unfold fw
  rw [e]
theorem fw_none {r : List Dn} {p : List UInt8} (hb : r.any (fun s => s.wr.pth == p) = false) : fw r p = -1 := by
  have e : r.findIdx? (fun s => s.wr.pth == p) = none := by
    rw [List.findIdx?_eq_none_iff]
    intro t ht
    cases h : (t.wr.pth == p) with
    | false => rfl
    | true => rw [List.any_eq_true.2 ⟨t, ht, h⟩] at hb; cases hb
  unfold fw
  rw [e]
/-- No path is written twice. -/
theorem wr_uniq {r : List Dn} (hc : chk r = 0) {i j : Nat} {s s' : Dn} (hji : j < i) (hi : r[i]? = some s) (hj : r[j]? = some s') (h : s'.wr.pth = s.wr.pth) : False := by
  obtain ⟨_, hst⟩ := zero_chk hc
  obtain ⟨hil, e1⟩ := List.getElem?_eq_some_iff.1 hi
  have hz := hst i hil
  rw [e1] at hz
  have hk : s.rds.length < (tcs s).length := by rw [tcs_len]; omega
  have h2 := (zero_step hz).2 s.rds.length hk
  have hget : (tcs s)[s.rds.length]'hk = s.wr := by unfold tcs; exact List.getElem_concat_length rfl _
  rw [hget] at h2
  have hcond : (among s.rds s.rds.length s.wr.pth || (decide (s.rds.length = s.rds.length) && (touched r i s.wr.pth).isSome)) = true := by
    rw [Bool.or_eq_true]
    right
    rw [decide_eq_true rfl, Bool.true_and]
    unfold touched
    rw [Option.isSome_map, List.find?_isSome]
    obtain ⟨hjl, e2⟩ := List.getElem?_eq_some_iff.1 hj
    refine ⟨s'.wr, List.mem_flatMap.2 ⟨s', List.mem_take_iff_getElem.2 ⟨j, by omega, e2⟩, ?_⟩, by rw [h]; simp⟩
    unfold tcs
    exact List.mem_append_right _ (List.mem_singleton.2 rfl)
  unfold tchE at h2
  by_cases c1 : (!Tre.pathOk s.wr.pth) = true
  · rw [if_pos c1] at h2; cases h2
  · rw [if_neg c1] at h2
    by_cases c2 : s.wr.dig.length ≠ 32
    · rw [if_pos c2] at h2; cases h2
    · rw [if_neg c2, if_pos hcond] at h2; cases h2
/-- In a valid record the first writer is the writer. -/
theorem fw_wrI {r : List Dn} (hc : chk r = 0) (p : List UInt8) : fw r p = wrI r p := by
  unfold wrI wr0
  rw [if_pos hc]
  cases hw : wrtN r r.length p with
  | none =>
    have hn := wrtN_none hw
    refine fw_none ?_
    rw [List.any_eq_false]
    intro s hs
    obtain ⟨i, hi, e⟩ := List.mem_iff_getElem.1 hs
    have := hn i s hi (by rw [List.getElem?_eq_getElem hi, e])
    simpa using this
  | some i =>
    obtain ⟨hi, s, hs, hp⟩ := wrtN_some hw
    have e1 : r[i] = s := by rw [List.getElem?_eq_getElem hi] at hs; exact Option.some.inj hs
    refine fw_some hi ?_ (by rw [e1, hp]; simp)
    rw [List.any_eq_false]
    intro s' hs' hp'
    obtain ⟨j, hj, e⟩ := List.mem_take_iff_getElem.1 hs'
    rw [beq_iff_eq] at hp'
    exact wr_uniq hc (show j < i by omega) hs (by rw [List.getElem?_eq_getElem (by omega), e]) (by rw [hp', hp])
theorem wrI_bad {r : List Dn} (hc : chk r ≠ 0) (p : List UInt8) : wrI r p = -1 := by
  unfold wrI wr0
  rw [if_neg hc]
end Rc
set_option maxHeartbeats 4000000 in
set_option maxRecDepth 100000 in
theorem qwrote_any (r : List Dn) (p : List UInt8) (A : Option Addr) (c : Nat) (w : World) (hA : RcAt w A r) :
    Calls Tryd.prog 32 #[.slice A r.length c, .string (str p)] w fun e w' => e = .returned (.int .i64 (Rc.fw r p)) ∧ w' = w := by
  have HA := Lib.hid hA
  have hrl := hA.rl
  have HY := Lib.hid (fun (k : Nat) (hk : k < r.length) (hb : (r.take k).any (fun s => s.wr.pth == p) = false) (h : (r[k].wr.pth == p) = true) => Rc.fw_some hk hb h)
  have HN := Lib.hid (fun (hb : r.any (fun s => s.wr.pth == p) = false) => Rc.fw_none hb)
  generalize Rc.fw r p = V at *
  clear hA
  go_enter Tryd.func32, Tryd.ntmps32
  go_wp2_with fail
  go_loopw [5] (fun s5 wr => ∃ k : Nat, s5 = .int .i64 k ∧ k ≤ r.length ∧ (r.take k).any (fun s => s.wr.pth == p) = false ∧ wr = w) (fun s5 _ => r.length - (intOf s5).toNat)
  case atStart => exact ⟨0, rfl, Nat.zero_le _, by simp, rfl⟩
  case round =>
    obtain ⟨k, rfl, hk, hall, hw⟩ := hrel
    have HW := Lib.hid hw
    have HAL := Lib.hid hall
    clear hall hw
    by_cases hlt : k < r.length
    · have c1 : decide ((k : Int) < (r.length : Int)) = true := decide_eq_true (by omega)
      have c1n : decide (k < r.length) = true := decide_eq_true hlt
      have y1 : (k : Int) < (r.length : Int) := by omega
      obtain ⟨g, o, rfl, hg, hc⟩ := HA.out.st k hlt
      have hd4 := hc 4 _ rfl
      rw [← HW.out] at hd4
      clear hc
      have HNO := Lib.hid (show (r[k].wr.pth == p) = false → (r.take (k + 1)).any (fun s => s.wr.pth == p) = false from fun h => by
        rw [List.take_succ_eq_append_getElem hlt, List.any_append, HAL.out]; simp [h])
      have HYES := Lib.hid (show (r[k].wr.pth == p) = true → V = (k : Int) from fun h => HY.out k hlt HAL.out h)
      generalize r[k] = x at *
      have hv : ((str x.wr.pth).toList == (str p).toList) = (x.wr.pth == p) := by rw [strL, strL]
      cases he : x.wr.pth == p with
      | true =>
        rw [he] at hv
        have HT := Lib.hid (HYES.out he)
        clear HNO HYES he
        go_wp2_with fail
        first | go_ret3 | go_ret2 | go_ret
        exact ⟨by rw [HT.out]; rfl, HW.out⟩
      | false =>
        rw [he] at hv
        have HT := Lib.hid (HNO.out he)
        clear HNO HYES he
        go_wp2_with fail
        go_roundw
        case rel => exact ⟨k + 1, by go_num, by omega, HT.out, HW.out⟩
        case measure => simp [intOf]; omega
    · have c1 : decide ((k : Int) < (r.length : Int)) = false := decide_eq_false (by omega)
      have c1n : decide (k < r.length) = false := decide_eq_false hlt
      have HT := Lib.hid (show V = -1 from HN.out (by
        have := HAL.out
        rwa [List.take_of_length_le (by omega)] at this))
      go_wp2_with fail
      first | go_ret3 | go_ret2 | go_ret
      exact ⟨by rw [HT.out]; rfl, HW.out⟩
set_option maxHeartbeats 2000000 in
set_option maxRecDepth 100000 in
theorem qwriter_any (r : List Dn) (p : List UInt8) (A : Option Addr) (c : Nat) (w : World) (hA : RcAt w A r) (hS : r.length ≤ 1024 → Sht r) :
    Calls Tryd.prog 12 #[.slice A r.length c, .string (str p)] w fun e w' => e = .returned (.int .i64 (Rc.wrI r p)) ∧ Below w.heap.size w w' := by
  have HA := Lib.hid hA
  have cc := qcheck_any r A c w hA hS
  by_cases hz : Rc.chk r = 0
  · rw [hz] at cc
    have HV := Lib.hid (Rc.fw_wrI hz p)
    clear hA hS hz
    go_enter Tryd.func12, Tryd.ntmps12
    go_wp2_with fail
    with_reducible refine cc.mono ?_
    clear cc
    rintro e w1 ⟨rfl, hb1⟩
    have cc := qwrote_any r p A c w1 (HA.out.next hb1)
    rw [HV.out] at cc
    have HB := Lib.hid hb1
    clear hb1
    go_wp2_with fail
    with_reducible refine cc.mono ?_
    clear cc
    rintro e w2 ⟨rfl, rfl⟩
    go_wp2_with fail
    first | go_ret3 | go_ret2 | go_ret
    exact ⟨rfl, HB.out⟩
  · have HV := Lib.hid (Rc.wrI_bad hz p)
    generalize hce : Rc.chk r = ce at *
    have z1 : (ce != 0) = true := by rw [bne_iff_ne]; exact hz
    have z2 : (ce == 0) = false := by rw [beq_eq_false_iff_ne]; exact hz
    generalize Rc.wrI r p = V at *
    clear hA hS hz hce
    go_enter Tryd.func12, Tryd.ntmps12
    go_wp2_with fail
    with_reducible refine cc.mono ?_
    clear cc
    rintro e w1 ⟨rfl, hb1⟩
    have HB := Lib.hid hb1
    clear hb1
    go_wp2_with fail
    first | go_ret3 | go_ret2 | go_ret
    exact ⟨by rw [HV.out]; rfl, HB.out⟩
end Go.Proofs.YtkgnbjhgdjmfdaaDoor
