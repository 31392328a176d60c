/- wrote, Writer of the reference. No condition but the lengths. -/
import Derived.Test.YtjemffgidhgfjaaGreatDoorRkQst
import Derived.Test.YtjemffgidhgfjaaGreatDoorMz5
namespace Go.Proofs.YtjemffgidhgfjaaGreatDoor.Rk
open Go.RowKit Go.Deep Tr

namespace Rc
/-- The first step that writes a path. -/
def fw (r : List Dn) (p : List UInt8) : Int := match r.findIdx? (fun s => s.wr.pth == p) with | some i => (i : Int) | none => -1
theorem fw_some {r : List Dn} {k : Nat} {p : List UInt8} (hk : k < r.length) (hb : (r.take k).any (fun s => s.wr.pth == p) = false) (h : (r[k].wr.pth == p) = true) : fw r p = (k : Int) := by
  have e : r.findIdx? (fun s => s.wr.pth == p) = some k := by
    rw [List.findIdx?_eq_some_iff_getElem]
    refine ⟨hk, h, fun j hj => ?_⟩
    intro hc
    have : (r.take k).any (fun s => s.wr.pth == p) = true := List.any_eq_true.2 ⟨r[j]'(by omega), List.mem_take_iff_getElem.2 ⟨j, by omega, rfl⟩, hc⟩
    rw [hb] at this; cases this
  unfold fw
  rw [e]
theorem fw_none {r : List Dn} {p : List UInt8} (hb : r.any (fun s => s.wr.pth == p) = false) : fw r p = -1 := by
  have e : r.findIdx? (fun s => s.wr.pth == p) = none := by
    rw [List.findIdx?_eq_none_iff]
    intro t ht
    cases h : (t.wr.pth == p) with
    | false => rfl
    | true => rw [List.any_eq_true.2 ⟨t, ht, h⟩] at hb; cases hb
  unfold fw
  rw [e]
/-- No path is written twice. -/
theorem wr_uniq {r : List Dn} (hc : chk r = 0) {i j : Nat} {s s' : Dn} (hji : j < i) (hi : r[i]? = some s) (hj : r[j]? = some s') (h : s'.wr.pth = s.wr.pth) : False := by
  obtain ⟨_, hst⟩ := zero_chk hc
  obtain ⟨hil, e1⟩ := List.getElem?_eq_some_iff.1 hi
  have hz := hst i hil
  rw [e1] at hz
  have hk : s.rds.length < (tcs s).length := by rw [tcs_len]; omega
  have h2 := (zero_step hz).2 s.rds.length hk
  have hget : (tcs s)[s.rds.length]'hk = s.wr := by unfold tcs; exact List.getElem_concat_length rfl _
  rw [hget] at h2
  have hcond : (among s.rds s.rds.length s.wr.pth || (decide (s.rds.length = s.rds.length) && (touched r i s.wr.pth).isSome)) = true := by
    rw [Bool.or_eq_true]
    right
    rw [decide_eq_true rfl, Bool.true_and]
    unfold touched
    rw [Option.isSome_map, List.find?_isSome]
    obtain ⟨hjl, e2⟩ := List.getElem?_eq_some_iff.1 hj
    refine ⟨s'.wr, List.mem_flatMap.2 ⟨s', List.mem_take_iff_getElem.2 ⟨j, by omega, e2⟩, ?_⟩, by rw [h]; simp⟩
    unfold tcs
    exact List.mem_append_right _ (List.mem_singleton.2 rfl)
  unfold tchE at h2
  by_cases c1 : (!Tre.pathOk s.wr.pth) = true
  · rw [if_pos c1] at h2; cases h2
  · rw [if_neg c1] at h2
    by_cases c2 : s.wr.dig.length ≠ 32
    · rw [if_pos c2] at h2; cases h2
    · rw [if_neg c2, if_pos hcond] at h2; cases h2
/-- In a valid record the first writer is the writer. -/
theorem fw_wrI {r : List Dn} (hc : chk r = 0) (p : List UInt8) : fw r p = wrI r p := by
  unfold wrI wr0
  rw [if_pos hc]
  cases hw : wrtN r r.length p with
  | none =>
    have hn := wrtN_none hw
    refine fw_none ?_
    rw [List.any_eq_false]
    intro s hs
    obtain ⟨i, hi, e⟩ := List.mem_iff_getElem.1 hs
    have := hn i s hi (by rw [List.getElem?_eq_getElem hi, e])
    simpa using this
  | some i =>
    obtain ⟨hi, s, hs, hp⟩ := wrtN_some hw
    have e1 : r[i] = s := by rw [List.getElem?_eq_getElem hi] at hs; exact Option.some.inj hs
    refine fw_some hi ?_ (by rw [e1, hp]; simp)
    rw [List.any_eq_false]
    intro s' hs' hp'
    obtain ⟨j, hj, e⟩ := List.mem_take_iff_getElem.1 hs'
    rw [beq_iff_eq] at hp'
    exact wr_uniq hc (show j < i by omega) hs (by rw [List.getElem?_eq_getElem (by omega), e]) (by rw [hp', hp])
theorem wrI_bad {r : List Dn} (hc : chk r ≠ 0) (p : List UInt8) : wrI r p = -1 := by
  unfold wrI wr0
  rw [if_neg hc]
end Rc
end Go.Proofs.YtjemffgidhgfjaaGreatDoor.Rk
