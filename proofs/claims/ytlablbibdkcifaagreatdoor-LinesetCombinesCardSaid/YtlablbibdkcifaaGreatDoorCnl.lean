/- Counts of sets, the lines below a directory. No condition. -/
import Derived.Test.YtlablbibdkcifaaGreatDoorFew
namespace Go.Proofs.YtlablbibdkcifaaGreatDoor
open Go.RowKit Go.Deep Tr

namespace Ls
theorem und_valid {l : List Sp} (d : LN) (h : Valid l) : Valid (und l d) :=
  ⟨⟨fun s hs => h.apart.ne s (List.mem_filter.1 hs).1, h.apart.gap.filter _⟩, fun s hs => h.each s (List.mem_filter.1 hs).1⟩
theorem has_und (l : List Sp) (d p : LN) (m : Int) : has (und l d) p m = (has l p m && Lib.hasPrefix p (d ++ [47])) := by
  rw [Bool.eq_iff_iff, Bool.and_eq_true, has_iff, has_iff]
  constructor
  · rintro ⟨s, hs, rfl, h1, h2⟩
    have := List.mem_filter.1 hs
    exact ⟨⟨s, this.1, rfl, h1, h2⟩, this.2⟩
  · rintro ⟨⟨s, hs, rfl, h1, h2⟩, h3⟩
    exact ⟨s, List.mem_filter.2 ⟨hs, h3⟩, rfl, h1, h2⟩
theorem pre_slash (p d : List UInt8) : Lib.hasPrefix p (d ++ [47]) = (decide (d.length < p.length) && (p.take d.length == d) && (p[d.length]? == some 47)) := by
  rw [← Lib.hasPrefix_of_take, List.length_append, List.length_singleton]
  by_cases h : d.length < p.length
  · rw [List.take_succ_eq_append_getElem h, List.getElem?_eq_getElem h, Bool.eq_iff_iff]
    simp only [Bool.and_eq_true, decide_eq_true_eq, beq_iff_eq, Option.some.injEq]
    constructor
    · rintro ⟨_, e⟩
      have := List.append_inj e (by rw [List.length_take]; omega)
      exact ⟨⟨h, this.1⟩, by simpa using this.2⟩
    · rintro ⟨⟨_, e1⟩, e2⟩
      exact ⟨by omega, by rw [e1, e2]⟩
  · rw [decide_eq_false (show ¬ d.length + 1 ≤ p.length by omega), decide_eq_false h]; rfl
theorem hasV_und {l : List Sp} (h : Valid l) (d : LN) {s : Sp} (hs : s ∈ l) : hasV (und l d) s.path s.lo = (decide (d.length < s.path.length) && (s.path.take d.length == d) && (s.path[d.length]? == some 47)) := by
  unfold hasV
  rw [(vld_iff _).2 (und_valid d h), Bool.true_and, has_und, has_iff.2 ⟨s, hs, rfl, Int.le_refl _, h.apart.ne s hs⟩, Bool.true_and, pre_slash]
theorem count_le : ∀ {l : List Sp}, (∀ s ∈ l, 0 ≤ s.lo ∧ s.lo < s.hi ∧ s.hi ≤ 1024) → 0 ≤ count l ∧ count l ≤ 1024 * (l.length : Int)
  | [], _ => by simp [count]
  | s :: t, h => by
    have h1 := h s (by simp)
    have h2 := count_le (l := t) fun x hx => h x (by simp [hx])
    unfold count at *
    rw [List.map_cons, List.sum_cons, List.length_cons]
    omega
theorem countV_of {l : List Sp} (h : Valid l) : countV l = count l := if_pos ((vld_iff l).2 h)
theorem countV_le {l : List Sp} (h : Valid l) : 0 ≤ countV l ∧ countV l ≤ 1024 * (l.length : Int) := by
  rw [countV_of h]
  exact count_le fun s hs => ⟨(h.each s hs).2.1, h.apart.ne s hs, (h.each s hs).2.2⟩
theorem countV_union {a b u m : List Sp} (ha : Valid a) (hb : Valid b) (hu : Comb (fun x y => x || y) a b u) (hm : Comb (fun x y => x && y) a b m) : countV u + countV m = countV a + countV b := by
  rw [countV_of ha, countV_of hb, countV_of hu.1, countV_of hm.1]
  exact count_union ha.apart hb.apart hu.1.apart hm.1.apart hm.2.1 hu.2.1
theorem countV_minus {a b d m : List Sp} (ha : Valid a) (hd : Comb (fun x y => x && !y) a b d) (hm : Comb (fun x y => x && y) a b m) : countV d + countV m = countV a := by
  rw [countV_of ha, countV_of hd.1, countV_of hm.1]
  exact count_meet ha.apart hm.1.apart hd.1.apart hm.2.1 hd.2.1
theorem countV_und {a r : List Sp} {d : LN} (ha : Valid a) (hr : Comb (fun x y => x && !y) a (und a d) r) : countV (und a d) + countV r = countV a := by
  rw [countV_of ha, countV_of hr.1, countV_of (und_valid d ha), Int.add_comm]
  exact count_meet ha.apart (und_valid d ha).apart hr.1.apart (fun p n => by rw [has_und]; cases has a p n <;> rfl) hr.2.1
end Ls
end Go.Proofs.YtlablbibdkcifaaGreatDoor
