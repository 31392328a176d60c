/- What the changes between two trees lead to: plain facts. No condition. -/
import Derived.Test.YtinkpbobkeppiaaGreatDoorPz5
import Derived.Test.YtinkpbobkeppiaaGreatDoorPz6
namespace Go.Proofs.YtinkpbobkeppiaaGreatDoor
namespace Tre

structure DiffOf (a b : List Fl) (l : List Ch) : Prop where
  of : ∀ c ∈ l, (c.kind = 2 ∧ (find a c.path).2 = true ∧ (find b c.path).2 = false) ∨ (c.kind ≠ 2 ∧ (find b c.path).2 = true)
  apart : l.Pairwise fun c d => c.path ≠ d.path
  all : ∀ p, ((find a p).2 = true ∨ (find b p).2 = true) → find a p ≠ find b p → ∃ c ∈ l, c.path = p
theorem chg_of {a b : List Fl} {p : List UInt8} {c : Ch} (h : c ∈ chg a b p) (hp : (find a p).2 = true ∨ (find b p).2 = true) :
    c.path = p ∧ ((c.kind = 2 ∧ (find a p).2 = true ∧ (find b p).2 = false) ∨ (c.kind ≠ 2 ∧ (find b p).2 = true)) := by
  unfold chg at h
  split at h
  · rename_i h1
    rw [List.mem_singleton.1 h]
    refine ⟨rfl, .inr ⟨by show (1 : Int) ≠ 2; decide, ?_⟩⟩
    rcases hp with hp | hp
    · rw [h1] at hp; cases hp
    · exact hp
  · rename_i h1
    have h1' : (find a p).2 = true := by simpa using h1
    split at h
    · rename_i h2
      rw [List.mem_singleton.1 h]
      exact ⟨rfl, .inl ⟨rfl, h1', h2⟩⟩
    · rename_i h2
      have h2' : (find b p).2 = true := by simpa using h2
      split at h
      · simp at h
      · rw [List.mem_singleton.1 h]
        exact ⟨rfl, .inr ⟨by show (3 : Int) ≠ 2; decide, h2'⟩⟩
theorem in_paths (a b : List Fl) (p : List UInt8) : p ∈ pathsOf a b ↔ ((find a p).2 = true ∨ (find b p).2 = true) := by
  have key : ∀ t : List Fl, p ∈ t.map (·.path) ↔ (find t p).2 = true := by
    intro t
    constructor
    · intro h
      obtain ⟨f, hf, e⟩ := List.mem_map.1 h
      cases h2 : (find t p).2 with
      | true => rfl
      | false => exact absurd e ((find_none h2).1 f hf)
    · intro h
      obtain ⟨f, hf, e, _⟩ := find_mem h
      exact List.mem_map.2 ⟨f, hf, e⟩
  rw [(paths_spec a b).2, key, key]
theorem diff_of (a b : List Fl) : DiffOf a b (diff a b) := by
  refine ⟨fun c hc => ?_, ?_, fun p hp hne => ?_⟩
  · obtain ⟨p, hp, hc⟩ := List.mem_flatMap.1 hc
    obtain ⟨rfl, h⟩ := chg_of hc ((in_paths a b p).1 hp)
    exact h
  · have hr := (paths_spec a b).1
    have hin : ∀ p ∈ pathsOf a b, ((find a p).2 = true ∨ (find b p).2 = true) := fun p hp => (in_paths a b p).1 hp
    unfold diff
    generalize pathsOf a b = l at *
    induction l with
    | nil => simp
    | cons p l ih =>
      obtain ⟨r1, r2⟩ := List.pairwise_cons.1 hr
      rw [List.flatMap_cons, List.pairwise_append]
      refine ⟨?_, ih r2 (fun q hq => hin q (by simp [hq])), fun c hc d hd => ?_⟩
      · have := chg_len a b p
        match h : chg a b p, this with
        | [], _ => simp
        | [x], _ => simp
      · obtain ⟨q, hq, hd⟩ := List.mem_flatMap.1 hd
        rw [(chg_of hc (hin p (by simp))).1, (chg_of hd (hin q (by simp [hq]))).1]
        exact bl_ne (r1 q hq)
  · have hne2 : chg a b p ≠ [] := by
      unfold chg
      split
      · simp
      · rename_i h1
        split
        · simp
        · rename_i h2
          split
          · rename_i h3
            exact absurd (Prod.ext h3 ((by simpa using h1 : (find a p).2 = true).trans (by simpa using h2 : (find b p).2 = true).symm)) hne
          · simp
    obtain ⟨c, hc⟩ := List.exists_mem_of_ne_nil _ hne2
    exact ⟨c, List.mem_flatMap.2 ⟨p, (in_paths a b p).2 hp, hc⟩, (chg_of hc hp).1⟩
theorem diff_self (a : List Fl) : diff a a = [] := by
  unfold diff
  rw [List.flatMap_eq_nil_iff]
  intro p hp
  have := (in_paths a a p).1 hp
  have h : (find a p).2 = true := this.elim id id
  unfold chg
  rw [if_neg (by rw [h]; decide), if_neg (by rw [h]; decide), if_pos rfl]
def gone (l : List Ch) (p : List UInt8) : Bool := l.any fun c => c.kind == 2 && c.path == p
def come (l : List Ch) (p : List UInt8) : Bool := l.any fun c => c.kind != 2 && c.path == p
structure Led1 (a : List Fl) (l : List Ch) (k : Nat) (t : List Fl) : Prop where
  good : Good t
  find : ∀ p, Tre.find t p = if gone (l.take k) p = true then ([], false) else Tre.find a p
theorem led1_zero {a : List Fl} (g : Good a) (l : List Ch) : Led1 a l 0 a := ⟨g, fun p => by rw [List.take_zero]; rfl⟩
theorem gone_succ (l : List Ch) (k : Nat) (h : k < l.length) (p : List UInt8) : gone (l.take (k + 1)) p = (gone (l.take k) p || (l[k].kind == 2 && l[k].path == p)) := by
  unfold gone
  rw [List.take_succ_eq_append_getElem h, List.any_append]
  simp
theorem come_succ (l : List Ch) (k : Nat) (h : k < l.length) (p : List UInt8) : come (l.drop k) p = ((l[k].kind != 2 && l[k].path == p) || come (l.drop (k + 1)) p) := by
  unfold come
  rw [List.drop_eq_getElem_cons h, List.any_cons]
theorem led1_skip {a : List Fl} {l : List Ch} {k : Nat} {t : List Fl} (h : Led1 a l k t) (hk : k < l.length) (h2 : l[k].kind ≠ 2) : Led1 a l (k + 1) t :=
  ⟨h.good, fun p => by
    rw [gone_succ l k hk p, show (l[k].kind == 2) = false by rw [beq_eq_false_iff_ne]; exact h2, Bool.false_and, Bool.or_false]
    exact h.find p⟩
theorem gone_not {a b : List Fl} {l : List Ch} (d : DiffOf a b l) (k : Nat) (hk : k < l.length) : gone (l.take k) l[k].path = false := by
  unfold gone
  rw [List.any_eq_false]
  intro c hc
  obtain ⟨i, hi, rfl⟩ := List.mem_take_iff_getElem.1 hc
  have := List.pairwise_iff_getElem.1 d.apart i k (by omega) hk (by omega)
  simp [this]
theorem led1_step {a b : List Fl} {l : List Ch} {k : Nat} {t : List Fl} (d : DiffOf a b l) (h : Led1 a l k t) (hk : k < l.length) (h2 : l[k].kind = 2) : (Tre.find t l[k].path).2 = true ∧ Led1 a l (k + 1) (drop t l[k].path) := by
  have ho := (d.of l[k] (List.getElem_mem hk)).resolve_right fun h => h.1 h2
  refine ⟨by rw [h.find, gone_not d k hk]; exact ho.2.1, h.good.sub (drop_sub _ _), fun p => ?_⟩
  rw [find_drop h.good, gone_succ l k hk p, h2, show ((2 : Int) == 2) = true from rfl, Bool.true_and]
  by_cases e : p = l[k].path
  · rw [if_pos e, ← e, beq_self_eq_true, Bool.or_true, if_pos rfl]
  · rw [if_neg e, show (l[k].path == p) = false by rw [beq_eq_false_iff_ne]; exact fun h => e h.symm, Bool.or_false]
    exact h.find p
structure Led2 (b : List Fl) (l : List Ch) (k : Nat) (t : List Fl) : Prop where
  good : Good t
  sub : ∀ f ∈ t, (Tre.find b f.path).2 = true
  find : ∀ p, (Tre.find b p).2 = true → come (l.drop k) p = false → Tre.find t p = Tre.find b p
theorem led2_zero {a b : List Fl} {l : List Ch} {t : List Fl} (d : DiffOf a b l) (h : Led1 a l l.length t) : Led2 b l 0 t := by
  have hf := h.find
  rw [List.take_length] at hf
  refine ⟨h.good, fun f hm => ?_, fun p hb hc => ?_⟩
  · have h1 := h.good.find_of hm
    rw [hf] at h1
    split at h1
    · exact Bool.noConfusion (show false = true from congrArg Prod.snd h1)
    · rename_i hg
      cases h2 : (Tre.find b f.path).2 with
      | true => rfl
      | false =>
        obtain ⟨c, hc, e⟩ := d.all f.path (.inl (by rw [h1])) (fun e => by rw [e] at h1; rw [h1] at h2; cases h2)
        exfalso
        apply hg
        rcases d.of c hc with ⟨h3, _, _⟩ | ⟨_, h3⟩
        · exact List.any_eq_true.2 ⟨c, hc, by simp [h3, e]⟩
        · rw [e, h2] at h3; cases h3
  · have hgn : gone l p = false := by
      unfold gone
      rw [List.any_eq_false]
      intro c hc hh
      simp only [Bool.and_eq_true, beq_iff_eq] at hh
      rcases d.of c hc with ⟨_, _, h3⟩ | ⟨h3, _⟩
      · rw [hh.2, hb] at h3; cases h3
      · exact h3 hh.1
    rw [hf, hgn, if_neg (by decide)]
    refine Classical.byContradiction fun hne => ?_
    obtain ⟨c, hcm, e⟩ := d.all p (.inr hb) hne
    rw [List.drop_zero] at hc
    have := List.any_eq_false.1 hc c hcm
    rcases d.of c hcm with ⟨_, _, h3⟩ | ⟨h3, _⟩
    · rw [e, hb] at h3; cases h3
    · simp [e, h3] at this
theorem led2_skip {b : List Fl} {l : List Ch} {k : Nat} {t : List Fl} (h : Led2 b l k t) (hk : k < l.length) (h2 : l[k].kind = 2) : Led2 b l (k + 1) t :=
  ⟨h.good, h.sub, fun p hp hc => h.find p hp (by rw [come_succ l k hk p, h2, hc]; rfl)⟩
theorem led2_step {a b : List Fl} (gb : Good b) {l : List Ch} {k : Nat} {t : List Fl} (d : DiffOf a b l) (h : Led2 b l k t) (hk : k < l.length) (h2 : l[k].kind ≠ 2) :
    (Tre.find b l[k].path).2 = true ∧ ∃ t', put t ⟨l[k].path, (Tre.find b l[k].path).1⟩ = (t', 0) ∧ Led2 b l (k + 1) t' := by
  have ho := (d.of l[k] (List.getElem_mem hk)).resolve_left fun h => h2 h.1
  obtain ⟨fb, hfb, e, hd⟩ := find_mem ho.2
  have hin : ∀ x ∈ t, ∃ y ∈ b, y.path = x.path := fun x hx => by
    obtain ⟨y, hy, e, _⟩ := find_mem (h.sub x hx)
    exact ⟨y, hy, e⟩
  have hlen : (drop t l[k].path).length ≠ 64 := by
    have hnd : ((drop t l[k].path).map (·.path)).Pairwise (fun a b => Op.bytesLess a b = true) := by
      rw [List.pairwise_map]; exact (h.good.sub (drop_sub _ _)).sorted
    have hall : ∀ (us : List (List UInt8)) (vs : List (List UInt8)), us.Pairwise (fun a b => Op.bytesLess a b = true) → (∀ x ∈ us, x ∈ vs) → us.length ≤ vs.length := by
      intro us
      induction us with
      | nil => simp
      | cons x us ih =>
        intro vs hp hm
        obtain ⟨p1, p2⟩ := List.pairwise_cons.1 hp
        have hx := hm x (by simp)
        have := ih (vs.erase x) p2 fun y hy => (List.mem_erase_of_ne (fun e => by rw [e] at hy; have := p1 x hy; rw [bl_irr] at this; cases this)).2 (hm y (by simp [hy]))
        rw [List.length_erase_of_mem hx] at this
        have hpos := List.length_pos_of_mem hx
        simp; omega
    have := hall _ ((drop b l[k].path).map (·.path)) hnd fun x hx => by
      obtain ⟨y, hy, rfl⟩ := List.mem_map.1 hx
      obtain ⟨h3, h4⟩ := (mem_drop _ _ _).1 hy
      obtain ⟨z, hz, e⟩ := hin y h3
      exact List.mem_map.2 ⟨z, (mem_drop _ _ _).2 ⟨hz, by rw [e]; exact h4⟩, e⟩
    rw [List.length_map, List.length_map] at this
    have h1 := drop_one gb ho.2
    have := gb.len
    omega
  have had := good_ins h.good ⟨l[k].path, (Tre.find b l[k].path).1⟩ (by show pathOk l[k].path = true; rw [← e]; exact gb.ok fb hfb) (by show (Tre.find b l[k].path).1.length ≤ 65536; rw [hd]; exact gb.size fb hfb)
    (by
      rw [List.any_eq_false]
      intro x hx
      obtain ⟨y, hy, e2⟩ := hin x hx
      unfold bad
      rw [← e2]
      simp only [← e]
      rw [gb.below hy hfb, gb.below hfb hy]
      decide) hlen
  refine ⟨ho.2, _, had.put, had.good, fun x hx => ?_, fun p hp hc => ?_⟩
  · rcases (mem_ins _ _ _).1 hx with rfl | hx
    · exact ho.2
    · exact h.sub x ((mem_drop _ _ _).1 hx).1
  · by_cases ep : p = l[k].path
    · rw [ep]
      exact had.found.trans (Prod.ext rfl ho.2.symm)
    · rw [had.other p ep]
      refine h.find p hp ?_
      rw [come_succ l k hk p, hc, show (l[k].path == p) = false by rw [beq_eq_false_iff_ne]; exact fun h => ep h.symm]
      simp
theorem led2_end {b : List Fl} (gb : Good b) {l : List Ch} {t : List Fl} (h : Led2 b l l.length t) : t = b :=
  good_eq h.good gb h.sub fun p hp => h.find p hp (by rw [List.drop_length]; rfl)
end Tre
end Go.Proofs.YtinkpbobkeppiaaGreatDoor
