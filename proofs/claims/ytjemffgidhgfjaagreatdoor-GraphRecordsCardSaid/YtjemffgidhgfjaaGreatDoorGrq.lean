/- Plain: the graph of a small valid record is valid; what a node reaches, as a list. -/
import Derived.Test.YtjemffgidhgfjaaGreatDoorGrp
import Derived.Test.YtjemffgidhgfjaaGreatDoorQck
import Derived.Test.YtjemffgidhgfjaaGreatDoorRkFew
namespace Go.Proofs.YtjemffgidhgfjaaGreatDoor
open Tr

namespace Gr
theorem nodup_le {α : Type} [DecidableEq α] : ∀ {L M : List α}, L.Nodup → (∀ x ∈ L, x ∈ M) → L.length ≤ M.length
  | [], _, _, _ => Nat.zero_le _
  | a :: L, M, h, hs => by
    obtain ⟨h1, h2⟩ := List.nodup_cons.1 h
    have ha := hs a (List.mem_cons_self ..)
    have ih := nodup_le (M := M.erase a) h2 fun x hx => (List.mem_erase_of_ne (fun (e : x = a) => h1 (by rw [← e]; exact hx))).2 (hs x (List.mem_cons_of_mem _ hx))
    rw [List.length_erase_of_mem ha] at ih
    have := List.length_pos_of_mem ha
    rw [List.length_cons]
    omega
/-- What a valid step says of its files. -/
theorem step_ok {r : List Rk.Dn} (hc : Rk.Rc.chk r = 0) {k : Nat} {s : Rk.Dn} (hs : r[k]? = some s) : (∀ t ∈ Rk.Rc.tcs s, t.pth.length ≤ 128) ∧ (s.rds.map (·.pth)).Nodup := by
  obtain ⟨hk, rfl⟩ := List.getElem?_eq_some_iff.1 hs
  have hz := (Rk.Rc.zero_step ((Rk.Rc.zero_chk hc).2 k hk)).2
  refine ⟨fun t ht => ?_, ?_⟩
  · obtain ⟨j, hj, rfl⟩ := List.mem_iff_getElem.1 ht
    have h := hz j hj
    unfold Rk.Rc.tchE at h
    cases hp : Tre.pathOk (Rk.Rc.tcs r[k])[j].pth with
    | false => rw [hp] at h; cases h
    | true =>
      unfold Tre.pathOk at hp
      simp only [Bool.and_eq_true, decide_eq_true_eq] at hp
      exact hp.1.1
  · rw [List.Nodup, List.pairwise_iff_getElem]
    intro a b ha hb hab e
    rw [List.length_map] at ha hb
    rw [List.getElem_map, List.getElem_map] at e
    have hbt : b < (Rk.Rc.tcs r[k]).length := by rw [Rk.Rc.tcs_len]; omega
    have h := hz b hbt
    have hg : (Rk.Rc.tcs r[k])[b] = r[k].rds[b] := by unfold Rk.Rc.tcs; exact List.getElem_append_left hb
    rw [hg] at h
    have ham : Rk.Rc.among r[k].rds b r[k].rds[b].pth = true := by
      unfold Rk.Rc.among
      exact List.any_eq_true.2 ⟨r[k].rds[a], List.mem_take_iff_getElem.2 ⟨a, by omega, rfl⟩, by rw [e]; exact beq_self_eq_true _⟩
    unfold Rk.Rc.tchE at h
    rw [ham, Bool.true_or] at h
    split at h
    · cases h
    · split at h
      · cases h
      · rw [if_pos rfl] at h; cases h
theorem edsS_nodup {r : List Rk.Dn} {L : List (List UInt8)} (hc : Rk.Rc.chk r = 0) (hn : NodL r L) {k : Nat} {s : Rk.Dn} (hs : r[k]? = some s) : (edsS L k s s.rds.length).Nodup := by
  unfold edsS
  rw [List.take_length, List.Nodup, List.pairwise_map]
  have h := (step_ok hc hs).2
  rw [List.Nodup, List.pairwise_map] at h
  refine List.Pairwise.imp_of_mem ?_ h
  intro a b ha hb hab e
  injection e with e _ _
  exact hab (idx_inj hn.1 (rd_in hn hs ha) (rd_in hn hs hb) e)
theorem edsN_nodup {r : List Rk.Dn} {L : List (List UInt8)} (hc : Rk.Rc.chk r = 0) (hn : NodL r L) : ∀ n, (edsN r L n).Nodup
  | 0 => List.Pairwise.nil
  | n + 1 => by
    show (edsN r L n ++ (match r[n]? with | some s => edsS L n s s.rds.length | none => [])).Nodup
    rw [List.nodup_append]
    cases hs : r[n]? with
    | none => exact ⟨edsN_nodup hc hn n, List.Pairwise.nil, fun a _ b hb => by cases hb⟩
    | some s =>
      refine ⟨edsN_nodup hc hn n, edsS_nodup hc hn hs, fun a ha b hb e => ?_⟩
      obtain ⟨k, _, hk, _, _, _, rfl⟩ := (mem_edsN n).1 ha
      obtain ⟨_, _, rfl⟩ := mem_edsS.1 hb
      injection e with _ _ e
      omega
theorem edsN_len {r : List Rk.Dn} {L : List (List UInt8)} (h : ∀ s ∈ r, s.rds.length ≤ 12) : ∀ n, (edsN r L n).length ≤ 12 * n
  | 0 => Nat.le_refl _
  | n + 1 => by
    show (edsN r L n ++ (match r[n]? with | some s => edsS L n s s.rds.length | none => [])).length ≤ _
    rw [List.length_append]
    have := edsN_len (L := L) h n
    cases hs : r[n]? with
    | none => simp only [List.length_nil]; omega
    | some s =>
      have h1 := edsS_len L n s s.rds.length
      have h2 := h s (List.mem_of_getElem? hs)
      simp only
      omega
theorem pths_len {r : List Rk.Dn} (h : ∀ s ∈ r, s.rds.length ≤ 12) : (pths r).length ≤ 13 * r.length := by
  induction r with
  | nil => exact Nat.le_refl _
  | cons s r ih =>
    have e : pths (s :: r) = (Rk.Rc.tcs s).map (·.pth) ++ pths r := by unfold pths; rw [List.flatMap_cons]
    rw [e, List.length_append, List.length_map, Rk.Rc.tcs_len, List.length_cons]
    have h1 := h s (List.mem_cons_self ..)
    have h2 := ih fun x hx => h x (List.mem_cons_of_mem _ hx)
    omega
theorem asc_nodup {L : List (List UInt8)} (h : Rk.Rc.Asc L) : L.Nodup := List.Pairwise.imp (fun h e => Tre.bl_ne h e) h
/-- The graph of a small valid record is valid. -/
theorem of_chk {r : List Rk.Dn} {L : List (List UInt8)} {es : List Ed} (hc : Rk.Rc.chk r = 0) (hF : Rk.FewP r) (hn : NodL r L) (hE : EdL r L es) : chk ⟨L, es⟩ = 0 := by
  have hL := (Rk.Rc.zero_chk hc).1
  have hS : r.length ≤ 12 ∧ ∀ s ∈ r, s.rds.length ≤ 12 := by
    rcases hF with h | ⟨h, h2⟩
    · omega
    · exact ⟨h, fun s hs => (h2 s hs).1⟩
  have h1 := nodup_le (asc_nodup hn.1) fun x hx => (hn.2 x).1 hx
  have h2 := pths_len hS.2
  have h3 : es.length ≤ 12 * r.length := by rw [hE.1.length_eq]; exact edsN_len hS.2 _
  have hnd : es.Nodup := hE.1.nodup_iff.2 (edsN_nodup hc hn _)
  refine chk_6 ?_ ?_ ?_ ?_ ?_
  · unfold big
    rw [Bool.or_eq_false_iff, decide_eq_false_iff_not, decide_eq_false_iff_not]
    exact ⟨by show ¬ 1024 < L.length; omega, by show ¬ 1024 < es.length; omega⟩
  · rw [List.any_eq_false]
    intro x hx
    obtain ⟨s, hs, ht⟩ := List.mem_flatMap.1 ((hn.2 x).1 hx)
    obtain ⟨t, ht2, rfl⟩ := List.mem_map.1 ht
    obtain ⟨k, hk⟩ := List.getElem?_of_mem hs
    have := (step_ok hc hk).1 t ht2
    simp only [decide_eq_true_eq]
    omega
  · rw [asc_iff]
    intro i h
    have h : i + 1 < L.length := h
    exact List.pairwise_iff_getElem.1 hn.1 i (i + 1) (by omega) h (by omega)
  · rw [List.any_eq_false]
    intro x hx
    obtain ⟨k, s, hs, t, ht, rfl⟩ := hE.mem.1 hx
    obtain ⟨a, ha, _, e1⟩ := idx_at hn.1 (rd_in hn hs ht)
    obtain ⟨b, hb, _, e2⟩ := idx_at hn.1 (wr_in hn hs)
    simp only [out, isN, e1, e2, Bool.or_eq_true, Bool.not_eq_true', Bool.and_eq_false_iff, decide_eq_true_eq, decide_eq_false_iff_not]
    omega
  · rw [asc_iff]
    intro i h
    have h : i + 1 < es.length := h
    have hi : i < es.length := by omega
    have h4 := List.pairwise_iff_getElem.1 hE.2 i (i + 1) (by omega) h (by omega)
    have h5 := List.pairwise_iff_getElem.1 hnd i (i + 1) (by omega) h (by omega)
    rw [Bool.eq_false_iff, ne_eq, lt_iff] at h4
    rw [lt_iff]
    show es[i].src < es[i + 1].src ∨ (es[i].src = es[i + 1].src ∧ (es[i].dst < es[i + 1].dst ∨ (es[i].dst = es[i + 1].dst ∧ es[i].stp < es[i + 1].stp)))
    generalize es[i] = x at *
    generalize es[i + 1] = y at *
    obtain ⟨a1, a2, a3⟩ := x
    obtain ⟨b1, b2, b3⟩ := y
    simp only [ne_eq, Ed.mk.injEq] at *
    omega
theorem chs_asc (p : Nat → Bool) : ∀ n, (chs p n).Pairwise (· < ·)
  | 0 => List.Pairwise.nil
  | n + 1 => by
    rw [chs, List.pairwise_append]
    refine ⟨chs_asc p n, ?_, fun a ha b hb => ?_⟩
    · split
      · exact List.pairwise_singleton _ _
      · exact List.Pairwise.nil
    · obtain ⟨m, rfl, hm, _⟩ := (mem_chs p n a).1 ha
      split at hb
      · rw [List.mem_singleton] at hb; omega
      · cases hb
theorem rchm_len {fw : Bool} {g : Gph} {a : Int} {l : List Int} (h : Rch fw g a l) : l.length ≤ g.ns.length := by
  unfold Rch at h
  split at h
  · obtain ⟨p, rfl, _⟩ := h
    exact chs_len p _
  · rw [h]; simp
theorem rchm {g : Gph} {k m : Nat} {l : List Int} (hc : chk g = 0) (hk : k < g.ns.length) (hm : m < g.ns.length) (h : Rch true g (k : Int) l) : (m : Int) ∈ l ↔ Tc g.es k m := by
  unfold Rch at h
  rw [if_pos ⟨hc, by unfold isN; rw [Bool.and_eq_true, decide_eq_true_eq, decide_eq_true_eq]; omega⟩, Int.toNat_natCast] at h
  obtain ⟨p, rfl, hp⟩ := h
  rw [mem_chs, ← tc_wk, ← hp m]
  exact ⟨fun ⟨q, e, _, hq⟩ => (by obtain rfl : m = q := by omega
                                  exact hq), fun h => ⟨m, rfl, hm, h⟩⟩
/-- The node that a step writes. -/
def wrt (r : List Rk.Dn) (L : List (List UInt8)) (k : Nat) : Int := match r[k]? with | some s => idx L s.wr.pth | none => -1
/-- What a node reaches is, sorted, what the affected steps write. -/
theorem reach_aff {r : List Rk.Dn} {L : List (List UInt8)} {es : List Ed} (hc : Rk.Rc.chk r = 0) (hF : Rk.FewP r) (hn : NodL r L) (hE : EdL r L es) {i : Nat} (hi : i < L.length) {l d : List Int} (hR : Rch true ⟨L, es⟩ (i : Int) l) (hd : d.Pairwise (· ≤ ·)) (hp : d.Perm ((Rk.affL r [L[i]]).map (wrt r L))) : d = l := by
  unfold Rch at hR
  rw [if_pos ⟨of_chk hc hF hn hE, by unfold isN; rw [Bool.and_eq_true, decide_eq_true_eq, decide_eq_true_eq]; show _ ∧ (i : Int) < (L.length : Int); omega⟩, Int.toNat_natCast] at hR
  obtain ⟨p, rfl, hP⟩ := hR
  have hasc := chs_asc p L.length
  have hnd : ((Rk.affL r [L[i]]).map (wrt r L)).Nodup := by
    unfold Rk.affL
    rw [if_pos hc, List.Nodup, List.pairwise_map]
    refine List.Pairwise.imp_of_mem ?_ (Rk.Rc.aft_asc r [L[i]] r.length).1
    intro a b ha hb hab e
    obtain ⟨ha1, _⟩ := ((Rk.Rc.aft_is hc L[i] r.length (Nat.le_refl _)).2 a).1 ha
    obtain ⟨hb1, _⟩ := ((Rk.Rc.aft_is hc L[i] r.length (Nat.le_refl _)).2 b).1 hb
    have sa := List.getElem?_eq_getElem ha1
    have sb := List.getElem?_eq_getElem hb1
    unfold wrt at e
    rw [sa, sb] at e
    have e2 := idx_inj hn.1 (wr_in hn sa) (wr_in hn sb) e
    have w1 := Rk.Rc.wr0_self hc sa
    rw [e2, Rk.Rc.wr0_self hc sb] at w1
    cases w1
    omega
  have hm : ∀ x, x ∈ (Rk.affL r [L[i]]).map (wrt r L) ↔ x ∈ chs p L.length := fun x => by
    rw [mem_chs, List.mem_map]
    unfold Rk.affL
    rw [if_pos hc]
    constructor
    · rintro ⟨k, hk, rfl⟩
      obtain ⟨hk1, ha⟩ := ((Rk.Rc.aft_is hc L[i] r.length (Nat.le_refl _)).2 k).1 hk
      have sk := List.getElem?_eq_getElem hk1
      obtain ⟨m, hm, _, e⟩ := idx_at hn.1 (wr_in hn sk)
      refine ⟨m, by unfold wrt; rw [sk]; exact e, hm, (hP m).2 (tc_wk.2 ((tc_afd hc hn hE hi).2 ⟨k, _, ha, sk, e⟩))⟩
    · rintro ⟨m, rfl, _, h⟩
      obtain ⟨k, s, ha, hs, e⟩ := (tc_afd hc hn hE hi).1 (tc_wk.1 ((hP m).1 h))
      exact ⟨k, ((Rk.Rc.aft_is hc L[i] r.length (Nat.le_refl _)).2 k).2 ⟨(List.getElem?_eq_some_iff.1 hs).1, ha⟩, by unfold wrt; rw [hs]; exact e⟩
  have hperm : d.Perm (chs p L.length) := hp.trans ((List.perm_ext_iff_of_nodup hnd (hasc.imp fun h => by omega)).2 hm)
  exact List.Perm.eq_of_pairwise (le := fun a b => a ≤ b) (fun a b _ _ h1 h2 => by omega) hd (hasc.imp fun h => by omega) hperm
end Gr
end Go.Proofs.YtjemffgidhgfjaaGreatDoor
