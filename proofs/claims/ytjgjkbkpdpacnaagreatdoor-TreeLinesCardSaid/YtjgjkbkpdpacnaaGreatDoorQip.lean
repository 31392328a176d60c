/- What the reference's identifier of a directory is made of; plain. No condition. -/
import Derived.Test.YtjgjkbkpdpacnaaGreatDoorDir
import Derived.Test.YtjgjkbkpdpacnaaGreatDoorQun
import Derived.Laws.CopyOwn
namespace Go.Proofs.YtjgjkbkpdpacnaaGreatDoor
open Go.RowKit

theorem pathOk_nil : Tre.pathOk [] = false := by decide
theorem ent_find {ts : List Tre.Fl} (g : Tre.Good ts) {n : List UInt8} (hn : n ∈ Tre.namesOf ts) (k : Nat) : Tre.ent k (Tre.group ts n) = if (Tre.find ts n).2 = true then Tre.fid (Tre.find ts n).1 else Tre.pid k (Tre.group ts n) := by
  obtain ⟨f, hf, e⟩ := List.mem_map.1 (((Tre.names_spec ts).2 n).1 hn)
  have hpure : ∀ x ∈ n, x ≠ 47 := fun x hx => by rw [← e] at hx; exact Tre.name_pure _ x hx
  cases h : (Tre.find ts n).2 with
  | true =>
    obtain ⟨f2, hf2, e2, hd⟩ := Tre.find_mem h
    have h1 := g.alone hf2 (fun x hx => hpure x (e2 ▸ hx))
    rw [e2] at h1
    rw [h1, if_pos rfl, hd]
    rfl
  | false =>
    have hne := (Tre.find_none h).1
    obtain ⟨f3, r, e3⟩ := List.exists_cons_of_ne_nil (name_len g hn).2
    have gg := g.group hne
    rw [e3] at gg ⊢
    have h3 := gg.ok f3 (by simp)
    rw [if_neg (by decide)]
    exact if_neg fun hp => by rw [hp, pathOk_nil] at h3; cases h3
theorem filterMap_if {α β : Type} (P : α → Bool) (F : α → β) (l : List α) : l.filterMap (fun x => if (true && P x) = true then some (F x) else none) = (l.filter P).map F := by
  induction l with
  | nil => rfl
  | cons x l ih =>
    rw [List.filterMap_cons]
    cases h : P x with
    | true => simp only [Bool.and_self, if_true]; rw [ih, List.filter_cons_of_pos h, List.map_cons]
    | false => simp only [Bool.and_false, Bool.false_eq_true, if_false]; rw [ih, List.filter_cons_of_neg (by rw [h]; decide)]
theorem und_group {ts : List Tre.Fl} (g : Tre.Good ts) {n : List UInt8} (hn : n ∈ Tre.namesOf ts) (h : (Tre.find ts n).2 = false) : undQ ts n = Tre.group ts n := by
  obtain ⟨f, hf, e⟩ := List.mem_map.1 (((Tre.names_spec ts).2 n).1 hn)
  have hpure : ∀ x ∈ n, x ≠ 47 := fun x hx => by rw [← e] at hx; exact Tre.name_pure _ x hx
  have hpart : Tre.part n = true := by rw [← e]; exact Tre.ok_name (g.ok f hf)
  rw [undQ_def, if_neg (fun hc => hc ((Tre.good_iff ts).2 g)), if_neg (Tre.part_ne hpart), Tre.part_ok hpart hpure, filterMap_if]
  exact (Tre.under_eq hpure (Tre.find_none h).1).symm
theorem take_has (ns : List (List UInt8)) (j : Nat) (h : j < ns.length) (x : List UInt8) : (ns.take (j + 1)).contains x = ((ns.take j).contains x || (x == ns[j])) := by
  rw [List.take_succ_eq_append_getElem h, List.contains_eq_any_beq, List.any_append, List.contains_eq_any_beq]
  simp
theorem insD_known {ns : List (List UInt8)} {j : Nat} {x : List UInt8} (h : (ns.take j).contains x = true) : Tre.insD ns x = ns := by
  unfold Tre.insD
  rw [if_pos]
  rw [List.contains_iff_mem] at h ⊢
  exact List.mem_of_mem_take h
theorem insD_new {ns : List (List UInt8)} (hr : Tre.Rising ns) {j : Nat} {x : List UInt8} (hj : j ≤ ns.length) (h : (ns.take j).contains x = false) (hlo : ∀ i (hi : i < ns.length), i < j → Op.bytesLess ns[i] x = true ∨ ns[i] = x)
    (hhi : ∀ (hi : j < ns.length), ¬ (Op.bytesLess ns[j] x = true ∨ ns[j] = x)) : Tre.insD ns x = ns.take j ++ x :: ns.drop j := by
  refine Tre.insD_at hr x j hj ?_ hlo hhi
  rw [Bool.eq_false_iff, Ne, List.contains_iff_mem]
  intro hm
  rw [← List.take_append_drop j ns, List.mem_append] at hm
  rcases hm with hm | hm
  · have : (ns.take j).contains x = true := List.contains_iff_mem.2 hm
    rw [h] at this; cases this
  · obtain ⟨i, hi, e⟩ := List.getElem_of_mem hm
    rw [List.length_drop] at hi
    rw [List.getElem_drop] at e
    have hjl : j < ns.length := by omega
    by_cases h0 : i = 0
    · subst h0
      exact hhi hjl (.inr e)
    · have h2 : Op.bytesLess ns[j] ns[j + i] = true := List.pairwise_iff_getElem.1 hr j (j + i) hjl (by omega) (by omega)
      rw [e] at h2
      exact hhi hjl (.inl h2)
theorem ins_row {cur : List Value} {ns : List (List UInt8)} {j : Nat} {x : List UInt8} {z : Value} (hc : cur.take (ns.length + 1) = strs ns ++ [z]) (hl : ns.length + 1 ≤ cur.length) (hj : j ≤ ns.length) :
    ((splice cur (j + 1) (strs (ns.drop j))).set j (.string (str x))).take (ns.length + 1) = strs (ns.take j ++ x :: ns.drop j) := by
  have hs : (strs (ns.drop j)).length = ns.length - j := by rw [strs_len, List.length_drop]
  have hsl : (splice cur (j + 1) (strs (ns.drop j))).length = cur.length := length_splice _ _ _ (by rw [hs]; omega)
  apply List.ext_getElem?
  intro i
  by_cases hi : i < ns.length + 1
  · rw [List.getElem?_take_of_lt hi]
    by_cases h1 : i = j
    · subst h1
      rw [List.getElem?_set_self (by rw [hsl]; omega)]
      unfold strs
      rw [List.map_append, List.getElem?_append_right (by simp; omega), List.map_cons]
      simp [Nat.min_eq_left hj]
    · rw [List.getElem?_set_ne (by omega)]
      unfold splice
      by_cases h2 : i < j
      · rw [List.getElem?_append_left (by simp; omega), List.getElem?_take_of_lt (by omega)]
        have h3 : cur[i]? = (strs ns ++ [z])[i]? := by rw [← hc, List.getElem?_take_of_lt hi]
        rw [h3, List.getElem?_append_left (by rw [strs_len]; omega)]
        unfold strs
        rw [List.map_append, List.getElem?_append_left (by simp; omega), List.map_take, List.getElem?_take_of_lt h2]
      · have hij : j + 1 ≤ i := by omega
        rw [List.getElem?_append_right (by simp; omega), List.length_take, Nat.min_eq_left (by omega), List.getElem?_append_left (by rw [hs]; omega)]
        unfold strs
        rw [List.map_append, List.getElem?_append_right (by simp; omega), List.map_cons, List.length_map, List.length_take, Nat.min_eq_left hj, show i - j = (i - (j + 1)) + 1 by omega, List.getElem?_cons_succ]
  · rw [List.getElem?_take_eq_none (by omega), List.getElem?_eq_none (by rw [strs_len, List.length_append, List.length_take, List.length_cons, List.length_drop]; omega)]
end Go.Proofs.YtjgjkbkpdpacnaaGreatDoor
