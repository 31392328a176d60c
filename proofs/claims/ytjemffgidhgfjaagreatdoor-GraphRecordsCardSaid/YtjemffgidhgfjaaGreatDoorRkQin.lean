/- Insert of the reference. No condition but the lengths. -/
import Derived.Test.YtjemffgidhgfjaaGreatDoorRkApp
import Derived.Test.YtjemffgidhgfjaaGreatDoorRkSrc
namespace Go.Proofs.YtjemffgidhgfjaaGreatDoor.Rk
open Go.RowKit Go.Deep Tr

namespace Rc
abbrev Asc (l : List (List UInt8)) : Prop := l.Pairwise fun a b => Op.bytesLess a b = true
/-- L is l with s. -/
def InsP (l : List (List UInt8)) (s : List UInt8) (L : List (List UInt8)) : Prop := ∃ k, k ≤ l.length ∧ (∀ j (h : j < l.length), j < k → Op.bytesLess l[j] s = true) ∧ (∀ h : k < l.length, Op.bytesLess l[k] s = false) ∧ L = if l[k]? = some s then l else l.take k ++ s :: l.drop k
theorem InsP.asc {l L : List (List UInt8)} {s : List UInt8} (h : InsP l s L) (hl : Asc l) : Asc L ∧ (∀ x, x ∈ L ↔ x ∈ l ∨ x = s) ∧ L.length ≤ l.length + 1 := by
  obtain ⟨k, hk, h1, h2, rfl⟩ := h
  by_cases he : l[k]? = some s
  · rw [if_pos he]
    refine ⟨hl, fun x => ⟨.inl, fun h => h.elim id fun e => ?_⟩, by omega⟩
    subst e
    exact List.mem_of_getElem? he
  · rw [if_neg he]
    have hlow : ∀ a ∈ l.take k, Op.bytesLess a s = true := fun a ha => by
      obtain ⟨j, hj, rfl⟩ := List.mem_take_iff_getElem.1 ha
      exact h1 j (by omega) (by omega)
    have hhigh : ∀ b ∈ l.drop k, Op.bytesLess s b = true := fun b hb => by
      obtain ⟨j, hj, e⟩ := List.mem_iff_getElem.1 hb
      rw [List.length_drop] at hj
      rw [List.getElem_drop] at e
      have hkl : k < l.length := by omega
      have hs : Op.bytesLess s l[k] = true := by
        rcases Tre.bl_total s l[k] with h | h | h
        · exact h
        · exact absurd (by rw [List.getElem?_eq_getElem hkl, h]) he
        · rw [h2 hkl] at h; cases h
      by_cases hj0 : j = 0
      · subst hj0; subst e; exact hs
      · subst e
        exact Tre.bl_trans _ _ _ hs (List.pairwise_iff_getElem.1 hl k (k + j) hkl (by omega) (by omega))
    refine ⟨?_, fun x => ?_, by rw [List.length_append, List.length_cons, List.length_take, List.length_drop]; omega⟩
    · refine List.pairwise_append.2 ⟨hl.sublist (List.take_sublist _ _), List.pairwise_cons.2 ⟨hhigh, hl.sublist (List.drop_sublist _ _)⟩, fun a ha b hb => ?_⟩
      rcases List.mem_cons.1 hb with rfl | hb
      · exact hlow a ha
      · exact Tre.bl_trans _ _ _ (hlow a ha) (hhigh b hb)
    · rw [List.mem_append, List.mem_cons]
      conv => rhs; rw [← List.take_append_drop k l, List.mem_append]
      constructor
      · rintro (h | h | h)
        · exact .inl (.inl h)
        · exact .inr h
        · exact .inl (.inr h)
      · rintro ((h | h) | h)
        · exact .inl h
        · exact .inr (.inr h)
        · exact .inr (.inl h)
theorem st_take {w : World} {B : Nat} {A : Option Addr} {l : List (List UInt8)} (h : StAt w B A l) (k : Nat) : StAt w B A (l.take k) := fun j hj => by
  rw [List.length_take] at hj
  obtain ⟨g, o, e, hg, hc⟩ := h j (by omega)
  exact ⟨g, o, e, hg, fun i u hu => hc i u (by rw [List.getElem_take] at hu; exact hu)⟩
theorem st_drop {w : World} {B g o : Nat} {l : List (List UInt8)} (h : StAt w B (some ⟨g, o, none⟩) l) (k : Nat) : StAt w B (some ⟨g, o + k, none⟩) (l.drop k) := fun j hj => by
  rw [List.length_drop] at hj
  obtain ⟨g', o', e, hg, hc⟩ := h (k + j) (by omega)
  simp only [Option.some.injEq, Addr.mk.injEq, and_true] at e
  obtain ⟨rfl, rfl⟩ := e
  refine ⟨g, o + k, rfl, hg, fun i u hu => ?_⟩
  rw [List.getElem_drop] at hu
  rw [show o + k + j * 1 + i = o + (k + j) * 1 + i by omega]
  exact hc i u hu
end Rc
/-- A list of texts comes back, in a place. -/
def GotS (w : World) (P : List (List UInt8) → Prop) (e : Ending) (w' : World) : Prop := ∃ (L : List (List UInt8)) (g o c : Nat), e = .returned (.slice (some ⟨g, o, none⟩) L.length c) ∧ P L ∧ L.length ≤ c ∧ c ≤ maxLen ∧ Rc.StAt w' w'.heap.size (some ⟨g, o, none⟩) L ∧ Below w.heap.size w w'
set_option maxHeartbeats 4000000 in
set_option maxRecDepth 100000 in
theorem qinsert_any (l : List (List UInt8)) (s : List UInt8) (g o c : Nat) (w : World) (hA : Rc.StAt w w.heap.size (some ⟨g, o, none⟩) l) (hl : l.length ≤ 1000000000) (hn : l.length ≤ 10000000) (hlc : l.length ≤ c) (hcm : c ≤ maxLen) :
    Calls Tryz.prog 34 #[.slice (some ⟨g, o, none⟩) l.length c, .string (str s)] w (GotS w (Rc.InsP l s)) := by
  have HA := Lib.hid hA
  clear hA
  go_enter Tryz.func34, Tryz.ntmps34
  go_wp2_with fail
  go_loopw [5] (fun s5 wr => ∃ k : Nat, s5 = .int .i64 k ∧ k ≤ l.length ∧ (∀ j (h : j < l.length), j < k → Op.bytesLess l[j] s = true) ∧ wr = w) (fun s5 _ => l.length - (intOf s5).toNat)
  case atStart => exact ⟨0, rfl, Nat.zero_le _, fun j _ h => (by omega), rfl⟩
  case round =>
    obtain ⟨k, rfl, hk, hall, hw⟩ := hrel
    have HAL := Lib.hid hall
    have HW := Lib.hid hw
    clear hall hw
    by_cases hlt : k < l.length
    · have c1 : decide ((k : Int) < (l.length : Int)) = true := decide_eq_true (by omega)
      have c1n : decide (k < l.length) = true := decide_eq_true hlt
      have y1 : (k : Int) < (l.length : Int) := by omega
      obtain ⟨g', o', e, hg, hc⟩ := st_cell HA.out hlt
      simp only [Option.some.injEq, Addr.mk.injEq, and_true] at e
      obtain ⟨rfl, rfl⟩ := e
      rw [← HW.out] at hc
      cases hb : Op.bytesLess l[k] s with
      | true =>
        have HN := Lib.hid (show ∀ j (h : j < l.length), j < k + 1 → Op.bytesLess l[j] s = true from fun j h hjk => by
          by_cases e : j = k
          · subst e; exact hb
          · exact HAL.out j h (by omega))
        have o1 : Op.bytesLess (str l[k]).toList (str s).toList = true := by rw [strL, strL]; exact hb
        generalize l[k] = x at *
        clear hb
        go_wp2_with fail
        go_roundw
        case rel => exact ⟨k + 1, by go_num, by omega, HN.out, HW.out⟩
        case measure => simp [intOf]; omega
      | false =>
        have o1 : Op.bytesLess (str l[k]).toList (str s).toList = false := by rw [strL, strL]; exact hb
        by_cases he : l[k] = s
        · have HP := Lib.hid (show Rc.InsP l s l from ⟨k, hk, HAL.out, fun _ => hb, by rw [if_pos (by rw [List.getElem?_eq_getElem hlt, he])]⟩)
          have o2 : ((str l[k]).toList == (str s).toList) = true := by rw [strL, strL, he]; exact beq_self_eq_true _
          generalize l[k] = x at *
          clear hb he
          go_wp2_with fail
          first | go_ret3 | go_ret2 | go_ret
          refine ⟨l, g, o, c, rfl, HP.out, hlc, hcm, ?_, ?_⟩
          · rw [HW.out]; exact HA.out
          · rw [HW.out]; exact Below.refl _ _
        · have HP := Lib.hid (show Rc.InsP l s (l.take k ++ [s] ++ l.drop k) from ⟨k, hk, HAL.out, fun _ => hb, by rw [if_neg (by rw [List.getElem?_eq_getElem hlt]; exact fun h => he (Option.some.inj h)), List.append_assoc]; rfl⟩)
          have o2 : ((str l[k]).toList == (str s).toList) = false := by rw [strL, strL, beq_eq_false_iff_ne]; exact he
          generalize l[k] = x at *
          clear hb he
          have hwr : Below w.heap.size w wr := by rw [HW.out]; exact Below.refl _ _
          have HKL := Lib.hid (show (l.take k).length = k by rw [List.length_take]; omega)
          have HDL := Lib.hid (show (l.drop k).length = l.length - k from List.length_drop)
          have k1 : ((k : Int) ≤ (l.length : Int)) := by omega
          have k2 : ((k : Int) ≤ (c : Int)) := by omega
          have k3 : k ≤ c := by omega
          have hb1 : Below wr.heap.size wr (wr.alloc (.cells #[] 9)) := (Below.refl _ _).alloc (Nat.le_refl _) _
          have ho1 := own_emptyR wr w.heap.size hwr.size 9 1
          have hB1 := hwr.trans (hb1.mono hwr.size)
          obtain ⟨v6, w6, hrun, hown6, hg6⟩ := app_st 22 (wr.alloc (.cells #[] 9)) w.heap.size _ [] (l.take k) ho1 (some ⟨g, o, none⟩) c (Rc.st_take (HA.out.next hB1) k) hB1.size (by rw [HKL.out]; simp; omega)
          rw [HKL.out] at hrun
          rw [List.nil_append] at hown6
          have HB6 := Lib.hid (hB1.trans (below_own ho1 hB1.size hg6))
          have HO6 := Lib.hid hown6
          clear hb1 ho1 hB1 hown6 hg6 hwr
          go_upto_region 7 with (at_builtin; refine Lib.wpList_append_run _ rfl _ _ _ _ rfl _ _ rfl rfl _ _ hrun ?_)
          clear hrun
          have hb2 : Below w6.heap.size w6 (w6.alloc (.cells #[.string (str s)] 9)) := (Below.refl _ _).alloc (Nat.le_refl _) _
          have ho2 := own_below HO6.out hb2
          have hB2 := HB6.out.trans (hb2.mono HB6.out.size)
          obtain ⟨v7, w7, hrun, hown7, hg7⟩ := app_st 22 (w6.alloc (.cells #[.string (str s)] 9)) w.heap.size _ (l.take k) [s] ho2 (some ⟨w6.heap.size, 0, none⟩) 1 (one_st w6 s) hB2.size (by rw [HKL.out]; simp; omega)
          have HB7 := Lib.hid (hB2.trans (below_own ho2 hB2.size hg7))
          have HO7 := Lib.hid hown7
          clear hb2 ho2 hB2 hown7 hg7 HB6 HO6
          go_upto_region 8 with (at_builtin; refine Lib.wpList_append_run _ rfl _ _ _ _ rfl _ _ rfl rfl _ _ hrun ?_)
          clear hrun
          by_cases hck : c = k
          · have hd : l.drop k = [] := List.drop_eq_nil_iff.2 (by omega)
            obtain ⟨v8, w8, hrun, hown8, hg8⟩ := app_st 22 w7 w.heap.size _ (l.take k ++ [s]) (l.drop k) HO7.out (some ⟨g, o, none⟩) 0 (by rw [hd]; exact Rc.ElAt.nil _ _ _ _ _) HB7.out.size (by rw [List.length_append, HKL.out, HDL.out]; simp; omega)
            rw [HDL.out, show l.length - k = 0 by omega] at hrun
            have HB8 := Lib.hid (HB7.out.trans (below_own HO7.out HB7.out.size hg8))
            obtain ⟨A8, c8, rfl, h81, h82, hel⟩ := Rc.own_el Rc.stV 1 Rc.stV_len hown8
            obtain ⟨g8, o8, rfl, _, _⟩ := hel.row (by rw [List.length_append, List.length_append]; simp; omega)
            have HE8 := Lib.hid hel
            generalize l.take k ++ [s] ++ l.drop k = L8 at *
            clear hown8 hg8 hel HKL HDL hd
            subst hck
            go_wp2_with (at_builtin; refine Lib.wpList_append_run _ rfl _ _ _ _ rfl _ _ rfl rfl _ _ hrun ?_)
            first | go_ret3 | go_ret2 | go_ret
            exact ⟨_, g8, o8, c8, rfl, HP.out, h81, h82, HE8.out, HB8.out⟩
          · obtain ⟨v8, w8, hrun, hown8, hg8⟩ := app_st 22 w7 w.heap.size _ (l.take k ++ [s]) (l.drop k) HO7.out (some ⟨g, o + k, none⟩) (c - k) (Rc.st_drop (HA.out.next HB7.out) k) HB7.out.size (by rw [List.length_append, HKL.out, HDL.out]; simp; omega)
            rw [HDL.out] at hrun
            have HB8 := Lib.hid (HB7.out.trans (below_own HO7.out HB7.out.size hg8))
            obtain ⟨A8, c8, rfl, h81, h82, hel⟩ := Rc.own_el Rc.stV 1 Rc.stV_len hown8
            obtain ⟨g8, o8, rfl, _, _⟩ := hel.row (by rw [List.length_append, List.length_append]; simp; omega)
            have HE8 := Lib.hid hel
            generalize l.take k ++ [s] ++ l.drop k = L8 at *
            clear hown8 hg8 hel HKL HDL
            go_wp2_with (at_builtin; refine Lib.wpList_append_run _ rfl _ _ _ _ rfl _ _ rfl rfl _ _ hrun ?_)
            first | go_ret3 | go_ret2 | go_ret
            exact ⟨_, g8, o8, c8, rfl, HP.out, h81, h82, HE8.out, HB8.out⟩
    · have c1 : decide ((k : Int) < (l.length : Int)) = false := decide_eq_false (by omega)
      have c1n : decide (k < l.length) = false := decide_eq_false hlt
      have HP := Lib.hid (show Rc.InsP l s (l.take k ++ [s] ++ l.drop k) from ⟨k, hk, HAL.out, fun h => absurd h hlt, by rw [if_neg (by rw [List.getElem?_eq_none (by omega)]; simp), List.append_assoc]; rfl⟩)
      clear hlt
      have hwr : Below w.heap.size w wr := by rw [HW.out]; exact Below.refl _ _
      have HKL := Lib.hid (show (l.take k).length = k by rw [List.length_take]; omega)
      have HDL := Lib.hid (show (l.drop k).length = l.length - k from List.length_drop)
      have k1 : ((k : Int) ≤ (l.length : Int)) := by omega
      have k2 : ((k : Int) ≤ (c : Int)) := by omega
      have k3 : k ≤ c := by omega
      have hb1 : Below wr.heap.size wr (wr.alloc (.cells #[] 9)) := (Below.refl _ _).alloc (Nat.le_refl _) _
      have ho1 := own_emptyR wr w.heap.size hwr.size 9 1
      have hB1 := hwr.trans (hb1.mono hwr.size)
      obtain ⟨v6, w6, hrun, hown6, hg6⟩ := app_st 22 (wr.alloc (.cells #[] 9)) w.heap.size _ [] (l.take k) ho1 (some ⟨g, o, none⟩) c (Rc.st_take (HA.out.next hB1) k) hB1.size (by rw [HKL.out]; simp; omega)
      rw [HKL.out] at hrun
      rw [List.nil_append] at hown6
      have HB6 := Lib.hid (hB1.trans (below_own ho1 hB1.size hg6))
      have HO6 := Lib.hid hown6
      clear hb1 ho1 hB1 hown6 hg6 hwr
      go_upto_region 7 with (at_builtin; refine Lib.wpList_append_run _ rfl _ _ _ _ rfl _ _ rfl rfl _ _ hrun ?_)
      clear hrun
      have hb2 : Below w6.heap.size w6 (w6.alloc (.cells #[.string (str s)] 9)) := (Below.refl _ _).alloc (Nat.le_refl _) _
      have ho2 := own_below HO6.out hb2
      have hB2 := HB6.out.trans (hb2.mono HB6.out.size)
      obtain ⟨v7, w7, hrun, hown7, hg7⟩ := app_st 22 (w6.alloc (.cells #[.string (str s)] 9)) w.heap.size _ (l.take k) [s] ho2 (some ⟨w6.heap.size, 0, none⟩) 1 (one_st w6 s) hB2.size (by rw [HKL.out]; simp; omega)
      have HB7 := Lib.hid (hB2.trans (below_own ho2 hB2.size hg7))
      have HO7 := Lib.hid hown7
      clear hb2 ho2 hB2 hown7 hg7 HB6 HO6
      go_upto_region 8 with (at_builtin; refine Lib.wpList_append_run _ rfl _ _ _ _ rfl _ _ rfl rfl _ _ hrun ?_)
      clear hrun
      by_cases hck : c = k
      · have hd : l.drop k = [] := List.drop_eq_nil_iff.2 (by omega)
        obtain ⟨v8, w8, hrun, hown8, hg8⟩ := app_st 22 w7 w.heap.size _ (l.take k ++ [s]) (l.drop k) HO7.out (some ⟨g, o, none⟩) 0 (by rw [hd]; exact Rc.ElAt.nil _ _ _ _ _) HB7.out.size (by rw [List.length_append, HKL.out, HDL.out]; simp; omega)
        rw [HDL.out, show l.length - k = 0 by omega] at hrun
        have HB8 := Lib.hid (HB7.out.trans (below_own HO7.out HB7.out.size hg8))
        obtain ⟨A8, c8, rfl, h81, h82, hel⟩ := Rc.own_el Rc.stV 1 Rc.stV_len hown8
        obtain ⟨g8, o8, rfl, _, _⟩ := hel.row (by rw [List.length_append, List.length_append]; simp; omega)
        have HE8 := Lib.hid hel
        generalize l.take k ++ [s] ++ l.drop k = L8 at *
        clear hown8 hg8 hel HKL HDL hd
        subst hck
        go_wp2_with (at_builtin; refine Lib.wpList_append_run _ rfl _ _ _ _ rfl _ _ rfl rfl _ _ hrun ?_)
        first | go_ret3 | go_ret2 | go_ret
        exact ⟨_, g8, o8, c8, rfl, HP.out, h81, h82, HE8.out, HB8.out⟩
      · obtain ⟨v8, w8, hrun, hown8, hg8⟩ := app_st 22 w7 w.heap.size _ (l.take k ++ [s]) (l.drop k) HO7.out (some ⟨g, o + k, none⟩) (c - k) (Rc.st_drop (HA.out.next HB7.out) k) HB7.out.size (by rw [List.length_append, HKL.out, HDL.out]; simp; omega)
        rw [HDL.out] at hrun
        have HB8 := Lib.hid (HB7.out.trans (below_own HO7.out HB7.out.size hg8))
        obtain ⟨A8, c8, rfl, h81, h82, hel⟩ := Rc.own_el Rc.stV 1 Rc.stV_len hown8
        obtain ⟨g8, o8, rfl, _, _⟩ := hel.row (by rw [List.length_append, List.length_append]; simp; omega)
        have HE8 := Lib.hid hel
        generalize l.take k ++ [s] ++ l.drop k = L8 at *
        clear hown8 hg8 hel HKL HDL
        go_wp2_with (at_builtin; refine Lib.wpList_append_run _ rfl _ _ _ _ rfl _ _ rfl rfl _ _ hrun ?_)
        first | go_ret3 | go_ret2 | go_ret
        exact ⟨_, g8, o8, c8, rfl, HP.out, h81, h82, HE8.out, HB8.out⟩
end Go.Proofs.YtjemffgidhgfjaaGreatDoor.Rk
