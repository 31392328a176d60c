/- The closures of the law LinesetLaws. Condition: bytealg's MaxLen lies in its variable. -/
import Derived.Test.YtcipgokcpankmaaDoorFew
import Derived.Deep.RegionHeld3
namespace Go.Proofs.YtcipgokcpankmaaDoor
open Go.RowKit Go.Deep Tr

/-- The two variables that the closures share lie, and all was well. -/
structure OkAt (w : World) (kb ob : Nat) : Prop where
  ok : w.heap[kb]? = some (.cells #[.bool true] 4 (0, 0))
  of : w.heap[ob]? = some (.cells #[.func (.func 27) #[] #[.pointer (some ⟨kb, 0, none⟩)]] 45 (0, 0))
theorem OkAt.next {w w' : World} {kb ob : Nat} (h : OkAt w kb ob) (hb : Below w.heap.size w w') : OkAt w' kb ob := ⟨(hb.block _ (blk_lt h.ok)).trans h.ok, (hb.block _ (blk_lt h.of)).trans h.of⟩
theorem below_same {w : World} {kb : Nat} (h : w.heap[kb]? = some (.cells #[.bool true] 4 (0, 0))) : Below w.heap.size w (w.setCell ⟨kb, 0, none⟩ (.bool true)) := by
  refine ⟨rfl, rfl, rfl, by simp, fun q hq => ?_⟩
  by_cases e : q = kb
  · subst e
    rw [heap_setCell_same w q 0 _ _ _ h, h]
    rfl
  · exact heap_setCell_other w ⟨kb, 0, none⟩ q _ e
set_option maxRecDepth 100000 in
theorem of1_any (A : Option Addr) (n c kb : Nat) (w : World) (hk : w.heap[kb]? = some (.cells #[.bool true] 4 (0, 0))) :
    Calls Tryd.prog 27 #[.slice A n c, .int .i64 0, .pointer (some ⟨kb, 0, none⟩)] w fun e w' => e = .returned (.slice A n c) ∧ Below w.heap.size w w' := by
  have e0 : w.cell? ⟨kb, 0, none⟩ = some (.bool true) := by rw [cell_of_row _ _ _ _ _ _ hk]; rfl
  have f0 := frozen_of_row w kb 0 _ _ hk
  have HB := Lib.hid (below_same hk)
  clear hk
  go_enter Tryd.func27, Tryd.ntmps27
  go_wp2_with fail
  go_ret
  exact ⟨rfl, HB.out⟩
/-- What an operation of the law leaves. -/
def GotR (w : World) (f : Bool → Bool → Bool) (a b : List Ls.Sp) : Ending → World → Prop := fun e w' => ∃ out A c, e = .returned (.slice A out.length c) ∧ Comb f a b out ∧ Ls.SpAt w' w'.heap.size A out ∧ Below w.heap.size w w'
theorem gotOp_ok {w w' : World} {f : Bool → Bool → Bool} {a b : List Ls.Sp} {e : Ending} (hv : (Ls.vld a && Ls.vld b) = true) (h : GotOp w f a b e w') : ∃ out A c, e = .returned (.tuple #[.slice A out.length c, .int .i64 0]) ∧ Comb f a b out ∧ Ls.SpAt w' w'.heap.size A out ∧ Below w.heap.size w w' := by
  obtain ⟨h1 | h1, hb⟩ := h
  · obtain ⟨_, out, A, c, h2, h3, h4⟩ := h1
    exact ⟨out, A, c, h2, h3, h4, hb⟩
  · rw [hv] at h1; cases h1.1
set_option maxHeartbeats 4000000 in
set_option maxRecDepth 100000 in
theorem lawunion_any (a b : List Ls.Sp) (A A' : Option Addr) (c c' kb ob : Nat) (w : World) (hA : SetAt w A a) (hB : SetAt w A' b) (hva : Ls.vld a = true) (hvb : Ls.vld b = true) (hM : MaxAt w) (hO : OkAt w kb ob) :
    Calls Tryd.prog 28 #[.slice A a.length c, .slice A' b.length c', .pointer (some ⟨ob, 0, none⟩)] w (GotR w (fun x y => x || y) a b) := by
  have h1 := union_any a b A A' c c' w.drew ⟨hA.at_, hA.len, hA.path⟩ ⟨hB.at_, hB.len, hB.path⟩ hM
  have e0 : w.cell? ⟨ob, 0, none⟩ = some (.func (.func 27) #[] #[.pointer (some ⟨kb, 0, none⟩)]) := by rw [cell_of_row _ _ _ _ _ _ hO.of]; rfl
  have HO := Lib.hid (show OkAt w.drew kb ob from ⟨hO.ok, hO.of⟩)
  have HV := Lib.hid (show (Ls.vld a && Ls.vld b) = true by rw [hva, hvb]; rfl)
  clear hA hB hva hvb hM hO
  go_enter Tryd.func28, Tryd.ntmps28
  go_upto_region 1 with (fail)
  go_region_held3 (fun w' => w'.cell? ⟨ob, 0, none⟩ = some (.func (.func 27) #[] #[.pointer (some ⟨kb, 0, none⟩)])) (first | exact e0 | exact s0 | exact t0) (first | (go_at_call 24; (with_reducible refine h1.mono ?_); rintro e w5 hgot; obtain ⟨out, A5, c5, rfl, hC5, hS5, hb5⟩ := gotOp_ok HV.out hgot; have hO5 := HO.out.next hb5; have s0 : w5.cell? ⟨ob, 0, none⟩ = some (.func (.func 27) #[] #[.pointer (some ⟨kb, 0, none⟩)]) := (by rw [cell_of_row _ _ _ _ _ _ hO5.of]; rfl); have h2 := of1_any A5 out.length c5 kb w5 hO5.ok) | (go_at_call 27; (with_reducible refine h2.mono ?_); rintro e w6 ⟨rfl, hb6⟩; have t0 : w6.cell? ⟨ob, 0, none⟩ = some (.func (.func 27) #[] #[.pointer (some ⟨kb, 0, none⟩)]) := (by rw [cell_of_row _ _ _ _ _ _ (hO5.next hb6).of]; rfl)))
  all_goals
    have H5 := Lib.hid hC5
    have H6 := Lib.hid (hS5.next hb6)
    have H7 := Lib.hid (((Below.refl w.heap.size w).drew).trans (hb5.trans (hb6.mono hb5.size)))
    clear hC5 hS5 hb5 hb6
    go_wp2_with fail
    go_ret
    exact ⟨out, A5, c5, rfl, H5.out, H6.out, H7.out⟩
set_option maxHeartbeats 4000000 in
set_option maxRecDepth 100000 in
theorem lawmeet_any (a b : List Ls.Sp) (A A' : Option Addr) (c c' kb ob : Nat) (w : World) (hA : SetAt w A a) (hB : SetAt w A' b) (hva : Ls.vld a = true) (hvb : Ls.vld b = true) (hM : MaxAt w) (hO : OkAt w kb ob) :
    Calls Tryd.prog 29 #[.slice A a.length c, .slice A' b.length c', .pointer (some ⟨ob, 0, none⟩)] w (GotR w (fun x y => x && y) a b) := by
  have h1 := meet_any a b A A' c c' w.drew ⟨hA.at_, hA.len, hA.path⟩ ⟨hB.at_, hB.len, hB.path⟩ hM
  have e0 : w.cell? ⟨ob, 0, none⟩ = some (.func (.func 27) #[] #[.pointer (some ⟨kb, 0, none⟩)]) := by rw [cell_of_row _ _ _ _ _ _ hO.of]; rfl
  have HO := Lib.hid (show OkAt w.drew kb ob from ⟨hO.ok, hO.of⟩)
  have HV := Lib.hid (show (Ls.vld a && Ls.vld b) = true by rw [hva, hvb]; rfl)
  clear hA hB hva hvb hM hO
  go_enter Tryd.func29, Tryd.ntmps29
  go_upto_region 1 with (fail)
  go_region_held3 (fun w' => w'.cell? ⟨ob, 0, none⟩ = some (.func (.func 27) #[] #[.pointer (some ⟨kb, 0, none⟩)])) (first | exact e0 | exact s0 | exact t0) (first | (go_at_call 25; (with_reducible refine h1.mono ?_); rintro e w5 hgot; obtain ⟨out, A5, c5, rfl, hC5, hS5, hb5⟩ := gotOp_ok HV.out hgot; have hO5 := HO.out.next hb5; have s0 : w5.cell? ⟨ob, 0, none⟩ = some (.func (.func 27) #[] #[.pointer (some ⟨kb, 0, none⟩)]) := (by rw [cell_of_row _ _ _ _ _ _ hO5.of]; rfl); have h2 := of1_any A5 out.length c5 kb w5 hO5.ok) | (go_at_call 27; (with_reducible refine h2.mono ?_); rintro e w6 ⟨rfl, hb6⟩; have t0 : w6.cell? ⟨ob, 0, none⟩ = some (.func (.func 27) #[] #[.pointer (some ⟨kb, 0, none⟩)]) := (by rw [cell_of_row _ _ _ _ _ _ (hO5.next hb6).of]; rfl)))
  all_goals
    have H5 := Lib.hid hC5
    have H6 := Lib.hid (hS5.next hb6)
    have H7 := Lib.hid (((Below.refl w.heap.size w).drew).trans (hb5.trans (hb6.mono hb5.size)))
    clear hC5 hS5 hb5 hb6
    go_wp2_with fail
    go_ret
    exact ⟨out, A5, c5, rfl, H5.out, H6.out, H7.out⟩
set_option maxHeartbeats 4000000 in
set_option maxRecDepth 100000 in
theorem lawminus_any (a b : List Ls.Sp) (A A' : Option Addr) (c c' kb ob : Nat) (w : World) (hA : SetAt w A a) (hB : SetAt w A' b) (hva : Ls.vld a = true) (hvb : Ls.vld b = true) (hM : MaxAt w) (hO : OkAt w kb ob) :
    Calls Tryd.prog 30 #[.slice A a.length c, .slice A' b.length c', .pointer (some ⟨ob, 0, none⟩)] w (GotR w (fun x y => x && !y) a b) := by
  have h1 := minus_any a b A A' c c' w.drew ⟨hA.at_, hA.len, hA.path⟩ ⟨hB.at_, hB.len, hB.path⟩ hM
  have e0 : w.cell? ⟨ob, 0, none⟩ = some (.func (.func 27) #[] #[.pointer (some ⟨kb, 0, none⟩)]) := by rw [cell_of_row _ _ _ _ _ _ hO.of]; rfl
  have HO := Lib.hid (show OkAt w.drew kb ob from ⟨hO.ok, hO.of⟩)
  have HV := Lib.hid (show (Ls.vld a && Ls.vld b) = true by rw [hva, hvb]; rfl)
  clear hA hB hva hvb hM hO
  go_enter Tryd.func30, Tryd.ntmps30
  go_upto_region 1 with (fail)
  go_region_held3 (fun w' => w'.cell? ⟨ob, 0, none⟩ = some (.func (.func 27) #[] #[.pointer (some ⟨kb, 0, none⟩)])) (first | exact e0 | exact s0 | exact t0) (first | (go_at_call 26; (with_reducible refine h1.mono ?_); rintro e w5 hgot; obtain ⟨out, A5, c5, rfl, hC5, hS5, hb5⟩ := gotOp_ok HV.out hgot; have hO5 := HO.out.next hb5; have s0 : w5.cell? ⟨ob, 0, none⟩ = some (.func (.func 27) #[] #[.pointer (some ⟨kb, 0, none⟩)]) := (by rw [cell_of_row _ _ _ _ _ _ hO5.of]; rfl); have h2 := of1_any A5 out.length c5 kb w5 hO5.ok) | (go_at_call 27; (with_reducible refine h2.mono ?_); rintro e w6 ⟨rfl, hb6⟩; have t0 : w6.cell? ⟨ob, 0, none⟩ = some (.func (.func 27) #[] #[.pointer (some ⟨kb, 0, none⟩)]) := (by rw [cell_of_row _ _ _ _ _ _ (hO5.next hb6).of]; rfl)))
  all_goals
    have H5 := Lib.hid hC5
    have H6 := Lib.hid (hS5.next hb6)
    have H7 := Lib.hid (((Below.refl w.heap.size w).drew).trans (hb5.trans (hb6.mono hb5.size)))
    clear hC5 hS5 hb5 hb6
    go_wp2_with fail
    go_ret
    exact ⟨out, A5, c5, rfl, H5.out, H6.out, H7.out⟩
end Go.Proofs.YtcipgokcpankmaaDoor
