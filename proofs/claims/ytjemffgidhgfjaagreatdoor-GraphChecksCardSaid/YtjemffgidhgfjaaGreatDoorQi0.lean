/- Insert of the reference, on nil. No condition. -/
import Derived.Test.YtjemffgidhgfjaaGreatDoorRkQin
namespace Go.Proofs.YtjemffgidhgfjaaGreatDoor
open Go.RowKit Go.Deep Tr

set_option maxHeartbeats 4000000 in
set_option maxRecDepth 100000 in
theorem qinsert_nil (s : List UInt8) (w : World) :
    Calls Tryz.prog 34 #[.slice none 0 0, .string (str s)] w (Rk.GotS w (Rk.Rc.InsP [] s)) := by
  have HP := Lib.hid (show Rk.Rc.InsP [] s [s] from ⟨0, Nat.le_refl _, fun j h => by simp at h, fun h => by simp at h, rfl⟩)
  go_enter Tryz.func34, Tryz.ntmps34
  go_wp2_with fail
  go_loopw [5] (fun s5 wr => s5 = .int .i64 0 ∧ wr = w) (fun _ _ => 0)
  case atStart => exact ⟨rfl, rfl⟩
  case round =>
    obtain ⟨rfl, hw⟩ := hrel
    have HBw := Lib.hid (show Below w.heap.size w wr by rw [hw]; exact Below.refl _ _)
    clear hw
    have hb1 : Below wr.heap.size wr (wr.alloc (.cells #[] 9)) := (Below.refl _ _).alloc (Nat.le_refl _) _
    have ho1 := Rk.own_emptyR wr w.heap.size HBw.out.size 9 1
    have hB1 := HBw.out.trans (hb1.mono HBw.out.size)
    obtain ⟨v6, w6, hrun, hown6, hg6⟩ := Rk.app_st 22 (wr.alloc (.cells #[] 9)) w.heap.size _ [] [] ho1 none 0 (Rk.Rc.ElAt.nil _ _ _ _ _) hB1.size (by simp)
    have HB6 := Lib.hid (hB1.trans (Rk.below_own ho1 hB1.size hg6))
    have HO6 := Lib.hid hown6
    clear hb1 ho1 hB1 hown6 hg6
    go_upto_region 7 with (at_builtin; refine Lib.wpList_append_run _ rfl _ _ _ _ rfl _ _ rfl rfl _ _ hrun ?_)
    clear hrun
    have hb2 : Below w6.heap.size w6 (w6.alloc (.cells #[.string (str s)] 9)) := (Below.refl _ _).alloc (Nat.le_refl _) _
    have ho2 := Rk.own_below HO6.out hb2
    have hB2 := HB6.out.trans (hb2.mono HB6.out.size)
    obtain ⟨v7, w7, hrun, hown7, hg7⟩ := Rk.app_st 22 (w6.alloc (.cells #[.string (str s)] 9)) w.heap.size _ ([] ++ []) [s] ho2 (some ⟨w6.heap.size, 0, none⟩) 1 (Rk.one_st w6 s) hB2.size (by simp)
    have HB7 := Lib.hid (hB2.trans (Rk.below_own ho2 hB2.size hg7))
    have HO7 := Lib.hid hown7
    clear hb2 ho2 hB2 hown7 hg7 HB6 HO6
    go_upto_region 8 with (at_builtin; refine Lib.wpList_append_run _ rfl _ _ _ _ rfl _ _ rfl rfl _ _ hrun ?_)
    clear hrun
    obtain ⟨v8, w8, hrun, hown8, hg8⟩ := Rk.app_st 22 w7 w.heap.size _ ([] ++ [] ++ [s]) [] HO7.out none 0 (Rk.Rc.ElAt.nil _ _ _ _ _) HB7.out.size (by simp)
    have HB8 := Lib.hid (HB7.out.trans (Rk.below_own HO7.out HB7.out.size hg8))
    obtain ⟨A8, c8, rfl, h81, h82, hel⟩ := Rk.Rc.own_el Rk.Rc.stV 1 Rk.Rc.stV_len hown8
    obtain ⟨g8, o8, rfl, _, _⟩ := hel.row (by simp)
    have HE8 := Lib.hid hel
    clear hown8 hg8 hel
    go_wp2_with (at_builtin; refine Lib.wpList_append_run _ rfl _ _ _ _ rfl _ _ rfl rfl _ _ hrun ?_)
    first | go_ret3 | go_ret2 | go_ret
    exact ⟨_, g8, o8, c8, rfl, HP.out, h81, h82, HE8.out, HB8.out⟩
end Go.Proofs.YtjemffgidhgfjaaGreatDoor
