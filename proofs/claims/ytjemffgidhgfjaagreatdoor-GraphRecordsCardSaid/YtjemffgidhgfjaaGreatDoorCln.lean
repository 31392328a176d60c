/- slices.Clone of touched files. No condition but the length. -/
import Derived.Test.YtjemffgidhgfjaaGreatDoorRkApp
namespace Go.Proofs.YtjemffgidhgfjaaGreatDoor
open Go.RowKit Go.Deep Tr

theorem tcV_one (x : Rk.Tch) : ∀ u ∈ Rk.Rc.tcV x, u.oneCell' = true := fun u hu => by
  simp only [Rk.Rc.tcV, List.mem_cons, List.not_mem_nil, or_false] at hu
  rcases hu with rfl | rfl <;> rfl
/-- append of touched files. -/
theorem app_tc (ty : TypeId) (w : World) (B : Nat) (v : Value) (xs ys : List Rk.Tch) (hown : w.ownsRow B 45 2 v xs.length (Rk.Rc.tcsV xs)) (A : Option Addr) (c : Nat) (hA : Rk.Rc.TcAt w w.heap.size A ys) (hB : B ≤ w.heap.size) (hlen : xs.length + ys.length ≤ 100000000) :
    ∃ v' w', (Builtin.append_ #[46, 46] ty #[v, .slice A ys.length c]).run Tryz.prog w = .ok v' w' ∧ w'.ownsRow B 45 2 v' (xs ++ ys).length (Rk.Rc.tcsV (xs ++ ys)) ∧ w.grownBy w' v.ownBlock := by
  obtain ⟨i1, hj0, hx0, hx1, hx2⟩ := info_parts Rk.infoTc
  exact Rk.Rc.app_el Rk.Rc.tcV 2 Rk.Rc.tcV_len tcV_one (by omega) Tryz.underlying46 hj0 hx0 hx1 hx2 rfl (by omega) ty w B v xs ys hown A c hA hB hlen
theorem nil_someT (a : Addr) (n c : Nat) (W : World) : (binOp BinOp.eql 46 (.slice (some a) n c) (.slice none 0 0)).run Tryz.prog W = .ok (.bool false) W := by kernel_rfl
/-- A row of its own comes back. -/
def GotCl (w : World) (l : List Rk.Tch) (e : Ending) (w' : World) : Prop := ∃ v, e = .returned v ∧ w'.ownsRow w.heap.size 45 2 v l.length (Rk.Rc.tcsV l) ∧ Below w.heap.size w w'
set_option maxHeartbeats 2000000 in
set_option maxRecDepth 100000 in
theorem clone_any (l : List Rk.Tch) (g o c : Nat) (w : World) (hA : Rk.Rc.TcAt w w.heap.size (some ⟨g, o, none⟩) l) (hl : l.length ≤ 1000000) :
    Calls Tryz.prog 27 #[.slice (some ⟨g, o, none⟩) l.length c] w (GotCl w l) := by
  have hb1 : Below w.heap.size w (w.alloc (.cells #[] 45)) := (Below.refl _ _).alloc (Nat.le_refl _) _
  have ho1 := Rk.own_emptyR w w.heap.size (Nat.le_refl _) 45 2
  obtain ⟨v6, w6, hrun, hown6, hg6⟩ := app_tc 46 (w.alloc (.cells #[] 45)) w.heap.size _ [] l ho1 (some ⟨g, o, none⟩) c (hA.next hb1) hb1.size (by simp; omega)
  rw [List.nil_append] at hown6
  have HB6 := Lib.hid (hb1.trans (Rk.below_own ho1 hb1.size hg6))
  have HO6 := Lib.hid hown6
  have hcmp := nil_someT ⟨g, o, none⟩ l.length c
  clear hA hb1 ho1 hg6 hown6
  go_enter Tryz.func27, Tryz.ntmps27
  go_wp2_with (at_builtin; refine Lib.wpList_append_run _ rfl _ _ _ _ rfl _ _ rfl rfl _ _ hrun ?_)
  first | go_ret3 | go_ret2 | go_ret
  exact ⟨_, rfl, HO6.out, HB6.out⟩
end Go.Proofs.YtjemffgidhgfjaaGreatDoor
