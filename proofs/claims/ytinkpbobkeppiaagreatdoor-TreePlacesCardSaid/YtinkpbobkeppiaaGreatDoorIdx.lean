/- Whether some file of a list is above or below a path. No condition but the list's length. -/
import Derived.Test.YtinkpbobkeppiaaGreatDoorFnd
namespace Go.Proofs.YtinkpbobkeppiaaGreatDoor
open Go.RowKit

theorem any_snoc {α : Type} (p : α → Bool) (zs : List α) (k : Nat) (h : k < zs.length) : (zs.take (k + 1)).any p = ((zs.take k).any p || p zs[k]) := by
  rw [List.take_succ_eq_append_getElem h, List.any_append]; simp
theorem any_hit {α : Type} (p : α → Bool) (zs : List α) (k : Nat) (h : k < zs.length) (hp : p zs[k] = true) : zs.any p = true := by
  rw [List.any_eq_true]
  exact ⟨zs[k], List.getElem_mem h, hp⟩
set_option maxHeartbeats 1000000 in
set_option maxRecDepth 100000 in
theorem belowSomeFn (b : Nat) (f : Tre.Fl) (p : ByteArray) (w : World) (k0 : w.cell? ⟨b, 0, none⟩ = some (.string p)) :
    Calls Tryz.prog 76 #[.agg #[.string (str f.path), .string (str f.data)], .pointer (some ⟨b, 0, none⟩)] w fun x w' => x = .returned (.bool (Tre.below p.data.toList f.path)) ∧ Below w.heap.size w w' := by
  have hb0 : Below w.heap.size w (w.alloc (.cells #[.string (str f.path), .string (str f.data)] 31)) := (Below.refl _ _).alloc (Nat.le_refl _) _
  have hlt := World.block_lt_of_cell? w _ k0
  have k1 := (hb0.cell (p := ⟨b, 0, none⟩) hlt).trans k0
  have hcall : ∀ w, Calls Tryz.prog 61 #[.string p, .string (str f.path)] w fun e w' => (∃ t, e = .returned (.tuple #[.string t, .bool (Tre.below p.data.toList f.path)])) ∧ w = w' := fun w => (inside_any p (str f.path) w).mono fun e w' h => ⟨⟨_, h.1⟩, h.2⟩
  generalize Tre.below p.data.toList f.path = v at *
  clear k0
  go_enter Tryz.func76, Tryz.ntmps76
  go_wp2_with (go_at_call 61; (with_reducible refine (hcall _).mono ?_); rintro e w' ⟨⟨t, rfl⟩, rfl⟩)
  go_ret
  exact ⟨rfl, hb0⟩
set_option maxHeartbeats 4000000 in
set_option maxRecDepth 100000 in
theorem belowSomeIdx (b : Nat) (A : Option Addr) (c : Nat) (ts : List Tre.Fl) (p : ByteArray) (w : World) (hA : FlsAt w w.heap.size A ts) (hl : ts.length ≤ 1000000000) (k0 : w.cell? ⟨b, 0, none⟩ = some (.string p)) :
    Calls Tryz.prog 98 #[.slice A ts.length c, .func (Fn.func 76) #[] #[.pointer (some ⟨b, 0, none⟩)]] w fun x w' => (∃ z : Int, x = .returned (.int .i64 z) ∧ decide (0 ≤ z) = ts.any fun f => Tre.below p.data.toList f.path) ∧ Below w.heap.size w w' := by
  have HV := Lib.hid (show (ts.any fun f => Tre.below p.data.toList f.path) = ts.any fun f => Tre.below p.data.toList f.path from rfl)
  generalize hv0 : (ts.any fun f => Tre.below p.data.toList f.path) = v at *
  clear HV
  have HV := Lib.hid hv0
  clear hv0
  have hb0 := World.block_lt_of_cell? w _ k0
  go_enter Tryz.func98, Tryz.ntmps98
  go_wp2_with fail
  go_loopw [8] (fun i wr => ∃ k : Nat, k ≤ ts.length ∧ i = .int .i64 k ∧ ((ts.take k).any fun f => Tre.below p.data.toList f.path) = false ∧ Below w.heap.size w wr) (fun i _ => ts.length - (intOf i).toNat)
  case atStart => exact ⟨0, by omega, rfl, by simp, Below.refl _ _⟩
  case round =>
    obtain ⟨k, hk, rfl, hno, hb⟩ := hrel
    have HNO := Lib.hid hno
    clear hno
    by_cases hlt : k < ts.length
    · have b1 : decide ((k : Int) < ts.length) = true := by simp; omega
      have b1n : decide (k < ts.length) = true := by simp; omega
      obtain ⟨g, o, rfl, hg, hc0, hc1⟩ := hA k hlt
      have hd0 := (hb.cell (p := ⟨g, o + k * 2, none⟩) hg).trans hc0
      have hd1 := (hb.cell (p := ⟨g, o + k * 2 + 1, none⟩) hg).trans hc1
      have hsn := any_snoc (fun f => Tre.below p.data.toList f.path) ts k hlt
      rw [HNO.out, Bool.false_or] at hsn
      have hhit := any_hit (fun f => Tre.below p.data.toList f.path) ts k hlt
      have hki : (k : Int) < (ts.length : Int) := by omega
      have hcall := belowSomeFn b ts[k] p wr ((hb.cell (p := ⟨b, 0, none⟩) hb0).trans k0)
      clear hc0 hc1 HNO
      generalize ts[k] = f at *
      cases hp : Tre.below p.data.toList f.path with
      | true =>
        have HT := Lib.hid (show v = true by rw [← HV.out]; exact hhit hp)
        rw [hp] at hcall
        clear hsn hhit hp
        go_wp2_with fail
        with_reducible refine hcall.mono ?_
        clear hcall
        rintro e w2 ⟨rfl, hb2⟩
        replace hb := hb.trans (hb2.mono hb.size)
        clear hb2
        go_wp2_with fail
        go_ret
        exact ⟨⟨_, rfl, by rw [HT.out]; simp⟩, hb⟩
      | false =>
        have HT := Lib.hid (hsn.trans hp)
        rw [hp] at hcall
        clear hsn hhit hp
        go_wp2_with fail
        with_reducible refine hcall.mono ?_
        clear hcall
        rintro e w2 ⟨rfl, hb2⟩
        replace hb := hb.trans (hb2.mono hb.size)
        clear hb2
        go_wp2_with fail
        go_roundw
        case rel => exact ⟨k + 1, by omega, by go_num, HT.out, hb⟩
        case measure => simp [intOf]; omega
    · have b1 : decide ((k : Int) < ts.length) = false := by simp; omega
      have b1n : decide (k < ts.length) = false := by simp; omega
      have HT := Lib.hid (show v = false by
        have h := HNO.out
        rw [show k = ts.length by omega, List.take_length] at h
        rw [← HV.out]; exact h)
      clear HNO
      go_wp2_with fail
      go_ret
      exact ⟨⟨_, rfl, by rw [HT.out]; rfl⟩, hb⟩
set_option maxHeartbeats 1000000 in
set_option maxRecDepth 100000 in
theorem belowSome_any (A : Option Addr) (c : Nat) (ts : List Tre.Fl) (p : ByteArray) (w : World) (hA : FlsAt w w.heap.size A ts) (hl : ts.length ≤ 1000000000) :
    Calls Tryz.prog 49 #[.string p, .slice A ts.length c] w fun x w' => x = .returned (.bool (ts.any fun f => Tre.below p.data.toList f.path)) ∧ Below w.heap.size w w' := by
  have hb0 : Below w.heap.size w (w.alloc (.cells #[.string p] 9)) := (Below.refl _ _).alloc (Nat.le_refl _) _
  have k0 : (w.alloc (.cells #[.string p] 9)).cell? ⟨w.heap.size, 0, none⟩ = some (.string p) := by rw [cell_of_row _ _ _ _ _ _ (heap_alloc_new w _)]; rfl
  have hidx := belowSomeIdx w.heap.size A c ts p _ (hA.next hb0) hl k0
  generalize (ts.any fun f => Tre.below p.data.toList f.path) = v at *
  have hcall : Calls Tryz.prog 75 #[.slice A ts.length c, .func (Fn.func 76) #[] #[.pointer (some ⟨w.heap.size, 0, none⟩)]] (w.alloc (.cells #[.string p] 9)) fun x w' => x = .returned (.bool v) ∧ Below (w.alloc (.cells #[.string p] 9)).heap.size (w.alloc (.cells #[.string p] 9)) w' := by
    clear k0
    generalize w.alloc (.cells #[.string p] 9) = W at *
    go_enter Tryz.func75, Tryz.ntmps75
    go_wp2_with fail
    with_reducible refine hidx.mono ?_
    clear hidx
    rintro e w2 ⟨⟨z, rfl, hz⟩, hb2⟩
    cases v with
    | true =>
      go_wp2_with fail
      go_ret
      exact ⟨rfl, hb2⟩
    | false =>
      go_wp2_with fail
      go_ret
      exact ⟨rfl, hb2⟩
  clear hidx k0
  go_enter Tryz.func49, Tryz.ntmps49
  go_wp2_with fail
  with_reducible refine hcall.mono ?_
  clear hcall
  rintro e w2 ⟨rfl, hb2⟩
  go_wp2_with fail
  go_ret
  exact ⟨rfl, hb0.trans (hb2.mono hb0.size)⟩
set_option maxHeartbeats 1000000 in
set_option maxRecDepth 100000 in
theorem aboveSomeFn (b : Nat) (f : Tre.Fl) (p : ByteArray) (w : World) (k0 : w.cell? ⟨b, 0, none⟩ = some (.string p)) :
    Calls Tryz.prog 77 #[.agg #[.string (str f.path), .string (str f.data)], .pointer (some ⟨b, 0, none⟩)] w fun x w' => x = .returned (.bool (Tre.below f.path p.data.toList)) ∧ Below w.heap.size w w' := by
  have hb0 : Below w.heap.size w (w.alloc (.cells #[.string (str f.path), .string (str f.data)] 31)) := (Below.refl _ _).alloc (Nat.le_refl _) _
  have hlt := World.block_lt_of_cell? w _ k0
  have k1 := (hb0.cell (p := ⟨b, 0, none⟩) hlt).trans k0
  have hcall : ∀ w, Calls Tryz.prog 61 #[.string (str f.path), .string p] w fun e w' => (∃ t, e = .returned (.tuple #[.string t, .bool (Tre.below f.path p.data.toList)])) ∧ w = w' := fun w => (inside_any (str f.path) p w).mono fun e w' h => ⟨⟨_, h.1⟩, h.2⟩
  generalize Tre.below f.path p.data.toList = v at *
  clear k0
  go_enter Tryz.func77, Tryz.ntmps77
  go_wp2_with (go_at_call 61; (with_reducible refine (hcall _).mono ?_); rintro e w' ⟨⟨t, rfl⟩, rfl⟩)
  go_ret
  exact ⟨rfl, hb0⟩
set_option maxHeartbeats 4000000 in
set_option maxRecDepth 100000 in
theorem aboveSomeIdx (b : Nat) (A : Option Addr) (c : Nat) (ts : List Tre.Fl) (p : ByteArray) (w : World) (hA : FlsAt w w.heap.size A ts) (hl : ts.length ≤ 1000000000) (k0 : w.cell? ⟨b, 0, none⟩ = some (.string p)) :
    Calls Tryz.prog 98 #[.slice A ts.length c, .func (Fn.func 77) #[] #[.pointer (some ⟨b, 0, none⟩)]] w fun x w' => (∃ z : Int, x = .returned (.int .i64 z) ∧ decide (0 ≤ z) = ts.any fun f => Tre.below f.path p.data.toList) ∧ Below w.heap.size w w' := by
  have HV := Lib.hid (show (ts.any fun f => Tre.below f.path p.data.toList) = ts.any fun f => Tre.below f.path p.data.toList from rfl)
  generalize hv0 : (ts.any fun f => Tre.below f.path p.data.toList) = v at *
  clear HV
  have HV := Lib.hid hv0
  clear hv0
  have hb0 := World.block_lt_of_cell? w _ k0
  go_enter Tryz.func98, Tryz.ntmps98
  go_wp2_with fail
  go_loopw [8] (fun i wr => ∃ k : Nat, k ≤ ts.length ∧ i = .int .i64 k ∧ ((ts.take k).any fun f => Tre.below f.path p.data.toList) = false ∧ Below w.heap.size w wr) (fun i _ => ts.length - (intOf i).toNat)
  case atStart => exact ⟨0, by omega, rfl, by simp, Below.refl _ _⟩
  case round =>
    obtain ⟨k, hk, rfl, hno, hb⟩ := hrel
    have HNO := Lib.hid hno
    clear hno
    by_cases hlt : k < ts.length
    · have b1 : decide ((k : Int) < ts.length) = true := by simp; omega
      have b1n : decide (k < ts.length) = true := by simp; omega
      obtain ⟨g, o, rfl, hg, hc0, hc1⟩ := hA k hlt
      have hd0 := (hb.cell (p := ⟨g, o + k * 2, none⟩) hg).trans hc0
      have hd1 := (hb.cell (p := ⟨g, o + k * 2 + 1, none⟩) hg).trans hc1
      have hsn := any_snoc (fun f => Tre.below f.path p.data.toList) ts k hlt
      rw [HNO.out, Bool.false_or] at hsn
      have hhit := any_hit (fun f => Tre.below f.path p.data.toList) ts k hlt
      have hki : (k : Int) < (ts.length : Int) := by omega
      have hcall := aboveSomeFn b ts[k] p wr ((hb.cell (p := ⟨b, 0, none⟩) hb0).trans k0)
      clear hc0 hc1 HNO
      generalize ts[k] = f at *
      cases hp : Tre.below f.path p.data.toList with
      | true =>
        have HT := Lib.hid (show v = true by rw [← HV.out]; exact hhit hp)
        rw [hp] at hcall
        clear hsn hhit hp
        go_wp2_with fail
        with_reducible refine hcall.mono ?_
        clear hcall
        rintro e w2 ⟨rfl, hb2⟩
        replace hb := hb.trans (hb2.mono hb.size)
        clear hb2
        go_wp2_with fail
        go_ret
        exact ⟨⟨_, rfl, by rw [HT.out]; simp⟩, hb⟩
      | false =>
        have HT := Lib.hid (hsn.trans hp)
        rw [hp] at hcall
        clear hsn hhit hp
        go_wp2_with fail
        with_reducible refine hcall.mono ?_
        clear hcall
        rintro e w2 ⟨rfl, hb2⟩
        replace hb := hb.trans (hb2.mono hb.size)
        clear hb2
        go_wp2_with fail
        go_roundw
        case rel => exact ⟨k + 1, by omega, by go_num, HT.out, hb⟩
        case measure => simp [intOf]; omega
    · have b1 : decide ((k : Int) < ts.length) = false := by simp; omega
      have b1n : decide (k < ts.length) = false := by simp; omega
      have HT := Lib.hid (show v = false by
        have h := HNO.out
        rw [show k = ts.length by omega, List.take_length] at h
        rw [← HV.out]; exact h)
      clear HNO
      go_wp2_with fail
      go_ret
      exact ⟨⟨_, rfl, by rw [HT.out]; rfl⟩, hb⟩
set_option maxHeartbeats 1000000 in
set_option maxRecDepth 100000 in
theorem aboveSome_any (A : Option Addr) (c : Nat) (ts : List Tre.Fl) (p : ByteArray) (w : World) (hA : FlsAt w w.heap.size A ts) (hl : ts.length ≤ 1000000000) :
    Calls Tryz.prog 51 #[.string p, .slice A ts.length c] w fun x w' => x = .returned (.bool (ts.any fun f => Tre.below f.path p.data.toList)) ∧ Below w.heap.size w w' := by
  have hb0 : Below w.heap.size w (w.alloc (.cells #[.string p] 9)) := (Below.refl _ _).alloc (Nat.le_refl _) _
  have k0 : (w.alloc (.cells #[.string p] 9)).cell? ⟨w.heap.size, 0, none⟩ = some (.string p) := by rw [cell_of_row _ _ _ _ _ _ (heap_alloc_new w _)]; rfl
  have hidx := aboveSomeIdx w.heap.size A c ts p _ (hA.next hb0) hl k0
  generalize (ts.any fun f => Tre.below f.path p.data.toList) = v at *
  have hcall : Calls Tryz.prog 75 #[.slice A ts.length c, .func (Fn.func 77) #[] #[.pointer (some ⟨w.heap.size, 0, none⟩)]] (w.alloc (.cells #[.string p] 9)) fun x w' => x = .returned (.bool v) ∧ Below (w.alloc (.cells #[.string p] 9)).heap.size (w.alloc (.cells #[.string p] 9)) w' := by
    clear k0
    generalize w.alloc (.cells #[.string p] 9) = W at *
    go_enter Tryz.func75, Tryz.ntmps75
    go_wp2_with fail
    with_reducible refine hidx.mono ?_
    clear hidx
    rintro e w2 ⟨⟨z, rfl, hz⟩, hb2⟩
    cases v with
    | true =>
      go_wp2_with fail
      go_ret
      exact ⟨rfl, hb2⟩
    | false =>
      go_wp2_with fail
      go_ret
      exact ⟨rfl, hb2⟩
  clear hidx k0
  go_enter Tryz.func51, Tryz.ntmps51
  go_wp2_with fail
  with_reducible refine hcall.mono ?_
  clear hcall
  rintro e w2 ⟨rfl, hb2⟩
  go_wp2_with fail
  go_ret
  exact ⟨rfl, hb0.trans (hb2.mono hb0.size)⟩
end Go.Proofs.YtinkpbobkeppiaaGreatDoor
