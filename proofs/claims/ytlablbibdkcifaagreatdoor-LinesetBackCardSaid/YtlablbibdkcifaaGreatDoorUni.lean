/- Union, Meet and Minus of the program. Condition: bytealg's MaxLen lies in its variable. -/
import Derived.Test.YtlablbibdkcifaaGreatDoorVld
namespace Go.Proofs.YtlablbibdkcifaaGreatDoor
open Go.RowKit Go.Deep Tr

/-- A set where it lies. -/
structure SetAt (w : World) (A : Option Addr) (l : List Ls.Sp) : Prop where
  at_ : Ls.SpAt w w.heap.size A l
  len : l.length ≤ 100000
  path : ∀ s ∈ l, s.path.length ≤ 1000000
theorem SetAt.next {w w' : World} {A : Option Addr} {l : List Ls.Sp} (h : SetAt w A l) (hb : Below w.heap.size w w') : SetAt w' A l := ⟨h.at_.next hb, h.len, h.path⟩
/-- What an operation leaves: the set of the chosen lines, or ErrArg. -/
def Comb (f : Bool → Bool → Bool) (a b out : List Ls.Sp) : Prop := Ls.Valid out ∧ (∀ p m, Ls.has out p m = f (Ls.has a p m) (Ls.has b p m)) ∧ out.length ≤ 2 * a.length + 2 * b.length
def GotOp (w : World) (f : Bool → Bool → Bool) (a b : List Ls.Sp) : Ending → World → Prop := fun e w' => (((Ls.vld a && Ls.vld b) = true ∧ ∃ out A c, e = .returned (.tuple #[.slice A out.length c, .int .i64 0]) ∧ Comb f a b out ∧ Ls.SpAt w' w'.heap.size A out) ∨ ((Ls.vld a && Ls.vld b) = false ∧ e = .returned (.tuple #[.slice none 0 0, .int .i64 1]))) ∧ Below w.heap.size w w'
theorem own_sp {w : World} {B : Nat} {v : Value} {l : List Ls.Sp} (h : w.ownsRow B 32 3 v l.length (Ls.spsV l)) : ∃ A c, v = .slice A l.length c ∧ Ls.SpAt w w.heap.size A l := by
  obtain ⟨A, c, h1, _, _, h2⟩ := Ls.own_el Ls.spV 3 Ls.spV_len h
  exact ⟨A, c, h1, h2⟩
theorem run_enter {P : Program} {f : FuncId} {fn : Func} (hf : P.funcs[f]? = some fn) (hname : (fn.name == "runtime.NumGoroutine") = false) (hb : fn.body.isSome = true) (args : Array Value) (w : World) : (callFunc f args).run P w = .ok (.enter f args) w := by
  have h1 : fn.name ≠ "runtime.NumGoroutine" := by simpa using hname
  obtain ⟨c, hc⟩ := Option.isSome_iff_exists.1 hb
  simp [callFunc, hf, h1, hc]
set_option maxHeartbeats 8000000 in
set_option maxRecDepth 100000 in
theorem chooseValid_any (f : Bool → Bool → Bool) (hf : f false false = false) (F : Nat) (hen : ∀ (x y : Bool) (w : World), (callFunc F #[.bool x, .bool y]).run Tryz.prog w = .ok (.enter F #[.bool x, .bool y]) w) (hF : ∀ (x y : Bool) (w : World), Calls Tryz.prog F #[.bool x, .bool y] w fun e w' => e = .returned (.bool (f x y)) ∧ w = w')
    (a b : List Ls.Sp) (A A' : Option Addr) (c c' : Nat) (w : World) (hA : SetAt w A a) (hB : SetAt w A' b) (hM : MaxAt w) :
    Calls Tryz.prog 27 #[.slice A a.length c, .slice A' b.length c', .func (.func F) #[] #[]] w (GotOp w f a b) := by
  have h1 := valid_any a A c w hA.at_ (by have := hA.len; omega) hA.path hM
  have HA := Lib.hid hA
  have HB := Lib.hid hB
  have HM := Lib.hid hM
  clear hA hB hM
  go_enter Tryz.func27, Tryz.ntmps27
  go_wp2_with fail
  with_reducible refine h1.mono ?_
  clear h1
  rintro e w1 ⟨rfl, hb1⟩
  cases hva : Ls.vld a with
  | false =>
    have HT := Lib.hid hva
    clear hva
    go_wp2_with fail
    first | go_ret2 | go_ret
    exact ⟨.inr ⟨by rw [HT.out]; rfl, rfl⟩, hb1⟩
  | true =>
    have h2 := valid_any b A' c' w1 (HB.out.next hb1).at_ (by have := HB.out.len; omega) HB.out.path (HM.out.below hb1)
    have HVA := Lib.hid hva
    clear hva
    go_wp2_with fail
    with_reducible refine h2.mono ?_
    clear h2
    rintro e w2 ⟨rfl, hb2⟩
    have hb02 := hb1.trans (hb2.mono hb1.size)
    cases hvb : Ls.vld b with
    | false =>
      have HT := Lib.hid hvb
      clear hvb
      go_wp2_with fail
      first | go_ret2 | go_ret
      exact ⟨.inr ⟨by rw [HVA.out, HT.out]; rfl, rfl⟩, hb02⟩
    | true =>
      have hV : ∀ s, s ∈ a ∨ s ∈ b → Tre.pathOk s.path = true ∧ 0 ≤ s.lo ∧ s.hi ≤ 1024 ∧ s.lo < s.hi := fun s hs => by
        have va := (Ls.vld_iff a).1 HVA.out
        have vb := (Ls.vld_iff b).1 hvb
        rcases hs with hs | hs
        · exact ⟨(va.each s hs).1, (va.each s hs).2.1, (va.each s hs).2.2, va.apart.ne s hs⟩
        · exact ⟨(vb.each s hs).1, (vb.each s hs).2.1, (vb.each s hs).2.2, vb.apart.ne s hs⟩
      have h3 := choose_any f hf F hen hF a b A A' c c' w2 (HA.out.next hb02).at_ (HB.out.next hb02).at_ HA.out.len HB.out.len hV
      have HVB := Lib.hid hvb
      clear hvb hV
      go_wp2_with fail
      with_reducible refine h3.mono ?_
      clear h3
      rintro e w3 ⟨out, v, rfl, o1, o2, o3, o4, hb3⟩
      obtain ⟨A3, c3, rfl, o5⟩ := own_sp o4
      have HO := Lib.hid (show Comb f a b out from ⟨o1, o2, o3⟩)
      have HP := Lib.hid o5
      have HBB := Lib.hid (hb02.trans (hb3.mono hb02.size))
      clear o1 o2 o3 o4 o5 hb3 hb02
      go_wp2_with fail
      first | go_ret2 | go_ret
      exact ⟨.inl ⟨by rw [HVA.out, HVB.out]; rfl, out, A3, c3, rfl, HO.out, HP.out⟩, HBB.out⟩
theorem unionF_any (x y : Bool) (w : World) : Calls Tryz.prog 28 #[.bool x, .bool y] w fun e w' => e = .returned (.bool (x || y)) ∧ w = w' := by
  cases x <;> cases y
  all_goals
    go_enter Tryz.func28, Tryz.ntmps28
    go_wp2_with fail
    go_ret
    exact ⟨rfl, rfl⟩
theorem union_any (a b : List Ls.Sp) (A A' : Option Addr) (c c' : Nat) (w : World) (hA : SetAt w A a) (hB : SetAt w A' b) (hM : MaxAt w) :
    Calls Tryz.prog 8 #[.slice A a.length c, .slice A' b.length c'] w (GotOp w (fun x y => x || y) a b) := by
  have h1 := chooseValid_any (fun x y => x || y) rfl 28 (fun _ _ w => run_enter Tryz.func28 (by kernel_rfl) (by kernel_rfl) _ w) unionF_any a b A A' c c' w hA hB hM
  clear hA hB hM
  go_enter Tryz.func8, Tryz.ntmps8
  go_wp2_with fail
  with_reducible refine h1.mono ?_
  clear h1
  rintro e w1 ⟨h, hb⟩
  rcases h with ⟨hv, out, A1, c1, rfl, h2, h3⟩ | ⟨hv, rfl⟩
  · have HO := Lib.hid h2
    have HP := Lib.hid h3
    have HV := Lib.hid hv
    clear h2 h3 hv
    go_wp2_with fail
    first | go_ret2 | go_ret
    exact ⟨.inl ⟨HV.out, out, A1, c1, rfl, HO.out, HP.out⟩, hb⟩
  · have HV := Lib.hid hv
    clear hv
    go_wp2_with fail
    first | go_ret2 | go_ret
    exact ⟨.inr ⟨HV.out, rfl⟩, hb⟩
theorem meetF_any (x y : Bool) (w : World) : Calls Tryz.prog 29 #[.bool x, .bool y] w fun e w' => e = .returned (.bool (x && y)) ∧ w = w' := by
  cases x <;> cases y
  all_goals
    go_enter Tryz.func29, Tryz.ntmps29
    go_wp2_with fail
    go_ret
    exact ⟨rfl, rfl⟩
theorem meet_any (a b : List Ls.Sp) (A A' : Option Addr) (c c' : Nat) (w : World) (hA : SetAt w A a) (hB : SetAt w A' b) (hM : MaxAt w) :
    Calls Tryz.prog 9 #[.slice A a.length c, .slice A' b.length c'] w (GotOp w (fun x y => x && y) a b) := by
  have h1 := chooseValid_any (fun x y => x && y) rfl 29 (fun _ _ w => run_enter Tryz.func29 (by kernel_rfl) (by kernel_rfl) _ w) meetF_any a b A A' c c' w hA hB hM
  clear hA hB hM
  go_enter Tryz.func9, Tryz.ntmps9
  go_wp2_with fail
  with_reducible refine h1.mono ?_
  clear h1
  rintro e w1 ⟨h, hb⟩
  rcases h with ⟨hv, out, A1, c1, rfl, h2, h3⟩ | ⟨hv, rfl⟩
  · have HO := Lib.hid h2
    have HP := Lib.hid h3
    have HV := Lib.hid hv
    clear h2 h3 hv
    go_wp2_with fail
    first | go_ret2 | go_ret
    exact ⟨.inl ⟨HV.out, out, A1, c1, rfl, HO.out, HP.out⟩, hb⟩
  · have HV := Lib.hid hv
    clear hv
    go_wp2_with fail
    first | go_ret2 | go_ret
    exact ⟨.inr ⟨HV.out, rfl⟩, hb⟩
theorem minusF_any (x y : Bool) (w : World) : Calls Tryz.prog 30 #[.bool x, .bool y] w fun e w' => e = .returned (.bool (x && !y)) ∧ w = w' := by
  cases x <;> cases y
  all_goals
    go_enter Tryz.func30, Tryz.ntmps30
    go_wp2_with fail
    go_ret
    exact ⟨rfl, rfl⟩
theorem minus_any (a b : List Ls.Sp) (A A' : Option Addr) (c c' : Nat) (w : World) (hA : SetAt w A a) (hB : SetAt w A' b) (hM : MaxAt w) :
    Calls Tryz.prog 10 #[.slice A a.length c, .slice A' b.length c'] w (GotOp w (fun x y => x && !y) a b) := by
  have h1 := chooseValid_any (fun x y => x && !y) rfl 30 (fun _ _ w => run_enter Tryz.func30 (by kernel_rfl) (by kernel_rfl) _ w) minusF_any a b A A' c c' w hA hB hM
  clear hA hB hM
  go_enter Tryz.func10, Tryz.ntmps10
  go_wp2_with fail
  with_reducible refine h1.mono ?_
  clear h1
  rintro e w1 ⟨h, hb⟩
  rcases h with ⟨hv, out, A1, c1, rfl, h2, h3⟩ | ⟨hv, rfl⟩
  · have HO := Lib.hid h2
    have HP := Lib.hid h3
    have HV := Lib.hid hv
    clear h2 h3 hv
    go_wp2_with fail
    first | go_ret2 | go_ret
    exact ⟨.inl ⟨HV.out, out, A1, c1, rfl, HO.out, HP.out⟩, hb⟩
  · have HV := Lib.hid hv
    clear hv
    go_wp2_with fail
    first | go_ret2 | go_ret
    exact ⟨.inr ⟨HV.out, rfl⟩, hb⟩
end Go.Proofs.YtlablbibdkcifaaGreatDoor
