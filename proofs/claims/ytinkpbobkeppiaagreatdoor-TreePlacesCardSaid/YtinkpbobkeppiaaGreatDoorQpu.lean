/- Put of the reference. No condition but the lengths. -/
import Derived.Test.YtinkpbobkeppiaaGreatDoorPz9
import Derived.Test.YtinkpbobkeppiaaGreatDoorPz5
namespace Go.Proofs.YtinkpbobkeppiaaGreatDoor
open Go.RowKit

/-- What the loop's outcome is as a result. -/
def qpR : Option (List Tre.Fl) → List Tre.Fl × Int
  | none => ([], 6)
  | some out => if 64 < out.length then ([], 10) else (out, 0)
theorem qput_step (f x : Tre.Fl) (t : List Tre.Fl) (done : Bool) (out : List Tre.Fl) (h : Tre.bad f x = false) : Tre.qput f (x :: t) done out =
    Tre.qput f t (done || !Op.bytesLess x.path f.path) ((if (!done && !Op.bytesLess x.path f.path) = true then out ++ [f] else out) ++ (if x.path = f.path then [] else [x])) := by
  rw [Tre.qput, if_neg (by rw [h]; decide)]
theorem qput_bad (f x : Tre.Fl) (t : List Tre.Fl) (done : Bool) (out : List Tre.Fl) (h : Tre.bad f x = true) : Tre.qput f (x :: t) done out = none := by
  rw [Tre.qput, if_pos h]
theorem put_qp (ts : List Tre.Fl) (f : Tre.Fl) : Tre.put ts f = if Tre.check ts ≠ 0 then ([], 1) else if Tre.pathOk f.path = false then ([], 2) else if 65536 < f.data.length then ([], 10) else qpR (Tre.qput f ts false []) := by
  rw [Tre.put_q]
  rfl
theorem box_keeps {w w2 : World} {B : Nat} {o : Obj} {row : Option Nat} (hw : w.heap[B]? = some o) (hg : w.grownBy w2 row) (hr : row ≠ some B) : w2.heap[B]? = some o := by
  have hlt : B < w.heap.size := (Array.getElem?_eq_some_iff.1 hw).1
  exact (hg.block B hlt fun e => hr e.symm).trans hw
set_option maxHeartbeats 16000000 in
set_option maxRecDepth 100000 in
theorem qPut_any (A : Option Addr) (c : Nat) (ts : List Tre.Fl) (f : Tre.Fl) (w : World) (hA : FlsAt w w.heap.size A ts) (hl : ts.length ≤ 1000000) (hL : FlsLen ts) (hcap : ts.length ≤ c) (hcap2 : c ≤ maxLen) (hf1 : f.path.length ≤ 1000000000) (hf2 : f.data.length ≤ 1000000000) :
    Calls Tryz.prog 20 #[.slice A ts.length c, flV f] w (GotE w (Tre.put ts f)) := by
  obtain ⟨i0, hi0, hz0, hz1, hz2⟩ := info_parts infoF
  have HV := Lib.hid (put_qp ts f)
  generalize Tre.put ts f = R at *
  unfold flV
  have hb0 : Below w.heap.size w (w.alloc (.cells #[.string (str f.path), .string (str f.data)] 31)) := (Below.refl _ _).alloc (Nat.le_refl _) _
  have hN0 := heap_alloc_new w (.cells #[.string (str f.path), .string (str f.data)] 31)
  have hbs : w.heap.size < (w.alloc (.cells #[.string (str f.path), .string (str f.data)] 31)).heap.size := by simp
  have hc1 := qCheck_any A c ts _ (hA.next hb0) (by omega) hL hcap hcap2
  have hqp := fun w' => qPath_any (str f.path) w' (by rw [str_size]; exact hf1)
  rw [str_data, path_val] at hqp
  have HSZ := Lib.hid (str_size f.data)
  have hdsz : (str f.data).size ≤ 1000000000 := by rw [str_size]; exact hf2
  go_enter Tryz.func20, Tryz.ntmps20
  go_wp2_with fail
  generalize w.alloc (.cells #[.string (str f.path), .string (str f.data)] 31) = W at *
  have HA := Lib.hid (hA.next hb0)
  have HB0 := Lib.hid hb0
  clear hA hb0
  generalize hbb : w.heap.size = b at *
  have HBB := Lib.hid hbb
  clear hbb
  with_reducible refine hc1.mono ?_
  clear hc1
  rintro x w1 ⟨rfl, hb1⟩
  have hs1 := hb1.size
  by_cases h0 : Tre.check ts ≠ 0
  · have n0 : (Tre.check ts != 0) = true := by rw [bne_iff_ne]; exact h0
    have HT := Lib.hid (show R = ([], 1) from HV.out.trans (if_pos h0))
    clear HV h0
    generalize Tre.check ts = e at *
    go_wp2_with fail
    go_ret2
    rw [HT.out]
    exact ⟨_, rfl, World.ownsRow_nil _ _ _ _, by rw [HBB.out]; exact HB0.out.trans (hb1.mono (Nat.le_of_lt hbs))⟩
  have HV1 := Lib.hid (HV.out.trans (if_neg h0))
  have h0 : Tre.check ts = 0 := by simpa using h0
  have g := (Tre.good_iff ts).1 h0
  have hlen := g.len
  rw [h0]
  clear HV h0 g
  have hN1 := (hb1.block b hbs).trans hN0
  have e0 : w1.cell? ⟨b, 0, none⟩ = some (.string (str f.path)) := by rw [cell_of_row _ _ _ _ _ _ hN1]; rfl
  have hq := hqp w1
  clear hqp
  go_wp2_with fail
  with_reducible refine hq.mono ?_
  clear hq
  rintro x w2 ⟨rfl, hb2⟩
  have hbs1 : b < w1.heap.size := Nat.lt_of_lt_of_le hbs hs1
  have hN2 := (hb2.block b hbs1).trans hN1
  have hb12 := hb1.trans (hb2.mono hs1)
  clear hb1 hb2 hN1 e0 hbs1
  cases hpo : Tre.pathOk f.path with
  | false =>
    have HT := Lib.hid (show R = ([], 2) from HV1.out.trans (if_pos hpo))
    clear HV1
    rw [show (if false = true then (0 : Int) else 2) = 2 from rfl]
    clear hpo
    go_wp2_with fail
    go_ret2
    rw [HT.out]
    exact ⟨_, rfl, World.ownsRow_nil _ _ _ _, by rw [HBB.out]; exact HB0.out.trans (hb12.mono (Nat.le_of_lt hbs))⟩
  | true =>
  have HV2 := Lib.hid (HV1.out.trans (if_neg (by rw [hpo]; decide)))
  rw [show (if true = true then (0 : Int) else 2) = 0 from rfl]
  clear HV1 hpo
  have e0 : w2.cell? ⟨b, 0, none⟩ = some (.string (str f.path)) := by rw [cell_of_row _ _ _ _ _ _ hN2]; rfl
  have e1 : w2.cell? ⟨b, 1, none⟩ = some (.string (str f.data)) := by rw [cell_of_row _ _ _ _ _ _ hN2]; rfl
  by_cases hd : 65536 < f.data.length
  · have HT := Lib.hid (show R = ([], 10) from HV2.out.trans (if_pos hd))
    have b1 : decide ((65536 : Int) < ((str f.data).size : Int)) = true := by rw [HSZ.out]; simp; omega
    have b1n : decide (65536 < (str f.data).size) = true := by rw [HSZ.out]; simp; omega
    clear HV2
    go_wp2_with fail
    go_ret2
    rw [HT.out]
    exact ⟨_, rfl, World.ownsRow_nil _ _ _ _, by rw [HBB.out]; exact HB0.out.trans (hb12.mono (Nat.le_of_lt hbs))⟩
  have b1 : decide ((65536 : Int) < ((str f.data).size : Int)) = false := by rw [HSZ.out]; simp; omega
  have b1n : decide (65536 < (str f.data).size) = false := by rw [HSZ.out]; simp; omega
  obtain ⟨Q, HQ⟩ : ∃ Q, Hid (Q = Tre.qput f (ts.drop 0) false []) := ⟨_, Lib.hid rfl⟩
  have HR := Lib.hid (show R = qpR Q by rw [HQ.out]; exact HV2.out.trans (if_neg hd))
  clear HV2 hd
  go_wp2_with fail
  clear b1 b1n e0 e1
  go_loopw [6, 7, 23] (fun v vd vi wr => ∃ (k : Nat) (done : Bool) (us : List Tre.Fl), k ≤ ts.length ∧ vi = .int .i64 k ∧ vd = .bool done ∧ wr.ownsRow W.heap.size 31 2 v us.length (flsOf us) ∧ us.length ≤ 2 * k ∧ Q = Tre.qput f (ts.drop k) done us ∧ Below W.heap.size W wr) (fun _ _ vi _ => ts.length - (intOf vi).toNat)
  case atStart => exact ⟨0, false, [], by omega, rfl, rfl, World.ownsRow_nil _ _ _ _, by simp, HQ.out, hb12⟩
  case round =>
    clear HQ hN2 hb12 hs1
    obtain ⟨k, done, us, hk, rfl, rfl, hown, hus, hQ, hb⟩ := hrel
    have HQ := Lib.hid hQ
    clear hQ
    have hrow := hown.lt
    have hblt : b < wr.heap.size := Nat.lt_of_lt_of_le hbs hb.size
    have hNr := (hb.block b hbs).trans hN0
    have f0 : wr.cell? ⟨b, 0, none⟩ = some (.string (str f.path)) := by rw [cell_of_row _ _ _ _ _ _ hNr]; rfl
    have f1 : wr.cell? ⟨b, 1, none⟩ = some (.string (str f.data)) := by rw [cell_of_row _ _ _ _ _ _ hNr]; rfl
    by_cases hlt : k < ts.length
    · have b1 : decide ((k : Int) < ts.length) = true := by simp; omega
      have b1n : decide (k < ts.length) = true := by simp; omega
      obtain ⟨gg, oo, rfl, hg, hc0, hc1⟩ := HA.out k hlt
      have hd0 := (hb.cell (p := ⟨gg, oo + k * 2, none⟩) hg).trans hc0
      have hd1 := (hb.cell (p := ⟨gg, oo + k * 2 + 1, none⟩) hg).trans hc1
      have HD := Lib.hid (HQ.out.trans (by rw [list_drop ts k hlt]))
      clear hc0 hc1 HQ
      generalize ts[k] = x at *
      have hbw := hb.alloc hb.size (.cells #[.string (str x.path), .string (str x.data)] 31)
      have hown1 := hown.alloc (.cells #[.string (str x.path), .string (str x.data)] 31)
      have hX := heap_alloc_new wr (.cells #[.string (str x.path), .string (str x.data)] 31)
      have hbl1 := fun w' => qBelow_any (str x.path) (str f.path) w'
      have hbl2 := fun w' => qBelow_any (str f.path) (str x.path) w'
      simp only [str_data] at hbl1 hbl2
      have hxr : ∀ q, u6.ownBlock = some q → q < wr.heap.size := fun q hq => (hrow q hq).2
      clear hown
      cases hx1 : Tre.below x.path f.path with
      | true =>
        have HT := Lib.hid (show Q = none from HD.out.trans (qput_bad f x _ _ _ (by unfold Tre.bad; rw [hx1]; rfl)))
        rw [hx1] at hbl1
        clear HD hbl2 hx1
        go_wp2_with (go_at_call 50; (with_reducible refine (hbl1 _).mono ?_); rintro e w' ⟨rfl, rfl⟩)
        go_ret2
        rw [HR.out, HT.out]
        exact ⟨_, rfl, World.ownsRow_nil _ _ _ _, by rw [HBB.out]; exact HB0.out.trans (hbw.mono (Nat.le_of_lt hbs))⟩
      | false =>
      rw [hx1] at hbl1
      cases hx2 : Tre.below f.path x.path with
      | true =>
        have HT := Lib.hid (show Q = none from HD.out.trans (qput_bad f x _ _ _ (by unfold Tre.bad; rw [hx2, Bool.or_true])))
        rw [hx2] at hbl2
        clear HD hx1 hx2
        go_wp2_with (go_at_call 50; (first | (with_reducible refine (hbl1 _).mono ?_) | (with_reducible refine (hbl2 _).mono ?_)); rintro e w' ⟨rfl, rfl⟩)
        go_ret2
        rw [HR.out, HT.out]
        exact ⟨_, rfl, World.ownsRow_nil _ _ _ _, by rw [HBB.out]; exact HB0.out.trans (hbw.mono (Nat.le_of_lt hbs))⟩
      | false =>
      rw [hx2] at hbl2
      have HD1 := Lib.hid (HD.out.trans (qput_step f x _ done us (by unfold Tre.bad; rw [hx1, hx2]; rfl)))
      clear HD hx1 hx2
      cases done with
      | true =>
        cases hls : Op.bytesLess x.path f.path with
        | true =>
          have o4 : Op.bytesLess (str x.path).toList (str f.path).toList = true := by rw [str_list, str_list]; exact hls
          by_cases heq : x.path = f.path
          · have HT := Lib.hid (show Q = Tre.qput f (ts.drop (k + 1)) true ((us)) from HD1.out.trans (by rw [hls, if_pos heq]; simp))
            clear HD1 hls
            have o5 : ((str x.path).toList == (str f.path).toList) = true := by rw [str_list, str_list]; simpa using heq
            have o6 : ((str x.path).toList != (str f.path).toList) = false := by rw [bne, o5]; rfl
            clear heq
            go_wp2_with (go_at_call 50; (first | (with_reducible refine (hbl1 _).mono ?_) | (with_reducible refine (hbl2 _).mono ?_)); rintro e w' ⟨rfl, rfl⟩)
            go_roundw
            case rel => exact ⟨k + 1, true, us, by omega, by go_num, rfl, hown1, by omega, HT.out, hbw⟩
            case measure => simp [intOf]; omega
          · have HT := Lib.hid (show Q = Tre.qput f (ts.drop (k + 1)) true ((us) ++ [x]) from HD1.out.trans (by rw [hls, if_neg heq]; simp))
            clear HD1 hls
            have o5 : ((str x.path).toList == (str f.path).toList) = false := by rw [str_list, str_list, beq_eq_false_iff_ne]; exact heq
            have o6 : ((str x.path).toList != (str f.path).toList) = true := by rw [bne, o5]; rfl
            clear heq
            go_wp2_with (first | (go_at_call 50; (first | (with_reducible refine (hbl1 _).mono ?_) | (with_reducible refine (hbl2 _).mono ?_)); rintro e w' ⟨rfl, rfl⟩) | (at_builtin; refine wpList_append_lies _ (by rfl) _ _ 23 (by rfl) W.heap.size 31 i0 _ 2 32 Tryz.underlying23 hi0 hz0 hz1 hz2 rfl (by omega) u6 us.length _ (by rfl) (hown1.alloc _) ⟨wr.heap.size + 1, 0, none⟩ 1 1 [_, _] (by rfl) (by rfl) (World.news_of_block (cs := #[_, _]) (t := 31) (fr := (0, 0)) (by have := heap_alloc_new (wr.alloc (.cells #[.string (str x.path), .string (str x.data)] 31)) (.cells #[.string (str x.path), .string (str x.data)] 31); simpa using this)) (by simp [Value.oneCell']) (by omega) (by unfold maxLen; omega) (by omega) (by have := hb.size; simp; omega) (wr.heap.size + 1 + 1) (by simp) ?_; intro gg4 cap4 w4 hown4 hgrow4 hat4 hlt4))
            have hb4 : Below W.heap.size W w4 := grown_own0 (hbw.alloc hbw.size _) hgrow4 (fun q hq => (hrow q hq).1)
            rw [flsOf_snoc] at hown4
            clear hown1 hgrow4 hat4 hlt4 hX f0 f1 hd0 hd1
            go_wp2_with fail
            go_roundw
            case rel => exact ⟨k + 1, true, us ++ [x], by omega, by go_num, rfl, by rw [List.length_append, List.length_singleton]; exact hown4, by simp; omega, HT.out, hb4⟩
            case measure => simp [intOf]; omega
        | false =>
          have o4 : Op.bytesLess (str x.path).toList (str f.path).toList = false := by rw [str_list, str_list]; exact hls
          by_cases heq : x.path = f.path
          · have HT := Lib.hid (show Q = Tre.qput f (ts.drop (k + 1)) true ((us)) from HD1.out.trans (by rw [hls, if_pos heq]; simp))
            clear HD1 hls
            have o5 : ((str x.path).toList == (str f.path).toList) = true := by rw [str_list, str_list]; simpa using heq
            have o6 : ((str x.path).toList != (str f.path).toList) = false := by rw [bne, o5]; rfl
            clear heq
            go_wp2_with (go_at_call 50; (first | (with_reducible refine (hbl1 _).mono ?_) | (with_reducible refine (hbl2 _).mono ?_)); rintro e w' ⟨rfl, rfl⟩)
            go_roundw
            case rel => exact ⟨k + 1, true, us, by omega, by go_num, rfl, hown1, by omega, HT.out, hbw⟩
            case measure => simp [intOf]; omega
          · have HT := Lib.hid (show Q = Tre.qput f (ts.drop (k + 1)) true ((us) ++ [x]) from HD1.out.trans (by rw [hls, if_neg heq]; simp))
            clear HD1 hls
            have o5 : ((str x.path).toList == (str f.path).toList) = false := by rw [str_list, str_list, beq_eq_false_iff_ne]; exact heq
            have o6 : ((str x.path).toList != (str f.path).toList) = true := by rw [bne, o5]; rfl
            clear heq
            go_wp2_with (first | (go_at_call 50; (first | (with_reducible refine (hbl1 _).mono ?_) | (with_reducible refine (hbl2 _).mono ?_)); rintro e w' ⟨rfl, rfl⟩) | (at_builtin; refine wpList_append_lies _ (by rfl) _ _ 23 (by rfl) W.heap.size 31 i0 _ 2 32 Tryz.underlying23 hi0 hz0 hz1 hz2 rfl (by omega) u6 us.length _ (by rfl) (hown1.alloc _) ⟨wr.heap.size + 1, 0, none⟩ 1 1 [_, _] (by rfl) (by rfl) (World.news_of_block (cs := #[_, _]) (t := 31) (fr := (0, 0)) (by have := heap_alloc_new (wr.alloc (.cells #[.string (str x.path), .string (str x.data)] 31)) (.cells #[.string (str x.path), .string (str x.data)] 31); simpa using this)) (by simp [Value.oneCell']) (by omega) (by unfold maxLen; omega) (by omega) (by have := hb.size; simp; omega) (wr.heap.size + 1 + 1) (by simp) ?_; intro gg4 cap4 w4 hown4 hgrow4 hat4 hlt4))
            have hb4 : Below W.heap.size W w4 := grown_own0 (hbw.alloc hbw.size _) hgrow4 (fun q hq => (hrow q hq).1)
            rw [flsOf_snoc] at hown4
            clear hown1 hgrow4 hat4 hlt4 hX f0 f1 hd0 hd1
            go_wp2_with fail
            go_roundw
            case rel => exact ⟨k + 1, true, us ++ [x], by omega, by go_num, rfl, by rw [List.length_append, List.length_singleton]; exact hown4, by simp; omega, HT.out, hb4⟩
            case measure => simp [intOf]; omega
      | false =>
        cases hls : Op.bytesLess x.path f.path with
        | true =>
          have o4 : Op.bytesLess (str x.path).toList (str f.path).toList = true := by rw [str_list, str_list]; exact hls
          by_cases heq : x.path = f.path
          · exact absurd heq (Tre.bl_ne hls)
          · have HT := Lib.hid (show Q = Tre.qput f (ts.drop (k + 1)) false ((us) ++ [x]) from HD1.out.trans (by rw [hls, if_neg heq]; simp))
            clear HD1 hls
            have o5 : ((str x.path).toList == (str f.path).toList) = false := by rw [str_list, str_list, beq_eq_false_iff_ne]; exact heq
            have o6 : ((str x.path).toList != (str f.path).toList) = true := by rw [bne, o5]; rfl
            clear heq
            go_wp2_with (first | (go_at_call 50; (first | (with_reducible refine (hbl1 _).mono ?_) | (with_reducible refine (hbl2 _).mono ?_)); rintro e w' ⟨rfl, rfl⟩) | (at_builtin; refine wpList_append_lies _ (by rfl) _ _ 23 (by rfl) W.heap.size 31 i0 _ 2 32 Tryz.underlying23 hi0 hz0 hz1 hz2 rfl (by omega) u6 us.length _ (by rfl) (hown1.alloc _) ⟨wr.heap.size + 1, 0, none⟩ 1 1 [_, _] (by rfl) (by rfl) (World.news_of_block (cs := #[_, _]) (t := 31) (fr := (0, 0)) (by have := heap_alloc_new (wr.alloc (.cells #[.string (str x.path), .string (str x.data)] 31)) (.cells #[.string (str x.path), .string (str x.data)] 31); simpa using this)) (by simp [Value.oneCell']) (by omega) (by unfold maxLen; omega) (by omega) (by have := hb.size; simp; omega) (wr.heap.size + 1 + 1) (by simp) ?_; intro gg4 cap4 w4 hown4 hgrow4 hat4 hlt4))
            have hb4 : Below W.heap.size W w4 := grown_own0 (hbw.alloc hbw.size _) hgrow4 (fun q hq => (hrow q hq).1)
            rw [flsOf_snoc] at hown4
            clear hown1 hgrow4 hat4 hlt4 hX f0 f1 hd0 hd1
            go_wp2_with fail
            go_roundw
            case rel => exact ⟨k + 1, false, us ++ [x], by omega, by go_num, rfl, by rw [List.length_append, List.length_singleton]; exact hown4, by simp; omega, HT.out, hb4⟩
            case measure => simp [intOf]; omega
        | false =>
          have o4 : Op.bytesLess (str x.path).toList (str f.path).toList = false := by rw [str_list, str_list]; exact hls
          by_cases heq : x.path = f.path
          · have HT := Lib.hid (show Q = Tre.qput f (ts.drop (k + 1)) true ((us ++ [f])) from HD1.out.trans (by rw [hls, if_pos heq]; simp))
            clear HD1 hls
            have o5 : ((str x.path).toList == (str f.path).toList) = true := by rw [str_list, str_list]; simpa using heq
            have o6 : ((str x.path).toList != (str f.path).toList) = false := by rw [bne, o5]; rfl
            clear heq
            go_wp2_with (first | (go_at_call 50; (first | (with_reducible refine (hbl1 _).mono ?_) | (with_reducible refine (hbl2 _).mono ?_)); rintro e w' ⟨rfl, rfl⟩) | (at_builtin; refine wpList_append_lies _ (by rfl) _ _ 23 (by rfl) W.heap.size 31 i0 _ 2 32 Tryz.underlying23 hi0 hz0 hz1 hz2 rfl (by omega) u6 us.length _ (by rfl) (hown1.alloc _) ⟨wr.heap.size + 1, 0, none⟩ 1 1 [_, _] (by rfl) (by rfl) (World.news_of_block (cs := #[_, _]) (t := 31) (fr := (0, 0)) (by have := heap_alloc_new (wr.alloc (.cells #[.string (str x.path), .string (str x.data)] 31)) (.cells #[.string (str f.path), .string (str f.data)] 31); simpa using this)) (by simp [Value.oneCell']) (by omega) (by unfold maxLen; omega) (by omega) (by have := hb.size; simp; omega) (wr.heap.size + 1 + 1) (by simp) ?_; intro gg4 cap4 w4 hown4 hgrow4 hat4 hlt4; have hb4 : Below W.heap.size W w4 := grown_own0 (hbw.alloc hbw.size _) hgrow4 (fun q hq => (hrow q hq).1); have hX4 : w4.heap[wr.heap.size]? = some (.cells #[.string (str x.path), .string (str x.data)] 31) := box_keeps (by have h2 := ((Below.refl (wr.alloc (.cells #[.string (str x.path), .string (str x.data)] 31)).heap.size (wr.alloc (.cells #[.string (str x.path), .string (str x.data)] 31))).alloc (Nat.le_refl _) (.cells #[.string (str f.path), .string (str f.data)] 31)).block wr.heap.size (by simp); exact h2.trans hX) hgrow4 (fun e => by have := hxr _ e; omega); have x0 : w4.cell? ⟨wr.heap.size, 0, none⟩ = some (.string (str x.path)) := (by rw [cell_of_row _ _ _ _ _ _ hX4]; rfl); have x1 : w4.cell? ⟨wr.heap.size, 1, none⟩ = some (.string (str x.data)) := (by rw [cell_of_row _ _ _ _ _ _ hX4]; rfl); have hN4 := (hb4.block b hbs).trans hN0; have hblt4 : b < w4.heap.size := Nat.lt_of_lt_of_le hbs hb4.size; have hxlt4 : wr.heap.size < w4.heap.size := (Array.getElem?_eq_some_iff.1 hX4).1; have y0 : w4.cell? ⟨b, 0, none⟩ = some (.string (str f.path)) := (by rw [cell_of_row _ _ _ _ _ _ hN4]; rfl); rw [flsOf_snoc] at hown4; have hrow4 := hown4.lt))
            clear hown1 hgrow4 hat4 hlt4 hX hX4 hN4 f0 f1 hd0 hd1
            go_roundw
            case rel => exact ⟨k + 1, true, us ++ [f], by omega, by go_num, rfl, by rw [List.length_append, List.length_singleton]; exact hown4, by simp; omega, HT.out, hb4⟩
            case measure => simp [intOf]; omega
          · have HT := Lib.hid (show Q = Tre.qput f (ts.drop (k + 1)) true ((us ++ [f]) ++ [x]) from HD1.out.trans (by rw [hls, if_neg heq]; simp))
            clear HD1 hls
            have o5 : ((str x.path).toList == (str f.path).toList) = false := by rw [str_list, str_list, beq_eq_false_iff_ne]; exact heq
            have o6 : ((str x.path).toList != (str f.path).toList) = true := by rw [bne, o5]; rfl
            clear heq
            go_wp2_with (first | (go_at_call 50; (first | (with_reducible refine (hbl1 _).mono ?_) | (with_reducible refine (hbl2 _).mono ?_)); rintro e w' ⟨rfl, rfl⟩) | (at_builtin; refine wpList_append_lies _ (by rfl) _ _ 23 (by rfl) W.heap.size 31 i0 _ 2 32 Tryz.underlying23 hi0 hz0 hz1 hz2 rfl (by omega) u6 us.length _ (by rfl) (hown1.alloc _) ⟨wr.heap.size + 1, 0, none⟩ 1 1 [_, _] (by rfl) (by rfl) (World.news_of_block (cs := #[_, _]) (t := 31) (fr := (0, 0)) (by have := heap_alloc_new (wr.alloc (.cells #[.string (str x.path), .string (str x.data)] 31)) (.cells #[.string (str f.path), .string (str f.data)] 31); simpa using this)) (by simp [Value.oneCell']) (by omega) (by unfold maxLen; omega) (by omega) (by have := hb.size; simp; omega) (wr.heap.size + 1 + 1) (by simp) ?_; intro gg4 cap4 w4 hown4 hgrow4 hat4 hlt4; have hb4 : Below W.heap.size W w4 := grown_own0 (hbw.alloc hbw.size _) hgrow4 (fun q hq => (hrow q hq).1); have hX4 : w4.heap[wr.heap.size]? = some (.cells #[.string (str x.path), .string (str x.data)] 31) := box_keeps (by have h2 := ((Below.refl (wr.alloc (.cells #[.string (str x.path), .string (str x.data)] 31)).heap.size (wr.alloc (.cells #[.string (str x.path), .string (str x.data)] 31))).alloc (Nat.le_refl _) (.cells #[.string (str f.path), .string (str f.data)] 31)).block wr.heap.size (by simp); exact h2.trans hX) hgrow4 (fun e => by have := hxr _ e; omega); have x0 : w4.cell? ⟨wr.heap.size, 0, none⟩ = some (.string (str x.path)) := (by rw [cell_of_row _ _ _ _ _ _ hX4]; rfl); have x1 : w4.cell? ⟨wr.heap.size, 1, none⟩ = some (.string (str x.data)) := (by rw [cell_of_row _ _ _ _ _ _ hX4]; rfl); have hN4 := (hb4.block b hbs).trans hN0; have hblt4 : b < w4.heap.size := Nat.lt_of_lt_of_le hbs hb4.size; have hxlt4 : wr.heap.size < w4.heap.size := (Array.getElem?_eq_some_iff.1 hX4).1; have y0 : w4.cell? ⟨b, 0, none⟩ = some (.string (str f.path)) := (by rw [cell_of_row _ _ _ _ _ _ hN4]; rfl); rw [flsOf_snoc] at hown4; have hrow4 := hown4.lt) | (at_builtin; refine wpList_append_lies _ (by rfl) _ _ 23 (by rfl) W.heap.size 31 i0 _ 2 32 Tryz.underlying23 hi0 hz0 hz1 hz2 rfl (by omega) _ (us.length + 1) _ (by rfl) (hown4.alloc _) ⟨w4.heap.size, 0, none⟩ 1 1 [_, _] (by rfl) (by rfl) (World.news_of_block (cs := #[_, _]) (t := 31) (fr := (0, 0)) (by have := heap_alloc_new w4 (.cells #[.string (str x.path), .string (str x.data)] 31); simpa using this)) (by simp [Value.oneCell']) (by omega) (by unfold maxLen; omega) (by omega) (by have := hb4.size; simp; omega) (w4.heap.size + 1) (by simp) ?_; intro gg5 cap5 w5 hown5 hgrow5 hat5 hlt5))
            have hb5 : Below W.heap.size W w5 := grown_own0 (hb4.alloc hb4.size _) hgrow5 (fun q hq => (hrow4 q hq).1)
            rw [flsOf_snoc] at hown5
            clear hown4 hgrow5 hat5 hlt5 hb4
            go_wp2_with fail
            go_roundw
            case rel => exact ⟨k + 1, true, us ++ [f] ++ [x], by omega, by go_num, rfl, by rw [List.length_append, List.length_append, List.length_singleton, List.length_singleton]; exact hown5, by simp; omega, HT.out, hb5⟩
            case measure => simp [intOf]; omega
    · have b1 : decide ((k : Int) < ts.length) = false := by simp; omega
      have b1n : decide (k < ts.length) = false := by simp; omega
      have HD := Lib.hid (HQ.out.trans (by rw [List.drop_of_length_le (by omega), Tre.qput]))
      clear HQ
      cases done with
      | true =>
        have HT := Lib.hid (show R = if 64 < us.length then ([], 10) else (us, 0) by rw [HR.out, HD.out]; rfl)
        clear HR HD
        obtain ⟨Au, cu, rfl, _⟩ := owns_fls hown
        by_cases hbig : 64 < us.length
        · have b2 : decide ((64 : Int) < us.length) = true := by simp; omega
          have b2n : decide (64 < us.length) = true := by simp; omega
          have HT2 := Lib.hid (HT.out.trans (if_pos hbig))
          clear HT
          go_wp2_with fail
          go_ret2
          rw [HT2.out]
          exact ⟨_, rfl, World.ownsRow_nil _ _ _ _, by rw [HBB.out]; exact HB0.out.trans (hb.mono (Nat.le_of_lt hbs))⟩
        · have b2 : decide ((64 : Int) < us.length) = false := by simp; omega
          have b2n : decide (64 < us.length) = false := by simp; omega
          have HT2 := Lib.hid (HT.out.trans (if_neg hbig))
          clear HT
          go_wp2_with fail
          go_ret2
          rw [HT2.out]
          exact ⟨_, rfl, by rw [HBB.out]; exact hown.mono (Nat.le_of_lt hbs), by rw [HBB.out]; exact HB0.out.trans (hb.mono (Nat.le_of_lt hbs))⟩
      | false =>
        have HT := Lib.hid (show R = if 64 < (us ++ [f]).length then ([], 10) else (us ++ [f], 0) by rw [HR.out, HD.out]; rfl)
        clear HR HD
        have hul : (us ++ [f]).length = us.length + 1 := by simp
        by_cases hbig : 64 < us.length + 1
        · have b2 : decide ((64 : Int) < (us.length : Int) + 1) = true := by simp; omega
          have b2n : decide (64 < us.length + 1) = true := by simp; omega
          have HT2 := Lib.hid (HT.out.trans (if_pos (by rw [hul]; exact hbig)))
          clear HT
          go_wp2_with (at_builtin; refine wpList_append_lies _ (by rfl) _ _ 23 (by rfl) W.heap.size 31 i0 _ 2 32 Tryz.underlying23 hi0 hz0 hz1 hz2 rfl (by omega) u6 us.length _ (by rfl) (hown.alloc _) ⟨wr.heap.size, 0, none⟩ 1 1 [_, _] (by rfl) (by rfl) (World.news_of_block (cs := #[_, _]) (t := 31) (fr := (0, 0)) (by have := heap_alloc_new wr (.cells #[.string (str f.path), .string (str f.data)] 31); simpa using this)) (by simp [Value.oneCell']) (by omega) (by unfold maxLen; omega) (by omega) (by have := hb.size; simp; omega) (wr.heap.size + 1) (by simp) ?_; intro gg4 cap4 w4 hown4 hgrow4 hat4 hlt4)
          have hb4 : Below W.heap.size W w4 := grown_own0 (hb.alloc hb.size _) hgrow4 (fun q hq => (hrow q hq).1)
          rw [flsOf_snoc] at hown4
          clear hown hgrow4 hat4 hlt4
          go_ret2
          rw [HT2.out]
          exact ⟨_, rfl, World.ownsRow_nil _ _ _ _, by rw [HBB.out]; exact HB0.out.trans (hb4.mono (Nat.le_of_lt hbs))⟩
        · have b2 : decide ((64 : Int) < (us.length : Int) + 1) = false := by simp; omega
          have b2n : decide (64 < us.length + 1) = false := by simp; omega
          have HT2 := Lib.hid (HT.out.trans (if_neg (by rw [hul]; exact hbig)))
          clear HT
          go_wp2_with (at_builtin; refine wpList_append_lies _ (by rfl) _ _ 23 (by rfl) W.heap.size 31 i0 _ 2 32 Tryz.underlying23 hi0 hz0 hz1 hz2 rfl (by omega) u6 us.length _ (by rfl) (hown.alloc _) ⟨wr.heap.size, 0, none⟩ 1 1 [_, _] (by rfl) (by rfl) (World.news_of_block (cs := #[_, _]) (t := 31) (fr := (0, 0)) (by have := heap_alloc_new wr (.cells #[.string (str f.path), .string (str f.data)] 31); simpa using this)) (by simp [Value.oneCell']) (by omega) (by unfold maxLen; omega) (by omega) (by have := hb.size; simp; omega) (wr.heap.size + 1) (by simp) ?_; intro gg4 cap4 w4 hown4 hgrow4 hat4 hlt4)
          have hb4 : Below W.heap.size W w4 := grown_own0 (hb.alloc hb.size _) hgrow4 (fun q hq => (hrow q hq).1)
          rw [flsOf_snoc] at hown4
          clear hown hgrow4 hat4 hlt4
          go_ret2
          rw [HT2.out]
          exact ⟨_, rfl, by rw [HBB.out, hul]; exact hown4.mono (Nat.le_of_lt hbs), by rw [HBB.out]; exact HB0.out.trans (hb4.mono (Nat.le_of_lt hbs))⟩
end Go.Proofs.YtinkpbobkeppiaaGreatDoor
