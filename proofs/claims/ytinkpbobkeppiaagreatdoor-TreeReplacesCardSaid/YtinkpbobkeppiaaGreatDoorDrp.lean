/- Drop on both sides. Condition: bytealg's MaxLen lies in its variable. -/
import Derived.Test.YtinkpbobkeppiaaGreatDoorWlk
namespace Go.Proofs.YtinkpbobkeppiaaGreatDoor
open Go.RowKit

/-- What a list of files and an error are as a result. -/
def GotE (w : World) (R : List Tre.Fl × Int) : Ending → World → Prop := fun x w' => ∃ v, x = .returned (.tuple #[v, .int .i64 R.2]) ∧ w'.ownsRow w.heap.size 31 2 v R.1.length (flsOf R.1) ∧ Below w.heap.size w w'
def dropR (ts : List Tre.Fl) (p : List UInt8) : List Tre.Fl × Int := if Tre.check ts ≠ 0 then ([], 1) else if (Tre.find ts p).2 = false then ([], 7) else (Tre.drop ts p, 0)
theorem dropR_def (ts : List Tre.Fl) (p : List UInt8) : dropR ts p = if Tre.check ts ≠ 0 then ([], 1) else if (Tre.find ts p).2 = false then ([], 7) else (Tre.drop ts p, 0) := rfl
theorem findV_def (t : List Tre.Fl) (p : List UInt8) : findV t p = .tuple #[.string (str (Tre.find t p).1), .bool (Tre.find t p).2] := rfl
theorem drop_all (ts : List Tre.Fl) (p : List UInt8) : (Tre.drop ts p).length ≤ ts.length ∧ ((Tre.drop ts p).length = ts.length ↔ (Tre.find ts p).2 = false) := by
  induction ts with
  | nil => simp [Tre.drop, Tre.find]
  | cons f t ih =>
    have hf : (Tre.find (f :: t) p).2 = if f.path == p then true else (Tre.find t p).2 := by
      unfold Tre.find
      rw [List.find?_cons]
      cases f.path == p <;> rfl
    cases h : f.path == p with
    | true =>
      rw [drop_hit f t p h, hf, h]
      refine ⟨by have := ih.1; simp; omega, ?_⟩
      have := ih.1
      simp
      omega
    | false =>
      rw [drop_miss f t p h, hf, h]
      refine ⟨by have := ih.1; simp; omega, ?_⟩
      simp only [List.length_cons, Nat.add_right_cancel_iff, Bool.false_eq_true, if_false]
      exact ih.2
set_option maxHeartbeats 4000000 in
set_option maxRecDepth 100000 in
theorem drop_any (A : Option Addr) (c : Nat) (ts : List Tre.Fl) (p : ByteArray) (w : World) (hA : FlsAt w w.heap.size A ts) (hl : ts.length ≤ 1000000) (hL : FlsLen ts) (hM : MaxAt w) (hcap : ts.length ≤ c) (hcap2 : c ≤ maxLen) :
    Calls Tryz.prog 21 #[.slice A ts.length c, .string p] w (GotE w (dropR ts p.data.toList)) := by
  have HV := Lib.hid (dropR_def ts p.data.toList)
  generalize dropR ts p.data.toList = R at *
  have hc1 := check_any A c ts w hA (by omega) hL hM hcap hcap2
  have hc2 := fun w' (hb : Below w.heap.size w w') => find_any A c ts p w' (hA.next hb) (by omega)
  have hc3 := fun w' (hb : Below w.heap.size w w') => without_any A c ts p w' (hA.next hb) hl
  simp only [findV_def] at hc2
  have hcases : Tre.check ts ≠ 0 ∨ Tre.check ts = 0 := (Classical.em _).symm
  rcases hcases with h0 | h0
  · have n0 : (Tre.check ts != 0) = true := by rw [bne_iff_ne]; exact h0
    have HT := Lib.hid (show R = ([], 1) by rw [HV.out, if_pos h0])
    clear HV hc2 hc3
    generalize Tre.check ts = e at *
    go_enter Tryz.func21, Tryz.ntmps21
    go_wp2_with fail
    with_reducible refine hc1.mono ?_
    clear hc1
    rintro x w2 ⟨rfl, hb⟩
    go_wp2_with fail
    go_ret2
    rw [HT.out]
    exact ⟨_, rfl, World.ownsRow_nil _ _ _ _, hb⟩
  · rw [h0] at hc1
    have HV1 := Lib.hid (HV.out.trans (if_neg (by rw [h0]; decide)))
    clear HV h0
    go_enter Tryz.func21, Tryz.ntmps21
    go_wp2_with fail
    with_reducible refine hc1.mono ?_
    clear hc1
    rintro x w2 ⟨rfl, hb⟩
    go_wp2_with fail
    have h2 := hc2 w2 hb
    clear hc2
    cases hf : (Tre.find ts p.data.toList).2 with
    | false =>
      rw [hf] at h2
      have HT := Lib.hid (show R = ([], 7) by rw [HV1.out, if_pos hf])
      clear HV1 hf hc3
      generalize (Tre.find ts p.data.toList).1 = fs at *
      with_reducible refine h2.mono ?_
      clear h2
      rintro x w3 ⟨rfl, hb3⟩
      replace hb := hb.trans (hb3.mono hb.size)
      go_wp2_with fail
      go_ret2
      rw [HT.out]
      exact ⟨_, rfl, World.ownsRow_nil _ _ _ _, hb⟩
    | true =>
      rw [hf] at h2
      have HT := Lib.hid (show R = (Tre.drop ts p.data.toList, 0) by rw [HV1.out, if_neg (by rw [hf]; decide)])
      clear HV1 hf
      generalize (Tre.find ts p.data.toList).1 = fs at *
      with_reducible refine h2.mono ?_
      clear h2
      rintro x w3 ⟨rfl, hb3⟩
      replace hb := hb.trans (hb3.mono hb.size)
      have h3 := hc3 w3 hb
      clear hc3 hb3
      generalize Tre.drop ts p.data.toList = D at *
      go_wp2_with fail
      with_reducible refine h3.mono ?_
      clear h3
      rintro x w4 ⟨v, rfl, hown, hb4⟩
      go_wp2_with fail
      go_ret2
      rw [HT.out]
      exact ⟨_, rfl, hown.mono hb.size, hb.trans (hb4.mono hb.size)⟩
set_option maxHeartbeats 4000000 in
set_option maxRecDepth 100000 in
theorem qDrop_any (A : Option Addr) (c : Nat) (ts : List Tre.Fl) (p : ByteArray) (w : World) (hA : FlsAt w w.heap.size A ts) (hl : ts.length ≤ 1000000) (hL : FlsLen ts) (hcap : ts.length ≤ c) (hcap2 : c ≤ maxLen) :
    Calls Tryz.prog 22 #[.slice A ts.length c, .string p] w (GotE w (dropR ts p.data.toList)) := by
  obtain ⟨i0, hi0, hz0, hz1, hz2⟩ := info_parts infoF
  have HV := Lib.hid (dropR_def ts p.data.toList)
  generalize dropR ts p.data.toList = R at *
  have hc1 := qCheck_any A c ts w hA (by omega) hL hcap hcap2
  have hcases : Tre.check ts ≠ 0 ∨ Tre.check ts = 0 := (Classical.em _).symm
  rcases hcases with h0 | h0
  · have n0 : (Tre.check ts != 0) = true := by rw [bne_iff_ne]; exact h0
    have HT := Lib.hid (show R = ([], 1) by rw [HV.out, if_pos h0])
    clear HV
    generalize Tre.check ts = e at *
    go_enter Tryz.func22, Tryz.ntmps22
    go_wp2_with fail
    with_reducible refine hc1.mono ?_
    clear hc1
    rintro x w2 ⟨rfl, hb⟩
    go_wp2_with fail
    go_ret2
    rw [HT.out]
    exact ⟨_, rfl, World.ownsRow_nil _ _ _ _, hb⟩
  · rw [h0] at hc1
    have HV1 := Lib.hid (HV.out.trans (if_neg (by rw [h0]; decide)))
    have hda := drop_all ts p.data.toList
    have HR := Lib.hid (show Tre.drop ts p.data.toList = [] ++ Tre.drop (ts.drop 0) p.data.toList from rfl)
    generalize Tre.drop ts p.data.toList = D at *
    clear HV h0
    go_enter Tryz.func22, Tryz.ntmps22
    go_wp2_with fail
    with_reducible refine hc1.mono ?_
    clear hc1
    rintro x w2 ⟨rfl, hb⟩
    go_wp2_with fail
    go_loopw [6, 14] (fun v i wr => ∃ (k : Nat) (us : List Tre.Fl), k ≤ ts.length ∧ i = .int .i64 k ∧ wr.ownsRow w.heap.size 31 2 v us.length (flsOf us) ∧ us.length ≤ k ∧ D = us ++ Tre.drop (ts.drop k) p.data.toList ∧ Below w.heap.size w wr) (fun _ i _ => ts.length - (intOf i).toNat)
    case atStart => exact ⟨0, [], by omega, rfl, World.ownsRow_nil _ _ _ _, by simp, HR.out, hb⟩
    case round =>
      clear HR hb
      obtain ⟨k, us, hk, rfl, hown, hus, hR, hb⟩ := hrel
      have HR := Lib.hid hR
      clear hR
      by_cases hlt : k < ts.length
      · have b1 : decide ((k : Int) < ts.length) = true := by simp; omega
        have b1n : decide (k < ts.length) = true := by simp; omega
        have HDA := Lib.hid hda
        clear hda
        obtain ⟨g, o, rfl, hg, hc0, hc1⟩ := hA k hlt
        have hd0 := (hb.cell (p := ⟨g, o + k * 2, none⟩) hg).trans hc0
        have hd1 := (hb.cell (p := ⟨g, o + k * 2 + 1, none⟩) hg).trans hc1
        have HD := Lib.hid (HR.out.trans (by rw [list_drop ts k hlt]))
        clear hc0 hc1 HR
        generalize ts[k] = f at *
        have hbw : Below w.heap.size w (wr.alloc (.cells #[.string (str f.path), .string (str f.data)] 31)) := hb.alloc hb.size _
        have hown1 := hown.alloc (.cells #[.string (str f.path), .string (str f.data)] 31)
        have hrow := hown.lt
        cases he : f.path == p.data.toList with
        | true =>
          have o2 : ((str f.path).toList == p.toList) = true := by rw [str_list, ByteArray.toList_eq]; exact he
          have o3 : ((str f.path).toList != p.toList) = false := by rw [bne, o2]; rfl
          have HT := Lib.hid (HD.out.trans (by rw [drop_hit f _ _ he]))
          clear HD he hown
          go_wp2_with fail
          go_roundw
          case rel => exact ⟨k + 1, us, by omega, by go_num, hown1, by omega, HT.out, hbw⟩
          case measure => simp [intOf]; omega
        | false =>
          have o2 : ((str f.path).toList == p.toList) = false := by rw [str_list, ByteArray.toList_eq]; exact he
          have o3 : ((str f.path).toList != p.toList) = true := by rw [bne, o2]; rfl
          have HT := Lib.hid (show D = (us ++ [f]) ++ Tre.drop (ts.drop (k + 1)) p.data.toList by rw [HD.out, drop_miss f _ _ he]; simp)
          clear HD he
          go_upto_region 9 with (at_builtin; refine wpList_append_lies _ (by rfl) _ _ 23 (by rfl) w.heap.size 31 i0 _ 2 32 Tryz.underlying23 hi0 hz0 hz1 hz2 rfl (by omega) u6 us.length _ (by rfl) ((hown.alloc _).alloc _) ⟨wr.heap.size + 1, 0, none⟩ 1 1 [_, _] (by rfl) (by rfl) (World.news_of_block (cs := #[_, _]) (t := 31) (fr := (0, 0)) (by have := heap_alloc_new (wr.alloc (.cells #[.string (str f.path), .string (str f.data)] 31)) (.cells #[.string (str f.path), .string (str f.data)] 31); simpa using this)) (by simp [Value.oneCell']) (by omega) (by unfold maxLen; omega) (by omega) (by have := hb.size; simp; omega) (wr.heap.size + 2) (by simp) ?_; intro gg cap w3 hown3 hgrow hat hlt3)
          have hb3 : Below w.heap.size w w3 := grown_own0 (hbw.alloc (by have := hb.size; simp; omega) _) hgrow (fun k' hk' => (hrow k' hk').1)
          rw [flsOf_snoc] at hown3
          have hown4 : w3.ownsRow w.heap.size 31 2 (.slice (some ⟨gg, 0, none⟩) (us.length + 1) cap) (us ++ [f]).length (flsOf (us ++ [f])) := by
            rw [List.length_append, List.length_singleton]; exact hown3
          clear hown3 hown hown1 hgrow hat hlt3 hrow hbw hd0 hd1
          go_wp2_with fail
          go_roundw
          case rel => exact ⟨k + 1, us ++ [f], by omega, by go_num, hown4, by simp; omega, HT.out, hb3⟩
          case measure => simp [intOf]; omega
      · have b1 : decide ((k : Int) < ts.length) = false := by simp; omega
        have b1n : decide (k < ts.length) = false := by simp; omega
        have HU := Lib.hid (show D = us by rw [HR.out, List.drop_of_length_le (by omega)]; simp [Tre.drop])
        rw [HU.out] at hda
        have hform := owns_fls hown
        obtain ⟨A2, c2, rfl, hA2⟩ := hform
        clear HR hA2
        cases hf : (Tre.find ts p.data.toList).2 with
        | false =>
          have HT := Lib.hid (show R = ([], 7) by rw [HV1.out, if_pos hf])
          have he : us.length = ts.length := hda.2.2 hf
          have b3 : ((us.length : Int) == (ts.length : Int)) = true := by rw [beq_iff_eq]; omega
          have b3n : (us.length == ts.length) = true := by rw [beq_iff_eq]; omega
          clear HV1 hf hda he
          go_wp2_with fail
          go_ret2
          rw [HT.out]
          exact ⟨_, rfl, World.ownsRow_nil _ _ _ _, hb⟩
        | true =>
          have HT := Lib.hid (show R = (us, 0) by rw [HV1.out, if_neg (by rw [hf]; decide), HU.out])
          have he : us.length ≠ ts.length := fun e => by have := hda.2.1 e; rw [hf] at this; cases this
          have b3 : ((us.length : Int) == (ts.length : Int)) = false := by rw [beq_eq_false_iff_ne]; omega
          have b3n : (us.length == ts.length) = false := by rw [beq_eq_false_iff_ne]; exact he
          clear HV1 hf hda he
          go_wp2_with fail
          go_ret2
          rw [HT.out]
          exact ⟨_, rfl, hown, hb⟩
end Go.Proofs.YtinkpbobkeppiaaGreatDoor
