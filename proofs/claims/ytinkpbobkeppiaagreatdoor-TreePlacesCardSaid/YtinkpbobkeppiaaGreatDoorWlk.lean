/- walk over the files of a tree, and without. No condition but the lengths. -/
import Derived.Test.YtinkpbobkeppiaaGreatDoorQck
import Derived.Deep.Onto
namespace Go.Proofs.YtinkpbobkeppiaaGreatDoor
open Go.RowKit

/-- A file as an argument. -/
def flV (f : Tre.Fl) : Value := .agg #[.string (str f.path), .string (str f.data)]
set_option maxHeartbeats 2000000 in
set_option maxRecDepth 100000 in
theorem withoutFn (b : Nat) (f : Tre.Fl) (p : ByteArray) (w : World) (k0 : w.cell? ⟨b, 0, none⟩ = some (.string p)) :
    Calls Tryz.prog 78 #[flV f, .pointer (some ⟨b, 0, none⟩)] w fun x w' => x = .returned (.tuple #[flV f, .bool (!(f.path == p.data.toList))]) ∧ Below w.heap.size w w' := by
  unfold flV
  have hb0 : Below w.heap.size w (w.alloc (.cells #[.string (str f.path), .string (str f.data)] 31)) := (Below.refl _ _).alloc (Nat.le_refl _) _
  have hb1 : Below w.heap.size w ((w.alloc (.cells #[.string (str f.path), .string (str f.data)] 31)).alloc (.cells #[.string ⟨#[]⟩, .string ⟨#[]⟩] 31)) := hb0.alloc hb0.size _
  have hlt := World.block_lt_of_cell? w _ k0
  have k1 := (hb1.cell (p := ⟨b, 0, none⟩) hlt).trans k0
  cases he : f.path == p.data.toList with
  | true =>
    have o2 : ((str f.path).toList == p.toList) = true := by rw [str_list, ByteArray.toList_eq]; exact he
    have o3 : ((str f.path).toList != p.toList) = false := by rw [bne, o2]; rfl
    clear he
    go_enter Tryz.func78, Tryz.ntmps78
    go_wp2_with fail
    go_region
    all_goals
      go_wp2_with fail
      exact bodyPost_ret (v := .tuple #[.agg #[.string (str f.path), .string (str f.data)], .bool false]) (by simp [results, Tryz.results78, go_sem]) rfl ⟨rfl, (hb0.alloc hb0.size _).drew⟩
  | false =>
    have o2 : ((str f.path).toList == p.toList) = false := by rw [str_list, ByteArray.toList_eq]; exact he
    have o3 : ((str f.path).toList != p.toList) = true := by rw [bne, o2]; rfl
    clear he
    go_enter Tryz.func78, Tryz.ntmps78
    go_wp2_with fail
    go_region
    all_goals
      go_wp2_with fail
      exact bodyPost_ret (v := .tuple #[.agg #[.string (str f.path), .string (str f.data)], .bool true]) (by simp [results, Tryz.results78, go_sem]) rfl ⟨rfl, (hb0.alloc hb0.size _).drew⟩
theorem infoF : (Tryz.prog.info? 31).map (fun i => (i.zero, i.size, i.bytes)) = some (some (.agg #[.string ⟨#[]⟩, .string ⟨#[]⟩]), 2, 32) := by kernel_rfl
/-- What a list of files is as a result. -/
def GotF (w : World) (ts : List Tre.Fl) : Ending → World → Prop := fun x w' => ∃ v, x = .returned v ∧ w'.ownsRow w.heap.size 31 2 v ts.length (flsOf ts) ∧ Below w.heap.size w w'
theorem drop_hit (f : Tre.Fl) (t : List Tre.Fl) (p : List UInt8) (h : (f.path == p) = true) : Tre.drop (f :: t) p = Tre.drop t p := by simp [Tre.drop, h]
theorem drop_miss (f : Tre.Fl) (t : List Tre.Fl) (p : List UInt8) (h : (f.path == p) = false) : Tre.drop (f :: t) p = f :: Tre.drop t p := by simp [Tre.drop, h]
set_option maxHeartbeats 4000000 in
set_option maxRecDepth 100000 in
theorem walkWithout (b : Nat) (A : Option Addr) (c : Nat) (ts : List Tre.Fl) (p : ByteArray) (w : World) (hA : FlsAt w w.heap.size A ts) (hl : ts.length ≤ 1000000) (k0 : w.cell? ⟨b, 0, none⟩ = some (.string p)) :
    Calls Tryz.prog 57 #[.slice A ts.length c, .func (Fn.func 78) #[] #[.pointer (some ⟨b, 0, none⟩)]] w (GotF w (Tre.drop ts p.data.toList)) := by
  obtain ⟨i0, hi0, hz0, hz1, hz2⟩ := info_parts infoF
  have HR := Lib.hid (show Tre.drop ts p.data.toList = [] ++ Tre.drop (ts.drop 0) p.data.toList from rfl)
  generalize Tre.drop ts p.data.toList = R at *
  have hb0 := World.block_lt_of_cell? w _ k0
  go_enter Tryz.func57, Tryz.ntmps57
  go_wp2_with fail
  go_loopw [5, 12] (fun v i wr => ∃ (k : Nat) (us : List Tre.Fl), k ≤ ts.length ∧ i = .int .i64 k ∧ wr.ownsRow w.heap.size 31 2 v us.length (flsOf us) ∧ us.length ≤ k ∧ R = us ++ Tre.drop (ts.drop k) p.data.toList ∧ Below w.heap.size w wr) (fun _ i _ => ts.length - (intOf i).toNat)
  case atStart => exact ⟨0, [], by omega, rfl, World.ownsRow_nil _ _ _ _, by simp, HR.out, Below.refl _ _⟩
  case round =>
    clear HR
    obtain ⟨k, us, hk, rfl, hown, hus, hR, hb⟩ := hrel
    have HR := Lib.hid hR
    clear hR
    by_cases hlt : k < ts.length
    · have b1 : decide ((k : Int) < ts.length) = true := by simp; omega
      have b1n : decide (k < ts.length) = true := by simp; omega
      obtain ⟨g, o, rfl, hg, hc0, hc1⟩ := hA k hlt
      have hd0 := (hb.cell (p := ⟨g, o + k * 2, none⟩) hg).trans hc0
      have hd1 := (hb.cell (p := ⟨g, o + k * 2 + 1, none⟩) hg).trans hc1
      have HD := Lib.hid (HR.out.trans (by rw [list_drop ts k hlt]))
      clear hc0 hc1 HR
      generalize ts[k] = f at *
      have hbw : Below w.heap.size w (wr.alloc (.cells #[.string (str f.path), .string (str f.data)] 31)) := hb.alloc hb.size _
      have hcall := withoutFn b f p (wr.alloc (.cells #[.string (str f.path), .string (str f.data)] 31)) ((hbw.cell (p := ⟨b, 0, none⟩) hb0).trans k0)
      unfold flV at hcall
      have hown1 := hown.alloc (.cells #[.string (str f.path), .string (str f.data)] 31)
      clear hown
      cases he : f.path == p.data.toList with
      | true =>
        rw [he] at hcall
        have HT := Lib.hid (HD.out.trans (by rw [drop_hit f _ _ he]))
        clear HD he
        go_wp2_with fail
        with_reducible refine hcall.mono ?_
        clear hcall
        rintro e w2 ⟨rfl, hb2⟩
        have hown2 := (owns_below hown1 hb2).alloc (.cells #[.string (str f.path), .string (str f.data)] 31)
        have hbn := (hbw.trans (hb2.mono hbw.size))
        have hbm := hbn.alloc hbn.size (.cells #[.string (str f.path), .string (str f.data)] 31)
        clear hb2 hbw hbn hown1 hd0 hd1 hb
        go_wp2_with fail
        go_roundw
        case rel => exact ⟨k + 1, us, by omega, by go_num, hown2, by omega, HT.out, hbm⟩
        case measure => simp [intOf]; omega
      | false =>
        rw [he] at hcall
        have HT := Lib.hid (show R = (us ++ [f]) ++ Tre.drop (ts.drop (k + 1)) p.data.toList by rw [HD.out, drop_miss f _ _ he]; simp)
        clear HD he
        go_wp2_with fail
        with_reducible refine hcall.mono ?_
        clear hcall
        rintro e w2 ⟨rfl, hb2⟩
        have hown2 := owns_below hown1 hb2
        have hbn := (hbw.trans (hb2.mono hbw.size))
        clear hb2 hbw hown1 hd0 hd1 hb
        have hrow := hown2.lt
        go_upto_region 8 with (at_builtin; refine wpList_append_lies _ (by rfl) _ _ 23 (by rfl) w.heap.size 31 i0 _ 2 32 Tryz.underlying23 hi0 hz0 hz1 hz2 rfl (by omega) u5 us.length _ (by rfl) ((hown2.alloc _).alloc _) ⟨w2.heap.size + 1, 0, none⟩ 1 1 [_, _] (by rfl) (by rfl) (World.news_of_block (cs := #[_, _]) (t := 31) (fr := (0, 0)) (by have := heap_alloc_new (w2.alloc (.cells #[.string (str f.path), .string (str f.data)] 31)) (.cells #[.string (str f.path), .string (str f.data)] 31); simpa using this)) (by simp [Value.oneCell']) (by omega) (by unfold maxLen; omega) (by omega) (by have := hbn.size; simp; omega) (w2.heap.size + 2) (by simp) ?_; intro gg cap w3 hown3 hgrow hat hlt3)
        have hb3 : Below w.heap.size w w3 := grown_own0 ((hbn.alloc hbn.size _).alloc (by have := hbn.size; simp; omega) _) hgrow (fun k' hk' => (hrow k' hk').1)
        rw [flsOf_snoc] at hown3
        have hown4 : w3.ownsRow w.heap.size 31 2 (.slice (some ⟨gg, 0, none⟩) (us.length + 1) cap) (us ++ [f]).length (flsOf (us ++ [f])) := by
          rw [List.length_append, List.length_singleton]; exact hown3
        clear hown3 hown2 hgrow hat hlt3 hbn hrow
        go_wp2_with fail
        go_roundw
        case rel => exact ⟨k + 1, us ++ [f], by omega, by go_num, hown4, by simp; omega, HT.out, hb3⟩
        case measure => simp [intOf]; omega
    · have b1 : decide ((k : Int) < ts.length) = false := by simp; omega
      have b1n : decide (k < ts.length) = false := by simp; omega
      have HT := Lib.hid (show R = us by rw [HR.out, List.drop_of_length_le (by omega)]; simp [Tre.drop])
      clear HR
      go_wp2_with fail
      go_ret
      rw [HT.out]
      exact ⟨_, rfl, hown, hb⟩
set_option maxHeartbeats 1000000 in
set_option maxRecDepth 100000 in
theorem without_any (A : Option Addr) (c : Nat) (ts : List Tre.Fl) (p : ByteArray) (w : World) (hA : FlsAt w w.heap.size A ts) (hl : ts.length ≤ 1000000) :
    Calls Tryz.prog 52 #[.slice A ts.length c, .string p] w (GotF w (Tre.drop ts p.data.toList)) := by
  have hb0 : Below w.heap.size w (w.alloc (.cells #[.string p] 9)) := (Below.refl _ _).alloc (Nat.le_refl _) _
  have k0 : (w.alloc (.cells #[.string p] 9)).cell? ⟨w.heap.size, 0, none⟩ = some (.string p) := by rw [cell_of_row _ _ _ _ _ _ (heap_alloc_new w _)]; rfl
  have hcall := walkWithout w.heap.size A c ts p _ (hA.next hb0) hl k0
  clear k0
  generalize Tre.drop ts p.data.toList = R at *
  go_enter Tryz.func52, Tryz.ntmps52
  go_wp2_with fail
  with_reducible refine hcall.mono ?_
  clear hcall
  rintro e w2 ⟨v, rfl, hown, hb2⟩
  go_wp2_with fail
  go_ret
  exact ⟨v, rfl, hown.mono hb0.size, hb0.trans (hb2.mono hb0.size)⟩
end Go.Proofs.YtinkpbobkeppiaaGreatDoor
