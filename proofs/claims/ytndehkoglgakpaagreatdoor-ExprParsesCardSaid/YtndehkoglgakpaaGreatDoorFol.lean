/- Fold of the program, the loop. No condition but the lengths. -/
import Derived.Test.YtndehkoglgakpaaGreatDoorFld
import Derived.Test.YtndehkoglgakpaaGreatDoorPse
namespace Go.Proofs.YtndehkoglgakpaaGreatDoor
open Go.RowKit Go.Deep

theorem own_pos {w : World} {B : Nat} {e : TypeId} {size n : Nat} {v : Value} {xs : List Value} (h : w.ownsRow B e size v n xs) (hn : 0 < n) : ∃ g cap, v = .slice (some ⟨g, 0, none⟩) n cap ∧ B ≤ g ∧ g < w.heap.size ∧ n ≤ cap ∧ cap ≤ maxLen ∧ ∀ j, j < n * size → w.cell? ⟨g, j, none⟩ = xs[j]? := by
  rcases h.2 with ⟨rfl, h0⟩ | ⟨g, cap, cur, rfl, hb, hg, h1, h2, _, _⟩
  · omega
  · exact ⟨g, cap, rfl, hb, (Array.getElem?_eq_some_iff.1 hg).1, h1, h2, fun j hj => h.cellAt j hj⟩
/-- Three stores into one box. -/
theorem own_set3 {w : World} {B n : Nat} {e : TypeId} {size : Nat} {v : Value} {xs : List Value} (q : Nat) (h : w.ownsRow B e size v n xs) (hne : ¬ v.ownBlock = some q) (x y z : Value) : (((w.setCell ⟨q, 0, none⟩ x).setCell ⟨q, 1, none⟩ y).setCell ⟨q, 2, none⟩ z).ownsRow B e size v n xs :=
  ((h.kept (grown_set w q 0 x) (.inr hne)).kept (grown_set _ q 1 y) (.inr hne)).kept (grown_set _ q 2 z) (.inr hne)
theorem set3_box {w : World} {q : Nat} {a b c : Value} {t : TypeId} {fr : Nat × Nat} (h : w.heap[q]? = some (.cells #[a, b, c] t fr)) (x y z : Value) : (((w.setCell ⟨q, 0, none⟩ x).setCell ⟨q, 1, none⟩ y).setCell ⟨q, 2, none⟩ z).heap[q]? = some (.cells #[x, y, z] t fr) := by
  simp [World.setCell, Array.getElem?_modify, h]
theorem fold_def (f : List Ex.Op) : Ex.fold f = if Ex.check f ≠ 0 then ([], Ex.check f) else (f.foldl Ex.fold1 [], 0) := rfl
theorem last_one {α : Type} (l : List α) (h : 1 ≤ l.length) : ∃ pre a, l = pre ++ [a] := ⟨l.dropLast, l.getLast (List.length_pos_iff.1 h), (List.dropLast_concat_getLast (List.length_pos_iff.1 h)).symm⟩
theorem last_two {α : Type} (l : List α) (h : 2 ≤ l.length) : ∃ pre a b, l = pre ++ [a, b] := by
  obtain ⟨p, b, rfl⟩ := last_one l (by omega)
  obtain ⟨q, a, rfl⟩ := last_one p (by simp at h; omega)
  exact ⟨q, a, b, by simp⟩
set_option maxHeartbeats 8000000 in
set_option maxRecDepth 100000 in
theorem fold_any (A : Option Addr) (c : Nat) (f : List Ex.Op) (w : World) (hA : OpsAt w w.heap.size A f) (hl : f.length ≤ 1000000000) (hL : OpsLen f) :
    Calls Tryz.prog 17 #[.slice A f.length c] w (GotF w (Ex.fold f)) := by
  obtain ⟨i0, hi0, hz0, hz1, hz2⟩ := info_parts infoO
  have HV := Lib.hid (fold_def f)
  have hck := fcheck_any A c f w hA hl hL
  generalize Ex.fold f = R at *
  have hcases : Ex.check f ≠ 0 ∨ Ex.check f = 0 := (Classical.em _).symm
  rcases hcases with h0 | h0
  · have q1 : (Ex.check f != 0) = true := by rw [bne_iff_ne]; exact h0
    have HR := Lib.hid (HV.out.trans (if_pos h0))
    generalize Ex.check f = e at *
    clear HV h0
    go_enter Tryz.func17, Tryz.ntmps17
    go_wp2_with fail
    with_reducible refine hck.mono ?_
    clear hck
    rintro x w1 ⟨rfl, hb1⟩
    go_wp2_with fail
    go_ret2
    rw [HR.out]
    exact ⟨_, rfl, World.ownsRow_nil _ _ _ _, hb1⟩
  · rw [h0] at hck
    have HR := Lib.hid (HV.out.trans (if_neg (fun h => h h0)))
    have hl2 : f.length ≤ 256 := by
      rw [check_def] at h0
      split at h0
      · cases h0
      · omega
    have hchk : Ex.chk 0 (f.drop 0) = 0 := by rw [check_def, if_neg (by omega)] at h0; exact h0
    clear HV h0
    go_enter Tryz.func17, Tryz.ntmps17
    go_wp2_with fail
    with_reducible refine hck.mono ?_
    clear hck
    rintro x w1 ⟨rfl, hb1⟩
    go_wp2_with fail
    go_loopw [5, 18] (fun v i wr => ∃ (k : Nat) (acc : List Ex.Op) (m : Int), k ≤ f.length ∧ i = .int .i64 k ∧ acc = (f.take k).foldl Ex.fold1 [] ∧ 0 ≤ m ∧ m ≤ acc.length ∧ acc.length ≤ k ∧ Ex.chk m (f.drop k) = 0 ∧ OpsLen acc ∧ wr.ownsRow w.heap.size 42 3 v acc.length (opsOf acc) ∧ Below w.heap.size w wr) (fun _ i _ => f.length - (intOf i).toNat)
    case atStart => exact ⟨0, [], 0, by omega, rfl, rfl, by omega, by simp, by simp, hchk, fun o ho => by simp at ho, World.ownsRow_nil _ _ _ _, hb1⟩
    case round =>
      clear hchk hb1
      obtain ⟨k, acc, m, hk, rfl, hacc, hm0, hm1, hak, hch, hLa, hown, hb⟩ := hrel
      have HACC := Lib.hid hacc
      have HCH := Lib.hid hch
      clear hacc hch
      by_cases hlt : k < f.length
      · have b1 : decide ((k : Int) < f.length) = true := by simp; omega
        have b1n : decide (k < f.length) = true := by simp; omega
        obtain ⟨g0, o0, rfl, hg, hc0, hc1, hc2⟩ := hA k hlt
        have hd0 := (hb.cell (p := ⟨g0, o0 + k * 3, none⟩) hg).trans hc0
        have hd1 := (hb.cell (p := ⟨g0, o0 + k * 3 + 1, none⟩) hg).trans hc1
        have hd2 := (hb.cell (p := ⟨g0, o0 + k * 3 + 2, none⟩) hg).trans hc2
        have HN := Lib.hid (show (f.take (k + 1)).foldl Ex.fold1 [] = Ex.fold1 acc f[k] by rw [List.take_succ_eq_append_getElem hlt, List.foldl_append, ← HACC.out]; rfl)
        have HC := Lib.hid (show (Ex.opr f[k]).2 = true ∧ (Ex.opr f[k]).1 ≤ m ∧ Ex.chk (m + (1 - (Ex.opr f[k]).1)) (f.drop (k + 1)) = 0 by
          have h := HCH.out
          rw [list_drop f k hlt, Ex.chk_cons] at h
          split at h
          · rename_i h1; exact ⟨h1.1, h1.2, h⟩
          · cases h)
        have hLo := hL f[k] (List.getElem_mem hlt)
        clear hc0 hc1 hc2 HCH HACC
        generalize f[k] = o at *
        have hbw := hb.alloc hb.size (.cells #[.int .i64 o.kind, .string (str o.text), .int .u32 o.n] 42)
        have hcall := comp_any o (wr.alloc (.cells #[.int .i64 o.kind, .string (str o.text), .int .u32 o.n] 42))
        by_cases h6 : o.kind = 6
        · rw [if_pos h6] at hcall
          obtain ⟨pre, a, rfl⟩ := last_one acc (by have := HC.out.2.1; rw [Ex.opr_un h6] at this; omega)
          have HOP := Lib.hid (Ex.opr_un h6)
          have HF := Lib.hid (HN.out.trans (Ex.fold1_un pre a o h6))
          have HLA := Lib.hid hLa
          rw [show (pre ++ [a]).length = pre.length + 1 by simp] at hown
          obtain ⟨g, cap, rfl, hgB, hgl, hn1, hn2, hcell⟩ := own_pos hown (by omega)
          have hx := opsOf_get (pre ++ [a]) (pre.length + 0) (by simp)
          rw [show (pre ++ [a])[pre.length + 0]'(by simp) = a by simp] at hx
          have xa0 : wr.cell? ⟨g, pre.length * 3, none⟩ = some (.int .i64 a.kind) := by
            have h := (hcell ((pre.length + 0) * 3) (by omega)).trans hx.1
            rwa [show (pre.length + 0) * 3 = pre.length * 3 by omega] at h
          have xa1 : wr.cell? ⟨g, pre.length * 3 + 1, none⟩ = some (.string (str a.text)) := by
            have h := (hcell ((pre.length + 0) * 3 + 1) (by omega)).trans hx.2.1
            rwa [show (pre.length + 0) * 3 + 1 = pre.length * 3 + 1 by omega] at h
          have xa2 : wr.cell? ⟨g, pre.length * 3 + 2, none⟩ = some (.int .u32 a.n) := by
            have h := (hcell ((pre.length + 0) * 3 + 2) (by omega)).trans hx.2.2
            rwa [show (pre.length + 0) * 3 + 2 = pre.length * 3 + 2 by omega] at h
          clear hx
          have e1 : ((pre.length + 1 : Nat) : Int) - 1 = (pre.length : Int) := by omega
          have hne : ¬ cap = pre.length := by omega
          have hpl : pre.length ≤ 256 := by simp at hak; omega
          have hcm := cmp_func1 (.pointer (some ⟨wr.heap.size + 1, 0, none⟩))
          clear hcell
          clear h6
          go_wp2_with fail
          with_reducible refine hcall.mono ?_
          clear hcall
          rintro e w2 ⟨rfl, rfl⟩
          have hW : Below wr.heap.size wr ((wr.alloc (.cells #[.int .i64 o.kind, .string (str o.text), .int .u32 o.n] 42)).alloc (.cells #[.int .i64 o.kind, .string (str o.text), .int .u32 o.n] 42)) := ((Below.refl _ _).alloc (Nat.le_refl _) _).alloc (by simp) _
          have hbx : ((wr.alloc (.cells #[.int .i64 o.kind, .string (str o.text), .int .u32 o.n] 42)).alloc (.cells #[.int .i64 o.kind, .string (str o.text), .int .u32 o.n] 42)).heap[wr.heap.size]? = some (.cells #[.int .i64 o.kind, .string (str o.text), .int .u32 o.n] 42 (0, 0)) :=
            (((Below.refl _ (wr.alloc (.cells #[.int .i64 o.kind, .string (str o.text), .int .u32 o.n] 42))).alloc (Nat.le_refl _) _).block wr.heap.size (by simp)).trans (heap_alloc_new wr _)
          have hcx := heap_alloc_new (wr.alloc (.cells #[.int .i64 o.kind, .string (str o.text), .int .u32 o.n] 42)) (.cells #[.int .i64 o.kind, .string (str o.text), .int .u32 o.n] 42)
          rw [show (wr.alloc (.cells #[.int .i64 o.kind, .string (str o.text), .int .u32 o.n] 42)).heap.size = wr.heap.size + 1 by simp] at hcx
          go_wp2_with fail
          generalize (wr.alloc (.cells #[.int .i64 o.kind, .string (str o.text), .int .u32 o.n] 42)).alloc (.cells #[.int .i64 o.kind, .string (str o.text), .int .u32 o.n] 42) = W at *
          have ya0 := (hW.cell (p := ⟨g, pre.length * 3, none⟩) hgl).trans xa0
          have ya1 := (hW.cell (p := ⟨g, pre.length * 3 + 1, none⟩) hgl).trans xa1
          have ya2 := (hW.cell (p := ⟨g, pre.length * 3 + 2, none⟩) hgl).trans xa2
          have hOA : OpsAt W W.heap.size (some ⟨g, pre.length * 3, none⟩) [a] := fun i hi => by
            have hi0 : i = 0 := by simp at hi; omega
            subst hi0
            exact ⟨g, pre.length * 3, rfl, Nat.lt_of_lt_of_le hgl hW.size, ya0, ya1, ya2⟩
          have hcall : Calls Tryz.prog 39 #[.slice (some ⟨g, pre.length * 3, none⟩) 1 (cap - pre.length)] W fun x w' => x = .returned (.bool ([a].all Ex.isNum)) ∧ Below W.heap.size W w' := areNumbers_any _ _ [a] W hOA (by simp)
          rw [show [a].all Ex.isNum = Ex.isNum a by simp] at hcall
          have hown1 := owns_below hown hW
          clear hOA xa0 xa1 xa2
          cases hna : Ex.isNum a with
          | true =>
            rw [hna] at hcall
            have HT := Lib.hid (HF.out.trans (if_pos hna))
            clear HF hna
            with_reducible refine hcall.mono ?_
            clear hcall
            rintro e w3 ⟨rfl, hb3⟩
            have hbx3 := (hb3.block wr.heap.size (Array.getElem?_eq_some_iff.1 hbx).1).trans hbx
            have hcx3 := (hb3.block (wr.heap.size + 1) (Array.getElem?_eq_some_iff.1 hcx).1).trans hcx
            have ct : w3.cell? ⟨wr.heap.size + 1, 1, none⟩ = some (.string (str o.text)) := by rw [cell_of_row _ _ _ _ _ _ hcx3]; rfl
            have z2 := (hb3.cell (p := ⟨g, pre.length * 3 + 2, none⟩) (Nat.lt_of_lt_of_le hgl hW.size)).trans ya2
            have hcall := comp1_any g (wr.heap.size + 1) (pre.length * 3) 1 (cap - pre.length) o.text a.n w3 (by decide) ct z2
            have hrl := un_lt (l := o.text) (HLA.out a (by simp)).2.1 (HLA.out a (by simp)).2.2
            generalize (unR o.text a.n) = rr at *
            have hown3 := owns_below hown1 hb3
            have hb13 := hb.trans ((hW.trans (hb3.mono hW.size)).mono hb.size)
            clear hbx hcx ya0 ya1 ya2 ct z2 hown1 hcx3
            go_wp2_with fail
            with_reducible refine hcall.mono ?_
            clear hcall
            rintro e w4 ⟨rfl, hb4⟩
            have hbx4 := (hb4.block wr.heap.size (Array.getElem?_eq_some_iff.1 hbx3).1).trans hbx3
            have hown4 := owns_below hown3 hb4
            have hb14 := hb13.trans (hb4.mono hb13.size)
            clear hbx3 hown3 hb13 hb4 hb3
            have k0 : w4.cell? ⟨wr.heap.size, 0, none⟩ = some (.int .i64 o.kind) := by rw [cell_of_row _ _ _ _ _ _ hbx4]; rfl
            have k1 : w4.cell? ⟨wr.heap.size, 1, none⟩ = some (.string (str o.text)) := by rw [cell_of_row _ _ _ _ _ _ hbx4]; rfl
            have k2 : w4.cell? ⟨wr.heap.size, 2, none⟩ = some (.int .u32 o.n) := by rw [cell_of_row _ _ _ _ _ _ hbx4]; rfl
            have f0 : ∀ j, w4.frozen? ⟨wr.heap.size, j, none⟩ = false := fun j => by simp [World.frozen?, hbx4]
            go_upto_region 13 with (fail)
            have hws : w.heap.size ≤ wr.heap.size := hb.size
            have hown5 := own_set3 wr.heap.size (own_take hown4 (show pre.length ≤ pre.length + 1 by omega)) (fun e => absurd (show g = wr.heap.size by simpa [Value.ownBlock] using e) (by omega)) (.int .i64 1) (.string ⟨#[]⟩) (.int .u32 rr.1)
            rw [opsOf_take pre [a]] at hown5
            have hbx5 := set3_box hbx4 (.int .i64 1) (.string ⟨#[]⟩) (.int .u32 rr.1)
            have hb5 := ((hb14.setCell (p := ⟨wr.heap.size, 0, none⟩) hws (.int .i64 1)).setCell (p := ⟨wr.heap.size, 1, none⟩) hws (.string ⟨#[]⟩)).setCell (p := ⟨wr.heap.size, 2, none⟩) hws (.int .u32 rr.1)
            have hLn : OpsLen (pre ++ [⟨1, [], rr.1⟩]) := fun u hu => by
              rcases List.mem_append.1 hu with hu | hu
              · exact HLA.out u (by simp [hu])
              · simp at hu; subst hu; exact ⟨by simp, hrl.1, hrl.2⟩
            generalize ((w4.setCell ⟨wr.heap.size, 0, none⟩ (.int .i64 1)).setCell ⟨wr.heap.size, 1, none⟩ (.string ⟨#[]⟩)).setCell ⟨wr.heap.size, 2, none⟩ (.int .u32 rr.1) = w5 at *
            clear k0 k1 k2 f0 hown4 hbx4 hb14 hW hown hb
            have k0 : w5.cell? ⟨wr.heap.size, 0, none⟩ = some (.int .i64 1) := by rw [cell_of_row _ _ _ _ _ _ hbx5]; rfl
            have k1 : w5.cell? ⟨wr.heap.size, 1, none⟩ = some (.string ⟨#[]⟩) := by rw [cell_of_row _ _ _ _ _ _ hbx5]; rfl
            have k2 : w5.cell? ⟨wr.heap.size, 2, none⟩ = some (.int .u32 rr.1) := by rw [cell_of_row _ _ _ _ _ _ hbx5]; rfl
            have HNW := heap_alloc_new w5 (.cells #[.int .i64 1, .string ⟨#[]⟩, .int .u32 rr.1] 42)
            have hrow := hown5.lt
            clear hbx5
            go_upto_region 14 with (at_builtin; refine wpList_append_lies _ (by rfl) _ _ 26 (by rfl) w.heap.size 42 i0 _ 3 32 Tryz.underlying26 hi0 hz0 hz1 hz2 rfl (by omega) (.slice (some ⟨g, 0, none⟩) pre.length cap) (pre.length) _ (by rfl) (hown5.alloc _) ⟨w5.heap.size, 0, none⟩ 1 1 [_, _, _] (by rfl) (by rfl) (World.news_of_block (cs := #[_, _, _]) (t := 42) (fr := (0, 0)) HNW) (by simp [Value.oneCell']) (by omega) (by unfold maxLen; omega) (by omega) (by have := hb5.size; simp; omega) (w5.heap.size + 1) (by simp) ?_; intro gg cap3 w6 hown6 hgrow hat hlt6)
            have hb6 : Below w.heap.size w w6 := grown_own (hb5.alloc hb5.size _) hgrow (fun j hj => (hrow j hj).1)
            rw [show opsOf (pre) ++ [.int .i64 1, .string ⟨#[]⟩, .int .u32 rr.1] = opsOf (pre ++ [⟨1, [], rr.1⟩]) from opsOf_snoc _ ⟨1, [], rr.1⟩] at hown6
            have hown7 : w6.ownsRow w.heap.size 42 3 (.slice (some ⟨gg, 0, none⟩) (pre.length + 1) cap3) (pre ++ [⟨1, [], rr.1⟩] : List Ex.Op).length (opsOf (pre ++ [⟨1, [], rr.1⟩])) := by
              rw [show (pre ++ [⟨1, [], rr.1⟩] : List Ex.Op).length = pre.length + 1 by simp]; exact hown6
            clear hown6 hown5 hgrow hat hlt6 hrow k0 k1 k2 HNW
            go_wp2_with fail
            go_roundw
            case rel => ((first | exact ⟨k + 1, _, m + (1 - (Ex.opr o).1), by omega, by go_num, HT.out.symm, by have := HC.out.2.1; omega, by have := HC.out.2.1; rw [HOP.out] at this ⊢; simp at hm1; simp; omega, by simp at hak ⊢; omega, HC.out.2.2, hLn, hown7, hb6⟩ | ((repeat apply Exists.intro); exact ⟨⟨k + 1, _, m + (1 - (Ex.opr o).1), by omega, by go_num, HT.out.symm, by have := HC.out.2.1; omega, by have := HC.out.2.1; rw [HOP.out] at this ⊢; simp at hm1; simp; omega, by simp at hak ⊢; omega, HC.out.2.2, hLn, hown7, hb6⟩, rfl⟩)))
            case measure => simp [intOf]; omega
          | false =>
            rw [hna] at hcall
            have HT := Lib.hid (HF.out.trans (if_neg (by rw [hna]; decide)))
            clear HF hna
            with_reducible refine hcall.mono ?_
            clear hcall
            rintro e w5 ⟨rfl, hb3⟩
            have hbx5 := (hb3.block wr.heap.size (Array.getElem?_eq_some_iff.1 hbx).1).trans hbx
            have hown5 := owns_below hown1 hb3
            have hb5 := hb.trans ((hW.trans (hb3.mono hW.size)).mono hb.size)
            have hLn : OpsLen ((pre ++ [a]) ++ [⟨o.kind, o.text, o.n⟩]) := fun u hu => by
              rcases List.mem_append.1 hu with hu | hu
              · exact HLA.out u hu
              · simp at hu; subst hu; exact hLo
            clear hbx hcx ya0 ya1 ya2 hown1 hb3 hW hown hb
            have k0 : w5.cell? ⟨wr.heap.size, 0, none⟩ = some (.int .i64 o.kind) := by rw [cell_of_row _ _ _ _ _ _ hbx5]; rfl
            have k1 : w5.cell? ⟨wr.heap.size, 1, none⟩ = some (.string (str o.text)) := by rw [cell_of_row _ _ _ _ _ _ hbx5]; rfl
            have k2 : w5.cell? ⟨wr.heap.size, 2, none⟩ = some (.int .u32 o.n) := by rw [cell_of_row _ _ _ _ _ _ hbx5]; rfl
            have HNW := heap_alloc_new w5 (.cells #[.int .i64 o.kind, .string (str o.text), .int .u32 o.n] 42)
            have hrow := hown5.lt
            clear hbx5
            go_upto_region 14 with (at_builtin; refine wpList_append_lies _ (by rfl) _ _ 26 (by rfl) w.heap.size 42 i0 _ 3 32 Tryz.underlying26 hi0 hz0 hz1 hz2 rfl (by omega) (.slice (some ⟨g, 0, none⟩) (pre.length + 1) cap) (pre.length + 1) _ (by rfl) (hown5.alloc _) ⟨w5.heap.size, 0, none⟩ 1 1 [_, _, _] (by rfl) (by rfl) (World.news_of_block (cs := #[_, _, _]) (t := 42) (fr := (0, 0)) HNW) (by simp [Value.oneCell']) (by omega) (by unfold maxLen; omega) (by omega) (by have := hb5.size; simp; omega) (w5.heap.size + 1) (by simp) ?_; intro gg cap3 w6 hown6 hgrow hat hlt6)
            have hb6 : Below w.heap.size w w6 := grown_own (hb5.alloc hb5.size _) hgrow (fun j hj => (hrow j hj).1)
            rw [show opsOf ((pre ++ [a])) ++ [.int .i64 o.kind, .string (str o.text), .int .u32 o.n] = opsOf ((pre ++ [a]) ++ [⟨o.kind, o.text, o.n⟩]) from opsOf_snoc _ ⟨o.kind, o.text, o.n⟩] at hown6
            have hown7 : w6.ownsRow w.heap.size 42 3 (.slice (some ⟨gg, 0, none⟩) (pre.length + 1 + 1) cap3) ((pre ++ [a]) ++ [⟨o.kind, o.text, o.n⟩] : List Ex.Op).length (opsOf ((pre ++ [a]) ++ [⟨o.kind, o.text, o.n⟩])) := by
              rw [show ((pre ++ [a]) ++ [⟨o.kind, o.text, o.n⟩] : List Ex.Op).length = pre.length + 1 + 1 by simp]; exact hown6
            clear hown6 hown5 hgrow hat hlt6 hrow k0 k1 k2 HNW
            go_wp2_with fail
            go_roundw
            case rel => ((first | exact ⟨k + 1, _, m + (1 - (Ex.opr o).1), by omega, by go_num, HT.out.symm, by have := HC.out.2.1; omega, by have := HC.out.2.1; rw [HOP.out] at this ⊢; simp at hm1; simp; omega, by simp at hak ⊢; omega, HC.out.2.2, hLn, hown7, hb6⟩ | ((repeat apply Exists.intro); exact ⟨⟨k + 1, _, m + (1 - (Ex.opr o).1), by omega, by go_num, HT.out.symm, by have := HC.out.2.1; omega, by have := HC.out.2.1; rw [HOP.out] at this ⊢; simp at hm1; simp; omega, by simp at hak ⊢; omega, HC.out.2.2, hLn, hown7, hb6⟩, rfl⟩)))
            case measure => simp [intOf]; omega
        · rw [if_neg h6] at hcall
          by_cases h7 : o.kind = 7
          · rw [if_pos h7] at hcall
            obtain ⟨pre, a, b, rfl⟩ := last_two acc (by have := HC.out.2.1; rw [Ex.opr_bi h7] at this; omega)
            have HOP := Lib.hid (Ex.opr_bi h7)
            have HF := Lib.hid (HN.out.trans (Ex.fold1_bi pre a b o h7))
            have HLA := Lib.hid hLa
            rw [show (pre ++ [a, b]).length = pre.length + 2 by simp] at hown
            obtain ⟨g, cap, rfl, hgB, hgl, hn1, hn2, hcell⟩ := own_pos hown (by omega)
            have hx := opsOf_get (pre ++ [a, b]) (pre.length + 0) (by simp)
            rw [show (pre ++ [a, b])[pre.length + 0]'(by simp) = a by simp] at hx
            have xa0 : wr.cell? ⟨g, pre.length * 3, none⟩ = some (.int .i64 a.kind) := by
              have h := (hcell ((pre.length + 0) * 3) (by omega)).trans hx.1
              rwa [show (pre.length + 0) * 3 = pre.length * 3 by omega] at h
            have xa1 : wr.cell? ⟨g, pre.length * 3 + 1, none⟩ = some (.string (str a.text)) := by
              have h := (hcell ((pre.length + 0) * 3 + 1) (by omega)).trans hx.2.1
              rwa [show (pre.length + 0) * 3 + 1 = pre.length * 3 + 1 by omega] at h
            have xa2 : wr.cell? ⟨g, pre.length * 3 + 2, none⟩ = some (.int .u32 a.n) := by
              have h := (hcell ((pre.length + 0) * 3 + 2) (by omega)).trans hx.2.2
              rwa [show (pre.length + 0) * 3 + 2 = pre.length * 3 + 2 by omega] at h
            clear hx
            have hx := opsOf_get (pre ++ [a, b]) (pre.length + 1) (by simp)
            rw [show (pre ++ [a, b])[pre.length + 1]'(by simp) = b by simp] at hx
            have xb0 : wr.cell? ⟨g, pre.length * 3 + 3, none⟩ = some (.int .i64 b.kind) := by
              have h := (hcell ((pre.length + 1) * 3) (by omega)).trans hx.1
              rwa [show (pre.length + 1) * 3 = pre.length * 3 + 3 by omega] at h
            have xb1 : wr.cell? ⟨g, pre.length * 3 + 4, none⟩ = some (.string (str b.text)) := by
              have h := (hcell ((pre.length + 1) * 3 + 1) (by omega)).trans hx.2.1
              rwa [show (pre.length + 1) * 3 + 1 = pre.length * 3 + 4 by omega] at h
            have xb2 : wr.cell? ⟨g, pre.length * 3 + 5, none⟩ = some (.int .u32 b.n) := by
              have h := (hcell ((pre.length + 1) * 3 + 2) (by omega)).trans hx.2.2
              rwa [show (pre.length + 1) * 3 + 2 = pre.length * 3 + 5 by omega] at h
            clear hx
            have e1 : ((pre.length + 2 : Nat) : Int) - 2 = (pre.length : Int) := by omega
            have hne : ¬ cap = pre.length := by omega
            have hpl : pre.length ≤ 256 := by simp at hak; omega
            have hcm := cmp_func2 (.pointer (some ⟨wr.heap.size + 1, 0, none⟩))
            clear hcell
            have H6 := Lib.hid h6
            clear h6
            clear h7
            go_wp2_with fail
            with_reducible refine hcall.mono ?_
            clear hcall
            rintro e w2 ⟨rfl, rfl⟩
            have hW : Below wr.heap.size wr ((wr.alloc (.cells #[.int .i64 o.kind, .string (str o.text), .int .u32 o.n] 42)).alloc (.cells #[.int .i64 o.kind, .string (str o.text), .int .u32 o.n] 42)) := ((Below.refl _ _).alloc (Nat.le_refl _) _).alloc (by simp) _
            have hbx : ((wr.alloc (.cells #[.int .i64 o.kind, .string (str o.text), .int .u32 o.n] 42)).alloc (.cells #[.int .i64 o.kind, .string (str o.text), .int .u32 o.n] 42)).heap[wr.heap.size]? = some (.cells #[.int .i64 o.kind, .string (str o.text), .int .u32 o.n] 42 (0, 0)) :=
              (((Below.refl _ (wr.alloc (.cells #[.int .i64 o.kind, .string (str o.text), .int .u32 o.n] 42))).alloc (Nat.le_refl _) _).block wr.heap.size (by simp)).trans (heap_alloc_new wr _)
            have hcx := heap_alloc_new (wr.alloc (.cells #[.int .i64 o.kind, .string (str o.text), .int .u32 o.n] 42)) (.cells #[.int .i64 o.kind, .string (str o.text), .int .u32 o.n] 42)
            rw [show (wr.alloc (.cells #[.int .i64 o.kind, .string (str o.text), .int .u32 o.n] 42)).heap.size = wr.heap.size + 1 by simp] at hcx
            go_wp2_with fail
            generalize (wr.alloc (.cells #[.int .i64 o.kind, .string (str o.text), .int .u32 o.n] 42)).alloc (.cells #[.int .i64 o.kind, .string (str o.text), .int .u32 o.n] 42) = W at *
            have ya0 := (hW.cell (p := ⟨g, pre.length * 3, none⟩) hgl).trans xa0
            have ya1 := (hW.cell (p := ⟨g, pre.length * 3 + 1, none⟩) hgl).trans xa1
            have ya2 := (hW.cell (p := ⟨g, pre.length * 3 + 2, none⟩) hgl).trans xa2
            have yb0 := (hW.cell (p := ⟨g, pre.length * 3 + 3, none⟩) hgl).trans xb0
            have yb1 := (hW.cell (p := ⟨g, pre.length * 3 + 4, none⟩) hgl).trans xb1
            have yb2 := (hW.cell (p := ⟨g, pre.length * 3 + 5, none⟩) hgl).trans xb2
            have hOA : OpsAt W W.heap.size (some ⟨g, pre.length * 3, none⟩) [a, b] := fun i hi => by
              have hi0 : i = 0 ∨ i = 1 := by simp at hi; omega
              rcases hi0 with rfl | rfl
              · exact ⟨g, pre.length * 3, rfl, Nat.lt_of_lt_of_le hgl hW.size, ya0, ya1, ya2⟩
              · exact ⟨g, pre.length * 3, rfl, Nat.lt_of_lt_of_le hgl hW.size, yb0, yb1, yb2⟩
            have hcall : Calls Tryz.prog 39 #[.slice (some ⟨g, pre.length * 3, none⟩) 2 (cap - pre.length)] W fun x w' => x = .returned (.bool ([a, b].all Ex.isNum)) ∧ Below W.heap.size W w' := areNumbers_any _ _ [a, b] W hOA (by simp)
            rw [show [a, b].all Ex.isNum = (Ex.isNum a && Ex.isNum b) by simp] at hcall
            have hown1 := owns_below hown hW
            clear hOA xa0 xa1 xa2 xb0 xb1 xb2
            cases hna : (Ex.isNum a && Ex.isNum b) with
            | true =>
              rw [hna] at hcall
              have HT := Lib.hid (HF.out.trans (if_pos hna))
              clear HF hna
              with_reducible refine hcall.mono ?_
              clear hcall
              rintro e w3 ⟨rfl, hb3⟩
              have hbx3 := (hb3.block wr.heap.size (Array.getElem?_eq_some_iff.1 hbx).1).trans hbx
              have hcx3 := (hb3.block (wr.heap.size + 1) (Array.getElem?_eq_some_iff.1 hcx).1).trans hcx
              have ct : w3.cell? ⟨wr.heap.size + 1, 1, none⟩ = some (.string (str o.text)) := by rw [cell_of_row _ _ _ _ _ _ hcx3]; rfl
              have z2 := (hb3.cell (p := ⟨g, pre.length * 3 + 2, none⟩) (Nat.lt_of_lt_of_le hgl hW.size)).trans ya2
              have z5 := (hb3.cell (p := ⟨g, pre.length * 3 + 5, none⟩) (Nat.lt_of_lt_of_le hgl hW.size)).trans yb2
              have hcall := comp2_any g (wr.heap.size + 1) (pre.length * 3) 2 (cap - pre.length) o.text a.n b.n (HLA.out b (by simp)).2.1 w3 (by decide) ct z2 z5
              have hrl := bi_lt (l := o.text) (HLA.out a (by simp)).2.1 (HLA.out a (by simp)).2.2 (HLA.out b (by simp)).2.1 (HLA.out b (by simp)).2.2
              generalize (biR o.text a.n b.n) = rr at *
              have hown3 := owns_below hown1 hb3
              have hb13 := hb.trans ((hW.trans (hb3.mono hW.size)).mono hb.size)
              clear hbx hcx ya0 ya1 ya2 yb0 yb1 yb2 z5 ct z2 hown1 hcx3
              go_wp2_with fail
              with_reducible refine hcall.mono ?_
              clear hcall
              rintro e w4 ⟨rfl, hb4⟩
              have hbx4 := (hb4.block wr.heap.size (Array.getElem?_eq_some_iff.1 hbx3).1).trans hbx3
              have hown4 := owns_below hown3 hb4
              have hb14 := hb13.trans (hb4.mono hb13.size)
              clear hbx3 hown3 hb13 hb4 hb3
              have k0 : w4.cell? ⟨wr.heap.size, 0, none⟩ = some (.int .i64 o.kind) := by rw [cell_of_row _ _ _ _ _ _ hbx4]; rfl
              have k1 : w4.cell? ⟨wr.heap.size, 1, none⟩ = some (.string (str o.text)) := by rw [cell_of_row _ _ _ _ _ _ hbx4]; rfl
              have k2 : w4.cell? ⟨wr.heap.size, 2, none⟩ = some (.int .u32 o.n) := by rw [cell_of_row _ _ _ _ _ _ hbx4]; rfl
              have f0 : ∀ j, w4.frozen? ⟨wr.heap.size, j, none⟩ = false := fun j => by simp [World.frozen?, hbx4]
              go_upto_region 13 with (fail)
              have hws : w.heap.size ≤ wr.heap.size := hb.size
              have hown5 := own_set3 wr.heap.size (own_take hown4 (show pre.length ≤ pre.length + 2 by omega)) (fun e => absurd (show g = wr.heap.size by simpa [Value.ownBlock] using e) (by omega)) (.int .i64 1) (.string ⟨#[]⟩) (.int .u32 rr.1)
              rw [opsOf_take pre [a, b]] at hown5
              have hbx5 := set3_box hbx4 (.int .i64 1) (.string ⟨#[]⟩) (.int .u32 rr.1)
              have hb5 := ((hb14.setCell (p := ⟨wr.heap.size, 0, none⟩) hws (.int .i64 1)).setCell (p := ⟨wr.heap.size, 1, none⟩) hws (.string ⟨#[]⟩)).setCell (p := ⟨wr.heap.size, 2, none⟩) hws (.int .u32 rr.1)
              have hLn : OpsLen (pre ++ [⟨1, [], rr.1⟩]) := fun u hu => by
                rcases List.mem_append.1 hu with hu | hu
                · exact HLA.out u (by simp [hu])
                · simp at hu; subst hu; exact ⟨by simp, hrl.1, hrl.2⟩
              generalize ((w4.setCell ⟨wr.heap.size, 0, none⟩ (.int .i64 1)).setCell ⟨wr.heap.size, 1, none⟩ (.string ⟨#[]⟩)).setCell ⟨wr.heap.size, 2, none⟩ (.int .u32 rr.1) = w5 at *
              clear k0 k1 k2 f0 hown4 hbx4 hb14 hW hown hb
              have k0 : w5.cell? ⟨wr.heap.size, 0, none⟩ = some (.int .i64 1) := by rw [cell_of_row _ _ _ _ _ _ hbx5]; rfl
              have k1 : w5.cell? ⟨wr.heap.size, 1, none⟩ = some (.string ⟨#[]⟩) := by rw [cell_of_row _ _ _ _ _ _ hbx5]; rfl
              have k2 : w5.cell? ⟨wr.heap.size, 2, none⟩ = some (.int .u32 rr.1) := by rw [cell_of_row _ _ _ _ _ _ hbx5]; rfl
              have HNW := heap_alloc_new w5 (.cells #[.int .i64 1, .string ⟨#[]⟩, .int .u32 rr.1] 42)
              have hrow := hown5.lt
              clear hbx5
              go_upto_region 14 with (at_builtin; refine wpList_append_lies _ (by rfl) _ _ 26 (by rfl) w.heap.size 42 i0 _ 3 32 Tryz.underlying26 hi0 hz0 hz1 hz2 rfl (by omega) (.slice (some ⟨g, 0, none⟩) pre.length cap) (pre.length) _ (by rfl) (hown5.alloc _) ⟨w5.heap.size, 0, none⟩ 1 1 [_, _, _] (by rfl) (by rfl) (World.news_of_block (cs := #[_, _, _]) (t := 42) (fr := (0, 0)) HNW) (by simp [Value.oneCell']) (by omega) (by unfold maxLen; omega) (by omega) (by have := hb5.size; simp; omega) (w5.heap.size + 1) (by simp) ?_; intro gg cap3 w6 hown6 hgrow hat hlt6)
              have hb6 : Below w.heap.size w w6 := grown_own (hb5.alloc hb5.size _) hgrow (fun j hj => (hrow j hj).1)
              rw [show opsOf (pre) ++ [.int .i64 1, .string ⟨#[]⟩, .int .u32 rr.1] = opsOf (pre ++ [⟨1, [], rr.1⟩]) from opsOf_snoc _ ⟨1, [], rr.1⟩] at hown6
              have hown7 : w6.ownsRow w.heap.size 42 3 (.slice (some ⟨gg, 0, none⟩) (pre.length + 1) cap3) (pre ++ [⟨1, [], rr.1⟩] : List Ex.Op).length (opsOf (pre ++ [⟨1, [], rr.1⟩])) := by
                rw [show (pre ++ [⟨1, [], rr.1⟩] : List Ex.Op).length = pre.length + 1 by simp]; exact hown6
              clear hown6 hown5 hgrow hat hlt6 hrow k0 k1 k2 HNW
              go_wp2_with fail
              go_roundw
              case rel => ((first | exact ⟨k + 1, _, m + (1 - (Ex.opr o).1), by omega, by go_num, HT.out.symm, by have := HC.out.2.1; omega, by have := HC.out.2.1; rw [HOP.out] at this ⊢; simp at hm1; simp; omega, by simp at hak ⊢; omega, HC.out.2.2, hLn, hown7, hb6⟩ | ((repeat apply Exists.intro); exact ⟨⟨k + 1, _, m + (1 - (Ex.opr o).1), by omega, by go_num, HT.out.symm, by have := HC.out.2.1; omega, by have := HC.out.2.1; rw [HOP.out] at this ⊢; simp at hm1; simp; omega, by simp at hak ⊢; omega, HC.out.2.2, hLn, hown7, hb6⟩, rfl⟩)))
              case measure => simp [intOf]; omega
            | false =>
              rw [hna] at hcall
              have HT := Lib.hid (HF.out.trans (if_neg (by rw [hna]; decide)))
              clear HF hna
              with_reducible refine hcall.mono ?_
              clear hcall
              rintro e w5 ⟨rfl, hb3⟩
              have hbx5 := (hb3.block wr.heap.size (Array.getElem?_eq_some_iff.1 hbx).1).trans hbx
              have hown5 := owns_below hown1 hb3
              have hb5 := hb.trans ((hW.trans (hb3.mono hW.size)).mono hb.size)
              have hLn : OpsLen ((pre ++ [a, b]) ++ [⟨o.kind, o.text, o.n⟩]) := fun u hu => by
                rcases List.mem_append.1 hu with hu | hu
                · exact HLA.out u hu
                · simp at hu; subst hu; exact hLo
              clear hbx hcx ya0 ya1 ya2 yb0 yb1 yb2 hown1 hb3 hW hown hb
              have k0 : w5.cell? ⟨wr.heap.size, 0, none⟩ = some (.int .i64 o.kind) := by rw [cell_of_row _ _ _ _ _ _ hbx5]; rfl
              have k1 : w5.cell? ⟨wr.heap.size, 1, none⟩ = some (.string (str o.text)) := by rw [cell_of_row _ _ _ _ _ _ hbx5]; rfl
              have k2 : w5.cell? ⟨wr.heap.size, 2, none⟩ = some (.int .u32 o.n) := by rw [cell_of_row _ _ _ _ _ _ hbx5]; rfl
              have HNW := heap_alloc_new w5 (.cells #[.int .i64 o.kind, .string (str o.text), .int .u32 o.n] 42)
              have hrow := hown5.lt
              clear hbx5
              go_upto_region 14 with (at_builtin; refine wpList_append_lies _ (by rfl) _ _ 26 (by rfl) w.heap.size 42 i0 _ 3 32 Tryz.underlying26 hi0 hz0 hz1 hz2 rfl (by omega) (.slice (some ⟨g, 0, none⟩) (pre.length + 2) cap) (pre.length + 2) _ (by rfl) (hown5.alloc _) ⟨w5.heap.size, 0, none⟩ 1 1 [_, _, _] (by rfl) (by rfl) (World.news_of_block (cs := #[_, _, _]) (t := 42) (fr := (0, 0)) HNW) (by simp [Value.oneCell']) (by omega) (by unfold maxLen; omega) (by omega) (by have := hb5.size; simp; omega) (w5.heap.size + 1) (by simp) ?_; intro gg cap3 w6 hown6 hgrow hat hlt6)
              have hb6 : Below w.heap.size w w6 := grown_own (hb5.alloc hb5.size _) hgrow (fun j hj => (hrow j hj).1)
              rw [show opsOf ((pre ++ [a, b])) ++ [.int .i64 o.kind, .string (str o.text), .int .u32 o.n] = opsOf ((pre ++ [a, b]) ++ [⟨o.kind, o.text, o.n⟩]) from opsOf_snoc _ ⟨o.kind, o.text, o.n⟩] at hown6
              have hown7 : w6.ownsRow w.heap.size 42 3 (.slice (some ⟨gg, 0, none⟩) (pre.length + 2 + 1) cap3) ((pre ++ [a, b]) ++ [⟨o.kind, o.text, o.n⟩] : List Ex.Op).length (opsOf ((pre ++ [a, b]) ++ [⟨o.kind, o.text, o.n⟩])) := by
                rw [show ((pre ++ [a, b]) ++ [⟨o.kind, o.text, o.n⟩] : List Ex.Op).length = pre.length + 2 + 1 by simp]; exact hown6
              clear hown6 hown5 hgrow hat hlt6 hrow k0 k1 k2 HNW
              go_wp2_with fail
              go_roundw
              case rel => ((first | exact ⟨k + 1, _, m + (1 - (Ex.opr o).1), by omega, by go_num, HT.out.symm, by have := HC.out.2.1; omega, by have := HC.out.2.1; rw [HOP.out] at this ⊢; simp at hm1; simp; omega, by simp at hak ⊢; omega, HC.out.2.2, hLn, hown7, hb6⟩ | ((repeat apply Exists.intro); exact ⟨⟨k + 1, _, m + (1 - (Ex.opr o).1), by omega, by go_num, HT.out.symm, by have := HC.out.2.1; omega, by have := HC.out.2.1; rw [HOP.out] at this ⊢; simp at hm1; simp; omega, by simp at hak ⊢; omega, HC.out.2.2, hLn, hown7, hb6⟩, rfl⟩)))
              case measure => simp [intOf]; omega
          · rw [if_neg h7] at hcall
            have HT := Lib.hid (HN.out.trans (Ex.fold1_no acc o h6 h7))
            have hcm := cmp_nil
            have hopn := Ex.opr_lo hLo.2.1
            have hal : acc.length ≤ 256 := by omega
            have hLn : OpsLen (acc ++ [⟨o.kind, o.text, o.n⟩]) := fun u hu => by
              rcases List.mem_append.1 hu with hu | hu
              · exact hLa u hu
              · simp at hu; subst hu; exact hLo
            obtain ⟨A2, c2, rfl, hA2, hcc1, hcc2⟩ := owns_ops hown
            clear hA2 h6 h7
            go_wp2_with fail
            with_reducible refine hcall.mono ?_
            clear hcall
            rintro e w2 ⟨rfl, rfl⟩
            have hW : Below wr.heap.size wr ((wr.alloc (.cells #[.int .i64 o.kind, .string (str o.text), .int .u32 o.n] 42)).alloc (.cells #[.int .i64 o.kind, .string (str o.text), .int .u32 o.n] 42)) := ((Below.refl _ _).alloc (Nat.le_refl _) _).alloc (by simp) _
            have hbx5 : ((wr.alloc (.cells #[.int .i64 o.kind, .string (str o.text), .int .u32 o.n] 42)).alloc (.cells #[.int .i64 o.kind, .string (str o.text), .int .u32 o.n] 42)).heap[wr.heap.size]? = some (.cells #[.int .i64 o.kind, .string (str o.text), .int .u32 o.n] 42 (0, 0)) :=
              (((Below.refl _ (wr.alloc (.cells #[.int .i64 o.kind, .string (str o.text), .int .u32 o.n] 42))).alloc (Nat.le_refl _) _).block wr.heap.size (by simp)).trans (heap_alloc_new wr _)
            go_upto_region 13 with (fail)
            have hown5 := owns_below hown hW
            have hb5 := hb.trans (hW.mono hb.size)
            generalize (wr.alloc (.cells #[.int .i64 o.kind, .string (str o.text), .int .u32 o.n] 42)).alloc (.cells #[.int .i64 o.kind, .string (str o.text), .int .u32 o.n] 42) = w5 at *
            clear hown hb hW
            have k0 : w5.cell? ⟨wr.heap.size, 0, none⟩ = some (.int .i64 o.kind) := by rw [cell_of_row _ _ _ _ _ _ hbx5]; rfl
            have k1 : w5.cell? ⟨wr.heap.size, 1, none⟩ = some (.string (str o.text)) := by rw [cell_of_row _ _ _ _ _ _ hbx5]; rfl
            have k2 : w5.cell? ⟨wr.heap.size, 2, none⟩ = some (.int .u32 o.n) := by rw [cell_of_row _ _ _ _ _ _ hbx5]; rfl
            have HNW := heap_alloc_new w5 (.cells #[.int .i64 o.kind, .string (str o.text), .int .u32 o.n] 42)
            have hrow := hown5.lt
            clear hbx5
            go_upto_region 14 with (at_builtin; refine wpList_append_lies _ (by rfl) _ _ 26 (by rfl) w.heap.size 42 i0 _ 3 32 Tryz.underlying26 hi0 hz0 hz1 hz2 rfl (by omega) (.slice A2 acc.length c2) (acc.length) _ (by rfl) (hown5.alloc _) ⟨w5.heap.size, 0, none⟩ 1 1 [_, _, _] (by rfl) (by rfl) (World.news_of_block (cs := #[_, _, _]) (t := 42) (fr := (0, 0)) HNW) (by simp [Value.oneCell']) (by omega) (by unfold maxLen; omega) (by omega) (by have := hb5.size; simp; omega) (w5.heap.size + 1) (by simp) ?_; intro gg cap3 w6 hown6 hgrow hat hlt6)
            have hb6 : Below w.heap.size w w6 := grown_own (hb5.alloc hb5.size _) hgrow (fun j hj => (hrow j hj).1)
            rw [show opsOf (acc) ++ [.int .i64 o.kind, .string (str o.text), .int .u32 o.n] = opsOf (acc ++ [⟨o.kind, o.text, o.n⟩]) from opsOf_snoc _ ⟨o.kind, o.text, o.n⟩] at hown6
            have hown7 : w6.ownsRow w.heap.size 42 3 (.slice (some ⟨gg, 0, none⟩) (acc.length + 1) cap3) (acc ++ [⟨o.kind, o.text, o.n⟩] : List Ex.Op).length (opsOf (acc ++ [⟨o.kind, o.text, o.n⟩])) := by
              rw [show (acc ++ [⟨o.kind, o.text, o.n⟩] : List Ex.Op).length = acc.length + 1 by simp]; exact hown6
            clear hown6 hown5 hgrow hat hlt6 hrow k0 k1 k2 HNW
            go_wp2_with fail
            go_roundw
            case rel => ((first | exact ⟨k + 1, _, m + (1 - (Ex.opr o).1), by omega, by go_num, HT.out.symm, by have := HC.out.2.1; omega, by have := HC.out.2.1; have := hopn; simp; omega, by simp at hak ⊢; omega, HC.out.2.2, hLn, hown7, hb6⟩ | ((repeat apply Exists.intro); exact ⟨⟨k + 1, _, m + (1 - (Ex.opr o).1), by omega, by go_num, HT.out.symm, by have := HC.out.2.1; omega, by have := HC.out.2.1; have := hopn; simp; omega, by simp at hak ⊢; omega, HC.out.2.2, hLn, hown7, hb6⟩, rfl⟩)))
            case measure => simp [intOf]; omega
      · have b1 : decide ((k : Int) < f.length) = false := by simp; omega
        have b1n : decide (k < f.length) = false := by simp; omega
        have HT := Lib.hid (show R = (acc, 0) by rw [HR.out, HACC.out, List.take_of_length_le (by omega)])
        clear HR HACC HCH
        go_wp2_with fail
        go_ret2
        rw [HT.out]
        exact ⟨_, rfl, hown, hb⟩
end Go.Proofs.YtndehkoglgakpaaGreatDoor

