/- The reference's Fold and Value. No condition but the lengths. -/
import Derived.Test.YtkkkiacbikbalaaGreatDoorQck
import Derived.Test.YtkkkiacbikbalaaGreatDoorVal
import Derived.Test.YtkkkiacbikbalaaGreatDoorPnt
namespace Go.Proofs.YtkkkiacbikbalaaGreatDoor
open Go.RowKit Go.Deep

theorem qunQ (t : List UInt8) (x : Int) (hx : 0 ≤ x) (hx1 : x < 4294967296) (w : World) : Calls Tryz.prog 40 #[.string (str t), .int .u32 x] w fun e w' => e = .returned (.tuple #[.int .u32 (unR t x).1, .bool (unR t x).2]) ∧ w' = w := (qUnary_any (str t) x hx hx1 w).mono fun _ _ h => ⟨by rw [h.1, str_list]; rfl, h.2.symm⟩
theorem qbiQ (t : List UInt8) (x y : Int) (hx : 0 ≤ x) (hx1 : x < 4294967296) (hy : 0 ≤ y) (hy1 : y < 4294967296) (w : World) : Calls Tryz.prog 41 #[.string (str t), .int .u32 x, .int .u32 y] w fun e w' => e = .returned (.tuple #[.int .u32 (biR t x y).1, .bool (biR t x y).2]) ∧ w' = w := (qBinary_any (str t) x y hx hx1 hy hy1 w).mono fun _ _ h => ⟨by rw [h.1, str_list]; rfl, h.2.symm⟩
set_option maxHeartbeats 8000000 in
set_option maxRecDepth 100000 in
theorem qfold_any (A : Option Addr) (c : Nat) (f : List Ex.Op) (w : World) (hA : OpsAt w w.heap.size A f) (hl : f.length ≤ 1000000000) (hL : OpsLen f) :
    Calls Tryz.prog 18 #[.slice A f.length c] w (GotF w (Ex.fold f)) := by
  obtain ⟨i0, hi0, hz0, hz1, hz2⟩ := info_parts infoO
  have HV := Lib.hid (fold_def f)
  have hck := qcheck_any A c f w hA hl hL
  generalize Ex.fold f = R at *
  have hcases : Ex.check f ≠ 0 ∨ Ex.check f = 0 := (Classical.em _).symm
  rcases hcases with h0 | h0
  · have q1 : (Ex.check f != 0) = true := by rw [bne_iff_ne]; exact h0
    have HR := Lib.hid (HV.out.trans (if_pos h0))
    generalize Ex.check f = e at *
    clear HV h0
    go_enter Tryz.func18, Tryz.ntmps18
    go_wp2_with fail
    with_reducible refine hck.mono ?_
    clear hck
    rintro x w1 ⟨rfl, hb1⟩
    go_wp2_with fail
    go_ret2
    rw [HR.out]
    exact ⟨_, rfl, World.ownsRow_nil _ _ _ _, hb1⟩
  · rw [h0] at hck
    have HR := Lib.hid (HV.out.trans (if_neg (fun h => h h0)))
    have hl2 : f.length ≤ 256 := by
      rw [check_def] at h0
      split at h0
      · cases h0
      · omega
    have hchk : Ex.chk 0 (f.drop 0) = 0 := by rw [check_def, if_neg (by omega)] at h0; exact h0
    clear HV h0
    go_enter Tryz.func18, Tryz.ntmps18
    go_wp2_with fail
    with_reducible refine hck.mono ?_
    clear hck
    rintro x w1 ⟨rfl, hb1⟩
    go_wp2_with fail
    go_loopw [5, 20] (fun v i wr => ∃ (k : Nat) (acc : List Ex.Op) (m : Int), k ≤ f.length ∧ i = .int .i64 k ∧ acc = (f.take k).foldl Ex.fold1 [] ∧ 0 ≤ m ∧ m ≤ acc.length ∧ acc.length ≤ k ∧ Ex.chk m (f.drop k) = 0 ∧ OpsLen acc ∧ wr.ownsRow w.heap.size 42 3 v acc.length (opsOf acc) ∧ Below w.heap.size w wr) (fun _ i _ => f.length - (intOf i).toNat)
    case atStart => exact ⟨0, [], 0, by omega, rfl, rfl, by omega, by simp, by simp, hchk, fun o ho => by simp at ho, World.ownsRow_nil _ _ _ _, hb1⟩
    case round =>
      clear hchk hb1
      obtain ⟨k, acc, m, hk, rfl, hacc, hm0, hm1, hak, hch, hLa, hown, hb⟩ := hrel
      have HACC := Lib.hid hacc
      have HCH := Lib.hid hch
      clear hacc hch
      by_cases hlt : k < f.length
      · have b1 : decide ((k : Int) < f.length) = true := by simp; omega
        have b1n : decide (k < f.length) = true := by simp; omega
        obtain ⟨g0, o0, rfl, hg, hc0, hc1, hc2⟩ := hA k hlt
        have hd0 := (hb.cell (p := ⟨g0, o0 + k * 3, none⟩) hg).trans hc0
        have hd1 := (hb.cell (p := ⟨g0, o0 + k * 3 + 1, none⟩) hg).trans hc1
        have hd2 := (hb.cell (p := ⟨g0, o0 + k * 3 + 2, none⟩) hg).trans hc2
        have HN := Lib.hid (show (f.take (k + 1)).foldl Ex.fold1 [] = Ex.fold1 acc f[k] by rw [List.take_succ_eq_append_getElem hlt, List.foldl_append, ← HACC.out]; rfl)
        have HC := Lib.hid (show (Ex.opr f[k]).2 = true ∧ (Ex.opr f[k]).1 ≤ m ∧ Ex.chk (m + (1 - (Ex.opr f[k]).1)) (f.drop (k + 1)) = 0 by
          have h := HCH.out
          rw [list_drop f k hlt, Ex.chk_cons] at h
          split at h
          · rename_i h1; exact ⟨h1.1, h1.2, h⟩
          · cases h)
        have hLo := hL f[k] (List.getElem_mem hlt)
        clear hc0 hc1 hc2 HCH HACC
        generalize f[k] = o at *
        by_cases h6 : o.kind = 6
        · obtain ⟨pre, a, rfl⟩ := last_one acc (by have := HC.out.2.1; rw [Ex.opr_un h6] at this; omega)
          have HOP := Lib.hid (Ex.opr_un h6)
          have HF := Lib.hid (HN.out.trans (Ex.fold1_un pre a o h6))
          have HLA := Lib.hid hLa
          have hlN : (pre ++ [a]).length = pre.length + 1 := by simp
          obtain ⟨N, hNe⟩ : ∃ N, (pre ++ [a]).length = N := ⟨_, rfl⟩
          rw [hNe] at hown hlN hm1 hak
          have HNN := Lib.hid hNe
          have HAK := Lib.hid (show (pre ++ [a]).length ≤ k ∧ m ≤ ((pre ++ [a]).length : Int) from by rw [hNe]; exact ⟨hak, hm1⟩)
          obtain ⟨g, cap, rfl, hgB, hgl, hn1, hn2, hcell⟩ := own_pos hown (by omega)
          obtain ⟨i2, hi2⟩ : ∃ i2, i2 = pre.length := ⟨_, rfl⟩
          have hx := opsOf_get (pre ++ [a]) (pre.length + 0) (by simp)
          rw [show (pre ++ [a])[pre.length + 0]'(by simp) = a by simp, show pre.length + 0 = i2 by omega] at hx
          have xa0 : wr.cell? ⟨g, i2 * 3, none⟩ = some (.int .i64 a.kind) := (hcell (i2 * 3) (by omega)).trans hx.1
          have xa2 : wr.cell? ⟨g, i2 * 3 + 2, none⟩ = some (.int .u32 a.n) := (hcell (i2 * 3 + 2) (by omega)).trans hx.2.2
          clear hx
          have e1 : (N : Int) - 1 = (i2 : Int) := by omega
          have b3 : (i2 : Int) < (N : Int) := by omega
          have b4 : i2 < N := by omega
          have b5 : (i2 : Int) < (N : Int) := by omega
          have b6 : i2 < N := by omega
          have b7 : i2 ≤ cap := by omega
          have b8 : (i2 : Int) ≤ (cap : Int) := by omega
          have HI2 := Lib.hid hi2
          have hpl : i2 ≤ 256 := by omega
          have q6 : (o.kind == 6) = true := by rw [h6]; rfl
          have q7 : (o.kind == 7) = false := by rw [h6]; rfl
          clear hcell hNe hlN hi2 h6 
          go_upto_region 8 with fail
          have hx0 := heap_alloc_new wr (.cells #[.int .i64 o.kind, .string (str o.text), .int .u32 o.n] 42)
          have hWr : Below wr.heap.size wr (wr.alloc (.cells #[.int .i64 o.kind, .string (str o.text), .int .u32 o.n] 42)) := (Below.refl _ _).alloc (Nat.le_refl _) _
          have hownW := hown.alloc (.cells #[.int .i64 o.kind, .string (str o.text), .int .u32 o.n] 42)
          generalize wr.alloc (.cells #[.int .i64 o.kind, .string (str o.text), .int .u32 o.n] 42) = W at *
          have k0 : W.cell? ⟨wr.heap.size, 0, none⟩ = some (.int .i64 o.kind) := by rw [cell_of_row _ _ _ _ _ _ hx0]; rfl
          have k1 : W.cell? ⟨wr.heap.size, 1, none⟩ = some (.string (str o.text)) := by rw [cell_of_row _ _ _ _ _ _ hx0]; rfl
          have k2 : W.cell? ⟨wr.heap.size, 2, none⟩ = some (.int .u32 o.n) := by rw [cell_of_row _ _ _ _ _ _ hx0]; rfl
          have ya0 := (hWr.cell (p := ⟨g, i2 * 3, none⟩) hgl).trans xa0
          have ya2 := (hWr.cell (p := ⟨g, i2 * 3 + 2, none⟩) hgl).trans xa2
          have hbW := hb.trans (hWr.mono hb.size)
          clear xa0 xa2 hown hx0
          cases hna : Ex.isNum a with
          | true =>
            have HT := Lib.hid (HF.out.trans (if_pos hna))
            have qa : (a.kind == 1) = true := hna
            clear HF hna
            have hq := qunQ o.text a.n (HLA.out a (by simp)).2.1 (HLA.out a (by simp)).2.2
            have hrl := un_lt (l := o.text) (HLA.out a (by simp)).2.1 (HLA.out a (by simp)).2.2
            generalize (unR o.text a.n) = rr at *
            go_upto_region 11 with fail
            go_quiet ((go_at_call 40; exact Calls.quiet_of_same (hq _)))
            have hWq : Below W.heap.size W (W.drewN nq) := below_drewN (Below.refl _ W) nq
            have hown5 := own_take (owns_below hownW hWq) (show i2 ≤ N by omega)
            have hb5 := hbW.trans (hWq.mono hbW.size)
            rw [HI2.out, opsOf_take pre [a]] at hown5
            rw [← HI2.out] at hown5
            clear hownW hWr hWq hbW k0 k1 k2 ya0 ya2
            generalize W.drewN nq = w5 at *
            have hLn : OpsLen (pre ++ [⟨1, [], rr.1⟩]) := fun u hu => by
              rcases List.mem_append.1 hu with hu | hu
              · exact HLA.out u (by simp [hu])
              · simp at hu; subst hu; exact ⟨by simp, hrl.1, hrl.2⟩
            go_upto_region 12 with fail
            have HNW := heap_alloc_new w5 (.cells #[.int .i64 1, .string ⟨#[]⟩, .int .u32 rr.1] 42)
            have hrow := hown5.lt
            go_upto_region 16 with (at_builtin; refine wpList_append_lies _ (by rfl) _ _ 26 (by rfl) w.heap.size 42 i0 _ 3 32 Tryz.underlying26 hi0 hz0 hz1 hz2 rfl (by omega) (.slice (some ⟨g, 0, none⟩) i2 cap) (i2) _ (by rfl) (hown5.alloc _) ⟨w5.heap.size, 0, none⟩ 1 1 [_, _, _] (by rfl) (by rfl) (World.news_of_block (cs := #[_, _, _]) (t := 42) (fr := (0, 0)) HNW) (by simp [Value.oneCell']) (by omega) (by unfold maxLen; omega) (by omega) (by have := hb5.size; simp; omega) (w5.heap.size + 1) (by simp) ?_; intro gg cap3 w6 hown6 hgrow hat hlt6)
            have hb6 : Below w.heap.size w w6 := grown_own (hb5.alloc hb5.size _) hgrow (fun j hj => (hrow j hj).1)
            rw [show opsOf (pre) ++ [.int .i64 1, .string ⟨#[]⟩, .int .u32 rr.1] = opsOf (pre ++ [⟨1, [], rr.1⟩]) from opsOf_snoc _ ⟨1, [], rr.1⟩] at hown6
            have hown7 : w6.ownsRow w.heap.size 42 3 (.slice (some ⟨gg, 0, none⟩) (i2 + 1) cap3) (pre ++ [⟨1, [], rr.1⟩] : List Ex.Op).length (opsOf (pre ++ [⟨1, [], rr.1⟩])) := by
              rw [show (pre ++ [⟨1, [], rr.1⟩] : List Ex.Op).length = i2 + 1 by rw [HI2.out]; simp]; exact hown6
            clear hown6 hown5 hgrow hat hlt6 hrow HNW
            go_wp2_with fail
            go_roundw
            case rel => ((first | exact ⟨k + 1, _, m + (1 - (Ex.opr o).1), by omega, by go_num, HT.out.symm, by have := HC.out.2.1; omega, by have := HC.out.2.1; have := HAK.out; have h8 := HC.out.2.1; rw [HOP.out] at h8 ⊢; have h9 := HAK.out.2; simp at h9; simp; omega, by have := HAK.out; simp at this ⊢; omega, HC.out.2.2, hLn, hown7, hb6⟩ | ((repeat apply Exists.intro); exact ⟨⟨k + 1, _, m + (1 - (Ex.opr o).1), by omega, by go_num, HT.out.symm, by have := HC.out.2.1; omega, by have := HC.out.2.1; have := HAK.out; have h8 := HC.out.2.1; rw [HOP.out] at h8 ⊢; have h9 := HAK.out.2; simp at h9; simp; omega, by have := HAK.out; simp at this ⊢; omega, HC.out.2.2, hLn, hown7, hb6⟩, rfl⟩)))
            case measure => simp [intOf]; omega
          | false =>
            have HT := Lib.hid (HF.out.trans (if_neg (by rw [hna]; decide)))
            have hb5 := hbW
            have hown5 := hownW
            have hLn : OpsLen ((pre ++ [a]) ++ [⟨o.kind, o.text, o.n⟩]) := fun u hu => by
              rcases List.mem_append.1 hu with hu | hu
              · exact HLA.out u hu
              · simp at hu; subst hu; exact hLo
            clear hbW hownW hWr
            have qa : (a.kind == 1) = false := hna
            clear HF hna
            have HNW := heap_alloc_new W (.cells #[.int .i64 o.kind, .string (str o.text), .int .u32 o.n] 42)
            have hrow := hown5.lt
            go_upto_region 16 with (at_builtin; refine wpList_append_lies _ (by rfl) _ _ 26 (by rfl) w.heap.size 42 i0 _ 3 32 Tryz.underlying26 hi0 hz0 hz1 hz2 rfl (by omega) (.slice (some ⟨g, 0, none⟩) N cap) (N) _ (by rfl) (hown5.alloc _) ⟨W.heap.size, 0, none⟩ 1 1 [_, _, _] (by rfl) (by rfl) (World.news_of_block (cs := #[_, _, _]) (t := 42) (fr := (0, 0)) HNW) (by simp [Value.oneCell']) (by omega) (by unfold maxLen; omega) (by omega) (by have := hb5.size; simp; omega) (W.heap.size + 1) (by simp) ?_; intro gg cap3 w6 hown6 hgrow hat hlt6)
            have hb6 : Below w.heap.size w w6 := grown_own (hb5.alloc hb5.size _) hgrow (fun j hj => (hrow j hj).1)
            rw [show opsOf ((pre ++ [a])) ++ [.int .i64 o.kind, .string (str o.text), .int .u32 o.n] = opsOf ((pre ++ [a]) ++ [⟨o.kind, o.text, o.n⟩]) from opsOf_snoc _ ⟨o.kind, o.text, o.n⟩] at hown6
            have hown7 : w6.ownsRow w.heap.size 42 3 (.slice (some ⟨gg, 0, none⟩) (N + 1) cap3) ((pre ++ [a]) ++ [⟨o.kind, o.text, o.n⟩] : List Ex.Op).length (opsOf ((pre ++ [a]) ++ [⟨o.kind, o.text, o.n⟩])) := by
              rw [show ((pre ++ [a]) ++ [⟨o.kind, o.text, o.n⟩] : List Ex.Op).length = N + 1 by simp; have := HNN.out; simp at this; omega]; exact hown6
            clear hown6 hown5 hgrow hat hlt6 hrow HNW
            go_wp2_with fail
            go_roundw
            case rel => ((first | exact ⟨k + 1, _, m + (1 - (Ex.opr o).1), by omega, by go_num, HT.out.symm, by have := HC.out.2.1; omega, by have := HC.out.2.1; have := HAK.out; have h8 := HC.out.2.1; rw [HOP.out] at h8 ⊢; have h9 := HAK.out.2; simp at h9; simp; omega, by have := HAK.out; simp at this ⊢; omega, HC.out.2.2, hLn, hown7, hb6⟩ | ((repeat apply Exists.intro); exact ⟨⟨k + 1, _, m + (1 - (Ex.opr o).1), by omega, by go_num, HT.out.symm, by have := HC.out.2.1; omega, by have := HC.out.2.1; have := HAK.out; have h8 := HC.out.2.1; rw [HOP.out] at h8 ⊢; have h9 := HAK.out.2; simp at h9; simp; omega, by have := HAK.out; simp at this ⊢; omega, HC.out.2.2, hLn, hown7, hb6⟩, rfl⟩)))
            case measure => simp [intOf]; omega
        · by_cases h7 : o.kind = 7
          · obtain ⟨pre, a, b, rfl⟩ := last_two acc (by have := HC.out.2.1; rw [Ex.opr_bi h7] at this; omega)
            have HOP := Lib.hid (Ex.opr_bi h7)
            have HF := Lib.hid (HN.out.trans (Ex.fold1_bi pre a b o h7))
            have HLA := Lib.hid hLa
            have hlN : (pre ++ [a, b]).length = pre.length + 2 := by simp
            obtain ⟨N, hNe⟩ : ∃ N, (pre ++ [a, b]).length = N := ⟨_, rfl⟩
            rw [hNe] at hown hlN hm1 hak
            have HNN := Lib.hid hNe
            have HAK := Lib.hid (show (pre ++ [a, b]).length ≤ k ∧ m ≤ ((pre ++ [a, b]).length : Int) from by rw [hNe]; exact ⟨hak, hm1⟩)
            obtain ⟨g, cap, rfl, hgB, hgl, hn1, hn2, hcell⟩ := own_pos hown (by omega)
            obtain ⟨i2, hi2⟩ : ∃ i2, i2 = pre.length := ⟨_, rfl⟩
            obtain ⟨i1, hi1⟩ : ∃ i1, i1 = pre.length + 1 := ⟨_, rfl⟩
            have hx := opsOf_get (pre ++ [a, b]) (pre.length + 0) (by simp)
            rw [show (pre ++ [a, b])[pre.length + 0]'(by simp) = a by simp, show pre.length + 0 = i2 by omega] at hx
            have xa0 : wr.cell? ⟨g, i2 * 3, none⟩ = some (.int .i64 a.kind) := (hcell (i2 * 3) (by omega)).trans hx.1
            have xa2 : wr.cell? ⟨g, i2 * 3 + 2, none⟩ = some (.int .u32 a.n) := (hcell (i2 * 3 + 2) (by omega)).trans hx.2.2
            clear hx
            have hx := opsOf_get (pre ++ [a, b]) (pre.length + 1) (by simp)
            rw [show (pre ++ [a, b])[pre.length + 1]'(by simp) = b by simp, show pre.length + 1 = i1 by omega] at hx
            have xb0 : wr.cell? ⟨g, i1 * 3, none⟩ = some (.int .i64 b.kind) := (hcell (i1 * 3) (by omega)).trans hx.1
            have xb2 : wr.cell? ⟨g, i1 * 3 + 2, none⟩ = some (.int .u32 b.n) := (hcell (i1 * 3 + 2) (by omega)).trans hx.2.2
            clear hx
            have e1 : (N : Int) - 1 = (i1 : Int) := by omega
            have e2 : (N : Int) - 2 = (i2 : Int) := by omega
            have b3 : (i1 : Int) < (N : Int) := by omega
            have b4 : i1 < N := by omega
            have b5 : (i2 : Int) < (N : Int) := by omega
            have b6 : i2 < N := by omega
            have b7 : i2 ≤ cap := by omega
            have b8 : (i2 : Int) ≤ (cap : Int) := by omega
            have HI2 := Lib.hid hi2
            have hpl : i2 ≤ 256 := by omega
            have q6 : (o.kind == 6) = false := by rw [h7]; rfl
            have q7 : (o.kind == 7) = true := by rw [h7]; rfl
            clear hcell hNe hlN hi2 h7 hi1
            go_upto_region 8 with fail
            have hx0 := heap_alloc_new wr (.cells #[.int .i64 o.kind, .string (str o.text), .int .u32 o.n] 42)
            have hWr : Below wr.heap.size wr (wr.alloc (.cells #[.int .i64 o.kind, .string (str o.text), .int .u32 o.n] 42)) := (Below.refl _ _).alloc (Nat.le_refl _) _
            have hownW := hown.alloc (.cells #[.int .i64 o.kind, .string (str o.text), .int .u32 o.n] 42)
            generalize wr.alloc (.cells #[.int .i64 o.kind, .string (str o.text), .int .u32 o.n] 42) = W at *
            have k0 : W.cell? ⟨wr.heap.size, 0, none⟩ = some (.int .i64 o.kind) := by rw [cell_of_row _ _ _ _ _ _ hx0]; rfl
            have k1 : W.cell? ⟨wr.heap.size, 1, none⟩ = some (.string (str o.text)) := by rw [cell_of_row _ _ _ _ _ _ hx0]; rfl
            have k2 : W.cell? ⟨wr.heap.size, 2, none⟩ = some (.int .u32 o.n) := by rw [cell_of_row _ _ _ _ _ _ hx0]; rfl
            have ya0 := (hWr.cell (p := ⟨g, i2 * 3, none⟩) hgl).trans xa0
            have ya2 := (hWr.cell (p := ⟨g, i2 * 3 + 2, none⟩) hgl).trans xa2
            have yb0 := (hWr.cell (p := ⟨g, i1 * 3, none⟩) hgl).trans xb0
            have yb2 := (hWr.cell (p := ⟨g, i1 * 3 + 2, none⟩) hgl).trans xb2
            have hbW := hb.trans (hWr.mono hb.size)
            clear xa0 xa2 xb0 xb2 hown hx0
            cases hna : (Ex.isNum a && Ex.isNum b) with
            | true =>
              have HT := Lib.hid (HF.out.trans (if_pos hna))
              have qa : (a.kind == 1) = true := (Bool.and_eq_true _ _ ▸ hna : _ ∧ _).1
              have qb : (b.kind == 1) = true := (Bool.and_eq_true _ _ ▸ hna : _ ∧ _).2
              clear HF hna
              have hq := qbiQ o.text a.n b.n (HLA.out a (by simp)).2.1 (HLA.out a (by simp)).2.2 (HLA.out b (by simp)).2.1 (HLA.out b (by simp)).2.2
              have hrl := bi_lt (l := o.text) (HLA.out a (by simp)).2.1 (HLA.out a (by simp)).2.2 (HLA.out b (by simp)).2.1 (HLA.out b (by simp)).2.2
              generalize (biR o.text a.n b.n) = rr at *
              go_upto_region 14 with fail
              go_quiet ((go_at_call 41; exact Calls.quiet_of_same (hq _)))
              have hWq : Below W.heap.size W (W.drewN nq) := below_drewN (Below.refl _ W) nq
              have hown5 := own_take (owns_below hownW hWq) (show i2 ≤ N by omega)
              have hb5 := hbW.trans (hWq.mono hbW.size)
              rw [HI2.out, opsOf_take pre [a, b]] at hown5
              rw [← HI2.out] at hown5
              clear hownW hWr hWq hbW k0 k1 k2 ya0 ya2 yb0 yb2
              generalize W.drewN nq = w5 at *
              have hLn : OpsLen (pre ++ [⟨1, [], rr.1⟩]) := fun u hu => by
                rcases List.mem_append.1 hu with hu | hu
                · exact HLA.out u (by simp [hu])
                · simp at hu; subst hu; exact ⟨by simp, hrl.1, hrl.2⟩
              go_upto_region 15 with fail
              have HNW := heap_alloc_new w5 (.cells #[.int .i64 1, .string ⟨#[]⟩, .int .u32 rr.1] 42)
              have hrow := hown5.lt
              go_upto_region 16 with (at_builtin; refine wpList_append_lies _ (by rfl) _ _ 26 (by rfl) w.heap.size 42 i0 _ 3 32 Tryz.underlying26 hi0 hz0 hz1 hz2 rfl (by omega) (.slice (some ⟨g, 0, none⟩) i2 cap) (i2) _ (by rfl) (hown5.alloc _) ⟨w5.heap.size, 0, none⟩ 1 1 [_, _, _] (by rfl) (by rfl) (World.news_of_block (cs := #[_, _, _]) (t := 42) (fr := (0, 0)) HNW) (by simp [Value.oneCell']) (by omega) (by unfold maxLen; omega) (by omega) (by have := hb5.size; simp; omega) (w5.heap.size + 1) (by simp) ?_; intro gg cap3 w6 hown6 hgrow hat hlt6)
              have hb6 : Below w.heap.size w w6 := grown_own (hb5.alloc hb5.size _) hgrow (fun j hj => (hrow j hj).1)
              rw [show opsOf (pre) ++ [.int .i64 1, .string ⟨#[]⟩, .int .u32 rr.1] = opsOf (pre ++ [⟨1, [], rr.1⟩]) from opsOf_snoc _ ⟨1, [], rr.1⟩] at hown6
              have hown7 : w6.ownsRow w.heap.size 42 3 (.slice (some ⟨gg, 0, none⟩) (i2 + 1) cap3) (pre ++ [⟨1, [], rr.1⟩] : List Ex.Op).length (opsOf (pre ++ [⟨1, [], rr.1⟩])) := by
                rw [show (pre ++ [⟨1, [], rr.1⟩] : List Ex.Op).length = i2 + 1 by rw [HI2.out]; simp]; exact hown6
              clear hown6 hown5 hgrow hat hlt6 hrow HNW
              go_wp2_with fail
              go_roundw
              case rel => ((first | exact ⟨k + 1, _, m + (1 - (Ex.opr o).1), by omega, by go_num, HT.out.symm, by have := HC.out.2.1; omega, by have := HC.out.2.1; have := HAK.out; have h8 := HC.out.2.1; rw [HOP.out] at h8 ⊢; have h9 := HAK.out.2; simp at h9; simp; omega, by have := HAK.out; simp at this ⊢; omega, HC.out.2.2, hLn, hown7, hb6⟩ | ((repeat apply Exists.intro); exact ⟨⟨k + 1, _, m + (1 - (Ex.opr o).1), by omega, by go_num, HT.out.symm, by have := HC.out.2.1; omega, by have := HC.out.2.1; have := HAK.out; have h8 := HC.out.2.1; rw [HOP.out] at h8 ⊢; have h9 := HAK.out.2; simp at h9; simp; omega, by have := HAK.out; simp at this ⊢; omega, HC.out.2.2, hLn, hown7, hb6⟩, rfl⟩)))
              case measure => simp [intOf]; omega
            | false =>
              have HT := Lib.hid (HF.out.trans (if_neg (by rw [hna]; decide)))
              have hb5 := hbW
              have hown5 := hownW
              have hLn : OpsLen ((pre ++ [a, b]) ++ [⟨o.kind, o.text, o.n⟩]) := fun u hu => by
                rcases List.mem_append.1 hu with hu | hu
                · exact HLA.out u hu
                · simp at hu; subst hu; exact hLo
              clear hbW hownW hWr
              clear HF
              cases qb : (b.kind == 1) with
              | false =>
                clear hna
                have HNW := heap_alloc_new W (.cells #[.int .i64 o.kind, .string (str o.text), .int .u32 o.n] 42)
                have hrow := hown5.lt
                go_upto_region 16 with (at_builtin; refine wpList_append_lies _ (by rfl) _ _ 26 (by rfl) w.heap.size 42 i0 _ 3 32 Tryz.underlying26 hi0 hz0 hz1 hz2 rfl (by omega) (.slice (some ⟨g, 0, none⟩) N cap) (N) _ (by rfl) (hown5.alloc _) ⟨W.heap.size, 0, none⟩ 1 1 [_, _, _] (by rfl) (by rfl) (World.news_of_block (cs := #[_, _, _]) (t := 42) (fr := (0, 0)) HNW) (by simp [Value.oneCell']) (by omega) (by unfold maxLen; omega) (by omega) (by have := hb5.size; simp; omega) (W.heap.size + 1) (by simp) ?_; intro gg cap3 w6 hown6 hgrow hat hlt6)
                have hb6 : Below w.heap.size w w6 := grown_own (hb5.alloc hb5.size _) hgrow (fun j hj => (hrow j hj).1)
                rw [show opsOf ((pre ++ [a, b])) ++ [.int .i64 o.kind, .string (str o.text), .int .u32 o.n] = opsOf ((pre ++ [a, b]) ++ [⟨o.kind, o.text, o.n⟩]) from opsOf_snoc _ ⟨o.kind, o.text, o.n⟩] at hown6
                have hown7 : w6.ownsRow w.heap.size 42 3 (.slice (some ⟨gg, 0, none⟩) (N + 1) cap3) ((pre ++ [a, b]) ++ [⟨o.kind, o.text, o.n⟩] : List Ex.Op).length (opsOf ((pre ++ [a, b]) ++ [⟨o.kind, o.text, o.n⟩])) := by
                  rw [show ((pre ++ [a, b]) ++ [⟨o.kind, o.text, o.n⟩] : List Ex.Op).length = N + 1 by simp; have := HNN.out; simp at this; omega]; exact hown6
                clear hown6 hown5 hgrow hat hlt6 hrow HNW
                go_wp2_with fail
                go_roundw
                case rel => ((first | exact ⟨k + 1, _, m + (1 - (Ex.opr o).1), by omega, by go_num, HT.out.symm, by have := HC.out.2.1; omega, by have := HC.out.2.1; have := HAK.out; have h8 := HC.out.2.1; rw [HOP.out] at h8 ⊢; have h9 := HAK.out.2; simp at h9; simp; omega, by have := HAK.out; simp at this ⊢; omega, HC.out.2.2, hLn, hown7, hb6⟩ | ((repeat apply Exists.intro); exact ⟨⟨k + 1, _, m + (1 - (Ex.opr o).1), by omega, by go_num, HT.out.symm, by have := HC.out.2.1; omega, by have := HC.out.2.1; have := HAK.out; have h8 := HC.out.2.1; rw [HOP.out] at h8 ⊢; have h9 := HAK.out.2; simp at h9; simp; omega, by have := HAK.out; simp at this ⊢; omega, HC.out.2.2, hLn, hown7, hb6⟩, rfl⟩)))
                case measure => simp [intOf]; omega
              | true =>
                have qa : (a.kind == 1) = false := by
                  unfold Ex.isNum at hna
                  rw [qb, Bool.and_true] at hna
                  exact hna
                clear hna
                have HNW := heap_alloc_new W (.cells #[.int .i64 o.kind, .string (str o.text), .int .u32 o.n] 42)
                have hrow := hown5.lt
                go_upto_region 16 with (at_builtin; refine wpList_append_lies _ (by rfl) _ _ 26 (by rfl) w.heap.size 42 i0 _ 3 32 Tryz.underlying26 hi0 hz0 hz1 hz2 rfl (by omega) (.slice (some ⟨g, 0, none⟩) N cap) (N) _ (by rfl) (hown5.alloc _) ⟨W.heap.size, 0, none⟩ 1 1 [_, _, _] (by rfl) (by rfl) (World.news_of_block (cs := #[_, _, _]) (t := 42) (fr := (0, 0)) HNW) (by simp [Value.oneCell']) (by omega) (by unfold maxLen; omega) (by omega) (by have := hb5.size; simp; omega) (W.heap.size + 1) (by simp) ?_; intro gg cap3 w6 hown6 hgrow hat hlt6)
                have hb6 : Below w.heap.size w w6 := grown_own (hb5.alloc hb5.size _) hgrow (fun j hj => (hrow j hj).1)
                rw [show opsOf ((pre ++ [a, b])) ++ [.int .i64 o.kind, .string (str o.text), .int .u32 o.n] = opsOf ((pre ++ [a, b]) ++ [⟨o.kind, o.text, o.n⟩]) from opsOf_snoc _ ⟨o.kind, o.text, o.n⟩] at hown6
                have hown7 : w6.ownsRow w.heap.size 42 3 (.slice (some ⟨gg, 0, none⟩) (N + 1) cap3) ((pre ++ [a, b]) ++ [⟨o.kind, o.text, o.n⟩] : List Ex.Op).length (opsOf ((pre ++ [a, b]) ++ [⟨o.kind, o.text, o.n⟩])) := by
                  rw [show ((pre ++ [a, b]) ++ [⟨o.kind, o.text, o.n⟩] : List Ex.Op).length = N + 1 by simp; have := HNN.out; simp at this; omega]; exact hown6
                clear hown6 hown5 hgrow hat hlt6 hrow HNW
                go_wp2_with fail
                go_roundw
                case rel => ((first | exact ⟨k + 1, _, m + (1 - (Ex.opr o).1), by omega, by go_num, HT.out.symm, by have := HC.out.2.1; omega, by have := HC.out.2.1; have := HAK.out; have h8 := HC.out.2.1; rw [HOP.out] at h8 ⊢; have h9 := HAK.out.2; simp at h9; simp; omega, by have := HAK.out; simp at this ⊢; omega, HC.out.2.2, hLn, hown7, hb6⟩ | ((repeat apply Exists.intro); exact ⟨⟨k + 1, _, m + (1 - (Ex.opr o).1), by omega, by go_num, HT.out.symm, by have := HC.out.2.1; omega, by have := HC.out.2.1; have := HAK.out; have h8 := HC.out.2.1; rw [HOP.out] at h8 ⊢; have h9 := HAK.out.2; simp at h9; simp; omega, by have := HAK.out; simp at this ⊢; omega, HC.out.2.2, hLn, hown7, hb6⟩, rfl⟩)))
                case measure => simp [intOf]; omega
          · have HF := Lib.hid (HN.out.trans (Ex.fold1_no acc o h6 h7))
            have HAK := Lib.hid (show acc.length ≤ k ∧ m ≤ (acc.length : Int) from ⟨hak, hm1⟩)
            have q6 : (o.kind == 6) = false := by rw [beq_eq_false_iff_ne]; exact h6
            have q7 : (o.kind == 7) = false := by rw [beq_eq_false_iff_ne]; exact h7
            have HL6 := Lib.hid (show m + (1 - (Ex.opr o).1) ≤ (acc.length : Int) + 1 by have := Ex.opr_lo hLo.2.1; omega)
            have hLn : OpsLen (acc ++ [⟨o.kind, o.text, o.n⟩]) := fun u hu => by
              rcases List.mem_append.1 hu with hu | hu
              · exact hLa u hu
              · simp at hu; subst hu; exact hLo
            clear h6 h7
            go_upto_region 8 with fail
            have hx0 := heap_alloc_new wr (.cells #[.int .i64 o.kind, .string (str o.text), .int .u32 o.n] 42)
            have hb5 := hb.alloc hb.size (.cells #[.int .i64 o.kind, .string (str o.text), .int .u32 o.n] 42)
            have hown5 := hown.alloc (.cells #[.int .i64 o.kind, .string (str o.text), .int .u32 o.n] 42)
            generalize wr.alloc (.cells #[.int .i64 o.kind, .string (str o.text), .int .u32 o.n] 42) = w5 at *
            have k0 : w5.cell? ⟨wr.heap.size, 0, none⟩ = some (.int .i64 o.kind) := by rw [cell_of_row _ _ _ _ _ _ hx0]; rfl
            have k1 : w5.cell? ⟨wr.heap.size, 1, none⟩ = some (.string (str o.text)) := by rw [cell_of_row _ _ _ _ _ _ hx0]; rfl
            have k2 : w5.cell? ⟨wr.heap.size, 2, none⟩ = some (.int .u32 o.n) := by rw [cell_of_row _ _ _ _ _ _ hx0]; rfl
            clear hx0 hown
            rcases hown5.2 with ⟨rfl, hz⟩ | ⟨g, cap, cur, rfl, hB, hgg, hn1, hn2, hsz, htk⟩
            · rw [hz] at hown5
              have HZ := Lib.hid hz
              clear hz
              have HNW := heap_alloc_new w5 (.cells #[.int .i64 o.kind, .string (str o.text), .int .u32 o.n] 42)
              have hrow := hown5.lt
              go_upto_region 16 with (at_builtin; refine wpList_append_lies _ (by rfl) _ _ 26 (by rfl) w.heap.size 42 i0 _ 3 32 Tryz.underlying26 hi0 hz0 hz1 hz2 rfl (by omega) (.slice none 0 0) 0 _ (by rfl) (hown5.alloc _) ⟨w5.heap.size, 0, none⟩ 1 1 [_, _, _] (by rfl) (by rfl) (World.news_of_block (cs := #[_, _, _]) (t := 42) (fr := (0, 0)) HNW) (by simp [Value.oneCell']) (by omega) (by unfold maxLen; omega) (by omega) (by have := hb5.size; simp; omega) (w5.heap.size + 1) (by simp) ?_; intro gg cap3 w6 hown6 hgrow hat hlt6)
              have hb6 : Below w.heap.size w w6 := grown_own (hb5.alloc hb5.size _) hgrow (fun j hj => (hrow j hj).1)
              rw [show opsOf (acc) ++ [.int .i64 o.kind, .string (str o.text), .int .u32 o.n] = opsOf (acc ++ [⟨o.kind, o.text, o.n⟩]) from opsOf_snoc _ ⟨o.kind, o.text, o.n⟩] at hown6
              have hown7 : w6.ownsRow w.heap.size 42 3 (.slice (some ⟨gg, 0, none⟩) (0 + 1) cap3) (acc ++ [⟨o.kind, o.text, o.n⟩] : List Ex.Op).length (opsOf (acc ++ [⟨o.kind, o.text, o.n⟩])) := by
                rw [show (acc ++ [⟨o.kind, o.text, o.n⟩] : List Ex.Op).length = 0 + 1 by rw [List.length_append, HZ.out]; rfl]; exact hown6
              clear hown6 hown5 hgrow hat hlt6 hrow HNW
              go_wp2_with fail
              go_roundw
              case rel => ((first | exact ⟨k + 1, _, m + (1 - (Ex.opr o).1), by omega, by go_num, HF.out.symm, by have := HC.out.2.1; omega, by have := HC.out.2.1; have := HAK.out; have h8 := HL6.out; simp; omega, by have := HAK.out; simp at this ⊢; omega, HC.out.2.2, hLn, hown7, hb6⟩ | ((repeat apply Exists.intro); exact ⟨⟨k + 1, _, m + (1 - (Ex.opr o).1), by omega, by go_num, HF.out.symm, by have := HC.out.2.1; omega, by have := HC.out.2.1; have := HAK.out; have h8 := HL6.out; simp; omega, by have := HAK.out; simp at this ⊢; omega, HC.out.2.2, hLn, hown7, hb6⟩, rfl⟩)))
              case measure => simp [intOf]; omega
            · clear hsz htk hgg
              have HNW := heap_alloc_new w5 (.cells #[.int .i64 o.kind, .string (str o.text), .int .u32 o.n] 42)
              have hrow := hown5.lt
              go_upto_region 16 with (at_builtin; refine wpList_append_lies _ (by rfl) _ _ 26 (by rfl) w.heap.size 42 i0 _ 3 32 Tryz.underlying26 hi0 hz0 hz1 hz2 rfl (by omega) (.slice (some ⟨g, 0, none⟩) acc.length cap) (acc.length) _ (by rfl) (hown5.alloc _) ⟨w5.heap.size, 0, none⟩ 1 1 [_, _, _] (by rfl) (by rfl) (World.news_of_block (cs := #[_, _, _]) (t := 42) (fr := (0, 0)) HNW) (by simp [Value.oneCell']) (by omega) (by unfold maxLen; omega) (by omega) (by have := hb5.size; simp; omega) (w5.heap.size + 1) (by simp) ?_; intro gg cap3 w6 hown6 hgrow hat hlt6)
              have hb6 : Below w.heap.size w w6 := grown_own (hb5.alloc hb5.size _) hgrow (fun j hj => (hrow j hj).1)
              rw [show opsOf (acc) ++ [.int .i64 o.kind, .string (str o.text), .int .u32 o.n] = opsOf (acc ++ [⟨o.kind, o.text, o.n⟩]) from opsOf_snoc _ ⟨o.kind, o.text, o.n⟩] at hown6
              have hown7 : w6.ownsRow w.heap.size 42 3 (.slice (some ⟨gg, 0, none⟩) (acc.length + 1) cap3) (acc ++ [⟨o.kind, o.text, o.n⟩] : List Ex.Op).length (opsOf (acc ++ [⟨o.kind, o.text, o.n⟩])) := by
                rw [show (acc ++ [⟨o.kind, o.text, o.n⟩] : List Ex.Op).length = acc.length + 1 by simp]; exact hown6
              clear hown6 hown5 hgrow hat hlt6 hrow HNW
              go_wp2_with fail
              go_roundw
              case rel => ((first | exact ⟨k + 1, _, m + (1 - (Ex.opr o).1), by omega, by go_num, HF.out.symm, by have := HC.out.2.1; omega, by have := HC.out.2.1; have := HAK.out; have h8 := HL6.out; simp; omega, by have := HAK.out; simp at this ⊢; omega, HC.out.2.2, hLn, hown7, hb6⟩ | ((repeat apply Exists.intro); exact ⟨⟨k + 1, _, m + (1 - (Ex.opr o).1), by omega, by go_num, HF.out.symm, by have := HC.out.2.1; omega, by have := HC.out.2.1; have := HAK.out; have h8 := HL6.out; simp; omega, by have := HAK.out; simp at this ⊢; omega, HC.out.2.2, hLn, hown7, hb6⟩, rfl⟩)))
              case measure => simp [intOf]; omega
      · have b1 : decide ((k : Int) < f.length) = false := by simp; omega
        have b1n : decide (k < f.length) = false := by simp; omega
        have HT := Lib.hid (show R = (acc, 0) by rw [HR.out, HACC.out, List.take_of_length_le (by omega)])
        clear HR HACC HCH
        go_wp2_with fail
        go_ret2
        rw [HT.out]
        exact ⟨_, rfl, hown, hb⟩
/-- What operations leave when they are done, less what they take. -/
def Ex.net (f : List Ex.Op) : Int := (f.map fun o => 1 - (Ex.opr o).1).sum
theorem Ex.net_app (a b : List Ex.Op) : Ex.net (a ++ b) = Ex.net a + Ex.net b := by simp [Ex.net]
theorem Ex.net_num (f : List Ex.Op) (h : f.all Ex.isNum = true) : Ex.net f = f.length := by
  induction f with
  | nil => rfl
  | cons o f ih =>
    simp only [List.all_cons, Bool.and_eq_true] at h
    have h1 : o.kind = 1 := by have := h.1; unfold Ex.isNum at this; simpa using this
    have h2 := ih h.2
    unfold Ex.net at h2 ⊢
    rw [List.map_cons, List.sum_cons, h2, opr_1' h1]
    simp; omega
theorem Ex.net_fold1 (acc : List Ex.Op) (o : Ex.Op) (m : Int) (hm : m ≤ acc.length) (ht : (Ex.opr o).1 ≤ m) : Ex.net (Ex.fold1 acc o) = Ex.net acc + (1 - (Ex.opr o).1) := by
  have one : ∀ x : Ex.Op, Ex.net [x] = 1 - (Ex.opr x).1 := fun x => by simp [Ex.net]
  have num : ∀ n, Ex.net [⟨1, [], n⟩] = 1 := fun n => by rw [one, opr_1' rfl]; rfl
  have isn : ∀ x : Ex.Op, Ex.isNum x = true → Ex.net [x] = 1 := fun x hx => by rw [one, opr_1' (by unfold Ex.isNum at hx; simpa using hx)]; rfl
  by_cases h6 : o.kind = 6
  · have e := Ex.opr_un h6
    obtain ⟨pre, a, rfl⟩ := last_one acc (by omega)
    rw [Ex.fold1_un pre a o h6]
    split
    · rename_i ha; rw [Ex.net_app, Ex.net_app, num, isn a ha, e]; omega
    · rw [Ex.net_app _ [o], one o]
  · by_cases h7 : o.kind = 7
    · have e := Ex.opr_bi h7
      obtain ⟨pre, a, b, rfl⟩ := last_two acc (by omega)
      rw [Ex.fold1_bi pre a b o h7]
      split
      · rename_i hab
        simp only [Bool.and_eq_true] at hab
        rw [Ex.net_app, Ex.net_app, num, show [a, b] = [a] ++ [b] from rfl, Ex.net_app [a], isn a hab.1, isn b hab.2, e]; omega
      · rw [Ex.net_app _ [o], one o]
    · rw [Ex.fold1_no acc o h6 h7, Ex.net_app, one o]
theorem Ex.net_foldl (f : List Ex.Op) : ∀ (acc : List Ex.Op) (m : Int), (∀ o ∈ f, 0 ≤ o.n) → Ex.chk m f = 0 → m ≤ acc.length → Ex.net acc = m → Ex.net (f.foldl Ex.fold1 acc) = 1 := by
  induction f with
  | nil =>
    intro acc m _ hc hm hnet
    simp only [Ex.chk] at hc
    split at hc
    · rename_i h; simpa [h] using hnet
    · cases hc
  | cons o f ih =>
    intro acc m hn hc hm hnet
    rw [Ex.chk_cons] at hc
    split at hc
    · rename_i h
      rw [List.foldl_cons]
      exact ih _ _ (fun u hu => hn u (List.mem_cons_of_mem _ hu)) hc (Ex.fold1_len acc o m (hn o (by simp)) h.2 hm) (by rw [Ex.net_fold1 acc o m hm h.2, hnet])
    · cases hc
/-- A folded formula that has nothing but numbers is one number. -/
theorem Ex.fold_one (f : List Ex.Op) (hn : ∀ o ∈ f, 0 ≤ o.n) (h : (Ex.fold f).2 = 0) (ha : (Ex.fold f).1.all Ex.isNum = true) : (Ex.fold f).1.length = 1 := by
  have h1 := Ex.net_num _ ha
  rw [fold_def] at h h1 ⊢
  split
  · rename_i hc; rw [if_pos hc] at h; exact absurd h hc
  · rename_i hc
    rw [if_neg hc] at h1
    have hc0 : Ex.check f = 0 := by simpa using hc
    rw [check_def] at hc0
    split at hc0
    · cases hc0
    · rw [Ex.net_foldl f [] 0 hn hc0 (by simp) rfl] at h1
      dsimp only at h1 ⊢
      omega
theorem value_one (f : List Ex.Op) (hn : ∀ o ∈ f, 0 ≤ o.n) : (((Ex.fold f).2 ≠ 0 ∨ (Ex.fold f).1.length ≠ 1 ∨ ∃ a, (Ex.fold f).1 = [a] ∧ Ex.isNum a = false) ∧ Ex.value f = (0, false)) ∨ ∃ a, (Ex.fold f).2 = 0 ∧ (Ex.fold f).1 = [a] ∧ Ex.isNum a = true ∧ Ex.value f = (a.n, true) := by
  rw [value_def]
  by_cases h : (Ex.fold f).2 = 0
  · cases ha : (Ex.fold f).1.all Ex.isNum with
    | true =>
      right
      obtain ⟨a, e⟩ := List.length_eq_one_iff.1 (Ex.fold_one f hn h ha)
      refine ⟨a, h, e, by rw [e] at ha; simpa using ha, ?_⟩
      rw [if_neg (fun c => c.elim (fun c => c h) (fun c => by cases c)), e]; rfl
    | false =>
      left
      refine ⟨?_, by rw [if_pos (.inr rfl)]⟩
      right
      by_cases hl : (Ex.fold f).1.length = 1
      · obtain ⟨a, e⟩ := List.length_eq_one_iff.1 hl
        exact .inr ⟨a, e, by rw [e] at ha; simpa using ha⟩
      · exact .inl hl
  · left
    exact ⟨.inl h, by rw [if_pos (.inl h)]⟩
set_option maxHeartbeats 4000000 in
set_option maxRecDepth 100000 in
theorem qvalue_any (A : Option Addr) (c : Nat) (f : List Ex.Op) (w : World) (hA : OpsAt w w.heap.size A f) (hl : f.length ≤ 1000000000) (hL : OpsLen f) :
    Calls Tryz.prog 20 #[.slice A f.length c] w fun x w' => x = .returned (valV (Ex.value f)) ∧ Below w.heap.size w w' := by
  have HV := Lib.hid (value_one f (fun o ho => (hL o ho).2.1))
  have hfo := qfold_any A c f w hA hl hL
  unfold GotF at hfo
  unfold valV
  generalize Ex.value f = R at *
  generalize Ex.fold f = F at *
  obtain ⟨G, e⟩ := F
  go_enter Tryz.func20, Tryz.ntmps20
  go_wp2_with fail
  with_reducible refine hfo.mono ?_
  clear hfo
  rintro x w2 ⟨v, rfl, hown, hb⟩
  rcases HV.out with ⟨hh, hR⟩ | ⟨a, he, hG, ha, hR⟩
  · have HR := Lib.hid hR
    by_cases he : e = 0
    · have q1 : (e != 0) = false := by rw [he]; rfl
      rcases hh with hh | hh | ⟨a, hG, ha⟩
      · exact absurd he hh
      · obtain ⟨A2, c2, rfl, hA2, _, _⟩ := owns_ops hown
        have q2 : ((G.length : Int) != 1) = true := by rw [bne_iff_ne]; omega
        have q3 : (G.length != 1) = true := by rw [bne_iff_ne]; exact hh
        clear HV hR hh hA2 hown he
        go_wp2_with fail
        go_ret2
        exact ⟨by rw [HR.out]; rfl, hb⟩
      · subst hG
        obtain ⟨A2, c2, rfl, hA2, _, _⟩ := owns_ops hown
        obtain ⟨g, o, rfl, hg, x0, x1, x2⟩ := hA2 0 (by simp)
        have q2 : (a.kind != 1) = true := by unfold Ex.isNum at ha; rw [bne_iff_ne]; simpa using ha
        simp only [List.getElem_cons_zero, Nat.zero_mul, Nat.add_zero] at x0 x1 x2
        clear HV hR hA2 hown he
        go_wp2_with fail
        go_ret2
        exact ⟨by rw [HR.out]; rfl, hb⟩
    · have q1 : (e != 0) = true := by rw [bne_iff_ne]; exact he
      clear HV hR hh he
      go_wp2_with fail
      go_ret2
      exact ⟨by rw [HR.out]; rfl, hb⟩
  · subst he
    subst hG
    obtain ⟨A2, c2, rfl, hA2, _, _⟩ := owns_ops hown
    obtain ⟨g, o, rfl, hg, x0, x1, x2⟩ := hA2 0 (by simp)
    have q2 : (a.kind != 1) = false := by unfold Ex.isNum at ha; have : a.kind = 1 := by simpa using ha
                                          rw [this]; rfl
    simp only [List.getElem_cons_zero, Nat.zero_mul, Nat.add_zero] at x0 x1 x2
    have HR := Lib.hid hR
    clear HV hR hA2 hown ha
    go_wp2_with fail
    go_ret2
    exact ⟨by rw [HR.out]; rfl, hb⟩
end Go.Proofs.YtkkkiacbikbalaaGreatDoor
