/- The reference's Print. No condition but the lengths. -/
import Derived.Test.YtkkkiacbikbalaaGreatDoorQpr
import Derived.Test.YtkkkiacbikbalaaGreatDoorQck
import Derived.Test.YtkkkiacbikbalaaGreatDoorPny
namespace Go.Proofs.YtkkkiacbikbalaaGreatDoor
namespace Ex
open Tok (Tk)
def nl (lv : Int) : Int := if lv = 12 then 11 else lv
def nrm (p : List Tk × Int) : List Tk × Int := (p.1, nl p.2)
def qlv (o : Op) : Int := if o.kind = 6 then 11 else if o.kind = 7 then ((levL o.text : Nat) : Int) else 12
def qpart (o : Op) (a : List (List Tk × Int)) : List Tk × Int := ((partL o (a.map nrm)).1, qlv o)
def qpstep (acc : List (List Tk × Int)) (o : Op) : List (List Tk × Int) :=
  acc.take (acc.length - (opr o).1.toNat) ++ [qpart o (acc.drop (acc.length - (opr o).1.toNat))]
theorem inP_nl (ts : List Tk) (lv n : Int) (h : n ≤ 11) : inP ts (nl lv) n = inP ts lv n := by
  unfold inP nl
  by_cases h1 : lv = 12
  · rw [if_pos h1, if_pos h, if_pos (by omega)]
  · rw [if_neg h1]
theorem nl_lt (lv : Int) (h : lv ≤ 11) : nl lv = lv := if_neg (by omega)
theorem qpart_nrm (o : Op) (a : List (List Tk × Int)) (h : (opr o).2 = true) : nrm (qpart o a) = partL o (a.map nrm) := by
  have hl := lev_lt11 o.text
  rcases opr_cases h with ⟨n, rfl, _⟩ | ⟨t, rfl, _, _⟩ | ⟨t, n, rfl, _, _, _⟩ | ⟨rfl, _⟩ | ⟨rfl, _⟩ | ⟨t, rfl, _, _⟩ | ⟨t, rfl, ht, _⟩
  · rfl
  · rfl
  · rfl
  · rfl
  · rfl
  · rfl
  · show ((partL ⟨7, t, 0⟩ (a.map nrm)).1, nl ((levL t : Nat) : Int)) = _
    rw [nl_lt _ (by dsimp only at hl; omega)]
    rfl
theorem qpstep_nrm (acc : List (List Tk × Int)) (o : Op) (h : (opr o).2 = true) : (qpstep acc o).map nrm = pstep (acc.map nrm) o := by
  unfold qpstep pstep
  rw [List.map_append, List.map_take, List.length_map, ← List.map_drop]
  show _ ++ [nrm (qpart o _)] = _
  rw [qpart_nrm o _ h]
theorem qfold_nrm (f : List Op) : ∀ (acc : List (List Tk × Int)) (m : Int), chk m f = 0 → (f.foldl qpstep acc).map nrm = f.foldl pstep (acc.map nrm) := by
  induction f with
  | nil => intro acc m _; rfl
  | cons o f ih =>
    intro acc m hc
    rw [chk_cons] at hc
    split at hc
    · rename_i h
      rw [List.foldl_cons, List.foldl_cons, ih _ _ hc, qpstep_nrm acc o h.1]
    · cases hc
theorem qtoks (f : List Op) (h : chk 0 f = 0) : ((f.foldl qpstep []).getD 0 default).1 = toks f := by
  have h1 := qfold_nrm f [] 0 h
  unfold toks
  rw [List.map_nil] at h1
  rw [← h1]
  cases f.foldl qpstep [] with
  | nil => rfl
  | cons x l => rfl
theorem qpstep_app (a b : List (List Tk × Int)) (o : Op) (h : b.length = (opr o).1.toNat) : qpstep (a ++ b) o = a ++ [qpart o b] := by
  unfold qpstep
  rw [List.length_append, h, Nat.add_sub_cancel, List.take_left, List.drop_left]
theorem qpstep_zero (a : List (List Tk × Int)) (o : Op) (h : (opr o).1.toNat = 0) : qpstep a o = a ++ [qpart o []] := by
  have h2 := qpstep_app a [] o (by rw [h]; rfl)
  rwa [List.append_nil] at h2
theorem tot_nrm (a : List (List Tk × Int)) : tot (a.map nrm) = tot a := by unfold tot; rw [List.map_map]; rfl
theorem qpart_len (o : Op) (a : List (List Tk × Int)) (ho : (opr o).2 = true) (hw : 0 ≤ o.n) (ha : a.length = (opr o).1.toNat) : (qpart o a).1.length ≤ tot a + 20 := by
  have h := partL_len o (a.map nrm) ho hw (by rw [List.length_map]; exact ha)
  rwa [tot_nrm] at h
theorem map_nrm_fst (a : List (List Tk × Int)) : (a.map nrm).map (·.1) = a.map (·.1) := by rw [List.map_map]; rfl
end Ex
theorem plsOf_one (L : List Pl) : ∀ u ∈ plsOf L, u.oneCell' = true := fun u hu => by
  simp only [plsOf, List.mem_flatMap, plOf] at hu
  obtain ⟨p, _, h⟩ := hu
  simp at h
  rcases h with rfl | rfl <;> rfl
open Go.RowKit Go.Deep

theorem own_empty (w : World) (B : Nat) (hB : B ≤ w.heap.size) (T : TypeId) (size : Nat) : (w.alloc (.cells #[] T)).ownsRow B T size (.slice (some ⟨w.heap.size, 0, none⟩) 0 0) 0 [] :=
  ⟨by simp, .inr ⟨w.heap.size, 0, #[], rfl, hB, heap_alloc_new w _, Nat.le_refl _, by unfold maxLen; omega, by simp, by simp⟩⟩
theorem one_pl (l : List Pl) (h : l.length = 1) : ∃ a, l = [a] := List.length_eq_one_iff.1 h
theorem two_pl (l : List Pl) (h : l.length = 2) : ∃ a b, l = [a, b] := by
  match l, h with
  | [a, b], _ => exact ⟨a, b, rfl⟩
theorem infoQ : (Tryz.prog.info? 68).map (fun i => (i.zero, i.size, i.bytes)) = some (some (.agg #[.slice none 0 0, .int .i64 0]), 2, 32) := by kernel_rfl
set_option maxHeartbeats 16000000 in
set_option maxRecDepth 100000 in
theorem qprint_ok (A : Option Addr) (c : Nat) (f : List Ex.Op) (w : World) (hA : OpsAt w w.heap.size A f) (hL : OpsLen f) (h0 : Ex.check f = 0) :
    Calls Tryz.prog 13 #[.slice A f.length c] w (GotL w (Ex.print f)) := by
  have HPD := Lib.hid (show Ex.print f = if 256 < (Ex.toks f).length then ([], 10) else (Ex.toks f, 0) by rw [print_def, if_neg (fun h => h h0)])
  generalize Ex.print f = R at *
  unfold GotL
  obtain ⟨i0, hi0, hz0, hz1, hz2⟩ := info_parts infoQ
  have hl2 : f.length ≤ 256 := by
    have h := h0
    rw [check_def] at h
    split at h
    · cases h
    · omega
  have hck := qcheck_any A c f w hA (by omega) hL
  have hchk : Ex.chk 0 (f.drop 0) = 0 := by
    have h := h0
    rw [check_def, if_neg (by omega)] at h; exact h
  have HCF := Lib.hid (show Ex.chk 0 f = 0 from hchk)
  rw [h0] at hck
  clear h0
  go_enter Tryz.func13, Tryz.ntmps13
  go_wp2_with fail
  with_reducible refine hck.mono ?_
  clear hck
  rintro x w1 ⟨rfl, hb1⟩
  go_wp2_with fail
  go_loopw [5, 20] (fun v i wr => ∃ (k : Nat) (L : List Pl), k ≤ f.length ∧ i = .int .i64 k ∧ L.map tp = (f.take k).foldl Ex.qpstep [] ∧ L.length ≤ k ∧ Ex.chk L.length (f.drop k) = 0 ∧ Ex.tot (L.map tp) ≤ 20 * k ∧ Held wr v L ∧ wr.ownsRow w.heap.size 68 2 v L.length (plsOf L) ∧ Below w.heap.size w wr) (fun _ i _ => f.length - (intOf i).toNat)
  case atStart => exact ⟨0, [], by omega, rfl, rfl, by simp, hchk, by simp [Ex.tot], ⟨fun p hp => by simp at hp⟩, World.ownsRow_nil _ _ _ _, hb1⟩
  case round =>
    clear hchk hb1
    obtain ⟨k, L, hk, rfl, hacc, hsl, hch, htot, hheld, hs, hb⟩ := hrel
    have HACC := Lib.hid hacc
    have HCH := Lib.hid hch
    have HTOT := Lib.hid htot
    have HH := Lib.hid hheld
    clear hacc hch htot hheld
    by_cases hlt : k < f.length
    · have b1 : decide ((k : Int) < f.length) = true := by simp; omega
      have b1n : decide (k < f.length) = true := by simp; omega
      obtain ⟨g0, o0, rfl, hg, hc0, hc1, hc2⟩ := hA k hlt
      have hd0 := (hb.cell (p := ⟨g0, o0 + k * 3, none⟩) hg).trans hc0
      have hd1 := (hb.cell (p := ⟨g0, o0 + k * 3 + 1, none⟩) hg).trans hc1
      have hd2 := (hb.cell (p := ⟨g0, o0 + k * 3 + 2, none⟩) hg).trans hc2
      have HN := Lib.hid (show (f.take (k + 1)).foldl Ex.qpstep [] = Ex.qpstep (L.map tp) f[k] by rw [List.take_succ_eq_append_getElem hlt, List.foldl_append, ← HACC.out]; rfl)
      have HC := Lib.hid (show (Ex.opr f[k]).2 = true ∧ (Ex.opr f[k]).1 ≤ (L.length : Int) ∧ Ex.chk ((L.length : Int) + (1 - (Ex.opr f[k]).1)) (f.drop (k + 1)) = 0 by
        have h := HCH.out
        rw [list_drop f k hlt, Ex.chk_cons] at h
        split at h
        · rename_i h1; exact ⟨h1.1, h1.2, h⟩
        · cases h)
      obtain ⟨hLt, hLo⟩ := hL f[k] (List.getElem_mem hlt)
      clear hc0 hc1 hc2 HCH HACC
      generalize f[k] = o at *
      rcases Ex.opr_cases HC.out.1 with ⟨n, rfl, he0⟩ | ⟨t, rfl, ht, he0⟩ | ⟨t, n, rfl, ht, hn8, he0⟩ | ⟨rfl, he0⟩ | ⟨rfl, he0⟩ | ⟨t, rfl, ht, he0⟩ | ⟨t, rfl, ht, he0⟩
      · dsimp only at hLo hLt hd0 hd1 hd2
        obtain ⟨m, rfl⟩ : ∃ m : Nat, n = m := ⟨n.toNat, by omega⟩
        rcases hs.2 with ⟨rfl, hz⟩ | ⟨g, cap, cur, rfl, hB, hgg, hn1, hn2, hsz, htk⟩
        · have HST := Lib.hid (show (f.take (k + 1)).foldl Ex.qpstep [] = L.map tp ++ [Ex.qpart ⟨1, [], (m : Int)⟩ (([] : List Pl).map tp)] from HN.out.trans (Ex.qpstep_zero _ _ (by rw [he0]; rfl)))
          have HPL := Lib.hid (Ex.qpart_len ⟨1, [], (m : Int)⟩ (([] : List Pl).map tp) HC.out.1 (by dsimp only; omega) (by rw [he0]; rfl))
          have HCK0 := Lib.hid (show Ex.chk ((L.length + 1 : Nat) : Int) (f.drop (k + 1)) = 0 by have h := HC.out.2.2; rw [he0] at h; rw [← h]; first | rfl | (congr 1; simp; done) | (congr 1; simp; omega))
          have hcall := qnd_any ⟨1, [], (m : Int)⟩ (by dsimp only; simp) (by dsimp only; omega) (by dsimp only; omega)
          rw [show Ex.nd ⟨1, [], (m : Int)⟩ = 0 from (if_pos HC.out.1).trans he0] at hcall
          clear HC he0 HN
          rw [hz] at hs hsl
          have HNN := Lib.hid hz
          clear hz
          go_upto_region 8 with fail
          have hx0 := heap_alloc_new wr (.cells #[.int .i64 1, .string (str []), .int .u32 (m : Int)] 42)
          have hWr : Below wr.heap.size wr (wr.alloc (.cells #[.int .i64 1, .string (str []), .int .u32 (m : Int)] 42)) := (Below.refl _ _).alloc (Nat.le_refl _) _
          have hWs : wr.heap.size < (wr.alloc (.cells #[.int .i64 1, .string (str []), .int .u32 (m : Int)] 42)).heap.size := by simp
          generalize wr.alloc (.cells #[.int .i64 1, .string (str []), .int .u32 (m : Int)] 42) = W at *
          have k0 : W.cell? ⟨wr.heap.size, 0, none⟩ = some (.int .i64 1) := by rw [cell_of_row _ _ _ _ _ _ hx0]; rfl
          have k1 : W.cell? ⟨wr.heap.size, 1, none⟩ = some (.string (str [])) := by rw [cell_of_row _ _ _ _ _ _ hx0]; rfl
          have k2 : W.cell? ⟨wr.heap.size, 2, none⟩ = some (.int .u32 (m : Int)) := by rw [cell_of_row _ _ _ _ _ _ hx0]; rfl
          go_wp2_with fail
          with_reducible refine (hcall W).mono ?_
          clear hcall
          rintro e w2 ⟨rfl, hb2⟩
          have hx2 := (hb2.block wr.heap.size hWs).trans hx0
          have hWr2 : Below wr.heap.size wr w2 := hWr.trans (hb2.mono hWr.size)
          have hWs2 : wr.heap.size < w2.heap.size := Nat.lt_of_lt_of_le hWs hb2.size
          clear k0 k1 k2 hx0 hb2 hWr hWs
          go_upto_region 10 with fail
          have hB3 : Below w2.heap.size w2 (w2.alloc (.cells #[] 68)) := (Below.refl _ _).alloc (Nat.le_refl _) _
          generalize w2.alloc (.cells #[] 68) = w3 at *
          have hx3 := (hB3.block wr.heap.size hWs2).trans hx2
          have hWr3 : Below wr.heap.size wr w3 := hWr2.trans (hB3.mono hWr2.size)
          have hWs3 : wr.heap.size < w3.heap.size := Nat.lt_of_lt_of_le hWs2 hB3.size
          clear hWr2 hWs2 hx2 hB3
          go_upto_region 12 with fail
          have hy4 := heap_alloc_new w3 (.cells #[.slice none 0 0, .int .i64 12] 68)
          have hW34 : Below w3.heap.size w3 (w3.alloc (.cells #[.slice none 0 0, .int .i64 12] 68)) := (Below.refl _ _).alloc (Nat.le_refl _) _
          have hx4 := (hW34.block wr.heap.size hWs3).trans hx3
          have hWr4 : Below wr.heap.size wr (w3.alloc (.cells #[.slice none 0 0, .int .i64 12] 68)) := hWr3.trans (hW34.mono hWr3.size)
          have hys : w3.heap.size < (w3.alloc (.cells #[.slice none 0 0, .int .i64 12] 68)).heap.size := by simp
          generalize w3.alloc (.cells #[.slice none 0 0, .int .i64 12] 68) = w4 at *
          obtain ⟨yb, hyb⟩ : ∃ yb, w3.heap.size = yb := ⟨_, rfl⟩
          rw [hyb] at hy4 hys hWs3 ⊢
          have hwy : wr.heap.size ≤ yb := by omega
          clear hx3 hWr3 hW34 hyb
          have k0 : w4.cell? ⟨wr.heap.size, 0, none⟩ = some (.int .i64 1) := by rw [cell_of_row _ _ _ _ _ _ hx4]; rfl
          have k1 : w4.cell? ⟨wr.heap.size, 1, none⟩ = some (.string (str [])) := by rw [cell_of_row _ _ _ _ _ _ hx4]; rfl
          have k2 : w4.cell? ⟨wr.heap.size, 2, none⟩ = some (.int .u32 (m : Int)) := by rw [cell_of_row _ _ _ _ _ _ hx4]; rfl
          have hdec := qdec_any m (by omega) w4
          go_upto_region 14 with fail
          go_wp2_with fail
          with_reducible refine hdec.mono ?_
          clear hdec
          rintro e w5 ⟨rfl, hb5⟩
          have hy5 := (hb5.block yb hys).trans hy4
          have hWr5 : Below wr.heap.size wr w5 := hWr4.trans (hb5.mono hWr4.size)
          have hys5 : yb < w5.heap.size := Nat.lt_of_lt_of_le hys hb5.size
          clear k0 k1 k2 hx4 hb5 hWr4 hys hy4
          have c0 : w5.cell? ⟨yb, 0, none⟩ = some (.slice none 0 0) := (by rw [cell_of_row _ _ _ _ _ _ hy5]; rfl)
          have c1 : w5.cell? ⟨yb, 1, none⟩ = some (.int .i64 12) := (by rw [cell_of_row _ _ _ _ _ _ hy5]; rfl)
          have f0 : w5.frozen? ⟨yb, 0, none⟩ = false := (by simp [World.frozen?, hy5])
          have f1 : w5.frozen? ⟨yb, 1, none⟩ = false := (by simp [World.frozen?, hy5])
          go_upto_region 30 with fail
          have hBr7 : Below wr.heap.size wr ((w5.setCell ⟨yb, 0, none⟩ (.slice (some ⟨w5.heap.size, 0, none⟩) 1 1)).alloc (.cells #[.int .i64 2, .string (str (Lib.decDigits m))] 45)) := (hWr5.setCell (p := ⟨yb, 0, none⟩) hwy _).alloc (by rw [World.size_setCell]; exact hWr5.size) _
          have y0 : ((w5.setCell ⟨yb, 0, none⟩ (.slice (some ⟨w5.heap.size, 0, none⟩) 1 1)).alloc (.cells #[.int .i64 2, .string (str (Lib.decDigits m))] 45)).cell? ⟨yb, 0, none⟩ = some (.slice (some ⟨w5.heap.size, 0, none⟩) 1 1) := cell_alloc _ (by rw [World.size_setCell]; exact hys5) (World.cell?_setCell_same _ _ _ c0)
          have y1 : ((w5.setCell ⟨yb, 0, none⟩ (.slice (some ⟨w5.heap.size, 0, none⟩) 1 1)).alloc (.cells #[.int .i64 2, .string (str (Lib.decDigits m))] 45)).cell? ⟨yb, 1, none⟩ = some (.int .i64 12) := cell_alloc _ (by rw [World.size_setCell]; exact hys5) (by rw [World.cell?_setCell_other _ _ _ _ (by simp)]; exact c1)
          have hp7 : PtOk ((w5.setCell ⟨yb, 0, none⟩ (.slice (some ⟨w5.heap.size, 0, none⟩) 1 1)).alloc (.cells #[.int .i64 2, .string (str (Lib.decDigits m))] 45)) ⟨w5.heap.size, 0, 1, [⟨2, Lib.decDigits m⟩]⟩ := pt_new2 _ _ (by rw [World.size_setCell])
          generalize (w5.setCell ⟨yb, 0, none⟩ (.slice (some ⟨w5.heap.size, 0, none⟩) 1 1)).alloc (.cells #[.int .i64 2, .string (str (Lib.decDigits m))] 45) = w7 at *
          have hpg : wr.heap.size ≤ w5.heap.size := hWr5.size
          obtain ⟨p, hpe⟩ : ∃ p : Pt, p = ⟨w5.heap.size, 0, 1, [⟨2, Lib.decDigits m⟩]⟩ := ⟨_, rfl⟩
          have HU := Lib.hid (show p.ts = [⟨2, Lib.decDigits m⟩] by rw [hpe])
          rw [show w5.heap.size = p.g by rw [hpe]] at y0 hpg
          rw [← hpe] at hp7
          have y0' : w7.cell? ⟨yb, 0, none⟩ = some (.slice (some ⟨p.g, p.o, none⟩) p.ts.length p.c) := by rw [y0, hpe]; rfl
          clear y0 hpe c0 c1 f0 f1 hWr5 hys5 hy5
          have hs7 := owns_below hs hBr7
          have hb7 : Below w.heap.size w w7 := hb.trans (hBr7.mono hb.size)
          have hrow := hs.lt
          go_upto_region 31 with (at_builtin; refine wpList_append_lies _ (by rfl) _ _ 65 (by rfl) w.heap.size 68 i0 _ 2 32 Tryz.underlying65 hi0 hz0 hz1 hz2 rfl (by omega) (.slice none 0 0) (0) _ (by rfl) (hs7.alloc _) ⟨w7.heap.size, 0, none⟩ 1 1 [_, _] (by rfl) (by rfl) (World.news_of_block (cs := #[_, _]) (t := 68) (fr := (0, 0)) (heap_alloc_new w7 _)) (by simp [Value.oneCell']) (by omega) (by unfold maxLen; omega) (by omega) (by have := hb7.size; simp; omega) (w7.heap.size + 1) (by simp) ?_; intro gg cap3 w8 hs8 hgrow hat hlt8)
          have hb8 : Below w.heap.size w w8 := grown_own (hb7.alloc hb7.size _) hgrow (fun j hj => (hrow j hj).1)
          have hh8 := held_step (lv := 12) (n := 0 + 1) (c := cap3) HH.out (M := L) (fun q h => h) hBr7 (fun k h => (hrow k h).2) hp7 hpg hgrow hat
          rw [show plsOf L ++ [.slice (some ⟨p.g, p.o, none⟩) p.ts.length p.c, .int .i64 12] = plsOf (L ++ [(p, 12)]) by rw [plsOf_app]; rfl] at hs8
          have hmap : (L ++ [((p, 12) : Pl)]).map tp = (f.take (k + 1)).foldl Ex.qpstep [] := by
            rw [HST.out, List.map_append]
            have h1 : (p.ts, 12) = Ex.qpart ⟨1, [], (m : Int)⟩ (([] : List Pl).map tp) := by rw [HU.out]; rfl
            rw [← h1]; rfl
          have htt : Ex.tot ((L ++ [((p, 12) : Pl)]).map tp) ≤ 20 * (k + 1) := by
            have h1 := HTOT.out
            have h2 := HPL.out
            rw [hmap, HST.out, Ex.tot_app, show Ex.tot [Ex.qpart ⟨1, [], (m : Int)⟩ (([] : List Pl).map tp)] = (Ex.qpart ⟨1, [], (m : Int)⟩ (([] : List Pl).map tp)).1.length by simp [Ex.tot]]
            rw [show Ex.tot (([] : List Pl).map tp) = 0 from rfl] at h2
            omega
          have hl8 : (L ++ [((p, 12) : Pl)]).length = 0 + 1 := by rw [List.length_append, HNN.out]; rfl
          generalize L ++ [((p, 12) : Pl)] = L8 at *
          have hch8 : Ex.chk (L8.length : Nat) (f.drop (k + 1)) = 0 := by rw [hl8]; have h := HCK0.out; rwa [HNN.out] at h
          have hle8 : L8.length ≤ k + 1 := by omega
          clear hs7 hb7 hgrow hat hrow HST HCK0 HPL HTOT HH
          go_wp2_with fail
          go_roundw
          case rel => exact ⟨k + 1, L8, by omega, by go_num, hmap, hle8, hch8, htt, ⟨hh8.ok⟩, by rw [hl8]; exact hs8, hb8⟩
          case measure => simp [intOf]; omega
        · have hgl : g < wr.heap.size := (Array.getElem?_eq_some_iff.1 hgg).1
          by_cases hcap : cap = L.length
          · have HST := Lib.hid (show (f.take (k + 1)).foldl Ex.qpstep [] = L.map tp ++ [Ex.qpart ⟨1, [], (m : Int)⟩ (([] : List Pl).map tp)] from HN.out.trans (Ex.qpstep_zero _ _ (by rw [he0]; rfl)))
            have HPL := Lib.hid (Ex.qpart_len ⟨1, [], (m : Int)⟩ (([] : List Pl).map tp) HC.out.1 (by dsimp only; omega) (by rw [he0]; rfl))
            have HCK0 := Lib.hid (show Ex.chk ((L.length + 1 : Nat) : Int) (f.drop (k + 1)) = 0 by have h := HC.out.2.2; rw [he0] at h; rw [← h]; first | rfl | (congr 1; simp; done) | (congr 1; simp; omega))
            have hcall := qnd_any ⟨1, [], (m : Int)⟩ (by dsimp only; simp) (by dsimp only; omega) (by dsimp only; omega)
            rw [show Ex.nd ⟨1, [], (m : Int)⟩ = 0 from (if_pos HC.out.1).trans he0] at hcall
            clear HC he0 HN
            obtain ⟨N, hNe⟩ : ∃ N, L.length = N := ⟨_, rfl⟩
            rw [hNe] at hs hn1 hsl hcap ⊢
            have HNN := Lib.hid hNe
            clear hNe hgg htk hsz hB
            have hcap2 := hcap.symm
            clear hcap
            subst hcap2
            go_upto_region 8 with fail
            have hx0 := heap_alloc_new wr (.cells #[.int .i64 1, .string (str []), .int .u32 (m : Int)] 42)
            have hWr : Below wr.heap.size wr (wr.alloc (.cells #[.int .i64 1, .string (str []), .int .u32 (m : Int)] 42)) := (Below.refl _ _).alloc (Nat.le_refl _) _
            have hWs : wr.heap.size < (wr.alloc (.cells #[.int .i64 1, .string (str []), .int .u32 (m : Int)] 42)).heap.size := by simp
            generalize wr.alloc (.cells #[.int .i64 1, .string (str []), .int .u32 (m : Int)] 42) = W at *
            have k0 : W.cell? ⟨wr.heap.size, 0, none⟩ = some (.int .i64 1) := by rw [cell_of_row _ _ _ _ _ _ hx0]; rfl
            have k1 : W.cell? ⟨wr.heap.size, 1, none⟩ = some (.string (str [])) := by rw [cell_of_row _ _ _ _ _ _ hx0]; rfl
            have k2 : W.cell? ⟨wr.heap.size, 2, none⟩ = some (.int .u32 (m : Int)) := by rw [cell_of_row _ _ _ _ _ _ hx0]; rfl
            go_wp2_with fail
            with_reducible refine (hcall W).mono ?_
            clear hcall
            rintro e w2 ⟨rfl, hb2⟩
            have hx2 := (hb2.block wr.heap.size hWs).trans hx0
            have hWr2 : Below wr.heap.size wr w2 := hWr.trans (hb2.mono hWr.size)
            have hWs2 : wr.heap.size < w2.heap.size := Nat.lt_of_lt_of_le hWs hb2.size
            clear k0 k1 k2 hx0 hb2 hWr hWs
            go_upto_region 10 with fail
            have hB3 : Below w2.heap.size w2 (w2.alloc (.cells #[] 68)) := (Below.refl _ _).alloc (Nat.le_refl _) _
            generalize w2.alloc (.cells #[] 68) = w3 at *
            have hx3 := (hB3.block wr.heap.size hWs2).trans hx2
            have hWr3 : Below wr.heap.size wr w3 := hWr2.trans (hB3.mono hWr2.size)
            have hWs3 : wr.heap.size < w3.heap.size := Nat.lt_of_lt_of_le hWs2 hB3.size
            clear hWr2 hWs2 hx2 hB3
            go_upto_region 12 with fail
            have hy4 := heap_alloc_new w3 (.cells #[.slice none 0 0, .int .i64 12] 68)
            have hW34 : Below w3.heap.size w3 (w3.alloc (.cells #[.slice none 0 0, .int .i64 12] 68)) := (Below.refl _ _).alloc (Nat.le_refl _) _
            have hx4 := (hW34.block wr.heap.size hWs3).trans hx3
            have hWr4 : Below wr.heap.size wr (w3.alloc (.cells #[.slice none 0 0, .int .i64 12] 68)) := hWr3.trans (hW34.mono hWr3.size)
            have hys : w3.heap.size < (w3.alloc (.cells #[.slice none 0 0, .int .i64 12] 68)).heap.size := by simp
            generalize w3.alloc (.cells #[.slice none 0 0, .int .i64 12] 68) = w4 at *
            obtain ⟨yb, hyb⟩ : ∃ yb, w3.heap.size = yb := ⟨_, rfl⟩
            rw [hyb] at hy4 hys hWs3 ⊢
            have hwy : wr.heap.size ≤ yb := by omega
            clear hx3 hWr3 hW34 hyb
            have k0 : w4.cell? ⟨wr.heap.size, 0, none⟩ = some (.int .i64 1) := by rw [cell_of_row _ _ _ _ _ _ hx4]; rfl
            have k1 : w4.cell? ⟨wr.heap.size, 1, none⟩ = some (.string (str [])) := by rw [cell_of_row _ _ _ _ _ _ hx4]; rfl
            have k2 : w4.cell? ⟨wr.heap.size, 2, none⟩ = some (.int .u32 (m : Int)) := by rw [cell_of_row _ _ _ _ _ _ hx4]; rfl
            have hdec := qdec_any m (by omega) w4
            go_upto_region 14 with fail
            go_wp2_with fail
            with_reducible refine hdec.mono ?_
            clear hdec
            rintro e w5 ⟨rfl, hb5⟩
            have hy5 := (hb5.block yb hys).trans hy4
            have hWr5 : Below wr.heap.size wr w5 := hWr4.trans (hb5.mono hWr4.size)
            have hys5 : yb < w5.heap.size := Nat.lt_of_lt_of_le hys hb5.size
            clear k0 k1 k2 hx4 hb5 hWr4 hys hy4
            have c0 : w5.cell? ⟨yb, 0, none⟩ = some (.slice none 0 0) := (by rw [cell_of_row _ _ _ _ _ _ hy5]; rfl)
            have c1 : w5.cell? ⟨yb, 1, none⟩ = some (.int .i64 12) := (by rw [cell_of_row _ _ _ _ _ _ hy5]; rfl)
            have f0 : w5.frozen? ⟨yb, 0, none⟩ = false := (by simp [World.frozen?, hy5])
            have f1 : w5.frozen? ⟨yb, 1, none⟩ = false := (by simp [World.frozen?, hy5])
            go_upto_region 30 with fail
            have hBr7 : Below wr.heap.size wr ((w5.setCell ⟨yb, 0, none⟩ (.slice (some ⟨w5.heap.size, 0, none⟩) 1 1)).alloc (.cells #[.int .i64 2, .string (str (Lib.decDigits m))] 45)) := (hWr5.setCell (p := ⟨yb, 0, none⟩) hwy _).alloc (by rw [World.size_setCell]; exact hWr5.size) _
            have y0 : ((w5.setCell ⟨yb, 0, none⟩ (.slice (some ⟨w5.heap.size, 0, none⟩) 1 1)).alloc (.cells #[.int .i64 2, .string (str (Lib.decDigits m))] 45)).cell? ⟨yb, 0, none⟩ = some (.slice (some ⟨w5.heap.size, 0, none⟩) 1 1) := cell_alloc _ (by rw [World.size_setCell]; exact hys5) (World.cell?_setCell_same _ _ _ c0)
            have y1 : ((w5.setCell ⟨yb, 0, none⟩ (.slice (some ⟨w5.heap.size, 0, none⟩) 1 1)).alloc (.cells #[.int .i64 2, .string (str (Lib.decDigits m))] 45)).cell? ⟨yb, 1, none⟩ = some (.int .i64 12) := cell_alloc _ (by rw [World.size_setCell]; exact hys5) (by rw [World.cell?_setCell_other _ _ _ _ (by simp)]; exact c1)
            have hp7 : PtOk ((w5.setCell ⟨yb, 0, none⟩ (.slice (some ⟨w5.heap.size, 0, none⟩) 1 1)).alloc (.cells #[.int .i64 2, .string (str (Lib.decDigits m))] 45)) ⟨w5.heap.size, 0, 1, [⟨2, Lib.decDigits m⟩]⟩ := pt_new2 _ _ (by rw [World.size_setCell])
            generalize (w5.setCell ⟨yb, 0, none⟩ (.slice (some ⟨w5.heap.size, 0, none⟩) 1 1)).alloc (.cells #[.int .i64 2, .string (str (Lib.decDigits m))] 45) = w7 at *
            have hpg : wr.heap.size ≤ w5.heap.size := hWr5.size
            obtain ⟨p, hpe⟩ : ∃ p : Pt, p = ⟨w5.heap.size, 0, 1, [⟨2, Lib.decDigits m⟩]⟩ := ⟨_, rfl⟩
            have HU := Lib.hid (show p.ts = [⟨2, Lib.decDigits m⟩] by rw [hpe])
            rw [show w5.heap.size = p.g by rw [hpe]] at y0 hpg
            rw [← hpe] at hp7
            have y0' : w7.cell? ⟨yb, 0, none⟩ = some (.slice (some ⟨p.g, p.o, none⟩) p.ts.length p.c) := by rw [y0, hpe]; rfl
            clear y0 hpe c0 c1 f0 f1 hWr5 hys5 hy5
            have hs7 := owns_below hs hBr7
            have hb7 : Below w.heap.size w w7 := hb.trans (hBr7.mono hb.size)
            have hrow := hs.lt
            go_upto_region 31 with (at_builtin; refine wpList_append_lies _ (by rfl) _ _ 65 (by rfl) w.heap.size 68 i0 _ 2 32 Tryz.underlying65 hi0 hz0 hz1 hz2 rfl (by omega) (.slice (some ⟨g, 0, none⟩) N N) (N) _ (by rfl) (hs7.alloc _) ⟨w7.heap.size, 0, none⟩ 1 1 [_, _] (by rfl) (by rfl) (World.news_of_block (cs := #[_, _]) (t := 68) (fr := (0, 0)) (heap_alloc_new w7 _)) (by simp [Value.oneCell']) (by omega) (by unfold maxLen; omega) (by omega) (by have := hb7.size; simp; omega) (w7.heap.size + 1) (by simp) ?_; intro gg cap3 w8 hs8 hgrow hat hlt8)
            have hb8 : Below w.heap.size w w8 := grown_own (hb7.alloc hb7.size _) hgrow (fun j hj => (hrow j hj).1)
            have hh8 := held_step (lv := 12) (n := N + 1) (c := cap3) HH.out (M := L) (fun q h => h) hBr7 (fun k h => (hrow k h).2) hp7 hpg hgrow hat
            rw [show plsOf L ++ [.slice (some ⟨p.g, p.o, none⟩) p.ts.length p.c, .int .i64 12] = plsOf (L ++ [(p, 12)]) by rw [plsOf_app]; rfl] at hs8
            have hmap : (L ++ [((p, 12) : Pl)]).map tp = (f.take (k + 1)).foldl Ex.qpstep [] := by
              rw [HST.out, List.map_append]
              have h1 : (p.ts, 12) = Ex.qpart ⟨1, [], (m : Int)⟩ (([] : List Pl).map tp) := by rw [HU.out]; rfl
              rw [← h1]; rfl
            have htt : Ex.tot ((L ++ [((p, 12) : Pl)]).map tp) ≤ 20 * (k + 1) := by
              have h1 := HTOT.out
              have h2 := HPL.out
              rw [hmap, HST.out, Ex.tot_app, show Ex.tot [Ex.qpart ⟨1, [], (m : Int)⟩ (([] : List Pl).map tp)] = (Ex.qpart ⟨1, [], (m : Int)⟩ (([] : List Pl).map tp)).1.length by simp [Ex.tot]]
              rw [show Ex.tot (([] : List Pl).map tp) = 0 from rfl] at h2
              omega
            have hl8 : (L ++ [((p, 12) : Pl)]).length = N + 1 := by rw [List.length_append, HNN.out]; rfl
            generalize L ++ [((p, 12) : Pl)] = L8 at *
            have hch8 : Ex.chk (L8.length : Nat) (f.drop (k + 1)) = 0 := by rw [hl8]; have h := HCK0.out; rwa [HNN.out] at h
            have hle8 : L8.length ≤ k + 1 := by omega
            clear hs7 hb7 hgrow hat hrow HST HCK0 HPL HTOT HH
            go_wp2_with fail
            go_roundw
            case rel => exact ⟨k + 1, L8, by omega, by go_num, hmap, hle8, hch8, htt, ⟨hh8.ok⟩, by rw [hl8]; exact hs8, hb8⟩
            case measure => simp [intOf]; omega
          · have HST := Lib.hid (show (f.take (k + 1)).foldl Ex.qpstep [] = L.map tp ++ [Ex.qpart ⟨1, [], (m : Int)⟩ (([] : List Pl).map tp)] from HN.out.trans (Ex.qpstep_zero _ _ (by rw [he0]; rfl)))
            have HPL := Lib.hid (Ex.qpart_len ⟨1, [], (m : Int)⟩ (([] : List Pl).map tp) HC.out.1 (by dsimp only; omega) (by rw [he0]; rfl))
            have HCK0 := Lib.hid (show Ex.chk ((L.length + 1 : Nat) : Int) (f.drop (k + 1)) = 0 by have h := HC.out.2.2; rw [he0] at h; rw [← h]; first | rfl | (congr 1; simp; done) | (congr 1; simp; omega))
            have hcall := qnd_any ⟨1, [], (m : Int)⟩ (by dsimp only; simp) (by dsimp only; omega) (by dsimp only; omega)
            rw [show Ex.nd ⟨1, [], (m : Int)⟩ = 0 from (if_pos HC.out.1).trans he0] at hcall
            clear HC he0 HN
            obtain ⟨N, hNe⟩ : ∃ N, L.length = N := ⟨_, rfl⟩
            rw [hNe] at hs hn1 hsl hcap ⊢
            have HNN := Lib.hid hNe
            clear hNe hgg htk hsz hB
            go_upto_region 8 with fail
            have hx0 := heap_alloc_new wr (.cells #[.int .i64 1, .string (str []), .int .u32 (m : Int)] 42)
            have hWr : Below wr.heap.size wr (wr.alloc (.cells #[.int .i64 1, .string (str []), .int .u32 (m : Int)] 42)) := (Below.refl _ _).alloc (Nat.le_refl _) _
            have hWs : wr.heap.size < (wr.alloc (.cells #[.int .i64 1, .string (str []), .int .u32 (m : Int)] 42)).heap.size := by simp
            generalize wr.alloc (.cells #[.int .i64 1, .string (str []), .int .u32 (m : Int)] 42) = W at *
            have k0 : W.cell? ⟨wr.heap.size, 0, none⟩ = some (.int .i64 1) := by rw [cell_of_row _ _ _ _ _ _ hx0]; rfl
            have k1 : W.cell? ⟨wr.heap.size, 1, none⟩ = some (.string (str [])) := by rw [cell_of_row _ _ _ _ _ _ hx0]; rfl
            have k2 : W.cell? ⟨wr.heap.size, 2, none⟩ = some (.int .u32 (m : Int)) := by rw [cell_of_row _ _ _ _ _ _ hx0]; rfl
            go_wp2_with fail
            with_reducible refine (hcall W).mono ?_
            clear hcall
            rintro e w2 ⟨rfl, hb2⟩
            have hx2 := (hb2.block wr.heap.size hWs).trans hx0
            have hWr2 : Below wr.heap.size wr w2 := hWr.trans (hb2.mono hWr.size)
            have hWs2 : wr.heap.size < w2.heap.size := Nat.lt_of_lt_of_le hWs hb2.size
            clear k0 k1 k2 hx0 hb2 hWr hWs
            go_upto_region 10 with fail
            have hB3 : Below w2.heap.size w2 (w2.alloc (.cells #[] 68)) := (Below.refl _ _).alloc (Nat.le_refl _) _
            generalize w2.alloc (.cells #[] 68) = w3 at *
            have hx3 := (hB3.block wr.heap.size hWs2).trans hx2
            have hWr3 : Below wr.heap.size wr w3 := hWr2.trans (hB3.mono hWr2.size)
            have hWs3 : wr.heap.size < w3.heap.size := Nat.lt_of_lt_of_le hWs2 hB3.size
            clear hWr2 hWs2 hx2 hB3
            go_upto_region 12 with fail
            have hy4 := heap_alloc_new w3 (.cells #[.slice none 0 0, .int .i64 12] 68)
            have hW34 : Below w3.heap.size w3 (w3.alloc (.cells #[.slice none 0 0, .int .i64 12] 68)) := (Below.refl _ _).alloc (Nat.le_refl _) _
            have hx4 := (hW34.block wr.heap.size hWs3).trans hx3
            have hWr4 : Below wr.heap.size wr (w3.alloc (.cells #[.slice none 0 0, .int .i64 12] 68)) := hWr3.trans (hW34.mono hWr3.size)
            have hys : w3.heap.size < (w3.alloc (.cells #[.slice none 0 0, .int .i64 12] 68)).heap.size := by simp
            generalize w3.alloc (.cells #[.slice none 0 0, .int .i64 12] 68) = w4 at *
            obtain ⟨yb, hyb⟩ : ∃ yb, w3.heap.size = yb := ⟨_, rfl⟩
            rw [hyb] at hy4 hys hWs3 ⊢
            have hwy : wr.heap.size ≤ yb := by omega
            clear hx3 hWr3 hW34 hyb
            have k0 : w4.cell? ⟨wr.heap.size, 0, none⟩ = some (.int .i64 1) := by rw [cell_of_row _ _ _ _ _ _ hx4]; rfl
            have k1 : w4.cell? ⟨wr.heap.size, 1, none⟩ = some (.string (str [])) := by rw [cell_of_row _ _ _ _ _ _ hx4]; rfl
            have k2 : w4.cell? ⟨wr.heap.size, 2, none⟩ = some (.int .u32 (m : Int)) := by rw [cell_of_row _ _ _ _ _ _ hx4]; rfl
            have hdec := qdec_any m (by omega) w4
            go_upto_region 14 with fail
            go_wp2_with fail
            with_reducible refine hdec.mono ?_
            clear hdec
            rintro e w5 ⟨rfl, hb5⟩
            have hy5 := (hb5.block yb hys).trans hy4
            have hWr5 : Below wr.heap.size wr w5 := hWr4.trans (hb5.mono hWr4.size)
            have hys5 : yb < w5.heap.size := Nat.lt_of_lt_of_le hys hb5.size
            clear k0 k1 k2 hx4 hb5 hWr4 hys hy4
            have c0 : w5.cell? ⟨yb, 0, none⟩ = some (.slice none 0 0) := (by rw [cell_of_row _ _ _ _ _ _ hy5]; rfl)
            have c1 : w5.cell? ⟨yb, 1, none⟩ = some (.int .i64 12) := (by rw [cell_of_row _ _ _ _ _ _ hy5]; rfl)
            have f0 : w5.frozen? ⟨yb, 0, none⟩ = false := (by simp [World.frozen?, hy5])
            have f1 : w5.frozen? ⟨yb, 1, none⟩ = false := (by simp [World.frozen?, hy5])
            go_upto_region 30 with fail
            have hBr7 : Below wr.heap.size wr ((w5.setCell ⟨yb, 0, none⟩ (.slice (some ⟨w5.heap.size, 0, none⟩) 1 1)).alloc (.cells #[.int .i64 2, .string (str (Lib.decDigits m))] 45)) := (hWr5.setCell (p := ⟨yb, 0, none⟩) hwy _).alloc (by rw [World.size_setCell]; exact hWr5.size) _
            have y0 : ((w5.setCell ⟨yb, 0, none⟩ (.slice (some ⟨w5.heap.size, 0, none⟩) 1 1)).alloc (.cells #[.int .i64 2, .string (str (Lib.decDigits m))] 45)).cell? ⟨yb, 0, none⟩ = some (.slice (some ⟨w5.heap.size, 0, none⟩) 1 1) := cell_alloc _ (by rw [World.size_setCell]; exact hys5) (World.cell?_setCell_same _ _ _ c0)
            have y1 : ((w5.setCell ⟨yb, 0, none⟩ (.slice (some ⟨w5.heap.size, 0, none⟩) 1 1)).alloc (.cells #[.int .i64 2, .string (str (Lib.decDigits m))] 45)).cell? ⟨yb, 1, none⟩ = some (.int .i64 12) := cell_alloc _ (by rw [World.size_setCell]; exact hys5) (by rw [World.cell?_setCell_other _ _ _ _ (by simp)]; exact c1)
            have hp7 : PtOk ((w5.setCell ⟨yb, 0, none⟩ (.slice (some ⟨w5.heap.size, 0, none⟩) 1 1)).alloc (.cells #[.int .i64 2, .string (str (Lib.decDigits m))] 45)) ⟨w5.heap.size, 0, 1, [⟨2, Lib.decDigits m⟩]⟩ := pt_new2 _ _ (by rw [World.size_setCell])
            generalize (w5.setCell ⟨yb, 0, none⟩ (.slice (some ⟨w5.heap.size, 0, none⟩) 1 1)).alloc (.cells #[.int .i64 2, .string (str (Lib.decDigits m))] 45) = w7 at *
            have hpg : wr.heap.size ≤ w5.heap.size := hWr5.size
            obtain ⟨p, hpe⟩ : ∃ p : Pt, p = ⟨w5.heap.size, 0, 1, [⟨2, Lib.decDigits m⟩]⟩ := ⟨_, rfl⟩
            have HU := Lib.hid (show p.ts = [⟨2, Lib.decDigits m⟩] by rw [hpe])
            rw [show w5.heap.size = p.g by rw [hpe]] at y0 hpg
            rw [← hpe] at hp7
            have y0' : w7.cell? ⟨yb, 0, none⟩ = some (.slice (some ⟨p.g, p.o, none⟩) p.ts.length p.c) := by rw [y0, hpe]; rfl
            clear y0 hpe c0 c1 f0 f1 hWr5 hys5 hy5
            have hs7 := owns_below hs hBr7
            have hb7 : Below w.heap.size w w7 := hb.trans (hBr7.mono hb.size)
            have hrow := hs.lt
            go_upto_region 31 with (at_builtin; refine wpList_append_lies _ (by rfl) _ _ 65 (by rfl) w.heap.size 68 i0 _ 2 32 Tryz.underlying65 hi0 hz0 hz1 hz2 rfl (by omega) (.slice (some ⟨g, 0, none⟩) N cap) (N) _ (by rfl) (hs7.alloc _) ⟨w7.heap.size, 0, none⟩ 1 1 [_, _] (by rfl) (by rfl) (World.news_of_block (cs := #[_, _]) (t := 68) (fr := (0, 0)) (heap_alloc_new w7 _)) (by simp [Value.oneCell']) (by omega) (by unfold maxLen; omega) (by omega) (by have := hb7.size; simp; omega) (w7.heap.size + 1) (by simp) ?_; intro gg cap3 w8 hs8 hgrow hat hlt8)
            have hb8 : Below w.heap.size w w8 := grown_own (hb7.alloc hb7.size _) hgrow (fun j hj => (hrow j hj).1)
            have hh8 := held_step (lv := 12) (n := N + 1) (c := cap3) HH.out (M := L) (fun q h => h) hBr7 (fun k h => (hrow k h).2) hp7 hpg hgrow hat
            rw [show plsOf L ++ [.slice (some ⟨p.g, p.o, none⟩) p.ts.length p.c, .int .i64 12] = plsOf (L ++ [(p, 12)]) by rw [plsOf_app]; rfl] at hs8
            have hmap : (L ++ [((p, 12) : Pl)]).map tp = (f.take (k + 1)).foldl Ex.qpstep [] := by
              rw [HST.out, List.map_append]
              have h1 : (p.ts, 12) = Ex.qpart ⟨1, [], (m : Int)⟩ (([] : List Pl).map tp) := by rw [HU.out]; rfl
              rw [← h1]; rfl
            have htt : Ex.tot ((L ++ [((p, 12) : Pl)]).map tp) ≤ 20 * (k + 1) := by
              have h1 := HTOT.out
              have h2 := HPL.out
              rw [hmap, HST.out, Ex.tot_app, show Ex.tot [Ex.qpart ⟨1, [], (m : Int)⟩ (([] : List Pl).map tp)] = (Ex.qpart ⟨1, [], (m : Int)⟩ (([] : List Pl).map tp)).1.length by simp [Ex.tot]]
              rw [show Ex.tot (([] : List Pl).map tp) = 0 from rfl] at h2
              omega
            have hl8 : (L ++ [((p, 12) : Pl)]).length = N + 1 := by rw [List.length_append, HNN.out]; rfl
            generalize L ++ [((p, 12) : Pl)] = L8 at *
            have hch8 : Ex.chk (L8.length : Nat) (f.drop (k + 1)) = 0 := by rw [hl8]; have h := HCK0.out; rwa [HNN.out] at h
            have hle8 : L8.length ≤ k + 1 := by omega
            clear hs7 hb7 hgrow hat hrow HST HCK0 HPL HTOT HH
            go_wp2_with fail
            go_roundw
            case rel => exact ⟨k + 1, L8, by omega, by go_num, hmap, hle8, hch8, htt, ⟨hh8.ok⟩, by rw [hl8]; exact hs8, hb8⟩
            case measure => simp [intOf]; omega
      · dsimp only at hLo hLt hd0 hd1 hd2
        clear ht
        rcases hs.2 with ⟨rfl, hz⟩ | ⟨g, cap, cur, rfl, hB, hgg, hn1, hn2, hsz, htk⟩
        · have HST := Lib.hid (show (f.take (k + 1)).foldl Ex.qpstep [] = L.map tp ++ [Ex.qpart ⟨2, t, 0⟩ (([] : List Pl).map tp)] from HN.out.trans (Ex.qpstep_zero _ _ (by rw [he0]; rfl)))
          have HPL := Lib.hid (Ex.qpart_len ⟨2, t, 0⟩ (([] : List Pl).map tp) HC.out.1 (by dsimp only; omega) (by rw [he0]; rfl))
          have HCK0 := Lib.hid (show Ex.chk ((L.length + 1 : Nat) : Int) (f.drop (k + 1)) = 0 by have h := HC.out.2.2; rw [he0] at h; rw [← h]; first | rfl | (congr 1; simp; done) | (congr 1; simp; omega))
          have hcall := qnd_any ⟨2, t, 0⟩ (by dsimp only; exact hLt) (by dsimp only; omega) (by dsimp only; omega)
          rw [show Ex.nd ⟨2, t, 0⟩ = 0 from (if_pos HC.out.1).trans he0] at hcall
          clear HC he0 HN
          rw [hz] at hs hsl
          have HNN := Lib.hid hz
          clear hz
          go_upto_region 8 with fail
          have hx0 := heap_alloc_new wr (.cells #[.int .i64 2, .string (str t), .int .u32 0] 42)
          have hWr : Below wr.heap.size wr (wr.alloc (.cells #[.int .i64 2, .string (str t), .int .u32 0] 42)) := (Below.refl _ _).alloc (Nat.le_refl _) _
          have hWs : wr.heap.size < (wr.alloc (.cells #[.int .i64 2, .string (str t), .int .u32 0] 42)).heap.size := by simp
          generalize wr.alloc (.cells #[.int .i64 2, .string (str t), .int .u32 0] 42) = W at *
          have k0 : W.cell? ⟨wr.heap.size, 0, none⟩ = some (.int .i64 2) := by rw [cell_of_row _ _ _ _ _ _ hx0]; rfl
          have k1 : W.cell? ⟨wr.heap.size, 1, none⟩ = some (.string (str t)) := by rw [cell_of_row _ _ _ _ _ _ hx0]; rfl
          have k2 : W.cell? ⟨wr.heap.size, 2, none⟩ = some (.int .u32 0) := by rw [cell_of_row _ _ _ _ _ _ hx0]; rfl
          go_wp2_with fail
          with_reducible refine (hcall W).mono ?_
          clear hcall
          rintro e w2 ⟨rfl, hb2⟩
          have hx2 := (hb2.block wr.heap.size hWs).trans hx0
          have hWr2 : Below wr.heap.size wr w2 := hWr.trans (hb2.mono hWr.size)
          have hWs2 : wr.heap.size < w2.heap.size := Nat.lt_of_lt_of_le hWs hb2.size
          clear k0 k1 k2 hx0 hb2 hWr hWs
          go_upto_region 10 with fail
          have hB3 : Below w2.heap.size w2 (w2.alloc (.cells #[] 68)) := (Below.refl _ _).alloc (Nat.le_refl _) _
          generalize w2.alloc (.cells #[] 68) = w3 at *
          have hx3 := (hB3.block wr.heap.size hWs2).trans hx2
          have hWr3 : Below wr.heap.size wr w3 := hWr2.trans (hB3.mono hWr2.size)
          have hWs3 : wr.heap.size < w3.heap.size := Nat.lt_of_lt_of_le hWs2 hB3.size
          clear hWr2 hWs2 hx2 hB3
          go_upto_region 12 with fail
          have hy4 := heap_alloc_new w3 (.cells #[.slice none 0 0, .int .i64 12] 68)
          have hW34 : Below w3.heap.size w3 (w3.alloc (.cells #[.slice none 0 0, .int .i64 12] 68)) := (Below.refl _ _).alloc (Nat.le_refl _) _
          have hx4 := (hW34.block wr.heap.size hWs3).trans hx3
          have hWr4 : Below wr.heap.size wr (w3.alloc (.cells #[.slice none 0 0, .int .i64 12] 68)) := hWr3.trans (hW34.mono hWr3.size)
          have hys : w3.heap.size < (w3.alloc (.cells #[.slice none 0 0, .int .i64 12] 68)).heap.size := by simp
          generalize w3.alloc (.cells #[.slice none 0 0, .int .i64 12] 68) = w4 at *
          obtain ⟨yb, hyb⟩ : ∃ yb, w3.heap.size = yb := ⟨_, rfl⟩
          rw [hyb] at hy4 hys hWs3 ⊢
          have hwy : wr.heap.size ≤ yb := by omega
          clear hx3 hWr3 hW34 hyb
          have k0 : w4.cell? ⟨wr.heap.size, 0, none⟩ = some (.int .i64 2) := by rw [cell_of_row _ _ _ _ _ _ hx4]; rfl
          have k1 : w4.cell? ⟨wr.heap.size, 1, none⟩ = some (.string (str t)) := by rw [cell_of_row _ _ _ _ _ _ hx4]; rfl
          have k2 : w4.cell? ⟨wr.heap.size, 2, none⟩ = some (.int .u32 0) := by rw [cell_of_row _ _ _ _ _ _ hx4]; rfl
          have hy5 := hy4
          have hWr5 := hWr4
          have hys5 := hys
          clear hy4 hWr4 hys
          have c0 : w4.cell? ⟨yb, 0, none⟩ = some (.slice none 0 0) := (by rw [cell_of_row _ _ _ _ _ _ hy5]; rfl)
          have c1 : w4.cell? ⟨yb, 1, none⟩ = some (.int .i64 12) := (by rw [cell_of_row _ _ _ _ _ _ hy5]; rfl)
          have f0 : w4.frozen? ⟨yb, 0, none⟩ = false := (by simp [World.frozen?, hy5])
          have f1 : w4.frozen? ⟨yb, 1, none⟩ = false := (by simp [World.frozen?, hy5])
          go_upto_region 30 with fail
          have hBr7 : Below wr.heap.size wr ((w4.setCell ⟨yb, 0, none⟩ (.slice (some ⟨w4.heap.size, 0, none⟩) 1 1)).alloc (.cells #[.int .i64 1, .string (str t)] 45)) := (hWr5.setCell (p := ⟨yb, 0, none⟩) hwy _).alloc (by rw [World.size_setCell]; exact hWr5.size) _
          have y0 : ((w4.setCell ⟨yb, 0, none⟩ (.slice (some ⟨w4.heap.size, 0, none⟩) 1 1)).alloc (.cells #[.int .i64 1, .string (str t)] 45)).cell? ⟨yb, 0, none⟩ = some (.slice (some ⟨w4.heap.size, 0, none⟩) 1 1) := cell_alloc _ (by rw [World.size_setCell]; exact hys5) (World.cell?_setCell_same _ _ _ c0)
          have y1 : ((w4.setCell ⟨yb, 0, none⟩ (.slice (some ⟨w4.heap.size, 0, none⟩) 1 1)).alloc (.cells #[.int .i64 1, .string (str t)] 45)).cell? ⟨yb, 1, none⟩ = some (.int .i64 12) := cell_alloc _ (by rw [World.size_setCell]; exact hys5) (by rw [World.cell?_setCell_other _ _ _ _ (by simp)]; exact c1)
          have hp7 : PtOk ((w4.setCell ⟨yb, 0, none⟩ (.slice (some ⟨w4.heap.size, 0, none⟩) 1 1)).alloc (.cells #[.int .i64 1, .string (str t)] 45)) ⟨w4.heap.size, 0, 1, [⟨1, t⟩]⟩ := pt_new2 _ _ (by rw [World.size_setCell])
          generalize (w4.setCell ⟨yb, 0, none⟩ (.slice (some ⟨w4.heap.size, 0, none⟩) 1 1)).alloc (.cells #[.int .i64 1, .string (str t)] 45) = w7 at *
          have hpg : wr.heap.size ≤ w4.heap.size := hWr5.size
          obtain ⟨p, hpe⟩ : ∃ p : Pt, p = ⟨w4.heap.size, 0, 1, [⟨1, t⟩]⟩ := ⟨_, rfl⟩
          have HU := Lib.hid (show p.ts = [⟨1, t⟩] by rw [hpe])
          rw [show w4.heap.size = p.g by rw [hpe]] at y0 hpg
          rw [← hpe] at hp7
          have y0' : w7.cell? ⟨yb, 0, none⟩ = some (.slice (some ⟨p.g, p.o, none⟩) p.ts.length p.c) := by rw [y0, hpe]; rfl
          clear y0 hpe c0 c1 f0 f1 hWr5 hys5 hy5
          have hs7 := owns_below hs hBr7
          have hb7 : Below w.heap.size w w7 := hb.trans (hBr7.mono hb.size)
          have hrow := hs.lt
          go_upto_region 31 with (at_builtin; refine wpList_append_lies _ (by rfl) _ _ 65 (by rfl) w.heap.size 68 i0 _ 2 32 Tryz.underlying65 hi0 hz0 hz1 hz2 rfl (by omega) (.slice none 0 0) (0) _ (by rfl) (hs7.alloc _) ⟨w7.heap.size, 0, none⟩ 1 1 [_, _] (by rfl) (by rfl) (World.news_of_block (cs := #[_, _]) (t := 68) (fr := (0, 0)) (heap_alloc_new w7 _)) (by simp [Value.oneCell']) (by omega) (by unfold maxLen; omega) (by omega) (by have := hb7.size; simp; omega) (w7.heap.size + 1) (by simp) ?_; intro gg cap3 w8 hs8 hgrow hat hlt8)
          have hb8 : Below w.heap.size w w8 := grown_own (hb7.alloc hb7.size _) hgrow (fun j hj => (hrow j hj).1)
          have hh8 := held_step (lv := 12) (n := 0 + 1) (c := cap3) HH.out (M := L) (fun q h => h) hBr7 (fun k h => (hrow k h).2) hp7 hpg hgrow hat
          rw [show plsOf L ++ [.slice (some ⟨p.g, p.o, none⟩) p.ts.length p.c, .int .i64 12] = plsOf (L ++ [(p, 12)]) by rw [plsOf_app]; rfl] at hs8
          have hmap : (L ++ [((p, 12) : Pl)]).map tp = (f.take (k + 1)).foldl Ex.qpstep [] := by
            rw [HST.out, List.map_append]
            have h1 : (p.ts, 12) = Ex.qpart ⟨2, t, 0⟩ (([] : List Pl).map tp) := by rw [HU.out]; rfl
            rw [← h1]; rfl
          have htt : Ex.tot ((L ++ [((p, 12) : Pl)]).map tp) ≤ 20 * (k + 1) := by
            have h1 := HTOT.out
            have h2 := HPL.out
            rw [hmap, HST.out, Ex.tot_app, show Ex.tot [Ex.qpart ⟨2, t, 0⟩ (([] : List Pl).map tp)] = (Ex.qpart ⟨2, t, 0⟩ (([] : List Pl).map tp)).1.length by simp [Ex.tot]]
            rw [show Ex.tot (([] : List Pl).map tp) = 0 from rfl] at h2
            omega
          have hl8 : (L ++ [((p, 12) : Pl)]).length = 0 + 1 := by rw [List.length_append, HNN.out]; rfl
          generalize L ++ [((p, 12) : Pl)] = L8 at *
          have hch8 : Ex.chk (L8.length : Nat) (f.drop (k + 1)) = 0 := by rw [hl8]; have h := HCK0.out; rwa [HNN.out] at h
          have hle8 : L8.length ≤ k + 1 := by omega
          clear hs7 hb7 hgrow hat hrow HST HCK0 HPL HTOT HH
          go_wp2_with fail
          go_roundw
          case rel => exact ⟨k + 1, L8, by omega, by go_num, hmap, hle8, hch8, htt, ⟨hh8.ok⟩, by rw [hl8]; exact hs8, hb8⟩
          case measure => simp [intOf]; omega
        · have hgl : g < wr.heap.size := (Array.getElem?_eq_some_iff.1 hgg).1
          by_cases hcap : cap = L.length
          · have HST := Lib.hid (show (f.take (k + 1)).foldl Ex.qpstep [] = L.map tp ++ [Ex.qpart ⟨2, t, 0⟩ (([] : List Pl).map tp)] from HN.out.trans (Ex.qpstep_zero _ _ (by rw [he0]; rfl)))
            have HPL := Lib.hid (Ex.qpart_len ⟨2, t, 0⟩ (([] : List Pl).map tp) HC.out.1 (by dsimp only; omega) (by rw [he0]; rfl))
            have HCK0 := Lib.hid (show Ex.chk ((L.length + 1 : Nat) : Int) (f.drop (k + 1)) = 0 by have h := HC.out.2.2; rw [he0] at h; rw [← h]; first | rfl | (congr 1; simp; done) | (congr 1; simp; omega))
            have hcall := qnd_any ⟨2, t, 0⟩ (by dsimp only; exact hLt) (by dsimp only; omega) (by dsimp only; omega)
            rw [show Ex.nd ⟨2, t, 0⟩ = 0 from (if_pos HC.out.1).trans he0] at hcall
            clear HC he0 HN
            obtain ⟨N, hNe⟩ : ∃ N, L.length = N := ⟨_, rfl⟩
            rw [hNe] at hs hn1 hsl hcap ⊢
            have HNN := Lib.hid hNe
            clear hNe hgg htk hsz hB
            have hcap2 := hcap.symm
            clear hcap
            subst hcap2
            go_upto_region 8 with fail
            have hx0 := heap_alloc_new wr (.cells #[.int .i64 2, .string (str t), .int .u32 0] 42)
            have hWr : Below wr.heap.size wr (wr.alloc (.cells #[.int .i64 2, .string (str t), .int .u32 0] 42)) := (Below.refl _ _).alloc (Nat.le_refl _) _
            have hWs : wr.heap.size < (wr.alloc (.cells #[.int .i64 2, .string (str t), .int .u32 0] 42)).heap.size := by simp
            generalize wr.alloc (.cells #[.int .i64 2, .string (str t), .int .u32 0] 42) = W at *
            have k0 : W.cell? ⟨wr.heap.size, 0, none⟩ = some (.int .i64 2) := by rw [cell_of_row _ _ _ _ _ _ hx0]; rfl
            have k1 : W.cell? ⟨wr.heap.size, 1, none⟩ = some (.string (str t)) := by rw [cell_of_row _ _ _ _ _ _ hx0]; rfl
            have k2 : W.cell? ⟨wr.heap.size, 2, none⟩ = some (.int .u32 0) := by rw [cell_of_row _ _ _ _ _ _ hx0]; rfl
            go_wp2_with fail
            with_reducible refine (hcall W).mono ?_
            clear hcall
            rintro e w2 ⟨rfl, hb2⟩
            have hx2 := (hb2.block wr.heap.size hWs).trans hx0
            have hWr2 : Below wr.heap.size wr w2 := hWr.trans (hb2.mono hWr.size)
            have hWs2 : wr.heap.size < w2.heap.size := Nat.lt_of_lt_of_le hWs hb2.size
            clear k0 k1 k2 hx0 hb2 hWr hWs
            go_upto_region 10 with fail
            have hB3 : Below w2.heap.size w2 (w2.alloc (.cells #[] 68)) := (Below.refl _ _).alloc (Nat.le_refl _) _
            generalize w2.alloc (.cells #[] 68) = w3 at *
            have hx3 := (hB3.block wr.heap.size hWs2).trans hx2
            have hWr3 : Below wr.heap.size wr w3 := hWr2.trans (hB3.mono hWr2.size)
            have hWs3 : wr.heap.size < w3.heap.size := Nat.lt_of_lt_of_le hWs2 hB3.size
            clear hWr2 hWs2 hx2 hB3
            go_upto_region 12 with fail
            have hy4 := heap_alloc_new w3 (.cells #[.slice none 0 0, .int .i64 12] 68)
            have hW34 : Below w3.heap.size w3 (w3.alloc (.cells #[.slice none 0 0, .int .i64 12] 68)) := (Below.refl _ _).alloc (Nat.le_refl _) _
            have hx4 := (hW34.block wr.heap.size hWs3).trans hx3
            have hWr4 : Below wr.heap.size wr (w3.alloc (.cells #[.slice none 0 0, .int .i64 12] 68)) := hWr3.trans (hW34.mono hWr3.size)
            have hys : w3.heap.size < (w3.alloc (.cells #[.slice none 0 0, .int .i64 12] 68)).heap.size := by simp
            generalize w3.alloc (.cells #[.slice none 0 0, .int .i64 12] 68) = w4 at *
            obtain ⟨yb, hyb⟩ : ∃ yb, w3.heap.size = yb := ⟨_, rfl⟩
            rw [hyb] at hy4 hys hWs3 ⊢
            have hwy : wr.heap.size ≤ yb := by omega
            clear hx3 hWr3 hW34 hyb
            have k0 : w4.cell? ⟨wr.heap.size, 0, none⟩ = some (.int .i64 2) := by rw [cell_of_row _ _ _ _ _ _ hx4]; rfl
            have k1 : w4.cell? ⟨wr.heap.size, 1, none⟩ = some (.string (str t)) := by rw [cell_of_row _ _ _ _ _ _ hx4]; rfl
            have k2 : w4.cell? ⟨wr.heap.size, 2, none⟩ = some (.int .u32 0) := by rw [cell_of_row _ _ _ _ _ _ hx4]; rfl
            have hy5 := hy4
            have hWr5 := hWr4
            have hys5 := hys
            clear hy4 hWr4 hys
            have c0 : w4.cell? ⟨yb, 0, none⟩ = some (.slice none 0 0) := (by rw [cell_of_row _ _ _ _ _ _ hy5]; rfl)
            have c1 : w4.cell? ⟨yb, 1, none⟩ = some (.int .i64 12) := (by rw [cell_of_row _ _ _ _ _ _ hy5]; rfl)
            have f0 : w4.frozen? ⟨yb, 0, none⟩ = false := (by simp [World.frozen?, hy5])
            have f1 : w4.frozen? ⟨yb, 1, none⟩ = false := (by simp [World.frozen?, hy5])
            go_upto_region 30 with fail
            have hBr7 : Below wr.heap.size wr ((w4.setCell ⟨yb, 0, none⟩ (.slice (some ⟨w4.heap.size, 0, none⟩) 1 1)).alloc (.cells #[.int .i64 1, .string (str t)] 45)) := (hWr5.setCell (p := ⟨yb, 0, none⟩) hwy _).alloc (by rw [World.size_setCell]; exact hWr5.size) _
            have y0 : ((w4.setCell ⟨yb, 0, none⟩ (.slice (some ⟨w4.heap.size, 0, none⟩) 1 1)).alloc (.cells #[.int .i64 1, .string (str t)] 45)).cell? ⟨yb, 0, none⟩ = some (.slice (some ⟨w4.heap.size, 0, none⟩) 1 1) := cell_alloc _ (by rw [World.size_setCell]; exact hys5) (World.cell?_setCell_same _ _ _ c0)
            have y1 : ((w4.setCell ⟨yb, 0, none⟩ (.slice (some ⟨w4.heap.size, 0, none⟩) 1 1)).alloc (.cells #[.int .i64 1, .string (str t)] 45)).cell? ⟨yb, 1, none⟩ = some (.int .i64 12) := cell_alloc _ (by rw [World.size_setCell]; exact hys5) (by rw [World.cell?_setCell_other _ _ _ _ (by simp)]; exact c1)
            have hp7 : PtOk ((w4.setCell ⟨yb, 0, none⟩ (.slice (some ⟨w4.heap.size, 0, none⟩) 1 1)).alloc (.cells #[.int .i64 1, .string (str t)] 45)) ⟨w4.heap.size, 0, 1, [⟨1, t⟩]⟩ := pt_new2 _ _ (by rw [World.size_setCell])
            generalize (w4.setCell ⟨yb, 0, none⟩ (.slice (some ⟨w4.heap.size, 0, none⟩) 1 1)).alloc (.cells #[.int .i64 1, .string (str t)] 45) = w7 at *
            have hpg : wr.heap.size ≤ w4.heap.size := hWr5.size
            obtain ⟨p, hpe⟩ : ∃ p : Pt, p = ⟨w4.heap.size, 0, 1, [⟨1, t⟩]⟩ := ⟨_, rfl⟩
            have HU := Lib.hid (show p.ts = [⟨1, t⟩] by rw [hpe])
            rw [show w4.heap.size = p.g by rw [hpe]] at y0 hpg
            rw [← hpe] at hp7
            have y0' : w7.cell? ⟨yb, 0, none⟩ = some (.slice (some ⟨p.g, p.o, none⟩) p.ts.length p.c) := by rw [y0, hpe]; rfl
            clear y0 hpe c0 c1 f0 f1 hWr5 hys5 hy5
            have hs7 := owns_below hs hBr7
            have hb7 : Below w.heap.size w w7 := hb.trans (hBr7.mono hb.size)
            have hrow := hs.lt
            go_upto_region 31 with (at_builtin; refine wpList_append_lies _ (by rfl) _ _ 65 (by rfl) w.heap.size 68 i0 _ 2 32 Tryz.underlying65 hi0 hz0 hz1 hz2 rfl (by omega) (.slice (some ⟨g, 0, none⟩) N N) (N) _ (by rfl) (hs7.alloc _) ⟨w7.heap.size, 0, none⟩ 1 1 [_, _] (by rfl) (by rfl) (World.news_of_block (cs := #[_, _]) (t := 68) (fr := (0, 0)) (heap_alloc_new w7 _)) (by simp [Value.oneCell']) (by omega) (by unfold maxLen; omega) (by omega) (by have := hb7.size; simp; omega) (w7.heap.size + 1) (by simp) ?_; intro gg cap3 w8 hs8 hgrow hat hlt8)
            have hb8 : Below w.heap.size w w8 := grown_own (hb7.alloc hb7.size _) hgrow (fun j hj => (hrow j hj).1)
            have hh8 := held_step (lv := 12) (n := N + 1) (c := cap3) HH.out (M := L) (fun q h => h) hBr7 (fun k h => (hrow k h).2) hp7 hpg hgrow hat
            rw [show plsOf L ++ [.slice (some ⟨p.g, p.o, none⟩) p.ts.length p.c, .int .i64 12] = plsOf (L ++ [(p, 12)]) by rw [plsOf_app]; rfl] at hs8
            have hmap : (L ++ [((p, 12) : Pl)]).map tp = (f.take (k + 1)).foldl Ex.qpstep [] := by
              rw [HST.out, List.map_append]
              have h1 : (p.ts, 12) = Ex.qpart ⟨2, t, 0⟩ (([] : List Pl).map tp) := by rw [HU.out]; rfl
              rw [← h1]; rfl
            have htt : Ex.tot ((L ++ [((p, 12) : Pl)]).map tp) ≤ 20 * (k + 1) := by
              have h1 := HTOT.out
              have h2 := HPL.out
              rw [hmap, HST.out, Ex.tot_app, show Ex.tot [Ex.qpart ⟨2, t, 0⟩ (([] : List Pl).map tp)] = (Ex.qpart ⟨2, t, 0⟩ (([] : List Pl).map tp)).1.length by simp [Ex.tot]]
              rw [show Ex.tot (([] : List Pl).map tp) = 0 from rfl] at h2
              omega
            have hl8 : (L ++ [((p, 12) : Pl)]).length = N + 1 := by rw [List.length_append, HNN.out]; rfl
            generalize L ++ [((p, 12) : Pl)] = L8 at *
            have hch8 : Ex.chk (L8.length : Nat) (f.drop (k + 1)) = 0 := by rw [hl8]; have h := HCK0.out; rwa [HNN.out] at h
            have hle8 : L8.length ≤ k + 1 := by omega
            clear hs7 hb7 hgrow hat hrow HST HCK0 HPL HTOT HH
            go_wp2_with fail
            go_roundw
            case rel => exact ⟨k + 1, L8, by omega, by go_num, hmap, hle8, hch8, htt, ⟨hh8.ok⟩, by rw [hl8]; exact hs8, hb8⟩
            case measure => simp [intOf]; omega
          · have HST := Lib.hid (show (f.take (k + 1)).foldl Ex.qpstep [] = L.map tp ++ [Ex.qpart ⟨2, t, 0⟩ (([] : List Pl).map tp)] from HN.out.trans (Ex.qpstep_zero _ _ (by rw [he0]; rfl)))
            have HPL := Lib.hid (Ex.qpart_len ⟨2, t, 0⟩ (([] : List Pl).map tp) HC.out.1 (by dsimp only; omega) (by rw [he0]; rfl))
            have HCK0 := Lib.hid (show Ex.chk ((L.length + 1 : Nat) : Int) (f.drop (k + 1)) = 0 by have h := HC.out.2.2; rw [he0] at h; rw [← h]; first | rfl | (congr 1; simp; done) | (congr 1; simp; omega))
            have hcall := qnd_any ⟨2, t, 0⟩ (by dsimp only; exact hLt) (by dsimp only; omega) (by dsimp only; omega)
            rw [show Ex.nd ⟨2, t, 0⟩ = 0 from (if_pos HC.out.1).trans he0] at hcall
            clear HC he0 HN
            obtain ⟨N, hNe⟩ : ∃ N, L.length = N := ⟨_, rfl⟩
            rw [hNe] at hs hn1 hsl hcap ⊢
            have HNN := Lib.hid hNe
            clear hNe hgg htk hsz hB
            go_upto_region 8 with fail
            have hx0 := heap_alloc_new wr (.cells #[.int .i64 2, .string (str t), .int .u32 0] 42)
            have hWr : Below wr.heap.size wr (wr.alloc (.cells #[.int .i64 2, .string (str t), .int .u32 0] 42)) := (Below.refl _ _).alloc (Nat.le_refl _) _
            have hWs : wr.heap.size < (wr.alloc (.cells #[.int .i64 2, .string (str t), .int .u32 0] 42)).heap.size := by simp
            generalize wr.alloc (.cells #[.int .i64 2, .string (str t), .int .u32 0] 42) = W at *
            have k0 : W.cell? ⟨wr.heap.size, 0, none⟩ = some (.int .i64 2) := by rw [cell_of_row _ _ _ _ _ _ hx0]; rfl
            have k1 : W.cell? ⟨wr.heap.size, 1, none⟩ = some (.string (str t)) := by rw [cell_of_row _ _ _ _ _ _ hx0]; rfl
            have k2 : W.cell? ⟨wr.heap.size, 2, none⟩ = some (.int .u32 0) := by rw [cell_of_row _ _ _ _ _ _ hx0]; rfl
            go_wp2_with fail
            with_reducible refine (hcall W).mono ?_
            clear hcall
            rintro e w2 ⟨rfl, hb2⟩
            have hx2 := (hb2.block wr.heap.size hWs).trans hx0
            have hWr2 : Below wr.heap.size wr w2 := hWr.trans (hb2.mono hWr.size)
            have hWs2 : wr.heap.size < w2.heap.size := Nat.lt_of_lt_of_le hWs hb2.size
            clear k0 k1 k2 hx0 hb2 hWr hWs
            go_upto_region 10 with fail
            have hB3 : Below w2.heap.size w2 (w2.alloc (.cells #[] 68)) := (Below.refl _ _).alloc (Nat.le_refl _) _
            generalize w2.alloc (.cells #[] 68) = w3 at *
            have hx3 := (hB3.block wr.heap.size hWs2).trans hx2
            have hWr3 : Below wr.heap.size wr w3 := hWr2.trans (hB3.mono hWr2.size)
            have hWs3 : wr.heap.size < w3.heap.size := Nat.lt_of_lt_of_le hWs2 hB3.size
            clear hWr2 hWs2 hx2 hB3
            go_upto_region 12 with fail
            have hy4 := heap_alloc_new w3 (.cells #[.slice none 0 0, .int .i64 12] 68)
            have hW34 : Below w3.heap.size w3 (w3.alloc (.cells #[.slice none 0 0, .int .i64 12] 68)) := (Below.refl _ _).alloc (Nat.le_refl _) _
            have hx4 := (hW34.block wr.heap.size hWs3).trans hx3
            have hWr4 : Below wr.heap.size wr (w3.alloc (.cells #[.slice none 0 0, .int .i64 12] 68)) := hWr3.trans (hW34.mono hWr3.size)
            have hys : w3.heap.size < (w3.alloc (.cells #[.slice none 0 0, .int .i64 12] 68)).heap.size := by simp
            generalize w3.alloc (.cells #[.slice none 0 0, .int .i64 12] 68) = w4 at *
            obtain ⟨yb, hyb⟩ : ∃ yb, w3.heap.size = yb := ⟨_, rfl⟩
            rw [hyb] at hy4 hys hWs3 ⊢
            have hwy : wr.heap.size ≤ yb := by omega
            clear hx3 hWr3 hW34 hyb
            have k0 : w4.cell? ⟨wr.heap.size, 0, none⟩ = some (.int .i64 2) := by rw [cell_of_row _ _ _ _ _ _ hx4]; rfl
            have k1 : w4.cell? ⟨wr.heap.size, 1, none⟩ = some (.string (str t)) := by rw [cell_of_row _ _ _ _ _ _ hx4]; rfl
            have k2 : w4.cell? ⟨wr.heap.size, 2, none⟩ = some (.int .u32 0) := by rw [cell_of_row _ _ _ _ _ _ hx4]; rfl
            have hy5 := hy4
            have hWr5 := hWr4
            have hys5 := hys
            clear hy4 hWr4 hys
            have c0 : w4.cell? ⟨yb, 0, none⟩ = some (.slice none 0 0) := (by rw [cell_of_row _ _ _ _ _ _ hy5]; rfl)
            have c1 : w4.cell? ⟨yb, 1, none⟩ = some (.int .i64 12) := (by rw [cell_of_row _ _ _ _ _ _ hy5]; rfl)
            have f0 : w4.frozen? ⟨yb, 0, none⟩ = false := (by simp [World.frozen?, hy5])
            have f1 : w4.frozen? ⟨yb, 1, none⟩ = false := (by simp [World.frozen?, hy5])
            go_upto_region 30 with fail
            have hBr7 : Below wr.heap.size wr ((w4.setCell ⟨yb, 0, none⟩ (.slice (some ⟨w4.heap.size, 0, none⟩) 1 1)).alloc (.cells #[.int .i64 1, .string (str t)] 45)) := (hWr5.setCell (p := ⟨yb, 0, none⟩) hwy _).alloc (by rw [World.size_setCell]; exact hWr5.size) _
            have y0 : ((w4.setCell ⟨yb, 0, none⟩ (.slice (some ⟨w4.heap.size, 0, none⟩) 1 1)).alloc (.cells #[.int .i64 1, .string (str t)] 45)).cell? ⟨yb, 0, none⟩ = some (.slice (some ⟨w4.heap.size, 0, none⟩) 1 1) := cell_alloc _ (by rw [World.size_setCell]; exact hys5) (World.cell?_setCell_same _ _ _ c0)
            have y1 : ((w4.setCell ⟨yb, 0, none⟩ (.slice (some ⟨w4.heap.size, 0, none⟩) 1 1)).alloc (.cells #[.int .i64 1, .string (str t)] 45)).cell? ⟨yb, 1, none⟩ = some (.int .i64 12) := cell_alloc _ (by rw [World.size_setCell]; exact hys5) (by rw [World.cell?_setCell_other _ _ _ _ (by simp)]; exact c1)
            have hp7 : PtOk ((w4.setCell ⟨yb, 0, none⟩ (.slice (some ⟨w4.heap.size, 0, none⟩) 1 1)).alloc (.cells #[.int .i64 1, .string (str t)] 45)) ⟨w4.heap.size, 0, 1, [⟨1, t⟩]⟩ := pt_new2 _ _ (by rw [World.size_setCell])
            generalize (w4.setCell ⟨yb, 0, none⟩ (.slice (some ⟨w4.heap.size, 0, none⟩) 1 1)).alloc (.cells #[.int .i64 1, .string (str t)] 45) = w7 at *
            have hpg : wr.heap.size ≤ w4.heap.size := hWr5.size
            obtain ⟨p, hpe⟩ : ∃ p : Pt, p = ⟨w4.heap.size, 0, 1, [⟨1, t⟩]⟩ := ⟨_, rfl⟩
            have HU := Lib.hid (show p.ts = [⟨1, t⟩] by rw [hpe])
            rw [show w4.heap.size = p.g by rw [hpe]] at y0 hpg
            rw [← hpe] at hp7
            have y0' : w7.cell? ⟨yb, 0, none⟩ = some (.slice (some ⟨p.g, p.o, none⟩) p.ts.length p.c) := by rw [y0, hpe]; rfl
            clear y0 hpe c0 c1 f0 f1 hWr5 hys5 hy5
            have hs7 := owns_below hs hBr7
            have hb7 : Below w.heap.size w w7 := hb.trans (hBr7.mono hb.size)
            have hrow := hs.lt
            go_upto_region 31 with (at_builtin; refine wpList_append_lies _ (by rfl) _ _ 65 (by rfl) w.heap.size 68 i0 _ 2 32 Tryz.underlying65 hi0 hz0 hz1 hz2 rfl (by omega) (.slice (some ⟨g, 0, none⟩) N cap) (N) _ (by rfl) (hs7.alloc _) ⟨w7.heap.size, 0, none⟩ 1 1 [_, _] (by rfl) (by rfl) (World.news_of_block (cs := #[_, _]) (t := 68) (fr := (0, 0)) (heap_alloc_new w7 _)) (by simp [Value.oneCell']) (by omega) (by unfold maxLen; omega) (by omega) (by have := hb7.size; simp; omega) (w7.heap.size + 1) (by simp) ?_; intro gg cap3 w8 hs8 hgrow hat hlt8)
            have hb8 : Below w.heap.size w w8 := grown_own (hb7.alloc hb7.size _) hgrow (fun j hj => (hrow j hj).1)
            have hh8 := held_step (lv := 12) (n := N + 1) (c := cap3) HH.out (M := L) (fun q h => h) hBr7 (fun k h => (hrow k h).2) hp7 hpg hgrow hat
            rw [show plsOf L ++ [.slice (some ⟨p.g, p.o, none⟩) p.ts.length p.c, .int .i64 12] = plsOf (L ++ [(p, 12)]) by rw [plsOf_app]; rfl] at hs8
            have hmap : (L ++ [((p, 12) : Pl)]).map tp = (f.take (k + 1)).foldl Ex.qpstep [] := by
              rw [HST.out, List.map_append]
              have h1 : (p.ts, 12) = Ex.qpart ⟨2, t, 0⟩ (([] : List Pl).map tp) := by rw [HU.out]; rfl
              rw [← h1]; rfl
            have htt : Ex.tot ((L ++ [((p, 12) : Pl)]).map tp) ≤ 20 * (k + 1) := by
              have h1 := HTOT.out
              have h2 := HPL.out
              rw [hmap, HST.out, Ex.tot_app, show Ex.tot [Ex.qpart ⟨2, t, 0⟩ (([] : List Pl).map tp)] = (Ex.qpart ⟨2, t, 0⟩ (([] : List Pl).map tp)).1.length by simp [Ex.tot]]
              rw [show Ex.tot (([] : List Pl).map tp) = 0 from rfl] at h2
              omega
            have hl8 : (L ++ [((p, 12) : Pl)]).length = N + 1 := by rw [List.length_append, HNN.out]; rfl
            generalize L ++ [((p, 12) : Pl)] = L8 at *
            have hch8 : Ex.chk (L8.length : Nat) (f.drop (k + 1)) = 0 := by rw [hl8]; have h := HCK0.out; rwa [HNN.out] at h
            have hle8 : L8.length ≤ k + 1 := by omega
            clear hs7 hb7 hgrow hat hrow HST HCK0 HPL HTOT HH
            go_wp2_with fail
            go_roundw
            case rel => exact ⟨k + 1, L8, by omega, by go_num, hmap, hle8, hch8, htt, ⟨hh8.ok⟩, by rw [hl8]; exact hs8, hb8⟩
            case measure => simp [intOf]; omega
      · dsimp only at hLo hLt hd0 hd1 hd2
        clear ht
        obtain ⟨m, rfl⟩ : ∃ m : Nat, n = m := ⟨n.toNat, by omega⟩
        by_cases hm0 : m = 0
        · subst hm0
          rw [show ((0 : Nat) : Int) = 0 from rfl] at *
          rcases hs.2 with ⟨rfl, hz⟩ | ⟨g, cap, cur, rfl, hB, hgg, hn1, hn2, hsz, htk⟩
          · have HST := Lib.hid (show (f.take (k + 1)).foldl Ex.qpstep [] = L.map tp ++ [Ex.qpart ⟨3, t, 0⟩ (([] : List Pl).map tp)] from HN.out.trans (Ex.qpstep_zero _ _ (by rw [he0]; rfl)))
            have HPL := Lib.hid (Ex.qpart_len ⟨3, t, 0⟩ (([] : List Pl).map tp) HC.out.1 (by dsimp only; omega) (by rw [he0]; rfl))
            have HCK0 := Lib.hid (show Ex.chk ((L.length + 1 : Nat) : Int) (f.drop (k + 1)) = 0 by have h := HC.out.2.2; rw [he0] at h; rw [← h]; first | rfl | (congr 1; simp; done) | (congr 1; simp; omega))
            have hcall := qnd_any ⟨3, t, 0⟩ (by dsimp only; exact hLt) (by dsimp only; omega) (by dsimp only; omega)
            rw [show Ex.nd ⟨3, t, 0⟩ = 0 from (if_pos HC.out.1).trans he0] at hcall
            clear HC he0 HN
            rw [hz] at hs hsl
            have HNN := Lib.hid hz
            clear hz
            go_upto_region 8 with fail
            have hx0 := heap_alloc_new wr (.cells #[.int .i64 3, .string (str t), .int .u32 0] 42)
            have hWr : Below wr.heap.size wr (wr.alloc (.cells #[.int .i64 3, .string (str t), .int .u32 0] 42)) := (Below.refl _ _).alloc (Nat.le_refl _) _
            have hWs : wr.heap.size < (wr.alloc (.cells #[.int .i64 3, .string (str t), .int .u32 0] 42)).heap.size := by simp
            generalize wr.alloc (.cells #[.int .i64 3, .string (str t), .int .u32 0] 42) = W at *
            have k0 : W.cell? ⟨wr.heap.size, 0, none⟩ = some (.int .i64 3) := by rw [cell_of_row _ _ _ _ _ _ hx0]; rfl
            have k1 : W.cell? ⟨wr.heap.size, 1, none⟩ = some (.string (str t)) := by rw [cell_of_row _ _ _ _ _ _ hx0]; rfl
            have k2 : W.cell? ⟨wr.heap.size, 2, none⟩ = some (.int .u32 0) := by rw [cell_of_row _ _ _ _ _ _ hx0]; rfl
            go_wp2_with fail
            with_reducible refine (hcall W).mono ?_
            clear hcall
            rintro e w2 ⟨rfl, hb2⟩
            have hx2 := (hb2.block wr.heap.size hWs).trans hx0
            have hWr2 : Below wr.heap.size wr w2 := hWr.trans (hb2.mono hWr.size)
            have hWs2 : wr.heap.size < w2.heap.size := Nat.lt_of_lt_of_le hWs hb2.size
            clear k0 k1 k2 hx0 hb2 hWr hWs
            go_upto_region 10 with fail
            have hB3 : Below w2.heap.size w2 (w2.alloc (.cells #[] 68)) := (Below.refl _ _).alloc (Nat.le_refl _) _
            generalize w2.alloc (.cells #[] 68) = w3 at *
            have hx3 := (hB3.block wr.heap.size hWs2).trans hx2
            have hWr3 : Below wr.heap.size wr w3 := hWr2.trans (hB3.mono hWr2.size)
            have hWs3 : wr.heap.size < w3.heap.size := Nat.lt_of_lt_of_le hWs2 hB3.size
            clear hWr2 hWs2 hx2 hB3
            go_upto_region 12 with fail
            have hy4 := heap_alloc_new w3 (.cells #[.slice none 0 0, .int .i64 12] 68)
            have hW34 : Below w3.heap.size w3 (w3.alloc (.cells #[.slice none 0 0, .int .i64 12] 68)) := (Below.refl _ _).alloc (Nat.le_refl _) _
            have hx4 := (hW34.block wr.heap.size hWs3).trans hx3
            have hWr4 : Below wr.heap.size wr (w3.alloc (.cells #[.slice none 0 0, .int .i64 12] 68)) := hWr3.trans (hW34.mono hWr3.size)
            have hys : w3.heap.size < (w3.alloc (.cells #[.slice none 0 0, .int .i64 12] 68)).heap.size := by simp
            generalize w3.alloc (.cells #[.slice none 0 0, .int .i64 12] 68) = w4 at *
            obtain ⟨yb, hyb⟩ : ∃ yb, w3.heap.size = yb := ⟨_, rfl⟩
            rw [hyb] at hy4 hys hWs3 ⊢
            have hwy : wr.heap.size ≤ yb := by omega
            clear hx3 hWr3 hW34 hyb
            have k0 : w4.cell? ⟨wr.heap.size, 0, none⟩ = some (.int .i64 3) := by rw [cell_of_row _ _ _ _ _ _ hx4]; rfl
            have k1 : w4.cell? ⟨wr.heap.size, 1, none⟩ = some (.string (str t)) := by rw [cell_of_row _ _ _ _ _ _ hx4]; rfl
            have k2 : w4.cell? ⟨wr.heap.size, 2, none⟩ = some (.int .u32 0) := by rw [cell_of_row _ _ _ _ _ _ hx4]; rfl
            have hcal := qcall_any (some ⟨w2.heap.size, 0, none⟩) 0 t ([] : List Pl) w4 (VAt.nil w4 _) (by simp) (fun p hp => by simp at hp)
            unfold GotP at hcal
            simp only [List.length_nil] at hcal
            generalize hR : Ex.callT t (([] : List Pl).map (fun p => p.1.ts)) = R at hcal
            have HR := Lib.hid hR
            clear hR
            go_upto_region 18 with fail
            go_wp2_with fail
            with_reducible refine hcal.mono ?_
            clear hcal
            rintro e w5 ⟨p, rfl, hu, hp5, hpg5, hb5⟩
            have HU := Lib.hid (hu.trans HR.out.symm)
            clear hu HR
            rw [Pt.v_def p]
            have hy5 := (hb5.block yb hys).trans hy4
            have hWr5 : Below wr.heap.size wr w5 := hWr4.trans (hb5.mono hWr4.size)
            have hpg : wr.heap.size ≤ p.g := Nat.le_trans hWr4.size hpg5
            have hyp : yb ≠ p.g := by omega
            clear k0 k1 k2 hx4 hb5 hy4 hpg5
            have c0 : w5.cell? ⟨yb, 0, none⟩ = some (.slice none 0 0) := (by rw [cell_of_row _ _ _ _ _ _ hy5]; rfl)
            have c1 : w5.cell? ⟨yb, 1, none⟩ = some (.int .i64 12) := (by rw [cell_of_row _ _ _ _ _ _ hy5]; rfl)
            have f0 : w5.frozen? ⟨yb, 0, none⟩ = false := (by simp [World.frozen?, hy5])
            have f1 : w5.frozen? ⟨yb, 1, none⟩ = false := (by simp [World.frozen?, hy5])
            go_upto_region 30 with fail
            have hbx := boxed (.slice (some ⟨p.g, p.o, none⟩) p.ts.length p.c) (.int .i64 12) c0 c1
            have hp7 := pt_set yb 1 (.int .i64 12) (pt_set yb 0 (.slice (some ⟨p.g, p.o, none⟩) p.ts.length p.c) hp5 hyp) hyp
            have hBr7 := (hWr5.setCell (p := ⟨yb, 0, none⟩) hwy (.slice (some ⟨p.g, p.o, none⟩) p.ts.length p.c)).setCell (p := ⟨yb, 1, none⟩) hwy (.int .i64 12)
            generalize (w5.setCell ⟨yb, 0, none⟩ (.slice (some ⟨p.g, p.o, none⟩) p.ts.length p.c)).setCell ⟨yb, 1, none⟩ (.int .i64 12) = w7 at *
            have y0 := hbx.1
            have y1 := hbx.2
            clear hbx c0 c1 f0 f1 hp5 hWr5 hy5 hWr4 hys
            have hs7 := owns_below hs hBr7
            have hb7 : Below w.heap.size w w7 := hb.trans (hBr7.mono hb.size)
            have hrow := hs.lt
            go_upto_region 31 with (at_builtin; refine wpList_append_lies _ (by rfl) _ _ 65 (by rfl) w.heap.size 68 i0 _ 2 32 Tryz.underlying65 hi0 hz0 hz1 hz2 rfl (by omega) (.slice none 0 0) (0) _ (by rfl) (hs7.alloc _) ⟨w7.heap.size, 0, none⟩ 1 1 [_, _] (by rfl) (by rfl) (World.news_of_block (cs := #[_, _]) (t := 68) (fr := (0, 0)) (heap_alloc_new w7 _)) (by simp [Value.oneCell']) (by omega) (by unfold maxLen; omega) (by omega) (by have := hb7.size; simp; omega) (w7.heap.size + 1) (by simp) ?_; intro gg cap3 w8 hs8 hgrow hat hlt8)
            have hb8 : Below w.heap.size w w8 := grown_own (hb7.alloc hb7.size _) hgrow (fun j hj => (hrow j hj).1)
            have hh8 := held_step (lv := 12) (n := 0 + 1) (c := cap3) HH.out (M := L) (fun q h => h) hBr7 (fun k h => (hrow k h).2) hp7 hpg hgrow hat
            rw [show plsOf L ++ [.slice (some ⟨p.g, p.o, none⟩) p.ts.length p.c, .int .i64 12] = plsOf (L ++ [(p, 12)]) by rw [plsOf_app]; rfl] at hs8
            have hmap : (L ++ [((p, 12) : Pl)]).map tp = (f.take (k + 1)).foldl Ex.qpstep [] := by
              rw [HST.out, List.map_append]
              have h1 : (p.ts, 12) = Ex.qpart ⟨3, t, 0⟩ (([] : List Pl).map tp) := by rw [HU.out]; show _ = ((Ex.partL ⟨3, t, 0⟩ ((([] : List Pl).map tp).map Ex.nrm)).1, (12 : Int)); unfold Ex.partL; rw [if_neg (by dsimp only; decide), if_neg (by dsimp only; decide), if_pos rfl, Ex.map_nrm_fst, tp_fst]
              rw [← h1]; rfl
            have htt : Ex.tot ((L ++ [((p, 12) : Pl)]).map tp) ≤ 20 * (k + 1) := by
              have h1 := HTOT.out
              have h2 := HPL.out
              rw [hmap, HST.out, Ex.tot_app, show Ex.tot [Ex.qpart ⟨3, t, 0⟩ (([] : List Pl).map tp)] = (Ex.qpart ⟨3, t, 0⟩ (([] : List Pl).map tp)).1.length by simp [Ex.tot]]
              rw [show Ex.tot (([] : List Pl).map tp) = 0 from rfl] at h2
              omega
            have hl8 : (L ++ [((p, 12) : Pl)]).length = 0 + 1 := by rw [List.length_append, HNN.out]; rfl
            generalize L ++ [((p, 12) : Pl)] = L8 at *
            have hch8 : Ex.chk (L8.length : Nat) (f.drop (k + 1)) = 0 := by rw [hl8]; have h := HCK0.out; rwa [HNN.out] at h
            have hle8 : L8.length ≤ k + 1 := by omega
            clear hs7 hb7 hgrow hat hrow HST HCK0 HPL HTOT HH
            go_wp2_with fail
            go_roundw
            case rel => exact ⟨k + 1, L8, by omega, by go_num, hmap, hle8, hch8, htt, ⟨hh8.ok⟩, by rw [hl8]; exact hs8, hb8⟩
            case measure => simp [intOf]; omega
          · have hgl : g < wr.heap.size := (Array.getElem?_eq_some_iff.1 hgg).1
            by_cases hcap : cap = L.length
            · have HST := Lib.hid (show (f.take (k + 1)).foldl Ex.qpstep [] = L.map tp ++ [Ex.qpart ⟨3, t, 0⟩ (([] : List Pl).map tp)] from HN.out.trans (Ex.qpstep_zero _ _ (by rw [he0]; rfl)))
              have HPL := Lib.hid (Ex.qpart_len ⟨3, t, 0⟩ (([] : List Pl).map tp) HC.out.1 (by dsimp only; omega) (by rw [he0]; rfl))
              have HCK0 := Lib.hid (show Ex.chk ((L.length + 1 : Nat) : Int) (f.drop (k + 1)) = 0 by have h := HC.out.2.2; rw [he0] at h; rw [← h]; first | rfl | (congr 1; simp; done) | (congr 1; simp; omega))
              have hcall := qnd_any ⟨3, t, 0⟩ (by dsimp only; exact hLt) (by dsimp only; omega) (by dsimp only; omega)
              rw [show Ex.nd ⟨3, t, 0⟩ = 0 from (if_pos HC.out.1).trans he0] at hcall
              clear HC he0 HN
              obtain ⟨N, hNe⟩ : ∃ N, L.length = N := ⟨_, rfl⟩
              rw [hNe] at hs hn1 hsl hcap ⊢
              have HNN := Lib.hid hNe
              clear hNe hgg htk hsz hB
              have hcap2 := hcap.symm
              clear hcap
              subst hcap2
              go_upto_region 8 with fail
              have hx0 := heap_alloc_new wr (.cells #[.int .i64 3, .string (str t), .int .u32 0] 42)
              have hWr : Below wr.heap.size wr (wr.alloc (.cells #[.int .i64 3, .string (str t), .int .u32 0] 42)) := (Below.refl _ _).alloc (Nat.le_refl _) _
              have hWs : wr.heap.size < (wr.alloc (.cells #[.int .i64 3, .string (str t), .int .u32 0] 42)).heap.size := by simp
              generalize wr.alloc (.cells #[.int .i64 3, .string (str t), .int .u32 0] 42) = W at *
              have k0 : W.cell? ⟨wr.heap.size, 0, none⟩ = some (.int .i64 3) := by rw [cell_of_row _ _ _ _ _ _ hx0]; rfl
              have k1 : W.cell? ⟨wr.heap.size, 1, none⟩ = some (.string (str t)) := by rw [cell_of_row _ _ _ _ _ _ hx0]; rfl
              have k2 : W.cell? ⟨wr.heap.size, 2, none⟩ = some (.int .u32 0) := by rw [cell_of_row _ _ _ _ _ _ hx0]; rfl
              go_wp2_with fail
              with_reducible refine (hcall W).mono ?_
              clear hcall
              rintro e w2 ⟨rfl, hb2⟩
              have hx2 := (hb2.block wr.heap.size hWs).trans hx0
              have hWr2 : Below wr.heap.size wr w2 := hWr.trans (hb2.mono hWr.size)
              have hWs2 : wr.heap.size < w2.heap.size := Nat.lt_of_lt_of_le hWs hb2.size
              clear k0 k1 k2 hx0 hb2 hWr hWs
              go_upto_region 10 with fail
              have hB3 : Below w2.heap.size w2 (w2.alloc (.cells #[] 68)) := (Below.refl _ _).alloc (Nat.le_refl _) _
              generalize w2.alloc (.cells #[] 68) = w3 at *
              have hx3 := (hB3.block wr.heap.size hWs2).trans hx2
              have hWr3 : Below wr.heap.size wr w3 := hWr2.trans (hB3.mono hWr2.size)
              have hWs3 : wr.heap.size < w3.heap.size := Nat.lt_of_lt_of_le hWs2 hB3.size
              clear hWr2 hWs2 hx2 hB3
              go_upto_region 12 with fail
              have hy4 := heap_alloc_new w3 (.cells #[.slice none 0 0, .int .i64 12] 68)
              have hW34 : Below w3.heap.size w3 (w3.alloc (.cells #[.slice none 0 0, .int .i64 12] 68)) := (Below.refl _ _).alloc (Nat.le_refl _) _
              have hx4 := (hW34.block wr.heap.size hWs3).trans hx3
              have hWr4 : Below wr.heap.size wr (w3.alloc (.cells #[.slice none 0 0, .int .i64 12] 68)) := hWr3.trans (hW34.mono hWr3.size)
              have hys : w3.heap.size < (w3.alloc (.cells #[.slice none 0 0, .int .i64 12] 68)).heap.size := by simp
              generalize w3.alloc (.cells #[.slice none 0 0, .int .i64 12] 68) = w4 at *
              obtain ⟨yb, hyb⟩ : ∃ yb, w3.heap.size = yb := ⟨_, rfl⟩
              rw [hyb] at hy4 hys hWs3 ⊢
              have hwy : wr.heap.size ≤ yb := by omega
              clear hx3 hWr3 hW34 hyb
              have k0 : w4.cell? ⟨wr.heap.size, 0, none⟩ = some (.int .i64 3) := by rw [cell_of_row _ _ _ _ _ _ hx4]; rfl
              have k1 : w4.cell? ⟨wr.heap.size, 1, none⟩ = some (.string (str t)) := by rw [cell_of_row _ _ _ _ _ _ hx4]; rfl
              have k2 : w4.cell? ⟨wr.heap.size, 2, none⟩ = some (.int .u32 0) := by rw [cell_of_row _ _ _ _ _ _ hx4]; rfl
              have hcal := qcall_any (some ⟨w2.heap.size, 0, none⟩) 0 t ([] : List Pl) w4 (VAt.nil w4 _) (by simp) (fun p hp => by simp at hp)
              unfold GotP at hcal
              simp only [List.length_nil] at hcal
              generalize hR : Ex.callT t (([] : List Pl).map (fun p => p.1.ts)) = R at hcal
              have HR := Lib.hid hR
              clear hR
              go_upto_region 18 with fail
              go_wp2_with fail
              with_reducible refine hcal.mono ?_
              clear hcal
              rintro e w5 ⟨p, rfl, hu, hp5, hpg5, hb5⟩
              have HU := Lib.hid (hu.trans HR.out.symm)
              clear hu HR
              rw [Pt.v_def p]
              have hy5 := (hb5.block yb hys).trans hy4
              have hWr5 : Below wr.heap.size wr w5 := hWr4.trans (hb5.mono hWr4.size)
              have hpg : wr.heap.size ≤ p.g := Nat.le_trans hWr4.size hpg5
              have hyp : yb ≠ p.g := by omega
              clear k0 k1 k2 hx4 hb5 hy4 hpg5
              have c0 : w5.cell? ⟨yb, 0, none⟩ = some (.slice none 0 0) := (by rw [cell_of_row _ _ _ _ _ _ hy5]; rfl)
              have c1 : w5.cell? ⟨yb, 1, none⟩ = some (.int .i64 12) := (by rw [cell_of_row _ _ _ _ _ _ hy5]; rfl)
              have f0 : w5.frozen? ⟨yb, 0, none⟩ = false := (by simp [World.frozen?, hy5])
              have f1 : w5.frozen? ⟨yb, 1, none⟩ = false := (by simp [World.frozen?, hy5])
              go_upto_region 30 with fail
              have hbx := boxed (.slice (some ⟨p.g, p.o, none⟩) p.ts.length p.c) (.int .i64 12) c0 c1
              have hp7 := pt_set yb 1 (.int .i64 12) (pt_set yb 0 (.slice (some ⟨p.g, p.o, none⟩) p.ts.length p.c) hp5 hyp) hyp
              have hBr7 := (hWr5.setCell (p := ⟨yb, 0, none⟩) hwy (.slice (some ⟨p.g, p.o, none⟩) p.ts.length p.c)).setCell (p := ⟨yb, 1, none⟩) hwy (.int .i64 12)
              generalize (w5.setCell ⟨yb, 0, none⟩ (.slice (some ⟨p.g, p.o, none⟩) p.ts.length p.c)).setCell ⟨yb, 1, none⟩ (.int .i64 12) = w7 at *
              have y0 := hbx.1
              have y1 := hbx.2
              clear hbx c0 c1 f0 f1 hp5 hWr5 hy5 hWr4 hys
              have hs7 := owns_below hs hBr7
              have hb7 : Below w.heap.size w w7 := hb.trans (hBr7.mono hb.size)
              have hrow := hs.lt
              go_upto_region 31 with (at_builtin; refine wpList_append_lies _ (by rfl) _ _ 65 (by rfl) w.heap.size 68 i0 _ 2 32 Tryz.underlying65 hi0 hz0 hz1 hz2 rfl (by omega) (.slice (some ⟨g, 0, none⟩) N N) (N) _ (by rfl) (hs7.alloc _) ⟨w7.heap.size, 0, none⟩ 1 1 [_, _] (by rfl) (by rfl) (World.news_of_block (cs := #[_, _]) (t := 68) (fr := (0, 0)) (heap_alloc_new w7 _)) (by simp [Value.oneCell']) (by omega) (by unfold maxLen; omega) (by omega) (by have := hb7.size; simp; omega) (w7.heap.size + 1) (by simp) ?_; intro gg cap3 w8 hs8 hgrow hat hlt8)
              have hb8 : Below w.heap.size w w8 := grown_own (hb7.alloc hb7.size _) hgrow (fun j hj => (hrow j hj).1)
              have hh8 := held_step (lv := 12) (n := N + 1) (c := cap3) HH.out (M := L) (fun q h => h) hBr7 (fun k h => (hrow k h).2) hp7 hpg hgrow hat
              rw [show plsOf L ++ [.slice (some ⟨p.g, p.o, none⟩) p.ts.length p.c, .int .i64 12] = plsOf (L ++ [(p, 12)]) by rw [plsOf_app]; rfl] at hs8
              have hmap : (L ++ [((p, 12) : Pl)]).map tp = (f.take (k + 1)).foldl Ex.qpstep [] := by
                rw [HST.out, List.map_append]
                have h1 : (p.ts, 12) = Ex.qpart ⟨3, t, 0⟩ (([] : List Pl).map tp) := by rw [HU.out]; show _ = ((Ex.partL ⟨3, t, 0⟩ ((([] : List Pl).map tp).map Ex.nrm)).1, (12 : Int)); unfold Ex.partL; rw [if_neg (by dsimp only; decide), if_neg (by dsimp only; decide), if_pos rfl, Ex.map_nrm_fst, tp_fst]
                rw [← h1]; rfl
              have htt : Ex.tot ((L ++ [((p, 12) : Pl)]).map tp) ≤ 20 * (k + 1) := by
                have h1 := HTOT.out
                have h2 := HPL.out
                rw [hmap, HST.out, Ex.tot_app, show Ex.tot [Ex.qpart ⟨3, t, 0⟩ (([] : List Pl).map tp)] = (Ex.qpart ⟨3, t, 0⟩ (([] : List Pl).map tp)).1.length by simp [Ex.tot]]
                rw [show Ex.tot (([] : List Pl).map tp) = 0 from rfl] at h2
                omega
              have hl8 : (L ++ [((p, 12) : Pl)]).length = N + 1 := by rw [List.length_append, HNN.out]; rfl
              generalize L ++ [((p, 12) : Pl)] = L8 at *
              have hch8 : Ex.chk (L8.length : Nat) (f.drop (k + 1)) = 0 := by rw [hl8]; have h := HCK0.out; rwa [HNN.out] at h
              have hle8 : L8.length ≤ k + 1 := by omega
              clear hs7 hb7 hgrow hat hrow HST HCK0 HPL HTOT HH
              go_wp2_with fail
              go_roundw
              case rel => exact ⟨k + 1, L8, by omega, by go_num, hmap, hle8, hch8, htt, ⟨hh8.ok⟩, by rw [hl8]; exact hs8, hb8⟩
              case measure => simp [intOf]; omega
            · have HST := Lib.hid (show (f.take (k + 1)).foldl Ex.qpstep [] = L.map tp ++ [Ex.qpart ⟨3, t, 0⟩ (([] : List Pl).map tp)] from HN.out.trans (Ex.qpstep_zero _ _ (by rw [he0]; rfl)))
              have HPL := Lib.hid (Ex.qpart_len ⟨3, t, 0⟩ (([] : List Pl).map tp) HC.out.1 (by dsimp only; omega) (by rw [he0]; rfl))
              have HCK0 := Lib.hid (show Ex.chk ((L.length + 1 : Nat) : Int) (f.drop (k + 1)) = 0 by have h := HC.out.2.2; rw [he0] at h; rw [← h]; first | rfl | (congr 1; simp; done) | (congr 1; simp; omega))
              have hcall := qnd_any ⟨3, t, 0⟩ (by dsimp only; exact hLt) (by dsimp only; omega) (by dsimp only; omega)
              rw [show Ex.nd ⟨3, t, 0⟩ = 0 from (if_pos HC.out.1).trans he0] at hcall
              clear HC he0 HN
              obtain ⟨N, hNe⟩ : ∃ N, L.length = N := ⟨_, rfl⟩
              rw [hNe] at hs hn1 hsl hcap ⊢
              have HNN := Lib.hid hNe
              clear hNe hgg htk hsz hB
              go_upto_region 8 with fail
              have hx0 := heap_alloc_new wr (.cells #[.int .i64 3, .string (str t), .int .u32 0] 42)
              have hWr : Below wr.heap.size wr (wr.alloc (.cells #[.int .i64 3, .string (str t), .int .u32 0] 42)) := (Below.refl _ _).alloc (Nat.le_refl _) _
              have hWs : wr.heap.size < (wr.alloc (.cells #[.int .i64 3, .string (str t), .int .u32 0] 42)).heap.size := by simp
              generalize wr.alloc (.cells #[.int .i64 3, .string (str t), .int .u32 0] 42) = W at *
              have k0 : W.cell? ⟨wr.heap.size, 0, none⟩ = some (.int .i64 3) := by rw [cell_of_row _ _ _ _ _ _ hx0]; rfl
              have k1 : W.cell? ⟨wr.heap.size, 1, none⟩ = some (.string (str t)) := by rw [cell_of_row _ _ _ _ _ _ hx0]; rfl
              have k2 : W.cell? ⟨wr.heap.size, 2, none⟩ = some (.int .u32 0) := by rw [cell_of_row _ _ _ _ _ _ hx0]; rfl
              go_wp2_with fail
              with_reducible refine (hcall W).mono ?_
              clear hcall
              rintro e w2 ⟨rfl, hb2⟩
              have hx2 := (hb2.block wr.heap.size hWs).trans hx0
              have hWr2 : Below wr.heap.size wr w2 := hWr.trans (hb2.mono hWr.size)
              have hWs2 : wr.heap.size < w2.heap.size := Nat.lt_of_lt_of_le hWs hb2.size
              clear k0 k1 k2 hx0 hb2 hWr hWs
              go_upto_region 10 with fail
              have hB3 : Below w2.heap.size w2 (w2.alloc (.cells #[] 68)) := (Below.refl _ _).alloc (Nat.le_refl _) _
              generalize w2.alloc (.cells #[] 68) = w3 at *
              have hx3 := (hB3.block wr.heap.size hWs2).trans hx2
              have hWr3 : Below wr.heap.size wr w3 := hWr2.trans (hB3.mono hWr2.size)
              have hWs3 : wr.heap.size < w3.heap.size := Nat.lt_of_lt_of_le hWs2 hB3.size
              clear hWr2 hWs2 hx2 hB3
              go_upto_region 12 with fail
              have hy4 := heap_alloc_new w3 (.cells #[.slice none 0 0, .int .i64 12] 68)
              have hW34 : Below w3.heap.size w3 (w3.alloc (.cells #[.slice none 0 0, .int .i64 12] 68)) := (Below.refl _ _).alloc (Nat.le_refl _) _
              have hx4 := (hW34.block wr.heap.size hWs3).trans hx3
              have hWr4 : Below wr.heap.size wr (w3.alloc (.cells #[.slice none 0 0, .int .i64 12] 68)) := hWr3.trans (hW34.mono hWr3.size)
              have hys : w3.heap.size < (w3.alloc (.cells #[.slice none 0 0, .int .i64 12] 68)).heap.size := by simp
              generalize w3.alloc (.cells #[.slice none 0 0, .int .i64 12] 68) = w4 at *
              obtain ⟨yb, hyb⟩ : ∃ yb, w3.heap.size = yb := ⟨_, rfl⟩
              rw [hyb] at hy4 hys hWs3 ⊢
              have hwy : wr.heap.size ≤ yb := by omega
              clear hx3 hWr3 hW34 hyb
              have k0 : w4.cell? ⟨wr.heap.size, 0, none⟩ = some (.int .i64 3) := by rw [cell_of_row _ _ _ _ _ _ hx4]; rfl
              have k1 : w4.cell? ⟨wr.heap.size, 1, none⟩ = some (.string (str t)) := by rw [cell_of_row _ _ _ _ _ _ hx4]; rfl
              have k2 : w4.cell? ⟨wr.heap.size, 2, none⟩ = some (.int .u32 0) := by rw [cell_of_row _ _ _ _ _ _ hx4]; rfl
              have hcal := qcall_any (some ⟨w2.heap.size, 0, none⟩) 0 t ([] : List Pl) w4 (VAt.nil w4 _) (by simp) (fun p hp => by simp at hp)
              unfold GotP at hcal
              simp only [List.length_nil] at hcal
              generalize hR : Ex.callT t (([] : List Pl).map (fun p => p.1.ts)) = R at hcal
              have HR := Lib.hid hR
              clear hR
              go_upto_region 18 with fail
              go_wp2_with fail
              with_reducible refine hcal.mono ?_
              clear hcal
              rintro e w5 ⟨p, rfl, hu, hp5, hpg5, hb5⟩
              have HU := Lib.hid (hu.trans HR.out.symm)
              clear hu HR
              rw [Pt.v_def p]
              have hy5 := (hb5.block yb hys).trans hy4
              have hWr5 : Below wr.heap.size wr w5 := hWr4.trans (hb5.mono hWr4.size)
              have hpg : wr.heap.size ≤ p.g := Nat.le_trans hWr4.size hpg5
              have hyp : yb ≠ p.g := by omega
              clear k0 k1 k2 hx4 hb5 hy4 hpg5
              have c0 : w5.cell? ⟨yb, 0, none⟩ = some (.slice none 0 0) := (by rw [cell_of_row _ _ _ _ _ _ hy5]; rfl)
              have c1 : w5.cell? ⟨yb, 1, none⟩ = some (.int .i64 12) := (by rw [cell_of_row _ _ _ _ _ _ hy5]; rfl)
              have f0 : w5.frozen? ⟨yb, 0, none⟩ = false := (by simp [World.frozen?, hy5])
              have f1 : w5.frozen? ⟨yb, 1, none⟩ = false := (by simp [World.frozen?, hy5])
              go_upto_region 30 with fail
              have hbx := boxed (.slice (some ⟨p.g, p.o, none⟩) p.ts.length p.c) (.int .i64 12) c0 c1
              have hp7 := pt_set yb 1 (.int .i64 12) (pt_set yb 0 (.slice (some ⟨p.g, p.o, none⟩) p.ts.length p.c) hp5 hyp) hyp
              have hBr7 := (hWr5.setCell (p := ⟨yb, 0, none⟩) hwy (.slice (some ⟨p.g, p.o, none⟩) p.ts.length p.c)).setCell (p := ⟨yb, 1, none⟩) hwy (.int .i64 12)
              generalize (w5.setCell ⟨yb, 0, none⟩ (.slice (some ⟨p.g, p.o, none⟩) p.ts.length p.c)).setCell ⟨yb, 1, none⟩ (.int .i64 12) = w7 at *
              have y0 := hbx.1
              have y1 := hbx.2
              clear hbx c0 c1 f0 f1 hp5 hWr5 hy5 hWr4 hys
              have hs7 := owns_below hs hBr7
              have hb7 : Below w.heap.size w w7 := hb.trans (hBr7.mono hb.size)
              have hrow := hs.lt
              go_upto_region 31 with (at_builtin; refine wpList_append_lies _ (by rfl) _ _ 65 (by rfl) w.heap.size 68 i0 _ 2 32 Tryz.underlying65 hi0 hz0 hz1 hz2 rfl (by omega) (.slice (some ⟨g, 0, none⟩) N cap) (N) _ (by rfl) (hs7.alloc _) ⟨w7.heap.size, 0, none⟩ 1 1 [_, _] (by rfl) (by rfl) (World.news_of_block (cs := #[_, _]) (t := 68) (fr := (0, 0)) (heap_alloc_new w7 _)) (by simp [Value.oneCell']) (by omega) (by unfold maxLen; omega) (by omega) (by have := hb7.size; simp; omega) (w7.heap.size + 1) (by simp) ?_; intro gg cap3 w8 hs8 hgrow hat hlt8)
              have hb8 : Below w.heap.size w w8 := grown_own (hb7.alloc hb7.size _) hgrow (fun j hj => (hrow j hj).1)
              have hh8 := held_step (lv := 12) (n := N + 1) (c := cap3) HH.out (M := L) (fun q h => h) hBr7 (fun k h => (hrow k h).2) hp7 hpg hgrow hat
              rw [show plsOf L ++ [.slice (some ⟨p.g, p.o, none⟩) p.ts.length p.c, .int .i64 12] = plsOf (L ++ [(p, 12)]) by rw [plsOf_app]; rfl] at hs8
              have hmap : (L ++ [((p, 12) : Pl)]).map tp = (f.take (k + 1)).foldl Ex.qpstep [] := by
                rw [HST.out, List.map_append]
                have h1 : (p.ts, 12) = Ex.qpart ⟨3, t, 0⟩ (([] : List Pl).map tp) := by rw [HU.out]; show _ = ((Ex.partL ⟨3, t, 0⟩ ((([] : List Pl).map tp).map Ex.nrm)).1, (12 : Int)); unfold Ex.partL; rw [if_neg (by dsimp only; decide), if_neg (by dsimp only; decide), if_pos rfl, Ex.map_nrm_fst, tp_fst]
                rw [← h1]; rfl
              have htt : Ex.tot ((L ++ [((p, 12) : Pl)]).map tp) ≤ 20 * (k + 1) := by
                have h1 := HTOT.out
                have h2 := HPL.out
                rw [hmap, HST.out, Ex.tot_app, show Ex.tot [Ex.qpart ⟨3, t, 0⟩ (([] : List Pl).map tp)] = (Ex.qpart ⟨3, t, 0⟩ (([] : List Pl).map tp)).1.length by simp [Ex.tot]]
                rw [show Ex.tot (([] : List Pl).map tp) = 0 from rfl] at h2
                omega
              have hl8 : (L ++ [((p, 12) : Pl)]).length = N + 1 := by rw [List.length_append, HNN.out]; rfl
              generalize L ++ [((p, 12) : Pl)] = L8 at *
              have hch8 : Ex.chk (L8.length : Nat) (f.drop (k + 1)) = 0 := by rw [hl8]; have h := HCK0.out; rwa [HNN.out] at h
              have hle8 : L8.length ≤ k + 1 := by omega
              clear hs7 hb7 hgrow hat hrow HST HCK0 HPL HTOT HH
              go_wp2_with fail
              go_roundw
              case rel => exact ⟨k + 1, L8, by omega, by go_num, hmap, hle8, hch8, htt, ⟨hh8.ok⟩, by rw [hl8]; exact hs8, hb8⟩
              case measure => simp [intOf]; omega
        · have hm8 : m ≤ 8 := by omega
          obtain ⟨sp, args, rfl, hal⟩ : ∃ sp args : List Pl, L = sp ++ args ∧ args.length = m := ⟨L.take (L.length - m), L.drop (L.length - m), (List.take_append_drop _ _).symm, by rw [List.length_drop]; have := HC.out.2.1; rw [he0] at this; omega⟩
          have HST := Lib.hid (show (f.take (k + 1)).foldl Ex.qpstep [] = sp.map tp ++ [Ex.qpart ⟨3, t, (m : Int)⟩ (args.map tp)] from HN.out.trans (by rw [List.map_append]; exact Ex.qpstep_app _ _ _ (by rw [he0, List.length_map]; omega)))
          have HPL := Lib.hid (Ex.qpart_len ⟨3, t, (m : Int)⟩ (args.map tp) HC.out.1 (by dsimp only; omega) (by rw [he0]; rw [List.length_map]; omega))
          have HCK0 := Lib.hid (show Ex.chk ((sp.length + 1 : Nat) : Int) (f.drop (k + 1)) = 0 by have h := HC.out.2.2; rw [he0] at h; rw [← h]; first | rfl | (congr 1; simp; done) | (congr 1; simp; omega))
          have hcall := qnd_any ⟨3, t, (m : Int)⟩ (by dsimp only; exact hLt) (by dsimp only; omega) (by dsimp only; omega)
          rw [show Ex.nd ⟨3, t, (m : Int)⟩ = (m : Int) from (if_pos HC.out.1).trans he0] at hcall
          clear HC he0 HN
          obtain ⟨N, hNe⟩ : ∃ N, (sp ++ args).length = N := ⟨_, rfl⟩
          obtain ⟨P, hPe⟩ : ∃ P, sp.length = P := ⟨_, rfl⟩
          have hNP : N = P + m := by rw [← hNe, ← hPe, List.length_append, hal]
          obtain ⟨g, cap, rfl, hgB, hgl, hn1, hn2, hcell⟩ := own_pos hs (by rw [hNe]; omega)
          have hx : ∀ j u, (plsOf args)[j]? = some u → wr.cell? ⟨g, P * 2 + j, none⟩ = some u := fun j u hu => by
            have hlt : j < args.length * 2 := by have := (List.getElem?_eq_some_iff.1 hu).1; rwa [plsOf_len] at this
            rw [hcell (P * 2 + j) (by rw [hNe]; omega), plsOf_app, List.getElem?_append_right (by rw [plsOf_len]; omega), plsOf_len, hPe, Nat.add_sub_cancel_left]
            exact hu
          rw [hNe] at hs hn1 hsl ⊢
          have HNN := Lib.hid hPe
          have HPT := Lib.hid (show (plsOf (sp ++ args)).take (P * 2) = plsOf sp by rw [plsOf_app, List.take_left' (by rw [plsOf_len, hPe])])
          have HAL := Lib.hid hal
          have HAK := Lib.hid (show ∀ p ∈ args, PtOk wr p.1 from fun p hp => (HH.out.ok p (List.mem_append_right _ hp)).1)
          have HAT := Lib.hid (show ∀ p ∈ args, p.1.ts.length ≤ 100000 from fun p hp => by
            have h1 := HTOT.out
            have h2 : p.1.ts.length ≤ Ex.tot (args.map tp) := by unfold Ex.tot; rw [List.map_map]; exact mem_sum_le (List.mem_map.2 ⟨p, hp, rfl⟩)
            rw [List.map_append, Ex.tot_app] at h1
            omega)
          have e1 : (N : Int) - (m : Int) = (P : Int) := by omega
          have hne : ¬ cap = P := by omega
          have e2 : N - P = args.length := by omega
          have hpN : P ≤ N := by omega
          have z1 : (P : Int) ≤ (cap : Int) := by omega
          have z3 : P ≤ cap := by omega
          have z4 : (P : Int) ≤ (N : Int) := by omega
          have z5 : (N : Int) ≤ (cap : Int) := by omega
          have hTl : 0 < args.length ∧ args.length ≤ 8 := by omega
          clear hcell hNe hPe hNP hal
          go_upto_region 8 with fail
          have hx0 := heap_alloc_new wr (.cells #[.int .i64 3, .string (str t), .int .u32 (m : Int)] 42)
          have hWr : Below wr.heap.size wr (wr.alloc (.cells #[.int .i64 3, .string (str t), .int .u32 (m : Int)] 42)) := (Below.refl _ _).alloc (Nat.le_refl _) _
          have hWs : wr.heap.size < (wr.alloc (.cells #[.int .i64 3, .string (str t), .int .u32 (m : Int)] 42)).heap.size := by simp
          generalize wr.alloc (.cells #[.int .i64 3, .string (str t), .int .u32 (m : Int)] 42) = W at *
          have k0 : W.cell? ⟨wr.heap.size, 0, none⟩ = some (.int .i64 3) := by rw [cell_of_row _ _ _ _ _ _ hx0]; rfl
          have k1 : W.cell? ⟨wr.heap.size, 1, none⟩ = some (.string (str t)) := by rw [cell_of_row _ _ _ _ _ _ hx0]; rfl
          have k2 : W.cell? ⟨wr.heap.size, 2, none⟩ = some (.int .u32 (m : Int)) := by rw [cell_of_row _ _ _ _ _ _ hx0]; rfl
          go_wp2_with fail
          with_reducible refine (hcall W).mono ?_
          clear hcall
          rintro e w2 ⟨rfl, hb2⟩
          have hx2 := (hb2.block wr.heap.size hWs).trans hx0
          have hWr2 : Below wr.heap.size wr w2 := hWr.trans (hb2.mono hWr.size)
          have hWs2 : wr.heap.size < w2.heap.size := Nat.lt_of_lt_of_le hWs hb2.size
          clear k0 k1 k2 hx0 hb2 hWr hWs
          have hoe := own_empty w2 w2.heap.size (Nat.le_refl _) 68 2
          have hgl2 : g < w2.heap.size := Nat.lt_of_lt_of_le hgl hWr2.size
          go_upto_region 10 with (at_builtin; refine wpList_append_lies _ (by rfl) _ _ 65 (by rfl) w2.heap.size 68 i0 _ 2 32 Tryz.underlying65 hi0 hz0 hz1 hz2 rfl (by omega) _ 0 _ (by rfl) hoe ⟨g, P * 2, none⟩ args.length (cap - P) (plsOf args) (by rfl) (by rw [plsOf_len]) (fun j u hj => by rw [addr_add]; exact cell_alloc _ hgl2 ((hWr2.cell (p := ⟨g, P * 2 + j, none⟩) hgl).trans (hx j u hj))) (plsOf_one _) hTl.1 (by unfold maxLen; omega) (by omega) (by simp) _ rfl ?_; intro gq capq w3 hq3 hgrowq hatq hltq)
          have hB3 : Below w2.heap.size w2 w3 := grown_own ((Below.refl _ _).alloc (Nat.le_refl _) _) hgrowq (fun j hj => (hoe.lt j hj).1)
          rw [List.nil_append, Nat.zero_add] at hq3
          obtain ⟨gq', capq', hqe, hgq, hglq, _, _, hcq⟩ := own_pos hq3 hTl.1
          obtain rfl : gq = gq' := by have h := hqe; simp at h; exact h.1
          have HE2 := Lib.hid e2
          have hvq : VAt w3 w3.heap.size (some ⟨gq, 0, none⟩) args := fun i hi => by
            have h := plsOf_get args i hi
            refine ⟨⟨gq, 0, rfl, hglq, ?_, ?_⟩, ((HAK.out _ (List.getElem_mem hi)).next hWr2).next hB3⟩
            · rw [Nat.zero_add, hcq _ (by omega)]; exact h.1
            · rw [Nat.zero_add, hcq _ (by omega)]; exact h.2
          clear e2 hx hoe hgrowq hatq hqe hcq hq3 hltq
          have hx3 := (hB3.block wr.heap.size hWs2).trans hx2
          have hWr3 : Below wr.heap.size wr w3 := hWr2.trans (hB3.mono hWr2.size)
          have hWs3 : wr.heap.size < w3.heap.size := Nat.lt_of_lt_of_le hWs2 hB3.size
          clear hWr2 hWs2 hx2 hB3
          go_upto_region 12 with fail
          have hy4 := heap_alloc_new w3 (.cells #[.slice none 0 0, .int .i64 12] 68)
          have hW34 : Below w3.heap.size w3 (w3.alloc (.cells #[.slice none 0 0, .int .i64 12] 68)) := (Below.refl _ _).alloc (Nat.le_refl _) _
          have hx4 := (hW34.block wr.heap.size hWs3).trans hx3
          have hWr4 : Below wr.heap.size wr (w3.alloc (.cells #[.slice none 0 0, .int .i64 12] 68)) := hWr3.trans (hW34.mono hWr3.size)
          have hys : w3.heap.size < (w3.alloc (.cells #[.slice none 0 0, .int .i64 12] 68)).heap.size := by simp
          have hvq4 := hvq.next hW34
          clear hvq
          generalize w3.alloc (.cells #[.slice none 0 0, .int .i64 12] 68) = w4 at *
          obtain ⟨yb, hyb⟩ : ∃ yb, w3.heap.size = yb := ⟨_, rfl⟩
          rw [hyb] at hy4 hys hWs3 ⊢
          have hwy : wr.heap.size ≤ yb := by omega
          clear hx3 hWr3 hW34 hyb
          have k0 : w4.cell? ⟨wr.heap.size, 0, none⟩ = some (.int .i64 3) := by rw [cell_of_row _ _ _ _ _ _ hx4]; rfl
          have k1 : w4.cell? ⟨wr.heap.size, 1, none⟩ = some (.string (str t)) := by rw [cell_of_row _ _ _ _ _ _ hx4]; rfl
          have k2 : w4.cell? ⟨wr.heap.size, 2, none⟩ = some (.int .u32 (m : Int)) := by rw [cell_of_row _ _ _ _ _ _ hx4]; rfl
          have hcal := qcall_any (some ⟨gq, 0, none⟩) capq t args w4 hvq4 (by omega) HAT.out
          unfold GotP at hcal
          generalize hR : Ex.callT t (args.map (fun p => p.1.ts)) = R at hcal
          have HR := Lib.hid hR
          clear hR
          go_upto_region 18 with fail
          go_wp2_with fail
          with_reducible refine hcal.mono ?_
          clear hcal
          rintro e w5 ⟨p, rfl, hu, hp5, hpg5, hb5⟩
          have HU := Lib.hid (hu.trans HR.out.symm)
          clear hu HR
          rw [Pt.v_def p]
          have hy5 := (hb5.block yb hys).trans hy4
          have hWr5 : Below wr.heap.size wr w5 := hWr4.trans (hb5.mono hWr4.size)
          have hpg : wr.heap.size ≤ p.g := Nat.le_trans hWr4.size hpg5
          have hyp : yb ≠ p.g := by omega
          clear k0 k1 k2 hx4 hb5 hy4 hpg5
          have c0 : w5.cell? ⟨yb, 0, none⟩ = some (.slice none 0 0) := (by rw [cell_of_row _ _ _ _ _ _ hy5]; rfl)
          have c1 : w5.cell? ⟨yb, 1, none⟩ = some (.int .i64 12) := (by rw [cell_of_row _ _ _ _ _ _ hy5]; rfl)
          have f0 : w5.frozen? ⟨yb, 0, none⟩ = false := (by simp [World.frozen?, hy5])
          have f1 : w5.frozen? ⟨yb, 1, none⟩ = false := (by simp [World.frozen?, hy5])
          go_upto_region 30 with fail
          have hbx := boxed (.slice (some ⟨p.g, p.o, none⟩) p.ts.length p.c) (.int .i64 12) c0 c1
          have hp7 := pt_set yb 1 (.int .i64 12) (pt_set yb 0 (.slice (some ⟨p.g, p.o, none⟩) p.ts.length p.c) hp5 hyp) hyp
          have hBr7 := (hWr5.setCell (p := ⟨yb, 0, none⟩) hwy (.slice (some ⟨p.g, p.o, none⟩) p.ts.length p.c)).setCell (p := ⟨yb, 1, none⟩) hwy (.int .i64 12)
          generalize (w5.setCell ⟨yb, 0, none⟩ (.slice (some ⟨p.g, p.o, none⟩) p.ts.length p.c)).setCell ⟨yb, 1, none⟩ (.int .i64 12) = w7 at *
          have y0 := hbx.1
          have y1 := hbx.2
          clear hbx c0 c1 f0 f1 hp5 hWr5 hy5 hWr4 hys
          have hs7 := owns_below hs hBr7
          replace hs7 := own_take hs7 hpN
          rw [HPT.out] at hs7
          have hb7 : Below w.heap.size w w7 := hb.trans (hBr7.mono hb.size)
          have hrow := hs.lt
          go_upto_region 31 with (at_builtin; refine wpList_append_lies _ (by rfl) _ _ 65 (by rfl) w.heap.size 68 i0 _ 2 32 Tryz.underlying65 hi0 hz0 hz1 hz2 rfl (by omega) (.slice (some ⟨g, 0, none⟩) P cap) (P) _ (by rfl) (hs7.alloc _) ⟨w7.heap.size, 0, none⟩ 1 1 [_, _] (by rfl) (by rfl) (World.news_of_block (cs := #[_, _]) (t := 68) (fr := (0, 0)) (heap_alloc_new w7 _)) (by simp [Value.oneCell']) (by omega) (by unfold maxLen; omega) (by omega) (by have := hb7.size; simp; omega) (w7.heap.size + 1) (by simp) ?_; intro gg cap3 w8 hs8 hgrow hat hlt8)
          have hb8 : Below w.heap.size w w8 := grown_own (hb7.alloc hb7.size _) hgrow (fun j hj => (hrow j hj).1)
          have hh8 := held_step (lv := 12) (n := P + 1) (c := cap3) HH.out (M := sp) (fun q h => List.mem_append_left _ h) hBr7 (fun k h => (hrow k h).2) hp7 hpg hgrow hat
          rw [show plsOf sp ++ [.slice (some ⟨p.g, p.o, none⟩) p.ts.length p.c, .int .i64 12] = plsOf (sp ++ [(p, 12)]) by rw [plsOf_app]; rfl] at hs8
          have hmap : (sp ++ [((p, 12) : Pl)]).map tp = (f.take (k + 1)).foldl Ex.qpstep [] := by
            rw [HST.out, List.map_append]
            have h1 : (p.ts, 12) = Ex.qpart ⟨3, t, (m : Int)⟩ (args.map tp) := by rw [HU.out]; show _ = ((Ex.partL ⟨3, t, (m : Int)⟩ ((args.map tp).map Ex.nrm)).1, (12 : Int)); unfold Ex.partL; rw [if_neg (by dsimp only; decide), if_neg (by dsimp only; decide), if_pos rfl, Ex.map_nrm_fst, tp_fst]
            rw [← h1]; rfl
          have htt : Ex.tot ((sp ++ [((p, 12) : Pl)]).map tp) ≤ 20 * (k + 1) := by
            have h1 := HTOT.out
            have h2 := HPL.out
            rw [hmap, HST.out, Ex.tot_app, show Ex.tot [Ex.qpart ⟨3, t, (m : Int)⟩ (args.map tp)] = (Ex.qpart ⟨3, t, (m : Int)⟩ (args.map tp)).1.length by simp [Ex.tot]]
            rw [List.map_append, Ex.tot_app] at h1
            omega
          have hl8 : (sp ++ [((p, 12) : Pl)]).length = P + 1 := by rw [List.length_append, HNN.out]; rfl
          generalize sp ++ [((p, 12) : Pl)] = L8 at *
          have hch8 : Ex.chk (L8.length : Nat) (f.drop (k + 1)) = 0 := by rw [hl8]; have h := HCK0.out; rwa [HNN.out] at h
          have hle8 : L8.length ≤ k + 1 := by omega
          clear hs7 hb7 hgrow hat hrow HST HCK0 HPL HTOT HH
          go_wp2_with fail
          go_roundw
          case rel => exact ⟨k + 1, L8, by omega, by go_num, hmap, hle8, hch8, htt, ⟨hh8.ok⟩, by rw [hl8]; exact hs8, hb8⟩
          case measure => simp [intOf]; omega
      · dsimp only at hLo hLt hd0 hd1 hd2
        obtain ⟨sp, args, rfl, hal⟩ : ∃ sp args : List Pl, L = sp ++ args ∧ args.length = 1 := ⟨L.take (L.length - 1), L.drop (L.length - 1), (List.take_append_drop _ _).symm, by rw [List.length_drop]; have := HC.out.2.1; rw [he0] at this; omega⟩
        have HST := Lib.hid (show (f.take (k + 1)).foldl Ex.qpstep [] = sp.map tp ++ [Ex.qpart ⟨4, [], 0⟩ (args.map tp)] from HN.out.trans (by rw [List.map_append]; exact Ex.qpstep_app _ _ _ (by rw [he0, List.length_map]; omega)))
        have HPL := Lib.hid (Ex.qpart_len ⟨4, [], 0⟩ (args.map tp) HC.out.1 (by dsimp only; omega) (by rw [he0]; rw [List.length_map]; omega))
        have HCK0 := Lib.hid (show Ex.chk ((sp.length + 1 : Nat) : Int) (f.drop (k + 1)) = 0 by have h := HC.out.2.2; rw [he0] at h; rw [← h]; first | rfl | (congr 1; simp; done) | (congr 1; simp; omega))
        have hcall := qnd_any ⟨4, [], 0⟩ (by dsimp only; simp) (by dsimp only; omega) (by dsimp only; omega)
        rw [show Ex.nd ⟨4, [], 0⟩ = 1 from (if_pos HC.out.1).trans he0] at hcall
        clear HC he0 HN
        obtain ⟨N, hNe⟩ : ∃ N, (sp ++ args).length = N := ⟨_, rfl⟩
        obtain ⟨P, hPe⟩ : ∃ P, sp.length = P := ⟨_, rfl⟩
        have hNP : N = P + 1 := by rw [← hNe, ← hPe, List.length_append, hal]
        obtain ⟨g, cap, rfl, hgB, hgl, hn1, hn2, hcell⟩ := own_pos hs (by rw [hNe]; omega)
        have hx : ∀ j u, (plsOf args)[j]? = some u → wr.cell? ⟨g, P * 2 + j, none⟩ = some u := fun j u hu => by
          have hlt : j < args.length * 2 := by have := (List.getElem?_eq_some_iff.1 hu).1; rwa [plsOf_len] at this
          rw [hcell (P * 2 + j) (by rw [hNe]; omega), plsOf_app, List.getElem?_append_right (by rw [plsOf_len]; omega), plsOf_len, hPe, Nat.add_sub_cancel_left]
          exact hu
        rw [hNe] at hs hn1 hsl ⊢
        have HNN := Lib.hid hPe
        have HPT := Lib.hid (show (plsOf (sp ++ args)).take (P * 2) = plsOf sp by rw [plsOf_app, List.take_left' (by rw [plsOf_len, hPe])])
        have HAL := Lib.hid hal
        have HAK := Lib.hid (show ∀ p ∈ args, PtOk wr p.1 from fun p hp => (HH.out.ok p (List.mem_append_right _ hp)).1)
        have HAT := Lib.hid (show ∀ p ∈ args, p.1.ts.length ≤ 100000 from fun p hp => by
          have h1 := HTOT.out
          have h2 : p.1.ts.length ≤ Ex.tot (args.map tp) := by unfold Ex.tot; rw [List.map_map]; exact mem_sum_le (List.mem_map.2 ⟨p, hp, rfl⟩)
          rw [List.map_append, Ex.tot_app] at h1
          omega)
        have e1 : (N : Int) - 1 = (P : Int) := by omega
        have hne : ¬ cap = P := by omega
        have e2 : N - P = args.length := by omega
        have hpN : P ≤ N := by omega
        have z1 : (P : Int) ≤ (cap : Int) := by omega
        have z3 : P ≤ cap := by omega
        have z4 : (P : Int) ≤ (N : Int) := by omega
        have z5 : (N : Int) ≤ (cap : Int) := by omega
        have hTl : 0 < args.length ∧ args.length ≤ 8 := by omega
        clear hcell hNe hPe hNP hal
        go_upto_region 8 with fail
        have hx0 := heap_alloc_new wr (.cells #[.int .i64 4, .string (str []), .int .u32 0] 42)
        have hWr : Below wr.heap.size wr (wr.alloc (.cells #[.int .i64 4, .string (str []), .int .u32 0] 42)) := (Below.refl _ _).alloc (Nat.le_refl _) _
        have hWs : wr.heap.size < (wr.alloc (.cells #[.int .i64 4, .string (str []), .int .u32 0] 42)).heap.size := by simp
        generalize wr.alloc (.cells #[.int .i64 4, .string (str []), .int .u32 0] 42) = W at *
        have k0 : W.cell? ⟨wr.heap.size, 0, none⟩ = some (.int .i64 4) := by rw [cell_of_row _ _ _ _ _ _ hx0]; rfl
        have k1 : W.cell? ⟨wr.heap.size, 1, none⟩ = some (.string (str [])) := by rw [cell_of_row _ _ _ _ _ _ hx0]; rfl
        have k2 : W.cell? ⟨wr.heap.size, 2, none⟩ = some (.int .u32 0) := by rw [cell_of_row _ _ _ _ _ _ hx0]; rfl
        go_wp2_with fail
        with_reducible refine (hcall W).mono ?_
        clear hcall
        rintro e w2 ⟨rfl, hb2⟩
        have hx2 := (hb2.block wr.heap.size hWs).trans hx0
        have hWr2 : Below wr.heap.size wr w2 := hWr.trans (hb2.mono hWr.size)
        have hWs2 : wr.heap.size < w2.heap.size := Nat.lt_of_lt_of_le hWs hb2.size
        clear k0 k1 k2 hx0 hb2 hWr hWs
        have hoe := own_empty w2 w2.heap.size (Nat.le_refl _) 68 2
        have hgl2 : g < w2.heap.size := Nat.lt_of_lt_of_le hgl hWr2.size
        go_upto_region 10 with (at_builtin; refine wpList_append_lies _ (by rfl) _ _ 65 (by rfl) w2.heap.size 68 i0 _ 2 32 Tryz.underlying65 hi0 hz0 hz1 hz2 rfl (by omega) _ 0 _ (by rfl) hoe ⟨g, P * 2, none⟩ args.length (cap - P) (plsOf args) (by rfl) (by rw [plsOf_len]) (fun j u hj => by rw [addr_add]; exact cell_alloc _ hgl2 ((hWr2.cell (p := ⟨g, P * 2 + j, none⟩) hgl).trans (hx j u hj))) (plsOf_one _) hTl.1 (by unfold maxLen; omega) (by omega) (by simp) _ rfl ?_; intro gq capq w3 hq3 hgrowq hatq hltq)
        have hB3 : Below w2.heap.size w2 w3 := grown_own ((Below.refl _ _).alloc (Nat.le_refl _) _) hgrowq (fun j hj => (hoe.lt j hj).1)
        rw [List.nil_append, Nat.zero_add] at hq3
        obtain ⟨gq', capq', hqe, hgq, hglq, _, _, hcq⟩ := own_pos hq3 hTl.1
        obtain rfl : gq = gq' := by have h := hqe; simp at h; exact h.1
        have HE2 := Lib.hid e2
        have hvq : VAt w3 w3.heap.size (some ⟨gq, 0, none⟩) args := fun i hi => by
          have h := plsOf_get args i hi
          refine ⟨⟨gq, 0, rfl, hglq, ?_, ?_⟩, ((HAK.out _ (List.getElem_mem hi)).next hWr2).next hB3⟩
          · rw [Nat.zero_add, hcq _ (by omega)]; exact h.1
          · rw [Nat.zero_add, hcq _ (by omega)]; exact h.2
        clear e2 hx hoe hgrowq hatq hqe hcq hq3 hltq
        have hx3 := (hB3.block wr.heap.size hWs2).trans hx2
        have hWr3 : Below wr.heap.size wr w3 := hWr2.trans (hB3.mono hWr2.size)
        have hWs3 : wr.heap.size < w3.heap.size := Nat.lt_of_lt_of_le hWs2 hB3.size
        clear hWr2 hWs2 hx2 hB3
        go_upto_region 12 with fail
        have hy4 := heap_alloc_new w3 (.cells #[.slice none 0 0, .int .i64 12] 68)
        have hW34 : Below w3.heap.size w3 (w3.alloc (.cells #[.slice none 0 0, .int .i64 12] 68)) := (Below.refl _ _).alloc (Nat.le_refl _) _
        have hx4 := (hW34.block wr.heap.size hWs3).trans hx3
        have hWr4 : Below wr.heap.size wr (w3.alloc (.cells #[.slice none 0 0, .int .i64 12] 68)) := hWr3.trans (hW34.mono hWr3.size)
        have hys : w3.heap.size < (w3.alloc (.cells #[.slice none 0 0, .int .i64 12] 68)).heap.size := by simp
        have hvq4 := hvq.next hW34
        clear hvq
        generalize w3.alloc (.cells #[.slice none 0 0, .int .i64 12] 68) = w4 at *
        obtain ⟨yb, hyb⟩ : ∃ yb, w3.heap.size = yb := ⟨_, rfl⟩
        rw [hyb] at hy4 hys hWs3 ⊢
        have hwy : wr.heap.size ≤ yb := by omega
        clear hx3 hWr3 hW34 hyb
        have k0 : w4.cell? ⟨wr.heap.size, 0, none⟩ = some (.int .i64 4) := by rw [cell_of_row _ _ _ _ _ _ hx4]; rfl
        have k1 : w4.cell? ⟨wr.heap.size, 1, none⟩ = some (.string (str [])) := by rw [cell_of_row _ _ _ _ _ _ hx4]; rfl
        have k2 : w4.cell? ⟨wr.heap.size, 2, none⟩ = some (.int .u32 0) := by rw [cell_of_row _ _ _ _ _ _ hx4]; rfl
        have hcal := qcall_any (some ⟨gq, 0, none⟩) capq [108, 111, 97, 100] args w4 hvq4 (by omega) HAT.out
        unfold GotP at hcal
        rw [show str [108, 111, 97, 100] = (⟨#[108, 111, 97, 100]⟩ : ByteArray) from rfl] at hcal
        generalize hR : Ex.callT [108, 111, 97, 100] (args.map (fun p => p.1.ts)) = R at hcal
        have HR := Lib.hid hR
        clear hR
        go_upto_region 20 with fail
        go_wp2_with fail
        with_reducible refine hcal.mono ?_
        clear hcal
        rintro e w5 ⟨p, rfl, hu, hp5, hpg5, hb5⟩
        have HU := Lib.hid (hu.trans HR.out.symm)
        clear hu HR
        rw [Pt.v_def p]
        have hy5 := (hb5.block yb hys).trans hy4
        have hWr5 : Below wr.heap.size wr w5 := hWr4.trans (hb5.mono hWr4.size)
        have hpg : wr.heap.size ≤ p.g := Nat.le_trans hWr4.size hpg5
        have hyp : yb ≠ p.g := by omega
        clear k0 k1 k2 hx4 hb5 hy4 hpg5
        have c0 : w5.cell? ⟨yb, 0, none⟩ = some (.slice none 0 0) := (by rw [cell_of_row _ _ _ _ _ _ hy5]; rfl)
        have c1 : w5.cell? ⟨yb, 1, none⟩ = some (.int .i64 12) := (by rw [cell_of_row _ _ _ _ _ _ hy5]; rfl)
        have f0 : w5.frozen? ⟨yb, 0, none⟩ = false := (by simp [World.frozen?, hy5])
        have f1 : w5.frozen? ⟨yb, 1, none⟩ = false := (by simp [World.frozen?, hy5])
        go_upto_region 30 with fail
        have hbx := boxed (.slice (some ⟨p.g, p.o, none⟩) p.ts.length p.c) (.int .i64 12) c0 c1
        have hp7 := pt_set yb 1 (.int .i64 12) (pt_set yb 0 (.slice (some ⟨p.g, p.o, none⟩) p.ts.length p.c) hp5 hyp) hyp
        have hBr7 := (hWr5.setCell (p := ⟨yb, 0, none⟩) hwy (.slice (some ⟨p.g, p.o, none⟩) p.ts.length p.c)).setCell (p := ⟨yb, 1, none⟩) hwy (.int .i64 12)
        generalize (w5.setCell ⟨yb, 0, none⟩ (.slice (some ⟨p.g, p.o, none⟩) p.ts.length p.c)).setCell ⟨yb, 1, none⟩ (.int .i64 12) = w7 at *
        have y0 := hbx.1
        have y1 := hbx.2
        clear hbx c0 c1 f0 f1 hp5 hWr5 hy5 hWr4 hys
        have hs7 := owns_below hs hBr7
        replace hs7 := own_take hs7 hpN
        rw [HPT.out] at hs7
        have hb7 : Below w.heap.size w w7 := hb.trans (hBr7.mono hb.size)
        have hrow := hs.lt
        go_upto_region 31 with (at_builtin; refine wpList_append_lies _ (by rfl) _ _ 65 (by rfl) w.heap.size 68 i0 _ 2 32 Tryz.underlying65 hi0 hz0 hz1 hz2 rfl (by omega) (.slice (some ⟨g, 0, none⟩) P cap) (P) _ (by rfl) (hs7.alloc _) ⟨w7.heap.size, 0, none⟩ 1 1 [_, _] (by rfl) (by rfl) (World.news_of_block (cs := #[_, _]) (t := 68) (fr := (0, 0)) (heap_alloc_new w7 _)) (by simp [Value.oneCell']) (by omega) (by unfold maxLen; omega) (by omega) (by have := hb7.size; simp; omega) (w7.heap.size + 1) (by simp) ?_; intro gg cap3 w8 hs8 hgrow hat hlt8)
        have hb8 : Below w.heap.size w w8 := grown_own (hb7.alloc hb7.size _) hgrow (fun j hj => (hrow j hj).1)
        have hh8 := held_step (lv := 12) (n := P + 1) (c := cap3) HH.out (M := sp) (fun q h => List.mem_append_left _ h) hBr7 (fun k h => (hrow k h).2) hp7 hpg hgrow hat
        rw [show plsOf sp ++ [.slice (some ⟨p.g, p.o, none⟩) p.ts.length p.c, .int .i64 12] = plsOf (sp ++ [(p, 12)]) by rw [plsOf_app]; rfl] at hs8
        have hmap : (sp ++ [((p, 12) : Pl)]).map tp = (f.take (k + 1)).foldl Ex.qpstep [] := by
          rw [HST.out, List.map_append]
          have h1 : (p.ts, 12) = Ex.qpart ⟨4, [], 0⟩ (args.map tp) := by rw [HU.out]; show _ = ((Ex.partL ⟨4, [], 0⟩ ((args.map tp).map Ex.nrm)).1, (12 : Int)); unfold Ex.partL; rw [if_neg (by decide), if_neg (by decide), if_neg (by decide), if_pos rfl, Ex.map_nrm_fst, tp_fst]
          rw [← h1]; rfl
        have htt : Ex.tot ((sp ++ [((p, 12) : Pl)]).map tp) ≤ 20 * (k + 1) := by
          have h1 := HTOT.out
          have h2 := HPL.out
          rw [hmap, HST.out, Ex.tot_app, show Ex.tot [Ex.qpart ⟨4, [], 0⟩ (args.map tp)] = (Ex.qpart ⟨4, [], 0⟩ (args.map tp)).1.length by simp [Ex.tot]]
          rw [List.map_append, Ex.tot_app] at h1
          omega
        have hl8 : (sp ++ [((p, 12) : Pl)]).length = P + 1 := by rw [List.length_append, HNN.out]; rfl
        generalize sp ++ [((p, 12) : Pl)] = L8 at *
        have hch8 : Ex.chk (L8.length : Nat) (f.drop (k + 1)) = 0 := by rw [hl8]; have h := HCK0.out; rwa [HNN.out] at h
        have hle8 : L8.length ≤ k + 1 := by omega
        clear hs7 hb7 hgrow hat hrow HST HCK0 HPL HTOT HH
        go_wp2_with fail
        go_roundw
        case rel => exact ⟨k + 1, L8, by omega, by go_num, hmap, hle8, hch8, htt, ⟨hh8.ok⟩, by rw [hl8]; exact hs8, hb8⟩
        case measure => simp [intOf]; omega
      · dsimp only at hLo hLt hd0 hd1 hd2
        rcases hs.2 with ⟨rfl, hz⟩ | ⟨g, cap, cur, rfl, hB, hgg, hn1, hn2, hsz, htk⟩
        · have HST := Lib.hid (show (f.take (k + 1)).foldl Ex.qpstep [] = L.map tp ++ [Ex.qpart ⟨5, [], 0⟩ (([] : List Pl).map tp)] from HN.out.trans (Ex.qpstep_zero _ _ (by rw [he0]; rfl)))
          have HPL := Lib.hid (Ex.qpart_len ⟨5, [], 0⟩ (([] : List Pl).map tp) HC.out.1 (by dsimp only; omega) (by rw [he0]; rfl))
          have HCK0 := Lib.hid (show Ex.chk ((L.length + 1 : Nat) : Int) (f.drop (k + 1)) = 0 by have h := HC.out.2.2; rw [he0] at h; rw [← h]; first | rfl | (congr 1; simp; done) | (congr 1; simp; omega))
          have hcall := qnd_any ⟨5, [], 0⟩ (by dsimp only; simp) (by dsimp only; omega) (by dsimp only; omega)
          rw [show Ex.nd ⟨5, [], 0⟩ = 0 from (if_pos HC.out.1).trans he0] at hcall
          clear HC he0 HN
          rw [hz] at hs hsl
          have HNN := Lib.hid hz
          clear hz
          go_upto_region 8 with fail
          have hx0 := heap_alloc_new wr (.cells #[.int .i64 5, .string (str []), .int .u32 0] 42)
          have hWr : Below wr.heap.size wr (wr.alloc (.cells #[.int .i64 5, .string (str []), .int .u32 0] 42)) := (Below.refl _ _).alloc (Nat.le_refl _) _
          have hWs : wr.heap.size < (wr.alloc (.cells #[.int .i64 5, .string (str []), .int .u32 0] 42)).heap.size := by simp
          generalize wr.alloc (.cells #[.int .i64 5, .string (str []), .int .u32 0] 42) = W at *
          have k0 : W.cell? ⟨wr.heap.size, 0, none⟩ = some (.int .i64 5) := by rw [cell_of_row _ _ _ _ _ _ hx0]; rfl
          have k1 : W.cell? ⟨wr.heap.size, 1, none⟩ = some (.string (str [])) := by rw [cell_of_row _ _ _ _ _ _ hx0]; rfl
          have k2 : W.cell? ⟨wr.heap.size, 2, none⟩ = some (.int .u32 0) := by rw [cell_of_row _ _ _ _ _ _ hx0]; rfl
          go_wp2_with fail
          with_reducible refine (hcall W).mono ?_
          clear hcall
          rintro e w2 ⟨rfl, hb2⟩
          have hx2 := (hb2.block wr.heap.size hWs).trans hx0
          have hWr2 : Below wr.heap.size wr w2 := hWr.trans (hb2.mono hWr.size)
          have hWs2 : wr.heap.size < w2.heap.size := Nat.lt_of_lt_of_le hWs hb2.size
          clear k0 k1 k2 hx0 hb2 hWr hWs
          go_upto_region 10 with fail
          have hB3 : Below w2.heap.size w2 (w2.alloc (.cells #[] 68)) := (Below.refl _ _).alloc (Nat.le_refl _) _
          generalize w2.alloc (.cells #[] 68) = w3 at *
          have hx3 := (hB3.block wr.heap.size hWs2).trans hx2
          have hWr3 : Below wr.heap.size wr w3 := hWr2.trans (hB3.mono hWr2.size)
          have hWs3 : wr.heap.size < w3.heap.size := Nat.lt_of_lt_of_le hWs2 hB3.size
          clear hWr2 hWs2 hx2 hB3
          go_upto_region 12 with fail
          have hy4 := heap_alloc_new w3 (.cells #[.slice none 0 0, .int .i64 12] 68)
          have hW34 : Below w3.heap.size w3 (w3.alloc (.cells #[.slice none 0 0, .int .i64 12] 68)) := (Below.refl _ _).alloc (Nat.le_refl _) _
          have hx4 := (hW34.block wr.heap.size hWs3).trans hx3
          have hWr4 : Below wr.heap.size wr (w3.alloc (.cells #[.slice none 0 0, .int .i64 12] 68)) := hWr3.trans (hW34.mono hWr3.size)
          have hys : w3.heap.size < (w3.alloc (.cells #[.slice none 0 0, .int .i64 12] 68)).heap.size := by simp
          generalize w3.alloc (.cells #[.slice none 0 0, .int .i64 12] 68) = w4 at *
          obtain ⟨yb, hyb⟩ : ∃ yb, w3.heap.size = yb := ⟨_, rfl⟩
          rw [hyb] at hy4 hys hWs3 ⊢
          have hwy : wr.heap.size ≤ yb := by omega
          clear hx3 hWr3 hW34 hyb
          have k0 : w4.cell? ⟨wr.heap.size, 0, none⟩ = some (.int .i64 5) := by rw [cell_of_row _ _ _ _ _ _ hx4]; rfl
          have k1 : w4.cell? ⟨wr.heap.size, 1, none⟩ = some (.string (str [])) := by rw [cell_of_row _ _ _ _ _ _ hx4]; rfl
          have k2 : w4.cell? ⟨wr.heap.size, 2, none⟩ = some (.int .u32 0) := by rw [cell_of_row _ _ _ _ _ _ hx4]; rfl
          have hcal := qcall_any none 0 [105, 110] ([] : List Pl) w4 (VAt.nil w4 none) (by simp) (fun p hp => by simp at hp)
          unfold GotP at hcal
          simp only [List.length_nil] at hcal
          rw [show str [105, 110] = (⟨#[105, 110]⟩ : ByteArray) from rfl] at hcal
          generalize hR : Ex.callT [105, 110] (([] : List Pl).map (fun p => p.1.ts)) = R at hcal
          have HR := Lib.hid hR
          clear hR
          go_upto_region 22 with fail
          go_wp2_with fail
          with_reducible refine hcal.mono ?_
          clear hcal
          rintro e w5 ⟨p, rfl, hu, hp5, hpg5, hb5⟩
          have HU := Lib.hid (hu.trans HR.out.symm)
          clear hu HR
          rw [Pt.v_def p]
          have hy5 := (hb5.block yb hys).trans hy4
          have hWr5 : Below wr.heap.size wr w5 := hWr4.trans (hb5.mono hWr4.size)
          have hpg : wr.heap.size ≤ p.g := Nat.le_trans hWr4.size hpg5
          have hyp : yb ≠ p.g := by omega
          clear k0 k1 k2 hx4 hb5 hy4 hpg5
          have c0 : w5.cell? ⟨yb, 0, none⟩ = some (.slice none 0 0) := (by rw [cell_of_row _ _ _ _ _ _ hy5]; rfl)
          have c1 : w5.cell? ⟨yb, 1, none⟩ = some (.int .i64 12) := (by rw [cell_of_row _ _ _ _ _ _ hy5]; rfl)
          have f0 : w5.frozen? ⟨yb, 0, none⟩ = false := (by simp [World.frozen?, hy5])
          have f1 : w5.frozen? ⟨yb, 1, none⟩ = false := (by simp [World.frozen?, hy5])
          go_upto_region 30 with fail
          have hbx := boxed (.slice (some ⟨p.g, p.o, none⟩) p.ts.length p.c) (.int .i64 12) c0 c1
          have hp7 := pt_set yb 1 (.int .i64 12) (pt_set yb 0 (.slice (some ⟨p.g, p.o, none⟩) p.ts.length p.c) hp5 hyp) hyp
          have hBr7 := (hWr5.setCell (p := ⟨yb, 0, none⟩) hwy (.slice (some ⟨p.g, p.o, none⟩) p.ts.length p.c)).setCell (p := ⟨yb, 1, none⟩) hwy (.int .i64 12)
          generalize (w5.setCell ⟨yb, 0, none⟩ (.slice (some ⟨p.g, p.o, none⟩) p.ts.length p.c)).setCell ⟨yb, 1, none⟩ (.int .i64 12) = w7 at *
          have y0 := hbx.1
          have y1 := hbx.2
          clear hbx c0 c1 f0 f1 hp5 hWr5 hy5 hWr4 hys
          have hs7 := owns_below hs hBr7
          have hb7 : Below w.heap.size w w7 := hb.trans (hBr7.mono hb.size)
          have hrow := hs.lt
          go_upto_region 31 with (at_builtin; refine wpList_append_lies _ (by rfl) _ _ 65 (by rfl) w.heap.size 68 i0 _ 2 32 Tryz.underlying65 hi0 hz0 hz1 hz2 rfl (by omega) (.slice none 0 0) (0) _ (by rfl) (hs7.alloc _) ⟨w7.heap.size, 0, none⟩ 1 1 [_, _] (by rfl) (by rfl) (World.news_of_block (cs := #[_, _]) (t := 68) (fr := (0, 0)) (heap_alloc_new w7 _)) (by simp [Value.oneCell']) (by omega) (by unfold maxLen; omega) (by omega) (by have := hb7.size; simp; omega) (w7.heap.size + 1) (by simp) ?_; intro gg cap3 w8 hs8 hgrow hat hlt8)
          have hb8 : Below w.heap.size w w8 := grown_own (hb7.alloc hb7.size _) hgrow (fun j hj => (hrow j hj).1)
          have hh8 := held_step (lv := 12) (n := 0 + 1) (c := cap3) HH.out (M := L) (fun q h => h) hBr7 (fun k h => (hrow k h).2) hp7 hpg hgrow hat
          rw [show plsOf L ++ [.slice (some ⟨p.g, p.o, none⟩) p.ts.length p.c, .int .i64 12] = plsOf (L ++ [(p, 12)]) by rw [plsOf_app]; rfl] at hs8
          have hmap : (L ++ [((p, 12) : Pl)]).map tp = (f.take (k + 1)).foldl Ex.qpstep [] := by
            rw [HST.out, List.map_append]
            have h1 : (p.ts, 12) = Ex.qpart ⟨5, [], 0⟩ (([] : List Pl).map tp) := by rw [HU.out]; rfl
            rw [← h1]; rfl
          have htt : Ex.tot ((L ++ [((p, 12) : Pl)]).map tp) ≤ 20 * (k + 1) := by
            have h1 := HTOT.out
            have h2 := HPL.out
            rw [hmap, HST.out, Ex.tot_app, show Ex.tot [Ex.qpart ⟨5, [], 0⟩ (([] : List Pl).map tp)] = (Ex.qpart ⟨5, [], 0⟩ (([] : List Pl).map tp)).1.length by simp [Ex.tot]]
            rw [show Ex.tot (([] : List Pl).map tp) = 0 from rfl] at h2
            omega
          have hl8 : (L ++ [((p, 12) : Pl)]).length = 0 + 1 := by rw [List.length_append, HNN.out]; rfl
          generalize L ++ [((p, 12) : Pl)] = L8 at *
          have hch8 : Ex.chk (L8.length : Nat) (f.drop (k + 1)) = 0 := by rw [hl8]; have h := HCK0.out; rwa [HNN.out] at h
          have hle8 : L8.length ≤ k + 1 := by omega
          clear hs7 hb7 hgrow hat hrow HST HCK0 HPL HTOT HH
          go_wp2_with fail
          go_roundw
          case rel => exact ⟨k + 1, L8, by omega, by go_num, hmap, hle8, hch8, htt, ⟨hh8.ok⟩, by rw [hl8]; exact hs8, hb8⟩
          case measure => simp [intOf]; omega
        · have hgl : g < wr.heap.size := (Array.getElem?_eq_some_iff.1 hgg).1
          by_cases hcap : cap = L.length
          · have HST := Lib.hid (show (f.take (k + 1)).foldl Ex.qpstep [] = L.map tp ++ [Ex.qpart ⟨5, [], 0⟩ (([] : List Pl).map tp)] from HN.out.trans (Ex.qpstep_zero _ _ (by rw [he0]; rfl)))
            have HPL := Lib.hid (Ex.qpart_len ⟨5, [], 0⟩ (([] : List Pl).map tp) HC.out.1 (by dsimp only; omega) (by rw [he0]; rfl))
            have HCK0 := Lib.hid (show Ex.chk ((L.length + 1 : Nat) : Int) (f.drop (k + 1)) = 0 by have h := HC.out.2.2; rw [he0] at h; rw [← h]; first | rfl | (congr 1; simp; done) | (congr 1; simp; omega))
            have hcall := qnd_any ⟨5, [], 0⟩ (by dsimp only; simp) (by dsimp only; omega) (by dsimp only; omega)
            rw [show Ex.nd ⟨5, [], 0⟩ = 0 from (if_pos HC.out.1).trans he0] at hcall
            clear HC he0 HN
            obtain ⟨N, hNe⟩ : ∃ N, L.length = N := ⟨_, rfl⟩
            rw [hNe] at hs hn1 hsl hcap ⊢
            have HNN := Lib.hid hNe
            clear hNe hgg htk hsz hB
            have hcap2 := hcap.symm
            clear hcap
            subst hcap2
            go_upto_region 8 with fail
            have hx0 := heap_alloc_new wr (.cells #[.int .i64 5, .string (str []), .int .u32 0] 42)
            have hWr : Below wr.heap.size wr (wr.alloc (.cells #[.int .i64 5, .string (str []), .int .u32 0] 42)) := (Below.refl _ _).alloc (Nat.le_refl _) _
            have hWs : wr.heap.size < (wr.alloc (.cells #[.int .i64 5, .string (str []), .int .u32 0] 42)).heap.size := by simp
            generalize wr.alloc (.cells #[.int .i64 5, .string (str []), .int .u32 0] 42) = W at *
            have k0 : W.cell? ⟨wr.heap.size, 0, none⟩ = some (.int .i64 5) := by rw [cell_of_row _ _ _ _ _ _ hx0]; rfl
            have k1 : W.cell? ⟨wr.heap.size, 1, none⟩ = some (.string (str [])) := by rw [cell_of_row _ _ _ _ _ _ hx0]; rfl
            have k2 : W.cell? ⟨wr.heap.size, 2, none⟩ = some (.int .u32 0) := by rw [cell_of_row _ _ _ _ _ _ hx0]; rfl
            go_wp2_with fail
            with_reducible refine (hcall W).mono ?_
            clear hcall
            rintro e w2 ⟨rfl, hb2⟩
            have hx2 := (hb2.block wr.heap.size hWs).trans hx0
            have hWr2 : Below wr.heap.size wr w2 := hWr.trans (hb2.mono hWr.size)
            have hWs2 : wr.heap.size < w2.heap.size := Nat.lt_of_lt_of_le hWs hb2.size
            clear k0 k1 k2 hx0 hb2 hWr hWs
            go_upto_region 10 with fail
            have hB3 : Below w2.heap.size w2 (w2.alloc (.cells #[] 68)) := (Below.refl _ _).alloc (Nat.le_refl _) _
            generalize w2.alloc (.cells #[] 68) = w3 at *
            have hx3 := (hB3.block wr.heap.size hWs2).trans hx2
            have hWr3 : Below wr.heap.size wr w3 := hWr2.trans (hB3.mono hWr2.size)
            have hWs3 : wr.heap.size < w3.heap.size := Nat.lt_of_lt_of_le hWs2 hB3.size
            clear hWr2 hWs2 hx2 hB3
            go_upto_region 12 with fail
            have hy4 := heap_alloc_new w3 (.cells #[.slice none 0 0, .int .i64 12] 68)
            have hW34 : Below w3.heap.size w3 (w3.alloc (.cells #[.slice none 0 0, .int .i64 12] 68)) := (Below.refl _ _).alloc (Nat.le_refl _) _
            have hx4 := (hW34.block wr.heap.size hWs3).trans hx3
            have hWr4 : Below wr.heap.size wr (w3.alloc (.cells #[.slice none 0 0, .int .i64 12] 68)) := hWr3.trans (hW34.mono hWr3.size)
            have hys : w3.heap.size < (w3.alloc (.cells #[.slice none 0 0, .int .i64 12] 68)).heap.size := by simp
            generalize w3.alloc (.cells #[.slice none 0 0, .int .i64 12] 68) = w4 at *
            obtain ⟨yb, hyb⟩ : ∃ yb, w3.heap.size = yb := ⟨_, rfl⟩
            rw [hyb] at hy4 hys hWs3 ⊢
            have hwy : wr.heap.size ≤ yb := by omega
            clear hx3 hWr3 hW34 hyb
            have k0 : w4.cell? ⟨wr.heap.size, 0, none⟩ = some (.int .i64 5) := by rw [cell_of_row _ _ _ _ _ _ hx4]; rfl
            have k1 : w4.cell? ⟨wr.heap.size, 1, none⟩ = some (.string (str [])) := by rw [cell_of_row _ _ _ _ _ _ hx4]; rfl
            have k2 : w4.cell? ⟨wr.heap.size, 2, none⟩ = some (.int .u32 0) := by rw [cell_of_row _ _ _ _ _ _ hx4]; rfl
            have hcal := qcall_any none 0 [105, 110] ([] : List Pl) w4 (VAt.nil w4 none) (by simp) (fun p hp => by simp at hp)
            unfold GotP at hcal
            simp only [List.length_nil] at hcal
            rw [show str [105, 110] = (⟨#[105, 110]⟩ : ByteArray) from rfl] at hcal
            generalize hR : Ex.callT [105, 110] (([] : List Pl).map (fun p => p.1.ts)) = R at hcal
            have HR := Lib.hid hR
            clear hR
            go_upto_region 22 with fail
            go_wp2_with fail
            with_reducible refine hcal.mono ?_
            clear hcal
            rintro e w5 ⟨p, rfl, hu, hp5, hpg5, hb5⟩
            have HU := Lib.hid (hu.trans HR.out.symm)
            clear hu HR
            rw [Pt.v_def p]
            have hy5 := (hb5.block yb hys).trans hy4
            have hWr5 : Below wr.heap.size wr w5 := hWr4.trans (hb5.mono hWr4.size)
            have hpg : wr.heap.size ≤ p.g := Nat.le_trans hWr4.size hpg5
            have hyp : yb ≠ p.g := by omega
            clear k0 k1 k2 hx4 hb5 hy4 hpg5
            have c0 : w5.cell? ⟨yb, 0, none⟩ = some (.slice none 0 0) := (by rw [cell_of_row _ _ _ _ _ _ hy5]; rfl)
            have c1 : w5.cell? ⟨yb, 1, none⟩ = some (.int .i64 12) := (by rw [cell_of_row _ _ _ _ _ _ hy5]; rfl)
            have f0 : w5.frozen? ⟨yb, 0, none⟩ = false := (by simp [World.frozen?, hy5])
            have f1 : w5.frozen? ⟨yb, 1, none⟩ = false := (by simp [World.frozen?, hy5])
            go_upto_region 30 with fail
            have hbx := boxed (.slice (some ⟨p.g, p.o, none⟩) p.ts.length p.c) (.int .i64 12) c0 c1
            have hp7 := pt_set yb 1 (.int .i64 12) (pt_set yb 0 (.slice (some ⟨p.g, p.o, none⟩) p.ts.length p.c) hp5 hyp) hyp
            have hBr7 := (hWr5.setCell (p := ⟨yb, 0, none⟩) hwy (.slice (some ⟨p.g, p.o, none⟩) p.ts.length p.c)).setCell (p := ⟨yb, 1, none⟩) hwy (.int .i64 12)
            generalize (w5.setCell ⟨yb, 0, none⟩ (.slice (some ⟨p.g, p.o, none⟩) p.ts.length p.c)).setCell ⟨yb, 1, none⟩ (.int .i64 12) = w7 at *
            have y0 := hbx.1
            have y1 := hbx.2
            clear hbx c0 c1 f0 f1 hp5 hWr5 hy5 hWr4 hys
            have hs7 := owns_below hs hBr7
            have hb7 : Below w.heap.size w w7 := hb.trans (hBr7.mono hb.size)
            have hrow := hs.lt
            go_upto_region 31 with (at_builtin; refine wpList_append_lies _ (by rfl) _ _ 65 (by rfl) w.heap.size 68 i0 _ 2 32 Tryz.underlying65 hi0 hz0 hz1 hz2 rfl (by omega) (.slice (some ⟨g, 0, none⟩) N N) (N) _ (by rfl) (hs7.alloc _) ⟨w7.heap.size, 0, none⟩ 1 1 [_, _] (by rfl) (by rfl) (World.news_of_block (cs := #[_, _]) (t := 68) (fr := (0, 0)) (heap_alloc_new w7 _)) (by simp [Value.oneCell']) (by omega) (by unfold maxLen; omega) (by omega) (by have := hb7.size; simp; omega) (w7.heap.size + 1) (by simp) ?_; intro gg cap3 w8 hs8 hgrow hat hlt8)
            have hb8 : Below w.heap.size w w8 := grown_own (hb7.alloc hb7.size _) hgrow (fun j hj => (hrow j hj).1)
            have hh8 := held_step (lv := 12) (n := N + 1) (c := cap3) HH.out (M := L) (fun q h => h) hBr7 (fun k h => (hrow k h).2) hp7 hpg hgrow hat
            rw [show plsOf L ++ [.slice (some ⟨p.g, p.o, none⟩) p.ts.length p.c, .int .i64 12] = plsOf (L ++ [(p, 12)]) by rw [plsOf_app]; rfl] at hs8
            have hmap : (L ++ [((p, 12) : Pl)]).map tp = (f.take (k + 1)).foldl Ex.qpstep [] := by
              rw [HST.out, List.map_append]
              have h1 : (p.ts, 12) = Ex.qpart ⟨5, [], 0⟩ (([] : List Pl).map tp) := by rw [HU.out]; rfl
              rw [← h1]; rfl
            have htt : Ex.tot ((L ++ [((p, 12) : Pl)]).map tp) ≤ 20 * (k + 1) := by
              have h1 := HTOT.out
              have h2 := HPL.out
              rw [hmap, HST.out, Ex.tot_app, show Ex.tot [Ex.qpart ⟨5, [], 0⟩ (([] : List Pl).map tp)] = (Ex.qpart ⟨5, [], 0⟩ (([] : List Pl).map tp)).1.length by simp [Ex.tot]]
              rw [show Ex.tot (([] : List Pl).map tp) = 0 from rfl] at h2
              omega
            have hl8 : (L ++ [((p, 12) : Pl)]).length = N + 1 := by rw [List.length_append, HNN.out]; rfl
            generalize L ++ [((p, 12) : Pl)] = L8 at *
            have hch8 : Ex.chk (L8.length : Nat) (f.drop (k + 1)) = 0 := by rw [hl8]; have h := HCK0.out; rwa [HNN.out] at h
            have hle8 : L8.length ≤ k + 1 := by omega
            clear hs7 hb7 hgrow hat hrow HST HCK0 HPL HTOT HH
            go_wp2_with fail
            go_roundw
            case rel => exact ⟨k + 1, L8, by omega, by go_num, hmap, hle8, hch8, htt, ⟨hh8.ok⟩, by rw [hl8]; exact hs8, hb8⟩
            case measure => simp [intOf]; omega
          · have HST := Lib.hid (show (f.take (k + 1)).foldl Ex.qpstep [] = L.map tp ++ [Ex.qpart ⟨5, [], 0⟩ (([] : List Pl).map tp)] from HN.out.trans (Ex.qpstep_zero _ _ (by rw [he0]; rfl)))
            have HPL := Lib.hid (Ex.qpart_len ⟨5, [], 0⟩ (([] : List Pl).map tp) HC.out.1 (by dsimp only; omega) (by rw [he0]; rfl))
            have HCK0 := Lib.hid (show Ex.chk ((L.length + 1 : Nat) : Int) (f.drop (k + 1)) = 0 by have h := HC.out.2.2; rw [he0] at h; rw [← h]; first | rfl | (congr 1; simp; done) | (congr 1; simp; omega))
            have hcall := qnd_any ⟨5, [], 0⟩ (by dsimp only; simp) (by dsimp only; omega) (by dsimp only; omega)
            rw [show Ex.nd ⟨5, [], 0⟩ = 0 from (if_pos HC.out.1).trans he0] at hcall
            clear HC he0 HN
            obtain ⟨N, hNe⟩ : ∃ N, L.length = N := ⟨_, rfl⟩
            rw [hNe] at hs hn1 hsl hcap ⊢
            have HNN := Lib.hid hNe
            clear hNe hgg htk hsz hB
            go_upto_region 8 with fail
            have hx0 := heap_alloc_new wr (.cells #[.int .i64 5, .string (str []), .int .u32 0] 42)
            have hWr : Below wr.heap.size wr (wr.alloc (.cells #[.int .i64 5, .string (str []), .int .u32 0] 42)) := (Below.refl _ _).alloc (Nat.le_refl _) _
            have hWs : wr.heap.size < (wr.alloc (.cells #[.int .i64 5, .string (str []), .int .u32 0] 42)).heap.size := by simp
            generalize wr.alloc (.cells #[.int .i64 5, .string (str []), .int .u32 0] 42) = W at *
            have k0 : W.cell? ⟨wr.heap.size, 0, none⟩ = some (.int .i64 5) := by rw [cell_of_row _ _ _ _ _ _ hx0]; rfl
            have k1 : W.cell? ⟨wr.heap.size, 1, none⟩ = some (.string (str [])) := by rw [cell_of_row _ _ _ _ _ _ hx0]; rfl
            have k2 : W.cell? ⟨wr.heap.size, 2, none⟩ = some (.int .u32 0) := by rw [cell_of_row _ _ _ _ _ _ hx0]; rfl
            go_wp2_with fail
            with_reducible refine (hcall W).mono ?_
            clear hcall
            rintro e w2 ⟨rfl, hb2⟩
            have hx2 := (hb2.block wr.heap.size hWs).trans hx0
            have hWr2 : Below wr.heap.size wr w2 := hWr.trans (hb2.mono hWr.size)
            have hWs2 : wr.heap.size < w2.heap.size := Nat.lt_of_lt_of_le hWs hb2.size
            clear k0 k1 k2 hx0 hb2 hWr hWs
            go_upto_region 10 with fail
            have hB3 : Below w2.heap.size w2 (w2.alloc (.cells #[] 68)) := (Below.refl _ _).alloc (Nat.le_refl _) _
            generalize w2.alloc (.cells #[] 68) = w3 at *
            have hx3 := (hB3.block wr.heap.size hWs2).trans hx2
            have hWr3 : Below wr.heap.size wr w3 := hWr2.trans (hB3.mono hWr2.size)
            have hWs3 : wr.heap.size < w3.heap.size := Nat.lt_of_lt_of_le hWs2 hB3.size
            clear hWr2 hWs2 hx2 hB3
            go_upto_region 12 with fail
            have hy4 := heap_alloc_new w3 (.cells #[.slice none 0 0, .int .i64 12] 68)
            have hW34 : Below w3.heap.size w3 (w3.alloc (.cells #[.slice none 0 0, .int .i64 12] 68)) := (Below.refl _ _).alloc (Nat.le_refl _) _
            have hx4 := (hW34.block wr.heap.size hWs3).trans hx3
            have hWr4 : Below wr.heap.size wr (w3.alloc (.cells #[.slice none 0 0, .int .i64 12] 68)) := hWr3.trans (hW34.mono hWr3.size)
            have hys : w3.heap.size < (w3.alloc (.cells #[.slice none 0 0, .int .i64 12] 68)).heap.size := by simp
            generalize w3.alloc (.cells #[.slice none 0 0, .int .i64 12] 68) = w4 at *
            obtain ⟨yb, hyb⟩ : ∃ yb, w3.heap.size = yb := ⟨_, rfl⟩
            rw [hyb] at hy4 hys hWs3 ⊢
            have hwy : wr.heap.size ≤ yb := by omega
            clear hx3 hWr3 hW34 hyb
            have k0 : w4.cell? ⟨wr.heap.size, 0, none⟩ = some (.int .i64 5) := by rw [cell_of_row _ _ _ _ _ _ hx4]; rfl
            have k1 : w4.cell? ⟨wr.heap.size, 1, none⟩ = some (.string (str [])) := by rw [cell_of_row _ _ _ _ _ _ hx4]; rfl
            have k2 : w4.cell? ⟨wr.heap.size, 2, none⟩ = some (.int .u32 0) := by rw [cell_of_row _ _ _ _ _ _ hx4]; rfl
            have hcal := qcall_any none 0 [105, 110] ([] : List Pl) w4 (VAt.nil w4 none) (by simp) (fun p hp => by simp at hp)
            unfold GotP at hcal
            simp only [List.length_nil] at hcal
            rw [show str [105, 110] = (⟨#[105, 110]⟩ : ByteArray) from rfl] at hcal
            generalize hR : Ex.callT [105, 110] (([] : List Pl).map (fun p => p.1.ts)) = R at hcal
            have HR := Lib.hid hR
            clear hR
            go_upto_region 22 with fail
            go_wp2_with fail
            with_reducible refine hcal.mono ?_
            clear hcal
            rintro e w5 ⟨p, rfl, hu, hp5, hpg5, hb5⟩
            have HU := Lib.hid (hu.trans HR.out.symm)
            clear hu HR
            rw [Pt.v_def p]
            have hy5 := (hb5.block yb hys).trans hy4
            have hWr5 : Below wr.heap.size wr w5 := hWr4.trans (hb5.mono hWr4.size)
            have hpg : wr.heap.size ≤ p.g := Nat.le_trans hWr4.size hpg5
            have hyp : yb ≠ p.g := by omega
            clear k0 k1 k2 hx4 hb5 hy4 hpg5
            have c0 : w5.cell? ⟨yb, 0, none⟩ = some (.slice none 0 0) := (by rw [cell_of_row _ _ _ _ _ _ hy5]; rfl)
            have c1 : w5.cell? ⟨yb, 1, none⟩ = some (.int .i64 12) := (by rw [cell_of_row _ _ _ _ _ _ hy5]; rfl)
            have f0 : w5.frozen? ⟨yb, 0, none⟩ = false := (by simp [World.frozen?, hy5])
            have f1 : w5.frozen? ⟨yb, 1, none⟩ = false := (by simp [World.frozen?, hy5])
            go_upto_region 30 with fail
            have hbx := boxed (.slice (some ⟨p.g, p.o, none⟩) p.ts.length p.c) (.int .i64 12) c0 c1
            have hp7 := pt_set yb 1 (.int .i64 12) (pt_set yb 0 (.slice (some ⟨p.g, p.o, none⟩) p.ts.length p.c) hp5 hyp) hyp
            have hBr7 := (hWr5.setCell (p := ⟨yb, 0, none⟩) hwy (.slice (some ⟨p.g, p.o, none⟩) p.ts.length p.c)).setCell (p := ⟨yb, 1, none⟩) hwy (.int .i64 12)
            generalize (w5.setCell ⟨yb, 0, none⟩ (.slice (some ⟨p.g, p.o, none⟩) p.ts.length p.c)).setCell ⟨yb, 1, none⟩ (.int .i64 12) = w7 at *
            have y0 := hbx.1
            have y1 := hbx.2
            clear hbx c0 c1 f0 f1 hp5 hWr5 hy5 hWr4 hys
            have hs7 := owns_below hs hBr7
            have hb7 : Below w.heap.size w w7 := hb.trans (hBr7.mono hb.size)
            have hrow := hs.lt
            go_upto_region 31 with (at_builtin; refine wpList_append_lies _ (by rfl) _ _ 65 (by rfl) w.heap.size 68 i0 _ 2 32 Tryz.underlying65 hi0 hz0 hz1 hz2 rfl (by omega) (.slice (some ⟨g, 0, none⟩) N cap) (N) _ (by rfl) (hs7.alloc _) ⟨w7.heap.size, 0, none⟩ 1 1 [_, _] (by rfl) (by rfl) (World.news_of_block (cs := #[_, _]) (t := 68) (fr := (0, 0)) (heap_alloc_new w7 _)) (by simp [Value.oneCell']) (by omega) (by unfold maxLen; omega) (by omega) (by have := hb7.size; simp; omega) (w7.heap.size + 1) (by simp) ?_; intro gg cap3 w8 hs8 hgrow hat hlt8)
            have hb8 : Below w.heap.size w w8 := grown_own (hb7.alloc hb7.size _) hgrow (fun j hj => (hrow j hj).1)
            have hh8 := held_step (lv := 12) (n := N + 1) (c := cap3) HH.out (M := L) (fun q h => h) hBr7 (fun k h => (hrow k h).2) hp7 hpg hgrow hat
            rw [show plsOf L ++ [.slice (some ⟨p.g, p.o, none⟩) p.ts.length p.c, .int .i64 12] = plsOf (L ++ [(p, 12)]) by rw [plsOf_app]; rfl] at hs8
            have hmap : (L ++ [((p, 12) : Pl)]).map tp = (f.take (k + 1)).foldl Ex.qpstep [] := by
              rw [HST.out, List.map_append]
              have h1 : (p.ts, 12) = Ex.qpart ⟨5, [], 0⟩ (([] : List Pl).map tp) := by rw [HU.out]; rfl
              rw [← h1]; rfl
            have htt : Ex.tot ((L ++ [((p, 12) : Pl)]).map tp) ≤ 20 * (k + 1) := by
              have h1 := HTOT.out
              have h2 := HPL.out
              rw [hmap, HST.out, Ex.tot_app, show Ex.tot [Ex.qpart ⟨5, [], 0⟩ (([] : List Pl).map tp)] = (Ex.qpart ⟨5, [], 0⟩ (([] : List Pl).map tp)).1.length by simp [Ex.tot]]
              rw [show Ex.tot (([] : List Pl).map tp) = 0 from rfl] at h2
              omega
            have hl8 : (L ++ [((p, 12) : Pl)]).length = N + 1 := by rw [List.length_append, HNN.out]; rfl
            generalize L ++ [((p, 12) : Pl)] = L8 at *
            have hch8 : Ex.chk (L8.length : Nat) (f.drop (k + 1)) = 0 := by rw [hl8]; have h := HCK0.out; rwa [HNN.out] at h
            have hle8 : L8.length ≤ k + 1 := by omega
            clear hs7 hb7 hgrow hat hrow HST HCK0 HPL HTOT HH
            go_wp2_with fail
            go_roundw
            case rel => exact ⟨k + 1, L8, by omega, by go_num, hmap, hle8, hch8, htt, ⟨hh8.ok⟩, by rw [hl8]; exact hs8, hb8⟩
            case measure => simp [intOf]; omega
      · dsimp only at hLo hLt hd0 hd1 hd2
        obtain ⟨sp, args, rfl, hal⟩ : ∃ sp args : List Pl, L = sp ++ args ∧ args.length = 1 := ⟨L.take (L.length - 1), L.drop (L.length - 1), (List.take_append_drop _ _).symm, by rw [List.length_drop]; have := HC.out.2.1; rw [he0] at this; omega⟩
        have HST := Lib.hid (show (f.take (k + 1)).foldl Ex.qpstep [] = sp.map tp ++ [Ex.qpart ⟨6, t, 0⟩ (args.map tp)] from HN.out.trans (by rw [List.map_append]; exact Ex.qpstep_app _ _ _ (by rw [he0, List.length_map]; omega)))
        have HPL := Lib.hid (Ex.qpart_len ⟨6, t, 0⟩ (args.map tp) HC.out.1 (by dsimp only; omega) (by rw [he0]; rw [List.length_map]; omega))
        have HCK0 := Lib.hid (show Ex.chk ((sp.length + 1 : Nat) : Int) (f.drop (k + 1)) = 0 by have h := HC.out.2.2; rw [he0] at h; rw [← h]; first | rfl | (congr 1; simp; done) | (congr 1; simp; omega))
        have hcall := qnd_any ⟨6, t, 0⟩ (by dsimp only; exact hLt) (by dsimp only; omega) (by dsimp only; omega)
        rw [show Ex.nd ⟨6, t, 0⟩ = 1 from (if_pos HC.out.1).trans he0] at hcall
        clear HC he0 HN
        obtain ⟨N, hNe⟩ : ∃ N, (sp ++ args).length = N := ⟨_, rfl⟩
        obtain ⟨P, hPe⟩ : ∃ P, sp.length = P := ⟨_, rfl⟩
        have hNP : N = P + 1 := by rw [← hNe, ← hPe, List.length_append, hal]
        obtain ⟨g, cap, rfl, hgB, hgl, hn1, hn2, hcell⟩ := own_pos hs (by rw [hNe]; omega)
        have hx : ∀ j u, (plsOf args)[j]? = some u → wr.cell? ⟨g, P * 2 + j, none⟩ = some u := fun j u hu => by
          have hlt : j < args.length * 2 := by have := (List.getElem?_eq_some_iff.1 hu).1; rwa [plsOf_len] at this
          rw [hcell (P * 2 + j) (by rw [hNe]; omega), plsOf_app, List.getElem?_append_right (by rw [plsOf_len]; omega), plsOf_len, hPe, Nat.add_sub_cancel_left]
          exact hu
        rw [hNe] at hs hn1 hsl ⊢
        have HNN := Lib.hid hPe
        have HPT := Lib.hid (show (plsOf (sp ++ args)).take (P * 2) = plsOf sp by rw [plsOf_app, List.take_left' (by rw [plsOf_len, hPe])])
        have HAL := Lib.hid hal
        have HAK := Lib.hid (show ∀ p ∈ args, PtOk wr p.1 from fun p hp => (HH.out.ok p (List.mem_append_right _ hp)).1)
        have HAT := Lib.hid (show ∀ p ∈ args, p.1.ts.length ≤ 100000 from fun p hp => by
          have h1 := HTOT.out
          have h2 : p.1.ts.length ≤ Ex.tot (args.map tp) := by unfold Ex.tot; rw [List.map_map]; exact mem_sum_le (List.mem_map.2 ⟨p, hp, rfl⟩)
          rw [List.map_append, Ex.tot_app] at h1
          omega)
        have e1 : (N : Int) - 1 = (P : Int) := by omega
        have hne : ¬ cap = P := by omega
        have e2 : N - P = args.length := by omega
        have hpN : P ≤ N := by omega
        have z1 : (P : Int) ≤ (cap : Int) := by omega
        have z3 : P ≤ cap := by omega
        have z4 : (P : Int) ≤ (N : Int) := by omega
        have z5 : (N : Int) ≤ (cap : Int) := by omega
        have hTl : 0 < args.length ∧ args.length ≤ 8 := by omega
        clear hcell hNe hPe hNP hal
        go_upto_region 8 with fail
        have hx0 := heap_alloc_new wr (.cells #[.int .i64 6, .string (str t), .int .u32 0] 42)
        have hWr : Below wr.heap.size wr (wr.alloc (.cells #[.int .i64 6, .string (str t), .int .u32 0] 42)) := (Below.refl _ _).alloc (Nat.le_refl _) _
        have hWs : wr.heap.size < (wr.alloc (.cells #[.int .i64 6, .string (str t), .int .u32 0] 42)).heap.size := by simp
        generalize wr.alloc (.cells #[.int .i64 6, .string (str t), .int .u32 0] 42) = W at *
        have k0 : W.cell? ⟨wr.heap.size, 0, none⟩ = some (.int .i64 6) := by rw [cell_of_row _ _ _ _ _ _ hx0]; rfl
        have k1 : W.cell? ⟨wr.heap.size, 1, none⟩ = some (.string (str t)) := by rw [cell_of_row _ _ _ _ _ _ hx0]; rfl
        have k2 : W.cell? ⟨wr.heap.size, 2, none⟩ = some (.int .u32 0) := by rw [cell_of_row _ _ _ _ _ _ hx0]; rfl
        go_wp2_with fail
        with_reducible refine (hcall W).mono ?_
        clear hcall
        rintro e w2 ⟨rfl, hb2⟩
        have hx2 := (hb2.block wr.heap.size hWs).trans hx0
        have hWr2 : Below wr.heap.size wr w2 := hWr.trans (hb2.mono hWr.size)
        have hWs2 : wr.heap.size < w2.heap.size := Nat.lt_of_lt_of_le hWs hb2.size
        clear k0 k1 k2 hx0 hb2 hWr hWs
        have hoe := own_empty w2 w2.heap.size (Nat.le_refl _) 68 2
        have hgl2 : g < w2.heap.size := Nat.lt_of_lt_of_le hgl hWr2.size
        go_upto_region 10 with (at_builtin; refine wpList_append_lies _ (by rfl) _ _ 65 (by rfl) w2.heap.size 68 i0 _ 2 32 Tryz.underlying65 hi0 hz0 hz1 hz2 rfl (by omega) _ 0 _ (by rfl) hoe ⟨g, P * 2, none⟩ args.length (cap - P) (plsOf args) (by rfl) (by rw [plsOf_len]) (fun j u hj => by rw [addr_add]; exact cell_alloc _ hgl2 ((hWr2.cell (p := ⟨g, P * 2 + j, none⟩) hgl).trans (hx j u hj))) (plsOf_one _) hTl.1 (by unfold maxLen; omega) (by omega) (by simp) _ rfl ?_; intro gq capq w3 hq3 hgrowq hatq hltq)
        have hB3 : Below w2.heap.size w2 w3 := grown_own ((Below.refl _ _).alloc (Nat.le_refl _) _) hgrowq (fun j hj => (hoe.lt j hj).1)
        rw [List.nil_append, Nat.zero_add] at hq3
        obtain ⟨gq', capq', hqe, hgq, hglq, _, _, hcq⟩ := own_pos hq3 hTl.1
        obtain rfl : gq = gq' := by have h := hqe; simp at h; exact h.1
        have HE2 := Lib.hid e2
        have hvq : VAt w3 w3.heap.size (some ⟨gq, 0, none⟩) args := fun i hi => by
          have h := plsOf_get args i hi
          refine ⟨⟨gq, 0, rfl, hglq, ?_, ?_⟩, ((HAK.out _ (List.getElem_mem hi)).next hWr2).next hB3⟩
          · rw [Nat.zero_add, hcq _ (by omega)]; exact h.1
          · rw [Nat.zero_add, hcq _ (by omega)]; exact h.2
        clear e2 hx hoe hgrowq hatq hqe hcq hq3 hltq
        have hx3 := (hB3.block wr.heap.size hWs2).trans hx2
        have hWr3 : Below wr.heap.size wr w3 := hWr2.trans (hB3.mono hWr2.size)
        have hWs3 : wr.heap.size < w3.heap.size := Nat.lt_of_lt_of_le hWs2 hB3.size
        clear hWr2 hWs2 hx2 hB3
        go_upto_region 12 with fail
        have hy4 := heap_alloc_new w3 (.cells #[.slice none 0 0, .int .i64 12] 68)
        have hW34 : Below w3.heap.size w3 (w3.alloc (.cells #[.slice none 0 0, .int .i64 12] 68)) := (Below.refl _ _).alloc (Nat.le_refl _) _
        have hx4 := (hW34.block wr.heap.size hWs3).trans hx3
        have hWr4 : Below wr.heap.size wr (w3.alloc (.cells #[.slice none 0 0, .int .i64 12] 68)) := hWr3.trans (hW34.mono hWr3.size)
        have hys : w3.heap.size < (w3.alloc (.cells #[.slice none 0 0, .int .i64 12] 68)).heap.size := by simp
        have hvq4 := hvq.next hW34
        clear hvq
        generalize w3.alloc (.cells #[.slice none 0 0, .int .i64 12] 68) = w4 at *
        obtain ⟨yb, hyb⟩ : ∃ yb, w3.heap.size = yb := ⟨_, rfl⟩
        rw [hyb] at hy4 hys hWs3 ⊢
        have hwy : wr.heap.size ≤ yb := by omega
        clear hx3 hWr3 hW34 hyb
        have k0 : w4.cell? ⟨wr.heap.size, 0, none⟩ = some (.int .i64 6) := by rw [cell_of_row _ _ _ _ _ _ hx4]; rfl
        have k1 : w4.cell? ⟨wr.heap.size, 1, none⟩ = some (.string (str t)) := by rw [cell_of_row _ _ _ _ _ _ hx4]; rfl
        have k2 : w4.cell? ⟨wr.heap.size, 2, none⟩ = some (.int .u32 0) := by rw [cell_of_row _ _ _ _ _ _ hx4]; rfl
        obtain ⟨j0, hj0, hj1, hj2, hj3⟩ := info_parts infoT
        obtain ⟨a0, rfl⟩ := one_pl args HAL.out
        obtain ⟨⟨gx, ox, hxe, hgx, ha0, ha1⟩, hpa⟩ := hvq4 0 (by simp)
        have hla := HAT.out a0 (by simp)
        simp only [Option.some.injEq, Addr.mk.injEq] at hxe
        obtain ⟨rfl, rfl, _⟩ := hxe
        simp only [List.getElem_cons_zero, Nat.zero_mul, Nat.add_zero, Nat.zero_add] at ha0 ha1 hpa
        rw [Pt.v_def] at ha0
        have hpos := hpa.pos
        have hle1 := Ex.inP_len a0.1.ts a0.2 11
        go_upto_region 24 with fail
        have r1 : w4.drew.cell? ⟨wr.heap.size, 1, none⟩ = some (.string (str t)) := k1
        have r2 : w4.drew.cell? ⟨gq, 0, none⟩ = some (.slice (some ⟨a0.1.g, a0.1.o, none⟩) a0.1.ts.length a0.1.c) := ha0
        have r3 : w4.drew.cell? ⟨gq, 1, none⟩ = some (.int .i64 a0.2) := ha1
        have r4 : gq < w4.drew.heap.size := hgx
        have hp4 : PtOk w4.drew a0.1 := ⟨hpa.pos, hpa.lt, hpa.at_⟩
        have hD : Below w4.heap.size w4 w4.drew := (Below.refl _ _).drew
        have hsy := qsym_tok t
        have hW := fun w h => qwithin_any a0.1 a0.2 11 w h (by omega)
        simp only [Pt.v_def] at hW
        clear k0 k1 k2 ha0 ha1 hpa hx4
        go_region_law ((first
          | (go_simp; go_at_call 35; with_reducible refine (hsy _).mono ?_; rintro e w5 ⟨rfl, hb5, hs5⟩; have hB5 : Below w4.heap.size w4 w5 := hD.trans (hb5.mono hD.size); have r25 := cell_below hb5 r4 r2; have r35 := cell_below hb5 r4 r3; have r45 := lt_below hb5 r4; have r25b := cell_alloc (.cells #[.int .i64 3, .string (str t)] 45) r45 r25; have r35b := cell_alloc (.cells #[.int .i64 3, .string (str t)] 45) r45 r35; have hp5 := hp4.next hb5; have hp5b := pt_alloc (.cells #[.int .i64 3, .string (str t)] 45) hp5; have ho5 := own_one w5 w4.heap.size hB5.size t 3)
          | (go_simp; go_at_call 36; refine (hW _ hp5b).mono ?_; rintro e w6 ⟨P1, rfl, hu, hk6, hb6⟩; have HU1 := Lib.hid hu; clear hu; have hpos1 := hk6.pos; have ho6 := owns_below ho5 hb6; have hB6 : Below w4.heap.size w4 w6 := (hB5.alloc hB5.size (.cells #[.int .i64 3, .string (str t)] 45)).trans (hb6.mono (hB5.alloc hB5.size (.cells #[.int .i64 3, .string (str t)] 45)).size); have hlen1 : P1.ts.length ≤ 200000 := (by rw [HU1.out]; omega))
          | (go_simp; go_at_call 36; refine (hW _ hp5).mono ?_; rintro e w6 ⟨P1, rfl, hu, hk6b, hb6⟩; have HU1 := Lib.hid hu; clear hu; have hpos1 := hk6b.pos; have hB6 : Below w4.heap.size w4 w6 := hB5.trans (hb6.mono hB5.size); have hk6 := pt_alloc (.cells #[.int .i64 3, .string (str t)] 45) hk6b; have ho6 := own_one w6 w4.heap.size hB6.size t 3; have hlen1 : P1.ts.length ≤ 200000 := (by rw [HU1.out]; omega))
          | (refine step_append_lies _ (by rfl) _ _ 22 (by rfl) w4.heap.size 45 j0 _ 2 24 Tryz.underlying22 hj0 hj1 hj2 hj3 rfl (by omega) _ 1 _ (by rfl) ho6 ⟨P1.g, P1.o, none⟩ P1.ts.length P1.c (tksOf P1.ts) (by rfl) (tksOf_len _) (fun j u hj => by rw [addr_add]; exact hk6.at_ j u hj) (tksOf_one _) hpos1 (by unfold maxLen; omega) (by omega) hB6.size _ rfl ?_; intro gg3 cap3 w7 hs8a hgrow3 hat3 hlt3; have hB7 : Below w4.heap.size w4 w7 := grown_own hB6 hgrow3 (fun j hj => (ho6.lt j hj).1); have hyz := (hB7.block yb hys).trans hy4; have c0 : w7.cell? ⟨yb, 0, none⟩ = some (.slice none 0 0) := (by rw [cell_of_row _ _ _ _ _ _ hyz]; rfl); have c1 : w7.cell? ⟨yb, 1, none⟩ = some (.int .i64 12) := (by rw [cell_of_row _ _ _ _ _ _ hyz]; rfl); have f0 : w7.frozen? ⟨yb, 0, none⟩ = false := (by simp [World.frozen?, hyz]); have f1 : w7.frozen? ⟨yb, 1, none⟩ = false := (by simp [World.frozen?, hyz]); rw [← tksOf_app] at hs8a)
          | (refine step_append_lies _ (by rfl) _ _ 22 (by rfl) w4.heap.size 45 j0 _ 2 24 Tryz.underlying22 hj0 hj1 hj2 hj3 rfl (by omega) _ 1 _ (by rfl) ho6 ⟨P1.g, P1.o, none⟩ P1.ts.length P1.c (tksOf P1.ts) (by rfl) (tksOf_len _) (fun j u hj => by rw [addr_add]; exact hk6.at_ j u hj) (tksOf_one _) hpos1 (by unfold maxLen; omega) (by omega) (by have := hB6.size; simp; omega) _ rfl ?_; intro gg3 cap3 w7 hs8a hgrow3 hat3 hlt3; have hB7 : Below w4.heap.size w4 w7 := grown_own (hB6.alloc hB6.size (.cells #[.int .i64 3, .string (str t)] 45)) hgrow3 (fun j hj => (ho6.lt j hj).1); have hyz := (hB7.block yb hys).trans hy4; have c0 : w7.cell? ⟨yb, 0, none⟩ = some (.slice none 0 0) := (by rw [cell_of_row _ _ _ _ _ _ hyz]; rfl); have c1 : w7.cell? ⟨yb, 1, none⟩ = some (.int .i64 12) := (by rw [cell_of_row _ _ _ _ _ _ hyz]; rfl); have f0 : w7.frozen? ⟨yb, 0, none⟩ = false := (by simp [World.frozen?, hyz]); have f1 : w7.frozen? ⟨yb, 1, none⟩ = false := (by simp [World.frozen?, hyz]); rw [← tksOf_app] at hs8a)))
        all_goals (
          obtain ⟨p, hpv, hpt, hp7', hpgg⟩ := own_pt (ts := [⟨3, t⟩] ++ P1.ts) (by rw [show ([⟨3, t⟩] ++ P1.ts : List Tok.Tk).length = 1 + P1.ts.length by simp; omega]; exact hs8a) (by simp)
          have HU := Lib.hid (show p.ts = [⟨3, t⟩] ++ Ex.inP a0.1.ts a0.2 11 by rw [hpt, HU1.out])
          rw [Pt.v_def] at hpv
          have hWr7 : Below wr.heap.size wr w7 := hWr4.trans (hB7.mono hWr4.size)
          have hpg : wr.heap.size ≤ p.g := by have := hWr4.size; omega
          have hyp : yb ≠ p.g := by omega
          rw [hpv]
          clear hpv hpt hs8a ho6 hgrow3 hat3 hlt3 HU1
          go_upto_region 30 with fail
          have hbx := boxed (.slice (some ⟨p.g, p.o, none⟩) p.ts.length p.c) (.int .i64 11) c0 c1
          have hp7 := pt_set yb 1 (.int .i64 11) (pt_set yb 0 (.slice (some ⟨p.g, p.o, none⟩) p.ts.length p.c) hp7' hyp) hyp
          have hBr7 := (hWr7.setCell (p := ⟨yb, 0, none⟩) hwy (.slice (some ⟨p.g, p.o, none⟩) p.ts.length p.c)).setCell (p := ⟨yb, 1, none⟩) hwy (.int .i64 11)
          generalize (w7.setCell ⟨yb, 0, none⟩ (.slice (some ⟨p.g, p.o, none⟩) p.ts.length p.c)).setCell ⟨yb, 1, none⟩ (.int .i64 11) = w7 at *
          have y0 := hbx.1
          have y1 := hbx.2
          clear hbx c0 c1 f0 f1 hp7'
          have hs7 := owns_below hs hBr7
          replace hs7 := own_take hs7 hpN
          rw [HPT.out] at hs7
          have hb7 : Below w.heap.size w w7 := hb.trans (hBr7.mono hb.size)
          have hrow := hs.lt
          go_upto_region 31 with (at_builtin; refine wpList_append_lies _ (by rfl) _ _ 65 (by rfl) w.heap.size 68 i0 _ 2 32 Tryz.underlying65 hi0 hz0 hz1 hz2 rfl (by omega) (.slice (some ⟨g, 0, none⟩) P cap) (P) _ (by rfl) (hs7.alloc _) ⟨w7.heap.size, 0, none⟩ 1 1 [_, _] (by rfl) (by rfl) (World.news_of_block (cs := #[_, _]) (t := 68) (fr := (0, 0)) (heap_alloc_new w7 _)) (by simp [Value.oneCell']) (by omega) (by unfold maxLen; omega) (by omega) (by have := hb7.size; simp; omega) (w7.heap.size + 1) (by simp) ?_; intro gg cap3 w8 hs8 hgrow hat hlt8)
          have hb8 : Below w.heap.size w w8 := grown_own (hb7.alloc hb7.size _) hgrow (fun j hj => (hrow j hj).1)
          have hh8 := held_step (lv := 11) (n := P + 1) (c := cap3) HH.out (M := sp) (fun q h => List.mem_append_left _ h) hBr7 (fun k h => (hrow k h).2) hp7 hpg hgrow hat
          rw [show plsOf sp ++ [.slice (some ⟨p.g, p.o, none⟩) p.ts.length p.c, .int .i64 11] = plsOf (sp ++ [(p, 11)]) by rw [plsOf_app]; rfl] at hs8
          have hmap : (sp ++ [((p, 11) : Pl)]).map tp = (f.take (k + 1)).foldl Ex.qpstep [] := by
            rw [HST.out, List.map_append]
            have h1 : (p.ts, 11) = Ex.qpart ⟨6, t, 0⟩ ([a0].map tp) := by rw [HU.out]; show _ = ((Ex.partL ⟨6, t, 0⟩ (([a0].map tp).map Ex.nrm)).1, (11 : Int)); unfold Ex.partL; rw [if_neg (by dsimp only; decide), if_neg (by dsimp only; decide), if_neg (by dsimp only; decide), if_neg (by dsimp only; decide), if_neg (by dsimp only; decide), if_pos rfl]; show ([⟨3, t⟩] ++ Ex.inP a0.1.ts a0.2 11, (11 : Int)) = ([⟨3, t⟩] ++ Ex.inP a0.1.ts (Ex.nl a0.2) 11, 11); rw [Ex.inP_nl _ _ _ (by decide)]
            rw [← h1]; rfl
          have htt : Ex.tot ((sp ++ [((p, 11) : Pl)]).map tp) ≤ 20 * (k + 1) := by
            have h1 := HTOT.out
            have h2 := HPL.out
            rw [hmap, HST.out, Ex.tot_app, show Ex.tot [Ex.qpart ⟨6, t, 0⟩ ([a0].map tp)] = (Ex.qpart ⟨6, t, 0⟩ ([a0].map tp)).1.length by simp [Ex.tot]]
            rw [List.map_append, Ex.tot_app] at h1
            omega
          have hl8 : (sp ++ [((p, 11) : Pl)]).length = P + 1 := by rw [List.length_append, HNN.out]; rfl
          generalize sp ++ [((p, 11) : Pl)] = L8 at *
          have hch8 : Ex.chk (L8.length : Nat) (f.drop (k + 1)) = 0 := by rw [hl8]; have h := HCK0.out; rwa [HNN.out] at h
          have hle8 : L8.length ≤ k + 1 := by omega
          clear hs7 hb7 hgrow hat hrow HST HCK0 HPL HTOT HH
          go_wp2_with fail
          go_roundw
          case rel => exact ⟨k + 1, L8, by omega, by go_num, hmap, hle8, hch8, htt, ⟨hh8.ok⟩, by rw [hl8]; exact hs8, hb8⟩
          case measure => simp [intOf]; omega)
      · dsimp only at hLo hLt hd0 hd1 hd2
        obtain ⟨sp, args, rfl, hal⟩ : ∃ sp args : List Pl, L = sp ++ args ∧ args.length = 2 := ⟨L.take (L.length - 2), L.drop (L.length - 2), (List.take_append_drop _ _).symm, by rw [List.length_drop]; have := HC.out.2.1; rw [he0] at this; omega⟩
        have HST := Lib.hid (show (f.take (k + 1)).foldl Ex.qpstep [] = sp.map tp ++ [Ex.qpart ⟨7, t, 0⟩ (args.map tp)] from HN.out.trans (by rw [List.map_append]; exact Ex.qpstep_app _ _ _ (by rw [he0, List.length_map]; omega)))
        have HPL := Lib.hid (Ex.qpart_len ⟨7, t, 0⟩ (args.map tp) HC.out.1 (by dsimp only; omega) (by rw [he0]; rw [List.length_map]; omega))
        have HCK0 := Lib.hid (show Ex.chk ((sp.length + 1 : Nat) : Int) (f.drop (k + 1)) = 0 by have h := HC.out.2.2; rw [he0] at h; rw [← h]; first | rfl | (congr 1; simp; done) | (congr 1; simp; omega))
        have hcall := qnd_any ⟨7, t, 0⟩ (by dsimp only; exact hLt) (by dsimp only; omega) (by dsimp only; omega)
        rw [show Ex.nd ⟨7, t, 0⟩ = 2 from (if_pos HC.out.1).trans he0] at hcall
        clear HC he0 HN
        obtain ⟨N, hNe⟩ : ∃ N, (sp ++ args).length = N := ⟨_, rfl⟩
        obtain ⟨P, hPe⟩ : ∃ P, sp.length = P := ⟨_, rfl⟩
        have hNP : N = P + 2 := by rw [← hNe, ← hPe, List.length_append, hal]
        obtain ⟨g, cap, rfl, hgB, hgl, hn1, hn2, hcell⟩ := own_pos hs (by rw [hNe]; omega)
        have hx : ∀ j u, (plsOf args)[j]? = some u → wr.cell? ⟨g, P * 2 + j, none⟩ = some u := fun j u hu => by
          have hlt : j < args.length * 2 := by have := (List.getElem?_eq_some_iff.1 hu).1; rwa [plsOf_len] at this
          rw [hcell (P * 2 + j) (by rw [hNe]; omega), plsOf_app, List.getElem?_append_right (by rw [plsOf_len]; omega), plsOf_len, hPe, Nat.add_sub_cancel_left]
          exact hu
        rw [hNe] at hs hn1 hsl ⊢
        have HNN := Lib.hid hPe
        have HPT := Lib.hid (show (plsOf (sp ++ args)).take (P * 2) = plsOf sp by rw [plsOf_app, List.take_left' (by rw [plsOf_len, hPe])])
        have HAL := Lib.hid hal
        have HAK := Lib.hid (show ∀ p ∈ args, PtOk wr p.1 from fun p hp => (HH.out.ok p (List.mem_append_right _ hp)).1)
        have HAT := Lib.hid (show ∀ p ∈ args, p.1.ts.length ≤ 100000 from fun p hp => by
          have h1 := HTOT.out
          have h2 : p.1.ts.length ≤ Ex.tot (args.map tp) := by unfold Ex.tot; rw [List.map_map]; exact mem_sum_le (List.mem_map.2 ⟨p, hp, rfl⟩)
          rw [List.map_append, Ex.tot_app] at h1
          omega)
        have e1 : (N : Int) - 2 = (P : Int) := by omega
        have hne : ¬ cap = P := by omega
        have e2 : N - P = args.length := by omega
        have hpN : P ≤ N := by omega
        have z1 : (P : Int) ≤ (cap : Int) := by omega
        have z3 : P ≤ cap := by omega
        have z4 : (P : Int) ≤ (N : Int) := by omega
        have z5 : (N : Int) ≤ (cap : Int) := by omega
        have hTl : 0 < args.length ∧ args.length ≤ 8 := by omega
        clear hcell hNe hPe hNP hal
        go_upto_region 8 with fail
        have hx0 := heap_alloc_new wr (.cells #[.int .i64 7, .string (str t), .int .u32 0] 42)
        have hWr : Below wr.heap.size wr (wr.alloc (.cells #[.int .i64 7, .string (str t), .int .u32 0] 42)) := (Below.refl _ _).alloc (Nat.le_refl _) _
        have hWs : wr.heap.size < (wr.alloc (.cells #[.int .i64 7, .string (str t), .int .u32 0] 42)).heap.size := by simp
        generalize wr.alloc (.cells #[.int .i64 7, .string (str t), .int .u32 0] 42) = W at *
        have k0 : W.cell? ⟨wr.heap.size, 0, none⟩ = some (.int .i64 7) := by rw [cell_of_row _ _ _ _ _ _ hx0]; rfl
        have k1 : W.cell? ⟨wr.heap.size, 1, none⟩ = some (.string (str t)) := by rw [cell_of_row _ _ _ _ _ _ hx0]; rfl
        have k2 : W.cell? ⟨wr.heap.size, 2, none⟩ = some (.int .u32 0) := by rw [cell_of_row _ _ _ _ _ _ hx0]; rfl
        go_wp2_with fail
        with_reducible refine (hcall W).mono ?_
        clear hcall
        rintro e w2 ⟨rfl, hb2⟩
        have hx2 := (hb2.block wr.heap.size hWs).trans hx0
        have hWr2 : Below wr.heap.size wr w2 := hWr.trans (hb2.mono hWr.size)
        have hWs2 : wr.heap.size < w2.heap.size := Nat.lt_of_lt_of_le hWs hb2.size
        clear k0 k1 k2 hx0 hb2 hWr hWs
        have hoe := own_empty w2 w2.heap.size (Nat.le_refl _) 68 2
        have hgl2 : g < w2.heap.size := Nat.lt_of_lt_of_le hgl hWr2.size
        go_upto_region 10 with (at_builtin; refine wpList_append_lies _ (by rfl) _ _ 65 (by rfl) w2.heap.size 68 i0 _ 2 32 Tryz.underlying65 hi0 hz0 hz1 hz2 rfl (by omega) _ 0 _ (by rfl) hoe ⟨g, P * 2, none⟩ args.length (cap - P) (plsOf args) (by rfl) (by rw [plsOf_len]) (fun j u hj => by rw [addr_add]; exact cell_alloc _ hgl2 ((hWr2.cell (p := ⟨g, P * 2 + j, none⟩) hgl).trans (hx j u hj))) (plsOf_one _) hTl.1 (by unfold maxLen; omega) (by omega) (by simp) _ rfl ?_; intro gq capq w3 hq3 hgrowq hatq hltq)
        have hB3 : Below w2.heap.size w2 w3 := grown_own ((Below.refl _ _).alloc (Nat.le_refl _) _) hgrowq (fun j hj => (hoe.lt j hj).1)
        rw [List.nil_append, Nat.zero_add] at hq3
        obtain ⟨gq', capq', hqe, hgq, hglq, _, _, hcq⟩ := own_pos hq3 hTl.1
        obtain rfl : gq = gq' := by have h := hqe; simp at h; exact h.1
        have HE2 := Lib.hid e2
        have hvq : VAt w3 w3.heap.size (some ⟨gq, 0, none⟩) args := fun i hi => by
          have h := plsOf_get args i hi
          refine ⟨⟨gq, 0, rfl, hglq, ?_, ?_⟩, ((HAK.out _ (List.getElem_mem hi)).next hWr2).next hB3⟩
          · rw [Nat.zero_add, hcq _ (by omega)]; exact h.1
          · rw [Nat.zero_add, hcq _ (by omega)]; exact h.2
        clear e2 hx hoe hgrowq hatq hqe hcq hq3 hltq
        have hx3 := (hB3.block wr.heap.size hWs2).trans hx2
        have hWr3 : Below wr.heap.size wr w3 := hWr2.trans (hB3.mono hWr2.size)
        have hWs3 : wr.heap.size < w3.heap.size := Nat.lt_of_lt_of_le hWs2 hB3.size
        clear hWr2 hWs2 hx2 hB3
        go_upto_region 12 with fail
        have hy4 := heap_alloc_new w3 (.cells #[.slice none 0 0, .int .i64 12] 68)
        have hW34 : Below w3.heap.size w3 (w3.alloc (.cells #[.slice none 0 0, .int .i64 12] 68)) := (Below.refl _ _).alloc (Nat.le_refl _) _
        have hx4 := (hW34.block wr.heap.size hWs3).trans hx3
        have hWr4 : Below wr.heap.size wr (w3.alloc (.cells #[.slice none 0 0, .int .i64 12] 68)) := hWr3.trans (hW34.mono hWr3.size)
        have hys : w3.heap.size < (w3.alloc (.cells #[.slice none 0 0, .int .i64 12] 68)).heap.size := by simp
        have hvq4 := hvq.next hW34
        clear hvq
        generalize w3.alloc (.cells #[.slice none 0 0, .int .i64 12] 68) = w4 at *
        obtain ⟨yb, hyb⟩ : ∃ yb, w3.heap.size = yb := ⟨_, rfl⟩
        rw [hyb] at hy4 hys hWs3 ⊢
        have hwy : wr.heap.size ≤ yb := by omega
        clear hx3 hWr3 hW34 hyb
        have k0 : w4.cell? ⟨wr.heap.size, 0, none⟩ = some (.int .i64 7) := by rw [cell_of_row _ _ _ _ _ _ hx4]; rfl
        have k1 : w4.cell? ⟨wr.heap.size, 1, none⟩ = some (.string (str t)) := by rw [cell_of_row _ _ _ _ _ _ hx4]; rfl
        have k2 : w4.cell? ⟨wr.heap.size, 2, none⟩ = some (.int .u32 0) := by rw [cell_of_row _ _ _ _ _ _ hx4]; rfl
        obtain ⟨j0, hj0, hj1, hj2, hj3⟩ := info_parts infoT
        obtain ⟨a0, a1, rfl⟩ := two_pl args HAL.out
        obtain ⟨⟨gx, ox, hxe, hgx, ha0, ha1⟩, hpa⟩ := hvq4 0 (by simp)
        obtain ⟨⟨gx2, ox2, hxe2, _, hb0, hb1'⟩, hpb⟩ := hvq4 1 (by simp)
        have hla := HAT.out a0 (by simp)
        have hlb := HAT.out a1 (by simp)
        simp only [Option.some.injEq, Addr.mk.injEq] at hxe hxe2
        obtain ⟨rfl, rfl, _⟩ := hxe
        obtain ⟨rfl, rfl, _⟩ := hxe2
        replace ha0 : w4.cell? ⟨gq, 0, none⟩ = some (.slice (some ⟨a0.1.g, a0.1.o, none⟩) a0.1.ts.length a0.1.c) := ha0
        replace ha1 : w4.cell? ⟨gq, 1, none⟩ = some (.int .i64 a0.2) := ha1
        replace hb0 : w4.cell? ⟨gq, 2, none⟩ = some (.slice (some ⟨a1.1.g, a1.1.o, none⟩) a1.1.ts.length a1.1.c) := hb0
        replace hb1' : w4.cell? ⟨gq, 3, none⟩ = some (.int .i64 a1.2) := hb1'
        replace hpa : PtOk w4 a0.1 := hpa
        replace hpb : PtOk w4 a1.1 := hpb
        have hlev := levQ3 t w4
        have hl10 := Ex.levL_le t
        have HLV := Lib.hid (show (Ex.partL ⟨7, t, 0⟩ (([a0, a1].map tp).map Ex.nrm)).1 = Ex.inP a0.1.ts a0.2 (Ex.levL t : Nat) ++ [⟨3, t⟩] ++ Ex.inP a1.1.ts a1.2 ((Ex.levL t : Nat) + 1) by
          show Ex.inP a0.1.ts (Ex.nl a0.2) (Ex.levL t : Nat) ++ [⟨3, t⟩] ++ Ex.inP a1.1.ts (Ex.nl a1.2) ((Ex.levL t : Nat) + 1) = _
          rw [Ex.inP_nl _ _ _ (by omega), Ex.inP_nl _ _ _ (by omega)])
        have HQL := Lib.hid (show Ex.qlv ⟨7, t, 0⟩ = ((Ex.levL t : Nat) : Int) from rfl)
        generalize Ex.levL t = lv at *
        have hw1 : IntKind.i64.wrap ((lv : Int) + 1) = (lv : Int) + 1 := by rw [IntKind.wrap_i64]; omega
        have hle1 := Ex.inP_len a0.1.ts a0.2 lv
        have hle2 := Ex.inP_len a1.1.ts a1.2 (lv + 1)
        go_upto_region 26 with fail
        go_wp2_with fail
        with_reducible refine hlev.mono ?_
        clear hlev
        rintro e w4' ⟨rfl, rfl⟩
        go_upto_region 27 with fail
        have hoe2 := own_empty w4 w4.heap.size (Nat.le_refl _) 45 2
        have hBe : Below w4.heap.size w4 (w4.alloc (.cells #[] 45)) := (Below.refl _ _).alloc (Nat.le_refl _) _
        have hc1 := qwithin_any a0.1 a0.2 lv (w4.alloc (.cells #[] 45)) (hpa.next hBe) (by omega)
        rw [Pt.v_def] at hc1
        have ra0 := cell_alloc (.cells #[] 45) hgx ha0
        have ra1 := cell_alloc (.cells #[] 45) hgx ha1
        go_wp2_with fail
        with_reducible refine hc1.mono ?_
        clear hc1
        rintro e w5 ⟨P1, rfl, hu1, hk5, hb5⟩
        have HU1 := Lib.hid hu1
        clear hu1
        rw [Pt.v_def P1]
        have hB5 : Below w4.heap.size w4 w5 := hBe.trans (hb5.mono hBe.size)
        have ho5 := owns_below hoe2 hb5
        have hpos1 := hk5.pos
        have hlen1 : P1.ts.length ≤ 200000 := by rw [HU1.out]; omega
        clear hb5 hBe hoe2 ra0 ra1
        go_upto_region 28 with (at_builtin; refine wpList_append_lies _ (by rfl) _ _ 22 (by rfl) w4.heap.size 45 j0 _ 2 24 Tryz.underlying22 hj0 hj1 hj2 hj3 rfl (by omega) _ 0 _ (by rfl) ho5 ⟨P1.g, P1.o, none⟩ P1.ts.length P1.c (tksOf P1.ts) (by rfl) (tksOf_len _) (fun j u hj => by rw [addr_add]; exact hk5.at_ j u hj) (tksOf_one _) hpos1 (by unfold maxLen; omega) (by omega) hB5.size _ rfl ?_; intro gg3 cap3 w6 hs6 hgrow3 hat3 hlt3)
        have hB6 : Below w4.heap.size w4 w6 := grown_own hB5 hgrow3 (fun j hj => (ho5.lt j hj).1)
        rw [List.nil_append, Nat.zero_add] at hs6
        have r1 := (hB6.cell (p := ⟨wr.heap.size, 1, none⟩) (by show wr.heap.size < w4.heap.size; omega)).trans k1
        have hsy := qsym_tok t w6
        clear ho5 hgrow3 hat3 hlt3 hk5 k0 k1 k2 ha0 ha1 hpa
        go_wp2_with fail
        with_reducible refine hsy.mono ?_
        clear hsy
        rintro e w7 ⟨rfl, hb7, hs7⟩
        have hB7 : Below w4.heap.size w4 w7 := hB6.trans (hb7.mono hB6.size)
        have ho7 := owns_below hs6 hb7
        have hn7 := pt_new w7 ⟨3, t⟩
        clear hb7 hs6 r1
        go_upto_region 29 with (at_builtin; refine wpList_append_lies _ (by rfl) _ _ 22 (by rfl) w4.heap.size 45 j0 _ 2 24 Tryz.underlying22 hj0 hj1 hj2 hj3 rfl (by omega) _ P1.ts.length _ (by rfl) (ho7.alloc _) ⟨w7.heap.size, 0, none⟩ 1 1 (tksOf [⟨3, t⟩]) (by rfl) (tksOf_len _) (fun j u hj => by rw [addr_add]; exact hn7.at_ j u hj) (tksOf_one _) (by omega) (by unfold maxLen; omega) (by omega) (by have := hB7.size; simp; omega) _ rfl ?_; intro gg4 cap4 w8 hs8 hgrow4 hat4 hlt4)
        have hB8 : Below w4.heap.size w4 w8 := grown_own (hB7.alloc hB7.size _) hgrow4 (fun j hj => (ho7.lt j hj).1)
        rw [← tksOf_app] at hs8
        have rb0 := (hB8.cell (p := ⟨gq, 2, none⟩) hgx).trans hb0
        have rb1 := (hB8.cell (p := ⟨gq, 3, none⟩) hgx).trans hb1'
        have hc2 := qwithin_any a1.1 a1.2 (lv + 1) w8 (hpb.next hB8) (by omega)
        rw [Pt.v_def] at hc2
        clear ho7 hgrow4 hat4 hlt4 hn7 hb0 hb1' hpb
        go_wp2_with fail
        with_reducible refine hc2.mono ?_
        clear hc2
        rintro e w9 ⟨P2, rfl, hu2, hk9, hb9⟩
        have HU2 := Lib.hid hu2
        clear hu2
        rw [Pt.v_def P2]
        have hB9 : Below w4.heap.size w4 w9 := hB8.trans (hb9.mono hB8.size)
        have ho9 := owns_below hs8 hb9
        have hpos2 := hk9.pos
        have hlen2 : P2.ts.length ≤ 200000 := by rw [HU2.out]; omega
        clear hb9 hs8 rb0 rb1
        go_upto_region 30 with (at_builtin; refine wpList_append_lies _ (by rfl) _ _ 22 (by rfl) w4.heap.size 45 j0 _ 2 24 Tryz.underlying22 hj0 hj1 hj2 hj3 rfl (by omega) _ (P1.ts.length + 1) _ (by rfl) ho9 ⟨P2.g, P2.o, none⟩ P2.ts.length P2.c (tksOf P2.ts) (by rfl) (tksOf_len _) (fun j u hj => by rw [addr_add]; exact hk9.at_ j u hj) (tksOf_one _) hpos2 (by unfold maxLen; omega) (by omega) hB9.size _ rfl ?_; intro gg5 cap5 w7 hsa hgrow5 hat5 hlt5; have hB7 : Below w4.heap.size w4 w7 := grown_own hB9 hgrow5 (fun j hj => (ho9.lt j hj).1); have hyz := (hB7.block yb hys).trans hy4; have c0 : w7.cell? ⟨yb, 0, none⟩ = some (.slice none 0 0) := (by rw [cell_of_row _ _ _ _ _ _ hyz]; rfl); have c1 : w7.cell? ⟨yb, 1, none⟩ = some (.int .i64 12) := (by rw [cell_of_row _ _ _ _ _ _ hyz]; rfl); have f0 : w7.frozen? ⟨yb, 0, none⟩ = false := (by simp [World.frozen?, hyz]); have f1 : w7.frozen? ⟨yb, 1, none⟩ = false := (by simp [World.frozen?, hyz]))
        rw [← tksOf_app] at hsa
        obtain ⟨p, hpv, hpt, hp7', hpgg⟩ := own_pt (ts := P1.ts ++ [⟨3, t⟩] ++ P2.ts) (by rw [show (P1.ts ++ [⟨3, t⟩] ++ P2.ts : List Tok.Tk).length = P1.ts.length + 1 + P2.ts.length by simp; omega]; exact hsa) (by simp; omega)
        have HU := Lib.hid (show p.ts = Ex.inP a0.1.ts a0.2 lv ++ [⟨3, t⟩] ++ Ex.inP a1.1.ts a1.2 (lv + 1) by rw [hpt, HU1.out, HU2.out])
        rw [Pt.v_def] at hpv
        have hWr7 : Below wr.heap.size wr w7 := hWr4.trans (hB7.mono hWr4.size)
        have hpg : wr.heap.size ≤ p.g := by have := hWr4.size; omega
        have hyp : yb ≠ p.g := by omega
        rw [hpv]
        clear hpv hpt hsa ho9 hgrow5 hat5 hlt5 HU1 HU2
        have hbx := boxed (.slice (some ⟨p.g, p.o, none⟩) p.ts.length p.c) (.int .i64 lv) c0 c1
        have hp7 := pt_set yb 1 (.int .i64 lv) (pt_set yb 0 (.slice (some ⟨p.g, p.o, none⟩) p.ts.length p.c) hp7' hyp) hyp
        have hBr7 := (hWr7.setCell (p := ⟨yb, 0, none⟩) hwy (.slice (some ⟨p.g, p.o, none⟩) p.ts.length p.c)).setCell (p := ⟨yb, 1, none⟩) hwy (.int .i64 lv)
        generalize (w7.setCell ⟨yb, 0, none⟩ (.slice (some ⟨p.g, p.o, none⟩) p.ts.length p.c)).setCell ⟨yb, 1, none⟩ (.int .i64 lv) = w7 at *
        have y0 := hbx.1
        have y1 := hbx.2
        clear hbx c0 c1 f0 f1 hp7'
        have hs7 := owns_below hs hBr7
        replace hs7 := own_take hs7 hpN
        rw [HPT.out] at hs7
        have hb7 : Below w.heap.size w w7 := hb.trans (hBr7.mono hb.size)
        have hrow := hs.lt
        go_upto_region 31 with (at_builtin; refine wpList_append_lies _ (by rfl) _ _ 65 (by rfl) w.heap.size 68 i0 _ 2 32 Tryz.underlying65 hi0 hz0 hz1 hz2 rfl (by omega) (.slice (some ⟨g, 0, none⟩) P cap) (P) _ (by rfl) (hs7.alloc _) ⟨w7.heap.size, 0, none⟩ 1 1 [_, _] (by rfl) (by rfl) (World.news_of_block (cs := #[_, _]) (t := 68) (fr := (0, 0)) (heap_alloc_new w7 _)) (by simp [Value.oneCell']) (by omega) (by unfold maxLen; omega) (by omega) (by have := hb7.size; simp; omega) (w7.heap.size + 1) (by simp) ?_; intro gg cap3 w8 hs8 hgrow hat hlt8)
        have hb8 : Below w.heap.size w w8 := grown_own (hb7.alloc hb7.size _) hgrow (fun j hj => (hrow j hj).1)
        have hh8 := held_step (lv := (lv : Int)) (n := P + 1) (c := cap3) HH.out (M := sp) (fun q h => List.mem_append_left _ h) hBr7 (fun k h => (hrow k h).2) hp7 hpg hgrow hat
        rw [show plsOf sp ++ [.slice (some ⟨p.g, p.o, none⟩) p.ts.length p.c, .int .i64 (lv : Int)] = plsOf (sp ++ [(p, (lv : Int))]) by rw [plsOf_app]; rfl] at hs8
        have hmap : (sp ++ [((p, (lv : Int)) : Pl)]).map tp = (f.take (k + 1)).foldl Ex.qpstep [] := by
          rw [HST.out, List.map_append]
          have h1 : (p.ts, (lv : Int)) = Ex.qpart ⟨7, t, 0⟩ ([a0, a1].map tp) := by rw [HU.out]; show _ = ((Ex.partL ⟨7, t, 0⟩ (([a0, a1].map tp).map Ex.nrm)).1, Ex.qlv ⟨7, t, 0⟩); rw [HLV.out, HQL.out]
          rw [← h1]; rfl
        have htt : Ex.tot ((sp ++ [((p, (lv : Int)) : Pl)]).map tp) ≤ 20 * (k + 1) := by
          have h1 := HTOT.out
          have h2 := HPL.out
          rw [hmap, HST.out, Ex.tot_app, show Ex.tot [Ex.qpart ⟨7, t, 0⟩ ([a0, a1].map tp)] = (Ex.qpart ⟨7, t, 0⟩ ([a0, a1].map tp)).1.length by simp [Ex.tot]]
          rw [List.map_append, Ex.tot_app] at h1
          omega
        have hl8 : (sp ++ [((p, (lv : Int)) : Pl)]).length = P + 1 := by rw [List.length_append, HNN.out]; rfl
        generalize sp ++ [((p, (lv : Int)) : Pl)] = L8 at *
        have hch8 : Ex.chk (L8.length : Nat) (f.drop (k + 1)) = 0 := by rw [hl8]; have h := HCK0.out; rwa [HNN.out] at h
        have hle8 : L8.length ≤ k + 1 := by omega
        clear hs7 hb7 hgrow hat hrow HST HCK0 HPL HTOT HH
        go_wp2_with fail
        go_roundw
        case rel => exact ⟨k + 1, L8, by omega, by go_num, hmap, hle8, hch8, htt, ⟨hh8.ok⟩, by rw [hl8]; exact hs8, hb8⟩
        case measure => simp [intOf]; omega
    · have b1 : decide ((k : Int) < f.length) = false := by simp; omega
      have b1n : decide (k < f.length) = false := by simp; omega
      have hL1 : L.length = 1 := by
        have h := HCH.out
        rw [List.drop_of_length_le (by omega)] at h
        simp only [Ex.chk] at h
        split at h
        · omega
        · cases h
      obtain ⟨pl, rfl⟩ := List.length_eq_one_iff.1 hL1
      obtain ⟨p, lv⟩ := pl
      have hprt : p.ts = Ex.toks f := by
        have h := HACC.out
        rw [List.take_of_length_le (by omega)] at h
        rw [← Ex.qtoks f HCF.out, ← h]; rfl
      have hpk := (HH.out.ok (p, lv) (by simp)).1
      obtain ⟨g, cap, rfl, hgB, hgl, hn1, hn2, hcell⟩ := own_pos hs (by simp)
      have x0 : wr.cell? ⟨g, 0, none⟩ = some p.v := hcell 0 (by simp)
      rw [Pt.v_def] at x0
      have HPD2 := Lib.hid (show R = if 256 < p.ts.length then ([], 10) else (p.ts, 0) by rw [HPD.out, hprt])
      clear hprt HACC HCH HTOT HH hcell hs HPD
      by_cases hbig : 256 < p.ts.length
      · have b2 : decide ((256 : Int) < p.ts.length) = true := by simp; omega
        have b2n : decide (256 < p.ts.length) = true := by simp; omega
        have HR := Lib.hid (HPD2.out.trans (if_pos hbig))
        clear HPD2
        go_wp2_with fail
        go_ret2
        rw [HR.out]
        exact ⟨none, ⟨0, rfl⟩, tks_nil _ _, hb⟩
      · have b2 : decide ((256 : Int) < p.ts.length) = false := by simp; omega
        have b2n : decide (256 < p.ts.length) = false := by simp; omega
        have HR := Lib.hid (HPD2.out.trans (if_neg hbig))
        clear HPD2
        go_wp2_with fail
        go_ret2
        rw [HR.out]
        exact ⟨some ⟨p.g, p.o, none⟩, ⟨p.c, rfl⟩, pt_tks hpk, hb⟩
end Go.Proofs.YtkkkiacbikbalaaGreatDoor
