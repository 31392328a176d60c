/- A name with values in parentheses, as tokens. No condition but the lengths. -/
import Derived.Test.YtkkkiacbikbalaaGreatDoorPnt
import Derived.Test.YtkkkiacbikbalaaGreatDoorFmt
namespace Go.Proofs.YtkkkiacbikbalaaGreatDoor
open Go.RowKit Go.Deep

/-- The slice value's cells are these parts; they lie below block B. -/
def VAt (w : World) (B : Nat) (A : Option Addr) (L : List Pl) : Prop := ∀ i (h : i < L.length), (∃ g o, A = some ⟨g, o, none⟩ ∧ g < B ∧ w.cell? ⟨g, o + i * 2, none⟩ = some L[i].1.v ∧ w.cell? ⟨g, o + i * 2 + 1, none⟩ = some (.int .i64 L[i].2)) ∧ PtOk w L[i].1
theorem VAt.next {w w' : World} {A : Option Addr} {L : List Pl} (h : VAt w w.heap.size A L) (hb : Below w.heap.size w w') : VAt w' w'.heap.size A L := fun i hi => by
  obtain ⟨⟨g, o, e, hg, h1, h2⟩, h3⟩ := h i hi
  exact ⟨⟨g, o, e, Nat.lt_of_lt_of_le hg hb.size, (hb.cell (p := ⟨g, o + i * 2, none⟩) hg).trans h1, (hb.cell (p := ⟨g, o + i * 2 + 1, none⟩) hg).trans h2⟩, h3.next hb⟩
theorem own_two (w : World) (B : Nat) (hB : B ≤ w.heap.size) (a b : Tok.Tk) : (w.alloc (.cells #[.int .i64 a.kind, .string (str a.text), .int .i64 b.kind, .string (str b.text)] 45)).ownsRow B 45 2 (.slice (some ⟨w.heap.size, 0, none⟩) 2 2) ([a, b] : List Tok.Tk).length (tksOf [a, b]) :=
  ⟨rfl, .inr ⟨w.heap.size, 2, _, rfl, hB, heap_alloc_new w _, Nat.le_refl _, by unfold maxLen; omega, rfl, rfl⟩⟩
/-- The tokens of a call by now. -/
def Ex.callK (t : List UInt8) (L : List Pl) (k : Nat) : List Tok.Tk := [⟨1, t⟩, ⟨3, [40]⟩] ++ (((L.take k).map (fun p => p.1.ts)).foldl Ex.sepStep (false, [])).2
theorem sep_fst (L : List (List Tok.Tk)) : (L.foldl Ex.sepStep (false, [])).1 = decide (0 < L.length) := by
  cases L with
  | nil => rfl
  | cons x L => rw [List.foldl_cons, show Ex.sepStep (false, []) x = (true, x) by simp [Ex.sepStep], Ex.sepd_true]; simp
theorem callK_succ (t : List UInt8) (L : List Pl) (k : Nat) (h : k < L.length) : Ex.callK t L (k + 1) = Ex.callK t L k ++ (if 0 < k then [⟨3, [44]⟩] else []) ++ L[k].1.ts := by
  unfold Ex.callK
  rw [List.take_succ_eq_append_getElem h, List.map_append, List.foldl_append]
  have h1 := sep_fst ((L.take k).map (fun p => p.1.ts))
  rw [List.length_map, List.length_take, Nat.min_eq_left (by omega)] at h1
  generalize ((L.take k).map (fun p => p.1.ts)).foldl Ex.sepStep (false, []) = s at *
  obtain ⟨b, a⟩ := s
  dsimp only at h1
  subst h1
  simp [Ex.sepStep]
theorem callK_all (t : List UInt8) (L : List Pl) : Ex.callK t L L.length ++ [⟨3, [41]⟩] = Ex.callT t (L.map (fun p => p.1.ts)) := by
  unfold Ex.callK Ex.callT Ex.sepd
  rw [List.take_length]
set_option maxHeartbeats 8000000 in
set_option maxRecDepth 100000 in
theorem call_any (A : Option Addr) (c : Nat) (t : List UInt8) (L : List Pl) (w : World) (hA : VAt w w.heap.size A L) (hl : L.length ≤ 300) (hlen : ∀ p ∈ L, p.1.ts.length ≤ 100000) :
    Calls Tryz.prog 59 #[.string (str t), .slice A L.length c] w (GotP w (Ex.callT t (L.map (fun p => p.1.ts))) 11) := by
  obtain ⟨i0, hi0, hz0, hz1, hz2⟩ := info_parts infoT
  have HALL := Lib.hid (callK_all t L)
  have c40 : ∀ w, Calls Tryz.prog 61 #[.string ⟨#[40]⟩] w fun e w' => e = .returned (.agg #[.int .i64 3, .string ⟨#[40]⟩]) ∧ Below w.heap.size w w' ∧ w.heap.size ≤ w'.heap.size := sym_tok [40]
  have c41 : ∀ w, Calls Tryz.prog 61 #[.string ⟨#[41]⟩] w fun e w' => e = .returned (.agg #[.int .i64 3, .string ⟨#[41]⟩]) ∧ Below w.heap.size w w' ∧ w.heap.size ≤ w'.heap.size := sym_tok [41]
  have c44 : ∀ w, Calls Tryz.prog 61 #[.string ⟨#[44]⟩] w fun e w' => e = .returned (.agg #[.int .i64 3, .string ⟨#[44]⟩]) ∧ Below w.heap.size w w' ∧ w.heap.size ≤ w'.heap.size := sym_tok [44]
  generalize Ex.callT t (L.map (fun p => p.1.ts)) = R at *
  go_enter Tryz.func59, Tryz.ntmps59
  go_upto_region 1 with fail
  have hb0 : Below w.heap.size w (w.alloc (.cells #[.slice none 0 0, .int .i64 0] 63)) := (Below.refl _ _).alloc (Nat.le_refl _) _
  have hr := heap_alloc_new w (.cells #[.slice none 0 0, .int .i64 0] 63)
  have hA0 := hA.next hb0
  have hs0 : (w.alloc (.cells #[.slice none 0 0, .int .i64 0] 63)).heap.size = w.heap.size + 1 := by simp
  have HS0 := Lib.hid hs0
  clear hA hs0
  generalize w.alloc (.cells #[.slice none 0 0, .int .i64 0] 63) = w0 at *
  have q1 := name_tok t w0
  go_wp2_with fail
  with_reducible refine q1.mono ?_
  clear q1
  rintro e w1 ⟨rfl, hb1, hs1⟩
  have q2 := c40 w1
  go_wp2_with fail
  with_reducible refine q2.mono ?_
  clear q2
  rintro e w2 ⟨rfl, hb2, hs2⟩
  have hB2 : Below w0.heap.size w0 w2 := hb1.trans (hb2.mono hb1.size)
  have hown2 := own_two w2 w0.heap.size hB2.size ⟨1, t⟩ ⟨3, [40]⟩
  have hB3 := hB2.alloc hB2.size (.cells #[.int .i64 1, .string (str t), .int .i64 3, .string (str [40])] 45)
  clear hb1 hb2 hs1 hs2
  go_upto_region 3 with fail
  change (w2.alloc (.cells #[.int .i64 1, .string (str t), .int .i64 3, .string ⟨#[40]⟩] 45)).ownsRow _ _ _ _ _ _ at hown2
  change Below _ _ (w2.alloc (.cells #[.int .i64 1, .string (str t), .int .i64 3, .string ⟨#[40]⟩] 45)) at hB3
  generalize w2.alloc (.cells #[.int .i64 1, .string (str t), .int .i64 3, .string ⟨#[40]⟩] 45) = w3 at *
  go_loopw [5, 14] (fun v i wr => ∃ (k : Nat), k ≤ L.length ∧ i = .int .i64 k ∧ (Ex.callK t L k).length ≤ 2 + 100001 * k ∧ 1 ≤ (Ex.callK t L k).length ∧ wr.ownsRow w0.heap.size 45 2 v (Ex.callK t L k).length (tksOf (Ex.callK t L k)) ∧ Below w0.heap.size w0 wr) (fun _ i _ => L.length - (intOf i).toNat)
  case atStart => exact ⟨0, by omega, rfl, by simp [Ex.callK], by simp [Ex.callK], hown2, hB3⟩
  case round =>
    clear hown2 hB3 hB2
    obtain ⟨k, hk, rfl, hkl, hk1, hown, hb⟩ := hrel
    by_cases hlt : k < L.length
    · have b1 : decide ((k : Int) < L.length) = true := by simp; omega
      have b1n : decide (k < L.length) = true := by simp; omega
      have HS := Lib.hid (callK_succ t L k hlt)
      obtain ⟨⟨g, o, rfl, hg, hd0, hd1⟩, hp0⟩ := hA0 k hlt
      have hpl := hlen L[k] (List.getElem_mem hlt)
      have hp := hp0.next hb
      have hgp := hp0.lt
      have e0 := (hb.cell (p := ⟨g, o + k * 2, none⟩) hg).trans hd0
      have e1 := (hb.cell (p := ⟨g, o + k * 2 + 1, none⟩) hg).trans hd1
      clear hd0 hd1 hp0
      generalize L[k] = pl at *
      obtain ⟨p, lv⟩ := pl
      dsimp only at hp e0 e1 hpl hgp
      have HS2 := Lib.hid (show Ex.callK t L (k + 1) = Ex.callK t L k ++ (if 0 < k then [⟨3, [44]⟩] else []) ++ p.ts from HS.out)
      clear HS
      rw [Pt.v_def] at e0
      have hpos := hp.pos
      by_cases hk0 : 0 < k
      · have b2 : decide ((0 : Int) < (k : Int)) = true := by simp; omega
        have b2n : decide (0 < k) = true := by simp; omega
        have HN := Lib.hid (HS2.out.trans (by rw [if_pos hk0]))
        clear HS2 hk0
        go_upto_region 6 with fail
        have hb4 : Below w0.heap.size w0 (wr.alloc (.cells #[.slice (some ⟨p.g, p.o, none⟩) p.ts.length p.c, .int .i64 lv] 63)) := hb.alloc hb.size _
        have hown4 := hown.alloc (.cells #[.slice (some ⟨p.g, p.o, none⟩) p.ts.length p.c, .int .i64 lv] 63)
        have hp4 := pt_alloc (.cells #[.slice (some ⟨p.g, p.o, none⟩) p.ts.length p.c, .int .i64 lv] 63) hp
        have hx4 := heap_alloc_new wr (.cells #[.slice (some ⟨p.g, p.o, none⟩) p.ts.length p.c, .int .i64 lv] 63)
        generalize wr.alloc (.cells #[.slice (some ⟨p.g, p.o, none⟩) p.ts.length p.c, .int .i64 lv] 63) = w4 at *
        have q3 := c44 w4
        go_wp2_with fail
        with_reducible refine q3.mono ?_
        clear q3
        rintro e w5 ⟨rfl, hb5, hs5⟩
        have hx5 := (hb5.block wr.heap.size (Array.getElem?_eq_some_iff.1 hx4).1).trans hx4
        have hB5 := hb4.trans (hb5.mono hb4.size)
        have hown5 := owns_below hown4 hb5
        have hp5 := hp4.next hb5
        have hbB : w0.heap.size ≤ wr.heap.size := hb.size
        have hlt5 : wr.heap.size < w5.heap.size := (Array.getElem?_eq_some_iff.1 hx5).1
        have hn5 : PtOk (w5.alloc (.cells #[.int .i64 3, .string ⟨#[44]⟩] 45)) ⟨w5.heap.size, 0, 1, [⟨3, [44]⟩]⟩ := pt_new w5 ⟨3, [44]⟩
        have hrow := hown5.lt
        clear hx4 hown4 hp4 hb4 hb5
        go_upto_region 7 with (at_builtin; refine wpList_append_lies _ (by rfl) _ _ 22 (by rfl) w0.heap.size 45 i0 _ 2 24 Tryz.underlying22 hi0 hz0 hz1 hz2 rfl (by omega) _ (Ex.callK t L k).length _ (by rfl) (hown5.alloc _) ⟨w5.heap.size, 0, none⟩ 1 1 (tksOf [⟨3, [44]⟩]) (by rfl) (tksOf_len _) (fun j u hj => by rw [addr_add]; exact hn5.at_ j u hj) (tksOf_one _) (by omega) (by unfold maxLen; omega) (by omega) (by have := hB5.size; simp; omega) _ rfl ?_; intro gg cap3 w6 hown6 hgrow hat hlt6)
        have hB6 : Below w0.heap.size w0 w6 := grown_own (hB5.alloc hB5.size _) hgrow (fun j hj => (hrow j hj).1)
        have hvb : ∀ j, u5.ownBlock = some j → j < wr.heap.size := fun j hj => (hown.lt j hj).2
        have hgB : p.g < w0.heap.size := hgp
        have hx5c : w5.cell? ⟨wr.heap.size, 0, none⟩ = some (.slice (some ⟨p.g, p.o, none⟩) p.ts.length p.c) := by rw [cell_of_row _ _ _ _ _ _ hx5]; rfl
        have hx6 : w6.cell? ⟨wr.heap.size, 0, none⟩ = some (.slice (some ⟨p.g, p.o, none⟩) p.ts.length p.c) := (World.grownBy.cell_far hgrow ⟨wr.heap.size, 0, none⟩ (by simp; omega) (fun e => absurd (hvb wr.heap.size e.symm) (Nat.lt_irrefl _))).trans (cell_alloc _ hlt5 hx5c)
        have hp6 : PtOk w6 p := pt_grown (pt_alloc _ hp5) hgrow (fun e => by have := (hrow _ e).1; omega)
        rw [← tksOf_app] at hown6
        have hrow6 := hown6.lt
        clear hown5 hown hp5 hp hx5 hx5c hn5 hgrow hat hrow hb hvb
        go_upto_region 8 with (at_builtin; refine wpList_append_lies _ (by rfl) _ _ 22 (by rfl) w0.heap.size 45 i0 _ 2 24 Tryz.underlying22 hi0 hz0 hz1 hz2 rfl (by omega) _ ((Ex.callK t L k).length + 1) _ (by rfl) hown6 ⟨p.g, p.o, none⟩ p.ts.length p.c (tksOf p.ts) (by rfl) (tksOf_len _) (fun j u hj => by rw [addr_add]; exact hp6.at_ j u hj) (tksOf_one _) hpos (by unfold maxLen; omega) (by omega) (by first | exact hB6.size | (have := hB6.size; omega)) _ rfl ?_); intro gg2 cap4 w7 hown7 hgrow7 hat7 hlt7
        have hB7 : Below w0.heap.size w0 w7 := grown_own hB6 hgrow7 (fun j hj => (hrow6 j hj).1)
        rw [← tksOf_app, ← HN.out] at hown7
        have hle : (Ex.callK t L (k + 1)).length = (Ex.callK t L k).length + 1 + p.ts.length := by rw [HN.out]; simp; omega
        go_wp2_with fail
        go_roundw
        case rel => exact ⟨k + 1, by omega, by go_num, by omega, by omega, by rw [hle]; exact hown7, hB7⟩
        case measure => simp [intOf]; omega
      · have b2 : decide ((0 : Int) < (k : Int)) = false := by simp; omega
        have b2n : decide (0 < k) = false := by simp; omega
        have HN := Lib.hid (HS2.out.trans (by rw [if_neg hk0, List.append_nil]))
        clear HS2 hk0
        go_upto_region 7 with fail
        have hb4 : Below w0.heap.size w0 (wr.alloc (.cells #[.slice (some ⟨p.g, p.o, none⟩) p.ts.length p.c, .int .i64 lv] 63)) := hb.alloc hb.size _
        have hown4 := hown.alloc (.cells #[.slice (some ⟨p.g, p.o, none⟩) p.ts.length p.c, .int .i64 lv] 63)
        have hp4 := pt_alloc (.cells #[.slice (some ⟨p.g, p.o, none⟩) p.ts.length p.c, .int .i64 lv] 63) hp
        have hx4 := heap_alloc_new wr (.cells #[.slice (some ⟨p.g, p.o, none⟩) p.ts.length p.c, .int .i64 lv] 63)
        generalize wr.alloc (.cells #[.slice (some ⟨p.g, p.o, none⟩) p.ts.length p.c, .int .i64 lv] 63) = w4 at *
        have hx6 : w4.cell? ⟨wr.heap.size, 0, none⟩ = some (.slice (some ⟨p.g, p.o, none⟩) p.ts.length p.c) := by rw [cell_of_row _ _ _ _ _ _ hx4]; rfl
        have hrow6 := hown4.lt
        clear hown hp hx4 hb
        go_upto_region 8 with (at_builtin; refine wpList_append_lies _ (by rfl) _ _ 22 (by rfl) w0.heap.size 45 i0 _ 2 24 Tryz.underlying22 hi0 hz0 hz1 hz2 rfl (by omega) _ (Ex.callK t L k).length _ (by rfl) hown4 ⟨p.g, p.o, none⟩ p.ts.length p.c (tksOf p.ts) (by rfl) (tksOf_len _) (fun j u hj => by rw [addr_add]; exact hp4.at_ j u hj) (tksOf_one _) hpos (by unfold maxLen; omega) (by omega) (by first | exact hb4.size | (have := hb4.size; omega)) _ rfl ?_); intro gg2 cap4 w7 hown7 hgrow7 hat7 hlt7
        have hB7 : Below w0.heap.size w0 w7 := grown_own hb4 hgrow7 (fun j hj => (hrow6 j hj).1)
        rw [← tksOf_app, ← HN.out] at hown7
        have hle : (Ex.callK t L (k + 1)).length = (Ex.callK t L k).length + p.ts.length := by rw [HN.out]; simp
        go_wp2_with fail
        go_roundw
        case rel => exact ⟨k + 1, by omega, by go_num, by omega, by omega, by rw [hle]; exact hown7, hB7⟩
        case measure => simp [intOf]; omega
    · have b1 : decide ((k : Int) < L.length) = false := by simp; omega
      have b1n : decide (k < L.length) = false := by simp; omega
      obtain rfl : k = L.length := by omega
      have q3 := c41 wr
      go_upto_region 9 with fail
      go_wp2_with fail
      with_reducible refine q3.mono ?_
      clear q3
      rintro e w5 ⟨rfl, hb5, hs5⟩
      have hB5 := hb.trans (hb5.mono hb.size)
      have hown5 := owns_below hown hb5
      have hn5 : PtOk (w5.alloc (.cells #[.int .i64 3, .string ⟨#[41]⟩] 45)) ⟨w5.heap.size, 0, 1, [⟨3, [41]⟩]⟩ := pt_new w5 ⟨3, [41]⟩
      have hrow := hown5.lt
      have hr5 := (hB5.block w.heap.size (by have := HS0.out; omega)).trans hr
      have hB50 : w0.heap.size ≤ w5.heap.size := hB5.size
      clear hown hb hb5
      go_wp2_with (at_builtin; refine wpList_append_lies _ (by rfl) _ _ 22 (by rfl) w0.heap.size 45 i0 _ 2 24 Tryz.underlying22 hi0 hz0 hz1 hz2 rfl (by omega) _ (Ex.callK t L L.length).length _ (by rfl) (hown5.alloc _) ⟨w5.heap.size, 0, none⟩ 1 1 (tksOf [⟨3, [41]⟩]) (by rfl) (tksOf_len _) (fun j u hj => by rw [addr_add]; exact hn5.at_ j u hj) (tksOf_one _) (by omega) (by unfold maxLen; omega) (by omega) (by have := hB5.size; simp; omega) _ rfl ?_; intro gg cap3 w6 hown6 hgrow hat hlt6; have hB6 : Below w0.heap.size w0 w6 := grown_own (hB5.alloc hB5.size _) hgrow (fun j hj => (hrow j hj).1); have hr6 : w6.heap[w.heap.size]? = some (.cells #[.slice none 0 0, .int .i64 0] 63 (0, 0)) := (hB6.block w.heap.size (by have := HS0.out; omega)).trans hr; have k0 : w6.cell? ⟨w.heap.size, 0, none⟩ = some (.slice none 0 0) := (by rw [cell_of_row _ _ _ _ _ _ hr6]; rfl); have k1 : w6.cell? ⟨w.heap.size, 1, none⟩ = some (.int .i64 0) := (by rw [cell_of_row _ _ _ _ _ _ hr6]; rfl); have f0 : w6.frozen? ⟨w.heap.size, 0, none⟩ = false := (by simp [World.frozen?, hr6]); have f1 : w6.frozen? ⟨w.heap.size, 1, none⟩ = false := (by simp [World.frozen?, hr6]))
      rw [← tksOf_app, show tksOf (Ex.callK t L L.length ++ [⟨3, [41]⟩]) = tksOf R by rw [HALL.out]] at hown6
      have hRl := Lib.hid (show R.length = (Ex.callK t L L.length).length + 1 by rw [← HALL.out]; simp)
      rw [show (Ex.callK t L L.length).length + 1 = R.length from hRl.out.symm] at hown6 ⊢
      obtain ⟨p2, hpv, hpt, hpk, hpg⟩ := own_pt hown6 (by have := hRl.out; omega)
      have hbx := boxed (.slice (some ⟨gg, 0, none⟩) R.length cap3) (.int .i64 11) k0 k1
      have hne : w.heap.size ≠ p2.g := by have := HS0.out; omega
      have hk2 := pt_set w.heap.size 1 (.int .i64 11) (pt_set w.heap.size 0 (.slice (some ⟨gg, 0, none⟩) R.length cap3) hpk hne) hne
      have hBw : Below w.heap.size w w6 := hb0.trans (hB6.mono (by have := HS0.out; omega))
      exact bodyPost_ret (v := .agg #[.slice (some ⟨gg, 0, none⟩) R.length cap3, .int .i64 11]) (by simp [results, Tryz.results59, go_sem, hbx.1, hbx.2]) rfl ⟨p2, by rw [← hpv], hpt, hk2, by have := HS0.out; omega, (hBw.setCell (by simp) _).setCell (by simp) _⟩
end Go.Proofs.YtkkkiacbikbalaaGreatDoor
