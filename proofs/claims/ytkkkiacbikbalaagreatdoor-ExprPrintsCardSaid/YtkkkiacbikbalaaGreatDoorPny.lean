/- Print of any formula. Condition: the lengths, and the library's table of powers of ten. -/
import Derived.Test.YtkkkiacbikbalaaGreatDoorPap
import Derived.Test.YtkkkiacbikbalaaGreatDoorRnd
import Derived.Test.YtkkkiacbikbalaaGreatDoorAwx
namespace Go.Proofs.YtkkkiacbikbalaaGreatDoor
open Go.RowKit Go.Deep

theorem mem_sum_le {l : List Nat} {n : Nat} (h : n ∈ l) : n ≤ l.sum := by
  induction l with
  | nil => simp at h
  | cons x l ih =>
    rw [List.sum_cons]
    rcases List.mem_cons.1 h with rfl | h
    · omega
    · have := ih h; omega
theorem VAt.nil (w : World) (A : Option Addr) : VAt w w.heap.size A [] := fun i hi => by simp at hi
theorem tp_fst (L : List Pl) : (L.map tp).map (·.1) = L.map (fun p => p.1.ts) := by rw [List.map_map]; rfl
theorem part_any (o : Ex.Op) (ho : (Ex.opr o).2 = true) (hw : 0 ≤ o.n ∧ o.n < 4294967296) (A : Option Addr) (c : Nat) (L : List Pl) (hL : L.length = (Ex.opr o).1.toNat) (w : World) (hA : VAt w w.heap.size A L) (hlen : ∀ p ∈ L, p.1.ts.length ≤ 100000) (hT : Tabs w) :
    Calls Tryz.prog 31 #[.agg #[.int .i64 o.kind, .string (str o.text), .int .u32 o.n], .slice A L.length c] w (GotP w (Ex.partL o (L.map tp)).1 (Ex.partL o (L.map tp)).2) := by
  rcases Ex.opr_cases ho with ⟨n, rfl, e⟩ | ⟨t, rfl, ht, e⟩ | ⟨t, n, rfl, ht, hn8, e⟩ | ⟨rfl, e⟩ | ⟨rfl, e⟩ | ⟨t, rfl, ht, e⟩ | ⟨t, rfl, ht, e⟩
  · dsimp only at hw
    obtain ⟨m, rfl⟩ : ∃ m : Nat, n = m := ⟨n.toNat, by omega⟩
    exact part_big m (by omega) [] A L.length c w hT
  · exact part_name 0 t A L.length c w
  · have h := part_call n t A c L w hA (by rw [e] at hL; dsimp only at hw; omega) hlen
    rw [← tp_fst] at h
    exact h
  · have h := part_load 0 [] A c L w hA (by rw [e] at hL; omega) hlen
    rw [← tp_fst] at h
    exact h
  · have h := part_inn 0 [] A c L w hA (by rw [e] at hL; omega) hlen
    rw [← tp_fst] at h
    exact h
  · rw [e] at hL
    obtain ⟨pl, rfl⟩ := List.length_eq_one_iff.1 hL
    obtain ⟨⟨g, o, rfl, hg, h0, h1⟩, hp⟩ := hA 0 (by simp)
    have hl := hlen pl (by simp)
    exact part_un 0 t g o c pl.1 pl.2 w hp h0 h1 hg (by omega)
  · rw [e] at hL
    obtain ⟨x, y, rfl⟩ : ∃ x y, L = [x, y] := by
      match L, hL with
      | [x, y], _ => exact ⟨x, y, rfl⟩
    obtain ⟨⟨g, o, rfl, hg, h0, h1⟩, hp⟩ := hA 0 (by simp)
    obtain ⟨⟨g2, o2, e2, hg2, h02, h12⟩, hp2⟩ := hA 1 (by simp)
    cases e2
    have hl := hlen x (by simp)
    have hl2 := hlen y (by simp)
    exact part_bin 0 t g o c x.1 y.1 x.2 y.2 w hp hp2 h0 h1 h02 h12 hg (by omega) (by omega)
theorem Ex.inP_len (ts : List Tok.Tk) (a b : Int) : (Ex.inP ts a b).length ≤ ts.length + 2 := by
  unfold Ex.inP; split <;> simp
theorem Ex.sepd_len (L : List (List Tok.Tk)) : (Ex.sepd L).length ≤ (L.map List.length).sum + L.length := by
  cases L with
  | nil => simp [Ex.sepd]
  | cons x L =>
    rw [Ex.sepd_cons, List.length_append]
    have : ∀ M : List (List Tok.Tk), (M.flatMap (fun x => (⟨3, [44]⟩ : Tok.Tk) :: x)).length = (M.map List.length).sum + M.length := fun M => by
      induction M with
      | nil => rfl
      | cons y M ih => rw [List.flatMap_cons, List.length_append, ih]; simp; omega
    rw [this]; simp; omega
theorem Ex.partL_len (o : Ex.Op) (a : List (List Tok.Tk × Int)) (ho : (Ex.opr o).2 = true) (hw : 0 ≤ o.n) (ha : a.length = (Ex.opr o).1.toNat) : (Ex.partL o a).1.length ≤ Ex.tot a + 20 := by
  have hc : ∀ t, (Ex.callT t (a.map (·.1))).length ≤ Ex.tot a + a.length + 3 := fun t => by
    unfold Ex.callT Ex.tot
    have h := Ex.sepd_len (a.map (·.1))
    rw [List.length_map, List.map_map] at h
    simp only [List.length_append, List.length_cons, List.length_nil]
    simp only [Function.comp_def] at h
    omega
  rcases Ex.opr_cases ho with ⟨n, rfl, e⟩ | ⟨t, rfl, ht, e⟩ | ⟨t, n, rfl, ht, hn8, e⟩ | ⟨rfl, e⟩ | ⟨rfl, e⟩ | ⟨t, rfl, ht, e⟩ | ⟨t, rfl, ht, e⟩
  · show 1 ≤ _; omega
  · show 1 ≤ _; omega
  · have := hc t; rw [e] at ha; dsimp only at hw; show (Ex.callT t (a.map (·.1))).length ≤ _; omega
  · have := hc [108, 111, 97, 100]; rw [e] at ha; show (Ex.callT [108, 111, 97, 100] (a.map (·.1))).length ≤ _; omega
  · have := hc [105, 110]; rw [e] at ha; show (Ex.callT [105, 110] (a.map (·.1))).length ≤ _; omega
  · rw [e] at ha
    obtain ⟨x, rfl⟩ := List.length_eq_one_iff.1 ha
    have := Ex.inP_len x.1 x.2 11
    show ([⟨3, t⟩] ++ Ex.inP x.1 x.2 11 : List Tok.Tk).length ≤ _
    simp [Ex.tot]; omega
  · rw [e] at ha
    obtain ⟨x, y, rfl⟩ : ∃ x y, a = [x, y] := by
      match a, ha with
      | [x, y], _ => exact ⟨x, y, rfl⟩
    have h1 := Ex.inP_len x.1 x.2 (Ex.levL t : Nat)
    have h2 := Ex.inP_len y.1 y.2 ((Ex.levL t : Nat) + 1)
    show (Ex.inP x.1 x.2 (Ex.levL t : Nat) ++ [⟨3, t⟩] ++ Ex.inP y.1 y.2 ((Ex.levL t : Nat) + 1) : List Tok.Tk).length ≤ _
    simp [Ex.tot]; omega
theorem Ex.pstep_app (a b : List (List Tok.Tk × Int)) (o : Ex.Op) (h : b.length = (Ex.opr o).1.toNat) : Ex.pstep (a ++ b) o = a ++ [Ex.partL o b] := by
  unfold Ex.pstep
  rw [List.length_append, h, Nat.add_sub_cancel, List.take_left, List.drop_left]
/-- What Print returns. -/
def Ex.print (f : List Ex.Op) : List Tok.Tk × Int := if Ex.check f ≠ 0 then ([], Ex.check f) else if 256 < (Ex.toks f).length then ([], 10) else (Ex.toks f, 0)
theorem print_def (f : List Ex.Op) : Ex.print f = if Ex.check f ≠ 0 then ([], Ex.check f) else if 256 < (Ex.toks f).length then ([], 10) else (Ex.toks f, 0) := rfl
def GotL (w : World) (r : List Tok.Tk × Int) : Ending → World → Prop := fun x w' => ∃ A c, x = .returned (.tuple #[.slice A r.1.length c, .int .i64 r.2]) ∧ TksAt w' w'.heap.size A r.1 ∧ Below w.heap.size w w'
theorem tks_nil (w : World) (A : Option Addr) : TksAt w w.heap.size A [] := fun i hi => by simp at hi
theorem Ex.toks_pos (f : List Ex.Op) (hw : ∀ o ∈ f, 0 ≤ o.n ∧ o.n < 4294967296) (h : Ex.chk 0 f = 0) : 0 < (Ex.toks f).length := List.length_pos_iff.2 (Ex.toks_ok f hw h).2.2
theorem plsOf_get (us : List Pl) : ∀ (i : Nat) (h : i < us.length), (plsOf us)[i * 2]? = some us[i].1.v ∧ (plsOf us)[i * 2 + 1]? = some (.int .i64 us[i].2) := by
  induction us with
  | nil => intro i h; simp at h
  | cons u us ih =>
    intro i h
    cases i with
    | zero => exact ⟨rfl, rfl⟩
    | succ i =>
      have h2 := ih i (by simpa using h)
      rw [show (i + 1) * 2 = i * 2 + 2 by omega]
      simpa [plsOf, plOf] using h2
set_option maxHeartbeats 8000000 in
set_option maxRecDepth 100000 in
theorem print_ok (A : Option Addr) (c : Nat) (f : List Ex.Op) (w : World) (hA : OpsAt w w.heap.size A f) (hL : OpsLen f) (hTb : Tabs w) (h0 : Ex.check f = 0) :
    Calls Tryz.prog 12 #[.slice A f.length c] w (GotL w (Ex.print f)) := by
  have HPD := Lib.hid (show Ex.print f = if 256 < (Ex.toks f).length then ([], 10) else (Ex.toks f, 0) by rw [print_def, if_neg (fun h => h h0)])
  generalize Ex.print f = R at *
  unfold GotL
  obtain ⟨i0, hi0, hz0, hz1, hz2⟩ := info_parts infoP
  have hl2 : f.length ≤ 256 := by
    have h := h0
    rw [check_def] at h
    split at h
    · cases h
    · omega
  have hck := fcheck_any A c f w hA (by omega) hL
  have hchk : Ex.chk 0 (f.drop 0) = 0 := by
    have h := h0
    rw [check_def, if_neg (by omega)] at h; exact h
  rw [h0] at hck
  clear h0
  go_enter Tryz.func12, Tryz.ntmps12
  go_wp2_with fail
  with_reducible refine hck.mono ?_
  clear hck
  rintro x w1 ⟨rfl, hb1⟩
  go_wp2_with fail
  go_loopw [5, 19] (fun v i wr => ∃ (k : Nat) (L : List Pl), k ≤ f.length ∧ i = .int .i64 k ∧ L.map tp = (f.take k).foldl Ex.pstep [] ∧ L.length ≤ k ∧ Ex.chk L.length (f.drop k) = 0 ∧ Ex.tot (L.map tp) ≤ 20 * k ∧ Held wr v L ∧ wr.ownsRow w.heap.size 63 2 v L.length (plsOf L) ∧ Below w.heap.size w wr) (fun _ i _ => f.length - (intOf i).toNat)
  case atStart => exact ⟨0, [], by omega, rfl, rfl, by simp, hchk, by simp [Ex.tot], ⟨fun p hp => by simp at hp⟩, World.ownsRow_nil _ _ _ _, hb1⟩
  case round =>
    clear hchk hb1
    obtain ⟨k, L, hk, rfl, hacc, hak, hch, htot, hheld, hown, hb⟩ := hrel
    have HACC := Lib.hid hacc
    have HCH := Lib.hid hch
    have HTOT := Lib.hid htot
    have HHELD := Lib.hid hheld
    clear hacc hch htot hheld
    by_cases hlt : k < f.length
    · have b1 : decide ((k : Int) < f.length) = true := by simp; omega
      have b1n : decide (k < f.length) = true := by simp; omega
      obtain ⟨g0, o0, rfl, hg, hc0, hc1, hc2⟩ := hA k hlt
      have hd0 := (hb.cell (p := ⟨g0, o0 + k * 3, none⟩) hg).trans hc0
      have hd1 := (hb.cell (p := ⟨g0, o0 + k * 3 + 1, none⟩) hg).trans hc1
      have hd2 := (hb.cell (p := ⟨g0, o0 + k * 3 + 2, none⟩) hg).trans hc2
      have HN := Lib.hid (show (f.take (k + 1)).foldl Ex.pstep [] = Ex.pstep (L.map tp) f[k] by rw [List.take_succ_eq_append_getElem hlt, List.foldl_append, ← HACC.out]; rfl)
      have HC := Lib.hid (show (Ex.opr f[k]).2 = true ∧ (Ex.opr f[k]).1 ≤ (L.length : Int) ∧ Ex.chk ((L.length : Int) + (1 - (Ex.opr f[k]).1)) (f.drop (k + 1)) = 0 by
        have h := HCH.out
        rw [list_drop f k hlt, Ex.chk_cons] at h
        split at h
        · rename_i h1; exact ⟨h1.1, h1.2, h⟩
        · cases h)
      have hLo := hL f[k] (List.getElem_mem hlt)
      clear hc0 hc1 hc2 HCH HACC
      generalize f[k] = o at *
      have hbw := hb.alloc hb.size (.cells #[.int .i64 o.kind, .string (str o.text), .int .u32 o.n] 42)
      have hcall := opr_any o hLo.1 hLo.2.1 hLo.2.2 (wr.alloc (.cells #[.int .i64 o.kind, .string (str o.text), .int .u32 o.n] 42))
      rw [oprV_def, HC.out.1] at hcall
      have hll : L.length ≤ 256 := by omega
      have hx0 := heap_alloc_new wr (.cells #[.int .i64 o.kind, .string (str o.text), .int .u32 o.n] 42)
      have hN : (∃ ts1 lv1, Ex.pstep (L.map tp) o = L.map tp ++ [(ts1, lv1)] ∧ ts1.length ≤ 20 ∧ (Ex.opr o).1 = 0 ∧ ∀ A c W, Tabs W → Calls Tryz.prog 31 #[.agg #[.int .i64 o.kind, .string (str o.text), .int .u32 o.n], .slice A 0 c] W (GotP W ts1 lv1)) ∨ 0 < (Ex.opr o).1 := by
        by_cases h0 : (Ex.opr o).1 = 0
        · refine .inl ⟨_, _, by have h := Ex.pstep_app (L.map tp) [] o (by rw [h0]; rfl); rw [List.append_nil] at h; exact h, ?_, h0, fun A c W hW => part_any o HC.out.1 hLo.2 A c [] (by rw [h0]; rfl) W (VAt.nil W A) (fun p hp => by simp at hp) hW⟩
          have h := Ex.partL_len o [] HC.out.1 hLo.2.1 (by rw [h0]; rfl)
          simpa [Ex.tot] using h
        · have := Ex.opr_lo hLo.2.1
          exact .inr (by omega)
      rcases hN with ⟨ts1, lv1, hP, hlen1, hop, hpart⟩ | hk7
      · have HP := Lib.hid (HN.out.trans hP)
        have HC2 := Lib.hid (show Ex.chk ((L.length + 1 : Nat) : Int) (f.drop (k + 1)) = 0 by have h := HC.out.2.2; rw [hop] at h; simpa using h)
        rw [hop] at hcall
        have HTS := Lib.hid hlen1
        clear hP hop hlen1 HN HC
        rcases hown.2 with ⟨rfl, hz⟩ | ⟨g, cap, cur, rfl, hB, hgg, hn1, hn2, hsz, htk⟩
        · rw [hz] at hown
          go_upto_region 10 with (go_at_call 30; with_reducible refine hcall.mono ?_; clear hcall; rintro e w2 ⟨rfl, hb2⟩)
          have HBX : w2.heap[wr.heap.size]? = some (.cells #[.int .i64 o.kind, .string (str o.text), .int .u32 o.n] 42 (0, 0)) := (hb2.block _ (by simp)).trans hx0
          have k0 : w2.cell? ⟨wr.heap.size, 0, none⟩ = some (.int .i64 o.kind) := by rw [cell_of_row _ _ _ _ _ _ HBX]; rfl
          have k1 : w2.cell? ⟨wr.heap.size, 1, none⟩ = some (.string (str o.text)) := by rw [cell_of_row _ _ _ _ _ _ HBX]; rfl
          have k2 : w2.cell? ⟨wr.heap.size, 2, none⟩ = some (.int .u32 o.n) := by rw [cell_of_row _ _ _ _ _ _ HBX]; rfl
          have hown2 := owns_below (hown.alloc _) hb2
          have hbr : Below wr.heap.size wr w2 := ((Below.refl _ wr).alloc (Nat.le_refl _) _).trans (hb2.mono (by simp))
          have hbw2 : Below w.heap.size w w2 := hbw.trans (hb2.mono hbw.size)
          have hrow := hown.lt
          clear hx0 hb2 hbw HBX hd0 hd1 hd2
          go_region_law ((first | (refine step_append_lies _ (by rfl) _ _ 59 (by rfl) w.heap.size 63 i0 _ 2 32 Tryz.underlying59 hi0 hz0 hz1 hz2 rfl (by omega) (.slice none 0 0) 0 _ (by rfl) (hown5.alloc _) ⟨w5.heap.size, 0, none⟩ 1 1 [_, _] (by rfl) (by rfl) (World.news_of_block (cs := #[_, _]) (t := 63) (fr := (0, 0)) (heap_alloc_new w5 _)) (by simp [Value.oneCell']) (by omega) (by unfold maxLen; omega) (by omega) (by have := hb5.size; have := hbw2.size; simp at *; omega) (w5.heap.size + 1) (by simp) ?_; intro gg cap3 w6 hown6 hgrow hat hlt6) | (go_simp; go_at_call 31; refine (hpart _ _ _ (hTb.below hbw2.drew)).mono ?_; rintro e w5 ⟨p, rfl, hu, hkp, hg5, hb5⟩; rw [Pt.v_def p]; have HU := Lib.hid hu; clear hu; have hown5 := owns_below (hown2.drew) hb5)))
          have hbw5 : Below w.heap.size w w5 := hbw2.drew.trans (hb5.mono hbw2.size)
          have hbr5 : Below wr.heap.size wr w5 := hbr.drew.trans (hb5.mono hbr.size)
          have hb6 : Below w.heap.size w w6 := grown_own (hbw5.alloc hbw5.size _) hgrow (fun j hj => (hrow j hj).1)
          have hpg : wr.heap.size ≤ p.g := Nat.le_trans hbr.size hg5
          have hh6 := held_step (lv := lv1) (n := 0 + 1) (c := cap3) HHELD.out (fun q h => h) hbr5 (fun k h => (hrow k h).2) hkp hpg hgrow hat
          rw [show plsOf L ++ [.slice (some ⟨p.g, p.o, none⟩) p.ts.length p.c, .int .i64 lv1] = plsOf (L ++ [(p, lv1)]) by rw [plsOf_app]; rfl] at hown6
          have hmap : (L ++ [(p, lv1)]).map tp = (f.take (k + 1)).foldl Ex.pstep [] := by rw [HP.out, List.map_append, ← HU.out]; rfl
          have htt : Ex.tot ((L ++ [(p, lv1)]).map tp) ≤ 20 * (k + 1) := by
            have h1 := HTOT.out
            have h2 := HTS.out
            rw [List.map_append, Ex.tot_app, show Ex.tot ([(p, lv1)].map tp) = p.ts.length by simp [Ex.tot, tp], HU.out]
            omega
          have hll2 : (L ++ [((p, lv1) : Pl)]).length = L.length + 1 := by simp
          generalize L ++ [((p, lv1) : Pl)] = L2 at *
          have hch2 := HC2.out
          rw [← hll2] at hch2
          clear HP HC2 HTS HU hown2 hown5 hown hgrow hat hrow hkp k0 k1 k2
          go_wp2_with fail
          go_roundw
          case rel => exact ⟨k + 1, L2, by omega, by go_num, hmap, by omega, hch2, htt, hh6, by rw [hll2, hz]; exact hown6, hb6⟩
          case measure => simp [intOf]; omega
        · clear hsz htk
          have hgl : g < wr.heap.size := (Array.getElem?_eq_some_iff.1 hgg).1
          by_cases hcap : cap = L.length
          · subst hcap
            go_upto_region 10 with (go_at_call 30; with_reducible refine hcall.mono ?_; clear hcall; rintro e w2 ⟨rfl, hb2⟩)
            have HBX : w2.heap[wr.heap.size]? = some (.cells #[.int .i64 o.kind, .string (str o.text), .int .u32 o.n] 42 (0, 0)) := (hb2.block _ (by simp)).trans hx0
            have k0 : w2.cell? ⟨wr.heap.size, 0, none⟩ = some (.int .i64 o.kind) := by rw [cell_of_row _ _ _ _ _ _ HBX]; rfl
            have k1 : w2.cell? ⟨wr.heap.size, 1, none⟩ = some (.string (str o.text)) := by rw [cell_of_row _ _ _ _ _ _ HBX]; rfl
            have k2 : w2.cell? ⟨wr.heap.size, 2, none⟩ = some (.int .u32 o.n) := by rw [cell_of_row _ _ _ _ _ _ HBX]; rfl
            have hown2 := owns_below (hown.alloc _) hb2
            have hbr : Below wr.heap.size wr w2 := ((Below.refl _ wr).alloc (Nat.le_refl _) _).trans (hb2.mono (by simp))
            have hbw2 : Below w.heap.size w w2 := hbw.trans (hb2.mono hbw.size)
            have hrow := hown.lt
            clear hx0 hb2 hbw HBX hd0 hd1 hd2
            go_region_law ((first | (refine step_append_lies _ (by rfl) _ _ 59 (by rfl) w.heap.size 63 i0 _ 2 32 Tryz.underlying59 hi0 hz0 hz1 hz2 rfl (by omega) (.slice (some ⟨g, 0, none⟩) L.length L.length) L.length _ (by rfl) (hown5.alloc _) ⟨w5.heap.size, 0, none⟩ 1 1 [_, _] (by rfl) (by rfl) (World.news_of_block (cs := #[_, _]) (t := 63) (fr := (0, 0)) (heap_alloc_new w5 _)) (by simp [Value.oneCell']) (by omega) (by unfold maxLen; omega) (by omega) (by have := hb5.size; have := hbw2.size; simp at *; omega) (w5.heap.size + 1) (by simp) ?_; intro gg cap3 w6 hown6 hgrow hat hlt6) | (go_simp; go_at_call 31; refine (hpart _ _ _ (hTb.below hbw2.drew)).mono ?_; rintro e w5 ⟨p, rfl, hu, hkp, hg5, hb5⟩; rw [Pt.v_def p]; have HU := Lib.hid hu; clear hu; have hown5 := owns_below (hown2.drew) hb5)))
            have hbw5 : Below w.heap.size w w5 := hbw2.drew.trans (hb5.mono hbw2.size)
            have hbr5 : Below wr.heap.size wr w5 := hbr.drew.trans (hb5.mono hbr.size)
            have hb6 : Below w.heap.size w w6 := grown_own (hbw5.alloc hbw5.size _) hgrow (fun j hj => (hrow j hj).1)
            have hpg : wr.heap.size ≤ p.g := Nat.le_trans hbr.size hg5
            have hh6 := held_step (lv := lv1) (n := L.length + 1) (c := cap3) HHELD.out (fun q h => h) hbr5 (fun k h => (hrow k h).2) hkp hpg hgrow hat
            rw [show plsOf L ++ [.slice (some ⟨p.g, p.o, none⟩) p.ts.length p.c, .int .i64 lv1] = plsOf (L ++ [(p, lv1)]) by rw [plsOf_app]; rfl] at hown6
            have hmap : (L ++ [(p, lv1)]).map tp = (f.take (k + 1)).foldl Ex.pstep [] := by rw [HP.out, List.map_append, ← HU.out]; rfl
            have htt : Ex.tot ((L ++ [(p, lv1)]).map tp) ≤ 20 * (k + 1) := by
              have h1 := HTOT.out
              have h2 := HTS.out
              rw [List.map_append, Ex.tot_app, show Ex.tot ([(p, lv1)].map tp) = p.ts.length by simp [Ex.tot, tp], HU.out]
              omega
            have hll2 : (L ++ [((p, lv1) : Pl)]).length = L.length + 1 := by simp
            generalize L ++ [((p, lv1) : Pl)] = L2 at *
            have hch2 := HC2.out
            rw [← hll2] at hch2
            clear HP HC2 HTS HU hown2 hown5 hown hgrow hat hrow hkp k0 k1 k2
            go_wp2_with fail
            go_roundw
            case rel => exact ⟨k + 1, L2, by omega, by go_num, hmap, by omega, hch2, htt, hh6, by rw [hll2]; exact hown6, hb6⟩
            case measure => simp [intOf]; omega
          · go_upto_region 10 with (go_at_call 30; with_reducible refine hcall.mono ?_; clear hcall; rintro e w2 ⟨rfl, hb2⟩)
            have HBX : w2.heap[wr.heap.size]? = some (.cells #[.int .i64 o.kind, .string (str o.text), .int .u32 o.n] 42 (0, 0)) := (hb2.block _ (by simp)).trans hx0
            have k0 : w2.cell? ⟨wr.heap.size, 0, none⟩ = some (.int .i64 o.kind) := by rw [cell_of_row _ _ _ _ _ _ HBX]; rfl
            have k1 : w2.cell? ⟨wr.heap.size, 1, none⟩ = some (.string (str o.text)) := by rw [cell_of_row _ _ _ _ _ _ HBX]; rfl
            have k2 : w2.cell? ⟨wr.heap.size, 2, none⟩ = some (.int .u32 o.n) := by rw [cell_of_row _ _ _ _ _ _ HBX]; rfl
            have hown2 := owns_below (hown.alloc _) hb2
            have hbr : Below wr.heap.size wr w2 := ((Below.refl _ wr).alloc (Nat.le_refl _) _).trans (hb2.mono (by simp))
            have hbw2 : Below w.heap.size w w2 := hbw.trans (hb2.mono hbw.size)
            have hrow := hown.lt
            clear hx0 hb2 hbw HBX hd0 hd1 hd2
            go_region_law ((first | (refine step_append_lies _ (by rfl) _ _ 59 (by rfl) w.heap.size 63 i0 _ 2 32 Tryz.underlying59 hi0 hz0 hz1 hz2 rfl (by omega) (.slice (some ⟨g, 0, none⟩) L.length cap) L.length _ (by rfl) (hown5.alloc _) ⟨w5.heap.size, 0, none⟩ 1 1 [_, _] (by rfl) (by rfl) (World.news_of_block (cs := #[_, _]) (t := 63) (fr := (0, 0)) (heap_alloc_new w5 _)) (by simp [Value.oneCell']) (by omega) (by unfold maxLen; omega) (by omega) (by have := hb5.size; have := hbw2.size; simp at *; omega) (w5.heap.size + 1) (by simp) ?_; intro gg cap3 w6 hown6 hgrow hat hlt6) | (go_simp; go_at_call 31; refine (hpart _ _ _ (hTb.below hbw2.drew)).mono ?_; rintro e w5 ⟨p, rfl, hu, hkp, hg5, hb5⟩; rw [Pt.v_def p]; have HU := Lib.hid hu; clear hu; have hown5 := owns_below (hown2.drew) hb5)))
            have hbw5 : Below w.heap.size w w5 := hbw2.drew.trans (hb5.mono hbw2.size)
            have hbr5 : Below wr.heap.size wr w5 := hbr.drew.trans (hb5.mono hbr.size)
            have hb6 : Below w.heap.size w w6 := grown_own (hbw5.alloc hbw5.size _) hgrow (fun j hj => (hrow j hj).1)
            have hpg : wr.heap.size ≤ p.g := Nat.le_trans hbr.size hg5
            have hh6 := held_step (lv := lv1) (n := L.length + 1) (c := cap3) HHELD.out (fun q h => h) hbr5 (fun k h => (hrow k h).2) hkp hpg hgrow hat
            rw [show plsOf L ++ [.slice (some ⟨p.g, p.o, none⟩) p.ts.length p.c, .int .i64 lv1] = plsOf (L ++ [(p, lv1)]) by rw [plsOf_app]; rfl] at hown6
            have hmap : (L ++ [(p, lv1)]).map tp = (f.take (k + 1)).foldl Ex.pstep [] := by rw [HP.out, List.map_append, ← HU.out]; rfl
            have htt : Ex.tot ((L ++ [(p, lv1)]).map tp) ≤ 20 * (k + 1) := by
              have h1 := HTOT.out
              have h2 := HTS.out
              rw [List.map_append, Ex.tot_app, show Ex.tot ([(p, lv1)].map tp) = p.ts.length by simp [Ex.tot, tp], HU.out]
              omega
            have hll2 : (L ++ [((p, lv1) : Pl)]).length = L.length + 1 := by simp
            generalize L ++ [((p, lv1) : Pl)] = L2 at *
            have hch2 := HC2.out
            rw [← hll2] at hch2
            clear HP HC2 HTS HU hown2 hown5 hown hgrow hat hrow hkp k0 k1 k2
            go_wp2_with fail
            go_roundw
            case rel => exact ⟨k + 1, L2, by omega, by go_num, hmap, by omega, hch2, htt, hh6, by rw [hll2]; exact hown6, hb6⟩
            case measure => simp [intOf]; omega
      · obtain ⟨T, hTe⟩ : ∃ T : Nat, (Ex.opr o).1 = (T : Int) := ⟨(Ex.opr o).1.toNat, by omega⟩
        rw [hTe] at hcall hk7
        obtain ⟨pre, us, rfl, hasl⟩ : ∃ pre us : List Pl, L = pre ++ us ∧ us.length = T := ⟨L.take (L.length - T), L.drop (L.length - T), (List.take_append_drop _ _).symm, by rw [List.length_drop]; have := HC.out.2.1; rw [hTe] at this; omega⟩
        have HC2 := Lib.hid (show Ex.chk ((pre.length + 1 : Nat) : Int) (f.drop (k + 1)) = 0 by have h := HC.out.2.2; rw [hTe] at h; rw [← h]; congr 1; simp; omega)
        have HO := Lib.hid (show (Ex.opr o).2 = true ∧ us.length = (Ex.opr o).1.toNat from ⟨HC.out.1, by rw [hTe]; omega⟩)
        have HPR := Lib.hid (show (f.take (k + 1)).foldl Ex.pstep [] = pre.map tp ++ [Ex.partL o (us.map tp)] from HN.out.trans (by rw [List.map_append]; exact Ex.pstep_app (pre.map tp) (us.map tp) o (by rw [List.length_map]; exact HO.out.2)))
        have hle7 := Ex.partL_len o (us.map tp) HO.out.1 hLo.2.1 (by rw [List.length_map]; exact HO.out.2)
        have hta := HTOT.out
        rw [List.map_append, Ex.tot_app] at hta
        have hmem : ∀ p : Pl, p ∈ us → p.1.ts.length ≤ Ex.tot (us.map tp) := fun p hp => by
          unfold Ex.tot
          rw [List.map_map]
          exact mem_sum_le (List.mem_map.2 ⟨p, hp, rfl⟩)
        have HAS := Lib.hid (show ∀ p ∈ us, p.1.ts.length ≤ 100000 from fun p hp => by have := hmem p hp; omega)
        have HLE := Lib.hid hle7
        have HTA := Lib.hid hta
        clear HC hmem hle7 hta HN
        rw [List.length_append] at hak
        obtain ⟨g, cap, rfl, hgB, hgl, hn1, hn2, hcell⟩ := own_pos hown (by rw [List.length_append]; omega)
        have hx : ∀ i (hi : i < us.length), (plsOf (pre ++ us))[(pre.length + i) * 2]? = some us[i].1.v ∧ (plsOf (pre ++ us))[(pre.length + i) * 2 + 1]? = some (.int .i64 us[i].2) := fun i hi => by
          have h := plsOf_get (pre ++ us) (pre.length + i) (by rw [List.length_append]; omega)
          rw [List.getElem_append_right (by omega)] at h
          simpa using h
        have hva : VAt wr wr.heap.size (some ⟨g, pre.length * 2, none⟩) us := fun i hi => by
          refine ⟨⟨g, pre.length * 2, rfl, hgl, ?_, ?_⟩, (HHELD.out.ok us[i] (List.mem_append_right _ (List.getElem_mem hi))).1⟩
          · rw [show pre.length * 2 + i * 2 = (pre.length + i) * 2 by omega, hcell _ (by rw [List.length_append]; omega)]; exact (hx i hi).1
          · rw [show pre.length * 2 + i * 2 + 1 = (pre.length + i) * 2 + 1 by omega, hcell _ (by rw [List.length_append]; omega)]; exact (hx i hi).2
        have HPRE := Lib.hid (show (plsOf (pre ++ us)).take (pre.length * 2) = plsOf pre by rw [plsOf_app, List.take_left' (plsOf_len pre)])
        rw [List.length_append, hasl] at hown hn1 hll
        have HNN := Lib.hid (show (pre ++ us).length = pre.length + T by rw [List.length_append, hasl])
        obtain ⟨N, hNe⟩ : ∃ N, N = pre.length + T := ⟨_, rfl⟩
        rw [HNN.out]
        rw [← hNe] at hown hn1 hll ⊢
        have e1 : (N : Int) - (T : Int) = (pre.length : Int) := by omega
        have hne : ¬ cap = pre.length := by omega
        have e2 : N - pre.length = T := by omega
        have hT0 : T ≤ N := by omega
        have hpN : pre.length ≤ N := by omega
        have hpN2 : pre.length < N := by omega
        have HNE := Lib.hid hNe
        clear hx hcell hNe
        go_upto_region 10 with (go_at_call 30; with_reducible refine hcall.mono ?_; clear hcall; rintro e w2 ⟨rfl, hb2⟩)
        have HBX : w2.heap[wr.heap.size]? = some (.cells #[.int .i64 o.kind, .string (str o.text), .int .u32 o.n] 42 (0, 0)) := (hb2.block _ (by simp)).trans hx0
        have k0 : w2.cell? ⟨wr.heap.size, 0, none⟩ = some (.int .i64 o.kind) := by rw [cell_of_row _ _ _ _ _ _ HBX]; rfl
        have k1 : w2.cell? ⟨wr.heap.size, 1, none⟩ = some (.string (str o.text)) := by rw [cell_of_row _ _ _ _ _ _ HBX]; rfl
        have k2 : w2.cell? ⟨wr.heap.size, 2, none⟩ = some (.int .u32 o.n) := by rw [cell_of_row _ _ _ _ _ _ HBX]; rfl
        have hown2 := owns_below (hown.alloc _) hb2
        have hbr : Below wr.heap.size wr w2 := ((Below.refl _ wr).alloc (Nat.le_refl _) _).trans (hb2.mono (by simp))
        have hbw2 : Below w.heap.size w w2 := hbw.trans (hb2.mono hbw.size)
        have hrow := hown.lt
        have hpart := fun cc => part_any o HO.out.1 hLo.2 (some ⟨g, pre.length * 2, none⟩) cc us HO.out.2 w2.drew (hva.next hbr.drew) HAS.out (hTb.below hbw2.drew)
        rw [hasl, ← e2] at hpart
        clear hx0 hb2 hbw HBX hd0 hd1 hd2 hva
        generalize Ex.partL o (us.map tp) = PL at *
        obtain ⟨ts1, lv⟩ := PL
        dsimp only at hpart
        have z1 : (pre.length : Int) ≤ (cap : Int) := by have := HNE.out; omega
        have z2 : (0 : Int) ≤ (pre.length : Int) := by omega
        have z3 : pre.length ≤ cap := by omega
        have z4 : (pre.length : Int) ≤ (N : Int) := by omega
        have z5 : (N : Int) ≤ (cap : Int) := by omega
        have z7 : N ≤ cap := by omega
        clear e1 e2
        go_region_law ((first | (refine step_append_lies _ (by rfl) _ _ 59 (by rfl) w.heap.size 63 i0 _ 2 32 Tryz.underlying59 hi0 hz0 hz1 hz2 rfl (by omega) (.slice (some ⟨g, 0, none⟩) pre.length cap) pre.length _ (by rfl) (hown5.alloc _) ⟨w5.heap.size, 0, none⟩ 1 1 [_, _] (by rfl) (by rfl) (World.news_of_block (cs := #[_, _]) (t := 63) (fr := (0, 0)) (heap_alloc_new w5 _)) (by simp [Value.oneCell']) (by omega) (by unfold maxLen; omega) (by omega) (by have := hb5.size; have := hbw2.size; simp at *; omega) (w5.heap.size + 1) (by simp) ?_; intro gg cap3 w6 hown6 hgrow hat hlt6) | (go_simp; go_at_call 31; refine (hpart _).mono ?_; rintro e w5 ⟨p, rfl, hu, hkp, hg5, hb5⟩; rw [Pt.v_def p]; have HU := Lib.hid hu; clear hu; have hown5 := owns_below ((own_take hown2 (by omega)).drew) hb5)))
        rw [HPRE.out] at hown6
        have hbw5 : Below w.heap.size w w5 := hbw2.drew.trans (hb5.mono hbw2.size)
        have hbr5 : Below wr.heap.size wr w5 := hbr.drew.trans (hb5.mono hbr.size)
        have hb6 : Below w.heap.size w w6 := grown_own (hbw5.alloc hbw5.size _) hgrow (fun j hj => (hrow j hj).1)
        have hpg : wr.heap.size ≤ p.g := Nat.le_trans hbr.size hg5
        have hh6 := held_step (lv := lv) (n := pre.length + 1) (c := cap3) HHELD.out (M := pre) (fun q h => List.mem_append_left _ h) hbr5 (fun k h => (hrow k h).2) hkp hpg hgrow hat
        rw [show plsOf pre ++ [.slice (some ⟨p.g, p.o, none⟩) p.ts.length p.c, .int .i64 lv] = plsOf (pre ++ [(p, lv)]) by rw [plsOf_app]; rfl] at hown6
        have hmap : (pre ++ [(p, lv)]).map tp = (f.take (k + 1)).foldl Ex.pstep [] := by rw [HPR.out, List.map_append]; show _ = _; rw [show [((p, lv) : Pl)].map tp = [(p.ts, lv)] from rfl, HU.out]
        have htt : Ex.tot ((pre ++ [(p, lv)]).map tp) ≤ 20 * (k + 1) := by
          have h1 := HTA.out
          have h2 := HLE.out
          rw [List.map_append, Ex.tot_app, show Ex.tot ([(p, lv)].map tp) = p.ts.length by simp [Ex.tot, tp], HU.out]
          dsimp only at h2
          omega
        have hll2 : (pre ++ [((p, lv) : Pl)]).length = pre.length + 1 := by simp
        generalize pre ++ [((p, lv) : Pl)] = L2 at *
        have hch2 := HC2.out
        rw [← hll2] at hch2
        clear HPR HC2 HU hown2 hown5 hown hgrow hat hrow hkp k0 k1 k2
        go_wp2_with fail
        go_roundw
        case rel => exact ⟨k + 1, L2, by omega, by go_num, hmap, by have := HNE.out; omega, hch2, htt, hh6, by rw [hll2]; exact hown6, hb6⟩
        case measure => simp [intOf]; omega
    · have b1 : decide ((k : Int) < f.length) = false := by simp; omega
      have b1n : decide (k < f.length) = false := by simp; omega
      have hL1 : L.length = 1 := by
        have h := HCH.out
        rw [List.drop_of_length_le (by omega)] at h
        simp only [Ex.chk] at h
        split at h
        · omega
        · cases h
      obtain ⟨pl, rfl⟩ := List.length_eq_one_iff.1 hL1
      obtain ⟨p, lv⟩ := pl
      have hprt : p.ts = Ex.toks f := by
        have h := HACC.out
        rw [List.take_of_length_le (by omega)] at h
        unfold Ex.toks
        rw [← h]; rfl
      have hpk := (HHELD.out.ok (p, lv) (by simp)).1
      obtain ⟨g, cap, rfl, hgB, hgl, hn1, hn2, hcell⟩ := own_pos hown (by simp)
      have x0 : wr.cell? ⟨g, 0, none⟩ = some p.v := hcell 0 (by simp)
      rw [Pt.v_def] at x0
      have HPD2 := Lib.hid (show R = if 256 < p.ts.length then ([], 10) else (p.ts, 0) by rw [HPD.out, hprt])
      clear hprt HACC HCH HTOT HHELD hcell hown HPD
      by_cases hbig : 256 < p.ts.length
      · have b2 : decide ((256 : Int) < p.ts.length) = true := by simp; omega
        have b2n : decide (256 < p.ts.length) = true := by simp; omega
        have HR := Lib.hid (HPD2.out.trans (if_pos hbig))
        clear HPD2
        go_wp2_with fail
        go_ret2
        rw [HR.out]
        exact ⟨none, ⟨0, rfl⟩, tks_nil _ _, hb⟩
      · have b2 : decide ((256 : Int) < p.ts.length) = false := by simp; omega
        have b2n : decide (256 < p.ts.length) = false := by simp; omega
        have HR := Lib.hid (HPD2.out.trans (if_neg hbig))
        clear HPD2
        go_wp2_with fail
        go_ret2
        rw [HR.out]
        exact ⟨some ⟨p.g, p.o, none⟩, ⟨p.c, rfl⟩, pt_tks hpk, hb⟩
set_option maxHeartbeats 4000000 in
set_option maxRecDepth 100000 in
theorem print_any2 (A : Option Addr) (c : Nat) (f : List Ex.Op) (w : World) (hA : OpsAt w w.heap.size A f) (hl : f.length ≤ 1000000000) (hL : OpsLen f) (hTb : Tabs w) :
    Calls Tryz.prog 12 #[.slice A f.length c] w (GotL w (Ex.print f)) := by
  by_cases h0 : Ex.check f = 0
  · exact print_ok A c f w hA hL hTb h0
  · have hck := fcheck_any A c f w hA hl hL
    have HR := Lib.hid (show Ex.print f = ([], Ex.check f) by rw [print_def, if_pos h0])
    have q1 : (Ex.check f != 0) = true := by rw [bne_iff_ne]; exact h0
    unfold GotL
    generalize Ex.print f = R at *
    generalize Ex.check f = e at *
    clear h0
    go_enter Tryz.func12, Tryz.ntmps12
    go_wp2_with fail
    with_reducible refine hck.mono ?_
    clear hck
    rintro x w1 ⟨rfl, hb1⟩
    go_wp2_with fail
    go_ret2
    rw [HR.out]
    exact ⟨none, 0, rfl, tks_nil _ _, hb1⟩
end Go.Proofs.YtkkkiacbikbalaaGreatDoor
