/- Print of a formula of small numbers, names and binary operations. -/
import Derived.Test.YtndehkoglgakpaaGreatDoorPof
namespace Go.Proofs.YtndehkoglgakpaaGreatDoor
open Go.RowKit Go.Deep

abbrev Pl := Pt × Int
def plOf (p : Pl) : List Value := [p.1.v, .int .i64 p.2]
def plsOf (L : List Pl) : List Value := L.flatMap plOf
theorem plsOf_len (L : List Pl) : (plsOf L).length = L.length * 2 := by
  induction L with
  | nil => rfl
  | cons p L ih => rw [show plsOf (p :: L) = plOf p ++ plsOf L from rfl, List.length_append, ih]; show 2 + _ = _; simp; omega
theorem plsOf_app (a b : List Pl) : plsOf (a ++ b) = plsOf a ++ plsOf b := by simp [plsOf]
def tp (p : Pl) : List Tok.Tk × Int := (p.1.ts, p.2)
/-- The parts behind an operation. -/
def Ex.prt1 (acc : List (List Tok.Tk × Int)) (o : Ex.Op) : List (List Tok.Tk × Int) :=
  if o.kind = 1 then acc ++ [([⟨2, digs o.n.toNat⟩], 11)]
  else if o.kind = 2 then acc ++ [([⟨1, o.text⟩], 11)]
  else acc.take (acc.length - 2) ++ [(Ex.asL (acc.getD (acc.length - 2) default).1 (acc.getD (acc.length - 2) default).2 (Ex.levL o.text : Nat) ++ [⟨3, o.text⟩] ++ Ex.asL (acc.getD (acc.length - 1) default).1 (acc.getD (acc.length - 1) default).2 ((Ex.levL o.text : Nat) + 1), ((Ex.levL o.text : Nat) : Int))]
def Ex.prt (f : List Ex.Op) : List Tok.Tk := ((f.foldl Ex.prt1 []).getD 0 default).1
/-- What is printed here: small numbers, names, binary operations. -/
def Ex.Simple (f : List Ex.Op) : Prop := ∀ o ∈ f, (o.kind = 1 ∧ 0 ≤ o.n ∧ o.n < 100) ∨ o.kind = 2 ∨ o.kind = 7
def Ex.tot (acc : List (List Tok.Tk × Int)) : Nat := (acc.map (fun p => p.1.length)).sum
theorem Ex.prt1_bin (pre : List (List Tok.Tk × Int)) (a b : List Tok.Tk × Int) (o : Ex.Op) (h : o.kind = 7) : Ex.prt1 (pre ++ [a, b]) o = pre ++ [(Ex.asL a.1 a.2 (Ex.levL o.text : Nat) ++ [⟨3, o.text⟩] ++ Ex.asL b.1 b.2 ((Ex.levL o.text : Nat) + 1), ((Ex.levL o.text : Nat) : Int))] := by
  unfold Ex.prt1
  have e : (pre ++ [a, b]).length - 2 = pre.length := by simp
  have e2 : (pre ++ [a, b]).length - 1 = pre.length + 1 := by simp
  have g1 : (pre ++ [a, b]).getD pre.length default = a := by simp [List.getD]
  have g2 : (pre ++ [a, b]).getD (pre.length + 1) default = b := by simp [List.getD]
  rw [if_neg (by rw [h]; decide), if_neg (by rw [h]; decide), e, List.take_left, e2, g1, g2]
theorem pt_grown {w w' : World} {p : Pt} {row : Option Nat} (h : PtOk w p) (hg : w.grownBy w' row) (hr : row ≠ some p.g) : PtOk w' p :=
  ⟨h.pos, Nat.lt_of_lt_of_le h.lt hg.size, fun i u hi => (World.grownBy.cell_far hg ⟨p.g, p.o + i, none⟩ h.lt (fun e => hr e.symm)).trans (h.at_ i u hi)⟩
theorem infoP : (Tryz.prog.info? 63).map (fun i => (i.zero, i.size, i.bytes)) = some (some (.agg #[.slice none 0 0, .int .i64 0]), 2, 32) := by kernel_rfl
/-- What the parts are in a world. -/
structure Held (w : World) (v : Value) (L : List Pl) : Prop where
  ok : ∀ p ∈ L, PtOk w p.1 ∧ v.ownBlock ≠ some p.1.g
theorem Ex.tot_app (a b : List (List Tok.Tk × Int)) : Ex.tot (a ++ b) = Ex.tot a + Ex.tot b := by simp [Ex.tot]
theorem held_step {wr w5 w6 : World} {v : Value} {L M : List Pl} {p : Pt} {lv : Int} {gg n c : Nat} {ob : Obj} (h : Held wr v L) (hM : ∀ q ∈ M, q ∈ L) (hb : Below wr.heap.size wr w5) (hv : ∀ k, v.ownBlock = some k → k < wr.heap.size)
    (hp : PtOk w5 p) (hpg : wr.heap.size ≤ p.g) (hgrow : (w5.alloc ob).grownBy w6 v.ownBlock) (hat : v.ownBlock = some gg ∨ gg = w5.heap.size + 1) : Held w6 (.slice (some ⟨gg, 0, none⟩) n c) (M ++ [(p, lv)]) := by
  refine ⟨fun q hq => ?_⟩
  have hsz := hb.size
  rcases List.mem_append.1 hq with hq | hq
  · obtain ⟨h1, h2⟩ := h.ok q (hM q hq)
    refine ⟨pt_grown (pt_alloc ob (h1.next hb)) hgrow h2, ?_⟩
    show some gg ≠ some q.1.g
    rcases hat with hat | hat
    · rw [hat] at h2; exact h2
    · have := h1.lt; simp; omega
  · simp at hq
    subst hq
    have h2 : v.ownBlock ≠ some p.g := fun e => by have := hv _ e; omega
    refine ⟨pt_grown (pt_alloc ob hp) hgrow h2, ?_⟩
    show some gg ≠ some p.g
    rcases hat with hat | hat
    · rw [hat] at h2; exact h2
    · have := hp.lt; simp; omega
theorem opr_1' {o : Ex.Op} (h : o.kind = 1) : (Ex.opr o).1 = 0 := by unfold Ex.opr; simp [h]
theorem opr_2' {o : Ex.Op} (h : o.kind = 2) : (Ex.opr o).1 = 0 := by unfold Ex.opr; simp [h]
set_option maxHeartbeats 8000000 in
set_option maxRecDepth 100000 in
theorem print_simple (A : Option Addr) (c : Nat) (f : List Ex.Op) (w : World) (hA : OpsAt w w.heap.size A f) (hL : OpsLen f) (hS : Ex.Simple f) (h0 : Ex.check f = 0) (hfin : (Ex.prt f).length ≤ 256) :
    Calls Tryz.prog 12 #[.slice A f.length c] w fun x w' => ∃ p : Pt, x = .returned (.tuple #[p.v, .int .i64 0]) ∧ p.ts = Ex.prt f ∧ PtOk w' p ∧ Below w.heap.size w w' := by
  obtain ⟨i0, hi0, hz0, hz1, hz2⟩ := info_parts infoP
  have hl2 : f.length ≤ 256 := by
    have h := h0
    rw [check_def] at h
    split at h
    · cases h
    · omega
  have hck := fcheck_any A c f w hA (by omega) hL
  have hchk : Ex.chk 0 (f.drop 0) = 0 := by
    have h := h0
    rw [check_def, if_neg (by omega)] at h; exact h
  rw [h0] at hck
  have HF := Lib.hid hfin
  clear h0 hfin
  go_enter Tryz.func12, Tryz.ntmps12
  go_wp2_with fail
  with_reducible refine hck.mono ?_
  clear hck
  rintro x w1 ⟨rfl, hb1⟩
  go_wp2_with fail
  go_loopw [5, 19] (fun v i wr => ∃ (k : Nat) (L : List Pl), k ≤ f.length ∧ i = .int .i64 k ∧ L.map tp = (f.take k).foldl Ex.prt1 [] ∧ L.length ≤ k ∧ Ex.chk L.length (f.drop k) = 0 ∧ Ex.tot (L.map tp) ≤ 5 * k ∧ Held wr v L ∧ wr.ownsRow w.heap.size 63 2 v L.length (plsOf L) ∧ Below w.heap.size w wr) (fun _ i _ => f.length - (intOf i).toNat)
  case atStart => exact ⟨0, [], by omega, rfl, rfl, by simp, hchk, by simp [Ex.tot], ⟨fun p hp => by simp at hp⟩, World.ownsRow_nil _ _ _ _, hb1⟩
  case round =>
    clear hchk hb1
    obtain ⟨k, L, hk, rfl, hacc, hak, hch, htot, hheld, hown, hb⟩ := hrel
    have HACC := Lib.hid hacc
    have HCH := Lib.hid hch
    have HTOT := Lib.hid htot
    have HHELD := Lib.hid hheld
    clear hacc hch htot hheld
    by_cases hlt : k < f.length
    · have b1 : decide ((k : Int) < f.length) = true := by simp; omega
      have b1n : decide (k < f.length) = true := by simp; omega
      obtain ⟨g0, o0, rfl, hg, hc0, hc1, hc2⟩ := hA k hlt
      have hd0 := (hb.cell (p := ⟨g0, o0 + k * 3, none⟩) hg).trans hc0
      have hd1 := (hb.cell (p := ⟨g0, o0 + k * 3 + 1, none⟩) hg).trans hc1
      have hd2 := (hb.cell (p := ⟨g0, o0 + k * 3 + 2, none⟩) hg).trans hc2
      have HN := Lib.hid (show (f.take (k + 1)).foldl Ex.prt1 [] = Ex.prt1 (L.map tp) f[k] by rw [List.take_succ_eq_append_getElem hlt, List.foldl_append, ← HACC.out]; rfl)
      have HC := Lib.hid (show (Ex.opr f[k]).2 = true ∧ (Ex.opr f[k]).1 ≤ (L.length : Int) ∧ Ex.chk ((L.length : Int) + (1 - (Ex.opr f[k]).1)) (f.drop (k + 1)) = 0 by
        have h := HCH.out
        rw [list_drop f k hlt, Ex.chk_cons] at h
        split at h
        · rename_i h1; exact ⟨h1.1, h1.2, h⟩
        · cases h)
      have hLo := hL f[k] (List.getElem_mem hlt)
      have HSo := Lib.hid (hS f[k] (List.getElem_mem hlt))
      clear hc0 hc1 hc2 HCH HACC
      generalize f[k] = o at *
      have hbw := hb.alloc hb.size (.cells #[.int .i64 o.kind, .string (str o.text), .int .u32 o.n] 42)
      have hcall := opr_any o hLo.1 hLo.2.1 hLo.2.2 (wr.alloc (.cells #[.int .i64 o.kind, .string (str o.text), .int .u32 o.n] 42))
      rw [oprV_def, HC.out.1] at hcall
      have hll : L.length ≤ 256 := by omega
      have hx0 := heap_alloc_new wr (.cells #[.int .i64 o.kind, .string (str o.text), .int .u32 o.n] 42)
      have hN : (∃ ts1, Ex.prt1 (L.map tp) o = L.map tp ++ [(ts1, 11)] ∧ ts1.length = 1 ∧ (Ex.opr o).1 = 0 ∧ ∀ A l c W, Calls Tryz.prog 31 #[.agg #[.int .i64 o.kind, .string (str o.text), .int .u32 o.n], .slice A l c] W (GotP W ts1 11)) ∨ o.kind = 7 := by
        rcases HSo.out with hk1 | hk2 | hk7
        · refine .inl ⟨[⟨2, digs o.n.toNat⟩], by unfold Ex.prt1; rw [if_pos hk1.1], rfl, opr_1' hk1.1, fun A l c W => ?_⟩
          have h := part_num o.n.toNat (by omega) o.text A l c W
          rw [show ((o.n.toNat : Nat) : Int) = o.n by omega, ← hk1.1] at h
          exact h
        · refine .inl ⟨[⟨1, o.text⟩], by unfold Ex.prt1; rw [if_neg (by rw [hk2]; decide), if_pos hk2], rfl, opr_2' hk2, fun A l c W => ?_⟩
          have h := part_name o.n o.text A l c W
          rw [← hk2] at h
          exact h
        · exact .inr hk7
      rcases hN with ⟨ts1, hP, hlen1, hop, hpart⟩ | hk7
      · have HP := Lib.hid (HN.out.trans hP)
        have HC2 := Lib.hid (show Ex.chk ((L.length + 1 : Nat) : Int) (f.drop (k + 1)) = 0 by have h := HC.out.2.2; rw [hop] at h; simpa using h)
        rw [hop] at hcall
        have HTS := Lib.hid hlen1
        clear hP hop hlen1 HN HC HSo
        rcases hown.2 with ⟨rfl, hz⟩ | ⟨g, cap, cur, rfl, hB, hgg, hn1, hn2, hsz, htk⟩
        · rw [hz] at hown
          go_upto_region 10 with (go_at_call 30; with_reducible refine hcall.mono ?_; clear hcall; rintro e w2 ⟨rfl, hb2⟩)
          have HBX : w2.heap[wr.heap.size]? = some (.cells #[.int .i64 o.kind, .string (str o.text), .int .u32 o.n] 42 (0, 0)) := (hb2.block _ (by simp)).trans hx0
          have k0 : w2.cell? ⟨wr.heap.size, 0, none⟩ = some (.int .i64 o.kind) := by rw [cell_of_row _ _ _ _ _ _ HBX]; rfl
          have k1 : w2.cell? ⟨wr.heap.size, 1, none⟩ = some (.string (str o.text)) := by rw [cell_of_row _ _ _ _ _ _ HBX]; rfl
          have k2 : w2.cell? ⟨wr.heap.size, 2, none⟩ = some (.int .u32 o.n) := by rw [cell_of_row _ _ _ _ _ _ HBX]; rfl
          have hown2 := owns_below (hown.alloc _) hb2
          have hbr : Below wr.heap.size wr w2 := ((Below.refl _ wr).alloc (Nat.le_refl _) _).trans (hb2.mono (by simp))
          have hbw2 : Below w.heap.size w w2 := hbw.trans (hb2.mono hbw.size)
          have hrow := hown.lt
          clear hx0 hb2 hbw HBX hd0 hd1 hd2
          go_region_law ((first | (refine step_append_lies _ (by rfl) _ _ 59 (by rfl) w.heap.size 63 i0 _ 2 32 Tryz.underlying59 hi0 hz0 hz1 hz2 rfl (by omega) (.slice none 0 0) 0 _ (by rfl) (hown5.alloc _) ⟨w5.heap.size, 0, none⟩ 1 1 [_, _] (by rfl) (by rfl) (World.news_of_block (cs := #[_, _]) (t := 63) (fr := (0, 0)) (heap_alloc_new w5 _)) (by simp [Value.oneCell']) (by omega) (by unfold maxLen; omega) (by omega) (by have := hb5.size; have := hbw2.size; simp at *; omega) (w5.heap.size + 1) (by simp) ?_; intro gg cap3 w6 hown6 hgrow hat hlt6) | (go_simp; go_at_call 31; refine (hpart _ _ _ _).mono ?_; rintro e w5 ⟨p, rfl, hu, hkp, hg5, hb5⟩; rw [Pt.v_def p]; have HU := Lib.hid hu; clear hu; have hown5 := owns_below (hown2.drew) hb5)))
          have hbw5 : Below w.heap.size w w5 := hbw2.drew.trans (hb5.mono hbw2.size)
          have hbr5 : Below wr.heap.size wr w5 := hbr.drew.trans (hb5.mono hbr.size)
          have hb6 : Below w.heap.size w w6 := grown_own (hbw5.alloc hbw5.size _) hgrow (fun j hj => (hrow j hj).1)
          have hpg : wr.heap.size ≤ p.g := Nat.le_trans hbr.size hg5
          have hh6 := held_step (lv := 11) (n := 0 + 1) (c := cap3) HHELD.out (fun q h => h) hbr5 (fun k h => (hrow k h).2) hkp hpg hgrow hat
          rw [show plsOf L ++ [.slice (some ⟨p.g, p.o, none⟩) p.ts.length p.c, .int .i64 11] = plsOf (L ++ [(p, 11)]) by rw [plsOf_app]; rfl] at hown6
          have hmap : (L ++ [(p, 11)]).map tp = (f.take (k + 1)).foldl Ex.prt1 [] := by rw [HP.out, List.map_append, ← HU.out]; rfl
          have htt : Ex.tot ((L ++ [(p, 11)]).map tp) ≤ 5 * (k + 1) := by
            have h1 := HTOT.out
            have h2 := HTS.out
            rw [List.map_append, Ex.tot_app, show Ex.tot ([(p, 11)].map tp) = p.ts.length by simp [Ex.tot, tp], HU.out]
            omega
          have hll2 : (L ++ [((p, 11) : Pl)]).length = L.length + 1 := by simp
          generalize L ++ [((p, 11) : Pl)] = L2 at *
          have hch2 := HC2.out
          rw [← hll2] at hch2
          clear HP HC2 HTS HU hown2 hown5 hown hgrow hat hrow hkp k0 k1 k2
          go_wp2_with fail
          go_roundw
          case rel => exact ⟨k + 1, L2, by omega, by go_num, hmap, by omega, hch2, htt, hh6, by rw [hll2, hz]; exact hown6, hb6⟩
          case measure => simp [intOf]; omega
        · clear hsz htk
          have hgl : g < wr.heap.size := (Array.getElem?_eq_some_iff.1 hgg).1
          by_cases hcap : cap = L.length
          · subst hcap
            go_upto_region 10 with (go_at_call 30; with_reducible refine hcall.mono ?_; clear hcall; rintro e w2 ⟨rfl, hb2⟩)
            have HBX : w2.heap[wr.heap.size]? = some (.cells #[.int .i64 o.kind, .string (str o.text), .int .u32 o.n] 42 (0, 0)) := (hb2.block _ (by simp)).trans hx0
            have k0 : w2.cell? ⟨wr.heap.size, 0, none⟩ = some (.int .i64 o.kind) := by rw [cell_of_row _ _ _ _ _ _ HBX]; rfl
            have k1 : w2.cell? ⟨wr.heap.size, 1, none⟩ = some (.string (str o.text)) := by rw [cell_of_row _ _ _ _ _ _ HBX]; rfl
            have k2 : w2.cell? ⟨wr.heap.size, 2, none⟩ = some (.int .u32 o.n) := by rw [cell_of_row _ _ _ _ _ _ HBX]; rfl
            have hown2 := owns_below (hown.alloc _) hb2
            have hbr : Below wr.heap.size wr w2 := ((Below.refl _ wr).alloc (Nat.le_refl _) _).trans (hb2.mono (by simp))
            have hbw2 : Below w.heap.size w w2 := hbw.trans (hb2.mono hbw.size)
            have hrow := hown.lt
            clear hx0 hb2 hbw HBX hd0 hd1 hd2
            go_region_law ((first | (refine step_append_lies _ (by rfl) _ _ 59 (by rfl) w.heap.size 63 i0 _ 2 32 Tryz.underlying59 hi0 hz0 hz1 hz2 rfl (by omega) (.slice (some ⟨g, 0, none⟩) L.length L.length) L.length _ (by rfl) (hown5.alloc _) ⟨w5.heap.size, 0, none⟩ 1 1 [_, _] (by rfl) (by rfl) (World.news_of_block (cs := #[_, _]) (t := 63) (fr := (0, 0)) (heap_alloc_new w5 _)) (by simp [Value.oneCell']) (by omega) (by unfold maxLen; omega) (by omega) (by have := hb5.size; have := hbw2.size; simp at *; omega) (w5.heap.size + 1) (by simp) ?_; intro gg cap3 w6 hown6 hgrow hat hlt6) | (go_simp; go_at_call 31; refine (hpart _ _ _ _).mono ?_; rintro e w5 ⟨p, rfl, hu, hkp, hg5, hb5⟩; rw [Pt.v_def p]; have HU := Lib.hid hu; clear hu; have hown5 := owns_below (hown2.drew) hb5)))
            have hbw5 : Below w.heap.size w w5 := hbw2.drew.trans (hb5.mono hbw2.size)
            have hbr5 : Below wr.heap.size wr w5 := hbr.drew.trans (hb5.mono hbr.size)
            have hb6 : Below w.heap.size w w6 := grown_own (hbw5.alloc hbw5.size _) hgrow (fun j hj => (hrow j hj).1)
            have hpg : wr.heap.size ≤ p.g := Nat.le_trans hbr.size hg5
            have hh6 := held_step (lv := 11) (n := L.length + 1) (c := cap3) HHELD.out (fun q h => h) hbr5 (fun k h => (hrow k h).2) hkp hpg hgrow hat
            rw [show plsOf L ++ [.slice (some ⟨p.g, p.o, none⟩) p.ts.length p.c, .int .i64 11] = plsOf (L ++ [(p, 11)]) by rw [plsOf_app]; rfl] at hown6
            have hmap : (L ++ [(p, 11)]).map tp = (f.take (k + 1)).foldl Ex.prt1 [] := by rw [HP.out, List.map_append, ← HU.out]; rfl
            have htt : Ex.tot ((L ++ [(p, 11)]).map tp) ≤ 5 * (k + 1) := by
              have h1 := HTOT.out
              have h2 := HTS.out
              rw [List.map_append, Ex.tot_app, show Ex.tot ([(p, 11)].map tp) = p.ts.length by simp [Ex.tot, tp], HU.out]
              omega
            have hll2 : (L ++ [((p, 11) : Pl)]).length = L.length + 1 := by simp
            generalize L ++ [((p, 11) : Pl)] = L2 at *
            have hch2 := HC2.out
            rw [← hll2] at hch2
            clear HP HC2 HTS HU hown2 hown5 hown hgrow hat hrow hkp k0 k1 k2
            go_wp2_with fail
            go_roundw
            case rel => exact ⟨k + 1, L2, by omega, by go_num, hmap, by omega, hch2, htt, hh6, by rw [hll2]; exact hown6, hb6⟩
            case measure => simp [intOf]; omega
          · go_upto_region 10 with (go_at_call 30; with_reducible refine hcall.mono ?_; clear hcall; rintro e w2 ⟨rfl, hb2⟩)
            have HBX : w2.heap[wr.heap.size]? = some (.cells #[.int .i64 o.kind, .string (str o.text), .int .u32 o.n] 42 (0, 0)) := (hb2.block _ (by simp)).trans hx0
            have k0 : w2.cell? ⟨wr.heap.size, 0, none⟩ = some (.int .i64 o.kind) := by rw [cell_of_row _ _ _ _ _ _ HBX]; rfl
            have k1 : w2.cell? ⟨wr.heap.size, 1, none⟩ = some (.string (str o.text)) := by rw [cell_of_row _ _ _ _ _ _ HBX]; rfl
            have k2 : w2.cell? ⟨wr.heap.size, 2, none⟩ = some (.int .u32 o.n) := by rw [cell_of_row _ _ _ _ _ _ HBX]; rfl
            have hown2 := owns_below (hown.alloc _) hb2
            have hbr : Below wr.heap.size wr w2 := ((Below.refl _ wr).alloc (Nat.le_refl _) _).trans (hb2.mono (by simp))
            have hbw2 : Below w.heap.size w w2 := hbw.trans (hb2.mono hbw.size)
            have hrow := hown.lt
            clear hx0 hb2 hbw HBX hd0 hd1 hd2
            go_region_law ((first | (refine step_append_lies _ (by rfl) _ _ 59 (by rfl) w.heap.size 63 i0 _ 2 32 Tryz.underlying59 hi0 hz0 hz1 hz2 rfl (by omega) (.slice (some ⟨g, 0, none⟩) L.length cap) L.length _ (by rfl) (hown5.alloc _) ⟨w5.heap.size, 0, none⟩ 1 1 [_, _] (by rfl) (by rfl) (World.news_of_block (cs := #[_, _]) (t := 63) (fr := (0, 0)) (heap_alloc_new w5 _)) (by simp [Value.oneCell']) (by omega) (by unfold maxLen; omega) (by omega) (by have := hb5.size; have := hbw2.size; simp at *; omega) (w5.heap.size + 1) (by simp) ?_; intro gg cap3 w6 hown6 hgrow hat hlt6) | (go_simp; go_at_call 31; refine (hpart _ _ _ _).mono ?_; rintro e w5 ⟨p, rfl, hu, hkp, hg5, hb5⟩; rw [Pt.v_def p]; have HU := Lib.hid hu; clear hu; have hown5 := owns_below (hown2.drew) hb5)))
            have hbw5 : Below w.heap.size w w5 := hbw2.drew.trans (hb5.mono hbw2.size)
            have hbr5 : Below wr.heap.size wr w5 := hbr.drew.trans (hb5.mono hbr.size)
            have hb6 : Below w.heap.size w w6 := grown_own (hbw5.alloc hbw5.size _) hgrow (fun j hj => (hrow j hj).1)
            have hpg : wr.heap.size ≤ p.g := Nat.le_trans hbr.size hg5
            have hh6 := held_step (lv := 11) (n := L.length + 1) (c := cap3) HHELD.out (fun q h => h) hbr5 (fun k h => (hrow k h).2) hkp hpg hgrow hat
            rw [show plsOf L ++ [.slice (some ⟨p.g, p.o, none⟩) p.ts.length p.c, .int .i64 11] = plsOf (L ++ [(p, 11)]) by rw [plsOf_app]; rfl] at hown6
            have hmap : (L ++ [(p, 11)]).map tp = (f.take (k + 1)).foldl Ex.prt1 [] := by rw [HP.out, List.map_append, ← HU.out]; rfl
            have htt : Ex.tot ((L ++ [(p, 11)]).map tp) ≤ 5 * (k + 1) := by
              have h1 := HTOT.out
              have h2 := HTS.out
              rw [List.map_append, Ex.tot_app, show Ex.tot ([(p, 11)].map tp) = p.ts.length by simp [Ex.tot, tp], HU.out]
              omega
            have hll2 : (L ++ [((p, 11) : Pl)]).length = L.length + 1 := by simp
            generalize L ++ [((p, 11) : Pl)] = L2 at *
            have hch2 := HC2.out
            rw [← hll2] at hch2
            clear HP HC2 HTS HU hown2 hown5 hown hgrow hat hrow hkp k0 k1 k2
            go_wp2_with fail
            go_roundw
            case rel => exact ⟨k + 1, L2, by omega, by go_num, hmap, by omega, hch2, htt, hh6, by rw [hll2]; exact hown6, hb6⟩
            case measure => simp [intOf]; omega
      · obtain ⟨pre, a, b, rfl⟩ := last_two L (by have := HC.out.2.1; rw [Ex.opr_bi hk7] at this; omega)
        have HC2 := Lib.hid (show Ex.chk ((pre.length + 1 : Nat) : Int) (f.drop (k + 1)) = 0 by have h := HC.out.2.2; rw [Ex.opr_bi hk7] at h; rw [← h]; congr 1; simp; omega)
        rw [Ex.opr_bi hk7] at hcall
        have HK7 := Lib.hid hk7
        clear HC hk7
        rw [show (pre ++ [a, b]).length = pre.length + 2 by simp] at hown hll hak
        obtain ⟨g, cap, rfl, hgB, hgl, hn1, hn2, hcell⟩ := own_pos hown (by omega)
        have hx : ∀ j, j < 4 → (plsOf (pre ++ [a, b]))[pre.length * 2 + j]? = [a.1.v, .int .i64 a.2, b.1.v, .int .i64 b.2][j]? := fun j hj => by
          rw [plsOf_app, List.getElem?_append_right (by rw [plsOf_len]; omega), plsOf_len, Nat.add_sub_cancel_left]; rfl
        have xa0 : wr.cell? ⟨g, pre.length * 2, none⟩ = some a.1.v := (hcell (pre.length * 2) (by omega)).trans (hx 0 (by omega))
        have xa1 : wr.cell? ⟨g, pre.length * 2 + 1, none⟩ = some (.int .i64 a.2) := (hcell (pre.length * 2 + 1) (by omega)).trans (hx 1 (by omega))
        have xa2 : wr.cell? ⟨g, pre.length * 2 + 2, none⟩ = some b.1.v := (hcell (pre.length * 2 + 2) (by omega)).trans (hx 2 (by omega))
        have xa3 : wr.cell? ⟨g, pre.length * 2 + 3, none⟩ = some (.int .i64 b.2) := (hcell (pre.length * 2 + 3) (by omega)).trans (hx 3 (by omega))
        have e1 : ((pre.length + 2 : Nat) : Int) - 2 = (pre.length : Int) := by omega
        have hne : ¬ cap = pre.length := by omega
        clear hx hcell
        go_upto_region 10 with (go_at_call 30; with_reducible refine hcall.mono ?_; clear hcall; rintro e w2 ⟨rfl, hb2⟩)
        have HBX : w2.heap[wr.heap.size]? = some (.cells #[.int .i64 o.kind, .string (str o.text), .int .u32 o.n] 42 (0, 0)) := (hb2.block _ (by simp)).trans hx0
        have k0 : w2.cell? ⟨wr.heap.size, 0, none⟩ = some (.int .i64 o.kind) := by rw [cell_of_row _ _ _ _ _ _ HBX]; rfl
        have k1 : w2.cell? ⟨wr.heap.size, 1, none⟩ = some (.string (str o.text)) := by rw [cell_of_row _ _ _ _ _ _ HBX]; rfl
        have k2 : w2.cell? ⟨wr.heap.size, 2, none⟩ = some (.int .u32 o.n) := by rw [cell_of_row _ _ _ _ _ _ HBX]; rfl
        have hown2 := owns_below (hown.alloc _) hb2
        have hbr : Below wr.heap.size wr w2 := ((Below.refl _ wr).alloc (Nat.le_refl _) _).trans (hb2.mono (by simp))
        have hbw2 : Below w.heap.size w w2 := hbw.trans (hb2.mono hbw.size)
        have hrow := hown.lt
        have hk9 := Ex.opr_bi HK7.out
        have ea := HHELD.out.ok a (by simp)
        have eb := HHELD.out.ok b (by simp)
        have hta := HTOT.out
        rw [List.map_append, Ex.tot_app, show Ex.tot ([a, b].map tp) = a.1.ts.length + b.1.ts.length by simp [Ex.tot, tp]] at hta
        have ga := (ea.1.next hbr)
        have gb := (eb.1.next hbr)
        have hpart := fun cc => part_bin o.n o.text g (pre.length * 2) cc a.1 b.1 a.2 b.2 w2.drew ⟨ga.pos, ga.lt, ga.at_⟩ ⟨gb.pos, gb.lt, gb.at_⟩ ((hbr.cell (p := ⟨g, pre.length * 2, none⟩) hgl).trans xa0) ((hbr.cell (p := ⟨g, pre.length * 2 + 1, none⟩) hgl).trans xa1) ((hbr.cell (p := ⟨g, pre.length * 2 + 2, none⟩) hgl).trans xa2) ((hbr.cell (p := ⟨g, pre.length * 2 + 3, none⟩) hgl).trans xa3) (Nat.lt_of_lt_of_le hgl hbr.size) (by omega) (by omega)
        rw [← HK7.out] at hpart
        have HPR := Lib.hid (show (f.take (k + 1)).foldl Ex.prt1 [] = pre.map tp ++ [(Ex.asL a.1.ts a.2 (Ex.levL o.text : Nat) ++ ([⟨3, o.text⟩] : List Tok.Tk) ++ Ex.asL b.1.ts b.2 ((Ex.levL o.text : Nat) + 1), ((Ex.levL o.text : Nat) : Int))] from HN.out.trans (by rw [List.map_append]; exact Ex.prt1_bin (pre.map tp) (tp a) (tp b) o HK7.out))
        have HLV := Lib.hid (show ((Ex.levL o.text : Nat) : Int) = ((Ex.levL o.text : Nat) : Int) from rfl)
        have hle7 : (Ex.asL a.1.ts a.2 (Ex.levL o.text : Nat) ++ ([⟨3, o.text⟩] : List Tok.Tk) ++ Ex.asL b.1.ts b.2 ((Ex.levL o.text : Nat) + 1)).length ≤ a.1.ts.length + b.1.ts.length + 5 := by
          have := Ex.asL_len a.1.ts a.2 (Ex.levL o.text : Nat)
          have := Ex.asL_len b.1.ts b.2 ((Ex.levL o.text : Nat) + 1)
          simp; omega
        have HLE := Lib.hid hle7
        have HTA := Lib.hid hta
        have HPRE := Lib.hid (show (plsOf (pre ++ [a, b])).take (pre.length * 2) = plsOf pre by rw [plsOf_app, List.take_left' (plsOf_len pre)])
        clear hx0 hb2 hbw HBX hd0 hd1 hd2 ea eb ga gb hta hle7 hk9 HN HSo
        generalize ((Ex.levL o.text : Nat) : Int) = lv at *
        have z1 : (pre.length : Int) ≤ (cap : Int) := by omega
        have z2 : (0 : Int) ≤ (pre.length : Int) := by omega
        have z3 : pre.length ≤ cap := by omega
        have z4 : (pre.length : Int) ≤ ((pre.length + 2 : Nat) : Int) := by omega
        have z5 : (((pre.length + 2 : Nat) : Int)) ≤ (cap : Int) := by omega
        have z6 : pre.length ≤ pre.length + 2 := by omega
        have z7 : pre.length + 2 ≤ cap := by omega
        have z8 : (pre.length : Int) + 2 ≤ (cap : Int) := by omega
        have z9 : (pre.length : Int) ≤ (pre.length : Int) + 2 := by omega
        go_region_law ((first | (refine step_append_lies _ (by rfl) _ _ 59 (by rfl) w.heap.size 63 i0 _ 2 32 Tryz.underlying59 hi0 hz0 hz1 hz2 rfl (by omega) (.slice (some ⟨g, 0, none⟩) pre.length cap) pre.length _ (by rfl) (hown5.alloc _) ⟨w5.heap.size, 0, none⟩ 1 1 [_, _] (by rfl) (by rfl) (World.news_of_block (cs := #[_, _]) (t := 63) (fr := (0, 0)) (heap_alloc_new w5 _)) (by simp [Value.oneCell']) (by omega) (by unfold maxLen; omega) (by omega) (by have := hb5.size; have := hbw2.size; simp at *; omega) (w5.heap.size + 1) (by simp) ?_; intro gg cap3 w6 hown6 hgrow hat hlt6) | (go_simp; go_at_call 31; refine (hpart _).mono ?_; rintro e w5 ⟨p, rfl, hu, hkp, hg5, hb5⟩; rw [Pt.v_def p]; have HU := Lib.hid hu; clear hu; have hown5 := owns_below ((own_take hown2 (by omega)).drew) hb5)))
        rw [HPRE.out] at hown6
        have hbw5 : Below w.heap.size w w5 := hbw2.drew.trans (hb5.mono hbw2.size)
        have hbr5 : Below wr.heap.size wr w5 := hbr.drew.trans (hb5.mono hbr.size)
        have hb6 : Below w.heap.size w w6 := grown_own (hbw5.alloc hbw5.size _) hgrow (fun j hj => (hrow j hj).1)
        have hpg : wr.heap.size ≤ p.g := Nat.le_trans hbr.size hg5
        have hh6 := held_step (lv := lv) (n := pre.length + 1) (c := cap3) HHELD.out (M := pre) (fun q h => List.mem_append_left _ h) hbr5 (fun k h => (hrow k h).2) hkp hpg hgrow hat
        rw [show plsOf pre ++ [.slice (some ⟨p.g, p.o, none⟩) p.ts.length p.c, .int .i64 lv] = plsOf (pre ++ [(p, lv)]) by rw [plsOf_app]; rfl] at hown6
        have hmap : (pre ++ [(p, lv)]).map tp = (f.take (k + 1)).foldl Ex.prt1 [] := by rw [HPR.out, List.map_append]; show _ = _; rw [show [((p, lv) : Pl)].map tp = [(p.ts, lv)] from rfl, HU.out]
        have htt : Ex.tot ((pre ++ [(p, lv)]).map tp) ≤ 5 * (k + 1) := by
          have h1 := HTA.out
          have h2 := HLE.out
          rw [List.map_append, Ex.tot_app, show Ex.tot ([(p, lv)].map tp) = p.ts.length by simp [Ex.tot, tp], HU.out]
          omega
        have hll2 : (pre ++ [((p, lv) : Pl)]).length = pre.length + 1 := by simp
        generalize pre ++ [((p, lv) : Pl)] = L2 at *
        have hch2 := HC2.out
        rw [← hll2] at hch2
        clear HPR HC2 HU hown2 hown5 hown hgrow hat hrow hkp k0 k1 k2
        go_wp2_with fail
        go_roundw
        case rel => exact ⟨k + 1, L2, by omega, by go_num, hmap, by omega, hch2, htt, hh6, by rw [hll2]; exact hown6, hb6⟩
        case measure => simp [intOf]; omega
    · have b1 : decide ((k : Int) < f.length) = false := by simp; omega
      have b1n : decide (k < f.length) = false := by simp; omega
      have hL1 : L.length = 1 := by
        have h := HCH.out
        rw [List.drop_of_length_le (by omega)] at h
        simp only [Ex.chk] at h
        split at h
        · omega
        · cases h
      obtain ⟨pl, rfl⟩ := List.length_eq_one_iff.1 hL1
      obtain ⟨p, lv⟩ := pl
      have hprt : p.ts = Ex.prt f := by
        have h := HACC.out
        rw [List.take_of_length_le (by omega)] at h
        unfold Ex.prt
        rw [← h]; rfl
      have HP := Lib.hid hprt
      have hpl : p.ts.length ≤ 256 := by rw [hprt]; exact HF.out
      have hpk := (HHELD.out.ok (p, lv) (by simp)).1
      have b2 : decide ((256 : Int) < p.ts.length) = false := by simp; omega
      have b2n : decide (256 < p.ts.length) = false := by simp; omega
      clear hprt HACC HCH HTOT HHELD HF
      obtain ⟨g, cap, rfl, hgB, hgl, hn1, hn2, hcell⟩ := own_pos hown (by simp)
      have x0 : wr.cell? ⟨g, 0, none⟩ = some p.v := hcell 0 (by simp)
      rw [Pt.v_def] at x0
      clear hcell hown
      go_wp2_with fail
      go_ret2
      exact ⟨p, rfl, HP.out, hpk, hb⟩
end Go.Proofs.YtndehkoglgakpaaGreatDoor
