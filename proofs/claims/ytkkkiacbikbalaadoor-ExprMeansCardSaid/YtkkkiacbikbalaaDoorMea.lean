/- The law's own value of a formula. Condition: the formula is valid, its numbers are words. -/
import Derived.Test.YtkkkiacbikbalaaDoorMap
namespace Go.Proofs.YtkkkiacbikbalaaDoor
open Go.RowKit Go.Deep Go.Maps

theorem Ex.vstep_at (sp args : List Int) (ev : List Ex.Op) (o : Ex.Op) (h : args.length = (Ex.opr o).1.toNat) : Ex.vstep (sp ++ args, ev) o = (sp ++ [Ex.vval ev.length args o], if o.kind = 3 ∨ o.kind = 4 ∨ o.kind = 5 then ev ++ [⟨o.kind, o.text, Ex.vval ev.length args o⟩] else ev) := by
  unfold Ex.vstep
  dsimp only
  rw [List.length_append, ← h, Nat.add_sub_cancel, List.take_left, List.drop_left]
theorem Ex.vstep_zero (sv : List Int) (ev : List Ex.Op) (o : Ex.Op) (h : (Ex.opr o).1.toNat = 0) : Ex.vstep (sv, ev) o = (sv ++ [Ex.vval ev.length [] o], if o.kind = 3 ∨ o.kind = 4 ∨ o.kind = 5 then ev ++ [⟨o.kind, o.text, Ex.vval ev.length [] o⟩] else ev) := by
  have h2 := Ex.vstep_at sv [] ev o (by rw [h]; rfl)
  rwa [List.append_nil] at h2
theorem own_zero {w : World} {B : Nat} {T : TypeId} {s : Nat} {v : Value} {xs : List Value} (h : w.ownsRow B T s v 0 xs) : ∃ A c, v = .slice A 0 c := by
  rcases h.2 with ⟨rfl, _⟩ | ⟨g, c, cur, rfl, _⟩
  · exact ⟨_, _, rfl⟩
  · exact ⟨_, _, rfl⟩
theorem one_arg (l : List Int) (h : l.length = 1) : ∃ a, l = [a] := List.length_eq_one_iff.1 h
theorem two_args (l : List Int) (h : l.length = 2) : ∃ a b, l = [a, b] := by
  match l, h with
  | [a, b], _ => exact ⟨a, b, rfl⟩
theorem un_ok (t : List UInt8) (x : Int) (h : Ex.unL t = true) : (unR t x).2 = true := by
  unfold Ex.unL at h
  unfold unR
  cases h1 : t == [45]
  · cases h2 : t == [126]
    · rw [h1, h2] at h
      rw [if_neg (by decide), if_neg (by decide), if_pos (by simpa using h)]
    · rfl
  · rfl
theorem bi_ok (t : List UInt8) (x y : Int) (h : 0 < Ex.levL t) : (biR t x y).2 = true := by
  have key : ∀ u : List UInt8, (t == u) = true → (biR u x y).2 = true → (biR t x y).2 = true := fun u e hx => by
    have e := eq_of_beq e
    subst e; exact hx
  unfold Ex.levL at h
  iterate 18 (rcases Ex.pos_ite h with e | h; · exact key _ e rfl)
  exact absurd h (by decide)
theorem mix_lt (n : Nat) (args : List Int) : 0 ≤ Ex.mixV n args ∧ Ex.mixV n args < 4294967296 := by
  have key : ∀ (l : List Int) (v : Int), 0 ≤ v ∧ v < 4294967296 → 0 ≤ l.foldl (fun v a => (v * 31 + a) % 4294967296) v ∧ l.foldl (fun v a => (v * 31 + a) % 4294967296) v < 4294967296 := by
    intro l
    induction l with
    | nil => intro v h; exact h
    | cons a l ih => intro v _; rw [List.foldl_cons]; exact ih _ (by omega)
  exact key args _ (by omega)
/-- What the law's value returns. -/
def GotW (w : World) (r : Ex.VS) : Ending → World → Prop := fun x w' => ∃ v, x = .returned (.tuple #[.int .u32 (r.1.getD 0 0), v, .bool true]) ∧ w'.ownsRow w.heap.size 44 3 v r.2.length (opsOf r.2) ∧ r.2.length ≤ 256 ∧ Below w.heap.size w w'
set_option maxHeartbeats 16000000 in
set_option maxRecDepth 100000 in
theorem lawvalue_any (A : Option Addr) (c : Nat) (f : List Ex.Op) (w : World) (hA : OpsAt w w.heap.size A f) (hL : OpsLen f) (h0 : Ex.check f = 0) :
    Calls Tryd.prog 17 #[.slice A f.length c] w (GotW w (Ex.vrun f)) := by
  obtain ⟨i0, hi0, hz0, hz1, hz2⟩ := info_parts infoU
  obtain ⟨hl2, hchk⟩ := Ex.check_zero h0
  have hchk2 : Ex.chk 0 (f.drop 0) = 0 := hchk
  clear h0 hchk
  go_enter Tryd.func17, Tryd.ntmps17
  go_wp2_with fail
  go_loopw [5, 6, 17] (fun v e i wr => ∃ (k : Nat) (sv : List Int) (ev : List Ex.Op), k ≤ f.length ∧ i = .int .i64 k ∧ Ex.vrun (f.take k) = (sv, ev) ∧ Ex.chk (sv.length : Nat) (f.drop k) = 0 ∧ sv.length ≤ k ∧ ev.length ≤ k ∧ (∀ x ∈ sv, 0 ≤ x ∧ x < 4294967296) ∧ wr.ownsRow w.heap.size 22 1 v sv.length (wordsOf sv) ∧ wr.ownsRow w.heap.size 44 3 e ev.length (opsOf ev) ∧ Below w.heap.size w wr) (fun _ _ i _ => f.length - (intOf i).toNat)
  case atStart => exact ⟨0, [], [], by omega, rfl, rfl, hchk2, by simp, by simp, by simp, World.ownsRow_nil _ _ _ _, World.ownsRow_nil _ _ _ _, Below.refl _ _⟩
  case round =>
    clear hchk2
    obtain ⟨k, sv, ev, hk, rfl, hvr, hch, hsl, hel, hsr, hs, he, hb⟩ := hrel
    have HVR := Lib.hid hvr
    have HCH := Lib.hid hch
    clear hvr hch
    by_cases hlt : k < f.length
    · have b1 : decide ((k : Int) < f.length) = true := by simp; omega
      have b1n : decide (k < f.length) = true := by simp; omega
      obtain ⟨g0, o0, rfl, hg, hc0, hc1, hc2⟩ := hA k hlt
      have hd0 := (hb.cell (p := ⟨g0, o0 + k * 3, none⟩) hg).trans hc0
      have hd1 := (hb.cell (p := ⟨g0, o0 + k * 3 + 1, none⟩) hg).trans hc1
      have hd2 := (hb.cell (p := ⟨g0, o0 + k * 3 + 2, none⟩) hg).trans hc2
      have HN := Lib.hid (show Ex.vrun (f.take (k + 1)) = Ex.vstep (sv, ev) f[k] by rw [List.take_succ_eq_append_getElem hlt, Ex.vrun_snoc, HVR.out])
      have HC := Lib.hid (show (Ex.opr f[k]).2 = true ∧ (Ex.opr f[k]).1 ≤ (sv.length : Int) ∧ Ex.chk ((sv.length : Int) + (1 - (Ex.opr f[k]).1)) (f.drop (k + 1)) = 0 by
        have h := HCH.out
        rw [list_drop f k hlt, Ex.chk_cons] at h
        split at h
        · rename_i h1; exact ⟨h1.1, h1.2, h⟩
        · cases h)
      have hLo := hL f[k] (List.getElem_mem hlt)
      clear hc0 hc1 hc2 HCH HVR
      generalize f[k] = o at *
      rcases Ex.opr_cases HC.out.1 with ⟨n, rfl, he0⟩ | ⟨t, rfl, ht, he0⟩ | ⟨t, n, rfl, ht, hn8, he0⟩ | ⟨rfl, he0⟩ | ⟨rfl, he0⟩ | ⟨t, rfl, ht, he0⟩ | ⟨t, rfl, ht, he0⟩
      · dsimp only at hLo hd0 hd1 hd2
        rcases hs.2 with ⟨rfl, hz⟩ | ⟨g, cap, cur, rfl, hB, hgg, hn1, hn2, hsz, htk⟩
        · have HST := Lib.hid (show Ex.vstep (sv, ev) ⟨1, [], n⟩ = (sv ++ [Ex.vval ev.length [] ⟨1, [], n⟩], ev) from Ex.vstep_zero sv ev _ (by rw [he0]; rfl))
          have HCK0 := Lib.hid (show Ex.chk ((sv.length + 1 : Nat) : Int) (f.drop (k + 1)) = 0 by have h := HC.out.2.2; rw [he0] at h; rw [← h]; first | rfl | (congr 1; simp; done) | (congr 1; simp; omega))
          clear HC he0
          rw [hz] at hs hsl
          have HNN := Lib.hid hz
          clear hz
          have q1 : decide ((0 : Int) < 0) = false := by simp
          go_upto_region 6 with fail
          have hx0 := heap_alloc_new wr (.cells #[.int .i64 1, .string (str []), .int .u32 n] 44)
          have hWr : Below wr.heap.size wr (wr.alloc (.cells #[.int .i64 1, .string (str []), .int .u32 n] 44)) := (Below.refl _ _).alloc (Nat.le_refl _) _
          have hWs : wr.heap.size < (wr.alloc (.cells #[.int .i64 1, .string (str []), .int .u32 n] 44)).heap.size := by simp
          generalize wr.alloc (.cells #[.int .i64 1, .string (str []), .int .u32 n] 44) = W at *
          have k2 : (W.alloc (.map #[] 0)).cell? ⟨wr.heap.size, 2, none⟩ = some (.int .u32 n) := cell_alloc _ hWs (by rw [cell_of_row _ _ _ _ _ _ hx0]; rfl)
          have hmm := @run_makeMap Tryd.prog
          have hm0 := World.ownsMap_made W Tryd.prog 3 (plainElem (H := Unit) Tryd.prog 3)
          have hB0 : Below W.heap.size W (W.alloc (.map #[] 0)) := (Below.refl _ _).alloc (Nat.le_refl _) _
          go_upto_region 7 with (first | (refine wpList_insert_own _ rfl _ _ _ 73 rfl 3 3 kInt Tryd.underlying73 (plainElem (H := Unit) Tryd.prog 3) W.heap.size 3 _ rfl hm3 (by unfold maxLen; omega) _ _ _ rfl rfl (keyOf_int_mk Tryd.underlying3 (by decide)) _ [] (plainElem_int Tryd.underlying3 (by decide)) ?_; intro w4 hm4 hg4; have hB4 : Below W.heap.size W w4 := hB3.grown hg4 hB3.size (fun j hj => by cases hj; exact Nat.le_refl _); have kk0 : w4.cell? ⟨wr.heap.size, 0, none⟩ = some (.int .i64 1) := (hB4.cell (p := ⟨wr.heap.size, 0, none⟩) hWs).trans (by rw [cell_of_row _ _ _ _ _ _ hx0]; rfl)) | (refine wpList_insert_own _ rfl _ _ _ 73 rfl 3 3 kInt Tryd.underlying73 (plainElem (H := Unit) Tryd.prog 3) W.heap.size 2 _ rfl hm2 (by unfold maxLen; omega) _ _ _ rfl rfl (keyOf_int_mk Tryd.underlying3 (by decide)) _ [] (plainElem_int Tryd.underlying3 (by decide)) ?_; intro w3 hm3 hg3; have hB3 : Below W.heap.size W w3 := hB2.grown hg3 hB2.size (fun j hj => by cases hj; exact Nat.le_refl _)) | (refine wpList_insert_own _ rfl _ _ _ 73 rfl 3 3 kInt Tryd.underlying73 (plainElem (H := Unit) Tryd.prog 3) W.heap.size 1 _ rfl hm1 (by unfold maxLen; omega) _ _ _ rfl rfl (keyOf_int_mk Tryd.underlying3 (by decide)) _ [] (plainElem_int Tryd.underlying3 (by decide)) ?_; intro w2 hm2 hg2; have hB2 : Below W.heap.size W w2 := hB1.grown hg2 hB1.size (fun j hj => by cases hj; exact Nat.le_refl _)) | (refine wpList_insert_own _ rfl _ _ _ 73 rfl 3 3 kInt Tryd.underlying73 (plainElem (H := Unit) Tryd.prog 3) W.heap.size 0 _ rfl hm0 (by unfold maxLen; omega) _ _ _ rfl rfl (keyOf_int_mk Tryd.underlying3 (by decide)) _ [] (plainElem_int Tryd.underlying3 (WalkArith.wf_i64 (by omega))) ?_; intro w1 hm1 hg1; have hB1 : Below W.heap.size W w1 := hB0.grown hg1 hB0.size (fun j hj => by cases hj; exact Nat.le_refl _)) | (refine wpList_lookup_own_int _ rfl _ _ 73 rfl 3 3 .i64 kInt Tryd.underlying73 Tryd.underlying3 (zInt _) W.heap.size 4 _ rfl hm4 _ _ rfl (keyOf_int_mk Tryd.underlying3 (by decide)) ?_; intro cc hat hwc))
          obtain rfl := tab_1 _ _ hat
          have hbx := (hB4.block wr.heap.size hWs).trans hx0
          have hWr4 : Below wr.heap.size wr w4 := hWr.trans (hB4.mono hWr.size)
          have hs4 := owns_below hs hWr4
          have he4 := owns_below he hWr4
          have hb4 := hb.trans (hWr4.mono hb.size)
          have hW4 : wr.heap.size < w4.heap.size := Nat.lt_of_lt_of_le hWs hB4.size
          clear hm0 hm1 hm2 hm3 hm4 hg1 hg2 hg3 hg4 hB0 hB1 hB2 hB3 hB4 hat hwc kk0 k2 hmm hx0 hWr hs he hWs
          have hcl := clone_nil w4
          clear hWr4
          go_upto_region 9 with fail
          go_wp2_with fail
          with_reducible refine hcl.mono ?_
          clear hcl
          rintro e w5 ⟨v2, rfl, hv2, hb5⟩
          have hs5 := owns_below hs4 hb5
          have he5 := owns_below he4 hb5
          have hbx5 := (hb5.block wr.heap.size hW4).trans hbx
          have hb6 := hb4.trans (hb5.mono hb4.size)
          clear hs4 he4 hbx hb4
          obtain ⟨A2, c2, rfl⟩ := own_zero hv2
          have hs6 := hs5
          clear hs5 hv2 hb5
          have k0 : w5.cell? ⟨wr.heap.size, 0, none⟩ = some (.int .i64 1) := by rw [cell_of_row _ _ _ _ _ _ hbx5]; rfl
          have k1 : w5.cell? ⟨wr.heap.size, 1, none⟩ = some (.string (str [])) := by rw [cell_of_row _ _ _ _ _ _ hbx5]; rfl
          have k2 : w5.cell? ⟨wr.heap.size, 2, none⟩ = some (.int .u32 n) := by rw [cell_of_row _ _ _ _ _ _ hbx5]; rfl
          have HCK := Lib.hid (show Ex.chk ((0 + 1 : Nat) : Int) (f.drop (k + 1)) = 0 by have h := HCK0.out; rwa [HNN.out] at h)
          clear HCK0
          have hs7 := hs6
          have he7 := he5
          have hb7 := hb6
          clear hs6 he5 hb6
          generalize w5 = w7 at *
          have hrow := hs7.lt
          have hVE := Lib.hid (show Ex.vval ev.length [] ⟨1, [], n⟩ = n from rfl)
          have hRG := Lib.hid (show 0 ≤ n ∧ n < 4294967296 from hLo.2)
          go_upto_region 32 with (at_builtin; refine wpList_append_lies _ (by rfl) _ _ 72 (by rfl) w.heap.size 22 i0 _ 1 4 Tryd.underlying72 hi0 hz0 hz1 hz2 rfl (by omega) (.slice none 0 0) (0) _ (by rfl) (hs7.alloc _) ⟨w7.heap.size, 0, none⟩ 1 1 [.int .u32 (n)] (by rfl) (by rfl) (World.news_of_block (cs := #[_]) (t := 22) (fr := (0, 0)) (heap_alloc_new w7 _)) (by simp [Value.oneCell']) (by omega) (by unfold maxLen; omega) (by omega) (by have := hb7.size; simp; omega) _ rfl ?_; intro gg cap3 w8 hs8 hgrow hat hlt8)
          have hb8 : Below w.heap.size w w8 := grown_own (hb7.alloc hb7.size _) hgrow (fun j hj => (hrow j hj).1)
          have he8 := (he7.alloc (.cells #[.int .u32 (n)] 22)).kept hgrow (own_ne2 hs7 he7 (by decide))
          rw [show wordsOf sv ++ [.int .u32 (n)] = wordsOf (sv ++ [n]) by rw [wordsOf_app]; rfl] at hs8
          have hl8 : (sv ++ [n]).length = 0 + 1 := by rw [List.length_append, HNN.out]; rfl
          rw [← hl8] at hs8
          have HV8 := Lib.hid (show Ex.vrun (f.take (k + 1)) = (sv ++ [n], ev) by rw [HN.out, HST.out, hVE.out]; try rfl)
          have hch8 : Ex.chk ((sv ++ [n]).length : Nat) (f.drop (k + 1)) = 0 := by rw [hl8]; exact HCK.out
          have hsr8 : ∀ x ∈ sv ++ [n], 0 ≤ x ∧ x < 4294967296 := fun x hx => by
            rcases List.mem_append.1 hx with hx | hx
            · exact hsr x hx
            · simp at hx; subst hx; exact hRG.out
          have hle8 : (sv ++ [n]).length ≤ k + 1 := by omega
          generalize sv ++ [n] = S8 at *
          clear hs7 he7 hb7 hgrow hat hrow HN HST HCK hVE hRG
          go_wp2_with fail
          go_roundw
          case rel => exact ⟨k + 1, S8, ev, by omega, by go_num, HV8.out, hch8, hle8, by omega, hsr8, by rw [hl8]; rw [hl8] at hs8; exact hs8, he8, hb8⟩
          case measure => simp [intOf]; omega
        · have hgl : g < wr.heap.size := (Array.getElem?_eq_some_iff.1 hgg).1
          by_cases hcap : cap = sv.length
          · have HST := Lib.hid (show Ex.vstep (sv, ev) ⟨1, [], n⟩ = (sv ++ [Ex.vval ev.length [] ⟨1, [], n⟩], ev) from Ex.vstep_zero sv ev _ (by rw [he0]; rfl))
            have HCK0 := Lib.hid (show Ex.chk ((sv.length + 1 : Nat) : Int) (f.drop (k + 1)) = 0 by have h := HC.out.2.2; rw [he0] at h; rw [← h]; first | rfl | (congr 1; simp; done) | (congr 1; simp; omega))
            clear HC he0
            obtain ⟨N, hNe⟩ : ∃ N, sv.length = N := ⟨_, rfl⟩
            rw [hNe] at hs hn1 hsl hcap ⊢
            have HNN := Lib.hid hNe
            clear hNe hgg htk hsz hB
            have hcap2 := hcap.symm
            clear hcap
            subst hcap2
            have q1 : decide ((N : Int) < 0) = false := by simp
            go_upto_region 6 with fail
            have hx0 := heap_alloc_new wr (.cells #[.int .i64 1, .string (str []), .int .u32 n] 44)
            have hWr : Below wr.heap.size wr (wr.alloc (.cells #[.int .i64 1, .string (str []), .int .u32 n] 44)) := (Below.refl _ _).alloc (Nat.le_refl _) _
            have hWs : wr.heap.size < (wr.alloc (.cells #[.int .i64 1, .string (str []), .int .u32 n] 44)).heap.size := by simp
            generalize wr.alloc (.cells #[.int .i64 1, .string (str []), .int .u32 n] 44) = W at *
            have k2 : (W.alloc (.map #[] 0)).cell? ⟨wr.heap.size, 2, none⟩ = some (.int .u32 n) := cell_alloc _ hWs (by rw [cell_of_row _ _ _ _ _ _ hx0]; rfl)
            have hmm := @run_makeMap Tryd.prog
            have hm0 := World.ownsMap_made W Tryd.prog 3 (plainElem (H := Unit) Tryd.prog 3)
            have hB0 : Below W.heap.size W (W.alloc (.map #[] 0)) := (Below.refl _ _).alloc (Nat.le_refl _) _
            go_upto_region 7 with (first | (refine wpList_insert_own _ rfl _ _ _ 73 rfl 3 3 kInt Tryd.underlying73 (plainElem (H := Unit) Tryd.prog 3) W.heap.size 3 _ rfl hm3 (by unfold maxLen; omega) _ _ _ rfl rfl (keyOf_int_mk Tryd.underlying3 (by decide)) _ [] (plainElem_int Tryd.underlying3 (by decide)) ?_; intro w4 hm4 hg4; have hB4 : Below W.heap.size W w4 := hB3.grown hg4 hB3.size (fun j hj => by cases hj; exact Nat.le_refl _); have kk0 : w4.cell? ⟨wr.heap.size, 0, none⟩ = some (.int .i64 1) := (hB4.cell (p := ⟨wr.heap.size, 0, none⟩) hWs).trans (by rw [cell_of_row _ _ _ _ _ _ hx0]; rfl)) | (refine wpList_insert_own _ rfl _ _ _ 73 rfl 3 3 kInt Tryd.underlying73 (plainElem (H := Unit) Tryd.prog 3) W.heap.size 2 _ rfl hm2 (by unfold maxLen; omega) _ _ _ rfl rfl (keyOf_int_mk Tryd.underlying3 (by decide)) _ [] (plainElem_int Tryd.underlying3 (by decide)) ?_; intro w3 hm3 hg3; have hB3 : Below W.heap.size W w3 := hB2.grown hg3 hB2.size (fun j hj => by cases hj; exact Nat.le_refl _)) | (refine wpList_insert_own _ rfl _ _ _ 73 rfl 3 3 kInt Tryd.underlying73 (plainElem (H := Unit) Tryd.prog 3) W.heap.size 1 _ rfl hm1 (by unfold maxLen; omega) _ _ _ rfl rfl (keyOf_int_mk Tryd.underlying3 (by decide)) _ [] (plainElem_int Tryd.underlying3 (by decide)) ?_; intro w2 hm2 hg2; have hB2 : Below W.heap.size W w2 := hB1.grown hg2 hB1.size (fun j hj => by cases hj; exact Nat.le_refl _)) | (refine wpList_insert_own _ rfl _ _ _ 73 rfl 3 3 kInt Tryd.underlying73 (plainElem (H := Unit) Tryd.prog 3) W.heap.size 0 _ rfl hm0 (by unfold maxLen; omega) _ _ _ rfl rfl (keyOf_int_mk Tryd.underlying3 (by decide)) _ [] (plainElem_int Tryd.underlying3 (WalkArith.wf_i64 (by omega))) ?_; intro w1 hm1 hg1; have hB1 : Below W.heap.size W w1 := hB0.grown hg1 hB0.size (fun j hj => by cases hj; exact Nat.le_refl _)) | (refine wpList_lookup_own_int _ rfl _ _ 73 rfl 3 3 .i64 kInt Tryd.underlying73 Tryd.underlying3 (zInt _) W.heap.size 4 _ rfl hm4 _ _ rfl (keyOf_int_mk Tryd.underlying3 (by decide)) ?_; intro cc hat hwc))
            obtain rfl := tab_1 _ _ hat
            have hbx := (hB4.block wr.heap.size hWs).trans hx0
            have hWr4 : Below wr.heap.size wr w4 := hWr.trans (hB4.mono hWr.size)
            have hs4 := owns_below hs hWr4
            have he4 := owns_below he hWr4
            have hb4 := hb.trans (hWr4.mono hb.size)
            have hW4 : wr.heap.size < w4.heap.size := Nat.lt_of_lt_of_le hWs hB4.size
            clear hm0 hm1 hm2 hm3 hm4 hg1 hg2 hg3 hg4 hB0 hB1 hB2 hB3 hB4 hat hwc kk0 k2 hmm hx0 hWr hs he hWs
            have hcl := fun a c => clone_zero a c w4
            clear hWr4
            go_upto_region 9 with fail
            go_wp2_with fail
            with_reducible refine (hcl _ _).mono ?_
            clear hcl
            rintro e w5 ⟨v2, rfl, hv2, hb5⟩
            have hs5 := owns_below hs4 hb5
            have he5 := owns_below he4 hb5
            have hbx5 := (hb5.block wr.heap.size hW4).trans hbx
            have hb6 := hb4.trans (hb5.mono hb4.size)
            clear hs4 he4 hbx hb4
            obtain ⟨A2, c2, rfl⟩ := own_zero hv2
            have hs6 := hs5
            clear hs5 hv2 hb5
            have k0 : w5.cell? ⟨wr.heap.size, 0, none⟩ = some (.int .i64 1) := by rw [cell_of_row _ _ _ _ _ _ hbx5]; rfl
            have k1 : w5.cell? ⟨wr.heap.size, 1, none⟩ = some (.string (str [])) := by rw [cell_of_row _ _ _ _ _ _ hbx5]; rfl
            have k2 : w5.cell? ⟨wr.heap.size, 2, none⟩ = some (.int .u32 n) := by rw [cell_of_row _ _ _ _ _ _ hbx5]; rfl
            have HCK := Lib.hid (show Ex.chk ((N + 1 : Nat) : Int) (f.drop (k + 1)) = 0 by have h := HCK0.out; rwa [HNN.out] at h)
            clear HCK0
            have hs7 := hs6
            have he7 := he5
            have hb7 := hb6
            clear hs6 he5 hb6
            generalize w5 = w7 at *
            have hrow := hs7.lt
            have hVE := Lib.hid (show Ex.vval ev.length [] ⟨1, [], n⟩ = n from rfl)
            have hRG := Lib.hid (show 0 ≤ n ∧ n < 4294967296 from hLo.2)
            go_upto_region 32 with (at_builtin; refine wpList_append_lies _ (by rfl) _ _ 72 (by rfl) w.heap.size 22 i0 _ 1 4 Tryd.underlying72 hi0 hz0 hz1 hz2 rfl (by omega) (.slice (some ⟨g, 0, none⟩) N N) (N) _ (by rfl) (hs7.alloc _) ⟨w7.heap.size, 0, none⟩ 1 1 [.int .u32 (n)] (by rfl) (by rfl) (World.news_of_block (cs := #[_]) (t := 22) (fr := (0, 0)) (heap_alloc_new w7 _)) (by simp [Value.oneCell']) (by omega) (by unfold maxLen; omega) (by omega) (by have := hb7.size; simp; omega) _ rfl ?_; intro gg cap3 w8 hs8 hgrow hat hlt8)
            have hb8 : Below w.heap.size w w8 := grown_own (hb7.alloc hb7.size _) hgrow (fun j hj => (hrow j hj).1)
            have he8 := (he7.alloc (.cells #[.int .u32 (n)] 22)).kept hgrow (own_ne2 hs7 he7 (by decide))
            rw [show wordsOf sv ++ [.int .u32 (n)] = wordsOf (sv ++ [n]) by rw [wordsOf_app]; rfl] at hs8
            have hl8 : (sv ++ [n]).length = N + 1 := by rw [List.length_append, HNN.out]; rfl
            rw [← hl8] at hs8
            have HV8 := Lib.hid (show Ex.vrun (f.take (k + 1)) = (sv ++ [n], ev) by rw [HN.out, HST.out, hVE.out]; try rfl)
            have hch8 : Ex.chk ((sv ++ [n]).length : Nat) (f.drop (k + 1)) = 0 := by rw [hl8]; exact HCK.out
            have hsr8 : ∀ x ∈ sv ++ [n], 0 ≤ x ∧ x < 4294967296 := fun x hx => by
              rcases List.mem_append.1 hx with hx | hx
              · exact hsr x hx
              · simp at hx; subst hx; exact hRG.out
            have hle8 : (sv ++ [n]).length ≤ k + 1 := by omega
            generalize sv ++ [n] = S8 at *
            clear hs7 he7 hb7 hgrow hat hrow HN HST HCK hVE hRG
            go_wp2_with fail
            go_roundw
            case rel => exact ⟨k + 1, S8, ev, by omega, by go_num, HV8.out, hch8, hle8, by omega, hsr8, by rw [hl8]; rw [hl8] at hs8; exact hs8, he8, hb8⟩
            case measure => simp [intOf]; omega
          · have HST := Lib.hid (show Ex.vstep (sv, ev) ⟨1, [], n⟩ = (sv ++ [Ex.vval ev.length [] ⟨1, [], n⟩], ev) from Ex.vstep_zero sv ev _ (by rw [he0]; rfl))
            have HCK0 := Lib.hid (show Ex.chk ((sv.length + 1 : Nat) : Int) (f.drop (k + 1)) = 0 by have h := HC.out.2.2; rw [he0] at h; rw [← h]; first | rfl | (congr 1; simp; done) | (congr 1; simp; omega))
            clear HC he0
            obtain ⟨N, hNe⟩ : ∃ N, sv.length = N := ⟨_, rfl⟩
            rw [hNe] at hs hn1 hsl hcap ⊢
            have HNN := Lib.hid hNe
            clear hNe hgg htk hsz hB
            have q1 : decide ((N : Int) < 0) = false := by simp
            go_upto_region 6 with fail
            have hx0 := heap_alloc_new wr (.cells #[.int .i64 1, .string (str []), .int .u32 n] 44)
            have hWr : Below wr.heap.size wr (wr.alloc (.cells #[.int .i64 1, .string (str []), .int .u32 n] 44)) := (Below.refl _ _).alloc (Nat.le_refl _) _
            have hWs : wr.heap.size < (wr.alloc (.cells #[.int .i64 1, .string (str []), .int .u32 n] 44)).heap.size := by simp
            generalize wr.alloc (.cells #[.int .i64 1, .string (str []), .int .u32 n] 44) = W at *
            have k2 : (W.alloc (.map #[] 0)).cell? ⟨wr.heap.size, 2, none⟩ = some (.int .u32 n) := cell_alloc _ hWs (by rw [cell_of_row _ _ _ _ _ _ hx0]; rfl)
            have hmm := @run_makeMap Tryd.prog
            have hm0 := World.ownsMap_made W Tryd.prog 3 (plainElem (H := Unit) Tryd.prog 3)
            have hB0 : Below W.heap.size W (W.alloc (.map #[] 0)) := (Below.refl _ _).alloc (Nat.le_refl _) _
            go_upto_region 7 with (first | (refine wpList_insert_own _ rfl _ _ _ 73 rfl 3 3 kInt Tryd.underlying73 (plainElem (H := Unit) Tryd.prog 3) W.heap.size 3 _ rfl hm3 (by unfold maxLen; omega) _ _ _ rfl rfl (keyOf_int_mk Tryd.underlying3 (by decide)) _ [] (plainElem_int Tryd.underlying3 (by decide)) ?_; intro w4 hm4 hg4; have hB4 : Below W.heap.size W w4 := hB3.grown hg4 hB3.size (fun j hj => by cases hj; exact Nat.le_refl _); have kk0 : w4.cell? ⟨wr.heap.size, 0, none⟩ = some (.int .i64 1) := (hB4.cell (p := ⟨wr.heap.size, 0, none⟩) hWs).trans (by rw [cell_of_row _ _ _ _ _ _ hx0]; rfl)) | (refine wpList_insert_own _ rfl _ _ _ 73 rfl 3 3 kInt Tryd.underlying73 (plainElem (H := Unit) Tryd.prog 3) W.heap.size 2 _ rfl hm2 (by unfold maxLen; omega) _ _ _ rfl rfl (keyOf_int_mk Tryd.underlying3 (by decide)) _ [] (plainElem_int Tryd.underlying3 (by decide)) ?_; intro w3 hm3 hg3; have hB3 : Below W.heap.size W w3 := hB2.grown hg3 hB2.size (fun j hj => by cases hj; exact Nat.le_refl _)) | (refine wpList_insert_own _ rfl _ _ _ 73 rfl 3 3 kInt Tryd.underlying73 (plainElem (H := Unit) Tryd.prog 3) W.heap.size 1 _ rfl hm1 (by unfold maxLen; omega) _ _ _ rfl rfl (keyOf_int_mk Tryd.underlying3 (by decide)) _ [] (plainElem_int Tryd.underlying3 (by decide)) ?_; intro w2 hm2 hg2; have hB2 : Below W.heap.size W w2 := hB1.grown hg2 hB1.size (fun j hj => by cases hj; exact Nat.le_refl _)) | (refine wpList_insert_own _ rfl _ _ _ 73 rfl 3 3 kInt Tryd.underlying73 (plainElem (H := Unit) Tryd.prog 3) W.heap.size 0 _ rfl hm0 (by unfold maxLen; omega) _ _ _ rfl rfl (keyOf_int_mk Tryd.underlying3 (by decide)) _ [] (plainElem_int Tryd.underlying3 (WalkArith.wf_i64 (by omega))) ?_; intro w1 hm1 hg1; have hB1 : Below W.heap.size W w1 := hB0.grown hg1 hB0.size (fun j hj => by cases hj; exact Nat.le_refl _)) | (refine wpList_lookup_own_int _ rfl _ _ 73 rfl 3 3 .i64 kInt Tryd.underlying73 Tryd.underlying3 (zInt _) W.heap.size 4 _ rfl hm4 _ _ rfl (keyOf_int_mk Tryd.underlying3 (by decide)) ?_; intro cc hat hwc))
            obtain rfl := tab_1 _ _ hat
            have hbx := (hB4.block wr.heap.size hWs).trans hx0
            have hWr4 : Below wr.heap.size wr w4 := hWr.trans (hB4.mono hWr.size)
            have hs4 := owns_below hs hWr4
            have he4 := owns_below he hWr4
            have hb4 := hb.trans (hWr4.mono hb.size)
            have hW4 : wr.heap.size < w4.heap.size := Nat.lt_of_lt_of_le hWs hB4.size
            clear hm0 hm1 hm2 hm3 hm4 hg1 hg2 hg3 hg4 hB0 hB1 hB2 hB3 hB4 hat hwc kk0 k2 hmm hx0 hWr hs he hWs
            have hcl := fun a c => clone_zero a c w4
            clear hWr4
            go_upto_region 9 with fail
            go_wp2_with fail
            with_reducible refine (hcl _ _).mono ?_
            clear hcl
            rintro e w5 ⟨v2, rfl, hv2, hb5⟩
            have hs5 := owns_below hs4 hb5
            have he5 := owns_below he4 hb5
            have hbx5 := (hb5.block wr.heap.size hW4).trans hbx
            have hb6 := hb4.trans (hb5.mono hb4.size)
            clear hs4 he4 hbx hb4
            obtain ⟨A2, c2, rfl⟩ := own_zero hv2
            have hs6 := hs5
            clear hs5 hv2 hb5
            have k0 : w5.cell? ⟨wr.heap.size, 0, none⟩ = some (.int .i64 1) := by rw [cell_of_row _ _ _ _ _ _ hbx5]; rfl
            have k1 : w5.cell? ⟨wr.heap.size, 1, none⟩ = some (.string (str [])) := by rw [cell_of_row _ _ _ _ _ _ hbx5]; rfl
            have k2 : w5.cell? ⟨wr.heap.size, 2, none⟩ = some (.int .u32 n) := by rw [cell_of_row _ _ _ _ _ _ hbx5]; rfl
            have HCK := Lib.hid (show Ex.chk ((N + 1 : Nat) : Int) (f.drop (k + 1)) = 0 by have h := HCK0.out; rwa [HNN.out] at h)
            clear HCK0
            have hs7 := hs6
            have he7 := he5
            have hb7 := hb6
            clear hs6 he5 hb6
            generalize w5 = w7 at *
            have hrow := hs7.lt
            have hVE := Lib.hid (show Ex.vval ev.length [] ⟨1, [], n⟩ = n from rfl)
            have hRG := Lib.hid (show 0 ≤ n ∧ n < 4294967296 from hLo.2)
            go_upto_region 32 with (at_builtin; refine wpList_append_lies _ (by rfl) _ _ 72 (by rfl) w.heap.size 22 i0 _ 1 4 Tryd.underlying72 hi0 hz0 hz1 hz2 rfl (by omega) (.slice (some ⟨g, 0, none⟩) N cap) (N) _ (by rfl) (hs7.alloc _) ⟨w7.heap.size, 0, none⟩ 1 1 [.int .u32 (n)] (by rfl) (by rfl) (World.news_of_block (cs := #[_]) (t := 22) (fr := (0, 0)) (heap_alloc_new w7 _)) (by simp [Value.oneCell']) (by omega) (by unfold maxLen; omega) (by omega) (by have := hb7.size; simp; omega) _ rfl ?_; intro gg cap3 w8 hs8 hgrow hat hlt8)
            have hb8 : Below w.heap.size w w8 := grown_own (hb7.alloc hb7.size _) hgrow (fun j hj => (hrow j hj).1)
            have he8 := (he7.alloc (.cells #[.int .u32 (n)] 22)).kept hgrow (own_ne2 hs7 he7 (by decide))
            rw [show wordsOf sv ++ [.int .u32 (n)] = wordsOf (sv ++ [n]) by rw [wordsOf_app]; rfl] at hs8
            have hl8 : (sv ++ [n]).length = N + 1 := by rw [List.length_append, HNN.out]; rfl
            rw [← hl8] at hs8
            have HV8 := Lib.hid (show Ex.vrun (f.take (k + 1)) = (sv ++ [n], ev) by rw [HN.out, HST.out, hVE.out]; try rfl)
            have hch8 : Ex.chk ((sv ++ [n]).length : Nat) (f.drop (k + 1)) = 0 := by rw [hl8]; exact HCK.out
            have hsr8 : ∀ x ∈ sv ++ [n], 0 ≤ x ∧ x < 4294967296 := fun x hx => by
              rcases List.mem_append.1 hx with hx | hx
              · exact hsr x hx
              · simp at hx; subst hx; exact hRG.out
            have hle8 : (sv ++ [n]).length ≤ k + 1 := by omega
            generalize sv ++ [n] = S8 at *
            clear hs7 he7 hb7 hgrow hat hrow HN HST HCK hVE hRG
            go_wp2_with fail
            go_roundw
            case rel => exact ⟨k + 1, S8, ev, by omega, by go_num, HV8.out, hch8, hle8, by omega, hsr8, by rw [hl8]; rw [hl8] at hs8; exact hs8, he8, hb8⟩
            case measure => simp [intOf]; omega
      · dsimp only at hLo hd0 hd1 hd2
        clear ht
        rcases hs.2 with ⟨rfl, hz⟩ | ⟨g, cap, cur, rfl, hB, hgg, hn1, hn2, hsz, htk⟩
        · have HST := Lib.hid (show Ex.vstep (sv, ev) ⟨2, t, 0⟩ = (sv ++ [Ex.vval ev.length [] ⟨2, t, 0⟩], ev) from Ex.vstep_zero sv ev _ (by rw [he0]; rfl))
          have HCK0 := Lib.hid (show Ex.chk ((sv.length + 1 : Nat) : Int) (f.drop (k + 1)) = 0 by have h := HC.out.2.2; rw [he0] at h; rw [← h]; first | rfl | (congr 1; simp; done) | (congr 1; simp; omega))
          clear HC he0
          rw [hz] at hs hsl
          have HNN := Lib.hid hz
          clear hz
          have q1 : decide ((0 : Int) < 0) = false := by simp
          go_upto_region 6 with fail
          have hx0 := heap_alloc_new wr (.cells #[.int .i64 2, .string (str t), .int .u32 0] 44)
          have hWr : Below wr.heap.size wr (wr.alloc (.cells #[.int .i64 2, .string (str t), .int .u32 0] 44)) := (Below.refl _ _).alloc (Nat.le_refl _) _
          have hWs : wr.heap.size < (wr.alloc (.cells #[.int .i64 2, .string (str t), .int .u32 0] 44)).heap.size := by simp
          generalize wr.alloc (.cells #[.int .i64 2, .string (str t), .int .u32 0] 44) = W at *
          have k2 : (W.alloc (.map #[] 0)).cell? ⟨wr.heap.size, 2, none⟩ = some (.int .u32 0) := cell_alloc _ hWs (by rw [cell_of_row _ _ _ _ _ _ hx0]; rfl)
          have hmm := @run_makeMap Tryd.prog
          have hm0 := World.ownsMap_made W Tryd.prog 3 (plainElem (H := Unit) Tryd.prog 3)
          have hB0 : Below W.heap.size W (W.alloc (.map #[] 0)) := (Below.refl _ _).alloc (Nat.le_refl _) _
          go_upto_region 7 with (first | (refine wpList_insert_own _ rfl _ _ _ 73 rfl 3 3 kInt Tryd.underlying73 (plainElem (H := Unit) Tryd.prog 3) W.heap.size 3 _ rfl hm3 (by unfold maxLen; omega) _ _ _ rfl rfl (keyOf_int_mk Tryd.underlying3 (by decide)) _ [] (plainElem_int Tryd.underlying3 (by decide)) ?_; intro w4 hm4 hg4; have hB4 : Below W.heap.size W w4 := hB3.grown hg4 hB3.size (fun j hj => by cases hj; exact Nat.le_refl _); have kk0 : w4.cell? ⟨wr.heap.size, 0, none⟩ = some (.int .i64 2) := (hB4.cell (p := ⟨wr.heap.size, 0, none⟩) hWs).trans (by rw [cell_of_row _ _ _ _ _ _ hx0]; rfl)) | (refine wpList_insert_own _ rfl _ _ _ 73 rfl 3 3 kInt Tryd.underlying73 (plainElem (H := Unit) Tryd.prog 3) W.heap.size 2 _ rfl hm2 (by unfold maxLen; omega) _ _ _ rfl rfl (keyOf_int_mk Tryd.underlying3 (by decide)) _ [] (plainElem_int Tryd.underlying3 (by decide)) ?_; intro w3 hm3 hg3; have hB3 : Below W.heap.size W w3 := hB2.grown hg3 hB2.size (fun j hj => by cases hj; exact Nat.le_refl _)) | (refine wpList_insert_own _ rfl _ _ _ 73 rfl 3 3 kInt Tryd.underlying73 (plainElem (H := Unit) Tryd.prog 3) W.heap.size 1 _ rfl hm1 (by unfold maxLen; omega) _ _ _ rfl rfl (keyOf_int_mk Tryd.underlying3 (by decide)) _ [] (plainElem_int Tryd.underlying3 (by decide)) ?_; intro w2 hm2 hg2; have hB2 : Below W.heap.size W w2 := hB1.grown hg2 hB1.size (fun j hj => by cases hj; exact Nat.le_refl _)) | (refine wpList_insert_own _ rfl _ _ _ 73 rfl 3 3 kInt Tryd.underlying73 (plainElem (H := Unit) Tryd.prog 3) W.heap.size 0 _ rfl hm0 (by unfold maxLen; omega) _ _ _ rfl rfl (keyOf_int_mk Tryd.underlying3 (by decide)) _ [] (plainElem_int Tryd.underlying3 (WalkArith.wf_i64 (by omega))) ?_; intro w1 hm1 hg1; have hB1 : Below W.heap.size W w1 := hB0.grown hg1 hB0.size (fun j hj => by cases hj; exact Nat.le_refl _)) | (refine wpList_lookup_own_int _ rfl _ _ 73 rfl 3 3 .i64 kInt Tryd.underlying73 Tryd.underlying3 (zInt _) W.heap.size 4 _ rfl hm4 _ _ rfl (keyOf_int_mk Tryd.underlying3 (by decide)) ?_; intro cc hat hwc))
          obtain rfl := tab_2 _ _ hat
          have hbx := (hB4.block wr.heap.size hWs).trans hx0
          have hWr4 : Below wr.heap.size wr w4 := hWr.trans (hB4.mono hWr.size)
          have hs4 := owns_below hs hWr4
          have he4 := owns_below he hWr4
          have hb4 := hb.trans (hWr4.mono hb.size)
          have hW4 : wr.heap.size < w4.heap.size := Nat.lt_of_lt_of_le hWs hB4.size
          clear hm0 hm1 hm2 hm3 hm4 hg1 hg2 hg3 hg4 hB0 hB1 hB2 hB3 hB4 hat hwc kk0 k2 hmm hx0 hWr hs he hWs
          have hcl := clone_nil w4
          clear hWr4
          go_upto_region 9 with fail
          go_wp2_with fail
          with_reducible refine hcl.mono ?_
          clear hcl
          rintro e w5 ⟨v2, rfl, hv2, hb5⟩
          have hs5 := owns_below hs4 hb5
          have he5 := owns_below he4 hb5
          have hbx5 := (hb5.block wr.heap.size hW4).trans hbx
          have hb6 := hb4.trans (hb5.mono hb4.size)
          clear hs4 he4 hbx hb4
          obtain ⟨A2, c2, rfl⟩ := own_zero hv2
          have hs6 := hs5
          clear hs5 hv2 hb5
          have k0 : w5.cell? ⟨wr.heap.size, 0, none⟩ = some (.int .i64 2) := by rw [cell_of_row _ _ _ _ _ _ hbx5]; rfl
          have k1 : w5.cell? ⟨wr.heap.size, 1, none⟩ = some (.string (str t)) := by rw [cell_of_row _ _ _ _ _ _ hbx5]; rfl
          have k2 : w5.cell? ⟨wr.heap.size, 2, none⟩ = some (.int .u32 0) := by rw [cell_of_row _ _ _ _ _ _ hbx5]; rfl
          have HCK := Lib.hid (show Ex.chk ((0 + 1 : Nat) : Int) (f.drop (k + 1)) = 0 by have h := HCK0.out; rwa [HNN.out] at h)
          clear HCK0
          have hs7 := hs6
          have he7 := he5
          have hb7 := hb6
          clear hs6 he5 hb6
          generalize w5 = w7 at *
          obtain ⟨mv, hmv⟩ : ∃ mv, Ex.vval ev.length [] ⟨2, t, 0⟩ = mv := ⟨_, rfl⟩
          have HMV := Lib.hid (hmv.symm.trans (show Ex.vval ev.length [] ⟨2, t, 0⟩ = ((str t).size : Int) % 4294967296 * 2654435761 % 4294967296 by rw [str_size]; rfl))
          have hmr : 0 ≤ mv ∧ mv < 4294967296 := by rw [HMV.out]; omega
          have HME := Lib.hid hmv
          clear hmv
          go_upto_region 29 with fail
          rw [show ((str t).size : Int) % 4294967296 * 2654435761 % 4294967296 = mv from HMV.out.symm]
          have hrow := hs7.lt
          have hVE := Lib.hid (show Ex.vval ev.length [] ⟨2, t, 0⟩ = mv from HME.out)
          have hRG := Lib.hid (show 0 ≤ mv ∧ mv < 4294967296 from hmr)
          go_upto_region 32 with (at_builtin; refine wpList_append_lies _ (by rfl) _ _ 72 (by rfl) w.heap.size 22 i0 _ 1 4 Tryd.underlying72 hi0 hz0 hz1 hz2 rfl (by omega) (.slice none 0 0) (0) _ (by rfl) (hs7.alloc _) ⟨w7.heap.size, 0, none⟩ 1 1 [.int .u32 (mv)] (by rfl) (by rfl) (World.news_of_block (cs := #[_]) (t := 22) (fr := (0, 0)) (heap_alloc_new w7 _)) (by simp [Value.oneCell']) (by omega) (by unfold maxLen; omega) (by omega) (by have := hb7.size; simp; omega) _ rfl ?_; intro gg cap3 w8 hs8 hgrow hat hlt8)
          have hb8 : Below w.heap.size w w8 := grown_own (hb7.alloc hb7.size _) hgrow (fun j hj => (hrow j hj).1)
          have he8 := (he7.alloc (.cells #[.int .u32 (mv)] 22)).kept hgrow (own_ne2 hs7 he7 (by decide))
          rw [show wordsOf sv ++ [.int .u32 (mv)] = wordsOf (sv ++ [mv]) by rw [wordsOf_app]; rfl] at hs8
          have hl8 : (sv ++ [mv]).length = 0 + 1 := by rw [List.length_append, HNN.out]; rfl
          rw [← hl8] at hs8
          have HV8 := Lib.hid (show Ex.vrun (f.take (k + 1)) = (sv ++ [mv], ev) by rw [HN.out, HST.out, hVE.out]; try rfl)
          have hch8 : Ex.chk ((sv ++ [mv]).length : Nat) (f.drop (k + 1)) = 0 := by rw [hl8]; exact HCK.out
          have hsr8 : ∀ x ∈ sv ++ [mv], 0 ≤ x ∧ x < 4294967296 := fun x hx => by
            rcases List.mem_append.1 hx with hx | hx
            · exact hsr x hx
            · simp at hx; subst hx; exact hRG.out
          have hle8 : (sv ++ [mv]).length ≤ k + 1 := by omega
          generalize sv ++ [mv] = S8 at *
          clear hs7 he7 hb7 hgrow hat hrow HN HST HCK hVE hRG
          go_wp2_with fail
          go_roundw
          case rel => exact ⟨k + 1, S8, ev, by omega, by go_num, HV8.out, hch8, hle8, by omega, hsr8, by rw [hl8]; rw [hl8] at hs8; exact hs8, he8, hb8⟩
          case measure => simp [intOf]; omega
        · have hgl : g < wr.heap.size := (Array.getElem?_eq_some_iff.1 hgg).1
          by_cases hcap : cap = sv.length
          · have HST := Lib.hid (show Ex.vstep (sv, ev) ⟨2, t, 0⟩ = (sv ++ [Ex.vval ev.length [] ⟨2, t, 0⟩], ev) from Ex.vstep_zero sv ev _ (by rw [he0]; rfl))
            have HCK0 := Lib.hid (show Ex.chk ((sv.length + 1 : Nat) : Int) (f.drop (k + 1)) = 0 by have h := HC.out.2.2; rw [he0] at h; rw [← h]; first | rfl | (congr 1; simp; done) | (congr 1; simp; omega))
            clear HC he0
            obtain ⟨N, hNe⟩ : ∃ N, sv.length = N := ⟨_, rfl⟩
            rw [hNe] at hs hn1 hsl hcap ⊢
            have HNN := Lib.hid hNe
            clear hNe hgg htk hsz hB
            have hcap2 := hcap.symm
            clear hcap
            subst hcap2
            have q1 : decide ((N : Int) < 0) = false := by simp
            go_upto_region 6 with fail
            have hx0 := heap_alloc_new wr (.cells #[.int .i64 2, .string (str t), .int .u32 0] 44)
            have hWr : Below wr.heap.size wr (wr.alloc (.cells #[.int .i64 2, .string (str t), .int .u32 0] 44)) := (Below.refl _ _).alloc (Nat.le_refl _) _
            have hWs : wr.heap.size < (wr.alloc (.cells #[.int .i64 2, .string (str t), .int .u32 0] 44)).heap.size := by simp
            generalize wr.alloc (.cells #[.int .i64 2, .string (str t), .int .u32 0] 44) = W at *
            have k2 : (W.alloc (.map #[] 0)).cell? ⟨wr.heap.size, 2, none⟩ = some (.int .u32 0) := cell_alloc _ hWs (by rw [cell_of_row _ _ _ _ _ _ hx0]; rfl)
            have hmm := @run_makeMap Tryd.prog
            have hm0 := World.ownsMap_made W Tryd.prog 3 (plainElem (H := Unit) Tryd.prog 3)
            have hB0 : Below W.heap.size W (W.alloc (.map #[] 0)) := (Below.refl _ _).alloc (Nat.le_refl _) _
            go_upto_region 7 with (first | (refine wpList_insert_own _ rfl _ _ _ 73 rfl 3 3 kInt Tryd.underlying73 (plainElem (H := Unit) Tryd.prog 3) W.heap.size 3 _ rfl hm3 (by unfold maxLen; omega) _ _ _ rfl rfl (keyOf_int_mk Tryd.underlying3 (by decide)) _ [] (plainElem_int Tryd.underlying3 (by decide)) ?_; intro w4 hm4 hg4; have hB4 : Below W.heap.size W w4 := hB3.grown hg4 hB3.size (fun j hj => by cases hj; exact Nat.le_refl _); have kk0 : w4.cell? ⟨wr.heap.size, 0, none⟩ = some (.int .i64 2) := (hB4.cell (p := ⟨wr.heap.size, 0, none⟩) hWs).trans (by rw [cell_of_row _ _ _ _ _ _ hx0]; rfl)) | (refine wpList_insert_own _ rfl _ _ _ 73 rfl 3 3 kInt Tryd.underlying73 (plainElem (H := Unit) Tryd.prog 3) W.heap.size 2 _ rfl hm2 (by unfold maxLen; omega) _ _ _ rfl rfl (keyOf_int_mk Tryd.underlying3 (by decide)) _ [] (plainElem_int Tryd.underlying3 (by decide)) ?_; intro w3 hm3 hg3; have hB3 : Below W.heap.size W w3 := hB2.grown hg3 hB2.size (fun j hj => by cases hj; exact Nat.le_refl _)) | (refine wpList_insert_own _ rfl _ _ _ 73 rfl 3 3 kInt Tryd.underlying73 (plainElem (H := Unit) Tryd.prog 3) W.heap.size 1 _ rfl hm1 (by unfold maxLen; omega) _ _ _ rfl rfl (keyOf_int_mk Tryd.underlying3 (by decide)) _ [] (plainElem_int Tryd.underlying3 (by decide)) ?_; intro w2 hm2 hg2; have hB2 : Below W.heap.size W w2 := hB1.grown hg2 hB1.size (fun j hj => by cases hj; exact Nat.le_refl _)) | (refine wpList_insert_own _ rfl _ _ _ 73 rfl 3 3 kInt Tryd.underlying73 (plainElem (H := Unit) Tryd.prog 3) W.heap.size 0 _ rfl hm0 (by unfold maxLen; omega) _ _ _ rfl rfl (keyOf_int_mk Tryd.underlying3 (by decide)) _ [] (plainElem_int Tryd.underlying3 (WalkArith.wf_i64 (by omega))) ?_; intro w1 hm1 hg1; have hB1 : Below W.heap.size W w1 := hB0.grown hg1 hB0.size (fun j hj => by cases hj; exact Nat.le_refl _)) | (refine wpList_lookup_own_int _ rfl _ _ 73 rfl 3 3 .i64 kInt Tryd.underlying73 Tryd.underlying3 (zInt _) W.heap.size 4 _ rfl hm4 _ _ rfl (keyOf_int_mk Tryd.underlying3 (by decide)) ?_; intro cc hat hwc))
            obtain rfl := tab_2 _ _ hat
            have hbx := (hB4.block wr.heap.size hWs).trans hx0
            have hWr4 : Below wr.heap.size wr w4 := hWr.trans (hB4.mono hWr.size)
            have hs4 := owns_below hs hWr4
            have he4 := owns_below he hWr4
            have hb4 := hb.trans (hWr4.mono hb.size)
            have hW4 : wr.heap.size < w4.heap.size := Nat.lt_of_lt_of_le hWs hB4.size
            clear hm0 hm1 hm2 hm3 hm4 hg1 hg2 hg3 hg4 hB0 hB1 hB2 hB3 hB4 hat hwc kk0 k2 hmm hx0 hWr hs he hWs
            have hcl := fun a c => clone_zero a c w4
            clear hWr4
            go_upto_region 9 with fail
            go_wp2_with fail
            with_reducible refine (hcl _ _).mono ?_
            clear hcl
            rintro e w5 ⟨v2, rfl, hv2, hb5⟩
            have hs5 := owns_below hs4 hb5
            have he5 := owns_below he4 hb5
            have hbx5 := (hb5.block wr.heap.size hW4).trans hbx
            have hb6 := hb4.trans (hb5.mono hb4.size)
            clear hs4 he4 hbx hb4
            obtain ⟨A2, c2, rfl⟩ := own_zero hv2
            have hs6 := hs5
            clear hs5 hv2 hb5
            have k0 : w5.cell? ⟨wr.heap.size, 0, none⟩ = some (.int .i64 2) := by rw [cell_of_row _ _ _ _ _ _ hbx5]; rfl
            have k1 : w5.cell? ⟨wr.heap.size, 1, none⟩ = some (.string (str t)) := by rw [cell_of_row _ _ _ _ _ _ hbx5]; rfl
            have k2 : w5.cell? ⟨wr.heap.size, 2, none⟩ = some (.int .u32 0) := by rw [cell_of_row _ _ _ _ _ _ hbx5]; rfl
            have HCK := Lib.hid (show Ex.chk ((N + 1 : Nat) : Int) (f.drop (k + 1)) = 0 by have h := HCK0.out; rwa [HNN.out] at h)
            clear HCK0
            have hs7 := hs6
            have he7 := he5
            have hb7 := hb6
            clear hs6 he5 hb6
            generalize w5 = w7 at *
            obtain ⟨mv, hmv⟩ : ∃ mv, Ex.vval ev.length [] ⟨2, t, 0⟩ = mv := ⟨_, rfl⟩
            have HMV := Lib.hid (hmv.symm.trans (show Ex.vval ev.length [] ⟨2, t, 0⟩ = ((str t).size : Int) % 4294967296 * 2654435761 % 4294967296 by rw [str_size]; rfl))
            have hmr : 0 ≤ mv ∧ mv < 4294967296 := by rw [HMV.out]; omega
            have HME := Lib.hid hmv
            clear hmv
            go_upto_region 29 with fail
            rw [show ((str t).size : Int) % 4294967296 * 2654435761 % 4294967296 = mv from HMV.out.symm]
            have hrow := hs7.lt
            have hVE := Lib.hid (show Ex.vval ev.length [] ⟨2, t, 0⟩ = mv from HME.out)
            have hRG := Lib.hid (show 0 ≤ mv ∧ mv < 4294967296 from hmr)
            go_upto_region 32 with (at_builtin; refine wpList_append_lies _ (by rfl) _ _ 72 (by rfl) w.heap.size 22 i0 _ 1 4 Tryd.underlying72 hi0 hz0 hz1 hz2 rfl (by omega) (.slice (some ⟨g, 0, none⟩) N N) (N) _ (by rfl) (hs7.alloc _) ⟨w7.heap.size, 0, none⟩ 1 1 [.int .u32 (mv)] (by rfl) (by rfl) (World.news_of_block (cs := #[_]) (t := 22) (fr := (0, 0)) (heap_alloc_new w7 _)) (by simp [Value.oneCell']) (by omega) (by unfold maxLen; omega) (by omega) (by have := hb7.size; simp; omega) _ rfl ?_; intro gg cap3 w8 hs8 hgrow hat hlt8)
            have hb8 : Below w.heap.size w w8 := grown_own (hb7.alloc hb7.size _) hgrow (fun j hj => (hrow j hj).1)
            have he8 := (he7.alloc (.cells #[.int .u32 (mv)] 22)).kept hgrow (own_ne2 hs7 he7 (by decide))
            rw [show wordsOf sv ++ [.int .u32 (mv)] = wordsOf (sv ++ [mv]) by rw [wordsOf_app]; rfl] at hs8
            have hl8 : (sv ++ [mv]).length = N + 1 := by rw [List.length_append, HNN.out]; rfl
            rw [← hl8] at hs8
            have HV8 := Lib.hid (show Ex.vrun (f.take (k + 1)) = (sv ++ [mv], ev) by rw [HN.out, HST.out, hVE.out]; try rfl)
            have hch8 : Ex.chk ((sv ++ [mv]).length : Nat) (f.drop (k + 1)) = 0 := by rw [hl8]; exact HCK.out
            have hsr8 : ∀ x ∈ sv ++ [mv], 0 ≤ x ∧ x < 4294967296 := fun x hx => by
              rcases List.mem_append.1 hx with hx | hx
              · exact hsr x hx
              · simp at hx; subst hx; exact hRG.out
            have hle8 : (sv ++ [mv]).length ≤ k + 1 := by omega
            generalize sv ++ [mv] = S8 at *
            clear hs7 he7 hb7 hgrow hat hrow HN HST HCK hVE hRG
            go_wp2_with fail
            go_roundw
            case rel => exact ⟨k + 1, S8, ev, by omega, by go_num, HV8.out, hch8, hle8, by omega, hsr8, by rw [hl8]; rw [hl8] at hs8; exact hs8, he8, hb8⟩
            case measure => simp [intOf]; omega
          · have HST := Lib.hid (show Ex.vstep (sv, ev) ⟨2, t, 0⟩ = (sv ++ [Ex.vval ev.length [] ⟨2, t, 0⟩], ev) from Ex.vstep_zero sv ev _ (by rw [he0]; rfl))
            have HCK0 := Lib.hid (show Ex.chk ((sv.length + 1 : Nat) : Int) (f.drop (k + 1)) = 0 by have h := HC.out.2.2; rw [he0] at h; rw [← h]; first | rfl | (congr 1; simp; done) | (congr 1; simp; omega))
            clear HC he0
            obtain ⟨N, hNe⟩ : ∃ N, sv.length = N := ⟨_, rfl⟩
            rw [hNe] at hs hn1 hsl hcap ⊢
            have HNN := Lib.hid hNe
            clear hNe hgg htk hsz hB
            have q1 : decide ((N : Int) < 0) = false := by simp
            go_upto_region 6 with fail
            have hx0 := heap_alloc_new wr (.cells #[.int .i64 2, .string (str t), .int .u32 0] 44)
            have hWr : Below wr.heap.size wr (wr.alloc (.cells #[.int .i64 2, .string (str t), .int .u32 0] 44)) := (Below.refl _ _).alloc (Nat.le_refl _) _
            have hWs : wr.heap.size < (wr.alloc (.cells #[.int .i64 2, .string (str t), .int .u32 0] 44)).heap.size := by simp
            generalize wr.alloc (.cells #[.int .i64 2, .string (str t), .int .u32 0] 44) = W at *
            have k2 : (W.alloc (.map #[] 0)).cell? ⟨wr.heap.size, 2, none⟩ = some (.int .u32 0) := cell_alloc _ hWs (by rw [cell_of_row _ _ _ _ _ _ hx0]; rfl)
            have hmm := @run_makeMap Tryd.prog
            have hm0 := World.ownsMap_made W Tryd.prog 3 (plainElem (H := Unit) Tryd.prog 3)
            have hB0 : Below W.heap.size W (W.alloc (.map #[] 0)) := (Below.refl _ _).alloc (Nat.le_refl _) _
            go_upto_region 7 with (first | (refine wpList_insert_own _ rfl _ _ _ 73 rfl 3 3 kInt Tryd.underlying73 (plainElem (H := Unit) Tryd.prog 3) W.heap.size 3 _ rfl hm3 (by unfold maxLen; omega) _ _ _ rfl rfl (keyOf_int_mk Tryd.underlying3 (by decide)) _ [] (plainElem_int Tryd.underlying3 (by decide)) ?_; intro w4 hm4 hg4; have hB4 : Below W.heap.size W w4 := hB3.grown hg4 hB3.size (fun j hj => by cases hj; exact Nat.le_refl _); have kk0 : w4.cell? ⟨wr.heap.size, 0, none⟩ = some (.int .i64 2) := (hB4.cell (p := ⟨wr.heap.size, 0, none⟩) hWs).trans (by rw [cell_of_row _ _ _ _ _ _ hx0]; rfl)) | (refine wpList_insert_own _ rfl _ _ _ 73 rfl 3 3 kInt Tryd.underlying73 (plainElem (H := Unit) Tryd.prog 3) W.heap.size 2 _ rfl hm2 (by unfold maxLen; omega) _ _ _ rfl rfl (keyOf_int_mk Tryd.underlying3 (by decide)) _ [] (plainElem_int Tryd.underlying3 (by decide)) ?_; intro w3 hm3 hg3; have hB3 : Below W.heap.size W w3 := hB2.grown hg3 hB2.size (fun j hj => by cases hj; exact Nat.le_refl _)) | (refine wpList_insert_own _ rfl _ _ _ 73 rfl 3 3 kInt Tryd.underlying73 (plainElem (H := Unit) Tryd.prog 3) W.heap.size 1 _ rfl hm1 (by unfold maxLen; omega) _ _ _ rfl rfl (keyOf_int_mk Tryd.underlying3 (by decide)) _ [] (plainElem_int Tryd.underlying3 (by decide)) ?_; intro w2 hm2 hg2; have hB2 : Below W.heap.size W w2 := hB1.grown hg2 hB1.size (fun j hj => by cases hj; exact Nat.le_refl _)) | (refine wpList_insert_own _ rfl _ _ _ 73 rfl 3 3 kInt Tryd.underlying73 (plainElem (H := Unit) Tryd.prog 3) W.heap.size 0 _ rfl hm0 (by unfold maxLen; omega) _ _ _ rfl rfl (keyOf_int_mk Tryd.underlying3 (by decide)) _ [] (plainElem_int Tryd.underlying3 (WalkArith.wf_i64 (by omega))) ?_; intro w1 hm1 hg1; have hB1 : Below W.heap.size W w1 := hB0.grown hg1 hB0.size (fun j hj => by cases hj; exact Nat.le_refl _)) | (refine wpList_lookup_own_int _ rfl _ _ 73 rfl 3 3 .i64 kInt Tryd.underlying73 Tryd.underlying3 (zInt _) W.heap.size 4 _ rfl hm4 _ _ rfl (keyOf_int_mk Tryd.underlying3 (by decide)) ?_; intro cc hat hwc))
            obtain rfl := tab_2 _ _ hat
            have hbx := (hB4.block wr.heap.size hWs).trans hx0
            have hWr4 : Below wr.heap.size wr w4 := hWr.trans (hB4.mono hWr.size)
            have hs4 := owns_below hs hWr4
            have he4 := owns_below he hWr4
            have hb4 := hb.trans (hWr4.mono hb.size)
            have hW4 : wr.heap.size < w4.heap.size := Nat.lt_of_lt_of_le hWs hB4.size
            clear hm0 hm1 hm2 hm3 hm4 hg1 hg2 hg3 hg4 hB0 hB1 hB2 hB3 hB4 hat hwc kk0 k2 hmm hx0 hWr hs he hWs
            have hcl := fun a c => clone_zero a c w4
            clear hWr4
            go_upto_region 9 with fail
            go_wp2_with fail
            with_reducible refine (hcl _ _).mono ?_
            clear hcl
            rintro e w5 ⟨v2, rfl, hv2, hb5⟩
            have hs5 := owns_below hs4 hb5
            have he5 := owns_below he4 hb5
            have hbx5 := (hb5.block wr.heap.size hW4).trans hbx
            have hb6 := hb4.trans (hb5.mono hb4.size)
            clear hs4 he4 hbx hb4
            obtain ⟨A2, c2, rfl⟩ := own_zero hv2
            have hs6 := hs5
            clear hs5 hv2 hb5
            have k0 : w5.cell? ⟨wr.heap.size, 0, none⟩ = some (.int .i64 2) := by rw [cell_of_row _ _ _ _ _ _ hbx5]; rfl
            have k1 : w5.cell? ⟨wr.heap.size, 1, none⟩ = some (.string (str t)) := by rw [cell_of_row _ _ _ _ _ _ hbx5]; rfl
            have k2 : w5.cell? ⟨wr.heap.size, 2, none⟩ = some (.int .u32 0) := by rw [cell_of_row _ _ _ _ _ _ hbx5]; rfl
            have HCK := Lib.hid (show Ex.chk ((N + 1 : Nat) : Int) (f.drop (k + 1)) = 0 by have h := HCK0.out; rwa [HNN.out] at h)
            clear HCK0
            have hs7 := hs6
            have he7 := he5
            have hb7 := hb6
            clear hs6 he5 hb6
            generalize w5 = w7 at *
            obtain ⟨mv, hmv⟩ : ∃ mv, Ex.vval ev.length [] ⟨2, t, 0⟩ = mv := ⟨_, rfl⟩
            have HMV := Lib.hid (hmv.symm.trans (show Ex.vval ev.length [] ⟨2, t, 0⟩ = ((str t).size : Int) % 4294967296 * 2654435761 % 4294967296 by rw [str_size]; rfl))
            have hmr : 0 ≤ mv ∧ mv < 4294967296 := by rw [HMV.out]; omega
            have HME := Lib.hid hmv
            clear hmv
            go_upto_region 29 with fail
            rw [show ((str t).size : Int) % 4294967296 * 2654435761 % 4294967296 = mv from HMV.out.symm]
            have hrow := hs7.lt
            have hVE := Lib.hid (show Ex.vval ev.length [] ⟨2, t, 0⟩ = mv from HME.out)
            have hRG := Lib.hid (show 0 ≤ mv ∧ mv < 4294967296 from hmr)
            go_upto_region 32 with (at_builtin; refine wpList_append_lies _ (by rfl) _ _ 72 (by rfl) w.heap.size 22 i0 _ 1 4 Tryd.underlying72 hi0 hz0 hz1 hz2 rfl (by omega) (.slice (some ⟨g, 0, none⟩) N cap) (N) _ (by rfl) (hs7.alloc _) ⟨w7.heap.size, 0, none⟩ 1 1 [.int .u32 (mv)] (by rfl) (by rfl) (World.news_of_block (cs := #[_]) (t := 22) (fr := (0, 0)) (heap_alloc_new w7 _)) (by simp [Value.oneCell']) (by omega) (by unfold maxLen; omega) (by omega) (by have := hb7.size; simp; omega) _ rfl ?_; intro gg cap3 w8 hs8 hgrow hat hlt8)
            have hb8 : Below w.heap.size w w8 := grown_own (hb7.alloc hb7.size _) hgrow (fun j hj => (hrow j hj).1)
            have he8 := (he7.alloc (.cells #[.int .u32 (mv)] 22)).kept hgrow (own_ne2 hs7 he7 (by decide))
            rw [show wordsOf sv ++ [.int .u32 (mv)] = wordsOf (sv ++ [mv]) by rw [wordsOf_app]; rfl] at hs8
            have hl8 : (sv ++ [mv]).length = N + 1 := by rw [List.length_append, HNN.out]; rfl
            rw [← hl8] at hs8
            have HV8 := Lib.hid (show Ex.vrun (f.take (k + 1)) = (sv ++ [mv], ev) by rw [HN.out, HST.out, hVE.out]; try rfl)
            have hch8 : Ex.chk ((sv ++ [mv]).length : Nat) (f.drop (k + 1)) = 0 := by rw [hl8]; exact HCK.out
            have hsr8 : ∀ x ∈ sv ++ [mv], 0 ≤ x ∧ x < 4294967296 := fun x hx => by
              rcases List.mem_append.1 hx with hx | hx
              · exact hsr x hx
              · simp at hx; subst hx; exact hRG.out
            have hle8 : (sv ++ [mv]).length ≤ k + 1 := by omega
            generalize sv ++ [mv] = S8 at *
            clear hs7 he7 hb7 hgrow hat hrow HN HST HCK hVE hRG
            go_wp2_with fail
            go_roundw
            case rel => exact ⟨k + 1, S8, ev, by omega, by go_num, HV8.out, hch8, hle8, by omega, hsr8, by rw [hl8]; rw [hl8] at hs8; exact hs8, he8, hb8⟩
            case measure => simp [intOf]; omega
      · dsimp only at hLo hd0 hd1 hd2
        clear ht
        obtain ⟨m, rfl⟩ : ∃ m : Nat, n = m := ⟨n.toNat, by omega⟩
        by_cases hm0 : m = 0
        · subst hm0
          rw [show ((0 : Nat) : Int) = 0 from rfl] at *
          rcases hs.2 with ⟨rfl, hz⟩ | ⟨g, cap, cur, rfl, hB, hgg, hn1, hn2, hsz, htk⟩
          · have HST := Lib.hid (show Ex.vstep (sv, ev) ⟨3, t, 0⟩ = (sv ++ [Ex.vval ev.length [] ⟨3, t, 0⟩], ev ++ [⟨3, t, Ex.vval ev.length [] ⟨3, t, 0⟩⟩]) from Ex.vstep_zero sv ev _ (by rw [he0]; rfl))
            have HCK0 := Lib.hid (show Ex.chk ((sv.length + 1 : Nat) : Int) (f.drop (k + 1)) = 0 by have h := HC.out.2.2; rw [he0] at h; rw [← h]; first | rfl | (congr 1; simp; done) | (congr 1; simp; omega))
            clear HC he0
            obtain ⟨Ae, ce, rfl, _, _, _⟩ := owns_ops he
            rw [hz] at hs hsl
            have HNN := Lib.hid hz
            clear hz
            have q1 : decide ((0 : Int) < 0) = false := by simp
            go_upto_region 6 with fail
            have hx0 := heap_alloc_new wr (.cells #[.int .i64 3, .string (str t), .int .u32 0] 44)
            have hWr : Below wr.heap.size wr (wr.alloc (.cells #[.int .i64 3, .string (str t), .int .u32 0] 44)) := (Below.refl _ _).alloc (Nat.le_refl _) _
            have hWs : wr.heap.size < (wr.alloc (.cells #[.int .i64 3, .string (str t), .int .u32 0] 44)).heap.size := by simp
            generalize wr.alloc (.cells #[.int .i64 3, .string (str t), .int .u32 0] 44) = W at *
            have k2 : (W.alloc (.map #[] 0)).cell? ⟨wr.heap.size, 2, none⟩ = some (.int .u32 0) := cell_alloc _ hWs (by rw [cell_of_row _ _ _ _ _ _ hx0]; rfl)
            have hmm := @run_makeMap Tryd.prog
            have hm0 := World.ownsMap_made W Tryd.prog 3 (plainElem (H := Unit) Tryd.prog 3)
            have hB0 : Below W.heap.size W (W.alloc (.map #[] 0)) := (Below.refl _ _).alloc (Nat.le_refl _) _
            go_upto_region 7 with (first | (refine wpList_insert_own _ rfl _ _ _ 73 rfl 3 3 kInt Tryd.underlying73 (plainElem (H := Unit) Tryd.prog 3) W.heap.size 3 _ rfl hm3 (by unfold maxLen; omega) _ _ _ rfl rfl (keyOf_int_mk Tryd.underlying3 (by decide)) _ [] (plainElem_int Tryd.underlying3 (by decide)) ?_; intro w4 hm4 hg4; have hB4 : Below W.heap.size W w4 := hB3.grown hg4 hB3.size (fun j hj => by cases hj; exact Nat.le_refl _); have kk0 : w4.cell? ⟨wr.heap.size, 0, none⟩ = some (.int .i64 3) := (hB4.cell (p := ⟨wr.heap.size, 0, none⟩) hWs).trans (by rw [cell_of_row _ _ _ _ _ _ hx0]; rfl)) | (refine wpList_insert_own _ rfl _ _ _ 73 rfl 3 3 kInt Tryd.underlying73 (plainElem (H := Unit) Tryd.prog 3) W.heap.size 2 _ rfl hm2 (by unfold maxLen; omega) _ _ _ rfl rfl (keyOf_int_mk Tryd.underlying3 (by decide)) _ [] (plainElem_int Tryd.underlying3 (by decide)) ?_; intro w3 hm3 hg3; have hB3 : Below W.heap.size W w3 := hB2.grown hg3 hB2.size (fun j hj => by cases hj; exact Nat.le_refl _)) | (refine wpList_insert_own _ rfl _ _ _ 73 rfl 3 3 kInt Tryd.underlying73 (plainElem (H := Unit) Tryd.prog 3) W.heap.size 1 _ rfl hm1 (by unfold maxLen; omega) _ _ _ rfl rfl (keyOf_int_mk Tryd.underlying3 (by decide)) _ [] (plainElem_int Tryd.underlying3 (by decide)) ?_; intro w2 hm2 hg2; have hB2 : Below W.heap.size W w2 := hB1.grown hg2 hB1.size (fun j hj => by cases hj; exact Nat.le_refl _)) | (refine wpList_insert_own _ rfl _ _ _ 73 rfl 3 3 kInt Tryd.underlying73 (plainElem (H := Unit) Tryd.prog 3) W.heap.size 0 _ rfl hm0 (by unfold maxLen; omega) _ _ _ rfl rfl (keyOf_int_mk Tryd.underlying3 (by decide)) _ [] (plainElem_int Tryd.underlying3 (WalkArith.wf_i64 (by omega))) ?_; intro w1 hm1 hg1; have hB1 : Below W.heap.size W w1 := hB0.grown hg1 hB0.size (fun j hj => by cases hj; exact Nat.le_refl _)) | (refine wpList_lookup_own_int _ rfl _ _ 73 rfl 3 3 .i64 kInt Tryd.underlying73 Tryd.underlying3 (zInt _) W.heap.size 4 _ rfl hm4 _ _ rfl (keyOf_int_mk Tryd.underlying3 (by decide)) ?_; intro cc hat hwc))
            obtain rfl := tab_3 _ _ hat
            have hbx := (hB4.block wr.heap.size hWs).trans hx0
            have hWr4 : Below wr.heap.size wr w4 := hWr.trans (hB4.mono hWr.size)
            have hs4 := owns_below hs hWr4
            have he4 := owns_below he hWr4
            have hb4 := hb.trans (hWr4.mono hb.size)
            have hW4 : wr.heap.size < w4.heap.size := Nat.lt_of_lt_of_le hWs hB4.size
            clear hm0 hm1 hm2 hm3 hm4 hg1 hg2 hg3 hg4 hB0 hB1 hB2 hB3 hB4 hat hwc kk0 k2 hmm hx0 hWr hs he hWs
            have hcl := clone_nil w4
            clear hWr4
            go_upto_region 9 with fail
            go_wp2_with fail
            with_reducible refine hcl.mono ?_
            clear hcl
            rintro e w5 ⟨v2, rfl, hv2, hb5⟩
            have hs5 := owns_below hs4 hb5
            have he5 := owns_below he4 hb5
            have hbx5 := (hb5.block wr.heap.size hW4).trans hbx
            have hb6 := hb4.trans (hb5.mono hb4.size)
            clear hs4 he4 hbx hb4
            obtain ⟨A2, c2, rfl⟩ := own_zero hv2
            have hs6 := hs5
            clear hs5 hv2 hb5
            have k0 : w5.cell? ⟨wr.heap.size, 0, none⟩ = some (.int .i64 3) := by rw [cell_of_row _ _ _ _ _ _ hbx5]; rfl
            have k1 : w5.cell? ⟨wr.heap.size, 1, none⟩ = some (.string (str t)) := by rw [cell_of_row _ _ _ _ _ _ hbx5]; rfl
            have k2 : w5.cell? ⟨wr.heap.size, 2, none⟩ = some (.int .u32 0) := by rw [cell_of_row _ _ _ _ _ _ hbx5]; rfl
            have HCK := Lib.hid (show Ex.chk ((0 + 1 : Nat) : Int) (f.drop (k + 1)) = 0 by have h := HCK0.out; rwa [HNN.out] at h)
            clear HCK0
            have hmr := mix_lt ev.length []
            go_upto_region 19 with fail
            go_wp2_with fail
            go_loopw [11, 67] (fun v j wq => j = .int .i64 0 ∧ v = .int .u32 (((ev.length : Int) % 4294967296 * 40503) % 4294967296) ∧ wq = w5) (fun _ _ _ => 0)
            case atStart => exact ⟨rfl, by first | rfl | (simp; done) | (simp; omega), rfl⟩
            case round =>
              obtain ⟨rfl, rfl, hw⟩ := hrel
              have hw2 := hw.symm
              clear hw
              subst hw2
              rw [show (((ev.length : Int) % 4294967296 * 40503) % 4294967296) = Ex.mixV ev.length [] from rfl]
              obtain ⟨mv, hmv⟩ : ∃ mv, Ex.mixV ev.length [] = mv := ⟨_, rfl⟩
              have HMX := Lib.hid hmv
              rw [hmv] at hmr ⊢
              clear hmv
              obtain ⟨j0, hj0, hj1, hj2, hj3⟩ := info_parts infoO
              have hrowe := he5.lt
              have HMV := Lib.hid (show Ex.vval ev.length [] ⟨3, t, 0⟩ = mv from HMX.out)
              go_upto_region 29 with (at_builtin; refine wpList_append_lies _ (by rfl) _ _ 28 (by rfl) w.heap.size 44 j0 _ 3 32 Tryd.underlying28 hj0 hj1 hj2 hj3 rfl (by omega) _ ev.length _ (by rfl) (he5.alloc _) ⟨w5.heap.size, 0, none⟩ 1 1 [_, _, _] (by rfl) (by rfl) (World.news_of_block (cs := #[_, _, _]) (t := 44) (fr := (0, 0)) (heap_alloc_new w5 _)) (by simp [Value.oneCell']) (by omega) (by unfold maxLen; omega) (by omega) (by have := hb6.size; simp; omega) (w5.heap.size + 1) (by simp) ?_; intro ge cape w7 he7 hgrowe hate hlte)
              have hb7 : Below w.heap.size w w7 := grown_own (hb6.alloc hb6.size _) hgrowe (fun j hj => (hrowe j hj).1)
              have hs7 := (hs6.alloc (.cells #[.int .i64 3, .string (str t), .int .u32 mv] 44)).kept hgrowe (own_ne2 he5 hs6 (by decide))
              rw [show opsOf ev ++ [.int .i64 3, .string (str t), .int .u32 mv] = opsOf (ev ++ [⟨3, t, mv⟩]) from opsOf_snoc _ ⟨3, t, mv⟩] at he7
              have hle9 : (ev ++ [(⟨3, t, mv⟩ : Ex.Op)]).length = ev.length + 1 := by simp
              rw [← hle9] at he7
              clear hs6 he5 hb6 hgrowe hate hrowe k0 k1 k2 hbx5
              have hrow := hs7.lt
              have hVE := Lib.hid (show Ex.vval ev.length [] ⟨3, t, 0⟩ = mv from HMV.out)
              have hRG := Lib.hid (show 0 ≤ mv ∧ mv < 4294967296 from hmr)
              go_upto_region 32 with (at_builtin; refine wpList_append_lies _ (by rfl) _ _ 72 (by rfl) w.heap.size 22 i0 _ 1 4 Tryd.underlying72 hi0 hz0 hz1 hz2 rfl (by omega) (.slice none 0 0) (0) _ (by rfl) (hs7.alloc _) ⟨w7.heap.size, 0, none⟩ 1 1 [.int .u32 (mv)] (by rfl) (by rfl) (World.news_of_block (cs := #[_]) (t := 22) (fr := (0, 0)) (heap_alloc_new w7 _)) (by simp [Value.oneCell']) (by omega) (by unfold maxLen; omega) (by omega) (by have := hb7.size; simp; omega) _ rfl ?_; intro gg cap3 w8 hs8 hgrow hat hlt8)
              have hb8 : Below w.heap.size w w8 := grown_own (hb7.alloc hb7.size _) hgrow (fun j hj => (hrow j hj).1)
              have he8 := (he7.alloc (.cells #[.int .u32 (mv)] 22)).kept hgrow (own_ne2 hs7 he7 (by decide))
              rw [show wordsOf sv ++ [.int .u32 (mv)] = wordsOf (sv ++ [mv]) by rw [wordsOf_app]; rfl] at hs8
              have hl8 : (sv ++ [mv]).length = 0 + 1 := by rw [List.length_append, HNN.out]; rfl
              rw [← hl8] at hs8
              have HV8 := Lib.hid (show Ex.vrun (f.take (k + 1)) = (sv ++ [mv], (ev ++ [(⟨3, t, mv⟩ : Ex.Op)])) by rw [HN.out, HST.out, hVE.out]; try rfl)
              have hch8 : Ex.chk ((sv ++ [mv]).length : Nat) (f.drop (k + 1)) = 0 := by rw [hl8]; exact HCK.out
              have hsr8 : ∀ x ∈ sv ++ [mv], 0 ≤ x ∧ x < 4294967296 := fun x hx => by
                rcases List.mem_append.1 hx with hx | hx
                · exact hsr x hx
                · simp at hx; subst hx; exact hRG.out
              have hle8 : (sv ++ [mv]).length ≤ k + 1 := by omega
              generalize sv ++ [mv] = S8 at *
              clear hs7 he7 hb7 hgrow hat hrow HN HST HCK hVE hRG
              go_wp2_with fail
              go_roundw
              case rel => exact ⟨k + 1, S8, (ev ++ [(⟨3, t, mv⟩ : Ex.Op)]), by omega, by go_num, HV8.out, hch8, hle8, by rw [hle9]; omega, hsr8, by rw [hl8]; rw [hl8] at hs8; exact hs8, (by rw [hle9] at he8; rw [hle9]; exact he8), hb8⟩
              case measure => simp [intOf]; omega
          · have hgl : g < wr.heap.size := (Array.getElem?_eq_some_iff.1 hgg).1
            by_cases hcap : cap = sv.length
            · have HST := Lib.hid (show Ex.vstep (sv, ev) ⟨3, t, 0⟩ = (sv ++ [Ex.vval ev.length [] ⟨3, t, 0⟩], ev ++ [⟨3, t, Ex.vval ev.length [] ⟨3, t, 0⟩⟩]) from Ex.vstep_zero sv ev _ (by rw [he0]; rfl))
              have HCK0 := Lib.hid (show Ex.chk ((sv.length + 1 : Nat) : Int) (f.drop (k + 1)) = 0 by have h := HC.out.2.2; rw [he0] at h; rw [← h]; first | rfl | (congr 1; simp; done) | (congr 1; simp; omega))
              clear HC he0
              obtain ⟨Ae, ce, rfl, _, _, _⟩ := owns_ops he
              obtain ⟨N, hNe⟩ : ∃ N, sv.length = N := ⟨_, rfl⟩
              rw [hNe] at hs hn1 hsl hcap ⊢
              have HNN := Lib.hid hNe
              clear hNe hgg htk hsz hB
              have hcap2 := hcap.symm
              clear hcap
              subst hcap2
              have q1 : decide ((N : Int) < 0) = false := by simp
              go_upto_region 6 with fail
              have hx0 := heap_alloc_new wr (.cells #[.int .i64 3, .string (str t), .int .u32 0] 44)
              have hWr : Below wr.heap.size wr (wr.alloc (.cells #[.int .i64 3, .string (str t), .int .u32 0] 44)) := (Below.refl _ _).alloc (Nat.le_refl _) _
              have hWs : wr.heap.size < (wr.alloc (.cells #[.int .i64 3, .string (str t), .int .u32 0] 44)).heap.size := by simp
              generalize wr.alloc (.cells #[.int .i64 3, .string (str t), .int .u32 0] 44) = W at *
              have k2 : (W.alloc (.map #[] 0)).cell? ⟨wr.heap.size, 2, none⟩ = some (.int .u32 0) := cell_alloc _ hWs (by rw [cell_of_row _ _ _ _ _ _ hx0]; rfl)
              have hmm := @run_makeMap Tryd.prog
              have hm0 := World.ownsMap_made W Tryd.prog 3 (plainElem (H := Unit) Tryd.prog 3)
              have hB0 : Below W.heap.size W (W.alloc (.map #[] 0)) := (Below.refl _ _).alloc (Nat.le_refl _) _
              go_upto_region 7 with (first | (refine wpList_insert_own _ rfl _ _ _ 73 rfl 3 3 kInt Tryd.underlying73 (plainElem (H := Unit) Tryd.prog 3) W.heap.size 3 _ rfl hm3 (by unfold maxLen; omega) _ _ _ rfl rfl (keyOf_int_mk Tryd.underlying3 (by decide)) _ [] (plainElem_int Tryd.underlying3 (by decide)) ?_; intro w4 hm4 hg4; have hB4 : Below W.heap.size W w4 := hB3.grown hg4 hB3.size (fun j hj => by cases hj; exact Nat.le_refl _); have kk0 : w4.cell? ⟨wr.heap.size, 0, none⟩ = some (.int .i64 3) := (hB4.cell (p := ⟨wr.heap.size, 0, none⟩) hWs).trans (by rw [cell_of_row _ _ _ _ _ _ hx0]; rfl)) | (refine wpList_insert_own _ rfl _ _ _ 73 rfl 3 3 kInt Tryd.underlying73 (plainElem (H := Unit) Tryd.prog 3) W.heap.size 2 _ rfl hm2 (by unfold maxLen; omega) _ _ _ rfl rfl (keyOf_int_mk Tryd.underlying3 (by decide)) _ [] (plainElem_int Tryd.underlying3 (by decide)) ?_; intro w3 hm3 hg3; have hB3 : Below W.heap.size W w3 := hB2.grown hg3 hB2.size (fun j hj => by cases hj; exact Nat.le_refl _)) | (refine wpList_insert_own _ rfl _ _ _ 73 rfl 3 3 kInt Tryd.underlying73 (plainElem (H := Unit) Tryd.prog 3) W.heap.size 1 _ rfl hm1 (by unfold maxLen; omega) _ _ _ rfl rfl (keyOf_int_mk Tryd.underlying3 (by decide)) _ [] (plainElem_int Tryd.underlying3 (by decide)) ?_; intro w2 hm2 hg2; have hB2 : Below W.heap.size W w2 := hB1.grown hg2 hB1.size (fun j hj => by cases hj; exact Nat.le_refl _)) | (refine wpList_insert_own _ rfl _ _ _ 73 rfl 3 3 kInt Tryd.underlying73 (plainElem (H := Unit) Tryd.prog 3) W.heap.size 0 _ rfl hm0 (by unfold maxLen; omega) _ _ _ rfl rfl (keyOf_int_mk Tryd.underlying3 (by decide)) _ [] (plainElem_int Tryd.underlying3 (WalkArith.wf_i64 (by omega))) ?_; intro w1 hm1 hg1; have hB1 : Below W.heap.size W w1 := hB0.grown hg1 hB0.size (fun j hj => by cases hj; exact Nat.le_refl _)) | (refine wpList_lookup_own_int _ rfl _ _ 73 rfl 3 3 .i64 kInt Tryd.underlying73 Tryd.underlying3 (zInt _) W.heap.size 4 _ rfl hm4 _ _ rfl (keyOf_int_mk Tryd.underlying3 (by decide)) ?_; intro cc hat hwc))
              obtain rfl := tab_3 _ _ hat
              have hbx := (hB4.block wr.heap.size hWs).trans hx0
              have hWr4 : Below wr.heap.size wr w4 := hWr.trans (hB4.mono hWr.size)
              have hs4 := owns_below hs hWr4
              have he4 := owns_below he hWr4
              have hb4 := hb.trans (hWr4.mono hb.size)
              have hW4 : wr.heap.size < w4.heap.size := Nat.lt_of_lt_of_le hWs hB4.size
              clear hm0 hm1 hm2 hm3 hm4 hg1 hg2 hg3 hg4 hB0 hB1 hB2 hB3 hB4 hat hwc kk0 k2 hmm hx0 hWr hs he hWs
              have hcl := fun a c => clone_zero a c w4
              clear hWr4
              go_upto_region 9 with fail
              go_wp2_with fail
              with_reducible refine (hcl _ _).mono ?_
              clear hcl
              rintro e w5 ⟨v2, rfl, hv2, hb5⟩
              have hs5 := owns_below hs4 hb5
              have he5 := owns_below he4 hb5
              have hbx5 := (hb5.block wr.heap.size hW4).trans hbx
              have hb6 := hb4.trans (hb5.mono hb4.size)
              clear hs4 he4 hbx hb4
              obtain ⟨A2, c2, rfl⟩ := own_zero hv2
              have hs6 := hs5
              clear hs5 hv2 hb5
              have k0 : w5.cell? ⟨wr.heap.size, 0, none⟩ = some (.int .i64 3) := by rw [cell_of_row _ _ _ _ _ _ hbx5]; rfl
              have k1 : w5.cell? ⟨wr.heap.size, 1, none⟩ = some (.string (str t)) := by rw [cell_of_row _ _ _ _ _ _ hbx5]; rfl
              have k2 : w5.cell? ⟨wr.heap.size, 2, none⟩ = some (.int .u32 0) := by rw [cell_of_row _ _ _ _ _ _ hbx5]; rfl
              have HCK := Lib.hid (show Ex.chk ((N + 1 : Nat) : Int) (f.drop (k + 1)) = 0 by have h := HCK0.out; rwa [HNN.out] at h)
              clear HCK0
              have hmr := mix_lt ev.length []
              go_upto_region 19 with fail
              go_wp2_with fail
              go_loopw [11, 67] (fun v j wq => j = .int .i64 0 ∧ v = .int .u32 (((ev.length : Int) % 4294967296 * 40503) % 4294967296) ∧ wq = w5) (fun _ _ _ => 0)
              case atStart => exact ⟨rfl, by first | rfl | (simp; done) | (simp; omega), rfl⟩
              case round =>
                obtain ⟨rfl, rfl, hw⟩ := hrel
                have hw2 := hw.symm
                clear hw
                subst hw2
                rw [show (((ev.length : Int) % 4294967296 * 40503) % 4294967296) = Ex.mixV ev.length [] from rfl]
                obtain ⟨mv, hmv⟩ : ∃ mv, Ex.mixV ev.length [] = mv := ⟨_, rfl⟩
                have HMX := Lib.hid hmv
                rw [hmv] at hmr ⊢
                clear hmv
                obtain ⟨j0, hj0, hj1, hj2, hj3⟩ := info_parts infoO
                have hrowe := he5.lt
                have HMV := Lib.hid (show Ex.vval ev.length [] ⟨3, t, 0⟩ = mv from HMX.out)
                go_upto_region 29 with (at_builtin; refine wpList_append_lies _ (by rfl) _ _ 28 (by rfl) w.heap.size 44 j0 _ 3 32 Tryd.underlying28 hj0 hj1 hj2 hj3 rfl (by omega) _ ev.length _ (by rfl) (he5.alloc _) ⟨w5.heap.size, 0, none⟩ 1 1 [_, _, _] (by rfl) (by rfl) (World.news_of_block (cs := #[_, _, _]) (t := 44) (fr := (0, 0)) (heap_alloc_new w5 _)) (by simp [Value.oneCell']) (by omega) (by unfold maxLen; omega) (by omega) (by have := hb6.size; simp; omega) (w5.heap.size + 1) (by simp) ?_; intro ge cape w7 he7 hgrowe hate hlte)
                have hb7 : Below w.heap.size w w7 := grown_own (hb6.alloc hb6.size _) hgrowe (fun j hj => (hrowe j hj).1)
                have hs7 := (hs6.alloc (.cells #[.int .i64 3, .string (str t), .int .u32 mv] 44)).kept hgrowe (own_ne2 he5 hs6 (by decide))
                rw [show opsOf ev ++ [.int .i64 3, .string (str t), .int .u32 mv] = opsOf (ev ++ [⟨3, t, mv⟩]) from opsOf_snoc _ ⟨3, t, mv⟩] at he7
                have hle9 : (ev ++ [(⟨3, t, mv⟩ : Ex.Op)]).length = ev.length + 1 := by simp
                rw [← hle9] at he7
                clear hs6 he5 hb6 hgrowe hate hrowe k0 k1 k2 hbx5
                have hrow := hs7.lt
                have hVE := Lib.hid (show Ex.vval ev.length [] ⟨3, t, 0⟩ = mv from HMV.out)
                have hRG := Lib.hid (show 0 ≤ mv ∧ mv < 4294967296 from hmr)
                go_upto_region 32 with (at_builtin; refine wpList_append_lies _ (by rfl) _ _ 72 (by rfl) w.heap.size 22 i0 _ 1 4 Tryd.underlying72 hi0 hz0 hz1 hz2 rfl (by omega) (.slice (some ⟨g, 0, none⟩) N N) (N) _ (by rfl) (hs7.alloc _) ⟨w7.heap.size, 0, none⟩ 1 1 [.int .u32 (mv)] (by rfl) (by rfl) (World.news_of_block (cs := #[_]) (t := 22) (fr := (0, 0)) (heap_alloc_new w7 _)) (by simp [Value.oneCell']) (by omega) (by unfold maxLen; omega) (by omega) (by have := hb7.size; simp; omega) _ rfl ?_; intro gg cap3 w8 hs8 hgrow hat hlt8)
                have hb8 : Below w.heap.size w w8 := grown_own (hb7.alloc hb7.size _) hgrow (fun j hj => (hrow j hj).1)
                have he8 := (he7.alloc (.cells #[.int .u32 (mv)] 22)).kept hgrow (own_ne2 hs7 he7 (by decide))
                rw [show wordsOf sv ++ [.int .u32 (mv)] = wordsOf (sv ++ [mv]) by rw [wordsOf_app]; rfl] at hs8
                have hl8 : (sv ++ [mv]).length = N + 1 := by rw [List.length_append, HNN.out]; rfl
                rw [← hl8] at hs8
                have HV8 := Lib.hid (show Ex.vrun (f.take (k + 1)) = (sv ++ [mv], (ev ++ [(⟨3, t, mv⟩ : Ex.Op)])) by rw [HN.out, HST.out, hVE.out]; try rfl)
                have hch8 : Ex.chk ((sv ++ [mv]).length : Nat) (f.drop (k + 1)) = 0 := by rw [hl8]; exact HCK.out
                have hsr8 : ∀ x ∈ sv ++ [mv], 0 ≤ x ∧ x < 4294967296 := fun x hx => by
                  rcases List.mem_append.1 hx with hx | hx
                  · exact hsr x hx
                  · simp at hx; subst hx; exact hRG.out
                have hle8 : (sv ++ [mv]).length ≤ k + 1 := by omega
                generalize sv ++ [mv] = S8 at *
                clear hs7 he7 hb7 hgrow hat hrow HN HST HCK hVE hRG
                go_wp2_with fail
                go_roundw
                case rel => exact ⟨k + 1, S8, (ev ++ [(⟨3, t, mv⟩ : Ex.Op)]), by omega, by go_num, HV8.out, hch8, hle8, by rw [hle9]; omega, hsr8, by rw [hl8]; rw [hl8] at hs8; exact hs8, (by rw [hle9] at he8; rw [hle9]; exact he8), hb8⟩
                case measure => simp [intOf]; omega
            · have HST := Lib.hid (show Ex.vstep (sv, ev) ⟨3, t, 0⟩ = (sv ++ [Ex.vval ev.length [] ⟨3, t, 0⟩], ev ++ [⟨3, t, Ex.vval ev.length [] ⟨3, t, 0⟩⟩]) from Ex.vstep_zero sv ev _ (by rw [he0]; rfl))
              have HCK0 := Lib.hid (show Ex.chk ((sv.length + 1 : Nat) : Int) (f.drop (k + 1)) = 0 by have h := HC.out.2.2; rw [he0] at h; rw [← h]; first | rfl | (congr 1; simp; done) | (congr 1; simp; omega))
              clear HC he0
              obtain ⟨Ae, ce, rfl, _, _, _⟩ := owns_ops he
              obtain ⟨N, hNe⟩ : ∃ N, sv.length = N := ⟨_, rfl⟩
              rw [hNe] at hs hn1 hsl hcap ⊢
              have HNN := Lib.hid hNe
              clear hNe hgg htk hsz hB
              have q1 : decide ((N : Int) < 0) = false := by simp
              go_upto_region 6 with fail
              have hx0 := heap_alloc_new wr (.cells #[.int .i64 3, .string (str t), .int .u32 0] 44)
              have hWr : Below wr.heap.size wr (wr.alloc (.cells #[.int .i64 3, .string (str t), .int .u32 0] 44)) := (Below.refl _ _).alloc (Nat.le_refl _) _
              have hWs : wr.heap.size < (wr.alloc (.cells #[.int .i64 3, .string (str t), .int .u32 0] 44)).heap.size := by simp
              generalize wr.alloc (.cells #[.int .i64 3, .string (str t), .int .u32 0] 44) = W at *
              have k2 : (W.alloc (.map #[] 0)).cell? ⟨wr.heap.size, 2, none⟩ = some (.int .u32 0) := cell_alloc _ hWs (by rw [cell_of_row _ _ _ _ _ _ hx0]; rfl)
              have hmm := @run_makeMap Tryd.prog
              have hm0 := World.ownsMap_made W Tryd.prog 3 (plainElem (H := Unit) Tryd.prog 3)
              have hB0 : Below W.heap.size W (W.alloc (.map #[] 0)) := (Below.refl _ _).alloc (Nat.le_refl _) _
              go_upto_region 7 with (first | (refine wpList_insert_own _ rfl _ _ _ 73 rfl 3 3 kInt Tryd.underlying73 (plainElem (H := Unit) Tryd.prog 3) W.heap.size 3 _ rfl hm3 (by unfold maxLen; omega) _ _ _ rfl rfl (keyOf_int_mk Tryd.underlying3 (by decide)) _ [] (plainElem_int Tryd.underlying3 (by decide)) ?_; intro w4 hm4 hg4; have hB4 : Below W.heap.size W w4 := hB3.grown hg4 hB3.size (fun j hj => by cases hj; exact Nat.le_refl _); have kk0 : w4.cell? ⟨wr.heap.size, 0, none⟩ = some (.int .i64 3) := (hB4.cell (p := ⟨wr.heap.size, 0, none⟩) hWs).trans (by rw [cell_of_row _ _ _ _ _ _ hx0]; rfl)) | (refine wpList_insert_own _ rfl _ _ _ 73 rfl 3 3 kInt Tryd.underlying73 (plainElem (H := Unit) Tryd.prog 3) W.heap.size 2 _ rfl hm2 (by unfold maxLen; omega) _ _ _ rfl rfl (keyOf_int_mk Tryd.underlying3 (by decide)) _ [] (plainElem_int Tryd.underlying3 (by decide)) ?_; intro w3 hm3 hg3; have hB3 : Below W.heap.size W w3 := hB2.grown hg3 hB2.size (fun j hj => by cases hj; exact Nat.le_refl _)) | (refine wpList_insert_own _ rfl _ _ _ 73 rfl 3 3 kInt Tryd.underlying73 (plainElem (H := Unit) Tryd.prog 3) W.heap.size 1 _ rfl hm1 (by unfold maxLen; omega) _ _ _ rfl rfl (keyOf_int_mk Tryd.underlying3 (by decide)) _ [] (plainElem_int Tryd.underlying3 (by decide)) ?_; intro w2 hm2 hg2; have hB2 : Below W.heap.size W w2 := hB1.grown hg2 hB1.size (fun j hj => by cases hj; exact Nat.le_refl _)) | (refine wpList_insert_own _ rfl _ _ _ 73 rfl 3 3 kInt Tryd.underlying73 (plainElem (H := Unit) Tryd.prog 3) W.heap.size 0 _ rfl hm0 (by unfold maxLen; omega) _ _ _ rfl rfl (keyOf_int_mk Tryd.underlying3 (by decide)) _ [] (plainElem_int Tryd.underlying3 (WalkArith.wf_i64 (by omega))) ?_; intro w1 hm1 hg1; have hB1 : Below W.heap.size W w1 := hB0.grown hg1 hB0.size (fun j hj => by cases hj; exact Nat.le_refl _)) | (refine wpList_lookup_own_int _ rfl _ _ 73 rfl 3 3 .i64 kInt Tryd.underlying73 Tryd.underlying3 (zInt _) W.heap.size 4 _ rfl hm4 _ _ rfl (keyOf_int_mk Tryd.underlying3 (by decide)) ?_; intro cc hat hwc))
              obtain rfl := tab_3 _ _ hat
              have hbx := (hB4.block wr.heap.size hWs).trans hx0
              have hWr4 : Below wr.heap.size wr w4 := hWr.trans (hB4.mono hWr.size)
              have hs4 := owns_below hs hWr4
              have he4 := owns_below he hWr4
              have hb4 := hb.trans (hWr4.mono hb.size)
              have hW4 : wr.heap.size < w4.heap.size := Nat.lt_of_lt_of_le hWs hB4.size
              clear hm0 hm1 hm2 hm3 hm4 hg1 hg2 hg3 hg4 hB0 hB1 hB2 hB3 hB4 hat hwc kk0 k2 hmm hx0 hWr hs he hWs
              have hcl := fun a c => clone_zero a c w4
              clear hWr4
              go_upto_region 9 with fail
              go_wp2_with fail
              with_reducible refine (hcl _ _).mono ?_
              clear hcl
              rintro e w5 ⟨v2, rfl, hv2, hb5⟩
              have hs5 := owns_below hs4 hb5
              have he5 := owns_below he4 hb5
              have hbx5 := (hb5.block wr.heap.size hW4).trans hbx
              have hb6 := hb4.trans (hb5.mono hb4.size)
              clear hs4 he4 hbx hb4
              obtain ⟨A2, c2, rfl⟩ := own_zero hv2
              have hs6 := hs5
              clear hs5 hv2 hb5
              have k0 : w5.cell? ⟨wr.heap.size, 0, none⟩ = some (.int .i64 3) := by rw [cell_of_row _ _ _ _ _ _ hbx5]; rfl
              have k1 : w5.cell? ⟨wr.heap.size, 1, none⟩ = some (.string (str t)) := by rw [cell_of_row _ _ _ _ _ _ hbx5]; rfl
              have k2 : w5.cell? ⟨wr.heap.size, 2, none⟩ = some (.int .u32 0) := by rw [cell_of_row _ _ _ _ _ _ hbx5]; rfl
              have HCK := Lib.hid (show Ex.chk ((N + 1 : Nat) : Int) (f.drop (k + 1)) = 0 by have h := HCK0.out; rwa [HNN.out] at h)
              clear HCK0
              have hmr := mix_lt ev.length []
              go_upto_region 19 with fail
              go_wp2_with fail
              go_loopw [11, 67] (fun v j wq => j = .int .i64 0 ∧ v = .int .u32 (((ev.length : Int) % 4294967296 * 40503) % 4294967296) ∧ wq = w5) (fun _ _ _ => 0)
              case atStart => exact ⟨rfl, by first | rfl | (simp; done) | (simp; omega), rfl⟩
              case round =>
                obtain ⟨rfl, rfl, hw⟩ := hrel
                have hw2 := hw.symm
                clear hw
                subst hw2
                rw [show (((ev.length : Int) % 4294967296 * 40503) % 4294967296) = Ex.mixV ev.length [] from rfl]
                obtain ⟨mv, hmv⟩ : ∃ mv, Ex.mixV ev.length [] = mv := ⟨_, rfl⟩
                have HMX := Lib.hid hmv
                rw [hmv] at hmr ⊢
                clear hmv
                obtain ⟨j0, hj0, hj1, hj2, hj3⟩ := info_parts infoO
                have hrowe := he5.lt
                have HMV := Lib.hid (show Ex.vval ev.length [] ⟨3, t, 0⟩ = mv from HMX.out)
                go_upto_region 29 with (at_builtin; refine wpList_append_lies _ (by rfl) _ _ 28 (by rfl) w.heap.size 44 j0 _ 3 32 Tryd.underlying28 hj0 hj1 hj2 hj3 rfl (by omega) _ ev.length _ (by rfl) (he5.alloc _) ⟨w5.heap.size, 0, none⟩ 1 1 [_, _, _] (by rfl) (by rfl) (World.news_of_block (cs := #[_, _, _]) (t := 44) (fr := (0, 0)) (heap_alloc_new w5 _)) (by simp [Value.oneCell']) (by omega) (by unfold maxLen; omega) (by omega) (by have := hb6.size; simp; omega) (w5.heap.size + 1) (by simp) ?_; intro ge cape w7 he7 hgrowe hate hlte)
                have hb7 : Below w.heap.size w w7 := grown_own (hb6.alloc hb6.size _) hgrowe (fun j hj => (hrowe j hj).1)
                have hs7 := (hs6.alloc (.cells #[.int .i64 3, .string (str t), .int .u32 mv] 44)).kept hgrowe (own_ne2 he5 hs6 (by decide))
                rw [show opsOf ev ++ [.int .i64 3, .string (str t), .int .u32 mv] = opsOf (ev ++ [⟨3, t, mv⟩]) from opsOf_snoc _ ⟨3, t, mv⟩] at he7
                have hle9 : (ev ++ [(⟨3, t, mv⟩ : Ex.Op)]).length = ev.length + 1 := by simp
                rw [← hle9] at he7
                clear hs6 he5 hb6 hgrowe hate hrowe k0 k1 k2 hbx5
                have hrow := hs7.lt
                have hVE := Lib.hid (show Ex.vval ev.length [] ⟨3, t, 0⟩ = mv from HMV.out)
                have hRG := Lib.hid (show 0 ≤ mv ∧ mv < 4294967296 from hmr)
                go_upto_region 32 with (at_builtin; refine wpList_append_lies _ (by rfl) _ _ 72 (by rfl) w.heap.size 22 i0 _ 1 4 Tryd.underlying72 hi0 hz0 hz1 hz2 rfl (by omega) (.slice (some ⟨g, 0, none⟩) N cap) (N) _ (by rfl) (hs7.alloc _) ⟨w7.heap.size, 0, none⟩ 1 1 [.int .u32 (mv)] (by rfl) (by rfl) (World.news_of_block (cs := #[_]) (t := 22) (fr := (0, 0)) (heap_alloc_new w7 _)) (by simp [Value.oneCell']) (by omega) (by unfold maxLen; omega) (by omega) (by have := hb7.size; simp; omega) _ rfl ?_; intro gg cap3 w8 hs8 hgrow hat hlt8)
                have hb8 : Below w.heap.size w w8 := grown_own (hb7.alloc hb7.size _) hgrow (fun j hj => (hrow j hj).1)
                have he8 := (he7.alloc (.cells #[.int .u32 (mv)] 22)).kept hgrow (own_ne2 hs7 he7 (by decide))
                rw [show wordsOf sv ++ [.int .u32 (mv)] = wordsOf (sv ++ [mv]) by rw [wordsOf_app]; rfl] at hs8
                have hl8 : (sv ++ [mv]).length = N + 1 := by rw [List.length_append, HNN.out]; rfl
                rw [← hl8] at hs8
                have HV8 := Lib.hid (show Ex.vrun (f.take (k + 1)) = (sv ++ [mv], (ev ++ [(⟨3, t, mv⟩ : Ex.Op)])) by rw [HN.out, HST.out, hVE.out]; try rfl)
                have hch8 : Ex.chk ((sv ++ [mv]).length : Nat) (f.drop (k + 1)) = 0 := by rw [hl8]; exact HCK.out
                have hsr8 : ∀ x ∈ sv ++ [mv], 0 ≤ x ∧ x < 4294967296 := fun x hx => by
                  rcases List.mem_append.1 hx with hx | hx
                  · exact hsr x hx
                  · simp at hx; subst hx; exact hRG.out
                have hle8 : (sv ++ [mv]).length ≤ k + 1 := by omega
                generalize sv ++ [mv] = S8 at *
                clear hs7 he7 hb7 hgrow hat hrow HN HST HCK hVE hRG
                go_wp2_with fail
                go_roundw
                case rel => exact ⟨k + 1, S8, (ev ++ [(⟨3, t, mv⟩ : Ex.Op)]), by omega, by go_num, HV8.out, hch8, hle8, by rw [hle9]; omega, hsr8, by rw [hl8]; rw [hl8] at hs8; exact hs8, (by rw [hle9] at he8; rw [hle9]; exact he8), hb8⟩
                case measure => simp [intOf]; omega
        · have hm8 : m ≤ 8 := by omega
          obtain ⟨sp, args, rfl, hal⟩ : ∃ sp args : List Int, sv = sp ++ args ∧ args.length = m := ⟨sv.take (sv.length - m), sv.drop (sv.length - m), (List.take_append_drop _ _).symm, by rw [List.length_drop]; have := HC.out.2.1; rw [he0] at this; omega⟩
          have HST := Lib.hid (show Ex.vstep (sp ++ args, ev) ⟨3, t, (m : Int)⟩ = (sp ++ [Ex.vval ev.length args ⟨3, t, (m : Int)⟩], ev ++ [⟨3, t, Ex.vval ev.length args ⟨3, t, (m : Int)⟩⟩]) from Ex.vstep_at sp args ev _ (by rw [he0]; omega))
          have HCK0 := Lib.hid (show Ex.chk ((sp.length + 1 : Nat) : Int) (f.drop (k + 1)) = 0 by have h := HC.out.2.2; rw [he0] at h; rw [← h]; first | rfl | (congr 1; simp; done) | (congr 1; simp; omega))
          clear HC he0
          obtain ⟨Ae, ce, rfl, _, _, _⟩ := owns_ops he
          obtain ⟨N, hNe⟩ : ∃ N, (sp ++ args).length = N := ⟨_, rfl⟩
          obtain ⟨P, hPe⟩ : ∃ P, sp.length = P := ⟨_, rfl⟩
          have hNP : N = P + m := by rw [← hNe, ← hPe, List.length_append, hal]
          obtain ⟨g, cap, rfl, hgB, hgl, hn1, hn2, hcell⟩ := own_pos hs (by rw [hNe]; omega)
          have hx : ∀ j u, (wordsOf args)[j]? = some u → wr.cell? ⟨g, P + j, none⟩ = some u := fun j u hu => by
            have hlt : j < args.length := by have := (List.getElem?_eq_some_iff.1 hu).1; rwa [wordsOf_len] at this
            rw [hcell (P + j) (by rw [hNe]; omega), wordsOf_app, List.getElem?_append_right (by rw [wordsOf_len]; omega), wordsOf_len, hPe, Nat.add_sub_cancel_left]
            exact hu
          rw [hNe] at hs hn1 hsl ⊢
          have HNN := Lib.hid hPe
          have HPT := Lib.hid (show (wordsOf (sp ++ args)).take P = wordsOf sp by rw [wordsOf_app, List.take_left' (by rw [wordsOf_len]; exact hPe)])
          have HAL := Lib.hid hal
          have e1 : (N : Int) - (m : Int) = (P : Int) := by omega
          have hne : ¬ cap = P := by omega
          have e2 : N - P = args.length := by omega
          have hpN : P ≤ N := by omega
          have z1 : (P : Int) ≤ (cap : Int) := by omega
          have z3 : P ≤ cap := by omega
          have z4 : (P : Int) ≤ (N : Int) := by omega
          have z5 : (N : Int) ≤ (cap : Int) := by omega
          have hTl : 0 < args.length ∧ args.length ≤ 8 := by omega
          clear hcell hNe hPe hNP hal
          have q1 : decide ((N : Int) < (m : Int)) = false := by simp; omega
          go_upto_region 6 with fail
          have hx0 := heap_alloc_new wr (.cells #[.int .i64 3, .string (str t), .int .u32 (m : Int)] 44)
          have hWr : Below wr.heap.size wr (wr.alloc (.cells #[.int .i64 3, .string (str t), .int .u32 (m : Int)] 44)) := (Below.refl _ _).alloc (Nat.le_refl _) _
          have hWs : wr.heap.size < (wr.alloc (.cells #[.int .i64 3, .string (str t), .int .u32 (m : Int)] 44)).heap.size := by simp
          generalize wr.alloc (.cells #[.int .i64 3, .string (str t), .int .u32 (m : Int)] 44) = W at *
          have k2 : (W.alloc (.map #[] 0)).cell? ⟨wr.heap.size, 2, none⟩ = some (.int .u32 (m : Int)) := cell_alloc _ hWs (by rw [cell_of_row _ _ _ _ _ _ hx0]; rfl)
          have hmm := @run_makeMap Tryd.prog
          have hm0 := World.ownsMap_made W Tryd.prog 3 (plainElem (H := Unit) Tryd.prog 3)
          have hB0 : Below W.heap.size W (W.alloc (.map #[] 0)) := (Below.refl _ _).alloc (Nat.le_refl _) _
          go_upto_region 7 with (first | (refine wpList_insert_own _ rfl _ _ _ 73 rfl 3 3 kInt Tryd.underlying73 (plainElem (H := Unit) Tryd.prog 3) W.heap.size 3 _ rfl hm3 (by unfold maxLen; omega) _ _ _ rfl rfl (keyOf_int_mk Tryd.underlying3 (by decide)) _ [] (plainElem_int Tryd.underlying3 (by decide)) ?_; intro w4 hm4 hg4; have hB4 : Below W.heap.size W w4 := hB3.grown hg4 hB3.size (fun j hj => by cases hj; exact Nat.le_refl _); have kk0 : w4.cell? ⟨wr.heap.size, 0, none⟩ = some (.int .i64 3) := (hB4.cell (p := ⟨wr.heap.size, 0, none⟩) hWs).trans (by rw [cell_of_row _ _ _ _ _ _ hx0]; rfl)) | (refine wpList_insert_own _ rfl _ _ _ 73 rfl 3 3 kInt Tryd.underlying73 (plainElem (H := Unit) Tryd.prog 3) W.heap.size 2 _ rfl hm2 (by unfold maxLen; omega) _ _ _ rfl rfl (keyOf_int_mk Tryd.underlying3 (by decide)) _ [] (plainElem_int Tryd.underlying3 (by decide)) ?_; intro w3 hm3 hg3; have hB3 : Below W.heap.size W w3 := hB2.grown hg3 hB2.size (fun j hj => by cases hj; exact Nat.le_refl _)) | (refine wpList_insert_own _ rfl _ _ _ 73 rfl 3 3 kInt Tryd.underlying73 (plainElem (H := Unit) Tryd.prog 3) W.heap.size 1 _ rfl hm1 (by unfold maxLen; omega) _ _ _ rfl rfl (keyOf_int_mk Tryd.underlying3 (by decide)) _ [] (plainElem_int Tryd.underlying3 (by decide)) ?_; intro w2 hm2 hg2; have hB2 : Below W.heap.size W w2 := hB1.grown hg2 hB1.size (fun j hj => by cases hj; exact Nat.le_refl _)) | (refine wpList_insert_own _ rfl _ _ _ 73 rfl 3 3 kInt Tryd.underlying73 (plainElem (H := Unit) Tryd.prog 3) W.heap.size 0 _ rfl hm0 (by unfold maxLen; omega) _ _ _ rfl rfl (keyOf_int_mk Tryd.underlying3 (by decide)) _ [] (plainElem_int Tryd.underlying3 (WalkArith.wf_i64 (by omega))) ?_; intro w1 hm1 hg1; have hB1 : Below W.heap.size W w1 := hB0.grown hg1 hB0.size (fun j hj => by cases hj; exact Nat.le_refl _)) | (refine wpList_lookup_own_int _ rfl _ _ 73 rfl 3 3 .i64 kInt Tryd.underlying73 Tryd.underlying3 (zInt _) W.heap.size 4 _ rfl hm4 _ _ rfl (keyOf_int_mk Tryd.underlying3 (by decide)) ?_; intro cc hat hwc))
          obtain rfl := tab_3 _ _ hat
          have hbx := (hB4.block wr.heap.size hWs).trans hx0
          have hWr4 : Below wr.heap.size wr w4 := hWr.trans (hB4.mono hWr.size)
          have hs4 := owns_below hs hWr4
          have he4 := owns_below he hWr4
          have hb4 := hb.trans (hWr4.mono hb.size)
          have hW4 : wr.heap.size < w4.heap.size := Nat.lt_of_lt_of_le hWs hB4.size
          clear hm0 hm1 hm2 hm3 hm4 hg1 hg2 hg3 hg4 hB0 hB1 hB2 hB3 hB4 hat hwc kk0 k2 hmm hx0 hWr hs he hWs
          have hcl := clone_some g P (cap - P) args w4 (Nat.lt_of_lt_of_le hgl hWr4.size) (by omega) (by omega) (fun j u hu => (hWr4.cell (p := ⟨g, P + j, none⟩) hgl).trans (hx j u hu))
          rw [← e2] at hcl
          have hE2 := Lib.hid e2
          clear e2 hx
          clear hWr4
          go_upto_region 9 with fail
          go_wp2_with fail
          with_reducible refine hcl.mono ?_
          clear hcl
          rintro e w5 ⟨v2, rfl, hv2, hb5⟩
          have hs5 := owns_below hs4 hb5
          have he5 := owns_below he4 hb5
          have hbx5 := (hb5.block wr.heap.size hW4).trans hbx
          have hb6 := hb4.trans (hb5.mono hb4.size)
          clear hs4 he4 hbx hb4
          rw [hE2.out] at hv2
          obtain ⟨g2, cap2, rfl, hg2, hgl2, _, _, hcell2⟩ := own_pos hv2 hTl.1
          have hs6 := own_take hs5 hpN
          rw [Nat.mul_one, HPT.out] at hs6
          clear hs5 hv2 hb5
          have k0 : w5.cell? ⟨wr.heap.size, 0, none⟩ = some (.int .i64 3) := by rw [cell_of_row _ _ _ _ _ _ hbx5]; rfl
          have k1 : w5.cell? ⟨wr.heap.size, 1, none⟩ = some (.string (str t)) := by rw [cell_of_row _ _ _ _ _ _ hbx5]; rfl
          have k2 : w5.cell? ⟨wr.heap.size, 2, none⟩ = some (.int .u32 (m : Int)) := by rw [cell_of_row _ _ _ _ _ _ hbx5]; rfl
          have HCK := Lib.hid (show Ex.chk ((P + 1 : Nat) : Int) (f.drop (k + 1)) = 0 by have h := HCK0.out; rwa [HNN.out] at h)
          clear HCK0
          have HAR := Lib.hid (show ∀ j (h : j < args.length), w5.cell? ⟨g2, j, none⟩ = some (.int .u32 args[j]) from fun j h => by rw [hcell2 j (by omega)]; simp [wordsOf, h])
          clear hcell2
          have hmr := mix_lt ev.length args
          go_upto_region 19 with fail
          go_wp2_with fail
          go_loopw [11, 67] (fun v j wq => ∃ (i : Nat), i ≤ args.length ∧ j = .int .i64 i ∧ v = .int .u32 ((args.take i).foldl (fun v a => (v * 31 + a) % 4294967296) (((ev.length : Int) % 4294967296 * 40503) % 4294967296)) ∧ wq = w5) (fun _ j _ => args.length - (intOf j).toNat)
          case atStart => exact ⟨0, by omega, rfl, by first | rfl | (simp; done) | (simp; omega), rfl⟩
          case round =>
            obtain ⟨i, hi, rfl, rfl, hw⟩ := hrel
            have hw2 := hw.symm
            clear hw
            subst hw2
            by_cases hlt2 : i < args.length
            · have b2 : decide ((i : Int) < args.length) = true := by simp; omega
              have b2n : decide (i < args.length) = true := by simp; omega
              have hca := HAR.out i hlt2
              have HS := Lib.hid (show (args.take (i + 1)).foldl (fun v a => (v * 31 + a) % 4294967296) (((ev.length : Int) % 4294967296 * 40503) % 4294967296) = ((args.take i).foldl (fun v a => (v * 31 + a) % 4294967296) (((ev.length : Int) % 4294967296 * 40503) % 4294967296) * 31 + args[i]) % 4294967296 by rw [List.take_succ_eq_append_getElem hlt2, List.foldl_append]; rfl)
              generalize args[i] = a at *
              generalize (args.take i).foldl (fun v a => (v * 31 + a) % 4294967296) (((ev.length : Int) % 4294967296 * 40503) % 4294967296) = acc at *
              go_wp2_with fail
              go_roundw
              case rel => exact ⟨i + 1, by omega, by go_num, by rw [HS.out]; first | rfl | (simp; done), by first | rfl | trivial⟩
              case measure => simp [intOf]; omega
            · have b2 : decide ((i : Int) < args.length) = false := by simp; omega
              have b2n : decide (i < args.length) = false := by simp; omega
              obtain rfl : i = args.length := by omega
              rw [List.take_length]
              have HMX := Lib.hid (show Ex.mixV ev.length args = args.foldl (fun v a => (v * 31 + a) % 4294967296) (((ev.length : Int) % 4294967296 * 40503) % 4294967296) from rfl)
              rw [← HMX.out]
              clear HMX
              obtain ⟨mv, hmv⟩ : ∃ mv, Ex.mixV ev.length args = mv := ⟨_, rfl⟩
              have HMX := Lib.hid hmv
              rw [hmv] at hmr ⊢
              clear hmv
              obtain ⟨j0, hj0, hj1, hj2, hj3⟩ := info_parts infoO
              have hrowe := he5.lt
              have HMV := Lib.hid (show Ex.vval ev.length args ⟨3, t, (m : Int)⟩ = mv from HMX.out)
              go_upto_region 29 with (at_builtin; refine wpList_append_lies _ (by rfl) _ _ 28 (by rfl) w.heap.size 44 j0 _ 3 32 Tryd.underlying28 hj0 hj1 hj2 hj3 rfl (by omega) _ ev.length _ (by rfl) (he5.alloc _) ⟨w5.heap.size, 0, none⟩ 1 1 [_, _, _] (by rfl) (by rfl) (World.news_of_block (cs := #[_, _, _]) (t := 44) (fr := (0, 0)) (heap_alloc_new w5 _)) (by simp [Value.oneCell']) (by omega) (by unfold maxLen; omega) (by omega) (by have := hb6.size; simp; omega) (w5.heap.size + 1) (by simp) ?_; intro ge cape w7 he7 hgrowe hate hlte)
              have hb7 : Below w.heap.size w w7 := grown_own (hb6.alloc hb6.size _) hgrowe (fun j hj => (hrowe j hj).1)
              have hs7 := (hs6.alloc (.cells #[.int .i64 3, .string (str t), .int .u32 mv] 44)).kept hgrowe (own_ne2 he5 hs6 (by decide))
              rw [show opsOf ev ++ [.int .i64 3, .string (str t), .int .u32 mv] = opsOf (ev ++ [⟨3, t, mv⟩]) from opsOf_snoc _ ⟨3, t, mv⟩] at he7
              have hle9 : (ev ++ [(⟨3, t, mv⟩ : Ex.Op)]).length = ev.length + 1 := by simp
              rw [← hle9] at he7
              clear hs6 he5 hb6 hgrowe hate hrowe k0 k1 k2 hbx5
              have hrow := hs7.lt
              have hVE := Lib.hid (show Ex.vval ev.length args ⟨3, t, (m : Int)⟩ = mv from HMV.out)
              have hRG := Lib.hid (show 0 ≤ mv ∧ mv < 4294967296 from hmr)
              go_upto_region 32 with (at_builtin; refine wpList_append_lies _ (by rfl) _ _ 72 (by rfl) w.heap.size 22 i0 _ 1 4 Tryd.underlying72 hi0 hz0 hz1 hz2 rfl (by omega) (.slice (some ⟨g, 0, none⟩) P cap) (P) _ (by rfl) (hs7.alloc _) ⟨w7.heap.size, 0, none⟩ 1 1 [.int .u32 (mv)] (by rfl) (by rfl) (World.news_of_block (cs := #[_]) (t := 22) (fr := (0, 0)) (heap_alloc_new w7 _)) (by simp [Value.oneCell']) (by omega) (by unfold maxLen; omega) (by omega) (by have := hb7.size; simp; omega) _ rfl ?_; intro gg cap3 w8 hs8 hgrow hat hlt8)
              have hb8 : Below w.heap.size w w8 := grown_own (hb7.alloc hb7.size _) hgrow (fun j hj => (hrow j hj).1)
              have he8 := (he7.alloc (.cells #[.int .u32 (mv)] 22)).kept hgrow (own_ne2 hs7 he7 (by decide))
              rw [show wordsOf sp ++ [.int .u32 (mv)] = wordsOf (sp ++ [mv]) by rw [wordsOf_app]; rfl] at hs8
              have hl8 : (sp ++ [mv]).length = P + 1 := by rw [List.length_append, HNN.out]; rfl
              rw [← hl8] at hs8
              have HV8 := Lib.hid (show Ex.vrun (f.take (k + 1)) = (sp ++ [mv], (ev ++ [(⟨3, t, mv⟩ : Ex.Op)])) by rw [HN.out, HST.out, hVE.out]; try rfl)
              have hch8 : Ex.chk ((sp ++ [mv]).length : Nat) (f.drop (k + 1)) = 0 := by rw [hl8]; exact HCK.out
              have hsr8 : ∀ x ∈ sp ++ [mv], 0 ≤ x ∧ x < 4294967296 := fun x hx => by
                rcases List.mem_append.1 hx with hx | hx
                · exact hsr x (by simp [hx])
                · simp at hx; subst hx; exact hRG.out
              have hle8 : (sp ++ [mv]).length ≤ k + 1 := by omega
              generalize sp ++ [mv] = S8 at *
              clear hs7 he7 hb7 hgrow hat hrow HN HST HCK hVE hRG
              go_wp2_with fail
              go_roundw
              case rel => exact ⟨k + 1, S8, (ev ++ [(⟨3, t, mv⟩ : Ex.Op)]), by omega, by go_num, HV8.out, hch8, hle8, by rw [hle9]; omega, hsr8, by rw [hl8]; rw [hl8] at hs8; exact hs8, (by rw [hle9] at he8; rw [hle9]; exact he8), hb8⟩
              case measure => simp [intOf]; omega
      · dsimp only at hLo hd0 hd1 hd2
        obtain ⟨sp, args, rfl, hal⟩ : ∃ sp args : List Int, sv = sp ++ args ∧ args.length = 1 := ⟨sv.take (sv.length - 1), sv.drop (sv.length - 1), (List.take_append_drop _ _).symm, by rw [List.length_drop]; have := HC.out.2.1; rw [he0] at this; omega⟩
        have HST := Lib.hid (show Ex.vstep (sp ++ args, ev) ⟨4, [], 0⟩ = (sp ++ [Ex.vval ev.length args ⟨4, [], 0⟩], ev ++ [⟨4, [], Ex.vval ev.length args ⟨4, [], 0⟩⟩]) from Ex.vstep_at sp args ev _ (by rw [he0]; omega))
        have HCK0 := Lib.hid (show Ex.chk ((sp.length + 1 : Nat) : Int) (f.drop (k + 1)) = 0 by have h := HC.out.2.2; rw [he0] at h; rw [← h]; first | rfl | (congr 1; simp; done) | (congr 1; simp; omega))
        clear HC he0
        obtain ⟨Ae, ce, rfl, _, _, _⟩ := owns_ops he
        obtain ⟨N, hNe⟩ : ∃ N, (sp ++ args).length = N := ⟨_, rfl⟩
        obtain ⟨P, hPe⟩ : ∃ P, sp.length = P := ⟨_, rfl⟩
        have hNP : N = P + 1 := by rw [← hNe, ← hPe, List.length_append, hal]
        obtain ⟨g, cap, rfl, hgB, hgl, hn1, hn2, hcell⟩ := own_pos hs (by rw [hNe]; omega)
        have hx : ∀ j u, (wordsOf args)[j]? = some u → wr.cell? ⟨g, P + j, none⟩ = some u := fun j u hu => by
          have hlt : j < args.length := by have := (List.getElem?_eq_some_iff.1 hu).1; rwa [wordsOf_len] at this
          rw [hcell (P + j) (by rw [hNe]; omega), wordsOf_app, List.getElem?_append_right (by rw [wordsOf_len]; omega), wordsOf_len, hPe, Nat.add_sub_cancel_left]
          exact hu
        rw [hNe] at hs hn1 hsl ⊢
        have HNN := Lib.hid hPe
        have HPT := Lib.hid (show (wordsOf (sp ++ args)).take P = wordsOf sp by rw [wordsOf_app, List.take_left' (by rw [wordsOf_len]; exact hPe)])
        have HAL := Lib.hid hal
        have e1 : (N : Int) - 1 = (P : Int) := by omega
        have hne : ¬ cap = P := by omega
        have e2 : N - P = args.length := by omega
        have hpN : P ≤ N := by omega
        have z1 : (P : Int) ≤ (cap : Int) := by omega
        have z3 : P ≤ cap := by omega
        have z4 : (P : Int) ≤ (N : Int) := by omega
        have z5 : (N : Int) ≤ (cap : Int) := by omega
        have hTl : 0 < args.length ∧ args.length ≤ 8 := by omega
        clear hcell hNe hPe hNP hal
        have q1 : decide ((N : Int) < 1) = false := by simp; omega
        go_upto_region 6 with fail
        have hx0 := heap_alloc_new wr (.cells #[.int .i64 4, .string (str []), .int .u32 0] 44)
        have hWr : Below wr.heap.size wr (wr.alloc (.cells #[.int .i64 4, .string (str []), .int .u32 0] 44)) := (Below.refl _ _).alloc (Nat.le_refl _) _
        have hWs : wr.heap.size < (wr.alloc (.cells #[.int .i64 4, .string (str []), .int .u32 0] 44)).heap.size := by simp
        generalize wr.alloc (.cells #[.int .i64 4, .string (str []), .int .u32 0] 44) = W at *
        have k2 : (W.alloc (.map #[] 0)).cell? ⟨wr.heap.size, 2, none⟩ = some (.int .u32 0) := cell_alloc _ hWs (by rw [cell_of_row _ _ _ _ _ _ hx0]; rfl)
        have hmm := @run_makeMap Tryd.prog
        have hm0 := World.ownsMap_made W Tryd.prog 3 (plainElem (H := Unit) Tryd.prog 3)
        have hB0 : Below W.heap.size W (W.alloc (.map #[] 0)) := (Below.refl _ _).alloc (Nat.le_refl _) _
        go_upto_region 7 with (first | (refine wpList_insert_own _ rfl _ _ _ 73 rfl 3 3 kInt Tryd.underlying73 (plainElem (H := Unit) Tryd.prog 3) W.heap.size 3 _ rfl hm3 (by unfold maxLen; omega) _ _ _ rfl rfl (keyOf_int_mk Tryd.underlying3 (by decide)) _ [] (plainElem_int Tryd.underlying3 (by decide)) ?_; intro w4 hm4 hg4; have hB4 : Below W.heap.size W w4 := hB3.grown hg4 hB3.size (fun j hj => by cases hj; exact Nat.le_refl _); have kk0 : w4.cell? ⟨wr.heap.size, 0, none⟩ = some (.int .i64 4) := (hB4.cell (p := ⟨wr.heap.size, 0, none⟩) hWs).trans (by rw [cell_of_row _ _ _ _ _ _ hx0]; rfl)) | (refine wpList_insert_own _ rfl _ _ _ 73 rfl 3 3 kInt Tryd.underlying73 (plainElem (H := Unit) Tryd.prog 3) W.heap.size 2 _ rfl hm2 (by unfold maxLen; omega) _ _ _ rfl rfl (keyOf_int_mk Tryd.underlying3 (by decide)) _ [] (plainElem_int Tryd.underlying3 (by decide)) ?_; intro w3 hm3 hg3; have hB3 : Below W.heap.size W w3 := hB2.grown hg3 hB2.size (fun j hj => by cases hj; exact Nat.le_refl _)) | (refine wpList_insert_own _ rfl _ _ _ 73 rfl 3 3 kInt Tryd.underlying73 (plainElem (H := Unit) Tryd.prog 3) W.heap.size 1 _ rfl hm1 (by unfold maxLen; omega) _ _ _ rfl rfl (keyOf_int_mk Tryd.underlying3 (by decide)) _ [] (plainElem_int Tryd.underlying3 (by decide)) ?_; intro w2 hm2 hg2; have hB2 : Below W.heap.size W w2 := hB1.grown hg2 hB1.size (fun j hj => by cases hj; exact Nat.le_refl _)) | (refine wpList_insert_own _ rfl _ _ _ 73 rfl 3 3 kInt Tryd.underlying73 (plainElem (H := Unit) Tryd.prog 3) W.heap.size 0 _ rfl hm0 (by unfold maxLen; omega) _ _ _ rfl rfl (keyOf_int_mk Tryd.underlying3 (by decide)) _ [] (plainElem_int Tryd.underlying3 (WalkArith.wf_i64 (by omega))) ?_; intro w1 hm1 hg1; have hB1 : Below W.heap.size W w1 := hB0.grown hg1 hB0.size (fun j hj => by cases hj; exact Nat.le_refl _)) | (refine wpList_lookup_own_int _ rfl _ _ 73 rfl 3 3 .i64 kInt Tryd.underlying73 Tryd.underlying3 (zInt _) W.heap.size 4 _ rfl hm4 _ _ rfl (keyOf_int_mk Tryd.underlying3 (by decide)) ?_; intro cc hat hwc))
        obtain rfl := tab_4 _ _ hat
        have hbx := (hB4.block wr.heap.size hWs).trans hx0
        have hWr4 : Below wr.heap.size wr w4 := hWr.trans (hB4.mono hWr.size)
        have hs4 := owns_below hs hWr4
        have he4 := owns_below he hWr4
        have hb4 := hb.trans (hWr4.mono hb.size)
        have hW4 : wr.heap.size < w4.heap.size := Nat.lt_of_lt_of_le hWs hB4.size
        clear hm0 hm1 hm2 hm3 hm4 hg1 hg2 hg3 hg4 hB0 hB1 hB2 hB3 hB4 hat hwc kk0 k2 hmm hx0 hWr hs he hWs
        have hcl := clone_some g P (cap - P) args w4 (Nat.lt_of_lt_of_le hgl hWr4.size) (by omega) (by omega) (fun j u hu => (hWr4.cell (p := ⟨g, P + j, none⟩) hgl).trans (hx j u hu))
        rw [← e2] at hcl
        have hE2 := Lib.hid e2
        clear e2 hx
        clear hWr4
        go_upto_region 9 with fail
        go_wp2_with fail
        with_reducible refine hcl.mono ?_
        clear hcl
        rintro e w5 ⟨v2, rfl, hv2, hb5⟩
        have hs5 := owns_below hs4 hb5
        have he5 := owns_below he4 hb5
        have hbx5 := (hb5.block wr.heap.size hW4).trans hbx
        have hb6 := hb4.trans (hb5.mono hb4.size)
        clear hs4 he4 hbx hb4
        rw [hE2.out] at hv2
        obtain ⟨g2, cap2, rfl, hg2, hgl2, _, _, hcell2⟩ := own_pos hv2 hTl.1
        have hs6 := own_take hs5 hpN
        rw [Nat.mul_one, HPT.out] at hs6
        clear hs5 hv2 hb5
        have k0 : w5.cell? ⟨wr.heap.size, 0, none⟩ = some (.int .i64 4) := by rw [cell_of_row _ _ _ _ _ _ hbx5]; rfl
        have k1 : w5.cell? ⟨wr.heap.size, 1, none⟩ = some (.string (str [])) := by rw [cell_of_row _ _ _ _ _ _ hbx5]; rfl
        have k2 : w5.cell? ⟨wr.heap.size, 2, none⟩ = some (.int .u32 0) := by rw [cell_of_row _ _ _ _ _ _ hbx5]; rfl
        have HCK := Lib.hid (show Ex.chk ((P + 1 : Nat) : Int) (f.drop (k + 1)) = 0 by have h := HCK0.out; rwa [HNN.out] at h)
        clear HCK0
        have HAR := Lib.hid (show ∀ j (h : j < args.length), w5.cell? ⟨g2, j, none⟩ = some (.int .u32 args[j]) from fun j h => by rw [hcell2 j (by omega)]; simp [wordsOf, h])
        clear hcell2
        have hmr := mix_lt ev.length args
        go_upto_region 19 with fail
        go_wp2_with fail
        go_loopw [11, 67] (fun v j wq => ∃ (i : Nat), i ≤ args.length ∧ j = .int .i64 i ∧ v = .int .u32 ((args.take i).foldl (fun v a => (v * 31 + a) % 4294967296) (((ev.length : Int) % 4294967296 * 40503) % 4294967296)) ∧ wq = w5) (fun _ j _ => args.length - (intOf j).toNat)
        case atStart => exact ⟨0, by omega, rfl, by first | rfl | (simp; done) | (simp; omega), rfl⟩
        case round =>
          obtain ⟨i, hi, rfl, rfl, hw⟩ := hrel
          have hw2 := hw.symm
          clear hw
          subst hw2
          by_cases hlt2 : i < args.length
          · have b2 : decide ((i : Int) < args.length) = true := by simp; omega
            have b2n : decide (i < args.length) = true := by simp; omega
            have hca := HAR.out i hlt2
            have HS := Lib.hid (show (args.take (i + 1)).foldl (fun v a => (v * 31 + a) % 4294967296) (((ev.length : Int) % 4294967296 * 40503) % 4294967296) = ((args.take i).foldl (fun v a => (v * 31 + a) % 4294967296) (((ev.length : Int) % 4294967296 * 40503) % 4294967296) * 31 + args[i]) % 4294967296 by rw [List.take_succ_eq_append_getElem hlt2, List.foldl_append]; rfl)
            generalize args[i] = a at *
            generalize (args.take i).foldl (fun v a => (v * 31 + a) % 4294967296) (((ev.length : Int) % 4294967296 * 40503) % 4294967296) = acc at *
            go_wp2_with fail
            go_roundw
            case rel => exact ⟨i + 1, by omega, by go_num, by rw [HS.out]; first | rfl | (simp; done), by first | rfl | trivial⟩
            case measure => simp [intOf]; omega
          · have b2 : decide ((i : Int) < args.length) = false := by simp; omega
            have b2n : decide (i < args.length) = false := by simp; omega
            obtain rfl : i = args.length := by omega
            rw [List.take_length]
            have HMX := Lib.hid (show Ex.mixV ev.length args = args.foldl (fun v a => (v * 31 + a) % 4294967296) (((ev.length : Int) % 4294967296 * 40503) % 4294967296) from rfl)
            rw [← HMX.out]
            clear HMX
            obtain ⟨mv, hmv⟩ : ∃ mv, Ex.mixV ev.length args = mv := ⟨_, rfl⟩
            have HMX := Lib.hid hmv
            rw [hmv] at hmr ⊢
            clear hmv
            obtain ⟨j0, hj0, hj1, hj2, hj3⟩ := info_parts infoO
            have hrowe := he5.lt
            have HMV := Lib.hid (show Ex.vval ev.length args ⟨4, [], 0⟩ = mv from HMX.out)
            go_upto_region 29 with (at_builtin; refine wpList_append_lies _ (by rfl) _ _ 28 (by rfl) w.heap.size 44 j0 _ 3 32 Tryd.underlying28 hj0 hj1 hj2 hj3 rfl (by omega) _ ev.length _ (by rfl) (he5.alloc _) ⟨w5.heap.size, 0, none⟩ 1 1 [_, _, _] (by rfl) (by rfl) (World.news_of_block (cs := #[_, _, _]) (t := 44) (fr := (0, 0)) (heap_alloc_new w5 _)) (by simp [Value.oneCell']) (by omega) (by unfold maxLen; omega) (by omega) (by have := hb6.size; simp; omega) (w5.heap.size + 1) (by simp) ?_; intro ge cape w7 he7 hgrowe hate hlte)
            have hb7 : Below w.heap.size w w7 := grown_own (hb6.alloc hb6.size _) hgrowe (fun j hj => (hrowe j hj).1)
            have hs7 := (hs6.alloc (.cells #[.int .i64 4, .string (str []), .int .u32 mv] 44)).kept hgrowe (own_ne2 he5 hs6 (by decide))
            rw [show opsOf ev ++ [.int .i64 4, .string (str []), .int .u32 mv] = opsOf (ev ++ [⟨4, [], mv⟩]) from opsOf_snoc _ ⟨4, [], mv⟩] at he7
            have hle9 : (ev ++ [(⟨4, [], mv⟩ : Ex.Op)]).length = ev.length + 1 := by simp
            rw [← hle9] at he7
            clear hs6 he5 hb6 hgrowe hate hrowe k0 k1 k2 hbx5
            have hrow := hs7.lt
            have hVE := Lib.hid (show Ex.vval ev.length args ⟨4, [], 0⟩ = mv from HMV.out)
            have hRG := Lib.hid (show 0 ≤ mv ∧ mv < 4294967296 from hmr)
            go_upto_region 32 with (at_builtin; refine wpList_append_lies _ (by rfl) _ _ 72 (by rfl) w.heap.size 22 i0 _ 1 4 Tryd.underlying72 hi0 hz0 hz1 hz2 rfl (by omega) (.slice (some ⟨g, 0, none⟩) P cap) (P) _ (by rfl) (hs7.alloc _) ⟨w7.heap.size, 0, none⟩ 1 1 [.int .u32 (mv)] (by rfl) (by rfl) (World.news_of_block (cs := #[_]) (t := 22) (fr := (0, 0)) (heap_alloc_new w7 _)) (by simp [Value.oneCell']) (by omega) (by unfold maxLen; omega) (by omega) (by have := hb7.size; simp; omega) _ rfl ?_; intro gg cap3 w8 hs8 hgrow hat hlt8)
            have hb8 : Below w.heap.size w w8 := grown_own (hb7.alloc hb7.size _) hgrow (fun j hj => (hrow j hj).1)
            have he8 := (he7.alloc (.cells #[.int .u32 (mv)] 22)).kept hgrow (own_ne2 hs7 he7 (by decide))
            rw [show wordsOf sp ++ [.int .u32 (mv)] = wordsOf (sp ++ [mv]) by rw [wordsOf_app]; rfl] at hs8
            have hl8 : (sp ++ [mv]).length = P + 1 := by rw [List.length_append, HNN.out]; rfl
            rw [← hl8] at hs8
            have HV8 := Lib.hid (show Ex.vrun (f.take (k + 1)) = (sp ++ [mv], (ev ++ [(⟨4, [], mv⟩ : Ex.Op)])) by rw [HN.out, HST.out, hVE.out]; try rfl)
            have hch8 : Ex.chk ((sp ++ [mv]).length : Nat) (f.drop (k + 1)) = 0 := by rw [hl8]; exact HCK.out
            have hsr8 : ∀ x ∈ sp ++ [mv], 0 ≤ x ∧ x < 4294967296 := fun x hx => by
              rcases List.mem_append.1 hx with hx | hx
              · exact hsr x (by simp [hx])
              · simp at hx; subst hx; exact hRG.out
            have hle8 : (sp ++ [mv]).length ≤ k + 1 := by omega
            generalize sp ++ [mv] = S8 at *
            clear hs7 he7 hb7 hgrow hat hrow HN HST HCK hVE hRG
            go_wp2_with fail
            go_roundw
            case rel => exact ⟨k + 1, S8, (ev ++ [(⟨4, [], mv⟩ : Ex.Op)]), by omega, by go_num, HV8.out, hch8, hle8, by rw [hle9]; omega, hsr8, by rw [hl8]; rw [hl8] at hs8; exact hs8, (by rw [hle9] at he8; rw [hle9]; exact he8), hb8⟩
            case measure => simp [intOf]; omega
      · dsimp only at hLo hd0 hd1 hd2
        rcases hs.2 with ⟨rfl, hz⟩ | ⟨g, cap, cur, rfl, hB, hgg, hn1, hn2, hsz, htk⟩
        · have HST := Lib.hid (show Ex.vstep (sv, ev) ⟨5, [], 0⟩ = (sv ++ [Ex.vval ev.length [] ⟨5, [], 0⟩], ev ++ [⟨5, [], Ex.vval ev.length [] ⟨5, [], 0⟩⟩]) from Ex.vstep_zero sv ev _ (by rw [he0]; rfl))
          have HCK0 := Lib.hid (show Ex.chk ((sv.length + 1 : Nat) : Int) (f.drop (k + 1)) = 0 by have h := HC.out.2.2; rw [he0] at h; rw [← h]; first | rfl | (congr 1; simp; done) | (congr 1; simp; omega))
          clear HC he0
          obtain ⟨Ae, ce, rfl, _, _, _⟩ := owns_ops he
          rw [hz] at hs hsl
          have HNN := Lib.hid hz
          clear hz
          have q1 : decide ((0 : Int) < 0) = false := by simp
          go_upto_region 6 with fail
          have hx0 := heap_alloc_new wr (.cells #[.int .i64 5, .string (str []), .int .u32 0] 44)
          have hWr : Below wr.heap.size wr (wr.alloc (.cells #[.int .i64 5, .string (str []), .int .u32 0] 44)) := (Below.refl _ _).alloc (Nat.le_refl _) _
          have hWs : wr.heap.size < (wr.alloc (.cells #[.int .i64 5, .string (str []), .int .u32 0] 44)).heap.size := by simp
          generalize wr.alloc (.cells #[.int .i64 5, .string (str []), .int .u32 0] 44) = W at *
          have k2 : (W.alloc (.map #[] 0)).cell? ⟨wr.heap.size, 2, none⟩ = some (.int .u32 0) := cell_alloc _ hWs (by rw [cell_of_row _ _ _ _ _ _ hx0]; rfl)
          have hmm := @run_makeMap Tryd.prog
          have hm0 := World.ownsMap_made W Tryd.prog 3 (plainElem (H := Unit) Tryd.prog 3)
          have hB0 : Below W.heap.size W (W.alloc (.map #[] 0)) := (Below.refl _ _).alloc (Nat.le_refl _) _
          go_upto_region 7 with (first | (refine wpList_insert_own _ rfl _ _ _ 73 rfl 3 3 kInt Tryd.underlying73 (plainElem (H := Unit) Tryd.prog 3) W.heap.size 3 _ rfl hm3 (by unfold maxLen; omega) _ _ _ rfl rfl (keyOf_int_mk Tryd.underlying3 (by decide)) _ [] (plainElem_int Tryd.underlying3 (by decide)) ?_; intro w4 hm4 hg4; have hB4 : Below W.heap.size W w4 := hB3.grown hg4 hB3.size (fun j hj => by cases hj; exact Nat.le_refl _); have kk0 : w4.cell? ⟨wr.heap.size, 0, none⟩ = some (.int .i64 5) := (hB4.cell (p := ⟨wr.heap.size, 0, none⟩) hWs).trans (by rw [cell_of_row _ _ _ _ _ _ hx0]; rfl)) | (refine wpList_insert_own _ rfl _ _ _ 73 rfl 3 3 kInt Tryd.underlying73 (plainElem (H := Unit) Tryd.prog 3) W.heap.size 2 _ rfl hm2 (by unfold maxLen; omega) _ _ _ rfl rfl (keyOf_int_mk Tryd.underlying3 (by decide)) _ [] (plainElem_int Tryd.underlying3 (by decide)) ?_; intro w3 hm3 hg3; have hB3 : Below W.heap.size W w3 := hB2.grown hg3 hB2.size (fun j hj => by cases hj; exact Nat.le_refl _)) | (refine wpList_insert_own _ rfl _ _ _ 73 rfl 3 3 kInt Tryd.underlying73 (plainElem (H := Unit) Tryd.prog 3) W.heap.size 1 _ rfl hm1 (by unfold maxLen; omega) _ _ _ rfl rfl (keyOf_int_mk Tryd.underlying3 (by decide)) _ [] (plainElem_int Tryd.underlying3 (by decide)) ?_; intro w2 hm2 hg2; have hB2 : Below W.heap.size W w2 := hB1.grown hg2 hB1.size (fun j hj => by cases hj; exact Nat.le_refl _)) | (refine wpList_insert_own _ rfl _ _ _ 73 rfl 3 3 kInt Tryd.underlying73 (plainElem (H := Unit) Tryd.prog 3) W.heap.size 0 _ rfl hm0 (by unfold maxLen; omega) _ _ _ rfl rfl (keyOf_int_mk Tryd.underlying3 (by decide)) _ [] (plainElem_int Tryd.underlying3 (WalkArith.wf_i64 (by omega))) ?_; intro w1 hm1 hg1; have hB1 : Below W.heap.size W w1 := hB0.grown hg1 hB0.size (fun j hj => by cases hj; exact Nat.le_refl _)) | (refine wpList_lookup_own_int _ rfl _ _ 73 rfl 3 3 .i64 kInt Tryd.underlying73 Tryd.underlying3 (zInt _) W.heap.size 4 _ rfl hm4 _ _ rfl (keyOf_int_mk Tryd.underlying3 (by decide)) ?_; intro cc hat hwc))
          obtain rfl := tab_5 _ _ hat
          have hbx := (hB4.block wr.heap.size hWs).trans hx0
          have hWr4 : Below wr.heap.size wr w4 := hWr.trans (hB4.mono hWr.size)
          have hs4 := owns_below hs hWr4
          have he4 := owns_below he hWr4
          have hb4 := hb.trans (hWr4.mono hb.size)
          have hW4 : wr.heap.size < w4.heap.size := Nat.lt_of_lt_of_le hWs hB4.size
          clear hm0 hm1 hm2 hm3 hm4 hg1 hg2 hg3 hg4 hB0 hB1 hB2 hB3 hB4 hat hwc kk0 k2 hmm hx0 hWr hs he hWs
          have hcl := clone_nil w4
          clear hWr4
          go_upto_region 9 with fail
          go_wp2_with fail
          with_reducible refine hcl.mono ?_
          clear hcl
          rintro e w5 ⟨v2, rfl, hv2, hb5⟩
          have hs5 := owns_below hs4 hb5
          have he5 := owns_below he4 hb5
          have hbx5 := (hb5.block wr.heap.size hW4).trans hbx
          have hb6 := hb4.trans (hb5.mono hb4.size)
          clear hs4 he4 hbx hb4
          obtain ⟨A2, c2, rfl⟩ := own_zero hv2
          have hs6 := hs5
          clear hs5 hv2 hb5
          have k0 : w5.cell? ⟨wr.heap.size, 0, none⟩ = some (.int .i64 5) := by rw [cell_of_row _ _ _ _ _ _ hbx5]; rfl
          have k1 : w5.cell? ⟨wr.heap.size, 1, none⟩ = some (.string (str [])) := by rw [cell_of_row _ _ _ _ _ _ hbx5]; rfl
          have k2 : w5.cell? ⟨wr.heap.size, 2, none⟩ = some (.int .u32 0) := by rw [cell_of_row _ _ _ _ _ _ hbx5]; rfl
          have HCK := Lib.hid (show Ex.chk ((0 + 1 : Nat) : Int) (f.drop (k + 1)) = 0 by have h := HCK0.out; rwa [HNN.out] at h)
          clear HCK0
          have hmr := mix_lt ev.length []
          go_upto_region 19 with fail
          go_wp2_with fail
          go_loopw [11, 67] (fun v j wq => j = .int .i64 0 ∧ v = .int .u32 (((ev.length : Int) % 4294967296 * 40503) % 4294967296) ∧ wq = w5) (fun _ _ _ => 0)
          case atStart => exact ⟨rfl, by first | rfl | (simp; done) | (simp; omega), rfl⟩
          case round =>
            obtain ⟨rfl, rfl, hw⟩ := hrel
            have hw2 := hw.symm
            clear hw
            subst hw2
            rw [show (((ev.length : Int) % 4294967296 * 40503) % 4294967296) = Ex.mixV ev.length [] from rfl]
            obtain ⟨mv, hmv⟩ : ∃ mv, Ex.mixV ev.length [] = mv := ⟨_, rfl⟩
            have HMX := Lib.hid hmv
            rw [hmv] at hmr ⊢
            clear hmv
            obtain ⟨j0, hj0, hj1, hj2, hj3⟩ := info_parts infoO
            have hrowe := he5.lt
            have HMV := Lib.hid (show Ex.vval ev.length [] ⟨5, [], 0⟩ = mv from HMX.out)
            go_upto_region 29 with (at_builtin; refine wpList_append_lies _ (by rfl) _ _ 28 (by rfl) w.heap.size 44 j0 _ 3 32 Tryd.underlying28 hj0 hj1 hj2 hj3 rfl (by omega) _ ev.length _ (by rfl) (he5.alloc _) ⟨w5.heap.size, 0, none⟩ 1 1 [_, _, _] (by rfl) (by rfl) (World.news_of_block (cs := #[_, _, _]) (t := 44) (fr := (0, 0)) (heap_alloc_new w5 _)) (by simp [Value.oneCell']) (by omega) (by unfold maxLen; omega) (by omega) (by have := hb6.size; simp; omega) (w5.heap.size + 1) (by simp) ?_; intro ge cape w7 he7 hgrowe hate hlte)
            have hb7 : Below w.heap.size w w7 := grown_own (hb6.alloc hb6.size _) hgrowe (fun j hj => (hrowe j hj).1)
            have hs7 := (hs6.alloc (.cells #[.int .i64 5, .string (str []), .int .u32 mv] 44)).kept hgrowe (own_ne2 he5 hs6 (by decide))
            rw [show opsOf ev ++ [.int .i64 5, .string (str []), .int .u32 mv] = opsOf (ev ++ [⟨5, [], mv⟩]) from opsOf_snoc _ ⟨5, [], mv⟩] at he7
            have hle9 : (ev ++ [(⟨5, [], mv⟩ : Ex.Op)]).length = ev.length + 1 := by simp
            rw [← hle9] at he7
            clear hs6 he5 hb6 hgrowe hate hrowe k0 k1 k2 hbx5
            have hrow := hs7.lt
            have hVE := Lib.hid (show Ex.vval ev.length [] ⟨5, [], 0⟩ = mv from HMV.out)
            have hRG := Lib.hid (show 0 ≤ mv ∧ mv < 4294967296 from hmr)
            go_upto_region 32 with (at_builtin; refine wpList_append_lies _ (by rfl) _ _ 72 (by rfl) w.heap.size 22 i0 _ 1 4 Tryd.underlying72 hi0 hz0 hz1 hz2 rfl (by omega) (.slice none 0 0) (0) _ (by rfl) (hs7.alloc _) ⟨w7.heap.size, 0, none⟩ 1 1 [.int .u32 (mv)] (by rfl) (by rfl) (World.news_of_block (cs := #[_]) (t := 22) (fr := (0, 0)) (heap_alloc_new w7 _)) (by simp [Value.oneCell']) (by omega) (by unfold maxLen; omega) (by omega) (by have := hb7.size; simp; omega) _ rfl ?_; intro gg cap3 w8 hs8 hgrow hat hlt8)
            have hb8 : Below w.heap.size w w8 := grown_own (hb7.alloc hb7.size _) hgrow (fun j hj => (hrow j hj).1)
            have he8 := (he7.alloc (.cells #[.int .u32 (mv)] 22)).kept hgrow (own_ne2 hs7 he7 (by decide))
            rw [show wordsOf sv ++ [.int .u32 (mv)] = wordsOf (sv ++ [mv]) by rw [wordsOf_app]; rfl] at hs8
            have hl8 : (sv ++ [mv]).length = 0 + 1 := by rw [List.length_append, HNN.out]; rfl
            rw [← hl8] at hs8
            have HV8 := Lib.hid (show Ex.vrun (f.take (k + 1)) = (sv ++ [mv], (ev ++ [(⟨5, [], mv⟩ : Ex.Op)])) by rw [HN.out, HST.out, hVE.out]; try rfl)
            have hch8 : Ex.chk ((sv ++ [mv]).length : Nat) (f.drop (k + 1)) = 0 := by rw [hl8]; exact HCK.out
            have hsr8 : ∀ x ∈ sv ++ [mv], 0 ≤ x ∧ x < 4294967296 := fun x hx => by
              rcases List.mem_append.1 hx with hx | hx
              · exact hsr x hx
              · simp at hx; subst hx; exact hRG.out
            have hle8 : (sv ++ [mv]).length ≤ k + 1 := by omega
            generalize sv ++ [mv] = S8 at *
            clear hs7 he7 hb7 hgrow hat hrow HN HST HCK hVE hRG
            go_wp2_with fail
            go_roundw
            case rel => exact ⟨k + 1, S8, (ev ++ [(⟨5, [], mv⟩ : Ex.Op)]), by omega, by go_num, HV8.out, hch8, hle8, by rw [hle9]; omega, hsr8, by rw [hl8]; rw [hl8] at hs8; exact hs8, (by rw [hle9] at he8; rw [hle9]; exact he8), hb8⟩
            case measure => simp [intOf]; omega
        · have hgl : g < wr.heap.size := (Array.getElem?_eq_some_iff.1 hgg).1
          by_cases hcap : cap = sv.length
          · have HST := Lib.hid (show Ex.vstep (sv, ev) ⟨5, [], 0⟩ = (sv ++ [Ex.vval ev.length [] ⟨5, [], 0⟩], ev ++ [⟨5, [], Ex.vval ev.length [] ⟨5, [], 0⟩⟩]) from Ex.vstep_zero sv ev _ (by rw [he0]; rfl))
            have HCK0 := Lib.hid (show Ex.chk ((sv.length + 1 : Nat) : Int) (f.drop (k + 1)) = 0 by have h := HC.out.2.2; rw [he0] at h; rw [← h]; first | rfl | (congr 1; simp; done) | (congr 1; simp; omega))
            clear HC he0
            obtain ⟨Ae, ce, rfl, _, _, _⟩ := owns_ops he
            obtain ⟨N, hNe⟩ : ∃ N, sv.length = N := ⟨_, rfl⟩
            rw [hNe] at hs hn1 hsl hcap ⊢
            have HNN := Lib.hid hNe
            clear hNe hgg htk hsz hB
            have hcap2 := hcap.symm
            clear hcap
            subst hcap2
            have q1 : decide ((N : Int) < 0) = false := by simp
            go_upto_region 6 with fail
            have hx0 := heap_alloc_new wr (.cells #[.int .i64 5, .string (str []), .int .u32 0] 44)
            have hWr : Below wr.heap.size wr (wr.alloc (.cells #[.int .i64 5, .string (str []), .int .u32 0] 44)) := (Below.refl _ _).alloc (Nat.le_refl _) _
            have hWs : wr.heap.size < (wr.alloc (.cells #[.int .i64 5, .string (str []), .int .u32 0] 44)).heap.size := by simp
            generalize wr.alloc (.cells #[.int .i64 5, .string (str []), .int .u32 0] 44) = W at *
            have k2 : (W.alloc (.map #[] 0)).cell? ⟨wr.heap.size, 2, none⟩ = some (.int .u32 0) := cell_alloc _ hWs (by rw [cell_of_row _ _ _ _ _ _ hx0]; rfl)
            have hmm := @run_makeMap Tryd.prog
            have hm0 := World.ownsMap_made W Tryd.prog 3 (plainElem (H := Unit) Tryd.prog 3)
            have hB0 : Below W.heap.size W (W.alloc (.map #[] 0)) := (Below.refl _ _).alloc (Nat.le_refl _) _
            go_upto_region 7 with (first | (refine wpList_insert_own _ rfl _ _ _ 73 rfl 3 3 kInt Tryd.underlying73 (plainElem (H := Unit) Tryd.prog 3) W.heap.size 3 _ rfl hm3 (by unfold maxLen; omega) _ _ _ rfl rfl (keyOf_int_mk Tryd.underlying3 (by decide)) _ [] (plainElem_int Tryd.underlying3 (by decide)) ?_; intro w4 hm4 hg4; have hB4 : Below W.heap.size W w4 := hB3.grown hg4 hB3.size (fun j hj => by cases hj; exact Nat.le_refl _); have kk0 : w4.cell? ⟨wr.heap.size, 0, none⟩ = some (.int .i64 5) := (hB4.cell (p := ⟨wr.heap.size, 0, none⟩) hWs).trans (by rw [cell_of_row _ _ _ _ _ _ hx0]; rfl)) | (refine wpList_insert_own _ rfl _ _ _ 73 rfl 3 3 kInt Tryd.underlying73 (plainElem (H := Unit) Tryd.prog 3) W.heap.size 2 _ rfl hm2 (by unfold maxLen; omega) _ _ _ rfl rfl (keyOf_int_mk Tryd.underlying3 (by decide)) _ [] (plainElem_int Tryd.underlying3 (by decide)) ?_; intro w3 hm3 hg3; have hB3 : Below W.heap.size W w3 := hB2.grown hg3 hB2.size (fun j hj => by cases hj; exact Nat.le_refl _)) | (refine wpList_insert_own _ rfl _ _ _ 73 rfl 3 3 kInt Tryd.underlying73 (plainElem (H := Unit) Tryd.prog 3) W.heap.size 1 _ rfl hm1 (by unfold maxLen; omega) _ _ _ rfl rfl (keyOf_int_mk Tryd.underlying3 (by decide)) _ [] (plainElem_int Tryd.underlying3 (by decide)) ?_; intro w2 hm2 hg2; have hB2 : Below W.heap.size W w2 := hB1.grown hg2 hB1.size (fun j hj => by cases hj; exact Nat.le_refl _)) | (refine wpList_insert_own _ rfl _ _ _ 73 rfl 3 3 kInt Tryd.underlying73 (plainElem (H := Unit) Tryd.prog 3) W.heap.size 0 _ rfl hm0 (by unfold maxLen; omega) _ _ _ rfl rfl (keyOf_int_mk Tryd.underlying3 (by decide)) _ [] (plainElem_int Tryd.underlying3 (WalkArith.wf_i64 (by omega))) ?_; intro w1 hm1 hg1; have hB1 : Below W.heap.size W w1 := hB0.grown hg1 hB0.size (fun j hj => by cases hj; exact Nat.le_refl _)) | (refine wpList_lookup_own_int _ rfl _ _ 73 rfl 3 3 .i64 kInt Tryd.underlying73 Tryd.underlying3 (zInt _) W.heap.size 4 _ rfl hm4 _ _ rfl (keyOf_int_mk Tryd.underlying3 (by decide)) ?_; intro cc hat hwc))
            obtain rfl := tab_5 _ _ hat
            have hbx := (hB4.block wr.heap.size hWs).trans hx0
            have hWr4 : Below wr.heap.size wr w4 := hWr.trans (hB4.mono hWr.size)
            have hs4 := owns_below hs hWr4
            have he4 := owns_below he hWr4
            have hb4 := hb.trans (hWr4.mono hb.size)
            have hW4 : wr.heap.size < w4.heap.size := Nat.lt_of_lt_of_le hWs hB4.size
            clear hm0 hm1 hm2 hm3 hm4 hg1 hg2 hg3 hg4 hB0 hB1 hB2 hB3 hB4 hat hwc kk0 k2 hmm hx0 hWr hs he hWs
            have hcl := fun a c => clone_zero a c w4
            clear hWr4
            go_upto_region 9 with fail
            go_wp2_with fail
            with_reducible refine (hcl _ _).mono ?_
            clear hcl
            rintro e w5 ⟨v2, rfl, hv2, hb5⟩
            have hs5 := owns_below hs4 hb5
            have he5 := owns_below he4 hb5
            have hbx5 := (hb5.block wr.heap.size hW4).trans hbx
            have hb6 := hb4.trans (hb5.mono hb4.size)
            clear hs4 he4 hbx hb4
            obtain ⟨A2, c2, rfl⟩ := own_zero hv2
            have hs6 := hs5
            clear hs5 hv2 hb5
            have k0 : w5.cell? ⟨wr.heap.size, 0, none⟩ = some (.int .i64 5) := by rw [cell_of_row _ _ _ _ _ _ hbx5]; rfl
            have k1 : w5.cell? ⟨wr.heap.size, 1, none⟩ = some (.string (str [])) := by rw [cell_of_row _ _ _ _ _ _ hbx5]; rfl
            have k2 : w5.cell? ⟨wr.heap.size, 2, none⟩ = some (.int .u32 0) := by rw [cell_of_row _ _ _ _ _ _ hbx5]; rfl
            have HCK := Lib.hid (show Ex.chk ((N + 1 : Nat) : Int) (f.drop (k + 1)) = 0 by have h := HCK0.out; rwa [HNN.out] at h)
            clear HCK0
            have hmr := mix_lt ev.length []
            go_upto_region 19 with fail
            go_wp2_with fail
            go_loopw [11, 67] (fun v j wq => j = .int .i64 0 ∧ v = .int .u32 (((ev.length : Int) % 4294967296 * 40503) % 4294967296) ∧ wq = w5) (fun _ _ _ => 0)
            case atStart => exact ⟨rfl, by first | rfl | (simp; done) | (simp; omega), rfl⟩
            case round =>
              obtain ⟨rfl, rfl, hw⟩ := hrel
              have hw2 := hw.symm
              clear hw
              subst hw2
              rw [show (((ev.length : Int) % 4294967296 * 40503) % 4294967296) = Ex.mixV ev.length [] from rfl]
              obtain ⟨mv, hmv⟩ : ∃ mv, Ex.mixV ev.length [] = mv := ⟨_, rfl⟩
              have HMX := Lib.hid hmv
              rw [hmv] at hmr ⊢
              clear hmv
              obtain ⟨j0, hj0, hj1, hj2, hj3⟩ := info_parts infoO
              have hrowe := he5.lt
              have HMV := Lib.hid (show Ex.vval ev.length [] ⟨5, [], 0⟩ = mv from HMX.out)
              go_upto_region 29 with (at_builtin; refine wpList_append_lies _ (by rfl) _ _ 28 (by rfl) w.heap.size 44 j0 _ 3 32 Tryd.underlying28 hj0 hj1 hj2 hj3 rfl (by omega) _ ev.length _ (by rfl) (he5.alloc _) ⟨w5.heap.size, 0, none⟩ 1 1 [_, _, _] (by rfl) (by rfl) (World.news_of_block (cs := #[_, _, _]) (t := 44) (fr := (0, 0)) (heap_alloc_new w5 _)) (by simp [Value.oneCell']) (by omega) (by unfold maxLen; omega) (by omega) (by have := hb6.size; simp; omega) (w5.heap.size + 1) (by simp) ?_; intro ge cape w7 he7 hgrowe hate hlte)
              have hb7 : Below w.heap.size w w7 := grown_own (hb6.alloc hb6.size _) hgrowe (fun j hj => (hrowe j hj).1)
              have hs7 := (hs6.alloc (.cells #[.int .i64 5, .string (str []), .int .u32 mv] 44)).kept hgrowe (own_ne2 he5 hs6 (by decide))
              rw [show opsOf ev ++ [.int .i64 5, .string (str []), .int .u32 mv] = opsOf (ev ++ [⟨5, [], mv⟩]) from opsOf_snoc _ ⟨5, [], mv⟩] at he7
              have hle9 : (ev ++ [(⟨5, [], mv⟩ : Ex.Op)]).length = ev.length + 1 := by simp
              rw [← hle9] at he7
              clear hs6 he5 hb6 hgrowe hate hrowe k0 k1 k2 hbx5
              have hrow := hs7.lt
              have hVE := Lib.hid (show Ex.vval ev.length [] ⟨5, [], 0⟩ = mv from HMV.out)
              have hRG := Lib.hid (show 0 ≤ mv ∧ mv < 4294967296 from hmr)
              go_upto_region 32 with (at_builtin; refine wpList_append_lies _ (by rfl) _ _ 72 (by rfl) w.heap.size 22 i0 _ 1 4 Tryd.underlying72 hi0 hz0 hz1 hz2 rfl (by omega) (.slice (some ⟨g, 0, none⟩) N N) (N) _ (by rfl) (hs7.alloc _) ⟨w7.heap.size, 0, none⟩ 1 1 [.int .u32 (mv)] (by rfl) (by rfl) (World.news_of_block (cs := #[_]) (t := 22) (fr := (0, 0)) (heap_alloc_new w7 _)) (by simp [Value.oneCell']) (by omega) (by unfold maxLen; omega) (by omega) (by have := hb7.size; simp; omega) _ rfl ?_; intro gg cap3 w8 hs8 hgrow hat hlt8)
              have hb8 : Below w.heap.size w w8 := grown_own (hb7.alloc hb7.size _) hgrow (fun j hj => (hrow j hj).1)
              have he8 := (he7.alloc (.cells #[.int .u32 (mv)] 22)).kept hgrow (own_ne2 hs7 he7 (by decide))
              rw [show wordsOf sv ++ [.int .u32 (mv)] = wordsOf (sv ++ [mv]) by rw [wordsOf_app]; rfl] at hs8
              have hl8 : (sv ++ [mv]).length = N + 1 := by rw [List.length_append, HNN.out]; rfl
              rw [← hl8] at hs8
              have HV8 := Lib.hid (show Ex.vrun (f.take (k + 1)) = (sv ++ [mv], (ev ++ [(⟨5, [], mv⟩ : Ex.Op)])) by rw [HN.out, HST.out, hVE.out]; try rfl)
              have hch8 : Ex.chk ((sv ++ [mv]).length : Nat) (f.drop (k + 1)) = 0 := by rw [hl8]; exact HCK.out
              have hsr8 : ∀ x ∈ sv ++ [mv], 0 ≤ x ∧ x < 4294967296 := fun x hx => by
                rcases List.mem_append.1 hx with hx | hx
                · exact hsr x hx
                · simp at hx; subst hx; exact hRG.out
              have hle8 : (sv ++ [mv]).length ≤ k + 1 := by omega
              generalize sv ++ [mv] = S8 at *
              clear hs7 he7 hb7 hgrow hat hrow HN HST HCK hVE hRG
              go_wp2_with fail
              go_roundw
              case rel => exact ⟨k + 1, S8, (ev ++ [(⟨5, [], mv⟩ : Ex.Op)]), by omega, by go_num, HV8.out, hch8, hle8, by rw [hle9]; omega, hsr8, by rw [hl8]; rw [hl8] at hs8; exact hs8, (by rw [hle9] at he8; rw [hle9]; exact he8), hb8⟩
              case measure => simp [intOf]; omega
          · have HST := Lib.hid (show Ex.vstep (sv, ev) ⟨5, [], 0⟩ = (sv ++ [Ex.vval ev.length [] ⟨5, [], 0⟩], ev ++ [⟨5, [], Ex.vval ev.length [] ⟨5, [], 0⟩⟩]) from Ex.vstep_zero sv ev _ (by rw [he0]; rfl))
            have HCK0 := Lib.hid (show Ex.chk ((sv.length + 1 : Nat) : Int) (f.drop (k + 1)) = 0 by have h := HC.out.2.2; rw [he0] at h; rw [← h]; first | rfl | (congr 1; simp; done) | (congr 1; simp; omega))
            clear HC he0
            obtain ⟨Ae, ce, rfl, _, _, _⟩ := owns_ops he
            obtain ⟨N, hNe⟩ : ∃ N, sv.length = N := ⟨_, rfl⟩
            rw [hNe] at hs hn1 hsl hcap ⊢
            have HNN := Lib.hid hNe
            clear hNe hgg htk hsz hB
            have q1 : decide ((N : Int) < 0) = false := by simp
            go_upto_region 6 with fail
            have hx0 := heap_alloc_new wr (.cells #[.int .i64 5, .string (str []), .int .u32 0] 44)
            have hWr : Below wr.heap.size wr (wr.alloc (.cells #[.int .i64 5, .string (str []), .int .u32 0] 44)) := (Below.refl _ _).alloc (Nat.le_refl _) _
            have hWs : wr.heap.size < (wr.alloc (.cells #[.int .i64 5, .string (str []), .int .u32 0] 44)).heap.size := by simp
            generalize wr.alloc (.cells #[.int .i64 5, .string (str []), .int .u32 0] 44) = W at *
            have k2 : (W.alloc (.map #[] 0)).cell? ⟨wr.heap.size, 2, none⟩ = some (.int .u32 0) := cell_alloc _ hWs (by rw [cell_of_row _ _ _ _ _ _ hx0]; rfl)
            have hmm := @run_makeMap Tryd.prog
            have hm0 := World.ownsMap_made W Tryd.prog 3 (plainElem (H := Unit) Tryd.prog 3)
            have hB0 : Below W.heap.size W (W.alloc (.map #[] 0)) := (Below.refl _ _).alloc (Nat.le_refl _) _
            go_upto_region 7 with (first | (refine wpList_insert_own _ rfl _ _ _ 73 rfl 3 3 kInt Tryd.underlying73 (plainElem (H := Unit) Tryd.prog 3) W.heap.size 3 _ rfl hm3 (by unfold maxLen; omega) _ _ _ rfl rfl (keyOf_int_mk Tryd.underlying3 (by decide)) _ [] (plainElem_int Tryd.underlying3 (by decide)) ?_; intro w4 hm4 hg4; have hB4 : Below W.heap.size W w4 := hB3.grown hg4 hB3.size (fun j hj => by cases hj; exact Nat.le_refl _); have kk0 : w4.cell? ⟨wr.heap.size, 0, none⟩ = some (.int .i64 5) := (hB4.cell (p := ⟨wr.heap.size, 0, none⟩) hWs).trans (by rw [cell_of_row _ _ _ _ _ _ hx0]; rfl)) | (refine wpList_insert_own _ rfl _ _ _ 73 rfl 3 3 kInt Tryd.underlying73 (plainElem (H := Unit) Tryd.prog 3) W.heap.size 2 _ rfl hm2 (by unfold maxLen; omega) _ _ _ rfl rfl (keyOf_int_mk Tryd.underlying3 (by decide)) _ [] (plainElem_int Tryd.underlying3 (by decide)) ?_; intro w3 hm3 hg3; have hB3 : Below W.heap.size W w3 := hB2.grown hg3 hB2.size (fun j hj => by cases hj; exact Nat.le_refl _)) | (refine wpList_insert_own _ rfl _ _ _ 73 rfl 3 3 kInt Tryd.underlying73 (plainElem (H := Unit) Tryd.prog 3) W.heap.size 1 _ rfl hm1 (by unfold maxLen; omega) _ _ _ rfl rfl (keyOf_int_mk Tryd.underlying3 (by decide)) _ [] (plainElem_int Tryd.underlying3 (by decide)) ?_; intro w2 hm2 hg2; have hB2 : Below W.heap.size W w2 := hB1.grown hg2 hB1.size (fun j hj => by cases hj; exact Nat.le_refl _)) | (refine wpList_insert_own _ rfl _ _ _ 73 rfl 3 3 kInt Tryd.underlying73 (plainElem (H := Unit) Tryd.prog 3) W.heap.size 0 _ rfl hm0 (by unfold maxLen; omega) _ _ _ rfl rfl (keyOf_int_mk Tryd.underlying3 (by decide)) _ [] (plainElem_int Tryd.underlying3 (WalkArith.wf_i64 (by omega))) ?_; intro w1 hm1 hg1; have hB1 : Below W.heap.size W w1 := hB0.grown hg1 hB0.size (fun j hj => by cases hj; exact Nat.le_refl _)) | (refine wpList_lookup_own_int _ rfl _ _ 73 rfl 3 3 .i64 kInt Tryd.underlying73 Tryd.underlying3 (zInt _) W.heap.size 4 _ rfl hm4 _ _ rfl (keyOf_int_mk Tryd.underlying3 (by decide)) ?_; intro cc hat hwc))
            obtain rfl := tab_5 _ _ hat
            have hbx := (hB4.block wr.heap.size hWs).trans hx0
            have hWr4 : Below wr.heap.size wr w4 := hWr.trans (hB4.mono hWr.size)
            have hs4 := owns_below hs hWr4
            have he4 := owns_below he hWr4
            have hb4 := hb.trans (hWr4.mono hb.size)
            have hW4 : wr.heap.size < w4.heap.size := Nat.lt_of_lt_of_le hWs hB4.size
            clear hm0 hm1 hm2 hm3 hm4 hg1 hg2 hg3 hg4 hB0 hB1 hB2 hB3 hB4 hat hwc kk0 k2 hmm hx0 hWr hs he hWs
            have hcl := fun a c => clone_zero a c w4
            clear hWr4
            go_upto_region 9 with fail
            go_wp2_with fail
            with_reducible refine (hcl _ _).mono ?_
            clear hcl
            rintro e w5 ⟨v2, rfl, hv2, hb5⟩
            have hs5 := owns_below hs4 hb5
            have he5 := owns_below he4 hb5
            have hbx5 := (hb5.block wr.heap.size hW4).trans hbx
            have hb6 := hb4.trans (hb5.mono hb4.size)
            clear hs4 he4 hbx hb4
            obtain ⟨A2, c2, rfl⟩ := own_zero hv2
            have hs6 := hs5
            clear hs5 hv2 hb5
            have k0 : w5.cell? ⟨wr.heap.size, 0, none⟩ = some (.int .i64 5) := by rw [cell_of_row _ _ _ _ _ _ hbx5]; rfl
            have k1 : w5.cell? ⟨wr.heap.size, 1, none⟩ = some (.string (str [])) := by rw [cell_of_row _ _ _ _ _ _ hbx5]; rfl
            have k2 : w5.cell? ⟨wr.heap.size, 2, none⟩ = some (.int .u32 0) := by rw [cell_of_row _ _ _ _ _ _ hbx5]; rfl
            have HCK := Lib.hid (show Ex.chk ((N + 1 : Nat) : Int) (f.drop (k + 1)) = 0 by have h := HCK0.out; rwa [HNN.out] at h)
            clear HCK0
            have hmr := mix_lt ev.length []
            go_upto_region 19 with fail
            go_wp2_with fail
            go_loopw [11, 67] (fun v j wq => j = .int .i64 0 ∧ v = .int .u32 (((ev.length : Int) % 4294967296 * 40503) % 4294967296) ∧ wq = w5) (fun _ _ _ => 0)
            case atStart => exact ⟨rfl, by first | rfl | (simp; done) | (simp; omega), rfl⟩
            case round =>
              obtain ⟨rfl, rfl, hw⟩ := hrel
              have hw2 := hw.symm
              clear hw
              subst hw2
              rw [show (((ev.length : Int) % 4294967296 * 40503) % 4294967296) = Ex.mixV ev.length [] from rfl]
              obtain ⟨mv, hmv⟩ : ∃ mv, Ex.mixV ev.length [] = mv := ⟨_, rfl⟩
              have HMX := Lib.hid hmv
              rw [hmv] at hmr ⊢
              clear hmv
              obtain ⟨j0, hj0, hj1, hj2, hj3⟩ := info_parts infoO
              have hrowe := he5.lt
              have HMV := Lib.hid (show Ex.vval ev.length [] ⟨5, [], 0⟩ = mv from HMX.out)
              go_upto_region 29 with (at_builtin; refine wpList_append_lies _ (by rfl) _ _ 28 (by rfl) w.heap.size 44 j0 _ 3 32 Tryd.underlying28 hj0 hj1 hj2 hj3 rfl (by omega) _ ev.length _ (by rfl) (he5.alloc _) ⟨w5.heap.size, 0, none⟩ 1 1 [_, _, _] (by rfl) (by rfl) (World.news_of_block (cs := #[_, _, _]) (t := 44) (fr := (0, 0)) (heap_alloc_new w5 _)) (by simp [Value.oneCell']) (by omega) (by unfold maxLen; omega) (by omega) (by have := hb6.size; simp; omega) (w5.heap.size + 1) (by simp) ?_; intro ge cape w7 he7 hgrowe hate hlte)
              have hb7 : Below w.heap.size w w7 := grown_own (hb6.alloc hb6.size _) hgrowe (fun j hj => (hrowe j hj).1)
              have hs7 := (hs6.alloc (.cells #[.int .i64 5, .string (str []), .int .u32 mv] 44)).kept hgrowe (own_ne2 he5 hs6 (by decide))
              rw [show opsOf ev ++ [.int .i64 5, .string (str []), .int .u32 mv] = opsOf (ev ++ [⟨5, [], mv⟩]) from opsOf_snoc _ ⟨5, [], mv⟩] at he7
              have hle9 : (ev ++ [(⟨5, [], mv⟩ : Ex.Op)]).length = ev.length + 1 := by simp
              rw [← hle9] at he7
              clear hs6 he5 hb6 hgrowe hate hrowe k0 k1 k2 hbx5
              have hrow := hs7.lt
              have hVE := Lib.hid (show Ex.vval ev.length [] ⟨5, [], 0⟩ = mv from HMV.out)
              have hRG := Lib.hid (show 0 ≤ mv ∧ mv < 4294967296 from hmr)
              go_upto_region 32 with (at_builtin; refine wpList_append_lies _ (by rfl) _ _ 72 (by rfl) w.heap.size 22 i0 _ 1 4 Tryd.underlying72 hi0 hz0 hz1 hz2 rfl (by omega) (.slice (some ⟨g, 0, none⟩) N cap) (N) _ (by rfl) (hs7.alloc _) ⟨w7.heap.size, 0, none⟩ 1 1 [.int .u32 (mv)] (by rfl) (by rfl) (World.news_of_block (cs := #[_]) (t := 22) (fr := (0, 0)) (heap_alloc_new w7 _)) (by simp [Value.oneCell']) (by omega) (by unfold maxLen; omega) (by omega) (by have := hb7.size; simp; omega) _ rfl ?_; intro gg cap3 w8 hs8 hgrow hat hlt8)
              have hb8 : Below w.heap.size w w8 := grown_own (hb7.alloc hb7.size _) hgrow (fun j hj => (hrow j hj).1)
              have he8 := (he7.alloc (.cells #[.int .u32 (mv)] 22)).kept hgrow (own_ne2 hs7 he7 (by decide))
              rw [show wordsOf sv ++ [.int .u32 (mv)] = wordsOf (sv ++ [mv]) by rw [wordsOf_app]; rfl] at hs8
              have hl8 : (sv ++ [mv]).length = N + 1 := by rw [List.length_append, HNN.out]; rfl
              rw [← hl8] at hs8
              have HV8 := Lib.hid (show Ex.vrun (f.take (k + 1)) = (sv ++ [mv], (ev ++ [(⟨5, [], mv⟩ : Ex.Op)])) by rw [HN.out, HST.out, hVE.out]; try rfl)
              have hch8 : Ex.chk ((sv ++ [mv]).length : Nat) (f.drop (k + 1)) = 0 := by rw [hl8]; exact HCK.out
              have hsr8 : ∀ x ∈ sv ++ [mv], 0 ≤ x ∧ x < 4294967296 := fun x hx => by
                rcases List.mem_append.1 hx with hx | hx
                · exact hsr x hx
                · simp at hx; subst hx; exact hRG.out
              have hle8 : (sv ++ [mv]).length ≤ k + 1 := by omega
              generalize sv ++ [mv] = S8 at *
              clear hs7 he7 hb7 hgrow hat hrow HN HST HCK hVE hRG
              go_wp2_with fail
              go_roundw
              case rel => exact ⟨k + 1, S8, (ev ++ [(⟨5, [], mv⟩ : Ex.Op)]), by omega, by go_num, HV8.out, hch8, hle8, by rw [hle9]; omega, hsr8, by rw [hl8]; rw [hl8] at hs8; exact hs8, (by rw [hle9] at he8; rw [hle9]; exact he8), hb8⟩
              case measure => simp [intOf]; omega
      · dsimp only at hLo hd0 hd1 hd2
        obtain ⟨sp, args, rfl, hal⟩ : ∃ sp args : List Int, sv = sp ++ args ∧ args.length = 1 := ⟨sv.take (sv.length - 1), sv.drop (sv.length - 1), (List.take_append_drop _ _).symm, by rw [List.length_drop]; have := HC.out.2.1; rw [he0] at this; omega⟩
        have HST := Lib.hid (show Ex.vstep (sp ++ args, ev) ⟨6, t, 0⟩ = (sp ++ [Ex.vval ev.length args ⟨6, t, 0⟩], ev) from Ex.vstep_at sp args ev _ (by rw [he0]; omega))
        have HCK0 := Lib.hid (show Ex.chk ((sp.length + 1 : Nat) : Int) (f.drop (k + 1)) = 0 by have h := HC.out.2.2; rw [he0] at h; rw [← h]; first | rfl | (congr 1; simp; done) | (congr 1; simp; omega))
        clear HC he0
        obtain ⟨N, hNe⟩ : ∃ N, (sp ++ args).length = N := ⟨_, rfl⟩
        obtain ⟨P, hPe⟩ : ∃ P, sp.length = P := ⟨_, rfl⟩
        have hNP : N = P + 1 := by rw [← hNe, ← hPe, List.length_append, hal]
        obtain ⟨g, cap, rfl, hgB, hgl, hn1, hn2, hcell⟩ := own_pos hs (by rw [hNe]; omega)
        have hx : ∀ j u, (wordsOf args)[j]? = some u → wr.cell? ⟨g, P + j, none⟩ = some u := fun j u hu => by
          have hlt : j < args.length := by have := (List.getElem?_eq_some_iff.1 hu).1; rwa [wordsOf_len] at this
          rw [hcell (P + j) (by rw [hNe]; omega), wordsOf_app, List.getElem?_append_right (by rw [wordsOf_len]; omega), wordsOf_len, hPe, Nat.add_sub_cancel_left]
          exact hu
        rw [hNe] at hs hn1 hsl ⊢
        have HNN := Lib.hid hPe
        have HPT := Lib.hid (show (wordsOf (sp ++ args)).take P = wordsOf sp by rw [wordsOf_app, List.take_left' (by rw [wordsOf_len]; exact hPe)])
        have HAL := Lib.hid hal
        have e1 : (N : Int) - 1 = (P : Int) := by omega
        have hne : ¬ cap = P := by omega
        have e2 : N - P = args.length := by omega
        have hpN : P ≤ N := by omega
        have z1 : (P : Int) ≤ (cap : Int) := by omega
        have z3 : P ≤ cap := by omega
        have z4 : (P : Int) ≤ (N : Int) := by omega
        have z5 : (N : Int) ≤ (cap : Int) := by omega
        have hTl : 0 < args.length ∧ args.length ≤ 8 := by omega
        clear hcell hNe hPe hNP hal
        have q1 : decide ((N : Int) < 1) = false := by simp; omega
        go_upto_region 6 with fail
        have hx0 := heap_alloc_new wr (.cells #[.int .i64 6, .string (str t), .int .u32 0] 44)
        have hWr : Below wr.heap.size wr (wr.alloc (.cells #[.int .i64 6, .string (str t), .int .u32 0] 44)) := (Below.refl _ _).alloc (Nat.le_refl _) _
        have hWs : wr.heap.size < (wr.alloc (.cells #[.int .i64 6, .string (str t), .int .u32 0] 44)).heap.size := by simp
        generalize wr.alloc (.cells #[.int .i64 6, .string (str t), .int .u32 0] 44) = W at *
        have k2 : (W.alloc (.map #[] 0)).cell? ⟨wr.heap.size, 2, none⟩ = some (.int .u32 0) := cell_alloc _ hWs (by rw [cell_of_row _ _ _ _ _ _ hx0]; rfl)
        have hmm := @run_makeMap Tryd.prog
        have hm0 := World.ownsMap_made W Tryd.prog 3 (plainElem (H := Unit) Tryd.prog 3)
        have hB0 : Below W.heap.size W (W.alloc (.map #[] 0)) := (Below.refl _ _).alloc (Nat.le_refl _) _
        go_upto_region 7 with (first | (refine wpList_insert_own _ rfl _ _ _ 73 rfl 3 3 kInt Tryd.underlying73 (plainElem (H := Unit) Tryd.prog 3) W.heap.size 3 _ rfl hm3 (by unfold maxLen; omega) _ _ _ rfl rfl (keyOf_int_mk Tryd.underlying3 (by decide)) _ [] (plainElem_int Tryd.underlying3 (by decide)) ?_; intro w4 hm4 hg4; have hB4 : Below W.heap.size W w4 := hB3.grown hg4 hB3.size (fun j hj => by cases hj; exact Nat.le_refl _); have kk0 : w4.cell? ⟨wr.heap.size, 0, none⟩ = some (.int .i64 6) := (hB4.cell (p := ⟨wr.heap.size, 0, none⟩) hWs).trans (by rw [cell_of_row _ _ _ _ _ _ hx0]; rfl)) | (refine wpList_insert_own _ rfl _ _ _ 73 rfl 3 3 kInt Tryd.underlying73 (plainElem (H := Unit) Tryd.prog 3) W.heap.size 2 _ rfl hm2 (by unfold maxLen; omega) _ _ _ rfl rfl (keyOf_int_mk Tryd.underlying3 (by decide)) _ [] (plainElem_int Tryd.underlying3 (by decide)) ?_; intro w3 hm3 hg3; have hB3 : Below W.heap.size W w3 := hB2.grown hg3 hB2.size (fun j hj => by cases hj; exact Nat.le_refl _)) | (refine wpList_insert_own _ rfl _ _ _ 73 rfl 3 3 kInt Tryd.underlying73 (plainElem (H := Unit) Tryd.prog 3) W.heap.size 1 _ rfl hm1 (by unfold maxLen; omega) _ _ _ rfl rfl (keyOf_int_mk Tryd.underlying3 (by decide)) _ [] (plainElem_int Tryd.underlying3 (by decide)) ?_; intro w2 hm2 hg2; have hB2 : Below W.heap.size W w2 := hB1.grown hg2 hB1.size (fun j hj => by cases hj; exact Nat.le_refl _)) | (refine wpList_insert_own _ rfl _ _ _ 73 rfl 3 3 kInt Tryd.underlying73 (plainElem (H := Unit) Tryd.prog 3) W.heap.size 0 _ rfl hm0 (by unfold maxLen; omega) _ _ _ rfl rfl (keyOf_int_mk Tryd.underlying3 (by decide)) _ [] (plainElem_int Tryd.underlying3 (WalkArith.wf_i64 (by omega))) ?_; intro w1 hm1 hg1; have hB1 : Below W.heap.size W w1 := hB0.grown hg1 hB0.size (fun j hj => by cases hj; exact Nat.le_refl _)) | (refine wpList_lookup_own_int _ rfl _ _ 73 rfl 3 3 .i64 kInt Tryd.underlying73 Tryd.underlying3 (zInt _) W.heap.size 4 _ rfl hm4 _ _ rfl (keyOf_int_mk Tryd.underlying3 (by decide)) ?_; intro cc hat hwc))
        obtain rfl := tab_6 _ _ hat
        have hbx := (hB4.block wr.heap.size hWs).trans hx0
        have hWr4 : Below wr.heap.size wr w4 := hWr.trans (hB4.mono hWr.size)
        have hs4 := owns_below hs hWr4
        have he4 := owns_below he hWr4
        have hb4 := hb.trans (hWr4.mono hb.size)
        have hW4 : wr.heap.size < w4.heap.size := Nat.lt_of_lt_of_le hWs hB4.size
        clear hm0 hm1 hm2 hm3 hm4 hg1 hg2 hg3 hg4 hB0 hB1 hB2 hB3 hB4 hat hwc kk0 k2 hmm hx0 hWr hs he hWs
        have hcl := clone_some g P (cap - P) args w4 (Nat.lt_of_lt_of_le hgl hWr4.size) (by omega) (by omega) (fun j u hu => (hWr4.cell (p := ⟨g, P + j, none⟩) hgl).trans (hx j u hu))
        rw [← e2] at hcl
        have hE2 := Lib.hid e2
        clear e2 hx
        clear hWr4
        go_upto_region 9 with fail
        go_wp2_with fail
        with_reducible refine hcl.mono ?_
        clear hcl
        rintro e w5 ⟨v2, rfl, hv2, hb5⟩
        have hs5 := owns_below hs4 hb5
        have he5 := owns_below he4 hb5
        have hbx5 := (hb5.block wr.heap.size hW4).trans hbx
        have hb6 := hb4.trans (hb5.mono hb4.size)
        clear hs4 he4 hbx hb4
        rw [hE2.out] at hv2
        obtain ⟨g2, cap2, rfl, hg2, hgl2, _, _, hcell2⟩ := own_pos hv2 hTl.1
        have hs6 := own_take hs5 hpN
        rw [Nat.mul_one, HPT.out] at hs6
        clear hs5 hv2 hb5
        have k0 : w5.cell? ⟨wr.heap.size, 0, none⟩ = some (.int .i64 6) := by rw [cell_of_row _ _ _ _ _ _ hbx5]; rfl
        have k1 : w5.cell? ⟨wr.heap.size, 1, none⟩ = some (.string (str t)) := by rw [cell_of_row _ _ _ _ _ _ hbx5]; rfl
        have k2 : w5.cell? ⟨wr.heap.size, 2, none⟩ = some (.int .u32 0) := by rw [cell_of_row _ _ _ _ _ _ hbx5]; rfl
        have HCK := Lib.hid (show Ex.chk ((P + 1 : Nat) : Int) (f.drop (k + 1)) = 0 by have h := HCK0.out; rwa [HNN.out] at h)
        clear HCK0
        obtain ⟨x0, rfl⟩ := one_arg args HAL.out
        have y0 : w5.cell? ⟨g2, 0, none⟩ = some (.int .u32 x0) := hcell2 0 (by simp)
        have hr0 := hsr x0 (by simp)
        clear hcell2
        have hq := unaryQ t x0
        have hu2 := un_ok t x0 ht
        have hrl := un_lt (l := t) hr0.1 hr0.2
        have HVV := Lib.hid (show Ex.vval ev.length [x0] ⟨6, t, 0⟩ = (unR t x0).1 from rfl)
        generalize unR t x0 = rr at *
        obtain ⟨r1, r2⟩ := rr
        dsimp only at hu2 hrl hq
        subst hu2
        go_upto_region 26 with fail
        go_quiet ((go_at_call 8; exact Calls.quiet_of_same (hq _)))
        have hWq : Below w5.heap.size w5 (w5.drewN nq) := below_drewN (Below.refl _ w5) nq
        have hs7 := owns_below hs6 hWq
        have he7 := owns_below he5 hWq
        have hb7 := hb6.trans (hWq.mono hb6.size)
        clear hs6 he5 hb6 hWq k0 k1 k2 y0 hq hbx5
        generalize w5.drewN nq = w7 at *
        have hrow := hs7.lt
        have hVE := Lib.hid (show Ex.vval ev.length [x0] ⟨6, t, 0⟩ = r1 from HVV.out)
        have hRG := Lib.hid (show 0 ≤ r1 ∧ r1 < 4294967296 from hrl)
        go_upto_region 32 with (at_builtin; refine wpList_append_lies _ (by rfl) _ _ 72 (by rfl) w.heap.size 22 i0 _ 1 4 Tryd.underlying72 hi0 hz0 hz1 hz2 rfl (by omega) (.slice (some ⟨g, 0, none⟩) P cap) (P) _ (by rfl) (hs7.alloc _) ⟨w7.heap.size, 0, none⟩ 1 1 [.int .u32 (r1)] (by rfl) (by rfl) (World.news_of_block (cs := #[_]) (t := 22) (fr := (0, 0)) (heap_alloc_new w7 _)) (by simp [Value.oneCell']) (by omega) (by unfold maxLen; omega) (by omega) (by have := hb7.size; simp; omega) _ rfl ?_; intro gg cap3 w8 hs8 hgrow hat hlt8)
        have hb8 : Below w.heap.size w w8 := grown_own (hb7.alloc hb7.size _) hgrow (fun j hj => (hrow j hj).1)
        have he8 := (he7.alloc (.cells #[.int .u32 (r1)] 22)).kept hgrow (own_ne2 hs7 he7 (by decide))
        rw [show wordsOf sp ++ [.int .u32 (r1)] = wordsOf (sp ++ [r1]) by rw [wordsOf_app]; rfl] at hs8
        have hl8 : (sp ++ [r1]).length = P + 1 := by rw [List.length_append, HNN.out]; rfl
        rw [← hl8] at hs8
        have HV8 := Lib.hid (show Ex.vrun (f.take (k + 1)) = (sp ++ [r1], ev) by rw [HN.out, HST.out, hVE.out]; try rfl)
        have hch8 : Ex.chk ((sp ++ [r1]).length : Nat) (f.drop (k + 1)) = 0 := by rw [hl8]; exact HCK.out
        have hsr8 : ∀ x ∈ sp ++ [r1], 0 ≤ x ∧ x < 4294967296 := fun x hx => by
          rcases List.mem_append.1 hx with hx | hx
          · exact hsr x (by simp [hx])
          · simp at hx; subst hx; exact hRG.out
        have hle8 : (sp ++ [r1]).length ≤ k + 1 := by omega
        generalize sp ++ [r1] = S8 at *
        clear hs7 he7 hb7 hgrow hat hrow HN HST HCK hVE hRG
        go_wp2_with fail
        go_roundw
        case rel => exact ⟨k + 1, S8, ev, by omega, by go_num, HV8.out, hch8, hle8, by omega, hsr8, by rw [hl8]; rw [hl8] at hs8; exact hs8, he8, hb8⟩
        case measure => simp [intOf]; omega
      · dsimp only at hLo hd0 hd1 hd2
        obtain ⟨sp, args, rfl, hal⟩ : ∃ sp args : List Int, sv = sp ++ args ∧ args.length = 2 := ⟨sv.take (sv.length - 2), sv.drop (sv.length - 2), (List.take_append_drop _ _).symm, by rw [List.length_drop]; have := HC.out.2.1; rw [he0] at this; omega⟩
        have HST := Lib.hid (show Ex.vstep (sp ++ args, ev) ⟨7, t, 0⟩ = (sp ++ [Ex.vval ev.length args ⟨7, t, 0⟩], ev) from Ex.vstep_at sp args ev _ (by rw [he0]; omega))
        have HCK0 := Lib.hid (show Ex.chk ((sp.length + 1 : Nat) : Int) (f.drop (k + 1)) = 0 by have h := HC.out.2.2; rw [he0] at h; rw [← h]; first | rfl | (congr 1; simp; done) | (congr 1; simp; omega))
        clear HC he0
        obtain ⟨N, hNe⟩ : ∃ N, (sp ++ args).length = N := ⟨_, rfl⟩
        obtain ⟨P, hPe⟩ : ∃ P, sp.length = P := ⟨_, rfl⟩
        have hNP : N = P + 2 := by rw [← hNe, ← hPe, List.length_append, hal]
        obtain ⟨g, cap, rfl, hgB, hgl, hn1, hn2, hcell⟩ := own_pos hs (by rw [hNe]; omega)
        have hx : ∀ j u, (wordsOf args)[j]? = some u → wr.cell? ⟨g, P + j, none⟩ = some u := fun j u hu => by
          have hlt : j < args.length := by have := (List.getElem?_eq_some_iff.1 hu).1; rwa [wordsOf_len] at this
          rw [hcell (P + j) (by rw [hNe]; omega), wordsOf_app, List.getElem?_append_right (by rw [wordsOf_len]; omega), wordsOf_len, hPe, Nat.add_sub_cancel_left]
          exact hu
        rw [hNe] at hs hn1 hsl ⊢
        have HNN := Lib.hid hPe
        have HPT := Lib.hid (show (wordsOf (sp ++ args)).take P = wordsOf sp by rw [wordsOf_app, List.take_left' (by rw [wordsOf_len]; exact hPe)])
        have HAL := Lib.hid hal
        have e1 : (N : Int) - 2 = (P : Int) := by omega
        have hne : ¬ cap = P := by omega
        have e2 : N - P = args.length := by omega
        have hpN : P ≤ N := by omega
        have z1 : (P : Int) ≤ (cap : Int) := by omega
        have z3 : P ≤ cap := by omega
        have z4 : (P : Int) ≤ (N : Int) := by omega
        have z5 : (N : Int) ≤ (cap : Int) := by omega
        have hTl : 0 < args.length ∧ args.length ≤ 8 := by omega
        clear hcell hNe hPe hNP hal
        have q1 : decide ((N : Int) < 2) = false := by simp; omega
        go_upto_region 6 with fail
        have hx0 := heap_alloc_new wr (.cells #[.int .i64 7, .string (str t), .int .u32 0] 44)
        have hWr : Below wr.heap.size wr (wr.alloc (.cells #[.int .i64 7, .string (str t), .int .u32 0] 44)) := (Below.refl _ _).alloc (Nat.le_refl _) _
        have hWs : wr.heap.size < (wr.alloc (.cells #[.int .i64 7, .string (str t), .int .u32 0] 44)).heap.size := by simp
        generalize wr.alloc (.cells #[.int .i64 7, .string (str t), .int .u32 0] 44) = W at *
        have k2 : (W.alloc (.map #[] 0)).cell? ⟨wr.heap.size, 2, none⟩ = some (.int .u32 0) := cell_alloc _ hWs (by rw [cell_of_row _ _ _ _ _ _ hx0]; rfl)
        have hmm := @run_makeMap Tryd.prog
        have hm0 := World.ownsMap_made W Tryd.prog 3 (plainElem (H := Unit) Tryd.prog 3)
        have hB0 : Below W.heap.size W (W.alloc (.map #[] 0)) := (Below.refl _ _).alloc (Nat.le_refl _) _
        go_upto_region 7 with (first | (refine wpList_insert_own _ rfl _ _ _ 73 rfl 3 3 kInt Tryd.underlying73 (plainElem (H := Unit) Tryd.prog 3) W.heap.size 3 _ rfl hm3 (by unfold maxLen; omega) _ _ _ rfl rfl (keyOf_int_mk Tryd.underlying3 (by decide)) _ [] (plainElem_int Tryd.underlying3 (by decide)) ?_; intro w4 hm4 hg4; have hB4 : Below W.heap.size W w4 := hB3.grown hg4 hB3.size (fun j hj => by cases hj; exact Nat.le_refl _); have kk0 : w4.cell? ⟨wr.heap.size, 0, none⟩ = some (.int .i64 7) := (hB4.cell (p := ⟨wr.heap.size, 0, none⟩) hWs).trans (by rw [cell_of_row _ _ _ _ _ _ hx0]; rfl)) | (refine wpList_insert_own _ rfl _ _ _ 73 rfl 3 3 kInt Tryd.underlying73 (plainElem (H := Unit) Tryd.prog 3) W.heap.size 2 _ rfl hm2 (by unfold maxLen; omega) _ _ _ rfl rfl (keyOf_int_mk Tryd.underlying3 (by decide)) _ [] (plainElem_int Tryd.underlying3 (by decide)) ?_; intro w3 hm3 hg3; have hB3 : Below W.heap.size W w3 := hB2.grown hg3 hB2.size (fun j hj => by cases hj; exact Nat.le_refl _)) | (refine wpList_insert_own _ rfl _ _ _ 73 rfl 3 3 kInt Tryd.underlying73 (plainElem (H := Unit) Tryd.prog 3) W.heap.size 1 _ rfl hm1 (by unfold maxLen; omega) _ _ _ rfl rfl (keyOf_int_mk Tryd.underlying3 (by decide)) _ [] (plainElem_int Tryd.underlying3 (by decide)) ?_; intro w2 hm2 hg2; have hB2 : Below W.heap.size W w2 := hB1.grown hg2 hB1.size (fun j hj => by cases hj; exact Nat.le_refl _)) | (refine wpList_insert_own _ rfl _ _ _ 73 rfl 3 3 kInt Tryd.underlying73 (plainElem (H := Unit) Tryd.prog 3) W.heap.size 0 _ rfl hm0 (by unfold maxLen; omega) _ _ _ rfl rfl (keyOf_int_mk Tryd.underlying3 (by decide)) _ [] (plainElem_int Tryd.underlying3 (WalkArith.wf_i64 (by omega))) ?_; intro w1 hm1 hg1; have hB1 : Below W.heap.size W w1 := hB0.grown hg1 hB0.size (fun j hj => by cases hj; exact Nat.le_refl _)) | (refine wpList_lookup_own_int _ rfl _ _ 73 rfl 3 3 .i64 kInt Tryd.underlying73 Tryd.underlying3 (zInt _) W.heap.size 4 _ rfl hm4 _ _ rfl (keyOf_int_mk Tryd.underlying3 (by decide)) ?_; intro cc hat hwc))
        obtain rfl := tab_7 _ _ hat
        have hbx := (hB4.block wr.heap.size hWs).trans hx0
        have hWr4 : Below wr.heap.size wr w4 := hWr.trans (hB4.mono hWr.size)
        have hs4 := owns_below hs hWr4
        have he4 := owns_below he hWr4
        have hb4 := hb.trans (hWr4.mono hb.size)
        have hW4 : wr.heap.size < w4.heap.size := Nat.lt_of_lt_of_le hWs hB4.size
        clear hm0 hm1 hm2 hm3 hm4 hg1 hg2 hg3 hg4 hB0 hB1 hB2 hB3 hB4 hat hwc kk0 k2 hmm hx0 hWr hs he hWs
        have hcl := clone_some g P (cap - P) args w4 (Nat.lt_of_lt_of_le hgl hWr4.size) (by omega) (by omega) (fun j u hu => (hWr4.cell (p := ⟨g, P + j, none⟩) hgl).trans (hx j u hu))
        rw [← e2] at hcl
        have hE2 := Lib.hid e2
        clear e2 hx
        clear hWr4
        go_upto_region 9 with fail
        go_wp2_with fail
        with_reducible refine hcl.mono ?_
        clear hcl
        rintro e w5 ⟨v2, rfl, hv2, hb5⟩
        have hs5 := owns_below hs4 hb5
        have he5 := owns_below he4 hb5
        have hbx5 := (hb5.block wr.heap.size hW4).trans hbx
        have hb6 := hb4.trans (hb5.mono hb4.size)
        clear hs4 he4 hbx hb4
        rw [hE2.out] at hv2
        obtain ⟨g2, cap2, rfl, hg2, hgl2, _, _, hcell2⟩ := own_pos hv2 hTl.1
        have hs6 := own_take hs5 hpN
        rw [Nat.mul_one, HPT.out] at hs6
        clear hs5 hv2 hb5
        have k0 : w5.cell? ⟨wr.heap.size, 0, none⟩ = some (.int .i64 7) := by rw [cell_of_row _ _ _ _ _ _ hbx5]; rfl
        have k1 : w5.cell? ⟨wr.heap.size, 1, none⟩ = some (.string (str t)) := by rw [cell_of_row _ _ _ _ _ _ hbx5]; rfl
        have k2 : w5.cell? ⟨wr.heap.size, 2, none⟩ = some (.int .u32 0) := by rw [cell_of_row _ _ _ _ _ _ hbx5]; rfl
        have HCK := Lib.hid (show Ex.chk ((P + 1 : Nat) : Int) (f.drop (k + 1)) = 0 by have h := HCK0.out; rwa [HNN.out] at h)
        clear HCK0
        obtain ⟨x0, x1, rfl⟩ := two_args args HAL.out
        have y0 : w5.cell? ⟨g2, 0, none⟩ = some (.int .u32 x0) := hcell2 0 (by simp)
        have y1 : w5.cell? ⟨g2, 1, none⟩ = some (.int .u32 x1) := hcell2 1 (by simp)
        have hr0 := hsr x0 (by simp)
        have hr1 := hsr x1 (by simp)
        clear hcell2
        have hq := binaryQ t x0 x1 hr1.1
        have hu2 := bi_ok t x0 x1 ht
        have hrl := bi_lt (l := t) hr0.1 hr0.2 hr1.1 hr1.2
        have HVV := Lib.hid (show Ex.vval ev.length [x0, x1] ⟨7, t, 0⟩ = (biR t x0 x1).1 from rfl)
        generalize biR t x0 x1 = rr at *
        obtain ⟨r1, r2⟩ := rr
        dsimp only at hu2 hrl hq
        subst hu2
        go_upto_region 28 with fail
        go_quiet ((go_at_call 10; exact Calls.quiet_of_same (hq _)))
        have hWq : Below w5.heap.size w5 (w5.drewN nq) := below_drewN (Below.refl _ w5) nq
        have hs7 := owns_below hs6 hWq
        have he7 := owns_below he5 hWq
        have hb7 := hb6.trans (hWq.mono hb6.size)
        clear hs6 he5 hb6 hWq k0 k1 k2 y0 hq hbx5 y1
        generalize w5.drewN nq = w7 at *
        have hrow := hs7.lt
        have hVE := Lib.hid (show Ex.vval ev.length [x0, x1] ⟨7, t, 0⟩ = r1 from HVV.out)
        have hRG := Lib.hid (show 0 ≤ r1 ∧ r1 < 4294967296 from hrl)
        go_upto_region 32 with (at_builtin; refine wpList_append_lies _ (by rfl) _ _ 72 (by rfl) w.heap.size 22 i0 _ 1 4 Tryd.underlying72 hi0 hz0 hz1 hz2 rfl (by omega) (.slice (some ⟨g, 0, none⟩) P cap) (P) _ (by rfl) (hs7.alloc _) ⟨w7.heap.size, 0, none⟩ 1 1 [.int .u32 (r1)] (by rfl) (by rfl) (World.news_of_block (cs := #[_]) (t := 22) (fr := (0, 0)) (heap_alloc_new w7 _)) (by simp [Value.oneCell']) (by omega) (by unfold maxLen; omega) (by omega) (by have := hb7.size; simp; omega) _ rfl ?_; intro gg cap3 w8 hs8 hgrow hat hlt8)
        have hb8 : Below w.heap.size w w8 := grown_own (hb7.alloc hb7.size _) hgrow (fun j hj => (hrow j hj).1)
        have he8 := (he7.alloc (.cells #[.int .u32 (r1)] 22)).kept hgrow (own_ne2 hs7 he7 (by decide))
        rw [show wordsOf sp ++ [.int .u32 (r1)] = wordsOf (sp ++ [r1]) by rw [wordsOf_app]; rfl] at hs8
        have hl8 : (sp ++ [r1]).length = P + 1 := by rw [List.length_append, HNN.out]; rfl
        rw [← hl8] at hs8
        have HV8 := Lib.hid (show Ex.vrun (f.take (k + 1)) = (sp ++ [r1], ev) by rw [HN.out, HST.out, hVE.out]; try rfl)
        have hch8 : Ex.chk ((sp ++ [r1]).length : Nat) (f.drop (k + 1)) = 0 := by rw [hl8]; exact HCK.out
        have hsr8 : ∀ x ∈ sp ++ [r1], 0 ≤ x ∧ x < 4294967296 := fun x hx => by
          rcases List.mem_append.1 hx with hx | hx
          · exact hsr x (by simp [hx])
          · simp at hx; subst hx; exact hRG.out
        have hle8 : (sp ++ [r1]).length ≤ k + 1 := by omega
        generalize sp ++ [r1] = S8 at *
        clear hs7 he7 hb7 hgrow hat hrow HN HST HCK hVE hRG
        go_wp2_with fail
        go_roundw
        case rel => exact ⟨k + 1, S8, ev, by omega, by go_num, HV8.out, hch8, hle8, by omega, hsr8, by rw [hl8]; rw [hl8] at hs8; exact hs8, he8, hb8⟩
        case measure => simp [intOf]; omega
    · have b1 : decide ((k : Int) < f.length) = false := by simp; omega
      have b1n : decide (k < f.length) = false := by simp; omega
      have hS1 : sv.length = 1 := by
        have h := HCH.out
        rw [List.drop_of_length_le (by omega)] at h
        simp only [Ex.chk] at h
        split at h
        · omega
        · cases h
      obtain ⟨x, rfl⟩ := List.length_eq_one_iff.1 hS1
      have HF := Lib.hid (show Ex.vrun f = ([x], ev) by have h := HVR.out; rwa [List.take_of_length_le (by omega)] at h)
      obtain ⟨g, cap, rfl, hgB, hgl, hn1, hn2, hcell⟩ := own_pos hs (by simp)
      have x0 : wr.cell? ⟨g, 0, none⟩ = some (.int .u32 x) := hcell 0 (by simp)
      clear hcell hs HVR HCH
      go_wp2_with fail
      rw [HF.out]
      exact bodyPost_ret (v := .tuple #[.int .u32 x, _, .bool true]) (by simp [results, Tryd.results17, go_sem]) rfl ⟨_, rfl, he, by show ev.length ≤ 256; omega, hb⟩
end Go.Proofs.YtkkkiacbikbalaaDoor
