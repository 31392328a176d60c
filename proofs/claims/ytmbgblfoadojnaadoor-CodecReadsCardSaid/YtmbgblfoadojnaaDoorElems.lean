/- Lists that a reader reads. No condition but the string's length. -/
import Derived.Test.YtmbgblfoadojnaaDoorFns
import Derived.Deep.AppendLies
namespace Go.Proofs.YtmbgblfoadojnaaDoor
open Go.RowKit

theorem infoI : (Tryd.prog.info? 3).map (fun i => (i.zero, i.size, i.bytes)) = some (some (.int .i64 0), 1, 8) := by kernel_rfl
theorem infoS : (Tryd.prog.info? 9).map (fun i => (i.zero, i.size, i.bytes)) = some (some (.string ⟨#[]⟩), 1, 16) := by kernel_rfl
theorem grown_own {w W w2 : World} {b : Nat} {row : Option Nat} (h : w.grownBy W (some b)) (hg : W.grownBy w2 row) (hr : ∀ k, row = some k → w.heap.size ≤ k) : w.grownBy w2 (some b) :=
  ⟨hg.os.trans h.os, hg.tape.trans h.tape, hg.output.trans h.output, Nat.le_trans h.size hg.size, fun i hi hne => (hg.block i (Nat.lt_of_lt_of_le hi h.size) (fun e => by have := hr i e.symm; omega)).trans (h.block i hi hne)⟩
theorem grown_alloc {w W : World} {b : Nat} (h : w.grownBy W (some b)) (o : Obj) : w.grownBy (W.alloc o) (some b) := grown_trans h (World.grownBy_alloc W o _)
theorem number_le (low high : Int) (r : Cod.Rd) (_ : low ≤ 0) (_ : 0 ≤ high) : 0 ≤ (Cod.number low high r).1 ∧ (Cod.number low high r).1 ≤ high ∨ (Cod.number low high r).2.err ≠ 0 := by
  by_cases h : (Cod.number low high r).2.err = 0
  · obtain ⟨_, n, e, _, h2, h3, _⟩ := Cod.number_ok low high r h
    left; rw [e]; omega
  · exact .inr h
theorem number_zero (low high : Int) (r : Cod.Rd) (h : (Cod.number low high r).2.err ≠ 0) (hr : r.err ≠ 0 ∨ r.err = 0) : (Cod.number low high r).1 = 0 := by
  obtain ⟨l, e⟩ := r
  rcases hr with hr | hr
  · rw [(Cod.number_stops low high).1 _ hr]
  · simp only at hr
    subst hr
    exact ((Cod.number_stops low high).2 l h).1
/-- A text of a list, as a string. -/
def nextT (most : Int) (r : Cod.Rd) : ByteArray × Cod.Rd := (str (Cod.text most r).1, (Cod.text most r).2)
theorem nextT_short (most : Int) (r : Cod.Rd) : (nextT most r).2.rest.length ≤ r.rest.length := Cod.text_short most r
theorem txtFn_next (b p0 p1 : Nat) (most : Int) (s : ByteArray) (err : Int) (w : World) (h : RdAt w b s err) (hs : s.size ≤ 1000000000)
    (k0 : w.cell? ⟨p0, 0, none⟩ = some (.pointer (some ⟨b, 0, none⟩))) (k1 : w.cell? ⟨p1, 0, none⟩ = some (.int .i64 most)) :
    Calls Tryd.prog 48 #[.pointer (some ⟨p0, 0, none⟩), .pointer (some ⟨p1, 0, none⟩)] w fun x w' =>
      x = .returned (.string (nextT most ⟨s.data.toList, err⟩).1) ∧ RdAt w' b (str (nextT most ⟨s.data.toList, err⟩).2.rest) (nextT most ⟨s.data.toList, err⟩).2.err ∧ w.grownBy w' (some b) := txtFn_any b p0 p1 most s err w h hs k0 k1
theorem number_err (low high : Int) (r : Cod.Rd) (h : (Cod.number low high r).2.err ≠ 0) : (Cod.number low high r).1 = 0 := number_zero low high r h (by omega)

/-- What Numbers of a reader leaves. -/
def GotI (w : World) (b : Nat) (R : List Int × Cod.Rd) : Ending → World → Prop := fun x w' => ∃ v, x = .returned v ∧ w'.ownsRow w.heap.size 3 1 v R.1.length (intsOf R.1) ∧ RdAt w' b (str R.2.rest) R.2.err ∧ w.grownBy w' (some b)
theorem intsOf_snoc (xs : List Int) (x : Int) : intsOf xs ++ [Value.int .i64 x] = intsOf (xs ++ [x]) := by simp [intsOf]
theorem intsOf_len (xs : List Int) : (intsOf xs).length = xs.length := by simp [intsOf]
set_option maxHeartbeats 4000000 in
set_option maxRecDepth 100000 in
theorem elemsI_any (b p0 p1 p2 : Nat) (low high : Int) (s : ByteArray) (err : Int) (w : World) (h : RdAt w b s err) (hs : s.size ≤ 1000000000) (n0 : p0 ≠ b) (n1 : p1 ≠ b) (n2 : p2 ≠ b)
    (k0 : w.cell? ⟨p0, 0, none⟩ = some (.pointer (some ⟨b, 0, none⟩))) (k1 : w.cell? ⟨p1, 0, none⟩ = some (.int .i64 low)) (k2 : w.cell? ⟨p2, 0, none⟩ = some (.int .i64 high)) :
    Calls Tryd.prog 45 #[.pointer (some ⟨b, 0, none⟩), .func (Fn.func 46) #[] #[.pointer (some ⟨p0, 0, none⟩), .pointer (some ⟨p1, 0, none⟩), .pointer (some ⟨p2, 0, none⟩)]] w (GotI w b (Cod.list (Cod.number low high) ⟨s.data.toList, err⟩)) := by
  obtain ⟨i0, hi0, hz0, hz1, hz2⟩ := info_parts infoI
  have hb := h.lt
  have hc : Calls Tryd.prog 20 #[.pointer (some ⟨b, 0, none⟩), .int .i64 0, .int .i64 1024] w _ := rdNumber_any b 0 1024 s err w h hs
  have hnle := number_le 0 1024 ⟨s.data.toList, err⟩ (by omega) (by omega)
  have hnerr := number_err 0 1024 ⟨s.data.toList, err⟩
  have hshort := Cod.number_short 0 1024 ⟨s.data.toList, err⟩
  have HL := Lib.hid (show Cod.list (Cod.number low high) ⟨s.data.toList, err⟩ = Cod.loop (Cod.number low high) (Cod.number 0 1024 ⟨s.data.toList, err⟩).1.toNat (Cod.number 0 1024 ⟨s.data.toList, err⟩).2 [] from rfl)
  generalize Cod.list (Cod.number low high) ⟨s.data.toList, err⟩ = R at *
  generalize Cod.number 0 1024 ⟨s.data.toList, err⟩ = D at *
  obtain ⟨n, ⟨l0, e0⟩⟩ := D
  have hl0 : l0.length ≤ 1000000000 := by have h1 : l0.length ≤ s.data.toList.length := hshort; have h2 : s.data.toList.length = s.size := rfl; omega
  obtain ⟨N, hN, hN2, hNe⟩ : ∃ N : Nat, n = (N : Int) ∧ N ≤ 1024 ∧ (e0 ≠ 0 → N = 0) := by
    by_cases he : e0 = 0
    · rcases hnle with hh | hh
      · have h1 : 0 ≤ n := hh.1
        have h2 : n ≤ 1024 := hh.2
        exact ⟨n.toNat, by omega, by omega, fun hx => absurd he hx⟩
      · exact absurd he hh
    · have h1 : n = 0 := hnerr he
      exact ⟨0, by omega, by omega, fun _ => rfl⟩
  subst hN
  clear hnle hnerr hshort
  go_enter Tryd.func45, Tryd.ntmps45
  go_wp2_with fail
  refine hc.mono ?_
  clear hc
  rintro x w1 ⟨rfl, h1, hg1⟩
  have HR : Hid (R = Cod.loop (Cod.number low high) N ⟨l0, e0⟩ []) := Lib.hid HL.out
  clear HL
  go_wp2_with fail
  go_loopw [5, 8] (fun v i wr => ∃ (k : Nat) (xs : List Int) (r : Cod.Rd), k ≤ N ∧ i = .int .i64 k ∧ xs.length = k ∧ wr.ownsRow w.heap.size 3 1 v xs.length (intsOf xs) ∧ RdAt wr b (str r.rest) r.err ∧ (r.err ≠ 0 → k = N) ∧ r.rest.length ≤ 1000000000 ∧ R = Cod.loop (Cod.number low high) (N - k) r xs ∧ w.grownBy wr (some b)) (fun _ i _ => N - (intOf i).toNat)
  case atStart => exact ⟨0, [], ⟨l0, e0⟩, by omega, rfl, rfl, World.ownsRow_nil _ _ _ _, h1, fun he => (hNe he).symm, hl0, HR.out, hg1⟩
  case round =>
    clear h1 hg1
    obtain ⟨k, xs, r, hk, rfl, hxk, hown, hr, hre, hrl, hR, hg⟩ := hrel
    have HXK := Lib.hid hxk
    have HRR := Lib.hid hR
    clear hxk hR
    by_cases hlt : k < N
    · have hre0 : r.err = 0 := by
        by_cases hx : r.err = 0
        · exact hx
        · exact absurd (hre hx) (by omega)
      obtain ⟨rl, re⟩ := r
      simp only at hre0 hr hrl hre
      subst hre0
      have hcall := numFn_any b p0 p1 p2 low high (str rl) 0 wr hr (by rw [str_size]; omega) ((hg.cell k0 (by simp; exact n0))) ((hg.cell k1 (by simp; exact n1))) ((hg.cell k2 (by simp; exact n2)))
      rw [str_data] at hcall
      have hsh := Cod.number_short low high ⟨rl, 0⟩
      have HST := Lib.hid (show R = if ((Cod.number low high) ⟨rl, 0⟩).2.err = 0 then Cod.loop (Cod.number low high) (N - (k + 1)) ((Cod.number low high) ⟨rl, 0⟩).2 (xs ++ [((Cod.number low high) ⟨rl, 0⟩).1]) else ([], ((Cod.number low high) ⟨rl, 0⟩).2) by
        rw [HRR.out, show N - k = (N - (k + 1)) + 1 by omega, Cod.loop])
      generalize (Cod.number low high) ⟨rl, 0⟩ = D at *
      obtain ⟨y, ⟨l1, e1⟩⟩ := D
      have hl1 : l1.length ≤ 1000000000 := by have h1 : l1.length ≤ rl.length := hsh; omega
      clear hsh
      have b9 : decide ((k : Int) < (N : Int)) = true := by simp; omega
      have b9n : decide (k < N) = true := by simp; omega
      go_wp2_with fail
      refine hcall.mono ?_
      clear hcall
      rintro x w2 ⟨rfl, h2, hg2⟩
      have hown2 : w2.ownsRow w.heap.size 3 1 u5 xs.length (intsOf xs) := hown.kept hg2 (by
        have hlt2 := hown.lt
        cases hv : u5.ownBlock with
        | none => exact .inl rfl
        | some k' => exact .inr (fun hx => by have := (hlt2 k' hv).1; cases hx; omega))
      have hgw := grown_trans hg hg2
      have hrow := hown2.lt
      have c1 := h2.c1
      clear hown hg hg2 hr
      go_upto_region 5 with (at_builtin; refine wpList_append_lies _ (by rfl) _ _ 22 (by rfl) w.heap.size 3 i0 _ 1 8 Tryd.underlying22 hi0 hz0 hz1 hz2 rfl (by omega) u5 xs.length _ (by rfl) (hown2.alloc _) ⟨w2.heap.size, 0, none⟩ 1 1 [_] (by rfl) (by rfl) (World.news_of_block (cs := #[_]) (t := 3) (fr := (0, 0)) (heap_alloc_new w2 _)) (by simp [Value.oneCell']) (by omega) (by have := HXK.out; unfold maxLen; omega) (by have := HXK.out; omega) (by have := hgw.size; simp; omega) (w2.heap.size + 1) (by simp) ?_; intro gg cap w3 hown3 hgrow hat hlt3)
      have h3 : RdAt w3 b (str l1) e1 := by
        refine (hgrow.block b (by have := h2.lt; simp; omega) (fun hx => ?_)).trans ((heap_alloc_old w2 _ h2.lt).trans h2)
        have := (hrow b hx.symm).1
        omega
      have hg3 : w.grownBy w3 (some b) := grown_own (grown_alloc hgw _) hgrow (fun k' hk' => (hrow k' hk').1)
      have hs3 : w3.ownsRow w.heap.size 3 1 (.slice (some ⟨gg, 0, none⟩) (xs.length + 1) cap) (xs ++ [y]).length (intsOf (xs ++ [y])) := by
        rw [← intsOf_snoc, List.length_append, List.length_singleton]; exact hown3
      clear c1 hgrow hat hlt3 hown3 hgw hrow hown2 h2
      have c1 := h3.c1
      by_cases he1 : e1 = 0
      · subst he1
        have hT := HST.out
        simp only [if_pos] at hT
        have HT := Lib.hid hT
        have hxl : (xs ++ [y]).length = k + 1 := by rw [List.length_append, List.length_singleton, HXK.out]
        have HXL := Lib.hid hxl
        clear hT hxl HST
        go_wp2_with fail
        go_roundw
        case rel => exact ⟨k + 1, xs ++ [y], ⟨l1, 0⟩, by omega, by go_num, HXL.out, by have := HXK.out; exact hs3, h3, fun hx => absurd rfl hx, hl1, HT.out, hg3⟩
        case measure => simp [intOf]; omega
      · have q1 : (e1 != 0) = true := by rw [bne_iff_ne]; exact he1
        have hT := HST.out
        rw [if_neg (show ¬ (⟨l1, e1⟩ : Cod.Rd).err = 0 from he1)] at hT
        have HT := Lib.hid hT
        clear hT he1 HST
        go_wp2_with fail
        go_ret
        rw [HT.out]
        exact ⟨.slice none 0 0, rfl, World.ownsRow_nil _ _ _ _, h3, hg3⟩
    · have hkN : k = N := by omega
      have b9 : decide ((k : Int) < (N : Int)) = false := by simp; omega
      have b9n : decide (k < N) = false := by simp; omega
      have hR := HRR.out
      rw [hkN, Nat.sub_self, Cod.loop] at hR
      have HT := Lib.hid hR
      clear hR hkN
      go_wp2_with fail
      go_ret
      rw [HT.out]
      exact ⟨u5, rfl, hown, hr, hg⟩

/-- What Texts of a reader leaves. -/
def GotS (w : World) (b : Nat) (R : List ByteArray × Cod.Rd) : Ending → World → Prop := fun x w' => ∃ v, x = .returned v ∧ w'.ownsRow w.heap.size 9 1 v R.1.length (strsOf R.1) ∧ RdAt w' b (str R.2.rest) R.2.err ∧ w.grownBy w' (some b)
theorem strsOf_snoc (xs : List ByteArray) (x : ByteArray) : strsOf xs ++ [Value.string x] = strsOf (xs ++ [x]) := by simp [strsOf]
theorem strsOf_len (xs : List ByteArray) : (strsOf xs).length = xs.length := by simp [strsOf]
set_option maxHeartbeats 4000000 in
set_option maxRecDepth 100000 in
theorem elemsS_any (b p0 p1 : Nat) (most : Int) (s : ByteArray) (err : Int) (w : World) (h : RdAt w b s err) (hs : s.size ≤ 1000000000) (n0 : p0 ≠ b) (n1 : p1 ≠ b)
    (k0 : w.cell? ⟨p0, 0, none⟩ = some (.pointer (some ⟨b, 0, none⟩))) (k1 : w.cell? ⟨p1, 0, none⟩ = some (.int .i64 most)) :
    Calls Tryd.prog 47 #[.pointer (some ⟨b, 0, none⟩), .func (Fn.func 48) #[] #[.pointer (some ⟨p0, 0, none⟩), .pointer (some ⟨p1, 0, none⟩)]] w (GotS w b (Cod.list (nextT most) ⟨s.data.toList, err⟩)) := by
  obtain ⟨i0, hi0, hz0, hz1, hz2⟩ := info_parts infoS
  have hb := h.lt
  have hc : Calls Tryd.prog 20 #[.pointer (some ⟨b, 0, none⟩), .int .i64 0, .int .i64 1024] w _ := rdNumber_any b 0 1024 s err w h hs
  have hnle := number_le 0 1024 ⟨s.data.toList, err⟩ (by omega) (by omega)
  have hnerr := number_err 0 1024 ⟨s.data.toList, err⟩
  have hshort := Cod.number_short 0 1024 ⟨s.data.toList, err⟩
  have HL := Lib.hid (show Cod.list (nextT most) ⟨s.data.toList, err⟩ = Cod.loop (nextT most) (Cod.number 0 1024 ⟨s.data.toList, err⟩).1.toNat (Cod.number 0 1024 ⟨s.data.toList, err⟩).2 [] from rfl)
  generalize Cod.list (nextT most) ⟨s.data.toList, err⟩ = R at *
  generalize Cod.number 0 1024 ⟨s.data.toList, err⟩ = D at *
  obtain ⟨n, ⟨l0, e0⟩⟩ := D
  have hl0 : l0.length ≤ 1000000000 := by have h1 : l0.length ≤ s.data.toList.length := hshort; have h2 : s.data.toList.length = s.size := rfl; omega
  obtain ⟨N, hN, hN2, hNe⟩ : ∃ N : Nat, n = (N : Int) ∧ N ≤ 1024 ∧ (e0 ≠ 0 → N = 0) := by
    by_cases he : e0 = 0
    · rcases hnle with hh | hh
      · have h1 : 0 ≤ n := hh.1
        have h2 : n ≤ 1024 := hh.2
        exact ⟨n.toNat, by omega, by omega, fun hx => absurd he hx⟩
      · exact absurd he hh
    · have h1 : n = 0 := hnerr he
      exact ⟨0, by omega, by omega, fun _ => rfl⟩
  subst hN
  clear hnle hnerr hshort
  go_enter Tryd.func47, Tryd.ntmps47
  go_wp2_with fail
  refine hc.mono ?_
  clear hc
  rintro x w1 ⟨rfl, h1, hg1⟩
  have HR : Hid (R = Cod.loop (nextT most) N ⟨l0, e0⟩ []) := Lib.hid HL.out
  clear HL
  go_wp2_with fail
  go_loopw [5, 8] (fun v i wr => ∃ (k : Nat) (xs : List ByteArray) (r : Cod.Rd), k ≤ N ∧ i = .int .i64 k ∧ xs.length = k ∧ wr.ownsRow w.heap.size 9 1 v xs.length (strsOf xs) ∧ RdAt wr b (str r.rest) r.err ∧ (r.err ≠ 0 → k = N) ∧ r.rest.length ≤ 1000000000 ∧ R = Cod.loop (nextT most) (N - k) r xs ∧ w.grownBy wr (some b)) (fun _ i _ => N - (intOf i).toNat)
  case atStart => exact ⟨0, [], ⟨l0, e0⟩, by omega, rfl, rfl, World.ownsRow_nil _ _ _ _, h1, fun he => (hNe he).symm, hl0, HR.out, hg1⟩
  case round =>
    clear h1 hg1
    obtain ⟨k, xs, r, hk, rfl, hxk, hown, hr, hre, hrl, hR, hg⟩ := hrel
    have HXK := Lib.hid hxk
    have HRR := Lib.hid hR
    clear hxk hR
    by_cases hlt : k < N
    · have hre0 : r.err = 0 := by
        by_cases hx : r.err = 0
        · exact hx
        · exact absurd (hre hx) (by omega)
      obtain ⟨rl, re⟩ := r
      simp only at hre0 hr hrl hre
      subst hre0
      have hcall := txtFn_next b p0 p1 most (str rl) 0 wr hr (by rw [str_size]; omega) ((hg.cell k0 (by simp; exact n0))) ((hg.cell k1 (by simp; exact n1)))
      rw [str_data] at hcall
      have hsh := nextT_short most ⟨rl, 0⟩
      have HST := Lib.hid (show R = if ((nextT most) ⟨rl, 0⟩).2.err = 0 then Cod.loop (nextT most) (N - (k + 1)) ((nextT most) ⟨rl, 0⟩).2 (xs ++ [((nextT most) ⟨rl, 0⟩).1]) else ([], ((nextT most) ⟨rl, 0⟩).2) by
        rw [HRR.out, show N - k = (N - (k + 1)) + 1 by omega, Cod.loop])
      generalize (nextT most) ⟨rl, 0⟩ = D at *
      obtain ⟨y, ⟨l1, e1⟩⟩ := D
      have hl1 : l1.length ≤ 1000000000 := by have h1 : l1.length ≤ rl.length := hsh; omega
      clear hsh
      have b9 : decide ((k : Int) < (N : Int)) = true := by simp; omega
      have b9n : decide (k < N) = true := by simp; omega
      go_wp2_with fail
      refine hcall.mono ?_
      clear hcall
      rintro x w2 ⟨rfl, h2, hg2⟩
      have hown2 : w2.ownsRow w.heap.size 9 1 u5 xs.length (strsOf xs) := hown.kept hg2 (by
        have hlt2 := hown.lt
        cases hv : u5.ownBlock with
        | none => exact .inl rfl
        | some k' => exact .inr (fun hx => by have := (hlt2 k' hv).1; cases hx; omega))
      have hgw := grown_trans hg hg2
      have hrow := hown2.lt
      have c1 := h2.c1
      clear hown hg hg2 hr
      go_upto_region 5 with (at_builtin; refine wpList_append_lies _ (by rfl) _ _ 29 (by rfl) w.heap.size 9 i0 _ 1 16 Tryd.underlying29 hi0 hz0 hz1 hz2 rfl (by omega) u5 xs.length _ (by rfl) (hown2.alloc _) ⟨w2.heap.size, 0, none⟩ 1 1 [_] (by rfl) (by rfl) (World.news_of_block (cs := #[_]) (t := 9) (fr := (0, 0)) (heap_alloc_new w2 _)) (by simp [Value.oneCell']) (by omega) (by have := HXK.out; unfold maxLen; omega) (by have := HXK.out; omega) (by have := hgw.size; simp; omega) (w2.heap.size + 1) (by simp) ?_; intro gg cap w3 hown3 hgrow hat hlt3)
      have h3 : RdAt w3 b (str l1) e1 := by
        refine (hgrow.block b (by have := h2.lt; simp; omega) (fun hx => ?_)).trans ((heap_alloc_old w2 _ h2.lt).trans h2)
        have := (hrow b hx.symm).1
        omega
      have hg3 : w.grownBy w3 (some b) := grown_own (grown_alloc hgw _) hgrow (fun k' hk' => (hrow k' hk').1)
      have hs3 : w3.ownsRow w.heap.size 9 1 (.slice (some ⟨gg, 0, none⟩) (xs.length + 1) cap) (xs ++ [y]).length (strsOf (xs ++ [y])) := by
        rw [← strsOf_snoc, List.length_append, List.length_singleton]; exact hown3
      clear c1 hgrow hat hlt3 hown3 hgw hrow hown2 h2
      have c1 := h3.c1
      by_cases he1 : e1 = 0
      · subst he1
        have hT := HST.out
        simp only [if_pos] at hT
        have HT := Lib.hid hT
        have hxl : (xs ++ [y]).length = k + 1 := by rw [List.length_append, List.length_singleton, HXK.out]
        have HXL := Lib.hid hxl
        clear hT hxl HST
        go_wp2_with fail
        go_roundw
        case rel => exact ⟨k + 1, xs ++ [y], ⟨l1, 0⟩, by omega, by go_num, HXL.out, by have := HXK.out; exact hs3, h3, fun hx => absurd rfl hx, hl1, HT.out, hg3⟩
        case measure => simp [intOf]; omega
      · have q1 : (e1 != 0) = true := by rw [bne_iff_ne]; exact he1
        have hT := HST.out
        rw [if_neg (show ¬ (⟨l1, e1⟩ : Cod.Rd).err = 0 from he1)] at hT
        have HT := Lib.hid hT
        clear hT he1 HST
        go_wp2_with fail
        go_ret
        rw [HT.out]
        exact ⟨.slice none 0 0, rfl, World.ownsRow_nil _ _ _ _, h3, hg3⟩
    · have hkN : k = N := by omega
      have b9 : decide ((k : Int) < (N : Int)) = false := by simp; omega
      have b9n : decide (k < N) = false := by simp; omega
      have hR := HRR.out
      rw [hkN, Nat.sub_self, Cod.loop] at hR
      have HT := Lib.hid hR
      clear hR hkN
      go_wp2_with fail
      go_ret
      rw [HT.out]
      exact ⟨u5, rfl, hown, hr, hg⟩
end Go.Proofs.YtmbgblfoadojnaaDoor
