/- The reference's reader: lists. No condition but the string's length. -/
import Derived.Test.YtmbgblfoadojnaaDoorQtxt
import Derived.Test.YtmbgblfoadojnaaDoorElems
import Derived.Test.YtmbgblfoadojnaaDoorInv
namespace Go.Proofs.YtmbgblfoadojnaaDoor
open Go.RowKit

theorem QdAt.below {w w' : World} {b : Nat} {s : ByteArray} {e : Int} (h : QdAt w b s e) (hb : Below w.heap.size w w') : QdAt w' b s e := (hb.block b h.lt).trans h
theorem qNext_any (b : Nat) (most : Int) (s : ByteArray) (err : Int) (w : World) (h : QdAt w b s err) (hs : s.size ≤ 1000000000) :
    Calls Tryd.prog 23 #[.pointer (some ⟨b, 0, none⟩), .int .i64 most] w fun x w' =>
      x = .returned (.string (nextT most ⟨s.data.toList, err⟩).1) ∧ QdAt w' b (str (nextT most ⟨s.data.toList, err⟩).2.rest) (nextT most ⟨s.data.toList, err⟩).2.err ∧ w.grownBy w' (some b) := qText_any b most s err w h hs

/-- What Numbers of a reader of the reference leaves. -/
def GotQI (w : World) (b : Nat) (R : List Int × Cod.Rd) : Ending → World → Prop := fun x w' => ∃ v, x = .returned v ∧ w'.ownsRow w.heap.size 3 1 v R.1.length (intsOf R.1) ∧ QdAt w' b (str R.2.rest) R.2.err ∧ w.grownBy w' (some b)
set_option maxHeartbeats 4000000 in
set_option maxRecDepth 100000 in
theorem qNumbers_any (b : Nat) (low high : Int) (s : ByteArray) (err : Int) (w : World) (h : QdAt w b s err) (hs : s.size ≤ 1000000000) :
    Calls Tryd.prog 26 #[.pointer (some ⟨b, 0, none⟩), .int .i64 low, .int .i64 high] w (GotQI w b (Cod.list (Cod.number low high) ⟨s.data.toList, err⟩)) := by
  obtain ⟨i0, hi0, hz0, hz1, hz2⟩ := info_parts infoI
  have hb := h.lt
  have hc : Calls Tryd.prog 21 #[.pointer (some ⟨b, 0, none⟩), .int .i64 0, .int .i64 1024] w _ := qNumber_any b 0 1024 s err w h hs
  have hnle := number_le 0 1024 ⟨s.data.toList, err⟩ (by omega) (by omega)
  have hnerr := number_err 0 1024 ⟨s.data.toList, err⟩
  have hshort := Cod.number_short 0 1024 ⟨s.data.toList, err⟩
  have HL := Lib.hid (show Cod.list (Cod.number low high) ⟨s.data.toList, err⟩ = Cod.loop (Cod.number low high) (Cod.number 0 1024 ⟨s.data.toList, err⟩).1.toNat (Cod.number 0 1024 ⟨s.data.toList, err⟩).2 [] from rfl)
  generalize Cod.list (Cod.number low high) ⟨s.data.toList, err⟩ = R at *
  generalize Cod.number 0 1024 ⟨s.data.toList, err⟩ = D at *
  obtain ⟨n, ⟨l0, e0⟩⟩ := D
  have hl0 : l0.length ≤ 1000000000 := by have h1 : l0.length ≤ s.data.toList.length := hshort; have h2 : s.data.toList.length = s.size := rfl; omega
  obtain ⟨N, hN, hN2, hNe⟩ : ∃ N : Nat, n = (N : Int) ∧ N ≤ 1024 ∧ (e0 ≠ 0 → N = 0) := by
    by_cases he : e0 = 0
    · rcases hnle with hh | hh
      · have h1 : 0 ≤ n := hh.1
        have h2 : n ≤ 1024 := hh.2
        exact ⟨n.toNat, by omega, by omega, fun hx => absurd he hx⟩
      · exact absurd he hh
    · have h1 : n = 0 := hnerr he
      exact ⟨0, by omega, by omega, fun _ => rfl⟩
  subst hN
  clear hnle hnerr hshort
  go_enter Tryd.func26, Tryd.ntmps26
  go_wp2_with fail
  refine hc.mono ?_
  clear hc
  rintro x w1 ⟨rfl, h1, hg1⟩
  have HR : Hid (R = Cod.loop (Cod.number low high) N ⟨l0, e0⟩ []) := Lib.hid HL.out
  clear HL
  go_wp2_with fail
  go_loopw [8, 9] (fun v i wr => ∃ (k : Nat) (xs : List Int) (r : Cod.Rd), k ≤ N ∧ i = .int .i64 k ∧ xs.length = k ∧ wr.ownsRow w.heap.size 3 1 v xs.length (intsOf xs) ∧ QdAt wr b (str r.rest) r.err ∧ r.rest.length ≤ 1000000000 ∧ ((r.err = 0 ∧ R = Cod.loop (Cod.number low high) (N - k) r xs) ∨ (r.err ≠ 0 ∧ R = ([], r))) ∧ w.grownBy wr (some b)) (fun _ i _ => N - (intOf i).toNat)
  case atStart =>
    refine ⟨0, [], ⟨l0, e0⟩, by omega, rfl, rfl, World.ownsRow_nil _ _ _ _, h1, hl0, ?_, hg1⟩
    by_cases he : e0 = 0
    · exact .inl ⟨he, HR.out⟩
    · exact .inr ⟨he, by rw [HR.out, hNe he]; rfl⟩
  case round =>
    clear h1 hg1 HR
    obtain ⟨k, xs, r, hk, rfl, hxk, hown, hr, hrl, hR, hg⟩ := hrel
    have HXK := Lib.hid hxk
    clear hxk
    have c1 := hr.c1
    rcases hR with ⟨hre0, hR⟩ | ⟨hre, hR⟩
    · have HRR := Lib.hid hR
      clear hR
      obtain ⟨rl, re⟩ := r
      simp only at hre0 hr hrl c1
      subst hre0
      by_cases hlt : k < N
      · have hcall := qNumber_any b low high (str rl) 0 wr hr (by rw [str_size]; omega)
        rw [str_data] at hcall
        have hsh := Cod.number_short low high ⟨rl, 0⟩
        have HST := Lib.hid (show R = if ((Cod.number low high) ⟨rl, 0⟩).2.err = 0 then Cod.loop (Cod.number low high) (N - (k + 1)) ((Cod.number low high) ⟨rl, 0⟩).2 (xs ++ [((Cod.number low high) ⟨rl, 0⟩).1]) else ([], ((Cod.number low high) ⟨rl, 0⟩).2) by
          rw [HRR.out, show N - k = (N - (k + 1)) + 1 by omega, Cod.loop])
        generalize (Cod.number low high) ⟨rl, 0⟩ = D at *
        obtain ⟨y, ⟨l1, e1⟩⟩ := D
        have hl1 : l1.length ≤ 1000000000 := by have h1 : l1.length ≤ rl.length := hsh; omega
        clear hsh
        have b9 : decide ((k : Int) < (N : Int)) = true := by simp; omega
        have b9n : decide (k < N) = true := by simp; omega
        go_wp2_with fail
        refine hcall.mono ?_
        clear hcall
        rintro x w2 ⟨rfl, h2, hg2⟩
        have hown2 : w2.ownsRow w.heap.size 3 1 u8 xs.length (intsOf xs) := hown.kept hg2 (by
          have hlt2 := hown.lt
          cases hv : u8.ownBlock with
          | none => exact .inl rfl
          | some k' => exact .inr (fun hx => by have := (hlt2 k' hv).1; cases hx; omega))
        have hgw := grown_trans hg hg2
        have hrow := hown2.lt
        clear hown hg hg2 hr c1
        go_upto_region 5 with (at_builtin; refine wpList_append_lies _ (by rfl) _ _ 22 (by rfl) w.heap.size 3 i0 _ 1 8 Tryd.underlying22 hi0 hz0 hz1 hz2 rfl (by omega) u8 xs.length _ (by rfl) (hown2.alloc _) ⟨w2.heap.size, 0, none⟩ 1 1 [_] (by rfl) (by rfl) (World.news_of_block (cs := #[_]) (t := 3) (fr := (0, 0)) (heap_alloc_new w2 _)) (by simp [Value.oneCell']) (by omega) (by have := HXK.out; unfold maxLen; omega) (by have := HXK.out; omega) (by have := hgw.size; simp; omega) (w2.heap.size + 1) (by simp) ?_; intro gg cap w3 hown3 hgrow hat hlt3)
        have h3 : QdAt w3 b (str l1) e1 := by
          refine (hgrow.block b (by have := h2.lt; simp; omega) (fun hx => ?_)).trans ((heap_alloc_old w2 _ h2.lt).trans h2)
          have := (hrow b hx.symm).1
          omega
        have hg3 : w.grownBy w3 (some b) := grown_own (grown_alloc hgw _) hgrow (fun k' hk' => (hrow k' hk').1)
        have hs3 : w3.ownsRow w.heap.size 3 1 (.slice (some ⟨gg, 0, none⟩) (xs.length + 1) cap) (xs ++ [y]).length (intsOf (xs ++ [y])) := by
          rw [← intsOf_snoc, List.length_append, List.length_singleton]; exact hown3
        have hxl : (xs ++ [y]).length = k + 1 := by rw [List.length_append, List.length_singleton, HXK.out]
        have HXL := Lib.hid hxl
        have hnxt : (e1 = 0 ∧ R = Cod.loop (Cod.number low high) (N - (k + 1)) ⟨l1, e1⟩ (xs ++ [y])) ∨ (e1 ≠ 0 ∧ R = ([], ⟨l1, e1⟩)) := by
          have hT := HST.out
          by_cases he1 : e1 = 0
          · rw [if_pos he1] at hT
            exact .inl ⟨he1, hT⟩
          · rw [if_neg he1] at hT
            exact .inr ⟨he1, hT⟩
        have HNX := Lib.hid hnxt
        clear hgrow hat hlt3 hown3 hgw hrow hown2 h2 hxl hnxt HST
        go_wp2_with fail
        go_roundw
        case rel => exact ⟨k + 1, xs ++ [y], ⟨l1, e1⟩, by omega, by go_num, HXL.out, by have := HXK.out; exact hs3, h3, hl1, HNX.out, hg3⟩
        case measure => simp [intOf]; omega
      · have hkN : k = N := by omega
        have b9 : decide ((k : Int) < (N : Int)) = false := by simp; omega
        have b9n : decide (k < N) = false := by simp; omega
        have hR := HRR.out
        rw [hkN, Nat.sub_self, Cod.loop] at hR
        have HT := Lib.hid hR
        clear hR hkN
        go_wp2_with fail
        go_ret
        rw [HT.out]
        exact ⟨u8, rfl, hown, hr, hg⟩
    · have HT := Lib.hid hR
      have q0 : (r.err == 0) = false := by simpa using hre
      have q1 : (r.err != 0) = true := by simpa using hre
      have hkd : (decide ((k : Int) < (N : Int)) = true ∧ decide (k < N) = true) ∨ (decide ((k : Int) < (N : Int)) = false ∧ decide (k < N) = false) := by
        by_cases hlt : k < N
        · exact .inl ⟨by simp; omega, by simp; omega⟩
        · exact .inr ⟨by simp; omega, by simp; omega⟩
      clear hR hre
      rcases hkd with ⟨b9, b9n⟩ | ⟨b9, b9n⟩
      all_goals
        go_wp2_with fail
        go_ret
        rw [HT.out]
        exact ⟨.slice none 0 0, rfl, World.ownsRow_nil _ _ _ _, hr, hg⟩

/-- What Texts of a reader of the reference leaves. -/
def GotQS (w : World) (b : Nat) (R : List ByteArray × Cod.Rd) : Ending → World → Prop := fun x w' => ∃ v, x = .returned v ∧ w'.ownsRow w.heap.size 9 1 v R.1.length (strsOf R.1) ∧ QdAt w' b (str R.2.rest) R.2.err ∧ w.grownBy w' (some b)
set_option maxHeartbeats 4000000 in
set_option maxRecDepth 100000 in
theorem qTexts_any (b : Nat) (most : Int) (s : ByteArray) (err : Int) (w : World) (h : QdAt w b s err) (hs : s.size ≤ 1000000000) :
    Calls Tryd.prog 29 #[.pointer (some ⟨b, 0, none⟩), .int .i64 most] w (GotQS w b (Cod.list (nextT most) ⟨s.data.toList, err⟩)) := by
  obtain ⟨i0, hi0, hz0, hz1, hz2⟩ := info_parts infoS
  have hb := h.lt
  have hc : Calls Tryd.prog 21 #[.pointer (some ⟨b, 0, none⟩), .int .i64 0, .int .i64 1024] w _ := qNumber_any b 0 1024 s err w h hs
  have hnle := number_le 0 1024 ⟨s.data.toList, err⟩ (by omega) (by omega)
  have hnerr := number_err 0 1024 ⟨s.data.toList, err⟩
  have hshort := Cod.number_short 0 1024 ⟨s.data.toList, err⟩
  have HL := Lib.hid (show Cod.list (nextT most) ⟨s.data.toList, err⟩ = Cod.loop (nextT most) (Cod.number 0 1024 ⟨s.data.toList, err⟩).1.toNat (Cod.number 0 1024 ⟨s.data.toList, err⟩).2 [] from rfl)
  generalize Cod.list (nextT most) ⟨s.data.toList, err⟩ = R at *
  generalize Cod.number 0 1024 ⟨s.data.toList, err⟩ = D at *
  obtain ⟨n, ⟨l0, e0⟩⟩ := D
  have hl0 : l0.length ≤ 1000000000 := by have h1 : l0.length ≤ s.data.toList.length := hshort; have h2 : s.data.toList.length = s.size := rfl; omega
  obtain ⟨N, hN, hN2, hNe⟩ : ∃ N : Nat, n = (N : Int) ∧ N ≤ 1024 ∧ (e0 ≠ 0 → N = 0) := by
    by_cases he : e0 = 0
    · rcases hnle with hh | hh
      · have h1 : 0 ≤ n := hh.1
        have h2 : n ≤ 1024 := hh.2
        exact ⟨n.toNat, by omega, by omega, fun hx => absurd he hx⟩
      · exact absurd he hh
    · have h1 : n = 0 := hnerr he
      exact ⟨0, by omega, by omega, fun _ => rfl⟩
  subst hN
  clear hnle hnerr hshort
  go_enter Tryd.func29, Tryd.ntmps29
  go_wp2_with fail
  refine hc.mono ?_
  clear hc
  rintro x w1 ⟨rfl, h1, hg1⟩
  have HR : Hid (R = Cod.loop (nextT most) N ⟨l0, e0⟩ []) := Lib.hid HL.out
  clear HL
  go_wp2_with fail
  go_loopw [6, 7] (fun v i wr => ∃ (k : Nat) (xs : List ByteArray) (r : Cod.Rd), k ≤ N ∧ i = .int .i64 k ∧ xs.length = k ∧ wr.ownsRow w.heap.size 9 1 v xs.length (strsOf xs) ∧ QdAt wr b (str r.rest) r.err ∧ r.rest.length ≤ 1000000000 ∧ ((r.err = 0 ∧ R = Cod.loop (nextT most) (N - k) r xs) ∨ (r.err ≠ 0 ∧ R = ([], r))) ∧ w.grownBy wr (some b)) (fun _ i _ => N - (intOf i).toNat)
  case atStart =>
    refine ⟨0, [], ⟨l0, e0⟩, by omega, rfl, rfl, World.ownsRow_nil _ _ _ _, h1, hl0, ?_, hg1⟩
    by_cases he : e0 = 0
    · exact .inl ⟨he, HR.out⟩
    · exact .inr ⟨he, by rw [HR.out, hNe he]; rfl⟩
  case round =>
    clear h1 hg1 HR
    obtain ⟨k, xs, r, hk, rfl, hxk, hown, hr, hrl, hR, hg⟩ := hrel
    have HXK := Lib.hid hxk
    clear hxk
    have c1 := hr.c1
    rcases hR with ⟨hre0, hR⟩ | ⟨hre, hR⟩
    · have HRR := Lib.hid hR
      clear hR
      obtain ⟨rl, re⟩ := r
      simp only at hre0 hr hrl c1
      subst hre0
      by_cases hlt : k < N
      · have hcall := qNext_any b most (str rl) 0 wr hr (by rw [str_size]; omega)
        rw [str_data] at hcall
        have hsh := nextT_short most ⟨rl, 0⟩
        have HST := Lib.hid (show R = if ((nextT most) ⟨rl, 0⟩).2.err = 0 then Cod.loop (nextT most) (N - (k + 1)) ((nextT most) ⟨rl, 0⟩).2 (xs ++ [((nextT most) ⟨rl, 0⟩).1]) else ([], ((nextT most) ⟨rl, 0⟩).2) by
          rw [HRR.out, show N - k = (N - (k + 1)) + 1 by omega, Cod.loop])
        generalize (nextT most) ⟨rl, 0⟩ = D at *
        obtain ⟨y, ⟨l1, e1⟩⟩ := D
        have hl1 : l1.length ≤ 1000000000 := by have h1 : l1.length ≤ rl.length := hsh; omega
        clear hsh
        have b9 : decide ((k : Int) < (N : Int)) = true := by simp; omega
        have b9n : decide (k < N) = true := by simp; omega
        go_wp2_with fail
        refine hcall.mono ?_
        clear hcall
        rintro x w2 ⟨rfl, h2, hg2⟩
        have hown2 : w2.ownsRow w.heap.size 9 1 u6 xs.length (strsOf xs) := hown.kept hg2 (by
          have hlt2 := hown.lt
          cases hv : u6.ownBlock with
          | none => exact .inl rfl
          | some k' => exact .inr (fun hx => by have := (hlt2 k' hv).1; cases hx; omega))
        have hgw := grown_trans hg hg2
        have hrow := hown2.lt
        clear hown hg hg2 hr c1
        go_upto_region 5 with (at_builtin; refine wpList_append_lies _ (by rfl) _ _ 29 (by rfl) w.heap.size 9 i0 _ 1 16 Tryd.underlying29 hi0 hz0 hz1 hz2 rfl (by omega) u6 xs.length _ (by rfl) (hown2.alloc _) ⟨w2.heap.size, 0, none⟩ 1 1 [_] (by rfl) (by rfl) (World.news_of_block (cs := #[_]) (t := 9) (fr := (0, 0)) (heap_alloc_new w2 _)) (by simp [Value.oneCell']) (by omega) (by have := HXK.out; unfold maxLen; omega) (by have := HXK.out; omega) (by have := hgw.size; simp; omega) (w2.heap.size + 1) (by simp) ?_; intro gg cap w3 hown3 hgrow hat hlt3)
        have h3 : QdAt w3 b (str l1) e1 := by
          refine (hgrow.block b (by have := h2.lt; simp; omega) (fun hx => ?_)).trans ((heap_alloc_old w2 _ h2.lt).trans h2)
          have := (hrow b hx.symm).1
          omega
        have hg3 : w.grownBy w3 (some b) := grown_own (grown_alloc hgw _) hgrow (fun k' hk' => (hrow k' hk').1)
        have hs3 : w3.ownsRow w.heap.size 9 1 (.slice (some ⟨gg, 0, none⟩) (xs.length + 1) cap) (xs ++ [y]).length (strsOf (xs ++ [y])) := by
          rw [← strsOf_snoc, List.length_append, List.length_singleton]; exact hown3
        have hxl : (xs ++ [y]).length = k + 1 := by rw [List.length_append, List.length_singleton, HXK.out]
        have HXL := Lib.hid hxl
        have hnxt : (e1 = 0 ∧ R = Cod.loop (nextT most) (N - (k + 1)) ⟨l1, e1⟩ (xs ++ [y])) ∨ (e1 ≠ 0 ∧ R = ([], ⟨l1, e1⟩)) := by
          have hT := HST.out
          by_cases he1 : e1 = 0
          · rw [if_pos he1] at hT
            exact .inl ⟨he1, hT⟩
          · rw [if_neg he1] at hT
            exact .inr ⟨he1, hT⟩
        have HNX := Lib.hid hnxt
        clear hgrow hat hlt3 hown3 hgw hrow hown2 h2 hxl hnxt HST
        go_wp2_with fail
        go_roundw
        case rel => exact ⟨k + 1, xs ++ [y], ⟨l1, e1⟩, by omega, by go_num, HXL.out, by have := HXK.out; exact hs3, h3, hl1, HNX.out, hg3⟩
        case measure => simp [intOf]; omega
      · have hkN : k = N := by omega
        have b9 : decide ((k : Int) < (N : Int)) = false := by simp; omega
        have b9n : decide (k < N) = false := by simp; omega
        have hR := HRR.out
        rw [hkN, Nat.sub_self, Cod.loop] at hR
        have HT := Lib.hid hR
        clear hR hkN
        go_wp2_with fail
        go_ret
        rw [HT.out]
        exact ⟨u6, rfl, hown, hr, hg⟩
    · have HT := Lib.hid hR
      have q0 : (r.err == 0) = false := by simpa using hre
      have q1 : (r.err != 0) = true := by simpa using hre
      have hkd : (decide ((k : Int) < (N : Int)) = true ∧ decide (k < N) = true) ∨ (decide ((k : Int) < (N : Int)) = false ∧ decide (k < N) = false) := by
        by_cases hlt : k < N
        · exact .inl ⟨by simp; omega, by simp; omega⟩
        · exact .inr ⟨by simp; omega, by simp; omega⟩
      clear hR hre
      rcases hkd with ⟨b9, b9n⟩ | ⟨b9, b9n⟩
      all_goals
        go_wp2_with fail
        go_ret
        rw [HT.out]
        exact ⟨.slice none 0 0, rfl, World.ownsRow_nil _ _ _ _, hr, hg⟩
end Go.Proofs.YtmbgblfoadojnaaDoor
