/- slices.Concat of numbers. No condition but the lengths. -/
import Derived.Test.YtkmldaelgbkfbaaQse
import Derived.Lib.AppendZerosOnto
import Derived.Deep.Upon
import Derived.Deep.AppendLies
namespace Go.Proofs.Ytkmldaelgbkfbaa
open Go.RowKit Go.Deep
namespace Wn
theorem zc1 (n : Nat) : (Builtin.zeroCells #[.int .i64 0] n).size = n := by
  simp [Builtin.zeroCells]
set_option maxHeartbeats 4000000 in
set_option maxRecDepth 100000 in
theorem grow_any (n : Nat) (hn : 0 < n) (hn2 : n ≤ 1000000000) (w : World) :
    Calls Try.prog 31 #[.slice none 0 0, .int .i64 n] w fun e w' => ∃ v, e = .returned v ∧ w'.ownsRow w.heap.size 3 1 v 0 [] ∧ Below w.heap.size w w' := by
  obtain ⟨i0, hi0, hz0, hz1, hz2⟩ := info_parts infoIn
  have hrz : ∀ ty, (Builtin.append_ #[22, 3] ty #[.slice none 0 0, .int .i64 n]).run Try.prog w =
      .ok (.slice (some ⟨w.heap.size, 0, none⟩) n (grownCap w n 0 3)) (w.drew.alloc (.cells ((#[] : Array Value) ++ Builtin.zeroCells #[.int .i64 0] n ++ Builtin.zeroCells #[.int .i64 0] (grownCap w n 0 3 - n)) 3)) := fun ty => by
    have h := Lib.run_append_grow_zeros w 22 3 ty 3 i0 _ .i64 .i64 Try.underlying22 Try.underlying3 hi0 hz0 none 0 0 [] (run_firstCells_none w.drew i0.size 0 0 0) n hn (by omega) (by omega) (by omega) (by rw [hz2]; omega)
      (by rw [hz2]; exact growslice_fits (by omega) (by omega))
    rw [Nat.zero_add] at h
    exact h
  have hcap := grownCap_ge w n 0 3
  have hcapm := grownCap_le_maxLen w n 0 3 (by unfold maxLen; omega)
  generalize grownCap w n 0 3 = G at *
  have hcap63 : G ≤ 9223372036854775807 := by unfold maxLen at hcapm; omega
  have b1 : decide ((n : Int) < 0) = false := by simp
  have b2 : decide ((0 : Int) < n) = true := by simp; omega
  have b2n : decide (0 < n) = true := by simp; omega
  go_enter Try.func31, Try.ntmps31
  go_wp2_with (at_builtin; refine Lib.wpList_append_run _ rfl _ _ _ _ rfl _ _ rfl rfl _ _ (hrz _) ?_)
  all_goals (go_ret; refine ⟨_, rfl, ⟨rfl, .inr ⟨w.heap.size, G, _, rfl, Nat.le_refl _, heap_alloc_new w.drew _, by omega, hcapm, ?_, rfl⟩⟩, (Below.refl _ _).drew.alloc (Nat.le_refl _) _⟩; simp [zc1]; omega)
theorem grow_zero (w : World) : Calls Try.prog 31 #[.slice none 0 0, .int .i64 0] w fun e w' => e = .returned (.slice none 0 0) ∧ w' = w := by
  go_enter Try.func31, Try.ntmps31
  go_wp2_with fail
  go_ret
  first | exact ⟨rfl, rfl⟩ | exact ⟨trivial, rfl⟩ | trivial
theorem grow_gen (n : Nat) (hn2 : n ≤ 1000000000) (w : World) :
    Calls Try.prog 31 #[.slice none 0 0, .int .i64 n] w fun e w' => ∃ v, e = .returned v ∧ w'.ownsRow w.heap.size 3 1 v 0 [] ∧ Below w.heap.size w w' := by
  by_cases h : n = 0
  · subst h
    exact (grow_zero w).mono fun e w' ⟨h1, h2⟩ => ⟨_, h1, World.ownsRow_nil _ _ _ _, by rw [h2]; exact Below.refl _ _⟩
  · exact grow_any n (by omega) hn2 w
theorem src_none {P : Program} {size : Nat} {tx e' : TypeId} (w : World) (hk : P.underlying tx = some (.slice e')) (A : Option Addr) (c : Nat) : Src P size tx (.slice A 0 c) 0 [] w := by
  cases A with
  | none => exact Src.ofNil w hk c
  | some a => exact Src.ofSlice w hk a 0 c [] (by simp) (fun j u h => by simp at h) (by simp)
theorem own_cap0 {w : World} {B size n c : Nat} {e : TypeId} {A : Option Addr} {xs : List Value} (h : w.ownsRow B e size (.slice A n c) n xs) : n ≤ c ∧ c ≤ maxLen := by
  rcases h.2 with ⟨h1, h2⟩ | ⟨g, cap, cur, h1, _, _, hn, hc, _⟩
  · injection h1 with h3 h4 h5
    subst h5; subst h4
    exact ⟨Nat.le_refl _, Nat.zero_le _⟩
  · injection h1 with h3 h4 h5
    subst h5
    exact ⟨hn, hc⟩
/-- Files where they lie. -/
structure Pt where
  A : Option Addr
  c : Nat
  ts : List Int
def Pt.v (p : Pt) : Value := .slice p.A p.ts.length p.c
theorem Pt.v_def (p : Pt) : p.v = .slice p.A p.ts.length p.c := rfl
def catL (L : List Pt) : List Int := L.flatMap Pt.ts
theorem catL_snoc (L : List Pt) (k : Nat) (h : k < L.length) : catL (L.take (k + 1)) = catL (L.take k) ++ L[k].ts := by
  unfold catL; rw [List.take_succ_eq_append_getElem h, List.flatMap_append]; simp only [List.flatMap_cons, List.flatMap_nil, List.append_nil]
theorem catL_le (L : List Pt) (k : Nat) : (catL (L.take k)).length ≤ (catL L).length := by
  have : catL L = catL (L.take k) ++ catL (L.drop k) := by unfold catL; rw [← List.flatMap_append, List.take_append_drop]
  rw [this]; simp
set_option maxHeartbeats 4000000 in
set_option maxRecDepth 100000 in
theorem concat_any (q c : Nat) (L : List Pt) (w : World) (hq : q < w.heap.size) (hc : ∀ i (h : i < L.length), w.cell? ⟨q, i, none⟩ = some L[i].v) (hL : ∀ p ∈ L, Gr.InAt w w.heap.size p.A p.ts) (hlm : L.length ≤ 1000) (hlen : (catL L).length ≤ 100000000) :
    Calls Try.prog 19 #[.slice (some ⟨q, 0, none⟩) L.length c] w fun e w' => ∃ v, e = .returned v ∧ w'.ownsRow w.heap.size 3 1 v (catL L).length (Gr.insV (catL L)) ∧ Below w.heap.size w w' := by
  obtain ⟨i0, hi0, hz0, hz1, hz2⟩ := info_parts infoIn
  have hall := Lib.hid (show catL (L.take L.length) = catL L by rw [List.take_length])
  go_enter Try.func19, Try.ntmps19
  go_wp2_with fail
  go_loopw [3, 11] (fun v i wr => ∃ (k : Nat), k ≤ L.length ∧ v = .int .i64 (catL (L.take k)).length ∧ i = .int .i64 k ∧ wr = w) (fun _ i _ => L.length - (intOf i).toNat)
  case atStart => exact ⟨0, by omega, rfl, rfl, rfl⟩
  case round =>
    obtain ⟨k, hk, rfl, rfl, hw⟩ := hrel
    have hw2 := hw.symm
    clear hw
    subst hw2
    by_cases hlt : k < L.length
    · have b1 : decide ((k : Int) < L.length) = true := by simp; omega
      have b1n : decide (k < L.length) = true := by simp; omega
      have hcell := hc k hlt
      have hk1 := catL_le L (k + 1)
      have hs := catL_snoc L k hlt
      clear hc
      have hs2 : (catL (L.take (k + 1))).length = (catL (L.take k)).length + L[k].ts.length := by rw [hs]; simp
      clear hs
      generalize L[k] = p at *
      rw [Pt.v_def] at hcell
      have HS := Lib.hid hs2
      clear hs2
      have b2 : decide (((catL (L.take k)).length : Int) + p.ts.length < 0) = false := by simp; omega
      have b3 : (catL (L.take k)).length + p.ts.length ≤ 100000000 := by have := HS.out; omega
      go_wp2_with fail
      go_roundw
      case rel => exact ⟨k + 1, by omega, by rw [HS.out]; go_num, by go_num, by first | rfl | trivial⟩
      case measure => simp [intOf]; omega
    · have b1 : decide ((k : Int) < L.length) = false := by simp; omega
      have b1n : decide (k < L.length) = false := by simp; omega
      obtain rfl : k = L.length := by omega
      rw [hall.out]
      have hgr := grow_gen (catL L).length (by omega) w
      go_wp2_with fail
      with_reducible refine hgr.mono ?_
      clear hgr
      rintro x w1 ⟨v, rfl, hown, hb⟩
      have HC := Lib.hid hc
      clear hc
      go_wp2_with fail
      go_loopw [6, 27] (fun v i wq => ∃ (k : Nat), k ≤ L.length ∧ i = .int .i64 k ∧ wq.ownsRow w.heap.size 3 1 v (catL (L.take k)).length (Gr.insV (catL (L.take k))) ∧ Below w.heap.size w wq) (fun _ i _ => L.length - (intOf i).toNat)
      case atStart => exact ⟨0, by omega, rfl, hown, hb⟩
      case round =>
        clear hown hb
        obtain ⟨k, hk, rfl, hown, hb⟩ := hrel
        by_cases hlt : k < L.length
        · have b1 : decide ((k : Int) < L.length) = true := by simp; omega
          have b1n : decide (k < L.length) = true := by simp; omega
          have hcell := (hb.cell (p := ⟨q, k, none⟩) hq).trans (HC.out k hlt)
          have hk1 := catL_le L (k + 1)
          have HS := Lib.hid (catL_snoc L k hlt)
          have hp := hL L[k] (List.getElem_mem hlt)
          have hk2 : (catL (L.take k)).length + L[k].ts.length ≤ 100000000 := by have := congrArg List.length HS.out; simp at this; omega
          clear hk1
          generalize L[k] = p at *
          rw [Pt.v_def] at hcell
          have hrow := hown.lt
          by_cases hpe : p.ts = []
          · have hlz : p.ts.length = 0 := by rw [hpe]; rfl
            have HE := Lib.hid (show catL (L.take (k + 1)) = catL (L.take k) by rw [HS.out, hpe, List.append_nil])
            rw [hlz] at hcell
            obtain ⟨A0, c0, hu, _⟩ := Gr.own_el Gr.inV 1 Gr.inV_len hown
            obtain ⟨hcc, _⟩ := own_cap0 (hu ▸ hown)
            subst hu
            have hrz : ∀ ty, (Builtin.append_ #[22, 22] ty #[.slice A0 (catL (L.take k)).length c0, .slice p.A 0 p.c]).run Try.prog wr = .ok (.slice A0 (catL (L.take k)).length c0) wr := fun ty =>
              run_append_nothing wr 22 22 ty 3 i0 Try.underlying22 hi0 A0 _ c0 hcc _ (src_none wr Try.underlying22 p.A p.c)
            clear hpe hlz HS
            go_wp2_with (at_builtin; refine Lib.wpList_append_run _ rfl _ _ _ _ rfl _ _ rfl rfl _ _ (hrz _) ?_)
            go_roundw
            case rel => exact ⟨k + 1, by omega, by go_num, by rw [HE.out]; exact hown, hb⟩
            case measure => simp [intOf]; omega
          have hpos : 0 < p.ts.length := List.length_pos_iff.2 hpe
          obtain ⟨pg, po, hpA, hpg, hpc0⟩ := in_at hp hpos
          have hpc : ∀ j u, (Gr.insV p.ts)[j]? = some u → w.cell? ⟨pg, po + j, none⟩ = some u := fun j u hj => by
            have hjl : j < p.ts.length := by have := (List.getElem?_eq_some_iff.1 hj).1; rwa [Gr.insV_len] at this
            rw [hpc0 j hjl, List.getD_eq_getElem?_getD, List.getElem?_eq_getElem hjl]
            rw [Gr.insV_map, List.getElem?_map, List.getElem?_eq_getElem hjl] at hj
            exact hj
          have hpc2 := fun j u hj => (hb.cell (p := ⟨pg, po + j, none⟩) hpg).trans (hpc j u hj)
          rw [hpA] at hcell
          clear hpc hpc0 hpA hpe
          go_wp2_with (at_builtin; go_must (refine wpList_append_lies _ (by rfl) _ _ 22 (by rfl) w.heap.size 3 i0 _ 1 8 Try.underlying22 hi0 hz0 hz1 hz2 rfl (by omega) _ (catL (L.take k)).length _ (by rfl) hown ⟨pg, po, none⟩ p.ts.length p.c (Gr.insV p.ts) (by rfl) (by rw [Gr.insV_len]; omega) (fun j u hj => by rw [addr_addS]; exact hpc2 j u hj) (Gr.insV_ones _) hpos (by unfold maxLen; omega) (by omega) hb.size _ rfl ?_); intro gg cap3 w6 hown6 hgrow hat hlt6)
          have hb6 : Below w.heap.size w w6 := below_grown hb hb.size hown hgrow
          rw [← Gr.insV_app, ← HS.out] at hown6
          have hle : (catL (L.take (k + 1))).length = (catL (L.take k)).length + p.ts.length := by rw [HS.out]; simp
          go_wp2_with fail
          go_roundw
          case rel => refine ⟨k + 1, by omega, by go_num, by rw [hle]; exact hown6, hb6⟩
          case measure => simp [intOf]; omega
        · have b1 : decide ((k : Int) < L.length) = false := by simp; omega
          have b1n : decide (k < L.length) = false := by simp; omega
          obtain rfl : k = L.length := by omega
          rw [hall.out] at hown
          go_wp2_with fail
          go_ret
          exact ⟨_, rfl, hown, hb⟩
end Wn
end Go.Proofs.Ytkmldaelgbkfbaa
