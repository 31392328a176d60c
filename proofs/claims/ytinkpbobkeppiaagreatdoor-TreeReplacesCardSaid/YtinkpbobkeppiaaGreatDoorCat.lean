/- slices.Concat of files. No condition but the lengths. -/
import Derived.Test.YtinkpbobkeppiaaGreatDoorWlk
import Derived.Lib.AppendZerosOnto
import Derived.Deep.Upon
import Derived.Deep.AppendLies
namespace Go.Proofs.YtinkpbobkeppiaaGreatDoor
open Go.RowKit Go.Deep

theorem flsOf_len (ts : List Tre.Fl) : (flsOf ts).length = ts.length * 2 := by
  induction ts with
  | nil => rfl
  | cons t ts ih => rw [show flsOf (t :: ts) = flOf t ++ flsOf ts from rfl, List.length_append, ih]; show 2 + _ = _; simp; omega
theorem flsOf_app (xs ys : List Tre.Fl) : flsOf (xs ++ ys) = flsOf xs ++ flsOf ys := by simp [flsOf]
theorem flsOf_one (ts : List Tre.Fl) : ∀ u ∈ flsOf ts, u.oneCell' = true := fun u hu => by
  simp only [flsOf, List.mem_flatMap, flOf] at hu
  obtain ⟨t, _, h⟩ := hu
  simp at h
  rcases h with rfl | rfl <;> rfl
theorem zc2 (n : Nat) : (Builtin.zeroCells #[.string ⟨#[]⟩, .string ⟨#[]⟩] n).size = n * 2 := by
  simp [Builtin.zeroCells]
set_option maxHeartbeats 4000000 in
set_option maxRecDepth 100000 in
theorem grow_any (n : Nat) (hn : 0 < n) (hn2 : n ≤ 1000000000) (w : World) :
    Calls Tryz.prog 92 #[.slice none 0 0, .int .i64 n] w fun e w' => ∃ v, e = .returned v ∧ w'.ownsRow w.heap.size 31 2 v 0 [] ∧ Below w.heap.size w w' := by
  obtain ⟨i0, hi0, hz0, hz1, hz2⟩ := info_parts infoF
  have hrz : ∀ ty, (Builtin.append_ #[23, 3] ty #[.slice none 0 0, .int .i64 n]).run Tryz.prog w =
      .ok (.slice (some ⟨w.heap.size, 0, none⟩) n (grownCap w n 0 31)) (w.drew.alloc (.cells ((#[] : Array Value) ++ Builtin.zeroCells #[.string ⟨#[]⟩, .string ⟨#[]⟩] n ++ Builtin.zeroCells #[.string ⟨#[]⟩, .string ⟨#[]⟩] (grownCap w n 0 31 - n)) 31)) := fun ty => by
    have h := Lib.run_append_grow_zeros w 23 3 ty 31 i0 _ .i64 .i64 Tryz.underlying23 Tryz.underlying3 hi0 hz0 none 0 0 [] (run_firstCells_none w.drew i0.size 0 0 0) n hn (by omega) (by omega) (by omega) (by rw [hz2]; omega)
      (by rw [hz2]; exact growslice_fits (by omega) (by omega))
    rw [Nat.zero_add] at h
    exact h
  have hcap := grownCap_ge w n 0 31
  have hcapm := grownCap_le_maxLen w n 0 31 (by unfold maxLen; omega)
  generalize grownCap w n 0 31 = G at *
  have hcap63 : G ≤ 9223372036854775807 := by unfold maxLen at hcapm; omega
  have b1 : decide ((n : Int) < 0) = false := by simp
  have b2 : decide ((0 : Int) < n) = true := by simp; omega
  have b2n : decide (0 < n) = true := by simp; omega
  go_enter Tryz.func92, Tryz.ntmps92
  go_wp2_with (at_builtin; refine Lib.wpList_append_run _ rfl _ _ _ _ rfl _ _ rfl rfl _ _ (hrz _) ?_)
  all_goals (go_ret; refine ⟨_, rfl, ⟨rfl, .inr ⟨w.heap.size, G, _, rfl, Nat.le_refl _, heap_alloc_new w.drew _, by omega, hcapm, ?_, rfl⟩⟩, (Below.refl _ _).drew.alloc (Nat.le_refl _) _⟩; simp [zc2]; omega)
theorem grow_zero (w : World) : Calls Tryz.prog 92 #[.slice none 0 0, .int .i64 0] w fun e w' => e = .returned (.slice none 0 0) ∧ w' = w := by
  go_enter Tryz.func92, Tryz.ntmps92
  go_wp2_with fail
  go_ret
  first | exact ⟨rfl, rfl⟩ | exact ⟨trivial, rfl⟩ | trivial
theorem grow_gen (n : Nat) (hn2 : n ≤ 1000000000) (w : World) :
    Calls Tryz.prog 92 #[.slice none 0 0, .int .i64 n] w fun e w' => ∃ v, e = .returned v ∧ w'.ownsRow w.heap.size 31 2 v 0 [] ∧ Below w.heap.size w w' := by
  by_cases h : n = 0
  · subst h
    exact (grow_zero w).mono fun e w' ⟨h1, h2⟩ => ⟨_, h1, World.ownsRow_nil _ _ _ _, by rw [h2]; exact Below.refl _ _⟩
  · exact grow_any n (by omega) hn2 w
theorem addr_add (g o j : Nat) : (⟨g, o, none⟩ : Addr).add j = ⟨g, o + j, none⟩ := by simp [Addr.add]
theorem flsOf_at : ∀ (ts : List Tre.Fl) (j : Nat) (u : Value), (flsOf ts)[j]? = some u → ∃ (k : Nat) (hk : k < ts.length), (j = k * 2 ∧ u = .string (str ts[k].path)) ∨ (j = k * 2 + 1 ∧ u = .string (str ts[k].data))
  | [], j, u, h => by simp [flsOf] at h
  | t :: ts, 0, u, h => ⟨0, by simp, .inl ⟨rfl, by
    have h2 : some (Value.string (str t.path)) = some u := h
    exact (Option.some.inj h2).symm⟩⟩
  | t :: ts, 1, u, h => ⟨0, by simp, .inr ⟨rfl, by
    have h2 : some (Value.string (str t.data)) = some u := h
    exact (Option.some.inj h2).symm⟩⟩
  | t :: ts, j + 2, u, h => by
    have h2 : (flsOf ts)[j]? = some u := h
    obtain ⟨k, hk, h3⟩ := flsOf_at ts j u h2
    refine ⟨k + 1, by simp; omega, ?_⟩
    rcases h3 with ⟨rfl, rfl⟩ | ⟨rfl, rfl⟩
    · exact .inl ⟨by omega, by simp⟩
    · exact .inr ⟨by omega, by simp⟩
/-- The cells of a list of files that is not empty. -/
theorem fls_cells {w : World} {B : Nat} {A : Option Addr} {ts : List Tre.Fl} (h : FlsAt w B A ts) (hn : 0 < ts.length) : ∃ g o, A = some ⟨g, o, none⟩ ∧ g < B ∧ ∀ j u, (flsOf ts)[j]? = some u → w.cell? ⟨g, o + j, none⟩ = some u := by
  obtain ⟨g, o, rfl, hg, _⟩ := h 0 hn
  refine ⟨g, o, rfl, hg, fun j u hj => ?_⟩
  obtain ⟨k, hk, h3⟩ := flsOf_at ts j u hj
  obtain ⟨g', o', e, _, h0, h1⟩ := h k hk
  have e2 := Option.some.inj e
  injection e2 with e3 e4 _
  subst e3; subst e4
  rcases h3 with ⟨rfl, rfl⟩ | ⟨rfl, rfl⟩
  · exact h0
  · exact h1
theorem src_none {P : Program} {size : Nat} {tx e' : TypeId} (w : World) (hk : P.underlying tx = some (.slice e')) (A : Option Addr) (c : Nat) : Src P size tx (.slice A 0 c) 0 [] w := by
  cases A with
  | none => exact Src.ofNil w hk c
  | some a => exact Src.ofSlice w hk a 0 c [] (by simp) (fun j u h => by simp at h) (by simp)
theorem own_cap0 {w : World} {B size n c : Nat} {e : TypeId} {A : Option Addr} {xs : List Value} (h : w.ownsRow B e size (.slice A n c) n xs) : n ≤ c ∧ c ≤ maxLen := by
  rcases h.2 with ⟨h1, h2⟩ | ⟨g, cap, cur, h1, _, _, hn, hc, _⟩
  · injection h1 with h3 h4 h5
    subst h5; subst h4
    exact ⟨Nat.le_refl _, Nat.zero_le _⟩
  · injection h1 with h3 h4 h5
    subst h5
    exact ⟨hn, hc⟩
/-- Files where they lie. -/
structure Pt where
  A : Option Addr
  c : Nat
  ts : List Tre.Fl
def Pt.v (p : Pt) : Value := .slice p.A p.ts.length p.c
theorem Pt.v_def (p : Pt) : p.v = .slice p.A p.ts.length p.c := rfl
def catL (L : List Pt) : List Tre.Fl := L.flatMap Pt.ts
theorem catL_snoc (L : List Pt) (k : Nat) (h : k < L.length) : catL (L.take (k + 1)) = catL (L.take k) ++ L[k].ts := by
  unfold catL; rw [List.take_succ_eq_append_getElem h, List.flatMap_append]; simp only [List.flatMap_cons, List.flatMap_nil, List.append_nil]
theorem catL_le (L : List Pt) (k : Nat) : (catL (L.take k)).length ≤ (catL L).length := by
  have : catL L = catL (L.take k) ++ catL (L.drop k) := by unfold catL; rw [← List.flatMap_append, List.take_append_drop]
  rw [this]; simp
set_option maxHeartbeats 4000000 in
set_option maxRecDepth 100000 in
theorem concat_any (q c : Nat) (L : List Pt) (w : World) (hq : q < w.heap.size) (hc : ∀ i (h : i < L.length), w.cell? ⟨q, i, none⟩ = some L[i].v) (hL : ∀ p ∈ L, FlsAt w w.heap.size p.A p.ts) (hlm : L.length ≤ 1000) (hlen : (catL L).length ≤ 100000000) :
    Calls Tryz.prog 66 #[.slice (some ⟨q, 0, none⟩) L.length c] w fun e w' => ∃ v, e = .returned v ∧ w'.ownsRow w.heap.size 31 2 v (catL L).length (flsOf (catL L)) ∧ Below w.heap.size w w' := by
  obtain ⟨i0, hi0, hz0, hz1, hz2⟩ := info_parts infoF
  have hall := Lib.hid (show catL (L.take L.length) = catL L by rw [List.take_length])
  go_enter Tryz.func66, Tryz.ntmps66
  go_wp2_with fail
  go_loopw [3, 11] (fun v i wr => ∃ (k : Nat), k ≤ L.length ∧ v = .int .i64 (catL (L.take k)).length ∧ i = .int .i64 k ∧ wr = w) (fun _ i _ => L.length - (intOf i).toNat)
  case atStart => exact ⟨0, by omega, rfl, rfl, rfl⟩
  case round =>
    obtain ⟨k, hk, rfl, rfl, hw⟩ := hrel
    have hw2 := hw.symm
    clear hw
    subst hw2
    by_cases hlt : k < L.length
    · have b1 : decide ((k : Int) < L.length) = true := by simp; omega
      have b1n : decide (k < L.length) = true := by simp; omega
      have hcell := hc k hlt
      have hk1 := catL_le L (k + 1)
      have hs := catL_snoc L k hlt
      clear hc
      have hs2 : (catL (L.take (k + 1))).length = (catL (L.take k)).length + L[k].ts.length := by rw [hs]; simp
      clear hs
      generalize L[k] = p at *
      rw [Pt.v_def] at hcell
      have HS := Lib.hid hs2
      clear hs2
      have b2 : decide (((catL (L.take k)).length : Int) + p.ts.length < 0) = false := by simp; omega
      have b3 : (catL (L.take k)).length + p.ts.length ≤ 100000000 := by have := HS.out; omega
      go_wp2_with fail
      go_roundw
      case rel => exact ⟨k + 1, by omega, by rw [HS.out]; go_num, by go_num, by first | rfl | trivial⟩
      case measure => simp [intOf]; omega
    · have b1 : decide ((k : Int) < L.length) = false := by simp; omega
      have b1n : decide (k < L.length) = false := by simp; omega
      obtain rfl : k = L.length := by omega
      rw [hall.out]
      have hgr := grow_gen (catL L).length (by omega) w
      go_wp2_with fail
      with_reducible refine hgr.mono ?_
      clear hgr
      rintro x w1 ⟨v, rfl, hown, hb⟩
      have HC := Lib.hid hc
      clear hc
      go_wp2_with fail
      go_loopw [6, 27] (fun v i wq => ∃ (k : Nat), k ≤ L.length ∧ i = .int .i64 k ∧ wq.ownsRow w.heap.size 31 2 v (catL (L.take k)).length (flsOf (catL (L.take k))) ∧ Below w.heap.size w wq) (fun _ i _ => L.length - (intOf i).toNat)
      case atStart => exact ⟨0, by omega, rfl, hown, hb⟩
      case round =>
        clear hown hb
        obtain ⟨k, hk, rfl, hown, hb⟩ := hrel
        by_cases hlt : k < L.length
        · have b1 : decide ((k : Int) < L.length) = true := by simp; omega
          have b1n : decide (k < L.length) = true := by simp; omega
          have hcell := (hb.cell (p := ⟨q, k, none⟩) hq).trans (HC.out k hlt)
          have hk1 := catL_le L (k + 1)
          have HS := Lib.hid (catL_snoc L k hlt)
          have hp := hL L[k] (List.getElem_mem hlt)
          have hk2 : (catL (L.take k)).length + L[k].ts.length ≤ 100000000 := by have := congrArg List.length HS.out; simp at this; omega
          clear hk1
          generalize L[k] = p at *
          rw [Pt.v_def] at hcell
          have hrow := hown.lt
          by_cases hpe : p.ts = []
          · have hlz : p.ts.length = 0 := by rw [hpe]; rfl
            have HE := Lib.hid (show catL (L.take (k + 1)) = catL (L.take k) by rw [HS.out, hpe, List.append_nil])
            rw [hlz] at hcell
            obtain ⟨A0, c0, hu, _⟩ := owns_fls hown
            obtain ⟨hcc, _⟩ := own_cap0 (hu ▸ hown)
            subst hu
            have hrz : ∀ ty, (Builtin.append_ #[23, 23] ty #[.slice A0 (catL (L.take k)).length c0, .slice p.A 0 p.c]).run Tryz.prog wr = .ok (.slice A0 (catL (L.take k)).length c0) wr := fun ty =>
              run_append_nothing wr 23 23 ty 31 i0 Tryz.underlying23 hi0 A0 _ c0 hcc _ (src_none wr Tryz.underlying23 p.A p.c)
            clear hpe hlz HS
            go_wp2_with (at_builtin; refine Lib.wpList_append_run _ rfl _ _ _ _ rfl _ _ rfl rfl _ _ (hrz _) ?_)
            go_roundw
            case rel => exact ⟨k + 1, by omega, by go_num, by rw [HE.out]; exact hown, hb⟩
            case measure => simp [intOf]; omega
          have hpos : 0 < p.ts.length := List.length_pos_iff.2 hpe
          obtain ⟨pg, po, hpA, hpg, hpc⟩ := fls_cells hp hpos
          have hpc2 := fun j u hj => (hb.cell (p := ⟨pg, po + j, none⟩) hpg).trans (hpc j u hj)
          rw [hpA] at hcell
          clear hpc hpA hpe
          go_wp2_with (at_builtin; go_must (refine wpList_append_lies _ (by rfl) _ _ 23 (by rfl) w.heap.size 31 i0 _ 2 32 Tryz.underlying23 hi0 hz0 hz1 hz2 rfl (by omega) _ (catL (L.take k)).length _ (by rfl) hown ⟨pg, po, none⟩ p.ts.length p.c (flsOf p.ts) (by rfl) (flsOf_len _) (fun j u hj => by rw [addr_add]; exact hpc2 j u hj) (flsOf_one _) hpos (by unfold maxLen; omega) (by omega) hb.size _ rfl ?_); intro gg cap3 w6 hown6 hgrow hat hlt6)
          have hb6 : Below w.heap.size w w6 := grown_own0 hb hgrow (fun j hj => (hrow j hj).1)
          rw [← flsOf_app, ← HS.out] at hown6
          have hle : (catL (L.take (k + 1))).length = (catL (L.take k)).length + p.ts.length := by rw [HS.out]; simp
          go_wp2_with fail
          go_roundw
          case rel => refine ⟨k + 1, by omega, by go_num, by rw [hle]; exact hown6, hb6⟩
          case measure => simp [intOf]; omega
        · have b1 : decide ((k : Int) < L.length) = false := by simp; omega
          have b1n : decide (k < L.length) = false := by simp; omega
          obtain rfl : k = L.length := by omega
          rw [hall.out] at hown
          go_wp2_with fail
          go_ret
          exact ⟨_, rfl, hown, hb⟩
end Go.Proofs.YtinkpbobkeppiaaGreatDoor
