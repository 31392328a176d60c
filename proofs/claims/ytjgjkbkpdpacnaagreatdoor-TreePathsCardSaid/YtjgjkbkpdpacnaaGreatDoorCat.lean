/- slices.Concat of files. No condition but the lengths. -/
import Derived.Test.YtjgjkbkpdpacnaaGreatDoorWlk
import Derived.Lib.AppendZerosOnto
import Derived.Deep.Upon
import Derived.Deep.AppendLies
namespace Go.Proofs.YtjgjkbkpdpacnaaGreatDoor
open Go.RowKit Go.Deep

theorem flsOf_len (ts : List Tre.Fl) : (flsOf ts).length = ts.length * 2 := by
  induction ts with
  | nil => rfl
  | cons t ts ih => rw [show flsOf (t :: ts) = flOf t ++ flsOf ts from rfl, List.length_append, ih]; show 2 + _ = _; simp; omega
theorem flsOf_app (xs ys : List Tre.Fl) : flsOf (xs ++ ys) = flsOf xs ++ flsOf ys := by simp [flsOf]
theorem flsOf_one (ts : List Tre.Fl) : ∀ u ∈ flsOf ts, u.oneCell' = true := fun u hu => by
  simp only [flsOf, List.mem_flatMap, flOf] at hu
  obtain ⟨t, _, h⟩ := hu
  simp at h
  rcases h with rfl | rfl <;> rfl
theorem zc2 (n : Nat) : (Builtin.zeroCells #[.string ⟨#[]⟩, .string ⟨#[]⟩] n).size = n * 2 := by
  simp [Builtin.zeroCells]
set_option maxHeartbeats 4000000 in
set_option maxRecDepth 100000 in
theorem grow_any (n : Nat) (hn : 0 < n) (hn2 : n ≤ 1000000000) (w : World) :
    Calls Tryz.prog 92 #[.slice none 0 0, .int .i64 n] w fun e w' => ∃ v, e = .returned v ∧ w'.ownsRow w.heap.size 31 2 v 0 [] ∧ Below w.heap.size w w' := by
  obtain ⟨i0, hi0, hz0, hz1, hz2⟩ := info_parts infoF
  have hrz : ∀ ty, (Builtin.append_ #[23, 3] ty #[.slice none 0 0, .int .i64 n]).run Tryz.prog w =
      .ok (.slice (some ⟨w.heap.size, 0, none⟩) n (grownCap w n 0 31)) (w.drew.alloc (.cells ((#[] : Array Value) ++ Builtin.zeroCells #[.string ⟨#[]⟩, .string ⟨#[]⟩] n ++ Builtin.zeroCells #[.string ⟨#[]⟩, .string ⟨#[]⟩] (grownCap w n 0 31 - n)) 31)) := fun ty => by
    have h := Lib.run_append_grow_zeros w 23 3 ty 31 i0 _ .i64 .i64 Tryz.underlying23 Tryz.underlying3 hi0 hz0 none 0 0 [] (run_firstCells_none w.drew i0.size 0 0 0) n hn (by omega) (by omega) (by omega) (by rw [hz2]; omega)
      (by rw [hz2]; exact growslice_fits (by omega) (by omega))
    rw [Nat.zero_add] at h
    exact h
  have hcap := grownCap_ge w n 0 31
  have hcapm := grownCap_le_maxLen w n 0 31 (by unfold maxLen; omega)
  generalize grownCap w n 0 31 = G at *
  have hcap63 : G ≤ 9223372036854775807 := by unfold maxLen at hcapm; omega
  have b1 : decide ((n : Int) < 0) = false := by simp
  have b2 : decide ((0 : Int) < n) = true := by simp; omega
  have b2n : decide (0 < n) = true := by simp; omega
  go_enter Tryz.func92, Tryz.ntmps92
  go_wp2_with (at_builtin; refine Lib.wpList_append_run _ rfl _ _ _ _ rfl _ _ rfl rfl _ _ (hrz _) ?_)
  all_goals (go_ret; refine ⟨_, rfl, ⟨rfl, .inr ⟨w.heap.size, G, _, rfl, Nat.le_refl _, heap_alloc_new w.drew _, by omega, hcapm, ?_, rfl⟩⟩, (Below.refl _ _).drew.alloc (Nat.le_refl _) _⟩; simp [zc2]; omega)
theorem addr_add (g o j : Nat) : (⟨g, o, none⟩ : Addr).add j = ⟨g, o + j, none⟩ := by simp [Addr.add]
/-- A slice of tokens, not empty: its place. -/
structure Pt where
  g : Nat
  o : Nat
  c : Nat
  ts : List Tre.Fl
def Pt.v (p : Pt) : Value := .slice (some ⟨p.g, p.o, none⟩) p.ts.length p.c
theorem Pt.v_def (p : Pt) : p.v = .slice (some ⟨p.g, p.o, none⟩) p.ts.length p.c := rfl
structure PtOk (w : World) (p : Pt) : Prop where
  pos : 0 < p.ts.length
  lt : p.g < w.heap.size
  at_ : ∀ j u, (flsOf p.ts)[j]? = some u → w.cell? ⟨p.g, p.o + j, none⟩ = some u
theorem PtOk.next {w w' : World} {p : Pt} (h : PtOk w p) (hb : Below w.heap.size w w') : PtOk w' p :=
  ⟨h.pos, Nat.lt_of_lt_of_le h.lt hb.size, fun j u hj => (hb.cell (p := ⟨p.g, p.o + j, none⟩) h.lt).trans (h.at_ j u hj)⟩
def catL (L : List Pt) : List Tre.Fl := L.flatMap Pt.ts
theorem catL_snoc (L : List Pt) (k : Nat) (h : k < L.length) : catL (L.take (k + 1)) = catL (L.take k) ++ L[k].ts := by
  unfold catL; rw [List.take_succ_eq_append_getElem h, List.flatMap_append]; simp only [List.flatMap_cons, List.flatMap_nil, List.append_nil]
theorem catL_le (L : List Pt) (k : Nat) : (catL (L.take k)).length ≤ (catL L).length := by
  have : catL L = catL (L.take k) ++ catL (L.drop k) := by unfold catL; rw [← List.flatMap_append, List.take_append_drop]
  rw [this]; simp
set_option maxHeartbeats 4000000 in
set_option maxRecDepth 100000 in
theorem concat_any (q c : Nat) (L : List Pt) (w : World) (hq : q < w.heap.size) (hc : ∀ i (h : i < L.length), w.cell? ⟨q, i, none⟩ = some L[i].v) (hL : ∀ p ∈ L, PtOk w p) (hne : 0 < L.length) (hlm : L.length ≤ 1000) (hlen : (catL L).length ≤ 100000000) :
    Calls Tryz.prog 66 #[.slice (some ⟨q, 0, none⟩) L.length c] w fun e w' => ∃ v, e = .returned v ∧ w'.ownsRow w.heap.size 31 2 v (catL L).length (flsOf (catL L)) ∧ Below w.heap.size w w' := by
  obtain ⟨i0, hi0, hz0, hz1, hz2⟩ := info_parts infoF
  have hall := Lib.hid (show catL (L.take L.length) = catL L by rw [List.take_length])
  have hpos : 0 < (catL L).length := by
    have h1 := catL_le L 1
    have h2 := catL_snoc L 0 hne
    have h3 := (hL L[0] (List.getElem_mem hne)).pos
    rw [h2] at h1
    simp at h1
    omega
  go_enter Tryz.func66, Tryz.ntmps66
  go_wp2_with fail
  go_loopw [3, 11] (fun v i wr => ∃ (k : Nat), k ≤ L.length ∧ v = .int .i64 (catL (L.take k)).length ∧ i = .int .i64 k ∧ wr = w) (fun _ i _ => L.length - (intOf i).toNat)
  case atStart => exact ⟨0, by omega, rfl, rfl, rfl⟩
  case round =>
    obtain ⟨k, hk, rfl, rfl, hw⟩ := hrel
    have hw2 := hw.symm
    clear hw
    subst hw2
    by_cases hlt : k < L.length
    · have b1 : decide ((k : Int) < L.length) = true := by simp; omega
      have b1n : decide (k < L.length) = true := by simp; omega
      have hcell := hc k hlt
      have hk1 := catL_le L (k + 1)
      have hs := catL_snoc L k hlt
      clear hc
      have hs2 : (catL (L.take (k + 1))).length = (catL (L.take k)).length + L[k].ts.length := by rw [hs]; simp
      clear hs
      generalize L[k] = p at *
      rw [Pt.v_def] at hcell
      have HS := Lib.hid hs2
      clear hs2
      have b2 : decide (((catL (L.take k)).length : Int) + p.ts.length < 0) = false := by simp; omega
      have b3 : (catL (L.take k)).length + p.ts.length ≤ 100000000 := by have := HS.out; omega
      go_wp2_with fail
      go_roundw
      case rel => exact ⟨k + 1, by omega, by rw [HS.out]; go_num, by go_num, by first | rfl | trivial⟩
      case measure => simp [intOf]; omega
    · have b1 : decide ((k : Int) < L.length) = false := by simp; omega
      have b1n : decide (k < L.length) = false := by simp; omega
      obtain rfl : k = L.length := by omega
      rw [hall.out]
      have hgr := grow_any (catL L).length hpos (by omega) w
      go_wp2_with fail
      with_reducible refine hgr.mono ?_
      clear hgr
      rintro x w1 ⟨v, rfl, hown, hb⟩
      have HC := Lib.hid hc
      clear hc
      go_wp2_with fail
      go_loopw [6, 27] (fun v i wq => ∃ (k : Nat), k ≤ L.length ∧ i = .int .i64 k ∧ wq.ownsRow w.heap.size 31 2 v (catL (L.take k)).length (flsOf (catL (L.take k))) ∧ Below w.heap.size w wq) (fun _ i _ => L.length - (intOf i).toNat)
      case atStart => exact ⟨0, by omega, rfl, hown, hb⟩
      case round =>
        clear hown hb
        obtain ⟨k, hk, rfl, hown, hb⟩ := hrel
        by_cases hlt : k < L.length
        · have b1 : decide ((k : Int) < L.length) = true := by simp; omega
          have b1n : decide (k < L.length) = true := by simp; omega
          have hcell := (hb.cell (p := ⟨q, k, none⟩) hq).trans (HC.out k hlt)
          have hk1 := catL_le L (k + 1)
          have HS := Lib.hid (catL_snoc L k hlt)
          have hp := (hL L[k] (List.getElem_mem hlt)).next hb
          have hk2 : (catL (L.take k)).length + L[k].ts.length ≤ 100000000 := by have := congrArg List.length HS.out; simp at this; omega
          clear hk1
          generalize L[k] = p at *
          rw [Pt.v_def] at hcell
          have hpos := hp.pos
          have hrow := hown.lt
          go_wp2_with (at_builtin; go_must (refine wpList_append_lies _ (by rfl) _ _ 23 (by rfl) w.heap.size 31 i0 _ 2 32 Tryz.underlying23 hi0 hz0 hz1 hz2 rfl (by omega) _ (catL (L.take k)).length _ (by rfl) hown ⟨p.g, p.o, none⟩ p.ts.length p.c (flsOf p.ts) (by rfl) (flsOf_len _) (fun j u hj => by rw [addr_add]; exact hp.at_ j u hj) (flsOf_one _) hpos (by unfold maxLen; omega) (by omega) hb.size _ rfl ?_); intro gg cap3 w6 hown6 hgrow hat hlt6)
          have hb6 : Below w.heap.size w w6 := grown_own0 hb hgrow (fun j hj => (hrow j hj).1)
          rw [← flsOf_app, ← HS.out] at hown6
          have hle : (catL (L.take (k + 1))).length = (catL (L.take k)).length + p.ts.length := by rw [HS.out]; simp
          go_wp2_with fail
          go_roundw
          case rel => refine ⟨k + 1, by omega, by go_num, by rw [hle]; exact hown6, hb6⟩
          case measure => simp [intOf]; omega
        · have b1 : decide ((k : Int) < L.length) = false := by simp; omega
          have b1n : decide (k < L.length) = false := by simp; omega
          obtain rfl : k = L.length := by omega
          rw [hall.out] at hown
          go_wp2_with fail
          go_ret
          exact ⟨_, rfl, hown, hb⟩
end Go.Proofs.YtjgjkbkpdpacnaaGreatDoor
