/- Grams of the program. No condition but the lengths. -/
import Derived.Test.YtkmldaelgbkfbaaDoorRol
import Derived.Laws.OwnMore
import Derived.Lib.OwnKind
import Derived.Deep.AppendLies
import Derived.Deep.QuietTactic
import Derived.BigQuiet
namespace Go.Proofs.YtkmldaelgbkfbaaDoor
open Go.RowKit Go.Deep
namespace Rl
theorem info_parts {P : Program} {t : TypeId} {z : Value} {n b : Nat} (h : (P.info? t).map (fun i => (i.zero, i.size, i.bytes)) = some (some z, n, b)) : ∃ i, P.info? t = some i ∧ i.zero = some z ∧ i.size = n ∧ i.bytes = b := by
  obtain ⟨i, hi, he⟩ := Option.map_eq_some_iff.1 h
  simp only [Prod.mk.injEq] at he
  exact ⟨i, hi, he.1, he.2.1, he.2.2⟩
theorem infoIn : (Tryd.prog.info? 3).map (fun i => (i.zero, i.size, i.bytes)) = some (some (.int .i64 0), 1, 8) := by kernel_rfl
theorem own_same {w w' : World} {B e size n : Nat} {v : Value} {xs : List Value} (h : w.ownsRow B e size v n xs) (hb : ∀ g, v.ownBlock = some g → w'.heap[g]? = w.heap[g]?) : w'.ownsRow B e size v n xs := by
  refine ⟨h.1, ?_⟩
  rcases h.2 with h0 | ⟨g, cap, cur, rfl, h1, h2, h3⟩
  · exact .inl h0
  · exact .inr ⟨g, cap, cur, rfl, h1, (hb g rfl).trans h2, h3⟩
theorem own_below {w w' : World} {B e size n : Nat} {v : Value} {xs : List Value} (h : w.ownsRow B e size v n xs) (hb : Below w.heap.size w w') : w'.ownsRow B e size v n xs :=
  own_same h fun g hg => by
    obtain ⟨c, fz, h5⟩ := Lib.ownsRow_kind h g hg
    exact hb.block g (blk_lt h5)
theorem below_grown {B e size n : Nat} {w W w6 : World} {v : Value} {xs : List Value} (hb : Below B w W) (hB : B ≤ W.heap.size) (ho : W.ownsRow B e size v n xs) (hg : W.grownBy w6 v.ownBlock) : Below B w w6 :=
  hb.trans ⟨hg.os, hg.tape, hg.output, hg.size, fun k hk => hg.block k (by omega) (fun e => by have := (ho.lt k e.symm).1; omega)⟩
theorem own_empty (w : World) (B : Nat) (hB : B ≤ w.heap.size) (T : TypeId) (size : Nat) : (w.alloc (.cells #[] T)).ownsRow B T size (.slice (some ⟨w.heap.size, 0, none⟩) 0 0) 0 [] :=
  ⟨by simp, .inr ⟨w.heap.size, 0, #[], rfl, hB, heap_alloc_new w _, Nat.le_refl _, by unfold maxLen; omega, by simp, by simp⟩⟩
/-- The hash of the run of k words from the place i on. -/
def run (l : List Lx) (k i : Nat) : Nat := hash (txs ((l.drop i).take k))
def grm (l : List Lx) (k n : Nat) : List Int := (List.range n).map fun i => (run l k i : Int)
theorem grm_succ (l : List Lx) (k n : Nat) : grm l k (n + 1) = grm l k n ++ [(run l k n : Int)] := by
  unfold grm; rw [List.range_succ, List.map_append]; rfl
theorem grm_len (l : List Lx) (k n : Nat) : (grm l k n).length = n := by unfold grm; simp
theorem run_lt (l : List Lx) (k i : Nat) : run l k i < P := hash_lt _
/-- A run moves on. -/
theorem run_roll (l : List Lx) (k i : Nat) (h1 : 1 ≤ k) (h : i + k < l.length) : roll (run l k i) (l[i]'(by omega)).tx (l[i + k]'h).tx k = run l k (i + 1) := by
  have e1 : (l.drop i).take k = l[i]'(by omega) :: (l.drop (i + 1)).take (k - 1) := by
    rw [List.drop_eq_getElem_cons (by omega)]
    obtain ⟨j, rfl⟩ : ∃ j, k = j + 1 := ⟨k - 1, by omega⟩
    rw [List.take_succ_cons, Nat.add_sub_cancel]
  have e2 : (l.drop (i + 1)).take k = (l.drop (i + 1)).take (k - 1) ++ [l[i + k]'h] := by
    obtain ⟨j, rfl⟩ : ∃ j, k = j + 1 := ⟨k - 1, by omega⟩
    rw [Nat.add_sub_cancel, List.take_succ_eq_append_getElem (by rw [List.length_drop]; omega)]
    congr 2
    rw [List.getElem_drop]
    congr 1; omega
  have hlen : (txs ((l.drop (i + 1)).take (k - 1))).length = k - 1 := by unfold txs; rw [List.length_map, List.length_take, List.length_drop]; omega
  have := roll_ok (l[i]'(by omega)).tx (l[i + k]'h).tx (txs ((l.drop (i + 1)).take (k - 1)))
  rw [hlen, Nat.sub_add_cancel h1] at this
  unfold run
  rw [e1, e2]
  unfold txs at this ⊢
  rw [List.map_cons, List.map_append]
  exact this
/-- What Grams returns. -/
def gramsL (l : List Lx) (k : Int) : List Int := if k < 1 ∨ 8192 < k then [] else if 8192 < l.length then [] else grm l k.toNat (l.length + 1 - k.toNat)
def gramsE (l : List Lx) (k : Int) : Int := if k < 1 ∨ 8192 < k then 3 else if 8192 < l.length then 10 else 0
def GotGm (w : World) (L : List Int) (E : Int) : Ending → World → Prop := fun e w' => ∃ v, e = .returned (.tuple #[v, .int .i64 E]) ∧ w'.ownsRow w.heap.size 3 1 v L.length (insV L) ∧ Below w.heap.size w w'
theorem hash_at (l : List Lx) (A : Option Addr) (n c : Nat) (w : World) (hn : l.length = n) (hA : LxAt w w.heap.size A l) (hl : n ≤ 100000) (hs : Sht l) :
    Calls Tryd.prog 15 #[.slice A n c] w fun e w' => e = .returned (.int .i64 (hash (txs l) : Int)) ∧ Below w.heap.size w w' := by
  subst hn; exact hash_any l A c w hA hl hs
theorem qhash_at (l : List Lx) (A : Option Addr) (n c : Nat) (w : World) (hn : l.length = n) (hA : LxAt w w.heap.size A l) (hl : n ≤ 100000) (hs : Sht l) :
    Calls Tryd.prog 36 #[.slice A n c] w fun e w' => e = .returned (.int .i64 (hash (txs l) : Int)) ∧ Below w.heap.size w w' := by
  subst hn; exact qhash_any l A c w hA hl hs
theorem sht_part {l : List Lx} (h : Sht l) (i k : Nat) : Sht ((l.drop i).take k) := fun x hx => h x (List.mem_of_mem_drop (List.mem_of_mem_take hx))
theorem part_len {l : List Lx} {i k : Nat} (h : i + k ≤ l.length) : ((l.drop i).take k).length = k := by rw [List.length_take, List.length_drop]; omega
set_option maxHeartbeats 4000000 in
set_option maxRecDepth 100000 in
theorem grams_any (l : List Lx) (k : Int) (A : Option Addr) (c : Nat) (w : World) (hA : LxAt w w.heap.size A l) (hl : l.length ≤ 5864062014634) (hc : l.length ≤ c) (hs : Sht l) :
    Calls Tryd.prog 21 #[.slice A l.length c, .int .i64 k] w (GotGm w (gramsL l k) (gramsE l k)) := by
  obtain ⟨i0, hi0, hz0, hz1, hz2⟩ := info_parts infoIn
  have HL := Lib.hid (show gramsL l k = if k < 1 ∨ 8192 < k then [] else if 8192 < l.length then [] else grm l k.toNat (l.length + 1 - k.toNat) from rfl)
  have HE := Lib.hid (show gramsE l k = if k < 1 ∨ 8192 < k then 3 else if 8192 < l.length then 10 else 0 from rfl)
  generalize gramsL l k = L at *
  generalize gramsE l k = E at *
  have HAA := Lib.hid hA
  have HS := Lib.hid hs
  clear hA hs
  by_cases h1 : k < 1
  · have b1 : decide (k < 1) = true := decide_eq_true h1
    have HL2 := Lib.hid (HL.out.trans (if_pos (.inl h1)))
    have HE2 := Lib.hid (HE.out.trans (if_pos (.inl h1)))
    clear HL HE h1
    go_enter Tryd.func21, Tryd.ntmps21
    go_wp2_with fail
    go_ret2
    exact ⟨_, by rw [HE2.out]; rfl, by rw [HL2.out]; exact World.ownsRow_nil _ _ _ _, Below.refl _ _⟩
  have b1 : decide (k < 1) = false := decide_eq_false h1
  by_cases h2 : 8192 < k
  · have b2 : decide (8192 < k) = true := decide_eq_true h2
    have HL2 := Lib.hid (HL.out.trans (if_pos (.inr h2)))
    have HE2 := Lib.hid (HE.out.trans (if_pos (.inr h2)))
    clear HL HE h1 h2
    go_enter Tryd.func21, Tryd.ntmps21
    go_wp2_with fail
    go_ret2
    exact ⟨_, by rw [HE2.out]; rfl, by rw [HL2.out]; exact World.ownsRow_nil _ _ _ _, Below.refl _ _⟩
  have b2 : decide (8192 < k) = false := decide_eq_false h2
  have HL2 := Lib.hid (HL.out.trans (if_neg (fun h => h.elim h1 h2)))
  have HE2 := Lib.hid (HE.out.trans (if_neg (fun h => h.elim h1 h2)))
  clear HL HE
  by_cases h3 : 8192 < l.length
  · have b3 : decide ((8192 : Int) < (l.length : Int)) = true := decide_eq_true (by omega)
    have b3n : decide (8192 < l.length) = true := decide_eq_true h3
    have HL3 := Lib.hid (HL2.out.trans (if_pos h3))
    have HE3 := Lib.hid (HE2.out.trans (if_pos h3))
    clear h1 h2 h3 HL2 HE2
    go_enter Tryd.func21, Tryd.ntmps21
    go_wp2_with fail
    go_ret2
    exact ⟨_, by rw [HE3.out]; rfl, by rw [HL3.out]; exact World.ownsRow_nil _ _ _ _, Below.refl _ _⟩
  have b3 : decide ((8192 : Int) < (l.length : Int)) = false := decide_eq_false (by omega)
  have b3n : decide (8192 < l.length) = false := decide_eq_false h3
  have HL3 := Lib.hid (HL2.out.trans (if_neg h3))
  have HE3 := Lib.hid (HE2.out.trans (if_neg h3))
  obtain ⟨K, rfl⟩ : ∃ K : Nat, k = K := ⟨k.toNat, by omega⟩
  have b1n : decide (K < 1) = false := decide_eq_false (by omega)
  have b2n : decide (8192 < K) = false := decide_eq_false (by omega)
  by_cases h4 : l.length < K
  · have b4 : decide ((l.length : Int) < (K : Int)) = true := decide_eq_true (by omega)
    have b4n : decide (l.length < K) = true := decide_eq_true h4
    have HL4 := Lib.hid (show L = [] by rw [HL3.out]; show grm l K (l.length + 1 - K) = []; rw [show l.length + 1 - K = 0 by omega]; rfl)
    clear h1 h2 h3 h4 HL2 HE2 HL3
    go_enter Tryd.func21, Tryd.ntmps21
    go_wp2_with fail
    go_ret2
    exact ⟨_, by rw [HE3.out]; rfl, by rw [HL4.out]; exact World.ownsRow_nil _ _ _ _, Below.refl _ _⟩
  have b4 : decide ((l.length : Int) < (K : Int)) = false := decide_eq_false (by omega)
  have b4n : decide (l.length < K) = false := decide_eq_false h4
  obtain ⟨N, hN⟩ : ∃ N, l.length = N + K := ⟨l.length - K, by omega⟩
  have HN := Lib.hid hN
  have HL4 := Lib.hid (show L = grm l K (N + 1) by rw [HL3.out]; show grm l K (l.length + 1 - K) = _; rw [show l.length + 1 - K = N + 1 by omega])
  have t1 : IntKind.i64.wrap ((l.length : Int) - (K : Int)) = (N : Int) := by rw [IntKind.wrap_i64]; omega
  have HK := Lib.hid (show 1 ≤ K ∧ K ≤ 8192 ∧ l.length ≤ 8192 by omega)
  obtain ⟨g, o, rfl, hg, -, -⟩ := HAA.out 0 (by omega)
  have y0 : K ≤ c := by omega
  have y1 : (K : Int) ≤ (c : Int) := by omega
  have y2 : (0 : Int) ≤ (K : Int) := by omega
  have hP0 := HAA.out.part 0 K
  rw [Nat.zero_mul, Nat.add_zero] at hP0
  have c1 := hash_at ((l.drop 0).take K) (some ⟨g, o, none⟩) K c w (part_len (by omega)) hP0 (by omega) (sht_part HS.out 0 K)
  rw [show hash (txs ((l.drop 0).take K)) = run l K 0 from rfl] at c1
  clear h1 h2 h3 h4 HL2 HE2 HL3 hg hP0 hN hl hc
  go_enter Tryd.func21, Tryd.ntmps21
  go_wp2_with fail
  (with_reducible refine c1.mono ?_); rintro e w1 ⟨rfl, hb⟩
  have HB := Lib.hid hb
  clear hb c1
  obtain ⟨r0, hr0⟩ : ∃ r0, r0 = run l K 0 := ⟨_, rfl⟩
  rw [← hr0]
  have HR0 := Lib.hid hr0
  clear hr0
  go_wp2_with fail
  go_loopw [6, 7, 35] (fun s6 s7 s35 wr => ∃ i : Nat, s35 = .int .i64 i ∧ i ≤ N ∧ s6 = .int .i64 (run l K i : Int) ∧ wr.ownsRow w.heap.size 3 1 s7 (i + 1) (insV (grm l K (i + 1))) ∧ Below w.heap.size w wr) (fun _ _ s35 _ => N - (intOf s35).toNat)
  case atStart =>
    refine ⟨0, rfl, by omega, by rw [HR0.out], ?_, HB.out.alloc HB.out.size _⟩
    rw [show grm l K (0 + 1) = [(r0 : Int)] by rw [HR0.out]; rfl]
    exact World.ownsRow_lit (size := 1) w1 #[.int .i64 (r0 : Int)] 1 HB.out.size (by unfold maxLen; omega) (by rfl)
  case round =>
    obtain ⟨i, rfl, hi, rfl, hown, hb⟩ := hrel
    by_cases hlt : i < N
    · have b5 : decide ((i : Int) < (N : Int)) = true := decide_eq_true (by omega)
      have b5n : decide (i < N) = true := decide_eq_true hlt
      have hlen := HN.out
      have hKb := HK.out
      obtain ⟨g', o', e1, hg1, hd0, -⟩ := HAA.out i (by omega)
      obtain ⟨g'', o'', e2, hg2, hd1, -⟩ := HAA.out (i + K) (by omega)
      cases e1
      cases e2
      have hrl := run_roll l K i hKb.1 (by omega)
      have hsx := HS.out _ (List.getElem_mem (show i < l.length by omega))
      have hsy := HS.out _ (List.getElem_mem (show i + K < l.length by omega))
      generalize l[i]'(by omega) = x at *
      generalize l[i + K]'(by omega) = y at *
      have q0 := (hb.cell (p := ⟨g, o + i * 2, none⟩) hg1).trans hd0
      have q1 := (hb.cell (p := ⟨g, o + (i + K) * 2, none⟩) hg1).trans hd1
      have y3 : (i : Int) < (l.length : Int) := by omega
      have y4 : (i : Int) + (K : Int) < (l.length : Int) := by omega
      have t3 : IntKind.i64.wrap ((i : Int) + (K : Int)) = (i : Int) + (K : Int) := by rw [IntKind.wrap_i64]; omega
      have cc := fun w => roll_any (run l K i : Int) (str x.tx) (str y.tx) (K : Int) w (by rw [str_size]; exact hsx) (by rw [str_size]; exact hsy)
      have hok : okR (run l K i : Int) (K : Int) := ⟨by rw [isR_nat]; exact decide_eq_true (run_lt _ _ _), by omega, by omega⟩
      rw [show rollI (run l K i : Int) (str x.tx).data.toList (str y.tx).data.toList (K : Int) = run l K (i + 1) by unfold rollI; rw [if_pos hok]; exact hrl, show rollE (run l K i : Int) (K : Int) = 0 from if_pos hok] at cc
      have HT := Lib.hid (grm_succ l K (i + 1))
      generalize hq : run l K (i + 1) = r2 at *
      have HQ := Lib.hid hq
      generalize run l K i = r1 at *
      generalize str x.tx = sx at *
      generalize str y.tx = sy at *
      have HO := Lib.hid hown
      have HB2 := Lib.hid hb
      clear hq hrl hok hsx hsy hd0 hd1 hown hb hlen hKb hg1 hg2

      go_wp2_with fail
      go_quiet ((go_at_call 33; exact Calls.quiet_of_same ((cc _).mono fun e w' h => ⟨h.1, h.2.symm⟩)))
      have hown4 := own_below HO.out (below_drewN wr nq)
      have hb04 := HB2.out.trans ((below_drewN wr nq).mono HB2.out.size)
      obtain ⟨w5, hw5⟩ : ∃ w5, w5 = wr.drewN nq := ⟨_, rfl⟩
      rw [← hw5] at hown4 hb04 ⊢
      clear hw5
      have hsz := hb04.size
      have hik : i ≤ 8192 := by have := HK.out; have := HN.out; omega
      clear HO HB2
      go_wp2_with (at_builtin; refine wpList_append_own_wide _ (by rfl) _ _ 47 (by rfl) w.heap.size 3 i0 _ 1 8 Tryd.underlying47 hi0 hz0 hz1 hz2 rfl (by omega) _ (i + 1) _ (by rfl) (hown4.alloc _) ⟨w5.heap.size, 0, none⟩ 1 1 [_] (by rfl) (by rfl) (World.news_of_block (cs := #[_]) (t := 3) (fr := (0, 0)) (heap_alloc_new w5 _)) (by simp [Value.oneCell']) (by unfold maxLen; omega) (by omega) (by simp; omega) ?_; intro v6 w6 hown6 hgrow6 _)
      have HO := Lib.hid hown6
      have HB4 := Lib.hid (below_grown (hb04.alloc hsz _) (by simp; omega) (hown4.alloc _) hgrow6)
      clear hown6 hgrow6 hown4 hb04
      go_wp2_with fail
      go_roundw
      case rel => exact ⟨i + 1, by go_num, by omega, by rw [HQ.out], by rw [HT.out, insV_app, insV_one]; exact HO.out, HB4.out⟩
      case measure => simp [intOf]; omega
    · have b5 : decide ((i : Int) < (N : Int)) = false := decide_eq_false (by omega)
      have b5n : decide (i < N) = false := decide_eq_false hlt
      have HO := Lib.hid hown
      have HB2 := Lib.hid hb
      have HI := Lib.hid (show i = N by omega)
      generalize run l K i = r1 at *
      clear hown hb
      go_wp2_with fail
      go_ret2
      refine ⟨_, by rw [HE3.out]; rfl, ?_, HB2.out⟩
      rw [HL4.out, grm_len, ← HI.out]
      exact HO.out
end Rl
end Go.Proofs.YtkmldaelgbkfbaaDoor
