/- Texts with equal runs share a fingerprint at corresponding places: plain. No condition. -/
import Derived.Test.YtkmldaelgbkfbaaDoorFpr
import Derived.Test.YtkmldaelgbkfbaaDoorOrd
namespace Go.Proofs.YtkmldaelgbkfbaaDoor
open Go.RowKit Go.Deep
/-- Equal words have equal texts. -/
theorem cmn_txs : ∀ (a b : List Nm.Lx) n, n ≤ Nm.cmn a b → (a.take n).map (·.tx) = (b.take n).map (·.tx)
  | _, _, 0, _ => by simp
  | [], _, n + 1, h => by simp [Nm.cmn] at h
  | _ :: _, [], n + 1, h => by simp [Nm.cmn] at h
  | x :: r, y :: s, n + 1, h => by
    unfold Nm.cmn at h
    split at h
    · rename_i e
      rw [List.take_succ_cons, List.take_succ_cons, List.map_cons, List.map_cons, e, cmn_txs r s n (by omega)]
    · omega
namespace Wn
theorem run_txs (l : List Nm.Lx) (k i : Nat) : Rl.run (rlx l) k i = Rl.hash (((l.drop i).take k).map (·.tx)) := by
  unfold Rl.run Rl.txs rlx
  rw [← List.map_drop, ← List.map_take, List.map_map]
  rfl
theorem gram_len (t : Nm.Txt) (k : Nat) (hv : Nm.vld t = true) (h1 : 1 ≤ k) (h2 : k ≤ 1024) : (prG t (k : Int)).length = t.ws.length + 1 - k := by
  have hl := vld_len hv
  have hl2 := rlx_len t.ws
  unfold prG Rl.gramsL
  rw [if_neg (by omega), if_neg (by omega), Rl.grm_len, hl2, Int.toNat_natCast]
theorem gram_at (t : Nm.Txt) (k i : Nat) (hv : Nm.vld t = true) (h1 : 1 ≤ k) (h2 : k ≤ 1024) (hi : i + k ≤ t.ws.length) : (prG t (k : Int)).getD i 0 = (Rl.hash (((t.ws.drop i).take k).map (·.tx)) : Int) := by
  have hl := vld_len hv
  have hl2 := rlx_len t.ws
  unfold prG Rl.gramsL
  rw [if_neg (by omega), if_neg (by omega), hl2, Int.toNat_natCast]
  unfold Rl.grm
  rw [List.getD_eq_getElem?_getD, List.getElem?_map, List.getElem?_range (by omega), ← run_txs]
  rfl
/-- Runs of equal words. -/
theorem com_runs (a b : Nm.Txt) (p q n t k : Nat) (h : n ≤ Nm.cmn (a.ws.drop p) (b.ws.drop q)) (ht : t + k ≤ n) : ((a.ws.drop (p + t)).take k).map (·.tx) = ((b.ws.drop (q + t)).take k).map (·.tx) := by
  have e := cmn_txs (a.ws.drop p) (b.ws.drop q) (t + k) (by omega)
  have e2 := congrArg (fun l => l.drop t) e
  simp only [← List.map_drop] at e2
  have key : ∀ (l : List Nm.Lx) (s : Nat), ((l.drop s).take (t + k)).drop t = (l.drop (s + t)).take k := fun l s => by
    rw [List.drop_take, List.drop_drop, Nat.add_sub_cancel_left]
  rwa [key, key] at e2
theorem prs_mem {a b : List Fp} {x y : Fp} (hx : x ∈ a) (hy : y ∈ b) (h : x.hash = y.hash) : (⟨x.pos, y.pos⟩ : Fp) ∈ prs a b := by
  unfold prs
  refine List.mem_flatMap.2 ⟨x, hx, List.mem_map.2 ⟨y.pos, ?_, rfl⟩⟩
  unfold plc
  exact List.mem_map.2 ⟨y, List.mem_filter.2 ⟨hy, by simp [h]⟩, rfl⟩
theorem fps_mem {gs : List Int} {S : List Nat} {x : Nat} (h : x ∈ S) : (⟨gs.getD x 0, (x : Int)⟩ : Fp) ∈ fps gs S := List.mem_map.2 ⟨x, h, rfl⟩
theorem complete_ok (a b : Nm.Txt) (p q n k w : Nat) (hva : Nm.vld a = true) (hvb : Nm.vld b = true) (hk1 : 1 ≤ k) (hk2 : k ≤ 1024) (hw1 : 1 ≤ w) (hw2 : w ≤ 1024) (hn : n ≤ Nm.cmn (a.ws.drop p) (b.ws.drop q)) (hp : p + n ≤ a.ws.length) (hq : q + n ≤ b.ws.length) (hkw : k + w ≤ n + 1) :
    ∃ z : Nat, z < w ∧ (⟨((p + z : Nat) : Int), ((q + z : Nat) : Int)⟩ : Fp) ∈ prs (prL a (k : Int) (w : Int)) (prL b (k : Int) (w : Int)) := by
  have ga := gram_len a k hva hk1 hk2
  have gb := gram_len b k hvb hk1 hk2
  have hL := lst_of (l := prG a (k : Int)) (f := p) (show 0 < w by omega)
  have hsame : ∀ j, j < w → (prG a (k : Int)).getD (p + j) 0 = (prG b (k : Int)).getD (q + j) 0 := fun j hj => by
    rw [gram_at a k (p + j) hva hk1 hk2 (by omega), gram_at b k (q + j) hvb hk1 hk2 (by omega), com_runs a b p q n j k hn (by omega)]
  have hs := lst_shift (prG a (k : Int)) (prG b (k : Int)) p q w hsame
  obtain ⟨z, hz⟩ : ∃ z, lst (prG a (k : Int)) p w = p + z := ⟨lst (prG a (k : Int)) p w - p, by have := hL.ge; omega⟩
  have hzw : z < w := by have := hL.lt; omega
  have hz2 : lst (prG b (k : Int)) q w = q + z := by omega
  have e1 : prL a (k : Int) (w : Int) = fps (prG a (k : Int)) (prS a (k : Int) (w : Int)) := if_pos ⟨hva, sz_nat hk1 hk2, sz_nat hw1 hw2⟩
  have e2 : prL b (k : Int) (w : Int) = fps (prG b (k : Int)) (prS b (k : Int) (w : Int)) := if_pos ⟨hvb, sz_nat hk1 hk2, sz_nat hw1 hw2⟩
  have m1 : p + z ∈ prS a (k : Int) (w : Int) := by
    unfold prS
    rw [Int.toNat_natCast]
    exact (sel_mem _ _ _ _).2 ⟨p, by omega, hz.symm⟩
  have m2 : q + z ∈ prS b (k : Int) (w : Int) := by
    unfold prS
    rw [Int.toNat_natCast]
    exact (sel_mem _ _ _ _).2 ⟨q, by omega, hz2.symm⟩
  refine ⟨z, hzw, ?_⟩
  rw [e1, e2]
  exact prs_mem (fps_mem m1) (fps_mem m2) (hsame z hzw)
end Wn
end Go.Proofs.YtkmldaelgbkfbaaDoor
