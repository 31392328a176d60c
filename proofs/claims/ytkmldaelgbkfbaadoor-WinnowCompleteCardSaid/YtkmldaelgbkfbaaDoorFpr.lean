/- Fingerprints of a text; slices.Equal of the same fingerprints. No condition but the lengths. -/
import Derived.Test.YtkmldaelgbkfbaaDoorGap
import Derived.Test.YtkmldaelgbkfbaaDoorQgr
import Derived.Test.YtkmldaelgbkfbaaDoorNqv
namespace Go.Proofs.YtkmldaelgbkfbaaDoor
open Go.RowKit Go.Deep
/-- Words of the one layer as words of the other. -/
def rlx (l : List Nm.Lx) : List Rl.Lx := l.map fun x => ⟨x.tx, x.ln⟩
theorem rlx_len (l : List Nm.Lx) : (rlx l).length = l.length := List.length_map _
theorem rlx_get (l : List Nm.Lx) (j : Nat) (h : j < (rlx l).length) (h' : j < l.length) : (rlx l)[j] = ⟨l[j].tx, l[j].ln⟩ := by simp [rlx]
theorem rlx_at {w : World} {B : Nat} {A : Option Addr} {l : List Nm.Lx} (h : Nm.LxAt w B A l) : Rl.LxAt w B A (rlx l) := fun j hj => by
  have hj' := hj
  rw [rlx_len] at hj'
  obtain ⟨g, o, e, hg, h0, h1⟩ := h j hj'
  rw [rlx_get l j hj hj']
  exact ⟨g, o, e, hg, h0, h1⟩
theorem few_sht {l : List Nm.Lx} (h : ∀ x ∈ rlx l, (Rl.str x.tx).size ≤ 40) : (∀ x ∈ l, x.tx.length ≤ 40) ∧ Rl.Sht (rlx l) := by
  refine ⟨fun x hx => ?_, fun x hx => ?_⟩
  · have := h ⟨x.tx, x.ln⟩ (List.mem_map.2 ⟨x, hx, rfl⟩); rwa [Rl.str_size] at this
  · have := h x hx; rw [Rl.str_size] at this; omega
namespace Wn
/-- The selected positions, each with its hash. -/
def fps (gs : List Int) (S : List Nat) : List Fp := S.map fun j => ⟨gs.getD j 0, j⟩
theorem fps_len (gs : List Int) (S : List Nat) : (fps gs S).length = S.length := List.length_map _
theorem fps_take (gs : List Int) (S : List Nat) (k : Nat) (h : k < S.length) : fps gs (S.take (k + 1)) = fps gs (S.take k) ++ [⟨gs.getD S[k] 0, S[k]⟩] := by
  unfold fps; rw [List.take_succ_eq_append_getElem h, List.map_append]; rfl
/-- The hashes of a text's runs, and what is selected among them. -/
def prG (t : Nm.Txt) (k : Int) : List Int := Rl.gramsL (rlx t.ws) k
def prS (t : Nm.Txt) (k n : Int) : List Nat := sel (prG t k) n.toNat ((prG t k).length + 1 - n.toNat)
/-- What Prints returns. -/
def prL (t : Nm.Txt) (k n : Int) : List Fp := if Nm.vld t = true ∧ sz k = true ∧ sz n = true then fps (prG t k) (prS t k n) else []
def prE (t : Nm.Txt) (k n : Int) : Int := if Nm.vld t = true then if sz k = true ∧ sz n = true then 0 else 3 else 1
theorem vld_len {t : Nm.Txt} (h : Nm.vld t = true) : t.ws.length ≤ 8192 := by
  unfold Nm.vld at h
  rw [Bool.and_eq_true, Bool.and_eq_true] at h
  exact of_decide_eq_true h.1.2
theorem grams_ok (t : Nm.Txt) (k : Int) (hv : Nm.vld t = true) (hk : sz k = true) : Rl.gramsE (rlx t.ws) k = 0 ∧ (prG t k).length ≤ 8192 := by
  obtain ⟨K, rfl, h1, h2⟩ := sz_of hk
  have hl := vld_len hv
  have hl2 := rlx_len t.ws
  constructor
  · unfold Rl.gramsE; rw [if_neg (by omega), if_neg (by omega)]
  · unfold prG Rl.gramsL; rw [if_neg (by omega), if_neg (by omega), Rl.grm_len]; omega
theorem prS_mem (t : Nm.Txt) (k n : Int) (hn : sz n = true) (x : Nat) (h : x ∈ prS t k n) : x < (prG t k).length := by
  obtain ⟨N, rfl, h1, h2⟩ := sz_of hn
  unfold prS at h
  rw [Int.toNat_natCast] at h
  by_cases hN : (prG t k).length + 1 - N = 0
  · rw [hN] at h; simp [sel] at h
  · have := sel_lt _ N h1 _ x h; omega
def GotF (w : World) (L : List Fp) (E : Int) : Ending → World → Prop := fun e w' => ∃ A c, e = .returned (.tuple #[.slice A L.length c, .int .i64 E]) ∧ L.length ≤ c ∧ c ≤ maxLen ∧ Gr.EdAt w' w'.heap.size A L ∧ Below w.heap.size w w'
theorem infoFp : (Tryd.prog.info? 35).map (fun i => (i.zero, i.size, i.bytes)) = some (some (.agg #[.int .i64 0, .int .i64 0]), 2, 16) := by kernel_rfl
theorem edV_ones (x : Fp) : ∀ u ∈ Gr.edV x, u.oneCell' = true := fun u hu => by
  simp only [Gr.edV, List.mem_cons, List.not_mem_nil, or_false] at hu
  rcases hu with rfl | rfl <;> rfl
theorem ed_cells {w : World} {B : Nat} {A : Option Addr} {l : List Fp} (h : Gr.EdAt w B A l) (h0 : 0 < l.length) : ∃ g o, A = some ⟨g, o, none⟩ ∧ g < B ∧ ∀ j (hj : j < l.length), w.cell? ⟨g, o + j * 2, none⟩ = some (.int .i64 l[j].hash) ∧ w.cell? ⟨g, o + j * 2 + 1, none⟩ = some (.int .i64 l[j].pos) := by
  obtain ⟨g, o, e, hg, hc⟩ := h.row h0
  exact ⟨g, o, e, hg, fun j hj => ⟨hc j hj 0 _ rfl, hc j hj 1 _ rfl⟩⟩
set_option maxHeartbeats 16000000 in
set_option maxRecDepth 100000 in
theorem equalFp_any (L : List Fp) (A B : Option Addr) (c d : Nat) (w : World) (hA : Gr.EdAt w w.heap.size A L) (hB : Gr.EdAt w w.heap.size B L) (hl : L.length ≤ 10000) :
    Calls Tryd.prog 11 #[.slice A L.length c, .slice B L.length d] w fun e w' => e = .returned (.bool true) ∧ Below w.heap.size w w' := by
  obtain ⟨n1, hn1⟩ : ∃ n1, n1 = L.length := ⟨_, rfl⟩
  rw [← hn1]
  rw [← hn1] at hl
  have z1 : ((n1 : Int) != (n1 : Int)) = false := by simp
  by_cases h0 : n1 = 0
  · have b1 : decide ((0 : Int) < (n1 : Int)) = false := decide_eq_false (by omega)
    have b1n : decide (0 < n1) = false := decide_eq_false (by omega)
    clear hA hB hl h0 hn1
    go_enter Tryd.func11, Tryd.ntmps11
    go_wp2_with fail
    go_loopw [13] (fun s13 wr => s13 = .int .i64 0 ∧ Below w.heap.size w wr) (fun _ _ => 0)
    case atStart => exact ⟨rfl, Below.refl _ _⟩
    case round =>
      obtain ⟨rfl, hb⟩ := hrel
      have HB := Lib.hid hb
      clear hb
      go_wp2_with fail
      go_ret
      exact ⟨rfl, HB.out⟩
  obtain ⟨g, o, rfl, hg, hc⟩ := ed_cells hA (by omega)
  obtain ⟨g', o', rfl, hg', hc'⟩ := ed_cells hB (by omega)
  have HC := Lib.hid hc
  have HC' := Lib.hid hc'
  have HN := Lib.hid (And.intro hn1 hl)
  clear hA hB hl h0 hn1 hc hc'
  go_enter Tryd.func11, Tryd.ntmps11
  go_wp2_with fail
  go_loopw [13] (fun s13 wr => ∃ i : Nat, s13 = .int .i64 i ∧ i ≤ n1 ∧ Below w.heap.size w wr) (fun s13 _ => n1 - (intOf s13).toNat)
  case atStart => exact ⟨0, rfl, by omega, Below.refl _ _⟩
  case round =>
    obtain ⟨i, rfl, hi, hb⟩ := hrel
    obtain ⟨hn1, hl⟩ := HN.out
    have HB := Lib.hid (show ∀ n, Below w.heap.size w (wr.drewN n) from fun n => ⟨hb.os, hb.tape, hb.output, hb.size, hb.block⟩)
    by_cases hlt : i < n1
    · have b1 : decide ((i : Int) < (n1 : Int)) = true := decide_eq_true (by omega)
      have b1n : decide (i < n1) = true := decide_eq_true hlt
      have y1 : (i : Int) < (n1 : Int) := by omega
      obtain ⟨p0, p1⟩ := HC.out i (by omega)
      obtain ⟨q0, q1⟩ := HC'.out i (by omega)
      have p0 := (hb.cell (p := ⟨g, o + i * 2, none⟩) hg).trans p0
      have p1 := (hb.cell (p := ⟨g, o + i * 2 + 1, none⟩) hg).trans p1
      have q0 := (hb.cell (p := ⟨g', o' + i * 2, none⟩) hg').trans q0
      have q1 := (hb.cell (p := ⟨g', o' + i * 2 + 1, none⟩) hg').trans q1
      generalize L[i] = x at *
      have hi8 : i ≤ 10000 := by omega
      have HI := Lib.hid (show i + 1 ≤ n1 from hlt)
      clear hb hn1 hl hi hlt
      go_wp2_with fail
      go_quiet (fail)
      clear p0 p1 q0 q1 y1
      go_wp2_with fail
      go_roundw
      case rel => exact ⟨i + 1, by go_num, HI.out, HB.out _⟩
      case measure => have := HI.out; simp [intOf]; omega
    · have b1 : decide ((i : Int) < (n1 : Int)) = false := decide_eq_false (by omega)
      have b1n : decide (i < n1) = false := decide_eq_false hlt
      have HBB := Lib.hid hb
      clear hb hn1 hl hi hlt
      go_wp2_with fail
      go_ret
      exact ⟨rfl, HBB.out⟩
end Wn
end Go.Proofs.YtkmldaelgbkfbaaDoor
