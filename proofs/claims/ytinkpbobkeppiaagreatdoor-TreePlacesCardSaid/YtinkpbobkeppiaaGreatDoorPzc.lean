/- An argument of TreeLines, opened. No condition but the sizes.
Arguments that are a line or a file, opened. No condition. -/
import Derived.Test.YtinkpbobkeppiaaGreatDoorLft
import Derived.Test.YtinkpbobkeppiaaGreatDoorSpl
section
namespace Go.Proofs.YtinkpbobkeppiaaGreatDoor
open Go.ChangeShapes Go.WideShapes Go.ChangeAt Go.WideMaps Go.WideElems Go.RowKit Go.Deep

section
variable {H : Type} {enc : TypeId × Value → H}
theorem open_strs_at {w : World} {held : Bool} {fuel : Nat} {cs : List Value} {x : DataW H × List MemPlace}
    (h : DataW.trod enc Tryz.prog w 0 (fun _ => true) held fuel 43 cs = some x) (hz : (x.1.weights Tryz.prog 43).all (· ≤ reachBytes) = true) :
    ∃ (A : Option Addr) (c : Nat) (ls : List (List UInt8)), cs = [.slice A ls.length c] ∧ CellsAt w w.heap.size A (strs ls) ∧ (∀ l ∈ ls, l.length ≤ 200000000000000) ∧ ls.length ≤ c := by
  have cq : Tryz.prog.cellsOf 9 = 1 := by kernel_rfl
  rcases open_slice1 Tryz.underlying43 cq h with ⟨rfl, _⟩ | ⟨a, len, cap, m, n, V, D, Pl, rfl, _, hl, hmx, hmm, rfl, hi⟩
  · exact ⟨none, 0, [], rfl, fun i hi => by simp [strs] at hi, by simp, by simp⟩
  · simp only [if_true] at hmm
    have hrb : reachBytes = 140737488351232 := rfl
    have each : ∀ i, i < len → ∃ t : List UInt8, w.cell? (a.add i) = some (.string (str t)) ∧ t.length ≤ reachBytes := by
      intro i hil
      obtain ⟨h0, e0⟩ := hi i (by omega)
      obtain ⟨s0, q0, q2, _⟩ := DataW.trod_string Tryz.underlying9 e0
      simp only [List.cons.injEq, and_true] at q0
      have q3 : D i = .lit (.string s0.data.toList) := congrArg Prod.fst q2
      refine ⟨s0.data.toList, ?_, ?_⟩
      · rw [h0, q0]; cases s0; simp [str]
      · have hm : s0.data.toList.length ∈ DataW.weights Tryz.prog 43 (.slice ((List.range len).map D) ((List.range (m - len)).map fun j => D (len + j))) := by
          rw [DataW.weights, Tryz.underlying43]
          exact List.mem_cons_of_mem _ (List.mem_append_left _ (weights_mem_all (d := D i) (List.mem_map.2 ⟨i, List.mem_range.2 hil, rfl⟩) _ (by rw [q3]; simp [DataW.weights])))
        have := List.all_eq_true.1 hz _ hm
        simpa using this
    obtain ⟨y, hy⟩ := choose_lt each
    refine ⟨some a, cap, (List.range len).map y, by simp, fun i hi' => ?_, fun l hl2 => ?_, by simp; exact hl⟩
    · have hi1 : i < len := by simpa [strs] using hi'
      have h0 := (hy i hi1).1
      obtain ⟨g, o, rfl, hg⟩ := plain_of_cell (a := a) (hy 0 (by omega)).1
      rw [addr_add] at h0
      exact ⟨g, o, rfl, hg, by simpa [strs] using h0⟩
    · obtain ⟨i, hi2, rfl⟩ := List.mem_map.1 hl2
      have := (hy i (List.mem_range.1 hi2)).2
      omega
theorem six_of {α : Type} (l : List α) (h : l.length = 6) : ∃ a b c d e f, l = [a, b, c, d, e, f] := by
  match l, h with
  | [a, b, c, d, e, f], _ => exact ⟨a, b, c, d, e, f, rfl⟩
theorem five_of {α : Type} (l : List α) (h : l.length = 5) : ∃ a b c d e, l = [a, b, c, d, e] := by
  match l, h with
  | [a, b, c, d, e], _ => exact ⟨a, b, c, d, e, rfl⟩
theorem two_of {α : Type} (l : List α) (h : l.length = 2) : ∃ a b, l = [a, b] := by
  match l, h with
  | [a, b], _ => exact ⟨a, b, rfl⟩
set_option maxRecDepth 100000 in
theorem open_lined {w : World} {r : Reach} {b0 : Nat} {v : Value} {d : DataW H} {p : List MemPlace} (hv : Value.okWide Tryz.prog w r b0 47 v) (h : DataW.Trod enc Tryz.prog w 0 (fun _ => true) true 47 v d p)
    (hz : (d.weights Tryz.prog 47).all (· ≤ reachBytes) = true) :
    ∃ (s : ByteArray) (AL : Option Addr) (cL : Nat) (ls : List (List UInt8)) (t : Tr) (pth : ByteArray) (n : Int) (text : ByteArray), v = .agg #[.string s, .slice AL ls.length cL, .slice t.A t.ts.length t.c, .string pth, .int .i64 n, .string text] ∧
      (CellsAt w w.heap.size AL (strs ls) ∧ (∀ l ∈ ls, l.length ≤ 200000000000000) ∧ ls.length ≤ cL) ∧ (TrOk w t ∧ t.ts.length ≤ t.c ∧ t.c ≤ maxLen) ∧ s.size ≤ maxLen ∧ pth.size ≤ maxLen ∧ text.size ≤ maxLen := by
  obtain ⟨cs, rfl, hsz⟩ := okWide_struct Tryz.underlying47 hv
  obtain ⟨fuel, hf⟩ := h
  obtain ⟨xs, n2, _, hx, hcl, hlen, hg⟩ := DataW.trod_struct Tryz.underlying47 hf
  have c6 : Tryz.prog.cellsOf 47 = 6 := by kernel_rfl
  obtain ⟨l⟩ := cs
  obtain ⟨v0, v1, v2, v3, v4, v5, rfl⟩ := six_of l (by simpa [c6] using hsz)
  obtain ⟨x0, x1, x2, x3, x4, rfl⟩ := five_of xs hlen
  have g0 := hg 0 _ rfl
  have g1 := hg 1 _ rfl
  have g2 := hg 2 _ rfl
  have g3 := hg 3 _ rfl
  have g4 := hg 4 _ rfl
  change DataW.trod enc _ w 0 _ true n2 9 (List.take (Tryz.prog.cellsOf 9) [v0, v1, v2, v3, v4, v5]) = some x0 at g0
  change DataW.trod enc _ w 0 _ true n2 43 (List.take (Tryz.prog.cellsOf 43) [v1, v2, v3, v4, v5]) = some x1 at g1
  change DataW.trod enc _ w 0 _ true n2 23 (List.take (Tryz.prog.cellsOf 23) [v2, v3, v4, v5]) = some x2 at g2
  change DataW.trod enc _ w 0 _ true n2 45 (List.take (Tryz.prog.cellsOf 45) [v3, v4, v5]) = some x3 at g3
  change DataW.trod enc _ w 0 _ true n2 9 (List.take (Tryz.prog.cellsOf 9) [v5]) = some x4 at g4
  rw [show Tryz.prog.cellsOf 9 = 1 by kernel_rfl, List.take_succ_cons, List.take_zero] at g0 g4
  rw [show Tryz.prog.cellsOf 43 = 1 by kernel_rfl, List.take_succ_cons, List.take_zero] at g1
  rw [show Tryz.prog.cellsOf 23 = 1 by kernel_rfl, List.take_succ_cons, List.take_zero] at g2
  rw [show Tryz.prog.cellsOf 45 = 2 by kernel_rfl, List.take_succ_cons, List.take_succ_cons, List.take_zero] at g3
  simp only [Prod.mk.injEq, List.map_cons, List.map_nil] at hx
  obtain ⟨rfl, _⟩ := hx
  have hz2 : ∀ (j : Nat) (t : TypeId) (y : DataW H), [9, 43, 23, 45, 9][j]? = some t → [x0.1, x1.1, x2.1, x3.1, x4.1][j]? = some y → (y.weights Tryz.prog t).all (· ≤ reachBytes) = true := fun j t y ht hy => by
    refine List.all_eq_true.2 fun z hzz => List.all_eq_true.1 hz z ?_
    rw [DataW.weights, Tryz.underlying47]
    exact DataW.weights_mem_each (j := j) (t := t) ht hy z hzz
  obtain ⟨s, e0, _, hs0⟩ := DataW.trod_string Tryz.underlying9 g0
  obtain ⟨AL, cL, ls, e1, hc, hle, hlc⟩ := open_strs_at g1 (hz2 1 _ _ rfl rfl)
  obtain ⟨t, e2, ht, htc, htm⟩ := open_fls_at g2 (hz2 2 _ _ rfl rfl)
  obtain ⟨ys, n3, _, _, _, hlen3, hg3⟩ := DataW.trod_struct Tryz.underlying45 g3
  obtain ⟨y0, y1, rfl⟩ := two_of ys hlen3
  have k0 := hg3 0 _ rfl
  have k1 := hg3 1 _ rfl
  change DataW.trod enc _ w 0 _ true n3 9 (List.take (Tryz.prog.cellsOf 9) [v3, v4]) = some y0 at k0
  change DataW.trod enc _ w 0 _ true n3 3 (List.take (Tryz.prog.cellsOf 3) [v4]) = some y1 at k1
  rw [show Tryz.prog.cellsOf 9 = 1 by kernel_rfl, List.take_succ_cons, List.take_zero] at k0
  rw [show Tryz.prog.cellsOf 3 = 1 by kernel_rfl, List.take_succ_cons, List.take_zero] at k1
  obtain ⟨pth, e3, _, hs3⟩ := DataW.trod_string Tryz.underlying9 k0
  obtain ⟨n, e4, _, _⟩ := DataW.trod_int Tryz.underlying3 k1
  obtain ⟨text, e5, _, hs5⟩ := DataW.trod_string Tryz.underlying9 g4
  simp only [List.cons.injEq, and_true] at e0 e1 e2 e3 e4 e5
  subst e0 e1 e2 e3 e4 e5
  exact ⟨s, AL, cL, ls, t, pth, n, text, rfl, ⟨hc, hle, hlc⟩, ⟨ht, htc, htm⟩, hs0, hs3, hs5⟩
end
end Go.Proofs.YtinkpbobkeppiaaGreatDoor
end
section
namespace Go.Proofs.YtinkpbobkeppiaaGreatDoor
open Go.ChangeShapes Go.WideShapes Go.ChangeAt Go.WideMaps Go.WideElems Go.RowKit Go.Deep

section
variable {H : Type} {enc : TypeId × Value → H}
set_option maxRecDepth 100000 in
theorem open_line {w : World} {r : Reach} {b0 : Nat} {v : Value} {d : DataW H} {p : List MemPlace} (hv : Value.okWide Tryz.prog w r b0 45 v) (h : DataW.Trod enc Tryz.prog w 0 (fun _ => true) true 45 v d p) :
    ∃ (s : ByteArray) (n : Int), v = .agg #[.string s, .int .i64 n] ∧ s.size ≤ maxLen := by
  obtain ⟨cs, rfl, hsz⟩ := okWide_struct Tryz.underlying45 hv
  obtain ⟨fuel, hf⟩ := h
  obtain ⟨xs, n2, _, hx, hcl, hlen, hg⟩ := DataW.trod_struct Tryz.underlying45 hf
  have c2 : Tryz.prog.cellsOf 45 = 2 := by kernel_rfl
  obtain ⟨l⟩ := cs
  obtain ⟨v3, v4, rfl⟩ := two_of l (by simpa [c2] using hsz)
  obtain ⟨y0, y1, rfl⟩ := two_of xs hlen
  have k0 := hg 0 _ rfl
  have k1 := hg 1 _ rfl
  change DataW.trod enc _ w 0 _ true n2 9 (List.take (Tryz.prog.cellsOf 9) [v3, v4]) = some y0 at k0
  change DataW.trod enc _ w 0 _ true n2 3 (List.take (Tryz.prog.cellsOf 3) [v4]) = some y1 at k1
  rw [show Tryz.prog.cellsOf 9 = 1 by kernel_rfl, List.take_succ_cons, List.take_zero] at k0
  rw [show Tryz.prog.cellsOf 3 = 1 by kernel_rfl, List.take_succ_cons, List.take_zero] at k1
  obtain ⟨pth, e3, _, hs3⟩ := DataW.trod_string Tryz.underlying9 k0
  obtain ⟨n, e4, _, _⟩ := DataW.trod_int Tryz.underlying3 k1
  simp only [List.cons.injEq, and_true] at e3 e4
  subst e3 e4
  exact ⟨pth, n, rfl, hs3⟩
set_option maxRecDepth 100000 in
theorem open_file {w : World} {r : Reach} {b0 : Nat} {v : Value} {d : DataW H} {p : List MemPlace} (hv : Value.okWide Tryz.prog w r b0 31 v) (h : DataW.Trod enc Tryz.prog w 0 (fun _ => true) true 31 v d p) :
    ∃ (s t : ByteArray), v = .agg #[.string s, .string t] ∧ s.size ≤ maxLen ∧ t.size ≤ maxLen := by
  obtain ⟨cs, rfl, hsz⟩ := okWide_struct Tryz.underlying31 hv
  obtain ⟨fuel, hf⟩ := h
  obtain ⟨xs, n2, _, hx, hcl, hlen, hg⟩ := DataW.trod_struct Tryz.underlying31 hf
  have c2 : Tryz.prog.cellsOf 31 = 2 := by kernel_rfl
  obtain ⟨l⟩ := cs
  obtain ⟨v3, v4, rfl⟩ := two_of l (by simpa [c2] using hsz)
  obtain ⟨y0, y1, rfl⟩ := two_of xs hlen
  have k0 := hg 0 _ rfl
  have k1 := hg 1 _ rfl
  change DataW.trod enc _ w 0 _ true n2 9 (List.take (Tryz.prog.cellsOf 9) [v3, v4]) = some y0 at k0
  change DataW.trod enc _ w 0 _ true n2 9 (List.take (Tryz.prog.cellsOf 9) [v4]) = some y1 at k1
  rw [show Tryz.prog.cellsOf 9 = 1 by kernel_rfl, List.take_succ_cons, List.take_zero] at k0 k1
  obtain ⟨pth, e3, _, hs3⟩ := DataW.trod_string Tryz.underlying9 k0
  obtain ⟨dat, e4, _, hs4⟩ := DataW.trod_string Tryz.underlying9 k1
  simp only [List.cons.injEq, and_true] at e3 e4
  subst e3 e4
  exact ⟨pth, dat, rfl, hs3, hs4⟩
set_option maxRecDepth 100000 in
theorem open_fls_nil {w : World} {held : Bool} {fuel : Nat} {A : Option Addr} {n c : Nat} {x : DataW H × List MemPlace}
    (h : DataW.trod enc Tryz.prog w 0 (fun _ => true) held fuel 23 [.slice A n c] = some x) : A = none → c = 0 := fun e0 => by
  rcases open_slice_pairs Tryz.underlying23 Tryz.underlying31 (by kernel_rfl) rfl rfl (by kernel_rfl) (by kernel_rfl) h with ⟨h1, _⟩ | ⟨a, len, cap, m, n, V0, V1, D0, D1, P0, P1, h1, _⟩
  · simp at h1
    exact h1.2.2
  · simp at h1
    rw [e0] at h1
    exact absurd h1.1 (by simp)
end
end Go.Proofs.YtinkpbobkeppiaaGreatDoor
end
