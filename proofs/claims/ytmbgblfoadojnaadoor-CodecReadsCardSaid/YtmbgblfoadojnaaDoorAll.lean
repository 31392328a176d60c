/- Four reads one behind another: what they read back, and the readers' contracts on a rest that is a list. No condition but the string's length. -/
import Derived.Test.YtmbgblfoadojnaaDoorWrite
namespace Go.Proofs.YtmbgblfoadojnaaDoor
open Go.RowKit

theorem loop_short {α : Type} (next : Cod.Rd → α × Cod.Rd) (hs : ∀ r, (next r).2.rest.length ≤ r.rest.length) : ∀ (k : Nat) (r : Cod.Rd) (acc : List α), (Cod.loop next k r acc).2.rest.length ≤ r.rest.length
  | 0, r, acc => Nat.le_refl _
  | k + 1, r, acc => by
    rw [Cod.loop]
    split
    · exact Nat.le_trans (loop_short next hs k _ _) (hs r)
    · exact hs r
theorem list_short {α : Type} (next : Cod.Rd → α × Cod.Rd) (hs : ∀ r, (next r).2.rest.length ≤ r.rest.length) (r : Cod.Rd) : (Cod.list next r).2.rest.length ≤ r.rest.length :=
  Nat.le_trans (loop_short next hs _ _ _) (Cod.number_short 0 1024 r)
theorem rdNumber_at (b : Nat) (low high : Int) (r : Cod.Rd) (w : World) (h : RdAt w b (str r.rest) r.err) (hs : r.rest.length ≤ 1000000000) :
    Calls Tryd.prog 20 #[.pointer (some ⟨b, 0, none⟩), .int .i64 low, .int .i64 high] w fun x w' =>
      x = .returned (.int .i64 (Cod.number low high r).1) ∧ RdAt w' b (str (Cod.number low high r).2.rest) (Cod.number low high r).2.err ∧ w.grownBy w' (some b) :=
  rdNumber_any b low high (str r.rest) r.err w h (by rw [str_size]; exact hs)
theorem rdText_at (b : Nat) (most : Int) (r : Cod.Rd) (w : World) (h : RdAt w b (str r.rest) r.err) (hs : r.rest.length ≤ 1000000000) :
    Calls Tryd.prog 22 #[.pointer (some ⟨b, 0, none⟩), .int .i64 most] w fun x w' =>
      x = .returned (.string (str (Cod.text most r).1)) ∧ RdAt w' b (str (Cod.text most r).2.rest) (Cod.text most r).2.err ∧ w.grownBy w' (some b) :=
  rdText_any b most (str r.rest) r.err w h (by rw [str_size]; exact hs)
theorem rdNumbers_at (b : Nat) (low high : Int) (r : Cod.Rd) (w : World) (h : RdAt w b (str r.rest) r.err) (hs : r.rest.length ≤ 1000000000) :
    Calls Tryd.prog 25 #[.pointer (some ⟨b, 0, none⟩), .int .i64 low, .int .i64 high] w (GotI w b (Cod.list (Cod.number low high) r)) :=
  rdNumbers_any b low high (str r.rest) r.err w h (by rw [str_size]; exact hs)
theorem rdTexts_at (b : Nat) (most : Int) (r : Cod.Rd) (w : World) (h : RdAt w b (str r.rest) r.err) (hs : r.rest.length ≤ 1000000000) :
    Calls Tryd.prog 28 #[.pointer (some ⟨b, 0, none⟩), .int .i64 most] w (GotS w b (Cod.list (nextT most) r)) :=
  rdTexts_any b most (str r.rest) r.err w h (by rw [str_size]; exact hs)

theorem number_enc (r : Cod.Rd) (h : (Cod.number 0 281474976710656 r).2.err = 0) : r.err = 0 ∧ okN (Cod.number 0 281474976710656 r).1 = true ∧ r.rest = encN (Cod.number 0 281474976710656 r).1 ++ (Cod.number 0 281474976710656 r).2.rest := by
  obtain ⟨h1, n, h2, h3, h4, h5, h6⟩ := Cod.number_ok _ _ r h
  rw [h2]
  refine ⟨h1, by unfold okN; simp; omega, ?_⟩
  unfold encN
  rw [Int.toNat_natCast]
  exact h6
theorem nextT_enc (r : Cod.Rd) (h : (nextT 65536 r).2.err = 0) : r.err = 0 ∧ okS (nextT 65536 r).1 = true ∧ r.rest = encS (nextT 65536 r).1 ++ (nextT 65536 r).2.rest := by
  obtain ⟨h1, h2, h3, h4⟩ := Cod.text_ok _ r h
  refine ⟨h1, ?_, h4⟩
  unfold okS nextT
  rw [str_size]
  simpa using h2
theorem all_back (l : List UInt8) (R1 : Int × Cod.Rd) (R2 : List UInt8 × Cod.Rd) (R3 : List Int × Cod.Rd) (R4 : List ByteArray × Cod.Rd) (e1 : Cod.number 0 281474976710656 ⟨l, 0⟩ = R1) (e2 : Cod.text 65536 R1.2 = R2)
    (e3 : Cod.list (Cod.number 0 281474976710656) R2.2 = R3) (e4 : Cod.list (nextT 65536) R3.2 = R4) (h : R4.2.err = 0) :
    l = encAll R1.1 (str R2.1) R3.1 R4.1 ++ R4.2.rest ∧ allOk R1.1 (str R2.1) R3.1 R4.1 := by
  have k4 := Cod.list_ok (nextT 65536) encS (fun s => okS s = true) nextT_enc R3.2
  rw [e4] at k4
  obtain ⟨a1, a2, a3, a4⟩ := k4 h
  have k3 := Cod.list_ok (Cod.number 0 281474976710656) encN (fun s => okN s = true) number_enc R2.2
  rw [e3] at k3
  obtain ⟨b1, b2, b3, b4⟩ := k3 a1
  have k2 := nextT_enc R1.2
  unfold nextT at k2
  rw [e2] at k2
  obtain ⟨c1, c2, c3⟩ := k2 b1
  have k1 := number_enc ⟨l, 0⟩
  rw [e1] at k1
  obtain ⟨d1, d2, d3⟩ := k1 c1
  refine ⟨?_, d2, c2, ⟨b2, List.all_eq_true.2 b3⟩, a2, List.all_eq_true.2 a3⟩
  unfold encAll
  rw [show l = _ from d3, c3, show (str R2.1, R2.2).2.rest = R2.2.rest from rfl, b4, a4]
  simp only [List.append_assoc]
end Go.Proofs.YtmbgblfoadojnaaDoor
