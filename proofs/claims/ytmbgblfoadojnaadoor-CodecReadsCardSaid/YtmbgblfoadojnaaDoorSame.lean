/- Lists of a reader, and whether two equal lists are found equal. No condition but the string's length. -/
import Derived.Test.YtmbgblfoadojnaaDoorElems
import Derived.WalkSmall
import Derived.BigQuiet
import Derived.Deep.QuietTactic
namespace Go.Proofs.YtmbgblfoadojnaaDoor
open Go.RowKit

theorem owns_base {w : World} {B B' : Nat} {e : TypeId} {v : Value} {n : Nat} {xs : List Value} (h : w.ownsRow B' e 1 v n xs) (hB : B ≤ B') : w.ownsRow B e 1 v n xs := by
  refine ⟨h.1, ?_⟩
  rcases h.2 with h0 | ⟨g, cap, cur, hv, hb, r⟩
  · exact .inl h0
  · exact .inr ⟨g, cap, cur, hv, by omega, r⟩
/-- What an owned slice's cells are. -/
theorem owns_cells {w : World} {B : Nat} {e : TypeId} {v : Value} {n : Nat} {xs : List Value} (h : w.ownsRow B e 1 v n xs) : ∃ A c, v = .slice A n c ∧ CellsAt w w.heap.size A xs := by
  have hl : xs.length = n := by simpa using h.1
  rcases h.2 with ⟨rfl, h0⟩ | ⟨g, cap, cur, rfl, hb, hg, hn, hc, hs, ht⟩
  · subst h0
    exact ⟨none, 0, rfl, fun i hi => by omega⟩
  · refine ⟨_, cap, rfl, fun i hi => ⟨g, 0, rfl, (Array.getElem?_eq_some_iff.1 hg).1, ?_⟩⟩
    rw [Nat.zero_add, cell_of_row w g i cur e (0, 0) hg]
    have h1 := congrArg (fun x => x[i]?) ht
    simp only [Nat.mul_one, List.getElem?_take, if_pos (show i < n by omega)] at h1
    rw [← Array.getElem?_toList, h1, List.getElem?_eq_getElem hi]
theorem RdAt.alloc {w : World} {b : Nat} {s : ByteArray} {e : Int} (h : RdAt w b s e) (o : Obj) : RdAt (w.alloc o) b s e := (heap_alloc_old w o h.lt).trans h

theorem GotI.mono {w W : World} {b : Nat} {R : List Int × Cod.Rd} {e : Ending} {w' : World} (h : GotI W b R e w') (hg : w.grownBy W (some b)) : GotI w b R e w' := by
  obtain ⟨v, h1, h2, h3, h4⟩ := h
  exact ⟨v, h1, owns_base h2 hg.size, h3, grown_trans hg h4⟩
set_option maxHeartbeats 2000000 in
set_option maxRecDepth 100000 in
theorem rdNumbers_any (b : Nat) (low high : Int) (s : ByteArray) (err : Int) (w : World) (h : RdAt w b s err) (hs : s.size ≤ 1000000000) :
    Calls Tryd.prog 25 #[.pointer (some ⟨b, 0, none⟩), .int .i64 low, .int .i64 high] w (GotI w b (Cod.list (Cod.number low high) ⟨s.data.toList, err⟩)) := by
  have hb := h.lt
  have hg : w.grownBy (((w.alloc (.cells #[.pointer (some ⟨b, 0, none⟩)] 34)).alloc (.cells #[.int .i64 low] 3)).alloc (.cells #[.int .i64 high] 3)) (some b) := grown_alloc (grown_alloc (grown_alloc (grown_refl w _) _) _) _
  have hR : RdAt (((w.alloc (.cells #[.pointer (some ⟨b, 0, none⟩)] 34)).alloc (.cells #[.int .i64 low] 3)).alloc (.cells #[.int .i64 high] 3)) b s err := RdAt.alloc (RdAt.alloc (RdAt.alloc h _) _) _
  have k0 : (((w.alloc (.cells #[.pointer (some ⟨b, 0, none⟩)] 34)).alloc (.cells #[.int .i64 low] 3)).alloc (.cells #[.int .i64 high] 3)).cell? ⟨w.heap.size, 0, none⟩ = some (.pointer (some ⟨b, 0, none⟩)) := by go_simp
  have k1 : (((w.alloc (.cells #[.pointer (some ⟨b, 0, none⟩)] 34)).alloc (.cells #[.int .i64 low] 3)).alloc (.cells #[.int .i64 high] 3)).cell? ⟨w.heap.size + 1, 0, none⟩ = some (.int .i64 low) := by go_simp
  have k2 : (((w.alloc (.cells #[.pointer (some ⟨b, 0, none⟩)] 34)).alloc (.cells #[.int .i64 low] 3)).alloc (.cells #[.int .i64 high] 3)).cell? ⟨w.heap.size + 2, 0, none⟩ = some (.int .i64 high) := by go_simp
  generalize hRR : Cod.list (Cod.number low high) ⟨s.data.toList, err⟩ = R at *
  have HRR := Lib.hid hRR
  clear hRR
  have hmf : ∀ (fn : Fn) (first cap : Array Value) (w : World), (Instr.makeFunc fn first cap).run Tryd.prog w = .ok (.func fn first cap) w := fun _ _ _ _ => rfl
  go_enter Tryd.func25, Tryd.ntmps25
  go_wp2_with fail
  have hcall := elemsI_any b w.heap.size (w.heap.size + 1) (w.heap.size + 2) low high s err (((w.alloc (.cells #[.pointer (some ⟨b, 0, none⟩)] 34)).alloc (.cells #[.int .i64 low] 3)).alloc (.cells #[.int .i64 high] 3)) hR hs (by omega) (by omega) (by omega) k0 k1 k2
  rw [HRR.out] at hcall
  refine hcall.mono ?_
  clear hcall
  rintro x w1 hgot
  obtain ⟨v, rfl, h2, h3, h4⟩ := hgot.mono hg
  go_wp2_with fail
  go_ret
  exact ⟨v, rfl, h2, h3, h4⟩
set_option maxHeartbeats 2000000 in
set_option maxRecDepth 100000 in
theorem sameNumbers_true (A A' : Option Addr) (c c' : Nat) (xs : List Int) (w : World) (hA : CellsAt w w.heap.size A (intsOf xs)) (hA' : CellsAt w w.heap.size A' (intsOf xs)) (hl : xs.length ≤ 1000000000) :
    Calls Tryd.prog 24 #[.slice A xs.length c, .slice A' xs.length c'] w fun x w' => x = .returned (.bool true) ∧ Below w.heap.size w w' := by
  go_enter Tryd.func24, Tryd.ntmps24
  go_wp2_with fail
  go_loopw [13] (fun v wr => ∃ k : Nat, k ≤ xs.length ∧ v = .int .i64 k ∧ Below w.heap.size w wr) (fun v _ => xs.length - (intOf v).toNat)
  case atStart => exact ⟨0, by omega, rfl, Below.refl _ _⟩
  case round =>
    obtain ⟨k, hk, rfl, hb⟩ := hrel
    by_cases hlt : k < xs.length
    · obtain ⟨g, o, rfl, hg, hc0⟩ := hA k (by rw [intsOf_len]; exact hlt)
      obtain ⟨g', o', rfl, hg', hc0'⟩ := hA' k (by rw [intsOf_len]; exact hlt)
      have hc : wr.cell? ⟨g, o + k, none⟩ = some (Value.int .i64 xs[k]) := by
        have := (hb.cell (p := ⟨g, o + k, none⟩) hg).trans hc0
        simpa [intsOf] using this
      have hc' : wr.cell? ⟨g', o' + k, none⟩ = some (Value.int .i64 xs[k]) := by
        have := (hb.cell (p := ⟨g', o' + k, none⟩) hg').trans hc0'
        simpa [intsOf] using this
      clear hc0 hc0'
      have hki : (k : Int) < (xs.length : Int) := by omega
      go_upto_region 6 with (fail)
      generalize xs[k] = y at *
      go_quiet (fail)
      have hb2 := below_drewN hb nq
      generalize wr.drewN nq = w2 at *
      clear hc hc' hb
      go_wp2_with fail
      go_roundw
      case rel => exact ⟨k + 1, by omega, by go_num, hb2⟩
      case measure => simp [intOf]; omega
    · have b9 : decide ((k : Int) < (xs.length : Int)) = false := by simp; omega
      have b9n : decide (k < xs.length) = false := by simp; omega
      go_wp2_with fail
      go_ret
      exact ⟨rfl, hb⟩

theorem GotS.mono {w W : World} {b : Nat} {R : List ByteArray × Cod.Rd} {e : Ending} {w' : World} (h : GotS W b R e w') (hg : w.grownBy W (some b)) : GotS w b R e w' := by
  obtain ⟨v, h1, h2, h3, h4⟩ := h
  exact ⟨v, h1, owns_base h2 hg.size, h3, grown_trans hg h4⟩
set_option maxHeartbeats 2000000 in
set_option maxRecDepth 100000 in
theorem rdTexts_any (b : Nat) (most : Int) (s : ByteArray) (err : Int) (w : World) (h : RdAt w b s err) (hs : s.size ≤ 1000000000) :
    Calls Tryd.prog 28 #[.pointer (some ⟨b, 0, none⟩), .int .i64 most] w (GotS w b (Cod.list (nextT most) ⟨s.data.toList, err⟩)) := by
  have hb := h.lt
  have hg : w.grownBy ((w.alloc (.cells #[.pointer (some ⟨b, 0, none⟩)] 34)).alloc (.cells #[.int .i64 most] 3)) (some b) := grown_alloc (grown_alloc (grown_refl w _) _) _
  have hR : RdAt ((w.alloc (.cells #[.pointer (some ⟨b, 0, none⟩)] 34)).alloc (.cells #[.int .i64 most] 3)) b s err := RdAt.alloc (RdAt.alloc h _) _
  have k0 : ((w.alloc (.cells #[.pointer (some ⟨b, 0, none⟩)] 34)).alloc (.cells #[.int .i64 most] 3)).cell? ⟨w.heap.size, 0, none⟩ = some (.pointer (some ⟨b, 0, none⟩)) := by go_simp
  have k1 : ((w.alloc (.cells #[.pointer (some ⟨b, 0, none⟩)] 34)).alloc (.cells #[.int .i64 most] 3)).cell? ⟨w.heap.size + 1, 0, none⟩ = some (.int .i64 most) := by go_simp
  generalize hRR : Cod.list (nextT most) ⟨s.data.toList, err⟩ = R at *
  have HRR := Lib.hid hRR
  clear hRR
  have hmf : ∀ (fn : Fn) (first cap : Array Value) (w : World), (Instr.makeFunc fn first cap).run Tryd.prog w = .ok (.func fn first cap) w := fun _ _ _ _ => rfl
  go_enter Tryd.func28, Tryd.ntmps28
  go_wp2_with fail
  have hcall := elemsS_any b w.heap.size (w.heap.size + 1) most s err ((w.alloc (.cells #[.pointer (some ⟨b, 0, none⟩)] 34)).alloc (.cells #[.int .i64 most] 3)) hR hs (by omega) (by omega) k0 k1
  rw [HRR.out] at hcall
  refine hcall.mono ?_
  clear hcall
  rintro x w1 hgot
  obtain ⟨v, rfl, h2, h3, h4⟩ := hgot.mono hg
  go_wp2_with fail
  go_ret
  exact ⟨v, rfl, h2, h3, h4⟩
set_option maxHeartbeats 2000000 in
set_option maxRecDepth 100000 in
theorem sameTexts_true (A A' : Option Addr) (c c' : Nat) (xs : List ByteArray) (w : World) (hA : CellsAt w w.heap.size A (strsOf xs)) (hA' : CellsAt w w.heap.size A' (strsOf xs)) (hl : xs.length ≤ 1000000000) :
    Calls Tryd.prog 27 #[.slice A xs.length c, .slice A' xs.length c'] w fun x w' => x = .returned (.bool true) ∧ Below w.heap.size w w' := by
  go_enter Tryd.func27, Tryd.ntmps27
  go_wp2_with fail
  go_loopw [13] (fun v wr => ∃ k : Nat, k ≤ xs.length ∧ v = .int .i64 k ∧ Below w.heap.size w wr) (fun v _ => xs.length - (intOf v).toNat)
  case atStart => exact ⟨0, by omega, rfl, Below.refl _ _⟩
  case round =>
    obtain ⟨k, hk, rfl, hb⟩ := hrel
    by_cases hlt : k < xs.length
    · obtain ⟨g, o, rfl, hg, hc0⟩ := hA k (by rw [strsOf_len]; exact hlt)
      obtain ⟨g', o', rfl, hg', hc0'⟩ := hA' k (by rw [strsOf_len]; exact hlt)
      have hc : wr.cell? ⟨g, o + k, none⟩ = some (Value.string xs[k]) := by
        have := (hb.cell (p := ⟨g, o + k, none⟩) hg).trans hc0
        simpa [strsOf] using this
      have hc' : wr.cell? ⟨g', o' + k, none⟩ = some (Value.string xs[k]) := by
        have := (hb.cell (p := ⟨g', o' + k, none⟩) hg').trans hc0'
        simpa [strsOf] using this
      clear hc0 hc0'
      have hki : (k : Int) < (xs.length : Int) := by omega
      go_upto_region 6 with (fail)
      generalize xs[k] = y at *
      go_quiet (fail)
      have hb2 := below_drewN hb nq
      generalize wr.drewN nq = w2 at *
      clear hc hc' hb
      go_wp2_with fail
      go_roundw
      case rel => exact ⟨k + 1, by omega, by go_num, hb2⟩
      case measure => simp [intOf]; omega
    · have b9 : decide ((k : Int) < (xs.length : Int)) = false := by simp; omega
      have b9n : decide (k < xs.length) = false := by simp; omega
      go_wp2_with fail
      go_ret
      exact ⟨rfl, hb⟩
end Go.Proofs.YtmbgblfoadojnaaDoor
