/- awake of the law returns true. Condition: the variables that the program reads lie. -/
import Derived.Test.YtlfgnecfabdkmaaGreatDoorPar
import Derived.Test.YtlfgnecfabdkmaaGreatDoorExs
namespace Go.Proofs.YtlfgnecfabdkmaaGreatDoor
open Go.RowKit Go.Deep Tr

set_option maxHeartbeats 4000000 in
set_option maxRecDepth 100000 in
theorem eqp_true (A A' : Option Addr) (c c' : Nat) (ts : List Pc.Pl) (w : World) (hA : PlsAt w A ts) (hA' : PlsAt w A' ts) (hl : ts.length ≤ 1000000000) :
    Calls Tryz.prog 26 #[.slice A ts.length c, .slice A' ts.length c'] w fun x w' => x = .returned (.bool true) ∧ Below w.heap.size w w' := by
  go_enter Tryz.func26, Tryz.ntmps26
  go_wp2_with fail
  go_loopw [13] (fun v wr => ∃ k : Nat, k ≤ ts.length ∧ v = .int .i64 k ∧ Below w.heap.size w wr) (fun v _ => ts.length - (intOf v).toNat)
  case atStart => exact ⟨0, by omega, rfl, Below.refl _ _⟩
  case round =>
    obtain ⟨k, hk, rfl, hb⟩ := hrel
    by_cases hlt : k < ts.length
    · obtain ⟨g, o, rfl, hg, hc0, hc1⟩ := hA k hlt
      obtain ⟨g', o', rfl, hg', hc0', hc1'⟩ := hA' k hlt
      have hd0 := (hb.cell (p := ⟨g, o + k * 2, none⟩) hg).trans hc0
      have hd1 := (hb.cell (p := ⟨g, o + k * 2 + 1, none⟩) hg).trans hc1
      have hd0' := (hb.cell (p := ⟨g', o' + k * 2, none⟩) hg').trans hc0'
      have hd1' := (hb.cell (p := ⟨g', o' + k * 2 + 1, none⟩) hg').trans hc1'
      clear hc0 hc1 hc0' hc1' hA hA'
      have hki : (k : Int) < (ts.length : Int) := by omega
      go_upto_region 6 with (fail)
      generalize ts[k] = t at *
      go_quiet (fail)
      have hb2 := below_drewN hb nq
      generalize wr.drewN nq = w2 at *
      clear hd0 hd1 hd0' hd1' hb
      go_wp2_with fail
      go_roundw
      case rel => exact ⟨k + 1, by omega, by go_num, hb2⟩
      case measure => simp [intOf]; omega
    · have hki : decide ((k : Int) < (ts.length : Int)) = false := by simp; omega
      go_wp2_with fail
      go_ret
      exact ⟨rfl, hb⟩
def exP : List Pc.Pl := [⟨0, -1⟩, ⟨-1, 3⟩, ⟨-1, 4⟩]
/-- A patch in a variable. -/
def Bx (w : World) (pb n : Nat) (A : Option Addr) (c : Nat) : Prop := w.heap[pb]? = some (.cells #[.string ⟨#[]⟩, .slice A n c] 24 (0, 0))
theorem Bx.next {w w' : World} {pb n c : Nat} {A : Option Addr} (h : Bx w pb n A c) (hb : Below w.heap.size w w') : Bx w' pb n A c := (hb.block _ (blk_lt h)).trans h
theorem Bx.cells {w : World} {pb n c : Nat} {A : Option Addr} (h : Bx w pb n A c) : w.cell? ⟨pb, 0, none⟩ = some (.string ⟨#[]⟩) ∧ w.cell? ⟨pb, 1, none⟩ = some (.slice A n c) := ⟨by rw [cell_of_row _ _ _ _ _ _ h]; rfl, by rw [cell_of_row _ _ _ _ _ _ h]; rfl⟩
theorem okH {w : World} {A : Option Addr} (h : HsT w A exH) : PaOk w ⟨[], exH⟩ A := ⟨h.at_, by decide, by decide, by decide +kernel⟩
theorem okI {w : World} {A : Option Addr} (h : HsT w A exI) : PaOk w ⟨[], exI⟩ A := ⟨h.at_, by decide, by decide, by decide +kernel⟩
theorem okM {w : World} {A : Option Addr} (h : HsT w A exM) : PaOk w ⟨[], exM⟩ A := ⟨h.at_, by decide, by decide, by decide +kernel⟩
theorem pls_block {w : World} {q : Nat} (h : w.heap[q]? = some (.cells #[.int .i64 0, .int .i64 (-1), .int .i64 (-1), .int .i64 3, .int .i64 (-1), .int .i64 4] 44 (0, 0))) : PlsAt w (some ⟨q, 0, none⟩) exP := fun k hk => by
  refine ⟨q, 0, rfl, blk_lt h, ?_, ?_⟩
  · rw [cell_of_row _ _ _ _ _ _ h]
    have hk' : k < 3 := hk
    rcases k with _ | _ | _ | k
    · rfl
    · rfl
    · rfl
    · omega
  · rw [cell_of_row _ _ _ _ _ _ h]
    have hk' : k < 3 := hk
    rcases k with _ | _ | _ | k
    · rfl
    · rfl
    · rfl
    · omega
theorem xParse (w : World) (hI : IdAt w) : Calls Tryz.prog 16 #[.string ⟨#[107, 101, 101, 112, 32, 49, 10, 100, 114, 111, 112, 32, 49, 10, 97, 100, 100, 32, 50, 10, 120, 10, 121]⟩] w fun e w' => ∃ A c, e = .returned (.tuple #[.agg #[.string ⟨#[]⟩, .slice A 3 c], .int .i64 0]) ∧ HsT w' A exH ∧ Below w.heap.size w w' := by
  have h := parse_any exH ⟨#[107, 101, 101, 112, 32, 49, 10, 100, 114, 111, 112, 32, 49, 10, 97, 100, 100, 32, 50, 10, 120, 10, 121]⟩ w hI (by show 23 ≤ _; omega) linesH huH n9H
  rw [parseR_def, validH, if_pos rfl] at h
  exact h
theorem xBad (w : World) (hI : IdAt w) : Calls Tryz.prog 16 #[.string ⟨#[97, 100, 100, 32, 49, 10, 120, 10, 100, 114, 111, 112, 32, 49]⟩] w fun e w' => ∃ A c, e = .returned (.tuple #[.agg #[.string ⟨#[]⟩, .slice A 0 c], .int .i64 4]) ∧ HsT w' A [] ∧ Below w.heap.size w w' := by
  have h := parse_any exB ⟨#[97, 100, 100, 32, 49, 10, 120, 10, 100, 114, 111, 112, 32, 49]⟩ w hI (by show 14 ≤ _; omega) linesB huB n9B
  rw [parseR_def, validB, if_neg (by simp)] at h
  exact h
theorem xApply (A : Option Addr) (c : Nat) (w : World) (hT : HsT w A exH) (hI : IdAt w) : Calls Tryz.prog 20 #[.agg #[.string ⟨#[]⟩, .slice A 3 c], .string ⟨#[97, 10, 98]⟩] w fun e w' => e = .returned (.tuple #[.string ⟨#[97, 10, 120, 10, 121]⟩, .int .i64 0]) ∧ Below w.heap.size w w' := by
  have h := apply_any ⟨[], exH⟩ A c ⟨#[97, 10, 98]⟩ w (okH hT) hI (by show 3 ≤ _; omega)
  rw [show (⟨#[97, 10, 98]⟩ : ByteArray).data.toList = exD from rfl, applyH] at h
  exact h
theorem xTrace (A : Option Addr) (c : Nat) (w : World) (hT : HsT w A exH) (hI : IdAt w) : Calls Tryz.prog 22 #[.agg #[.string ⟨#[]⟩, .slice A 3 c], .int .i64 2] w fun e w' => ∃ A' c', e = .returned (.tuple #[.slice A' 3 c', .int .i64 0]) ∧ PlsAt w' A' exP ∧ Below w.heap.size w w' := by
  have h := trace_any ⟨[], exH⟩ A c 2 w (okH hT) hI.tabs
  rw [traceH] at h
  refine h.mono ?_
  rintro e w' ⟨v, rfl, ho, hb⟩
  obtain ⟨A', c', rfl, hp⟩ := owns_pls (l := exP) ho
  exact ⟨A', c', rfl, hp, hb⟩
theorem xInvert (A : Option Addr) (c : Nat) (w : World) (hT : HsT w A exH) (hI : IdAt w) : Calls Tryz.prog 24 #[.agg #[.string ⟨#[]⟩, .slice A 3 c], .string ⟨#[97, 10, 98]⟩] w fun e w' => ∃ A c, e = .returned (.tuple #[.agg #[.string ⟨#[]⟩, .slice A 3 c], .int .i64 0]) ∧ HsT w' A exI ∧ Below w.heap.size w w' := by
  have h := invert_any ⟨[], exH⟩ A c ⟨#[97, 10, 98]⟩ w (okH hT) hI (by show 3 ≤ _; omega)
  rw [show (⟨#[97, 10, 98]⟩ : ByteArray).data.toList = exD from rfl, invertH] at h
  exact h
theorem xPrintI (A : Option Addr) (c : Nat) (w : World) (hT : HsT w A exI) (hI : IdAt w) : Calls Tryz.prog 12 #[.agg #[.string ⟨#[]⟩, .slice A 3 c]] w fun e w' => e = .returned (.tuple #[.string ⟨#[107, 101, 101, 112, 32, 49, 10, 100, 114, 111, 112, 32, 50, 10, 97, 100, 100, 32, 49, 10, 98]⟩, .int .i64 0]) ∧ Below w.heap.size w w' := by
  have h := print_any ⟨[], exI⟩ A c w (okI hT) hI.tabs
  rw [printI] at h
  exact h
theorem xMake (w : World) (hI : IdAt w) : Calls Tryz.prog 27 #[.string ⟨#[97, 10, 98, 10, 99]⟩, .string ⟨#[98, 10, 99, 10, 100]⟩] w fun e w' => ∃ A c, e = .returned (.tuple #[.agg #[.string ⟨#[]⟩, .slice A 3 c], .int .i64 0]) ∧ HsT w' A exM ∧ Below w.heap.size w w' := by
  have h := make_any ⟨#[97, 10, 98, 10, 99]⟩ ⟨#[98, 10, 99, 10, 100]⟩ w hI (by show 5 ≤ _; omega) (by show 5 ≤ _; omega)
  rw [show (⟨#[97, 10, 98, 10, 99]⟩ : ByteArray).data.toList = [97, 10, 98, 10, 99] from rfl, show (⟨#[98, 10, 99, 10, 100]⟩ : ByteArray).data.toList = [98, 10, 99, 10, 100] from rfl, makeM] at h
  exact h
theorem xPrintM (A : Option Addr) (c : Nat) (w : World) (hT : HsT w A exM) (hI : IdAt w) : Calls Tryz.prog 12 #[.agg #[.string ⟨#[]⟩, .slice A 3 c]] w fun e w' => e = .returned (.tuple #[.string ⟨#[100, 114, 111, 112, 32, 49, 10, 107, 101, 101, 112, 32, 50, 10, 97, 100, 100, 32, 49, 10, 100]⟩, .int .i64 0]) ∧ Below w.heap.size w w' := by
  have h := print_any ⟨[], exM⟩ A c w (okM hT) hI.tabs
  rw [printM] at h
  exact h
theorem xCost (A : Option Addr) (c : Nat) (w : World) (hT : HsT w A exM) (hI : IdAt w) : Calls Tryz.prog 14 #[.agg #[.string ⟨#[]⟩, .slice A 3 c]] w fun e w' => e = .returned (.tuple #[.int .i64 2, .int .i64 0]) ∧ Below w.heap.size w w' := by
  have h := cost_any ⟨[], exM⟩ A c w (okM hT) hI.tabs
  rw [costM] at h
  exact h
set_option maxHeartbeats 8000000 in
set_option maxRecDepth 100000 in
theorem awake_any (w : World) (hI : IdAt w) :
    Calls Tryz.prog 10 #[] w fun e w' => e = .returned (.bool true) ∧ Below w.heap.size w w' := by
  have n1 : ((⟨#[97, 10, 120, 10, 121]⟩ : ByteArray).toList == (⟨#[97, 10, 120, 10, 121]⟩ : ByteArray).toList) = true := by simp
  have n2 : ((⟨#[107, 101, 101, 112, 32, 49, 10, 100, 114, 111, 112, 32, 50, 10, 97, 100, 100, 32, 49, 10, 98]⟩ : ByteArray).toList == (⟨#[107, 101, 101, 112, 32, 49, 10, 100, 114, 111, 112, 32, 50, 10, 97, 100, 100, 32, 49, 10, 98]⟩ : ByteArray).toList) = true := by simp
  have n3 : ((⟨#[100, 114, 111, 112, 32, 49, 10, 107, 101, 101, 112, 32, 50, 10, 97, 100, 100, 32, 49, 10, 100]⟩ : ByteArray).toList == (⟨#[100, 114, 111, 112, 32, 49, 10, 107, 101, 101, 112, 32, 50, 10, 97, 100, 100, 32, 49, 10, 100]⟩ : ByteArray).toList) = true := by simp
  have hB0 := Below.refl w.heap.size w
  go_enter Tryz.func10, Tryz.ntmps10
  go_wp2_with fail
  have c1 := xParse w hI
  with_reducible refine c1.mono ?_
  clear c1
  rintro x w1 ⟨A1, d1, rfl, hT, hb1⟩
  have hI1 := hI.below hb1
  have hB1 := hB0.trans (hb1.mono hB0.size)
  clear hb1 hI
  go_wp2_with fail
  have hx : Below w1.heap.size w1 (w1.alloc (.cells #[.string ⟨#[]⟩, .slice A1 3 d1] 24)) := (Below.refl _ _).alloc (Nat.le_refl _) _
  have bx : Bx (w1.alloc (.cells #[.string ⟨#[]⟩, .slice A1 3 d1] 24)) w1.heap.size 3 A1 d1 := heap_alloc_new w1 _
  have hT := hT.next hx
  have hI1 := hI1.below hx
  have hB1 := hB1.trans (hx.mono hB1.size)
  clear hx
  generalize w1.alloc (.cells #[.string ⟨#[]⟩, .slice A1 3 d1] 24) = W1 at *
  generalize w1.heap.size = q1 at *
  have c2 := xApply A1 d1 W1 hT hI1
  with_reducible refine c2.mono ?_
  clear c2
  rintro x w2 ⟨rfl, hb2⟩
  have hI2 := hI1.below hb2
  have hB2 := hB1.trans (hb2.mono hB1.size)
  have hT := hT.next hb2
  have bx := bx.next hb2
  clear hb2 hI1
  obtain ⟨bx0, bx1⟩ := bx.cells
  go_wp2_with fail
  clear bx0 bx1
  have c3 := xTrace A1 d1 w2 hT hI2
  with_reducible refine c3.mono ?_
  clear c3
  rintro x w3 ⟨A3, d3, rfl, hP, hb3⟩
  have hI3 := hI2.below hb3
  have hB3 := hB2.trans (hb3.mono hB2.size)
  have hT := hT.next hb3
  have bx := bx.next hb3
  clear hb3 hI2
  obtain ⟨bx0, bx1⟩ := bx.cells
  go_wp2_with fail
  clear bx0 bx1
  have c4 := xInvert A1 d1 w3 hT hI3
  with_reducible refine c4.mono ?_
  clear c4
  rintro x w4 ⟨A4, d4, rfl, hU, hb4⟩
  have hI4 := hI3.below hb4
  have hB4 := hB3.trans (hb4.mono hB3.size)
  have hT := hT.next hb4
  have bx := bx.next hb4
  have hP := hP.next hb4
  clear hb4 hI3
  go_wp2_with fail
  have hx : Below w4.heap.size w4 (w4.alloc (.cells #[.string ⟨#[]⟩, .slice A4 3 d4] 24)) := (Below.refl _ _).alloc (Nat.le_refl _) _
  have by_ : Bx (w4.alloc (.cells #[.string ⟨#[]⟩, .slice A4 3 d4] 24)) w4.heap.size 3 A4 d4 := heap_alloc_new w4 _
  have hT := hT.next hx
  have bx := bx.next hx
  have hP := hP.next hx
  have hU := hU.next hx
  have hI4 := hI4.below hx
  have hB4 := hB4.trans (hx.mono hB4.size)
  clear hx
  generalize w4.alloc (.cells #[.string ⟨#[]⟩, .slice A4 3 d4] 24) = W4 at *
  generalize w4.heap.size = q4 at *
  have c5 := xPrintI A4 d4 W4 hU hI4
  with_reducible refine c5.mono ?_
  clear c5
  rintro x w5 ⟨rfl, hb5⟩
  have hI5 := hI4.below hb5
  have hB5 := hB4.trans (hb5.mono hB4.size)
  have hT := hT.next hb5
  have bx := bx.next hb5
  have hP := hP.next hb5
  have hU := hU.next hb5
  have by_ := by_.next hb5
  clear hb5 hI4
  go_wp2_with fail
  have c6 := xMake w5 hI5
  with_reducible refine c6.mono ?_
  clear c6
  rintro x w6 ⟨A6, d6, rfl, hV, hb6⟩
  have hI6 := hI5.below hb6
  have hB6 := hB5.trans (hb6.mono hB5.size)
  have hT := hT.next hb6
  have bx := bx.next hb6
  have hP := hP.next hb6
  have hU := hU.next hb6
  have by_ := by_.next hb6
  clear hb6 hI5
  go_wp2_with fail
  have hx : Below w6.heap.size w6 (w6.alloc (.cells #[.string ⟨#[]⟩, .slice A6 3 d6] 24)) := (Below.refl _ _).alloc (Nat.le_refl _) _
  have bz : Bx (w6.alloc (.cells #[.string ⟨#[]⟩, .slice A6 3 d6] 24)) w6.heap.size 3 A6 d6 := heap_alloc_new w6 _
  have hT := hT.next hx
  have bx := bx.next hx
  have hP := hP.next hx
  have hU := hU.next hx
  have by_ := by_.next hx
  have hV := hV.next hx
  have hI6 := hI6.below hx
  have hB6 := hB6.trans (hx.mono hB6.size)
  clear hx
  generalize w6.alloc (.cells #[.string ⟨#[]⟩, .slice A6 3 d6] 24) = W6 at *
  generalize w6.heap.size = q6 at *
  have c7 := xPrintM A6 d6 W6 hV hI6
  with_reducible refine c7.mono ?_
  clear c7
  rintro x w7 ⟨rfl, hb7⟩
  have hI7 := hI6.below hb7
  have hB7 := hB6.trans (hb7.mono hB6.size)
  have hT := hT.next hb7
  have bx := bx.next hb7
  have hP := hP.next hb7
  have hU := hU.next hb7
  have by_ := by_.next hb7
  have hV := hV.next hb7
  have bz := bz.next hb7
  clear hb7 hI6
  obtain ⟨bz0, bz1⟩ := bz.cells
  go_wp2_with fail
  clear bz0 bz1
  have c8 := xCost A6 d6 w7 hV hI7
  with_reducible refine c8.mono ?_
  clear c8
  rintro x w8 ⟨rfl, hb8⟩
  have hI8 := hI7.below hb8
  have hB8 := hB7.trans (hb8.mono hB7.size)
  have hT := hT.next hb8
  have bx := bx.next hb8
  have hP := hP.next hb8
  have hU := hU.next hb8
  have by_ := by_.next hb8
  have hV := hV.next hb8
  have bz := bz.next hb8
  clear hb8 hI7
  go_wp2_with fail
  have c9 := xBad w8 hI8
  with_reducible refine c9.mono ?_
  clear c9
  rintro x w9 ⟨A9, d9, rfl, hW, hb9⟩
  have hI9 := hI8.below hb9
  have hB9 := hB8.trans (hb9.mono hB8.size)
  have hT := hT.next hb9
  have bx := bx.next hb9
  have hP := hP.next hb9
  have hU := hU.next hb9
  have by_ := by_.next hb9
  have hV := hV.next hb9
  have bz := bz.next hb9
  clear hb9 hI8
  clear hT hU hV hW bx by_ bz
  have hy : Below w9.heap.size w9 ((w9.alloc (.cells #[.string ⟨#[]⟩, .slice A9 0 d9] 24)).alloc (.cells #[.int .i64 0, .int .i64 (-1), .int .i64 (-1), .int .i64 3, .int .i64 (-1), .int .i64 4] 44)) := ((Below.refl _ _).alloc (Nat.le_refl _) _).alloc (by simp) _
  have hz := heap_alloc_new (w9.alloc (.cells #[.string ⟨#[]⟩, .slice A9 0 d9] 24)) (.cells #[.int .i64 0, .int .i64 (-1), .int .i64 (-1), .int .i64 3, .int .i64 (-1), .int .i64 4] 44)
  rw [show (w9.alloc (.cells #[.string ⟨#[]⟩, .slice A9 0 d9] 24)).heap.size = w9.heap.size + 1 by simp] at hz
  have heq := eqp_true A3 (some ⟨w9.heap.size + 1, 0, none⟩) d3 3 exP _ (hP.next hy) (pls_block hz) (by decide)
  rw [show exP.length = 3 from rfl] at heq
  have hB := hB9.trans (hy.mono hB9.size)
  clear hy hz hP hB9 hI9
  go_wp2_with (fail)
  with_reducible refine heq.mono ?_
  clear heq
  rintro x w10 ⟨rfl, hb10⟩
  have HB := Lib.hid (hB.trans (hb10.mono hB.size))
  clear hB hb10
  go_wp2_with fail
  go_ret
  exact ⟨rfl, HB.out⟩
end Go.Proofs.YtlfgnecfabdkmaaGreatDoor
