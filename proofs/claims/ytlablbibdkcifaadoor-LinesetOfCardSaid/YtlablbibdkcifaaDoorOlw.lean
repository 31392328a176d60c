/- The law LinesetOf. Condition: bytealg's MaxLen and the table of powers lie in their variables. -/
import Derived.Test.YtlablbibdkcifaaDoorRof
namespace Go.Proofs.YtlablbibdkcifaaDoor
open Go.RowKit Go.Deep Tr

/-- Lines as they come in. -/
structure LnRaw (w : World) (A : Option Addr) (L : List Ls.Ln) : Prop where
  at_ : Ls.LnAt w w.heap.size A L
  len : L.length ≤ 140737488351232
theorem LnRaw.next {w w' : World} {A : Option Addr} {L : List Ls.Ln} (h : LnRaw w A L) (hb : Below w.heap.size w w') : LnRaw w' A L := ⟨h.at_.next hb, h.len⟩
set_option maxHeartbeats 8000000 in
set_option maxRecDepth 100000 in
theorem of_law (L : List Ls.Ln) (A : Option Addr) (c : Nat) (W : World) (hA : LnRaw W A L) (hM : MaxAt W) (hT : Cd.Tabs W) :
    Calls Tryd.prog 4 #[.slice A L.length c] W fun e W' => e = .returned (.bool true) ∧ Below W.heap.size W W' := by
  have cc := awake_any W hM hT
  have hll := hA.len
  have HA := Lib.hid hA
  have HM := Lib.hid hM
  clear hA hM hT
  go_enter Tryd.func4, Tryd.ntmps4
  go_wp2_with fail
  with_reducible refine cc.mono ?_
  clear cc
  rintro e w1 ⟨rfl, hb1⟩
  by_cases h60 : 60 < L.length
  · have g1 : decide ((60 : Int) < (L.length : Int)) = true := decide_eq_true (by omega)
    have g1n : decide (60 < L.length) = true := decide_eq_true h60
    go_wp2_with fail
    first | go_ret3 | go_ret2 | go_ret
    exact ⟨rfl, hb1⟩
  have g1 : decide ((60 : Int) < (L.length : Int)) = false := decide_eq_false (by omega)
  have g1n : decide (60 < L.length) = false := decide_eq_false h60
  have cc := containsOver_any L A c w1 (HA.out.next hb1).at_ (by omega)
  go_wp2_with fail
  with_reducible refine cc.mono ?_
  clear cc
  rintro e w2 ⟨b, rfl, hall, hb2⟩
  have hb02 := hb1.trans (hb2.mono hb1.size)
  clear hb1 hb2
  cases b with
  | true =>
    clear hall
    go_wp2_with fail
    first | go_ret3 | go_ret2 | go_ret
    exact ⟨rfl, hb02⟩
  | false =>
    have HAL := Lib.hid (hall rfl)
    clear hall g1 g1n
    have cc := ofx_any L A c w2 (HA.out.next hb02).at_ (by omega) (fun x hx => by have := HAL.out x hx; omega) (HM.out.below hb02)
    go_wp2_with fail
    with_reducible refine cc.mono ?_
    clear cc
    rintro e w3 ⟨hgot, hb3⟩
    have hb03 := hb02.trans (hb3.mono hb02.size)
    have HB2 := Lib.hid hb02
    clear hb02 hb3
    have cq := qof_any L A c w3 (HA.out.next hb03).at_ (by omega) (fun x hx => by have := HAL.out x hx; omega)
    rcases hgot with ⟨h0, A3, c3, rfl, S3⟩ | ⟨h0, rfl⟩
    · have H0 := Lib.hid h0
      have HS3 := Lib.hid S3
      clear h0 S3
      go_wp2_with fail
      with_reducible refine cq.mono ?_
      clear cq
      rintro e w4 ⟨hgot, hb4⟩
      have HB4 := Lib.hid (hb03.trans (hb4.mono hb03.size))
      rcases hgot with ⟨h1, A4, c4, rfl, S4⟩ | ⟨h1, _⟩
      · clear h1
        have hpl := Ls.pack_len (Ls.srt L)
        rw [(Ls.srt_ok L).2.2] at hpl
        have ce := eq_true_any A3 A4 c3 c4 (Ls.pack (Ls.srt L)) w4 (HS3.out.next hb4) S4 (by omega)
        clear hb03 hb4 S4
        go_wp2_with fail
        with_reducible refine ce.mono ?_
        clear ce
        rintro e w5 ⟨rfl, hb5⟩
        have HB5 := Lib.hid (HB4.out.trans (hb5.mono HB4.out.size))
        clear hb5
        go_wp2_with fail
        first | go_ret3 | go_ret2 | go_ret
        exact ⟨rfl, HB5.out⟩
      · exact absurd H0.out h1
    · have H0 := Lib.hid h0
      clear h0
      go_wp2_with fail
      with_reducible refine cq.mono ?_
      clear cq
      rintro e w4 ⟨hgot, hb4⟩
      have HB4 := Lib.hid (hb03.trans (hb4.mono hb03.size))
      rcases hgot with ⟨h1, _⟩ | ⟨h1, rfl⟩
      · exact absurd h1 H0.out
      · clear h1
        have ce := eq_true_any none none 0 0 [] w4 (Ls.ElAt.nil _ _ _ _ _) (Ls.ElAt.nil _ _ _ _ _) (by simp)
        rw [List.length_nil] at ce
        clear hb03 hb4
        generalize Ls.ofE L = V at *
        go_wp2_with fail
        with_reducible refine ce.mono ?_
        clear ce
        rintro e w5 ⟨rfl, hb5⟩
        have HB5 := Lib.hid (HB4.out.trans (hb5.mono HB4.out.size))
        clear hb5
        go_wp2_with fail
        first | go_ret3 | go_ret2 | go_ret
        exact ⟨rfl, HB5.out⟩
end Go.Proofs.YtlablbibdkcifaaDoor
