/- The law LinesetTexts. Condition: bytealg's MaxLen, the table of powers and strconv's errors lie in their variables. -/
import Derived.Test.YtlablbibdkcifaaGreatDoorRps
import Derived.Test.YtlablbibdkcifaaGreatDoorRpr
import Derived.Test.YtlablbibdkcifaaGreatDoorFew
namespace Go.Proofs.YtlablbibdkcifaaGreatDoor
open Go.RowKit Go.Deep Tr

namespace Ls
def ptT (l : List Sp) : LN := if vld l = true then prt l else []
def ptE (l : List Sp) : Int := if vld l = true then 0 else 1
theorem pt_t {l : List Sp} (h : vld l = true) : ptT l = prt l ∧ ptE l = 0 := ⟨if_pos h, if_pos h⟩
theorem pt_f {l : List Sp} (h : vld l = false) : ptT l = [] ∧ ptE l = 1 := ⟨if_neg (by rw [h]; decide), if_neg (by rw [h]; decide)⟩
theorem prt_long (l : List Sp) : l.length ≤ (prt l).length := by
  induction l with
  | nil => simp
  | cons s t ih =>
    unfold prt at ih ⊢
    rw [List.flatMap_cons, List.length_append, List.length_cons]
    have : 1 ≤ (spT s).length := by unfold spT; simp; omega
    omega
theorem prs_len (s : LN) : (prs s).2.2.length ≤ s.length := by
  by_cases h : (prs s).1 = 0
  · have h1 := prs_back (s := s) (m := (prs s).2.2) (k := (prs s).2.1) (by rw [← h])
    have := prt_long (prs s).2.2
    rw [h1.1] at this
    exact this
  · have := (prsA_err s.length s (Nat.le_refl _) [] h).1
    show (prsA [] (Tre.split 10 s)).2.2.length ≤ _
    rw [this]
    exact Nat.zero_le _
end Ls
/-- What Print leaves. -/
def GotPt (w : World) (l : List Ls.Sp) : Ending → World → Prop := fun e w' => e = .returned (.tuple #[.string (str (Ls.ptT l)), .int .i64 (Ls.ptE l)]) ∧ Below w.heap.size w w'
theorem printV_any (l : List Ls.Sp) (A : Option Addr) (c : Nat) (w : World) (hA : SetAt w A l) (hM : MaxAt w) (hT : Cd.Tabs w) : Calls Tryz.prog 17 #[.slice A l.length c] w (GotPt w l) := by
  cases hv : Ls.vld l with
  | true =>
    refine (lprint_any l A c w hA hv hM hT).mono fun e w' h => ?_
    unfold GotPt
    rw [(Ls.pt_t hv).1, (Ls.pt_t hv).2]
    exact h
  | false =>
    refine (printBad_any l A c w hA hv hM).mono fun e w' h => ?_
    unfold GotPt
    rw [(Ls.pt_f hv).1, (Ls.pt_f hv).2]
    exact h
theorem qprintV_any (l : List Ls.Sp) (A : Option Addr) (c : Nat) (w : World) (hA : SetAt w A l) (hl : l.length ≤ 100000) : Calls Tryz.prog 18 #[.slice A l.length c] w (GotPt w l) := by
  refine (qprint_any l A c w hA hl).mono fun e w' h => ?_
  unfold GotPt
  obtain ⟨⟨hv, h1⟩ | ⟨hv, h1⟩, hb⟩ := h
  · rw [(Ls.pt_t hv).1, (Ls.pt_t hv).2]
    exact ⟨h1, hb⟩
  · rw [(Ls.pt_f hv).1, (Ls.pt_f hv).2]
    exact ⟨h1, hb⟩
set_option maxHeartbeats 16000000 in
set_option maxRecDepth 100000 in
theorem texts_law (l : List Ls.Sp) (ss : ByteArray) (A : Option Addr) (c : Nat) (W : World) (hA : SetRaw W A l) (hM : MaxAt W) (hT : Cd.Tabs W) (hE : ErrAt W) :
    Calls Tryz.prog 4 #[.slice A l.length c, .string ss] W fun e W' => e = .returned (.bool true) ∧ Below W.heap.size W W' := by
  obtain ⟨t, rfl⟩ : ∃ t, ss = str t := ⟨ss.data.toList, (str_of ss).symm⟩
  have cc := awake_any W hM hT
  have HA := Lib.hid hA
  have HM := Lib.hid hM
  have HTb := Lib.hid hT
  have HE := Lib.hid hE
  clear hA hM hT hE
  go_enter Tryz.func4, Tryz.ntmps4
  go_wp2_with fail
  with_reducible refine cc.mono ?_
  clear cc
  rintro e w1 ⟨rfl, hb1⟩
  have cc := few_any l A c w1 (HA.out.next hb1)
  go_wp2_with fail
  with_reducible refine cc.mono ?_
  clear cc
  rintro e w2 ⟨b0, rfl, hf, hn2⟩
  have hb2 := hb1.trans (hn2.mono hb1.size)
  clear hb1 hn2
  cases b0 with
  | false =>
    clear hf
    go_wp2_with fail
    first | go_ret2 | go_ret
    exact ⟨rfl, hb2⟩
  | true =>
  have HF := Lib.hid (hf rfl)
  clear hf
  have hds := str_size t
  by_cases h1000 : 1000 < t.length
  · have g2 : decide ((1000 : Int) < ((str t).size : Int)) = true := decide_eq_true (by omega)
    have g2n : decide (1000 < (str t).size) = true := decide_eq_true (by omega)
    clear hds
    go_wp2_with fail
    first | go_ret2 | go_ret
    exact ⟨rfl, hb2⟩
  have g2 : decide ((1000 : Int) < ((str t).size : Int)) = false := decide_eq_false (by omega)
  have g2n : decide (1000 < (str t).size) = false := decide_eq_false (by omega)
  have htl : t.length ≤ 100000 := by omega
  clear hds h1000
  have hll := HF.out.1
  have HS := Lib.hid ((HA.out.next hb2).set HF.out)
  have hpl := Ls.prs_len t
  have C1 := Lib.hid (printV_any l A c w2 HS.out (HM.out.below hb2) (HTb.out.below hb2))
  have C2 := Lib.hid (fun w (h : Below W.heap.size W w) (hS : SetAt w A l) => qprintV_any l A c w hS (by omega))
  have C3 := Lib.hid (fun w (h : Below W.heap.size W w) => pparse_any t htl w (HE.out.below h) (HTb.out.below h) (HM.out.below h))
  have C4 := Lib.hid (fun w => qparse_any t htl w)
  have HPL := Lib.hid (show (Ls.prs t).2.2.length ≤ 1000000 by omega)
  clear hpl
  generalize Ls.prs t = P at *
  obtain ⟨er, n, L⟩ := P
  have HPL2 := Lib.hid (show L.length ≤ 1000000 from HPL.out)
  clear HPL
  have c1 := C1.out
  unfold GotPt at c1 C2
  generalize Ls.ptE l = pe at *
  generalize Ls.ptT l = pt at *
  clear C1
  go_wp2_with fail
  with_reducible refine c1.mono ?_
  clear c1
  rintro e w3 ⟨rfl, hn3⟩
  have hb3 := hb2.trans (hn3.mono hb2.size)
  have cc := C2.out w3 hb3 (HS.out.next hn3)
  clear hn3 hb2 C2 g2 g2n
  go_wp2_with fail
  with_reducible refine cc.mono ?_
  clear cc
  rintro e w4 ⟨rfl, hn4⟩
  have hb4 := hb3.trans (hn4.mono hb3.size)
  have cc := C3.out w4 hb4
  clear hn4 hb3 C3
  go_wp2_with fail
  with_reducible refine cc.mono ?_
  clear cc
  rintro e w5 ⟨⟨A5, c5, rfl, S5⟩, hn5⟩
  have hb5 := hb4.trans (hn5.mono hb4.size)
  have cc := C4.out w5
  clear hn5 hb4 C4
  dsimp only at S5
  go_wp2_with fail
  with_reducible refine cc.mono ?_
  clear cc
  rintro e w6 ⟨⟨A6, c6, rfl, S6⟩, hn6⟩
  have hb6 := hb5.trans (hn6.mono hb5.size)
  have S5' := S5.next hn6
  dsimp only at S6
  have cc := eq_true_any A5 A6 c5 c6 L w6 S5' S6 HPL2.out
  clear hn6 hb5 S5 S5' S6
  go_wp2_with fail
  with_reducible refine cc.mono ?_
  clear cc
  rintro e w7 ⟨rfl, hn7⟩
  have HB := Lib.hid (hb6.trans (hn7.mono hb6.size))
  clear hn7 hb6
  go_wp2_with fail
  first | go_ret3 | go_ret2 | go_ret
  exact ⟨rfl, HB.out⟩
end Go.Proofs.YtlablbibdkcifaaGreatDoor
