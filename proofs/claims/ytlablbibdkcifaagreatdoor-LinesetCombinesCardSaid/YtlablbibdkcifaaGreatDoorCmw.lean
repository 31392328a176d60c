/- The law LinesetCombines. Condition: bytealg's MaxLen and the table of powers lie in their variables. -/
import Derived.Test.YtlablbibdkcifaaGreatDoorRud
import Derived.Test.YtlablbibdkcifaaGreatDoorUnd
import Derived.Test.YtlablbibdkcifaaGreatDoorFew
namespace Go.Proofs.YtlablbibdkcifaaGreatDoor
open Go.RowKit Go.Deep Tr

/-- A set and an error, whatever they are. -/
def GotV (w : World) (L : List Ls.Sp) (er : Int) : Ending → World → Prop := fun e w' => (∃ A c, e = .returned (.tuple #[.slice A L.length c, .int .i64 er]) ∧ Ls.SpAt w' w'.heap.size A L) ∧ Below w.heap.size w w'
namespace Ls
def okL (ok : Bool) (R : List Sp) : List Sp := if ok = true then R else []
def okE (ok : Bool) (er : Int) : Int := if ok = true then 0 else er
theorem okL_len (ok : Bool) (R : List Sp) : (okL ok R).length ≤ R.length := by cases ok <;> simp [okL]
theorem union_eq {a b out : List Sp} (ha : vld a = true) (hb : vld b = true) (h : Comb (fun x y => x || y) a b out) : out = pack (mrg (lns a) (lns b)) :=
  pack_eq (srt_mrg (lns_ok ha).1 (lns_ok hb).1) h.1.apart fun p m => by rw [h.2.1, mem_mrg, mem_lns, mem_lns, Bool.or_eq_true]
theorem part_eq {a b out : List Sp} {f : Bool → Bool → Bool} (inb : Bool) (ha : vld a = true) (hb : vld b = true) (hf : ∀ x y, f x y = (x && (y == inb))) (h : Comb f a b out) : out = pack (prtL a b inb) :=
  pack_eq (srt_filter _ (lns_ok ha).1) h.1.apart fun p m => by
    rw [h.2.1, hf, prtL, List.mem_filter, mem_lns, Bool.and_eq_true]
    rw [show hasV b p m = has b p m by rw [hasV_def, hb, Bool.true_and]]
end Ls
theorem gotV_q {w w' : World} {ok : Bool} {R : List Ls.Sp} {er : Int} {e : Ending} (h : GotQ w ok R er e w') : GotV w (Ls.okL ok R) (Ls.okE ok er) e w' := by
  obtain ⟨⟨rfl, A, c, h1, h2⟩ | ⟨rfl, h1⟩, hb⟩ := h
  · exact ⟨⟨A, c, h1, h2⟩, hb⟩
  · exact ⟨⟨none, 0, h1, Ls.ElAt.nil _ _ _ _ _⟩, hb⟩
theorem gotV_op {w w' : World} {f : Bool → Bool → Bool} {a b R : List Ls.Sp} {e : Ending} (hR : Ls.vld a = true → Ls.vld b = true → ∀ out, Comb f a b out → out = R) (h : GotOp w f a b e w') : GotV w (Ls.okL (Ls.vld a && Ls.vld b) R) (Ls.okE (Ls.vld a && Ls.vld b) 1) e w' := by
  obtain ⟨⟨hv, out, A, c, h1, h2, h3⟩ | ⟨hv, h1⟩, hb⟩ := h
  · rw [hv]
    rw [Bool.and_eq_true] at hv
    have := hR hv.1 hv.2 out h2
    subst this
    exact ⟨⟨A, c, h1, h3⟩, hb⟩
  · rw [hv]
    exact ⟨⟨none, 0, h1, Ls.ElAt.nil _ _ _ _ _⟩, hb⟩
theorem gotV_un {w w' : World} {l : List Ls.Sp} {d : List UInt8} {e : Ending} (hv : Ls.vld l = true) (h : GotUn w l d e w') : GotV w (Ls.okL (Ls.vld l && Tre.pathOk d) (Ls.und l d)) (Ls.okE (Ls.vld l && Tre.pathOk d) (Ls.uer l)) e w' := by
  obtain ⟨⟨hp, A, c, h1, h2⟩ | ⟨hp, h1⟩, hb⟩ := h
  · rw [hv, hp]
    exact ⟨⟨A, c, h1, h2⟩, hb⟩
  · rw [Ls.uer_t hv, hv, hp]
    exact ⟨⟨none, 0, h1, Ls.ElAt.nil _ _ _ _ _⟩, hb⟩
set_option maxHeartbeats 4000000 in
set_option maxRecDepth 100000 in
theorem underBad_any (l : List Ls.Sp) (d : List UInt8) (A : Option Addr) (c : Nat) (w : World) (hA : SetAt w A l) (hv : Ls.vld l = false) (hM : MaxAt w) :
    Calls Tryz.prog 11 #[.slice A l.length c, .string (str d)] w fun e w' => e = .returned (.tuple #[.slice none 0 0, .int .i64 1]) ∧ Below w.heap.size w w' := by
  have hva := valid_any l A c w hA.at_ (by have := hA.len; omega) hA.path hM
  rw [hv] at hva
  clear hA hM hv
  go_enter Tryz.func11, Tryz.ntmps11
  go_wp2_with fail
  with_reducible refine hva.mono ?_
  clear hva
  rintro e w1 ⟨rfl, hb1⟩
  go_wp2_with fail
  first | go_ret3 | go_ret2 | go_ret
  exact ⟨rfl, hb1⟩
theorem underV_any (l : List Ls.Sp) (d : List UInt8) (A : Option Addr) (c : Nat) (w : World) (hA : SetAt w A l) (hM : MaxAt w) (hd : d.length ≤ 1000000) :
    Calls Tryz.prog 11 #[.slice A l.length c, .string (str d)] w (GotV w (Ls.okL (Ls.vld l && Tre.pathOk d) (Ls.und l d)) (Ls.okE (Ls.vld l && Tre.pathOk d) (Ls.uer l))) := by
  cases hv : Ls.vld l with
  | true => rw [← hv]; exact (under_any l d A c w hA hv hM hd).mono fun e w' h => gotV_un hv h
  | false =>
    refine (underBad_any l d A c w hA hv hM).mono fun e w' h => ?_
    rw [Ls.uer_f hv]
    exact ⟨⟨none, 0, h.1, Ls.ElAt.nil _ _ _ _ _⟩, h.2⟩
set_option maxHeartbeats 64000000 in
set_option maxRecDepth 100000 in
theorem combines_law (a b : List Ls.Sp) (sd : ByteArray) (A A' : Option Addr) (c c' : Nat) (W : World) (hA : SetRaw W A a) (hB : SetRaw W A' b) (hM : MaxAt W) (hT : Cd.Tabs W) :
    Calls Tryz.prog 3 #[.slice A a.length c, .slice A' b.length c', .string sd] W fun e w' => e = .returned (.bool true) ∧ Below W.heap.size W w' := by
  obtain ⟨d, rfl⟩ : ∃ d, sd = str d := ⟨sd.data.toList, (str_of sd).symm⟩
  have cc := awake_any W hM hT
  have HA := Lib.hid hA
  have HB := Lib.hid hB
  have HM := Lib.hid hM
  clear hA hB hM hT
  go_enter Tryz.func3, Tryz.ntmps3
  go_wp2_with fail
  with_reducible refine cc.mono ?_
  clear cc
  rintro e w1 ⟨rfl, hb1⟩
  have cc := few_any a A c w1 (HA.out.next hb1)
  go_wp2_with fail
  with_reducible refine cc.mono ?_
  clear cc
  rintro e w2 ⟨b0, rfl, hf, hb2⟩
  have hb02 := hb1.trans (hb2.mono hb1.size)
  clear hb1 hb2
  cases b0 with
  | false =>
    clear hf
    go_wp2_with fail
    first | go_ret2 | go_ret
    exact ⟨rfl, hb02⟩
  | true =>
  have HFA := Lib.hid (hf rfl)
  clear hf
  have cc := few_any b A' c' w2 (HB.out.next hb02)
  go_wp2_with fail
  with_reducible refine cc.mono ?_
  clear cc
  rintro e w3 ⟨b0, rfl, hf, hb3⟩
  have hb03 := hb02.trans (hb3.mono hb02.size)
  clear hb02 hb3
  cases b0 with
  | false =>
    clear hf
    go_wp2_with fail
    first | go_ret2 | go_ret
    exact ⟨rfl, hb03⟩
  | true =>
  have HFB := Lib.hid (hf rfl)
  clear hf
  have hds := str_size d
  by_cases h200 : 200 < d.length
  · have g2 : decide ((200 : Int) < ((str d).size : Int)) = true := decide_eq_true (by omega)
    have g2n : decide (200 < (str d).size) = true := decide_eq_true (by omega)
    clear hds
    go_wp2_with fail
    first | go_ret2 | go_ret
    exact ⟨rfl, hb03⟩
  have g2 : decide ((200 : Int) < ((str d).size : Int)) = false := decide_eq_false (by omega)
  have g2n : decide (200 < (str d).size) = false := decide_eq_false (by omega)
  have HD := Lib.hid (show d.length ≤ 1000000 by omega)
  clear hds h200
  have hla := HFA.out.1
  have hlb := HFB.out.1
  have SA := Lib.hid ((HA.out.next hb03).set HFA.out)
  have SB := Lib.hid ((HB.out.next hb03).set HFB.out)
  have MX := Lib.hid (HM.out.below hb03)
  have HB3 := Lib.hid hb03
  have hb0 := Below.refl w3.heap.size w3
  have FU := Lib.hid (fun w (h : Below w3.heap.size w3 w) => (union_any a b A A' c c' w (SA.out.next h) (SB.out.next h) (MX.out.below h)).mono fun e w' hg => gotV_op (fun ha hb out ho => Ls.union_eq ha hb ho) hg)
  have FM := Lib.hid (fun w (h : Below w3.heap.size w3 w) => (meet_any a b A A' c c' w (SA.out.next h) (SB.out.next h) (MX.out.below h)).mono fun e w' hg => gotV_op (fun ha hb out ho => Ls.part_eq true ha hb (fun x y => by cases x <;> cases y <;> rfl) ho) hg)
  have FD := Lib.hid (fun w (h : Below w3.heap.size w3 w) => (minus_any a b A A' c c' w (SA.out.next h) (SB.out.next h) (MX.out.below h)).mono fun e w' hg => gotV_op (fun ha hb out ho => Ls.part_eq false ha hb (fun x y => by cases x <;> cases y <;> rfl) ho) hg)
  have FW := Lib.hid (fun w (h : Below w3.heap.size w3 w) => underV_any a d A c w (SA.out.next h) (MX.out.below h) HD.out)
  have QU := Lib.hid (fun w (h : Below w3.heap.size w3 w) => (qunion_any a b A A' c c' w (SA.out.next h) (SB.out.next h) (by omega) (by omega)).mono fun e w' hg => gotV_q hg)
  have QM := Lib.hid (fun w (h : Below w3.heap.size w3 w) => (qmeet_any a b A A' c c' w (SA.out.next h) (SB.out.next h) (by omega) (by omega)).mono fun e w' hg => gotV_q hg)
  have QD := Lib.hid (fun w (h : Below w3.heap.size w3 w) => (qminus_any a b A A' c c' w (SA.out.next h) (SB.out.next h) (by omega) (by omega)).mono fun e w' hg => gotV_q hg)
  have QW := Lib.hid (fun w (h : Below w3.heap.size w3 w) => (qunder_any a d A c w (SA.out.next h) HD.out).mono fun e w' hg => gotV_q hg)
  have LU : (Ls.okL (Ls.vld a && Ls.vld b) (Ls.pack (Ls.mrg (Ls.lns a) (Ls.lns b)))).length ≤ 1000000 := by
    have h0 := Ls.okL_len (Ls.vld a && Ls.vld b) (Ls.pack (Ls.mrg (Ls.lns a) (Ls.lns b)))
    have h1 := Ls.pack_len (Ls.mrg (Ls.lns a) (Ls.lns b))
    rw [Ls.len_mrg] at h1
    cases hv : (Ls.vld a && Ls.vld b) with
    | false => simp [Ls.okL]
    | true =>
      rw [hv] at h0
      rw [Bool.and_eq_true] at hv
      have h2 := (Ls.lns_ok hv.1).2.2
      have h3 := (Ls.lns_ok hv.2).2.2
      omega
  have LP : ∀ i, (Ls.okL (Ls.vld a && Ls.vld b) (Ls.pack (Ls.prtL a b i))).length ≤ 1000000 := fun i => by
    have h0 := Ls.okL_len (Ls.vld a && Ls.vld b) (Ls.pack (Ls.prtL a b i))
    have h1 := Ls.pack_len (Ls.prtL a b i)
    cases hv : (Ls.vld a && Ls.vld b) with
    | false => simp [Ls.okL]
    | true =>
      rw [hv] at h0
      rw [Bool.and_eq_true] at hv
      have h2 := (Ls.lns_ok hv.1).2.2
      have h3 : (Ls.prtL a b i).length ≤ (Ls.lns a).length := List.length_filter_le _ _
      omega
  have LM := LP true
  have LD := LP false
  have LW : (Ls.okL (Ls.vld a && Tre.pathOk d) (Ls.und a d)).length ≤ 1000000 := by
    have h0 := Ls.okL_len (Ls.vld a && Tre.pathOk d) (Ls.und a d)
    have h1 := Ls.und_len a d
    omega
  clear LP hla hlb hb03
  generalize Ls.okL (Ls.vld a && Ls.vld b) (Ls.pack (Ls.mrg (Ls.lns a) (Ls.lns b))) = U at *
  generalize Ls.okL (Ls.vld a && Ls.vld b) (Ls.pack (Ls.prtL a b true)) = M at *
  generalize Ls.okL (Ls.vld a && Ls.vld b) (Ls.pack (Ls.prtL a b false)) = D at *
  generalize Ls.okL (Ls.vld a && Tre.pathOk d) (Ls.und a d) = V at *
  generalize Ls.okE (Ls.vld a && Ls.vld b) 1 = er at *
  generalize Ls.okE (Ls.vld a && Tre.pathOk d) (Ls.uer a) = eu at *
  have cc := FU.out w3 hb0
  go_wp2_with fail
  with_reducible refine cc.mono ?_
  clear cc
  rintro e w4 ⟨⟨A4, c4, rfl, S4⟩, hn4⟩
  have hb4 := hb0.trans (hn4.mono hb0.size)
  clear hn4
  have cc := FM.out w4 hb4
  go_wp2_with fail
  with_reducible refine cc.mono ?_
  clear cc
  rintro e w5 ⟨⟨A5, c5, rfl, S5⟩, hn5⟩
  have hb5 := hb4.trans (hn5.mono hb4.size)
  have S4 := S4.next hn5
  clear hn5
  have cc := FD.out w5 hb5
  go_wp2_with fail
  with_reducible refine cc.mono ?_
  clear cc
  rintro e w6 ⟨⟨A6, c6, rfl, S6⟩, hn6⟩
  have hb6 := hb5.trans (hn6.mono hb5.size)
  have S4 := S4.next hn6
  have S5 := S5.next hn6
  clear hn6
  have cc := FW.out w6 hb6
  go_wp2_with fail
  with_reducible refine cc.mono ?_
  clear cc
  rintro e w7 ⟨⟨A7, c7, rfl, S7⟩, hn7⟩
  have hb7 := hb6.trans (hn7.mono hb6.size)
  have S4 := S4.next hn7
  have S5 := S5.next hn7
  have S6 := S6.next hn7
  clear hn7
  have cc := QU.out w7 hb7
  go_wp2_with fail
  with_reducible refine cc.mono ?_
  clear cc
  rintro e w8 ⟨⟨A8, c8, rfl, S8⟩, hn8⟩
  have hb8 := hb7.trans (hn8.mono hb7.size)
  have S4 := S4.next hn8
  have S5 := S5.next hn8
  have S6 := S6.next hn8
  have S7 := S7.next hn8
  clear hn8
  have cc := QM.out w8 hb8
  go_wp2_with fail
  with_reducible refine cc.mono ?_
  clear cc
  rintro e w9 ⟨⟨A9, c9, rfl, S9⟩, hn9⟩
  have hb9 := hb8.trans (hn9.mono hb8.size)
  have S4 := S4.next hn9
  have S5 := S5.next hn9
  have S6 := S6.next hn9
  have S7 := S7.next hn9
  have S8 := S8.next hn9
  clear hn9
  have cc := QD.out w9 hb9
  go_wp2_with fail
  with_reducible refine cc.mono ?_
  clear cc
  rintro e w10 ⟨⟨A10, c10, rfl, S10⟩, hn10⟩
  have hb10 := hb9.trans (hn10.mono hb9.size)
  have S4 := S4.next hn10
  have S5 := S5.next hn10
  have S6 := S6.next hn10
  have S7 := S7.next hn10
  have S8 := S8.next hn10
  have S9 := S9.next hn10
  clear hn10
  have cc := QW.out w10 hb10
  go_wp2_with fail
  with_reducible refine cc.mono ?_
  clear cc
  rintro e w11 ⟨⟨A11, c11, rfl, S11⟩, hn11⟩
  have hb11 := hb10.trans (hn11.mono hb10.size)
  have S4 := S4.next hn11
  have S5 := S5.next hn11
  have S6 := S6.next hn11
  have S7 := S7.next hn11
  have S8 := S8.next hn11
  have S9 := S9.next hn11
  have S10 := S10.next hn11
  clear hn11
  clear g2 g2n
  have cc := eq_true_any A4 A8 c4 c8 U w11 S4 S8 LU
  go_wp2_with fail
  with_reducible refine cc.mono ?_
  clear cc
  rintro e w12 ⟨rfl, hn12⟩
  have hb12 := hb11.trans (hn12.mono hb11.size)
  have S5 := S5.next hn12
  have S6 := S6.next hn12
  have S7 := S7.next hn12
  have S9 := S9.next hn12
  have S10 := S10.next hn12
  have S11 := S11.next hn12
  clear hn12
  have cc := eq_true_any A5 A9 c5 c9 M w12 S5 S9 LM
  go_wp2_with fail
  with_reducible refine cc.mono ?_
  clear cc
  rintro e w13 ⟨rfl, hn13⟩
  have hb13 := hb12.trans (hn13.mono hb12.size)
  have S6 := S6.next hn13
  have S7 := S7.next hn13
  have S10 := S10.next hn13
  have S11 := S11.next hn13
  clear hn13
  have cc := eq_true_any A6 A10 c6 c10 D w13 S6 S10 LD
  go_wp2_with fail
  with_reducible refine cc.mono ?_
  clear cc
  rintro e w14 ⟨rfl, hn14⟩
  have hb14 := hb13.trans (hn14.mono hb13.size)
  have S7 := S7.next hn14
  have S11 := S11.next hn14
  clear hn14
  have cc := eq_true_any A7 A11 c7 c11 V w14 S7 S11 LW
  go_wp2_with fail
  with_reducible refine cc.mono ?_
  clear cc
  rintro e w15 ⟨rfl, hn15⟩
  have hb15 := hb14.trans (hn15.mono hb14.size)
  clear hn15
  have HZ := Lib.hid (HB3.out.trans (hb15.mono HB3.out.size))
  go_wp2_with fail
  first | go_ret3 | go_ret2 | go_ret
  exact ⟨rfl, HZ.out⟩
end Go.Proofs.YtlablbibdkcifaaGreatDoor
