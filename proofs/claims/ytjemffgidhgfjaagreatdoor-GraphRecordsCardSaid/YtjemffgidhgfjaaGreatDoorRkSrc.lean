/- Sources: the loops. -/
import Derived.Test.YtjemffgidhgfjaaGreatDoorRkAf2
namespace Go.Proofs.YtjemffgidhgfjaaGreatDoor.Rk
open Go.RowKit Go.Deep Go.Maps Tr

/-- A file that nobody writes, and that a needed step reads. -/
def SrcOf (r : List Dn) (D : Nat → Prop) (x : List UInt8) : Prop := ∃ i s t, D i ∧ r[i]? = some s ∧ t ∈ s.rds ∧ t.pth = x ∧ Rc.wr0 r x = none
theorem ne_of_cell {w : World} {b n g o : Nat} {F : List UInt8 → Option Value} {v : Value} (h : Mp w b n F) (hc : w.cell? ⟨g, o, none⟩ = some v) : g ≠ b := fun e => by
  subst e
  obtain ⟨D, ⟨es, clock, hb, _⟩, _⟩ := h
  simp [World.cell?, hb] at hc
theorem ned_lt {r : List Dn} {p : List UInt8} {i : Nat} (h : Rc.Ned r p i) : Rc.chk r = 0 ∧ i < r.length := by
  cases h with
  | base h => exact ⟨(Rc.wr0_some h).1, (Rc.wr0_some h).2.1⟩
  | step _ _ _ h => exact ⟨(Rc.wr0_some h).1, (Rc.wr0_some h).2.1⟩
/-- The sorted list of the sources. -/
def SrcL (r : List Dn) (p : List UInt8) (L : List (List UInt8)) : Prop := L.Pairwise (fun a b => leB a b = true) ∧ L.Nodup ∧ ∀ x, x ∈ L ↔ SrcOf r (Rc.Ned r p) x
/-- A list of texts comes back. -/
def GotT (w : World) (P : List (List UInt8) → Prop) (e : Ending) (w' : World) : Prop := ∃ (L : List (List UInt8)) (A : Option Addr) (c : Nat), e = .returned (.slice A L.length c) ∧ P L ∧ L.length ≤ 3000000 ∧ Rc.StAt w' w'.heap.size A L ∧ Below w.heap.size w w'
/-- What is asked of the keys of a map, sorted. -/
def SortedKeys : Prop := ∀ (b n : Nat) (C : List (List UInt8)) (w : World), Mp w b n (cF C) → n ≤ 3000000 →
  Calls Tryz.prog 28 #[.func (.func 94) #[] #[.pointer (some ⟨w.heap.size, 0, none⟩)]] (w.alloc (.cells #[.map (some b)] 91)) (GotT (w.alloc (.cells #[.map (some b)] 91)) fun L => L.Pairwise (fun a b => leB a b = true) ∧ L.Nodup ∧ ∀ x, x ∈ L ↔ x ∈ C)
def KeysOf1 : Prop := ∀ (mb : Option Nat) (W : World), Calls Tryz.prog 60 #[.map mb] W fun e w' => e = .returned (.func (.func 94) #[] #[.pointer (some ⟨W.heap.size, 0, none⟩)]) ∧ w' = W.alloc (.cells #[.map mb] 91)
set_option maxHeartbeats 8000000 in
set_option maxRecDepth 100000 in
theorem sources_of (hSK : SortedKeys) (hK1 : KeysOf1) (r : List Dn) (p : List UInt8) (A : Option Addr) (c : Nat) (w : World) (hA : RcAt w A r) (hS : r.length ≤ 1024 → Sht r) (hM : MaxAt w) (hp : p.length ≤ maxLen) :
    Calls Tryz.prog 23 #[.slice A r.length c, .string (str p)] w (GotT w (SrcL r p)) := by
  have cc := writers_any r A c w hA hS hM
  have HA := Lib.hid hA
  have HS := Lib.hid hS
  have HSK := Lib.hid hSK
  have HK1 := Lib.hid hK1
  have hrl := hA.rl
  have hmm := @run_makeMap Tryz.prog
  clear hA hS hM hSK hK1
  go_enter Tryz.func23, Tryz.ntmps23
  go_wp2_with fail
  with_reducible refine cc.mono ?_
  clear cc
  rintro e w1 ⟨v, rfl, hv, hb1⟩
  have hba : Below w1.heap.size w1 (w1.alloc (.map #[] 0)) := (Below.refl _ _).alloc (Nat.le_refl _) _
  have cn := needed_any r p A c v (w1.alloc (.map #[] 0)) ((HA.out.next hb1).next hba) HS.out hp (hv.next hba)
  have hm0 := Mp.made w1
  have HV := Lib.hid hv
  have HB1 := Lib.hid hb1
  clear hv hb1
  go_wp2_with fail
  with_reducible refine cn.mono ?_
  clear cn
  rintro e w2 ⟨L, A2, c2, rfl, hL, hl, hin, hb2⟩
  have HM2 := Lib.hid (hm0.next hb2)
  have HB2 := Lib.hid (hba.trans (hb2.mono hba.size))
  obtain ⟨b, hb⟩ : ∃ b, b = w1.heap.size := ⟨_, rfl⟩
  rw [← hb] at HM2
  rw [← hb]
  have HBB := Lib.hid hb
  have HLL := Lib.hid hL
  have HIN := Lib.hid hin
  clear hb hL hin hb2 hm0 hba
  go_wp2_with fail
  go_loopw [21] (fun s21 wr => ∃ (k n : Nat) (C : List (List UInt8)), s21 = .int .i64 k ∧ k ≤ L.length ∧ n ≤ 1024 * k ∧ Mp wr b n (cF C) ∧ (∀ x, x ∈ C ↔ SrcOf r (fun i => i ∈ L.take k) x) ∧ Kp b w2 wr) (fun s21 _ => L.length - (intOf s21).toNat)
  case atStart => exact ⟨0, 0, [], rfl, Nat.zero_le _, Nat.zero_le _, HM2.out, fun x => ⟨fun h => (by cases h), fun ⟨i, _, _, h, _⟩ => by simp at h⟩, Kp.refl _ _⟩
  case round =>
    obtain ⟨k, n, C, rfl, hk, hn, hmp, hC, hkp⟩ := hrel
    have HC := Lib.hid hC
    clear hC
    have hb1w : Below w1.heap.size w1 wr := HB2.out.trans (hkp.below (by rw [HBB.out]; exact Nat.le_refl _) HB2.out.size)
    have hbw : Below w.heap.size w wr := HB1.out.trans (hb1w.mono HB1.out.size)
    by_cases hlt : k < L.length
    · have c1 : decide ((k : Int) < (L.length : Int)) = true := decide_eq_true (by omega)
      have c1n : decide (k < L.length) = true := decide_eq_true hlt
      have y1 : (k : Int) < (L.length : Int) := by omega
      obtain ⟨gL, oL, rfl, hgL, hcL⟩ := in_cell HIN.out (show k < (Rc.nats L).length by rw [Rc.nats_len]; exact hlt)
      rw [show (Rc.nats L)[k]'(by rw [Rc.nats_len]; exact hlt) = ((L[k] : Nat) : Int) by unfold Rc.nats; rw [List.getElem_map]] at hcL
      have hdL : wr.cell? ⟨gL, oL + k, none⟩ = some (.int .i64 ((L[k] : Nat) : Int)) := by
        rw [World.cell?_of_block (w := w2) (a := ⟨gL, oL + k, none⟩) (hkp.block gL hgL (ne_of_cell HM2.out hcL))]
        exact hcL
      have hned := (HLL.out.2 L[k]).1 (List.getElem_mem hlt)
      obtain ⟨hch, hir⟩ := ned_lt hned
      have HTK := Lib.hid (show L.take (k + 1) = L.take k ++ [L[k]] from List.take_succ_eq_append_getElem hlt)
      generalize L[k] = i at *
      have y2 : (i : Int) < (r.length : Int) := by omega
      have hxz := Rc.head_len (Rc.zero_step ((Rc.zero_chk hch).2 i hir)).1
      have HSS := Lib.hid (HS.out (Rc.zero_chk hch).1)
      obtain ⟨g0, o, rfl, hg, hcr⟩ := HA.out.st i hir
      obtain ⟨g1, o1, hxA, hg1, hc1⟩ := (HA.out.rd r[i] (List.getElem_mem hir)).row hxz.1
      have HC1 := Lib.hid hc1
      have hd3 := (hbw.cell (p := ⟨g0, o + i * 6 + 3, none⟩) hg).trans (hcr 3 _ rfl)
      rw [hxA] at hd3
      have HX := Lib.hid (show r[i]? = some r[i] from List.getElem?_eq_getElem hir)
      have HSP := Lib.hid (show ∀ t ∈ r[i].rds, t.pth.length ≤ 100000000 from fun t ht => HSS.out.p r[i] (List.getElem_mem hir) t (List.mem_append_left _ ht))
      clear hxA hc1 hcr hned hch hcL
      generalize r[i] = x at *
      have HB1W := Lib.hid hb1w
      have HBW := Lib.hid hbw
      have HKP := Lib.hid hkp
      clear hb1w hbw hkp
      go_wp2_with fail
      clear hd3 hdL
      obtain ⟨w00, hw00⟩ : ∃ x : World, x = wr := ⟨wr, rfl⟩
      subst hw00
      go_loopw [31] (fun s31 wr => ∃ (j m : Nat) (E : List (List UInt8)), s31 = .int .i64 j ∧ j ≤ x.rds.length ∧ m ≤ 1024 * k + j ∧ Mp wr b m (cF E) ∧ (∀ y, y ∈ E ↔ (y ∈ C ∨ ∃ t ∈ x.rds.take j, t.pth = y ∧ Rc.wr0 r y = none)) ∧ Kp b w2 wr) (fun s31 _ => x.rds.length - (intOf s31).toNat)
      case atStart => exact ⟨0, n, C, rfl, Nat.zero_le _, by omega, hmp, fun y => by simp, HKP.out⟩
      case round =>
        clear hmp
        obtain ⟨j, m, E, rfl, hj, hm, hmp, hE, hkp⟩ := hrel
        have HE := Lib.hid hE
        clear hE
        have hb1w : Below w1.heap.size w1 wr := HB2.out.trans (hkp.below (by rw [HBB.out]; exact Nat.le_refl _) HB2.out.size)
        have hbw : Below w.heap.size w wr := HB1.out.trans (hb1w.mono HB1.out.size)
        by_cases hlj : j < x.rds.length
        · have d1 : decide ((j : Int) < (x.rds.length : Int)) = true := decide_eq_true (by omega)
          have d1n : decide (j < x.rds.length) = true := decide_eq_true hlj
          have y4 : (j : Int) < (x.rds.length : Int) := by omega
          have hd0 := (hbw.cell (p := ⟨g1, o1 + j * 2 + 0, none⟩) hg1).trans (HC1.out j hlj 0 _ rfl)
          have hd1 := (hbw.cell (p := ⟨g1, o1 + j * 2 + 1, none⟩) hg1).trans (HC1.out j hlj 1 _ rfl)
          rw [show o1 + j * 2 + 0 = o1 + j * 2 from rfl] at hd0
          have hPt := HSP.out x.rds[j] (List.getElem_mem hlj)
          have HTJ := Lib.hid (show x.rds.take (j + 1) = x.rds.take j ++ [x.rds[j]] from List.take_succ_eq_append_getElem hlj)
          generalize x.rds[j] = t at *
          have hbx : Below wr.heap.size wr (wr.alloc (tcO t)) := (Below.refl _ _).alloc (Nat.le_refl _) _
          have hl := HV.out (wr.alloc (tcO t)) (hb1w.trans (hbx.mono hb1w.size)) t.pth (Nat.le_trans hPt (by unfold maxLen; omega))
          have hMA := hmp.next hbx
          have HKA := Lib.hid (hkp.trans (Kp.of_below (b := b) hbx))
          clear hmp hkp hb1w hbw hbx
          cases hq : Rc.wr0 r t.pth with
          | some q =>
            rw [hq] at hl
            rw [show ((Option.getD (some q : Option Nat) 0 : Nat) : Int) = (q : Int) from rfl, show (some q).isSome = true from rfl] at hl
            have HE2 := Lib.hid (show ∀ y, y ∈ E ↔ (y ∈ C ∨ ∃ t ∈ x.rds.take (j + 1), t.pth = y ∧ Rc.wr0 r y = none) from fun y => by
              rw [HE.out y, HTJ.out]
              refine or_congr Iff.rfl ⟨fun ⟨u, hu, h⟩ => ⟨u, List.mem_append_left _ hu, h⟩, fun ⟨u, hu, h1, h2⟩ => ?_⟩
              rcases List.mem_append.1 hu with h3 | h3
              · exact ⟨u, h3, h1, h2⟩
              · rw [List.mem_singleton.1 h3] at h1
                rw [← h1, hq] at h2; cases h2)
            have HMA := Lib.hid hMA
            clear hq hMA
            go_wp2_with fail
            go_roundw
            case rel => exact ⟨j + 1, m, E, by go_num, by omega, by omega, HMA.out, HE2.out, HKA.out⟩
            case measure => simp [intOf]; omega
          | none =>
            rw [hq] at hl
            rw [show ((Option.getD (none : Option Nat) 0 : Nat) : Int) = 0 from rfl, show (none : Option Nat).isSome = false from rfl] at hl
            obtain ⟨w5, hrun, hMp, hg5⟩ := hMA.store Tryz.underlying91 (by unfold maxLen; omega) t.pth (by unfold maxLen; omega) (.bool true)
            have HM5 := Lib.hid (show Mp w5 b (m + 1) (cF (E ++ [t.pth])) by rw [cF_app]; exact hMp)
            have HK5 := Lib.hid (HKA.out.trans (Kp.of_grown hg5))
            have HE2 := Lib.hid (show ∀ y, y ∈ E ++ [t.pth] ↔ (y ∈ C ∨ ∃ t ∈ x.rds.take (j + 1), t.pth = y ∧ Rc.wr0 r y = none) from fun y => by
              rw [List.mem_append, HE.out y, HTJ.out, List.mem_singleton]
              constructor
              · rintro ((h | ⟨u, hu, h⟩) | h)
                · exact .inl h
                · exact .inr ⟨u, List.mem_append_left _ hu, h⟩
                · subst h; exact .inr ⟨t, List.mem_append_right _ (List.mem_singleton.2 rfl), rfl, hq⟩
              · rintro (h | ⟨u, hu, h1, h2⟩)
                · exact .inl (.inl h)
                · rcases List.mem_append.1 hu with h3 | h3
                  · exact .inl (.inr ⟨u, h3, h1, h2⟩)
                  · rw [List.mem_singleton.1 h3] at h1; exact .inr h1.symm)
            clear hq hMA hMp hg5
            go_wp2_with fail
            go_roundw
            case rel => exact ⟨j + 1, m + 1, _, by go_num, by omega, by omega, HM5.out, HE2.out, HK5.out⟩
            case measure => simp [intOf]; omega
        · have d1 : decide ((j : Int) < (x.rds.length : Int)) = false := decide_eq_false (by omega)
          have d1n : decide (j < x.rds.length) = false := decide_eq_false hlj
          have HC2 := Lib.hid (show ∀ y, y ∈ E ↔ SrcOf r (fun i => i ∈ L.take (k + 1)) y from fun y => by
            have h0 := HE.out y
            rw [List.take_of_length_le (by omega)] at h0
            rw [h0, HC.out y, HTK.out]
            constructor
            · rintro (⟨i', s, t, h1, h2⟩ | ⟨t, ht, h1, h2⟩)
              · exact ⟨i', s, t, List.mem_append_left _ h1, h2⟩
              · exact ⟨i, x, t, List.mem_append_right _ (List.mem_singleton.2 rfl), HX.out, ht, h1, h2⟩
            · rintro ⟨i', s, t, h1, h2, h3, h4⟩
              rcases List.mem_append.1 h1 with h5 | h5
              · exact .inl ⟨i', s, t, h5, h2, h3, h4⟩
              · rw [List.mem_singleton.1 h5, HX.out] at h2
                cases h2
                exact .inr ⟨t, h3, h4⟩)
          have HM6 := Lib.hid hmp
          have HK6 := Lib.hid hkp
          clear hmp hkp hb1w hbw
          go_wp2_with fail
          go_roundw
          case rel => exact ⟨k + 1, m, E, by go_num, by omega, by omega, HM6.out, HC2.out, HK6.out⟩
          case measure => simp [intOf]; omega
    · have c1 : decide ((k : Int) < (L.length : Int)) = false := decide_eq_false (by omega)
      have c1n : decide (k < L.length) = false := decide_eq_false hlt
      have HCC := Lib.hid (show ∀ x, x ∈ C ↔ SrcOf r (Rc.Ned r p) x from fun x => by
        rw [HC.out x, List.take_of_length_le (by omega)]
        exact ⟨fun ⟨i, s, t, h1, h2⟩ => ⟨i, s, t, (HLL.out.2 i).1 h1, h2⟩, fun ⟨i, s, t, h1, h2⟩ => ⟨i, s, t, (HLL.out.2 i).2 h1, h2⟩⟩)
      have ck := HK1.out (some b) wr
      have cs := HSK.out b n C wr hmp (by omega)
      have HBW := Lib.hid hbw
      clear hmp hkp hb1w hbw
      go_wp2_with fail
      with_reducible refine ck.mono ?_
      clear ck
      rintro e w6 ⟨rfl, rfl⟩
      go_wp2_with fail
      with_reducible refine cs.mono ?_
      clear cs
      rintro e w7 ⟨Lo, A7, c7, rfl, ⟨h1, h2, h3⟩, hlen, hst, hb7⟩
      have HR := Lib.hid (show SrcL r p Lo from ⟨h1, h2, fun x => (h3 x).trans (HCC.out x)⟩)
      have HST := Lib.hid hst
      have HB7 := Lib.hid (show Below w.heap.size w w7 from (HBW.out.alloc HBW.out.size _).trans (hb7.mono (HBW.out.alloc HBW.out.size _).size))
      clear h1 h2 h3 hst hb7
      go_wp2_with fail
      go_ret
      exact ⟨Lo, A7, c7, rfl, HR.out, hlen, HST.out, HB7.out⟩
end Go.Proofs.YtjemffgidhgfjaaGreatDoor.Rk
