/- Sources of the reference. No condition but the lengths. -/
import Derived.Test.YtkgnbjhgdjmfdaaDoorQnd
import Derived.Test.YtkgnbjhgdjmfdaaDoorQin
import Derived.Test.YtkgnbjhgdjmfdaaDoorKey
namespace Go.Proofs.YtkgnbjhgdjmfdaaDoor
open Go.RowKit Go.Deep Go.Maps Tr

/-- x is a file that a needed step before step i has read, or one of the first k that step i has read, and nobody writes it. -/
def SrcI (r : List Dn) (D : Nat → Prop) (i : Nat) (ts : List Tch) (x : List UInt8) : Prop := SrcOf r (fun j => j < i ∧ D j) x ∨ ∃ t ∈ ts, t.pth = x ∧ Rc.wr0 r x = none
theorem SrcI.next {r : List Dn} {D : Nat → Prop} {i : Nat} {s : Dn} (hs : r[i]? = some s) (hD : D i) (x : List UInt8) : SrcI r D i s.rds x ↔ SrcOf r (fun j => j < i + 1 ∧ D j) x := by
  constructor
  · rintro (⟨j, s', t, ⟨h1, h2⟩, h3⟩ | ⟨t, ht, h1, h2⟩)
    · exact ⟨j, s', t, ⟨by omega, h2⟩, h3⟩
    · exact ⟨i, s, t, ⟨by omega, hD⟩, hs, ht, h1, h2⟩
  · rintro ⟨j, s', t, ⟨h1, h2⟩, h3, h4, h5, h6⟩
    by_cases e : j = i
    · subst e
      rw [hs] at h3; cases h3
      exact .inr ⟨t, h4, h5, h6⟩
    · exact .inl ⟨j, s', t, ⟨by omega, h2⟩, h3, h4, h5, h6⟩
theorem SrcOf.skip {r : List Dn} {D : Nat → Prop} {i : Nat} (hD : ¬ D i) (x : List UInt8) : SrcOf r (fun j => j < i) x ∧ False ∨ SrcOf r (fun j => j < i ∧ D j) x ↔ SrcOf r (fun j => j < i + 1 ∧ D j) x := by
  constructor
  · rintro (⟨_, h⟩ | ⟨j, s', t, ⟨h1, h2⟩, h3⟩)
    · exact h.elim
    · exact ⟨j, s', t, ⟨by omega, h2⟩, h3⟩
  · rintro ⟨j, s', t, ⟨h1, h2⟩, h3⟩
    by_cases e : j = i
    · subst e; exact absurd h2 hD
    · exact .inr ⟨j, s', t, ⟨by omega, h2⟩, h3⟩
theorem asc_srt {L : List (List UInt8)} (h : Rc.Asc L) : L.Pairwise (fun a b => leB a b = true) ∧ L.Nodup := by
  refine ⟨h.imp fun {a b} hab => ?_, h.imp fun {a b} hab => Tre.bl_ne hab⟩
  rw [bytesLess_eq, decide_eq_true_eq] at hab
  simp only [leB, decide_eq_true_eq]
  exact List.le_of_lt hab
set_option maxHeartbeats 8000000 in
set_option maxRecDepth 100000 in
theorem qsources_any (r : List Dn) (p : List UInt8) (A : Option Addr) (c : Nat) (w : World) (hA : RcAt w A r) (hS : r.length ≤ 1024 → Sht r) :
    Calls Tryd.prog 18 #[.slice A r.length c, .string (str p)] w (GotT w (SrcL r p)) := by
  have HA := Lib.hid hA
  have hb0 : Below w.heap.size w (w.alloc (.cells #[] 9)) := (Below.refl _ _).alloc (Nat.le_refl _) _
  have cc := qcheck_any r A c (w.alloc (.cells #[] 9)) (hA.next hb0) hS
  have HB0 := Lib.hid hb0
  by_cases hz : Rc.chk r = 0
  · rw [hz] at cc
    have HZ := Lib.hid hz
    have hL := (Rc.zero_chk hz).1
    have HFW := Lib.hid (Rc.fw_wrI hz)
    have HZR := Lib.hid (show ∀ i (h : i < r.length), 0 < r[i].rds.length ∧ r[i].rds.length ≤ 1024 from fun i h => Rc.head_len (Rc.zero_step ((Rc.zero_chk hz).2 i h)).1)
    clear hA hS hz hb0
    obtain ⟨b0, hbz⟩ : ∃ b0, b0 = w.heap.size := ⟨_, rfl⟩
    have HBZ := Lib.hid hbz
    go_enter Tryd.func18, Tryd.ntmps18
    go_upto_region 2 with (fail)
    rw [← hbz]
    clear hbz
    go_wp2_with fail
    with_reducible refine cc.mono ?_
    clear cc
    rintro e w1 ⟨rfl, hb1⟩
    have HB1 := Lib.hid (HB0.out.trans (hb1.mono HB0.out.size))
    clear hb1 HB0
    have cc := qmarks_any r p A c w1 (HA.out.next HB1.out) HZ.out
    go_wp2_with fail
    with_reducible refine cc.mono ?_
    clear cc
    rintro e w2 ⟨g, M, rfl, hM, hg, hrow, hb2⟩
    have HB2 := Lib.hid (HB1.out.trans (hb2.mono HB1.out.size))
    have HRW := Lib.hid hrow
    have HM := Lib.hid hM
    clear hb2 hrow hM HB1
    go_wp2_with fail
    go_loopw [5, 7] (fun s5 s7 wr => ∃ (i gl ol cl : Nat) (L : List (List UInt8)), s7 = .int .i64 i ∧ i ≤ r.length ∧ s5 = .slice (some ⟨gl, ol, none⟩) L.length cl ∧ L.length ≤ cl ∧ cl ≤ maxLen ∧ L.length ≤ 1024 * i ∧ Rc.StAt wr wr.heap.size (some ⟨gl, ol, none⟩) L ∧ Rc.Asc L ∧ (∀ x, x ∈ L ↔ SrcOf r (fun j => j < i ∧ Rc.Ned r p j) x) ∧ wr.rowIs g 4 r.length (fun m => .bool (M m)) ∧ Below w.heap.size w wr) (fun _ s7 _ => r.length - (intOf s7).toNat)
    case atStart => exact ⟨0, b0, 0, 0, [], rfl, Nat.zero_le _, rfl, Nat.le_refl _, Nat.zero_le _, Nat.zero_le _, Rc.ElAt.nil _ _ _ _ _, List.Pairwise.nil, fun x => ⟨fun h => (by cases h), fun ⟨_, _, _, h, _⟩ => by omega⟩, HRW.out, HB2.out⟩
    case round =>
      clear HRW HB2
      obtain ⟨w00, hw00⟩ : ∃ x : World, x = wr := ⟨wr, rfl⟩
      subst hw00
      obtain ⟨i, gl, ol, cl, L, rfl, hi, rfl, hlc, hcm, hll, hst, hasc, hmem, hrow, hb⟩ := hrel
      have HST := Lib.hid hst
      have HAS := Lib.hid hasc
      have HME := Lib.hid hmem
      have HR := Lib.hid hrow
      have HB := Lib.hid hb
      have HCM := Lib.hid hcm
      clear hst hasc hmem hcm
      by_cases hlt : i < r.length
      · have c1 : decide ((i : Int) < (r.length : Int)) = true := decide_eq_true (by omega)
        have c1n : decide (i < r.length) = true := decide_eq_true hlt
        have y1 : (i : Int) < (r.length : Int) := by omega
        have e1 := hrow.cell hlt
        have HMI := Lib.hid (HM.out i hlt)
        have hxz := HZR.out i hlt
        obtain ⟨g0, o, rfl, hg0, hc⟩ := HA.out.st i hlt
        have hd3w := hc 3 _ rfl
        have HX := Lib.hid (show r[i]? = some r[i] from List.getElem?_eq_getElem hlt)
        obtain ⟨g1, o1, hxA, hg1, hc1⟩ := (HA.out.rd r[i] (List.getElem_mem hlt)).row hxz.1
        have HC1 := Lib.hid hc1
        rw [hxA] at hd3w
        clear hxA hc1 hc
        generalize r[i] = x at *
        clear hrow
        cases hm : M i with
        | false =>
          rw [hm] at e1
          have HN := Lib.hid (show ∀ x, x ∈ L ↔ SrcOf r (fun j => j < i + 1 ∧ Rc.Ned r p j) x from fun x => by
            have hD : ¬ Rc.Ned r p i := fun h => by have := HMI.out.2 h; rw [hm] at this; cases this
            rw [HME.out x, ← SrcOf.skip hD x]
            exact ⟨.inr, fun h => h.elim (fun h => h.2.elim) id⟩)
          clear hm hb
          go_wp2_with fail
          obtain ⟨u0, hu0⟩ : ∃ u : Nat, u = 0 := ⟨_, rfl⟩
          go_loopw [5, 8] (fun s5 s8 wr => s5 = .slice (some ⟨gl, ol, none⟩) L.length cl ∧ s8 = .int .i64 (0 : Int) ∧ wr = w00) (fun _ s8 _ => u0)
          case atStart => exact ⟨rfl, rfl, rfl⟩
          case round =>
            obtain ⟨rfl, rfl, rfl⟩ := hrel
            go_wp2_with fail
            go_roundw
            case rel => exact ⟨i + 1, gl, ol, cl, L, by go_num, by omega, rfl, hlc, HCM.out, by omega, HST.out, HAS.out, HN.out, HR.out, HB.out⟩
            case measure => simp [intOf]; omega
        | true =>
          have HD := Lib.hid (HMI.out.1 hm)
          have HMT := Lib.hid hm
          clear hm hb e1
          go_wp2_with fail
          go_loopw [5, 8] (fun s5 s8 wr => ∃ (j gl ol cl : Nat) (L : List (List UInt8)), s8 = .int .i64 j ∧ j ≤ x.rds.length ∧ s5 = .slice (some ⟨gl, ol, none⟩) L.length cl ∧ L.length ≤ cl ∧ cl ≤ maxLen ∧ L.length ≤ 1024 * i + j ∧ Rc.StAt wr wr.heap.size (some ⟨gl, ol, none⟩) L ∧ Rc.Asc L ∧ (∀ y, y ∈ L ↔ SrcI r (Rc.Ned r p) i (x.rds.take j) y) ∧ wr.rowIs g 4 r.length (fun m => .bool (M m)) ∧ Below w.heap.size w wr) (fun _ s8 _ => x.rds.length - (intOf s8).toNat)
          case atStart => exact ⟨0, gl, ol, cl, L, rfl, Nat.zero_le _, rfl, hlc, HCM.out, by omega, HST.out, HAS.out, fun y => by
            rw [HME.out y]
            exact ⟨.inl, fun h => h.elim id fun ⟨t, ht, _⟩ => (by cases ht)⟩, HR.out, HB.out⟩
          case round =>
            clear HST HAS HME HR HB HCM hll hlc
            obtain ⟨j, gl, ol, cl, L, rfl, hj, rfl, hlc, hcm, hll, hst, hasc, hmem, hrow, hb⟩ := hrel
            have HST := Lib.hid hst
            have HAS := Lib.hid hasc
            have HME := Lib.hid hmem
            have HR := Lib.hid hrow
            have HB := Lib.hid hb
            have HCM := Lib.hid hcm
            have e1 := hrow.cell hlt
            rw [HMT.out] at e1
            have hd3 := (hb.cell (p := ⟨g0, o + i * 6 + 3, none⟩) hg0).trans hd3w
            clear hst hasc hmem hcm hrow
            by_cases hlj : j < x.rds.length
            · have b3 : decide ((j : Int) < (x.rds.length : Int)) = true := decide_eq_true (by omega)
              have b3n : decide (j < x.rds.length) = true := decide_eq_true hlj
              have y4 : (j : Int) < (x.rds.length : Int) := by omega
              have hd0 := (hb.cell (p := ⟨g1, o1 + j * 2 + 0, none⟩) hg1).trans (HC1.out j hlj 0 _ rfl)
              rw [show o1 + j * 2 + 0 = o1 + j * 2 from rfl] at hd0
              have HTJ := Lib.hid (show x.rds.take (j + 1) = x.rds.take j ++ [x.rds[j]] from List.take_succ_eq_append_getElem hlj)
              generalize x.rds[j] = t at *
              have cc := qwrote_any r t.pth (some ⟨g0, o, none⟩) c wr (HA.out.next hb)
              have HW1 := Lib.hid (show Rc.fw r t.pth = Rc.wrI r t.pth from HFW.out t.pth)
              clear hb
              cases hq : Rc.wr0 r t.pth with
              | none =>
                have e2 : Rc.fw r t.pth = -1 := by rw [HW1.out]; unfold Rc.wrI; rw [hq]
                rw [e2] at cc
                have HM2 := Lib.hid (show ∀ L2 : List (List UInt8), (∀ y, y ∈ L2 ↔ y ∈ L ∨ y = t.pth) → ∀ y, y ∈ L2 ↔ SrcI r (Rc.Ned r p) i (x.rds.take (j + 1)) y from fun (L2 : List (List UInt8)) h2 y => by
                  rw [h2 y, HME.out y, HTJ.out]
                  constructor
                  · rintro ((h | ⟨u, hu, h⟩) | rfl)
                    · exact .inl h
                    · exact .inr ⟨u, List.mem_append_left _ hu, h⟩
                    · exact .inr ⟨t, List.mem_append_right _ (List.mem_singleton.2 rfl), rfl, hq⟩
                  · rintro (h | ⟨u, hu, h⟩)
                    · exact .inl (.inl h)
                    · rcases List.mem_append.1 hu with h1 | h1
                      · exact .inl (.inr ⟨u, h1, h⟩)
                      · rw [List.mem_singleton.1 h1] at h; exact .inr h.1.symm)
                have ci := qinsert_any L t.pth gl ol cl wr HST.out (by omega) (by omega) hlc HCM.out
                clear hq e2 HTJ
                go_wp2_with fail
                with_reducible refine cc.mono ?_
                clear cc
                rintro e w5 ⟨rfl, rfl⟩
                go_wp2_with fail
                with_reducible refine ci.mono ?_
                clear ci
                rintro e w6 ⟨L2, g2, o2, c2, rfl, hP, hlc2, hcm2, hst2, hb6⟩
                obtain ⟨h21, h22, h23⟩ := hP.asc HAS.out
                have HN := Lib.hid (HM2.out L2 h22)
                have HA2 := Lib.hid h21
                have HS2 := Lib.hid hst2
                have HC2 := Lib.hid hcm2
                have HR2 := Lib.hid (HR.out.of_block (hb6.block g HR.out.lt))
                have HB2 := Lib.hid (HB.out.trans (hb6.mono HB.out.size))
                clear hP hst2 hb6 h21 h22 hcm2 HM2 e1 hd3 hd0
                go_wp2_with fail
                go_roundw
                case rel => exact ⟨j + 1, g2, o2, c2, L2, by go_num, by omega, rfl, hlc2, HC2.out, by omega, HS2.out, HA2.out, HN.out, HR2.out, HB2.out⟩
                case measure => simp [intOf]; omega
              | some n =>
                have e2 : Rc.fw r t.pth = (n : Int) := by rw [HW1.out]; unfold Rc.wrI; rw [hq]
                rw [e2] at cc
                have HN := Lib.hid (show ∀ y, y ∈ L ↔ SrcI r (Rc.Ned r p) i (x.rds.take (j + 1)) y from fun y => by
                  rw [HME.out y, HTJ.out]
                  refine or_congr Iff.rfl ⟨fun ⟨u, hu, h⟩ => ⟨u, List.mem_append_left _ hu, h⟩, fun ⟨u, hu, h⟩ => ?_⟩
                  rcases List.mem_append.1 hu with h1 | h1
                  · exact ⟨u, h1, h⟩
                  · rw [List.mem_singleton.1 h1] at h
                    obtain ⟨rfl, h⟩ := h
                    rw [hq] at h; cases h)
                have z5 : decide ((n : Int) < 0) = false := decide_eq_false (by omega)
                clear hq e2 HTJ
                go_wp2_with fail
                with_reducible refine cc.mono ?_
                clear cc
                rintro e w5 ⟨rfl, rfl⟩
                go_wp2_with fail
                go_roundw
                case rel => exact ⟨j + 1, gl, ol, cl, L, by go_num, by omega, rfl, hlc, HCM.out, by omega, HST.out, HAS.out, HN.out, HR.out, HB.out⟩
                case measure => simp [intOf]; omega
            · have b3 : decide ((j : Int) < (x.rds.length : Int)) = false := decide_eq_false (by omega)
              have b3n : decide (j < x.rds.length) = false := decide_eq_false hlj
              have HN := Lib.hid (show ∀ y, y ∈ L ↔ SrcOf r (fun j => j < i + 1 ∧ Rc.Ned r p j) y from fun y => by
                rw [HME.out y, List.take_of_length_le (by omega), SrcI.next HX.out HD.out])
              have hjl : L.length ≤ 1024 * (i + 1) := by omega
              clear hb hll
              go_wp2_with fail
              go_roundw
              case rel => exact ⟨i + 1, gl, ol, cl, L, by go_num, by omega, rfl, hlc, HCM.out, hjl, HST.out, HAS.out, HN.out, HR.out, HB.out⟩
              case measure => simp [intOf]; omega
      · have c1 : decide ((i : Int) < (r.length : Int)) = false := decide_eq_false (by omega)
        have c1n : decide (i < r.length) = false := decide_eq_false hlt
        have HT := Lib.hid (show SrcL r p L from ⟨(asc_srt HAS.out).1, (asc_srt HAS.out).2, fun x => by
          rw [HME.out x]
          exact ⟨fun ⟨j, s, t, ⟨_, h1⟩, h2⟩ => ⟨j, s, t, h1, h2⟩, fun ⟨j, s, t, h1, h2⟩ => ⟨j, s, t, ⟨by have := (ned_lt h1).2; omega, h1⟩, h2⟩⟩⟩)
        clear hrow hb
        go_wp2_with fail
        first | go_ret3 | go_ret2 | go_ret
        exact ⟨L, _, cl, rfl, HT.out, by omega, HST.out, HB.out⟩
  · have HV := Lib.hid (show SrcL r p [] from ⟨List.Pairwise.nil, List.nodup_nil, fun x => ⟨fun h => (by cases h), fun ⟨i, _, _, h, _⟩ => (Rc.ned_none (Rc.wr0_bad hz p) h).elim⟩⟩)
    generalize hce : Rc.chk r = ce at *
    have z1 : (ce != 0) = true := by rw [bne_iff_ne]; exact hz
    have z2 : (ce == 0) = false := by rw [beq_eq_false_iff_ne]; exact hz
    clear hA hS hz hce hb0
    go_enter Tryd.func18, Tryd.ntmps18
    go_wp2_with fail
    with_reducible refine cc.mono ?_
    clear cc
    rintro e w1 ⟨rfl, hb1⟩
    have HB := Lib.hid (HB0.out.trans (hb1.mono HB0.out.size))
    clear hb1
    go_wp2_with fail
    first | go_ret3 | go_ret2 | go_ret
    exact ⟨[], some ⟨w.heap.size, 0, none⟩, 0, rfl, HV.out, by simp, Rc.ElAt.nil _ _ _ _ _, HB.out⟩
end Go.Proofs.YtkgnbjhgdjmfdaaDoor
