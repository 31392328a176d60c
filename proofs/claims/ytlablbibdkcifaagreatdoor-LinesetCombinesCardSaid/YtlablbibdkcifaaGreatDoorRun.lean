/- part, Join, Union, Meet, Minus of the reference. No condition but lengths. -/
import Derived.Test.YtlablbibdkcifaaGreatDoorRmg
import Derived.Test.YtlablbibdkcifaaGreatDoorRpk
import Derived.Test.YtlablbibdkcifaaGreatDoorRhs
import Derived.Test.YtlablbibdkcifaaGreatDoorUni
namespace Go.Proofs.YtlablbibdkcifaaGreatDoor
open Go.RowKit Go.Deep Tr

namespace Ls
/-- The lines of a set that are, or are not, in another one. -/
def prtL (a b : List Sp) (inb : Bool) : List Ln := (lns a).filter fun x => hasV b x.1 x.2 == inb
theorem prtL_at (L : List Ln) (q : Ln → Bool) (k : Nat) (h : k < L.length) : (L.take (k + 1)).filter q = if q L[k] = true then (L.take k).filter q ++ [L[k]] else (L.take k).filter q := by
  rw [List.take_succ_eq_append_getElem h, List.filter_append]
  by_cases hq : q L[k] = true
  · rw [if_pos hq]; simp [hq]
  · rw [if_neg hq]; simp [hq]
theorem lns_ok {l : List Sp} (hv : vld l = true) : Srt (lns l) ∧ (∀ x ∈ lns l, 0 ≤ x.2 ∧ x.2 < 1024) ∧ (lns l).length ≤ 1024 * l.length := by
  have h := (vld_iff l).1 hv
  refine ⟨srt_lns h.apart, fun x hx => ?_, lns_len l fun s hs => by have := h.each s hs; omega⟩
  obtain ⟨s, hs, _, h1, h2⟩ := has_iff.1 ((mem_lns l x.1 x.2).1 hx)
  have := h.each s hs
  omega
theorem list_lns {l : List Sp} (hv : vld l = true) : list l = lns l := if_pos hv
end Ls
set_option maxHeartbeats 8000000 in
set_option maxRecDepth 100000 in
theorem qpartL_any (a b : List Ls.Sp) (inb : Bool) (A A' : Option Addr) (c c' : Nat) (w : World) (hA : SetAt w A a) (hB : SetAt w A' b) (hla : a.length ≤ 1000) (hlb : b.length ≤ 1000) (hva : Ls.vld a = true) :
    Calls Tryz.prog 35 #[.slice A a.length c, .slice A' b.length c', .bool inb] w (GotSp w w.heap.size (Ls.pack (Ls.prtL a b inb))) := by
  obtain ⟨iln, hiln, hz0, hz1, hz2⟩ := info_parts infoLn
  have hli := qlist_any a A c w hA.at_ hla hA.path
  rw [Ls.list_lns hva] at hli
  have HOK := Lib.hid (Ls.lns_ok hva)
  have hll := (Ls.lns_ok hva).2.2
  have HPD := Lib.hid (show Ls.prtL a b inb = (Ls.lns a).filter fun x => Ls.hasV b x.1 x.2 == inb from rfl)
  generalize Ls.prtL a b inb = P at *
  have HBB := Lib.hid hB
  generalize Ls.lns a = L at *
  clear hA hB hva
  go_enter Tryz.func35, Tryz.ntmps35
  go_wp2_with fail
  with_reducible refine hli.mono ?_
  clear hli
  rintro e w1 ⟨v, rfl, hown1, hb1⟩
  obtain ⟨A1, c1, rfl, _, _, hL1⟩ := Ls.own_el Ls.lnV 2 Ls.lnV_len hown1
  have HL1 := Lib.hid hL1
  have HB1 := Lib.hid hb1
  have HB2 := Lib.hid (HBB.out.next hb1)
  have HO0 := Lib.hid (own_emptyL w1 w1.heap.size (Nat.le_refl _) 44 2)
  have HBE := Lib.hid (show Below w1.heap.size w1 (w1.alloc (.cells #[] 44)) from (Below.refl _ _).alloc (Nat.le_refl _) _)
  clear hown1 hb1 hL1
  go_wp2_with fail
  go_loopw [8, 9] (fun s8 s9 wr => ∃ k : Nat, s9 = .int .i64 k ∧ k ≤ L.length ∧ wr.ownsRow w1.heap.size 44 2 s8 ((L.take k).filter fun x => Ls.hasV b x.1 x.2 == inb).length (Ls.lnsV ((L.take k).filter fun x => Ls.hasV b x.1 x.2 == inb)) ∧ Below w1.heap.size w1 wr) (fun _ s9 _ => L.length - (intOf s9).toNat)
  case atStart => exact ⟨0, rfl, by omega, HO0.out, HBE.out⟩
  case round =>
    clear HO0 HBE
    obtain ⟨k, rfl, hk, hown, hb⟩ := hrel
    by_cases hlt : k < L.length
    · have b1 : decide ((k : Int) < (L.length : Int)) = true := decide_eq_true (by omega)
      have b1n : decide (k < L.length) = true := decide_eq_true hlt
      have y3 : (k : Int) < (L.length : Int) := by omega
      obtain ⟨g, o, rfl, hg, hc⟩ := HL1.out k hlt
      have HT := Lib.hid (Ls.prtL_at L (fun x => Ls.hasV b x.1 x.2 == inb) k hlt)
      have hfl : ((L.take k).filter fun x => Ls.hasV b x.1 x.2 == inb).length ≤ k := Nat.le_trans (List.length_filter_le _ _) (by rw [List.length_take]; omega)
      have hc0 := hc 0 _ rfl
      have hc1 := hc 1 _ rfl
      rw [Nat.add_zero] at hc0
      clear hc
      generalize L[k] = x at *
      have HX := Lib.hid (fun (w5 : World) (h5 : Below w1.heap.size w1 w5) => (show w5.cell? ⟨g, o + k * 2, none⟩ = some (.string (str x.1)) ∧ w5.cell? ⟨g, o + k * 2 + 1, none⟩ = some (.int .i64 x.2) from ⟨(h5.cell (p := ⟨g, o + k * 2, none⟩) hg).trans hc0, (h5.cell (p := ⟨g, o + k * 2 + 1, none⟩) hg).trans hc1⟩))
      clear hc0 hc1
      have HT2 := Lib.hid (show ((L.take (k + 1)).filter fun x => Ls.hasV b x.1 x.2 == inb) = if (Ls.hasV b x.1 x.2 == inb) = true then ((L.take k).filter fun x => Ls.hasV b x.1 x.2 == inb) ++ [x] else ((L.take k).filter fun x => Ls.hasV b x.1 x.2 == inb) from HT.out)
      clear HT
      generalize ((L.take k).filter fun x => Ls.hasV b x.1 x.2 == inb) = O at *
      have d0 := (HX.out wr hb).1
      have d1 := (HX.out wr hb).2
      have hS := HB2.out.next (w' := wr) (hb.mono (Nat.le_refl _))
      have cc := qhas_any b x.1 x.2 A' c' wr hS.at_ (by omega) hS.path
      generalize Ls.hasV b x.1 x.2 = hv at *
      clear hS
      go_wp2_with fail
      with_reducible refine cc.mono ?_
      clear cc
      rintro e w5 ⟨rfl, hb5⟩
      have hbX := hb.trans (hb5.mono hb.size)
      have hoX := own_below hown hb5
      clear hb hb5 hown d0 d1
      have d0 := (HX.out w5 hbX).1
      have d1 := (HX.out w5 hbX).2
      have hwX := hbX.size
      obtain ⟨A3, c3, rfl, hc3, hm3, _⟩ := Ls.own_el Ls.lnV 2 Ls.lnV_len hoX
      by_cases he : hv = inb
      · subst he
        have HN := Lib.hid (show ((L.take (k + 1)).filter fun x => Ls.hasV b x.1 x.2 == hv) = O ++ [x] by rw [HT2.out, if_pos (by simp)])
        clear HT2
        have ee : (hv == hv) = true := by simp
        go_wp2_with (at_builtin; refine wpList_append_lies _ (by rfl) _ _ 40 (by rfl) w1.heap.size 44 iln _ 2 24 Tryz.underlying40 hiln hz0 hz1 hz2 rfl (by omega) (.slice A3 O.length c3) O.length _ (by rfl) (hoX.alloc _) ⟨w5.heap.size, 0, none⟩ 1 1 [_, _] (by rfl) (by rfl) (World.news_of_block (cs := #[_, _]) (t := 44) (fr := (0, 0)) (heap_alloc_new w5 _)) (by simp [Value.oneCell']) (by omega) (by unfold maxLen; omega) (by omega) (by simp; omega) (w5.heap.size + 1) (by simp) ?_; intro gg cap w6 hown6 hgrow hat hlt6)
        have hb6 := below_grown (hbX.alloc (by omega) _) (by simp; omega) (hoX.alloc _) hgrow
        have HO := Lib.hid hown6
        have H6 := Lib.hid hb6
        clear hown6 hb6 hgrow hat hlt6 hbX hoX d0 d1
        go_roundw
        case rel => exact ⟨k + 1, by go_num, by omega, by rw [HN.out, Ls.lnsV_app, Ls.lnsV_one, List.length_append, List.length_singleton]; exact HO.out, H6.out⟩
        case measure => simp [intOf]; omega
      · have HN := Lib.hid (show ((L.take (k + 1)).filter fun x => Ls.hasV b x.1 x.2 == inb) = O by rw [HT2.out, if_neg (by simpa using he)])
        have ee : (hv == inb) = false := by simpa using he
        have HO := Lib.hid hoX
        have H6 := Lib.hid hbX
        clear HT2 he hoX hbX d0 d1
        go_wp2_with fail
        go_roundw
        case rel => exact ⟨k + 1, by go_num, by omega, by rw [HN.out]; exact HO.out, H6.out⟩
        case measure => simp [intOf]; omega
    · have b1 : decide ((k : Int) < (L.length : Int)) = false := decide_eq_false (by omega)
      have b1n : decide (k < L.length) = false := decide_eq_false hlt
      have hfe : ((L.take k).filter fun x => Ls.hasV b x.1 x.2 == inb) = P := by rw [List.take_of_length_le (by omega)]; exact HPD.out.symm
      rw [hfe] at hown
      clear hfe
      have hpl : P.length ≤ L.length := by rw [HPD.out]; exact List.length_filter_le _ _
      obtain ⟨A3, c3, rfl, hc3, hm3, hP⟩ := Ls.own_el Ls.lnV 2 Ls.lnV_len hown
      have cp := qpack_any P A3 c3 wr hP (by omega) (by rw [HPD.out]; exact Ls.srt_filter _ HOK.out.1) (fun x hx => HOK.out.2.1 x (by rw [HPD.out] at hx; exact (List.mem_filter.1 hx).1))
      have HBW := Lib.hid (HB1.out.trans (hb.mono HB1.out.size))
      clear hown hb hP
      go_wp2_with fail
      with_reducible refine cp.mono ?_
      clear cp
      rintro e w5 ⟨v, rfl, hown, hb5⟩
      have HO := Lib.hid (own_mono hown HBW.out.size)
      have HB := Lib.hid (HBW.out.trans (hb5.mono HBW.out.size))
      clear hown hb5
      go_wp2_with fail
      first | go_ret3 | go_ret2 | go_ret
      exact ⟨_, rfl, HO.out, HB.out⟩
set_option maxHeartbeats 8000000 in
set_option maxRecDepth 100000 in
theorem qjoin_any (a b : List Ls.Sp) (A A' : Option Addr) (c c' : Nat) (w : World) (hA : SetAt w A a) (hB : SetAt w A' b) (hla : a.length ≤ 900) (hlb : b.length ≤ 900) (hva : Ls.vld a = true) (hvb : Ls.vld b = true) :
    Calls Tryz.prog 34 #[.slice A a.length c, .slice A' b.length c'] w (GotSp w w.heap.size (Ls.pack (Ls.mrg (Ls.lns a) (Ls.lns b)))) := by
  have hl1 := qlist_any a A c w hA.at_ (by omega) hA.path
  rw [Ls.list_lns hva] at hl1
  have HOA := Lib.hid (Ls.lns_ok hva)
  have HOB := Lib.hid (Ls.lns_ok hvb)
  have hla2 := (Ls.lns_ok hva).2.2
  have hlb2 := (Ls.lns_ok hvb).2.2
  have HBB := Lib.hid hB
  have HL2 := Lib.hid (fun w (hS : SetAt w A' b) => qlist_any b A' c' w hS.at_ (by omega) hS.path)
  rw [Ls.list_lns hvb] at HL2
  generalize Ls.lns a = La at *
  generalize Ls.lns b = Lb at *
  clear hA hB hva hvb
  go_enter Tryz.func34, Tryz.ntmps34
  go_wp2_with fail
  with_reducible refine hl1.mono ?_
  clear hl1
  rintro e w1 ⟨v, rfl, hown1, hb1⟩
  obtain ⟨A1, c1, rfl, _, _, hL1⟩ := Ls.own_el Ls.lnV 2 Ls.lnV_len hown1
  have hl2 := HL2.out w1 (HBB.out.next hb1)
  clear hown1 HL2
  go_wp2_with fail
  with_reducible refine hl2.mono ?_
  clear hl2
  rintro e w2 ⟨v, rfl, hown2, hb2⟩
  obtain ⟨A2, c2, rfl, _, _, hL2⟩ := Ls.own_el Ls.lnV 2 Ls.lnV_len hown2
  have hb02 := hb1.trans (hb2.mono hb1.size)
  have cm := qmerge_any La Lb A1 A2 c1 c2 w2 (hL1.next hb2) hL2 (by omega) (by omega)
  clear hown2 hL1 hL2 hb1 hb2
  go_wp2_with fail
  with_reducible refine cm.mono ?_
  clear cm
  rintro e w3 ⟨v, rfl, hown3, hb3⟩
  obtain ⟨A3, c3, rfl, _, _, hL3⟩ := Ls.own_el Ls.lnV 2 Ls.lnV_len hown3
  have HBW := Lib.hid (hb02.trans (hb3.mono hb02.size))
  have cp := qpack_any (Ls.mrg La Lb) A3 c3 w3 hL3 (by rw [Ls.len_mrg]; omega) (Ls.srt_mrg HOA.out.1 HOB.out.1) (fun x hx => by
    rcases (Ls.mem_mrg La Lb x).1 hx with h | h
    · exact HOA.out.2.1 x h
    · exact HOB.out.2.1 x h)
  clear hown3 hL3 hb02 hb3
  go_wp2_with fail
  with_reducible refine cp.mono ?_
  clear cp
  rintro e w5 ⟨v, rfl, hown, hb5⟩
  have HO := Lib.hid (own_mono hown HBW.out.size)
  have HB := Lib.hid (HBW.out.trans (hb5.mono HBW.out.size))
  clear hown hb5
  go_wp2_with fail
  first | go_ret3 | go_ret2 | go_ret
  exact ⟨_, rfl, HO.out, HB.out⟩
/-- What an operation of the reference leaves. -/
def GotQ (w : World) (ok : Bool) (R : List Ls.Sp) (er : Int) : Ending → World → Prop := fun e w' => ((ok = true ∧ ∃ A c, e = .returned (.tuple #[.slice A R.length c, .int .i64 0]) ∧ Ls.SpAt w' w'.heap.size A R) ∨ (ok = false ∧ e = .returned (.tuple #[.slice none 0 0, .int .i64 er]))) ∧ Below w.heap.size w w'
set_option maxHeartbeats 8000000 in
set_option maxRecDepth 100000 in
theorem qunion_any (a b : List Ls.Sp) (A A' : Option Addr) (c c' : Nat) (w : World) (hA : SetAt w A a) (hB : SetAt w A' b) (hla : a.length ≤ 900) (hlb : b.length ≤ 900) :
    Calls Tryz.prog 12 #[.slice A a.length c, .slice A' b.length c'] w (GotQ w (Ls.vld a && Ls.vld b) (Ls.pack (Ls.mrg (Ls.lns a) (Ls.lns b))) 1) := by
  have hva := qvalid_any a A c w hA.at_ (by omega) hA.path
  have HA := Lib.hid hA
  have HB := Lib.hid hB
  have HV2 := Lib.hid (fun w (hS : SetAt w A' b) => qvalid_any b A' c' w hS.at_ (by omega) hS.path)
  clear hA hB
  go_enter Tryz.func12, Tryz.ntmps12
  go_wp2_with fail
  with_reducible refine hva.mono ?_
  clear hva
  rintro e w1 ⟨rfl, hb1⟩
  cases h1 : Ls.vld a with
  | false =>
    have H1 := Lib.hid h1
    clear h1
    go_wp2_with fail
    first | go_ret3 | go_ret2 | go_ret
    exact ⟨.inr ⟨by rw [H1.out]; rfl, rfl⟩, hb1⟩
  | true =>
    have H1 := Lib.hid h1
    clear h1
    have hvb := HV2.out w1 (HB.out.next hb1)
    go_wp2_with fail
    with_reducible refine hvb.mono ?_
    clear hvb
    rintro e w2 ⟨rfl, hb2⟩
    have hb02 := hb1.trans (hb2.mono hb1.size)
    clear hb1 hb2
    cases h2 : Ls.vld b with
    | false =>
      have H2 := Lib.hid h2
      clear h2
      go_wp2_with fail
      first | go_ret3 | go_ret2 | go_ret
      exact ⟨.inr ⟨by rw [H1.out, H2.out]; rfl, rfl⟩, hb02⟩
    | true =>
      have H2 := Lib.hid h2
      have cc := qjoin_any a b A A' c c' w2 (HA.out.next hb02) (HB.out.next hb02) hla hlb H1.out H2.out
      clear h2
      go_wp2_with fail
      with_reducible refine cc.mono ?_
      clear cc
      rintro e w3 ⟨v, rfl, hown, hb3⟩
      obtain ⟨A3, c3, rfl, o3⟩ := own_sp hown
      have H3 := Lib.hid o3
      have H4 := Lib.hid (hb02.trans (hb3.mono hb02.size))
      clear hown o3 hb3 hb02
      go_wp2_with fail
      first | go_ret3 | go_ret2 | go_ret
      exact ⟨.inl ⟨by rw [H1.out, H2.out]; rfl, A3, c3, rfl, H3.out⟩, H4.out⟩
set_option maxHeartbeats 8000000 in
set_option maxRecDepth 100000 in
theorem qmeet_any (a b : List Ls.Sp) (A A' : Option Addr) (c c' : Nat) (w : World) (hA : SetAt w A a) (hB : SetAt w A' b) (hla : a.length ≤ 900) (hlb : b.length ≤ 900) :
    Calls Tryz.prog 13 #[.slice A a.length c, .slice A' b.length c'] w (GotQ w (Ls.vld a && Ls.vld b) (Ls.pack (Ls.prtL a b true)) 1) := by
  have hva := qvalid_any a A c w hA.at_ (by omega) hA.path
  have HA := Lib.hid hA
  have HB := Lib.hid hB
  have HV2 := Lib.hid (fun w (hS : SetAt w A' b) => qvalid_any b A' c' w hS.at_ (by omega) hS.path)
  clear hA hB
  go_enter Tryz.func13, Tryz.ntmps13
  go_wp2_with fail
  with_reducible refine hva.mono ?_
  clear hva
  rintro e w1 ⟨rfl, hb1⟩
  cases h1 : Ls.vld a with
  | false =>
    have H1 := Lib.hid h1
    clear h1
    go_wp2_with fail
    first | go_ret3 | go_ret2 | go_ret
    exact ⟨.inr ⟨by rw [H1.out]; rfl, rfl⟩, hb1⟩
  | true =>
    have H1 := Lib.hid h1
    clear h1
    have hvb := HV2.out w1 (HB.out.next hb1)
    go_wp2_with fail
    with_reducible refine hvb.mono ?_
    clear hvb
    rintro e w2 ⟨rfl, hb2⟩
    have hb02 := hb1.trans (hb2.mono hb1.size)
    clear hb1 hb2
    cases h2 : Ls.vld b with
    | false =>
      have H2 := Lib.hid h2
      clear h2
      go_wp2_with fail
      first | go_ret3 | go_ret2 | go_ret
      exact ⟨.inr ⟨by rw [H1.out, H2.out]; rfl, rfl⟩, hb02⟩
    | true =>
      have H2 := Lib.hid h2
      have cc := qpartL_any a b true A A' c c' w2 (HA.out.next hb02) (HB.out.next hb02) (by omega) (by omega) H1.out
      clear h2
      go_wp2_with fail
      with_reducible refine cc.mono ?_
      clear cc
      rintro e w3 ⟨v, rfl, hown, hb3⟩
      obtain ⟨A3, c3, rfl, o3⟩ := own_sp hown
      have H3 := Lib.hid o3
      have H4 := Lib.hid (hb02.trans (hb3.mono hb02.size))
      clear hown o3 hb3 hb02
      go_wp2_with fail
      first | go_ret3 | go_ret2 | go_ret
      exact ⟨.inl ⟨by rw [H1.out, H2.out]; rfl, A3, c3, rfl, H3.out⟩, H4.out⟩
set_option maxHeartbeats 8000000 in
set_option maxRecDepth 100000 in
theorem qminus_any (a b : List Ls.Sp) (A A' : Option Addr) (c c' : Nat) (w : World) (hA : SetAt w A a) (hB : SetAt w A' b) (hla : a.length ≤ 900) (hlb : b.length ≤ 900) :
    Calls Tryz.prog 14 #[.slice A a.length c, .slice A' b.length c'] w (GotQ w (Ls.vld a && Ls.vld b) (Ls.pack (Ls.prtL a b false)) 1) := by
  have hva := qvalid_any a A c w hA.at_ (by omega) hA.path
  have HA := Lib.hid hA
  have HB := Lib.hid hB
  have HV2 := Lib.hid (fun w (hS : SetAt w A' b) => qvalid_any b A' c' w hS.at_ (by omega) hS.path)
  clear hA hB
  go_enter Tryz.func14, Tryz.ntmps14
  go_wp2_with fail
  with_reducible refine hva.mono ?_
  clear hva
  rintro e w1 ⟨rfl, hb1⟩
  cases h1 : Ls.vld a with
  | false =>
    have H1 := Lib.hid h1
    clear h1
    go_wp2_with fail
    first | go_ret3 | go_ret2 | go_ret
    exact ⟨.inr ⟨by rw [H1.out]; rfl, rfl⟩, hb1⟩
  | true =>
    have H1 := Lib.hid h1
    clear h1
    have hvb := HV2.out w1 (HB.out.next hb1)
    go_wp2_with fail
    with_reducible refine hvb.mono ?_
    clear hvb
    rintro e w2 ⟨rfl, hb2⟩
    have hb02 := hb1.trans (hb2.mono hb1.size)
    clear hb1 hb2
    cases h2 : Ls.vld b with
    | false =>
      have H2 := Lib.hid h2
      clear h2
      go_wp2_with fail
      first | go_ret3 | go_ret2 | go_ret
      exact ⟨.inr ⟨by rw [H1.out, H2.out]; rfl, rfl⟩, hb02⟩
    | true =>
      have H2 := Lib.hid h2
      have cc := qpartL_any a b false A A' c c' w2 (HA.out.next hb02) (HB.out.next hb02) (by omega) (by omega) H1.out
      clear h2
      go_wp2_with fail
      with_reducible refine cc.mono ?_
      clear cc
      rintro e w3 ⟨v, rfl, hown, hb3⟩
      obtain ⟨A3, c3, rfl, o3⟩ := own_sp hown
      have H3 := Lib.hid o3
      have H4 := Lib.hid (hb02.trans (hb3.mono hb02.size))
      clear hown o3 hb3 hb02
      go_wp2_with fail
      first | go_ret3 | go_ret2 | go_ret
      exact ⟨.inl ⟨by rw [H1.out, H2.out]; rfl, A3, c3, rfl, H3.out⟩, H4.out⟩
end Go.Proofs.YtlablbibdkcifaaGreatDoor
