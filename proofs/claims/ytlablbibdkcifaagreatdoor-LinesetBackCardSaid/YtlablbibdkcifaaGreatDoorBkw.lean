/- The law LinesetBack. Condition: bytealg's MaxLen, the table of powers and strconv's errors lie in their variables. -/
import Derived.Test.YtlablbibdkcifaaGreatDoorPrp
import Derived.Test.YtlablbibdkcifaaGreatDoorTxw
import Derived.Test.YtlablbibdkcifaaGreatDoorRev
import Derived.Test.YtlablbibdkcifaaGreatDoorOfp
import Derived.Deep.DeepAppendWide
import Derived.Laws.OwnMore
namespace Go.Proofs.YtlablbibdkcifaaGreatDoor
open Go.RowKit Go.Deep Tr

section
variable {P : Program} {ops : Array Oper} {Q : Exit → Act → World → Prop} {a : Act} {w : World} {rest : List Oper} {o : Oper}
/-- A guarded operation that is wanted. -/
theorem wpList_wanted (hw : Region.wanted o (yielded ops a.tmps) = true) (h : ∀ K : Act → World → Prop, (∀ a w, wpList P ops Q rest a w → K a w) → o.wp P a w K Q) : wpList P ops Q (o :: rest) a w :=
  wpList_step fun K hK => by rw [if_pos hw]; exact h K hK
theorem wp_append_nothing {K : Act → World → Prop} (s x : Operand) (t : TypeId) (ho : o.op = .call { callee := .builtin .append, args := #[s, x], argTypes := #[t, t] })
    (base : Nat) (e : TypeId) (i : TypeInfo) (size : Nat) (ht : P.underlying t = some (.slice e)) (hi : P.info? e = some i)
    (v : Value) (n : Nat) (xs : List Value) (hs : a.eval s = v) (hown : w.ownsRow base e size v n xs) (hx : a.eval x = .slice none 0 0) (h : K (a.put o.dst v) w) : o.wp P a w K Q := by
  have hrun := run_append_owned_none (P := P) (w := w) base t o.type e i size ht hi v n xs hown
  unfold Oper.wp
  simp [execOp, ho, resolve, invoke, builtin, hs, hx, hrun, Result.andThen]
  exact h
end
namespace Ls
theorem lns_valid {l : List Sp} (hv : vld l = true) : ∀ x ∈ lns l, Tre.pathOk x.1 = true ∧ 0 ≤ x.2 ∧ x.2 < 1024 := fun x hx => by
  have h := (vld_iff l).1 hv
  obtain ⟨s, hs, e, h1, h2⟩ := has_iff.1 ((mem_lns l x.1 x.2).1 hx)
  have := h.each s hs
  exact ⟨by rw [← e]; exact this.1, by omega, by omega⟩
theorem lns_len2 {l : List Sp} (hv : vld l = true) : (lns l).length ≤ 1024 * l.length := lns_len l fun s hs => by have := ((vld_iff l).1 hv).each s hs; omega
theorem back_eq {l out : List Sp} (hv : vld l = true) (h1 : Valid out) (h2 : ∀ p m, has out p m = decide ((p, m) ∈ (lns l).reverse ++ lns l)) : out = l :=
  same_of_has h1.apart ((vld_iff l).1 hv).apart fun p m => by
    rw [h2, Bool.eq_iff_iff, decide_eq_true_eq, List.mem_append, List.mem_reverse, mem_lns]
    exact ⟨fun h => h.elim id id, .inl⟩
theorem list_lnsB {l : List Sp} (hv : vld l = true) : list l = lns l := if_pos hv
theorem countV_list (l : List Sp) : countV l = ((list l).length : Int) := by
  unfold countV list
  by_cases h : vld l = true
  · rw [if_pos h, if_pos h]
    exact (length_lns fun s hs => ((vld_iff l).1 h).apart.ne s hs).symm
  · rw [if_neg h, if_neg h]; rfl
theorem set_of {w : World} {A : Option Addr} {l : List Sp} (h : SpAt w w.heap.size A l) (hv : vld l = true) (hl : l.length ≤ 100000) : SetAt w A l :=
  ⟨h, by omega, fun s hs => by have := pathOk_len (((vld_iff l).1 hv).each s hs).1; omega⟩
theorem prt_len2 {l : List Sp} (hv : vld l = true) : (prt l).length ≤ 173 * l.length := prt_len l fun s hs => by
  have h1 := ((vld_iff l).1 hv).each s hs
  have h2 := ((vld_iff l).1 hv).apart.ne s hs
  exact spT_len s (pathOk_len h1.1) (by omega) (by omega)
end Ls
theorem HS_next {w6 w9 w10 : World} {A : Option Addr} {l : List Ls.Sp} (h1 : Below w6.heap.size w6 w9) (h2 : Below w6.heap.size w9 w10) (h : SetAt w6 A l) : SetAt w10 A l := h.next (h1.trans h2)
set_option maxHeartbeats 64000000 in
set_option maxRecDepth 100000 in
theorem back_law (l : List Ls.Sp) (ss : ByteArray) (A : Option Addr) (c : Nat) (W : World) (hA : SetRaw W A l) (hM : MaxAt W) (hT : Cd.Tabs W) (hE : ErrAt W) :
    Calls Tryz.prog 5 #[.slice A l.length c, .string ss] W fun e W' => e = .returned (.bool true) ∧ Below W.heap.size W W' := by
  obtain ⟨iln, hiln, hz0, hz1, hz2⟩ := info_parts infoLn
  obtain ⟨t, rfl⟩ : ∃ t, ss = str t := ⟨ss.data.toList, (str_of ss).symm⟩
  have cc := awake_any W hM hT
  have HA := Lib.hid hA
  have HM := Lib.hid hM
  have HTb := Lib.hid hT
  have HE := Lib.hid hE
  clear hA hM hT hE
  go_enter Tryz.func5, Tryz.ntmps5
  go_wp2_with fail
  with_reducible refine cc.mono ?_
  clear cc
  rintro e w1 ⟨rfl, hb1⟩
  have cc := few_any l A c w1 (HA.out.next hb1)
  go_wp2_with fail
  with_reducible refine cc.mono ?_
  clear cc
  rintro e w2 ⟨b0, rfl, hf, hn2⟩
  have hb2 := hb1.trans (hn2.mono hb1.size)
  clear hb1 hn2
  cases b0 with
  | false =>
    clear hf
    go_wp2_with fail
    first | go_ret2 | go_ret
    exact ⟨rfl, hb2⟩
  | true =>
  have HF := Lib.hid (hf rfl)
  clear hf
  have hds := str_size t
  by_cases h1000 : 1000 < t.length
  · have g2 : decide ((1000 : Int) < ((str t).size : Int)) = true := decide_eq_true (by omega)
    have g2n : decide (1000 < (str t).size) = true := decide_eq_true (by omega)
    clear hds
    go_wp2_with fail
    first | go_ret2 | go_ret
    exact ⟨rfl, hb2⟩
  have g2 : decide ((1000 : Int) < ((str t).size : Int)) = false := decide_eq_false (by omega)
  have g2n : decide (1000 < (str t).size) = false := decide_eq_false (by omega)
  have htl : t.length ≤ 100000 := by omega
  clear hds h1000
  have hll := HF.out.1
  have HS := Lib.hid ((HA.out.next hb2).set HF.out)
  have hpl := Ls.prs_len t
  have cc := pparse_any t htl w2 (HE.out.below hb2) (HTb.out.below hb2) (HM.out.below hb2)
  have HPB := Lib.hid (fun (m : List Ls.Sp) (k : Int) (h : Ls.prs t = (0, k, m)) => Ls.prs_back h)
  have HPE := Lib.hid (show (Ls.prs t).1 ≠ 0 → (Ls.prs t).2.2 = [] ∧ 0 ≤ (Ls.prs t).2.1 from Ls.prsA_err t.length t (Nat.le_refl _) [])
  generalize Ls.prs t = P at *
  obtain ⟨er, n, M⟩ := P
  dsimp only at HPE hpl
  have HMl := Lib.hid (show M.length ≤ 100000 by omega)
  clear hpl
  go_wp2_with fail
  with_reducible refine cc.mono ?_
  clear cc
  rintro e w3 ⟨⟨A3, c3, rfl, S3⟩, hn3⟩
  have hb3 := hb2.trans (hn3.mono hb2.size)
  have HS3 := Lib.hid (HS.out.next hn3)
  dsimp only at S3
  clear hn3 hb2 g2 g2n HS
  by_cases her : er = 0
  · subst her
    obtain ⟨hpt, hvm, hnn⟩ := HPB.out M n rfl
    subst hnn
    have cp := lprint_any M A3 c3 w3 (Ls.set_of S3 hvm HMl.out) hvm (HM.out.below hb3) (HTb.out.below hb3)
    rw [hpt] at cp
    clear hpt hvm HPB HPE S3
    go_wp2_with fail
    with_reducible refine cp.mono ?_
    clear cp
    rintro e w4 ⟨rfl, hn4⟩
    have hb4 := hb3.trans (hn4.mono hb3.size)
    have HS4 := Lib.hid (HS3.out.next hn4)
    clear hn4 hb3 HS3
    have cv := valid_any l A c w4 HS4.out.at_ (by omega) HS4.out.path (HM.out.below hb4)
    go_wp2_with fail
    with_reducible refine cv.mono ?_
    clear cv
    rintro e w5 ⟨rfl, hn5⟩
    have hb5 := hb4.trans (hn5.mono hb4.size)
    have HS5 := Lib.hid (HS4.out.next hn5)
    clear hn5 hb4 HS4
    cases hv : Ls.vld l with
    | false =>
      clear hv
      go_wp2_with fail
      first | go_ret3 | go_ret2 | go_ret
      exact ⟨rfl, hb5⟩
    | true =>
    have HV := Lib.hid hv
    clear hv
    have ck := count_any l A c w5 HS5.out.at_ (by omega) HS5.out.path (HM.out.below hb5)
    have hcl := Ls.countV_list l
    rw [Ls.list_lnsB HV.out] at hcl
    rw [hcl] at ck
    clear hcl
    go_wp2_with fail
    with_reducible refine ck.mono ?_
    clear ck
    rintro e w6 ⟨rfl, hn6⟩
    have hb6 := hb5.trans (hn6.mono hb5.size)
    have HS6 := Lib.hid (HS5.out.next hn6)
    clear hn6 hb5 HS5
    by_cases h300 : 300 < (Ls.lns l).length
    · have g3 : decide ((300 : Int) < ((Ls.lns l).length : Int)) = true := decide_eq_true (by omega)
      have g3n : decide (300 < (Ls.lns l).length) = true := decide_eq_true h300
      clear h300
      go_wp2_with fail
      first | go_ret3 | go_ret2 | go_ret
      exact ⟨rfl, hb6⟩
    have g3 : decide ((300 : Int) < ((Ls.lns l).length : Int)) = false := decide_eq_false (by omega)
    have g3n : decide (300 < (Ls.lns l).length) = false := decide_eq_false h300
    have hL3 : (Ls.lns l).length ≤ 300 := by omega
    have HLV := Lib.hid (Ls.lns_valid HV.out)
    have HBE := Lib.hid (fun (out : List Ls.Sp) (h1 : Ls.Valid out) (h2 : ∀ p m, Ls.has out p m = decide ((p, m) ∈ (Ls.lns l).reverse ++ Ls.lns l)) => Ls.back_eq HV.out h1 h2)
    have c1 := list_any l A c w6 HS6.out.at_ (by omega) HS6.out.path (HM.out.below hb6)
    have C2 := Lib.hid (fun w (hS : SetAt w A l) (hM : MaxAt w) => list_any l A c w hS.at_ (by omega) hS.path hM)
    rw [Ls.list_lnsB HV.out] at c1 C2
    generalize Ls.lns l = L at *
    clear h300
    go_wp2_with fail
    with_reducible refine c1.mono ?_
    clear c1
    rintro e w7 ⟨v, rfl, own7, hn7⟩
    obtain ⟨A7, c7, rfl, _, _, _⟩ := Ls.own_el Ls.lnV 2 Ls.lnV_len own7
    have cr := reverse_any L A7 c7 w6.heap.size w7 own7 (by omega)
    clear own7 g3 g3n
    go_wp2_with fail
    with_reducible refine cr.mono ?_
    clear cr
    rintro e w8 ⟨rfl, own8, hn8⟩
    have hn68 := hn7.trans hn8
    have hb8 := hb6.trans (hn68.mono hb6.size)
    have HS8 := Lib.hid (HS6.out.next hn68)
    have c2 := C2.out w8 HS8.out (HM.out.below hb8)
    have HS6B := HS6
    clear hn7 hn8 HS6 C2
    have hrl : L.reverse.length = L.length := List.length_reverse
    go_upto_region 16 with (fail)
    go_wp2_with fail
    with_reducible refine c2.mono ?_
    clear c2
    rintro e w9 ⟨v9, rfl, own9, hn9⟩
    have hs68 := hn68.size
    have own89 := own_below own8 hn9
    have hb9 := hb8.trans (hn9.mono hb8.size)
    have HS9 := Lib.hid (HS8.out.next hn9)
    have hn69 := hn68.trans (hn9.mono hn68.size)
    have hs69 := hn69.size
    clear own8 hn9 hb8 HS8 hn68
    rcases own9.2 with ⟨hv9, h0⟩ | ⟨g9, cap9, cur9, hv9, hg9, hk9⟩
    · subst hv9
      have hL0 : L = [] := List.length_eq_zero_iff.1 h0
      have own10 : w9.ownsRow w6.heap.size 44 2 (.slice A7 L.length c7) (L.reverse ++ L).length (Ls.lnsV (L.reverse ++ L)) := by subst hL0; exact own89
      have HS10 := HS9
      have hb10 := hb9
      clear hL0 own9 h0
      go_wp2_with (at_builtin; refine wpList_wanted (by rfl) fun K hK => wp_append_nothing _ _ 40 (by rfl) w6.heap.size 44 iln 2 Tryz.underlying40 hiln _ _ _ (by rfl) own89 (by rfl) (hK _ _ ?_))
      obtain ⟨w10, hw10⟩ : ∃ x, x = w9 := ⟨_, rfl⟩
      rw [← hw10] at own10 HS10 hb10 ⊢
      clear own89 hb9 HS9 hn69 hw10
      have hel := Ls.own_el (l := L.reverse ++ L) Ls.lnV 2 Ls.lnV_len own10
      obtain ⟨A10, c10, hv10, _, _, at10⟩ := hel
      first | subst hv10 | rw [hv10]
      have co := of_any (L.reverse ++ L) A10 c10 w10 at10 (by rw [List.length_append, List.length_reverse]; omega) (fun x hx => HLV.out x (by rcases List.mem_append.1 hx with h | h; exact List.mem_reverse.1 h; exact h)) (HM.out.below hb10)
      clear own10 at10
      go_wp2_with fail
      with_reducible refine co.mono ?_
      clear co
      rintro e w11 ⟨out, A11, c11, rfl, ⟨o1, o2, _⟩, S11, hn11⟩
      obtain rfl := HBE.out out o1 o2
      have hb11 := hb10.trans (hn11.mono hb10.size)
      have HS11 := Lib.hid (HS10.out.next hn11)
      clear o1 o2 hn11 hb10 HS10
      have cp := lprint_any out A c w11 HS11.out HV.out (HM.out.below hb11) (HTb.out.below hb11)
      go_wp2_with fail
      with_reducible refine cp.mono ?_
      clear cp
      rintro e w12 ⟨rfl, hn12⟩
      have hb12 := hb11.trans (hn12.mono hb11.size)
      have HS12 := Lib.hid (HS11.out.next hn12)
      have S12 := S11.next hn12
      have hpl := Ls.prt_len2 HV.out
      have cq := pparse_any (Ls.prt out) (by omega) w12 (HE.out.below hb12) (HTb.out.below hb12) (HM.out.below hb12)
      rw [Ls.prs_prt HV.out] at cq
      clear hn12 hb11 HS11 S11 hpl
      generalize Ls.prt out = pt at *
      go_wp2_with fail
      with_reducible refine cq.mono ?_
      clear cq
      rintro e w13 ⟨⟨A13, c13, rfl, S13⟩, hn13⟩
      dsimp only at S13
      have hb13 := hb12.trans (hn13.mono hb12.size)
      have HS13 := Lib.hid (HS12.out.next hn13)
      have S13b := S12.next hn13
      clear hn13 hb12 HS12 S12
      have ce := eq_true_any A11 A c11 c out w13 S13b HS13.out.at_ (by omega)
      go_wp2_with fail
      with_reducible refine ce.mono ?_
      clear ce
      rintro e w14 ⟨rfl, hn14⟩
      have hb14 := hb13.trans (hn14.mono hb13.size)
      have ce := eq_true_any A13 A c13 c out w14 (S13.next hn14) (HS13.out.next hn14).at_ (by omega)
      clear hn14 hb13 S13 S13b HS13
      go_wp2_with fail
      with_reducible refine ce.mono ?_
      clear ce
      rintro e w15 ⟨rfl, hn15⟩
      have HB := Lib.hid (hb14.trans (hn15.mono hb14.size))
      clear hn15 hb14
      go_wp2_with fail
      first | go_ret3 | go_ret2 | go_ret
      exact ⟨rfl, HB.out⟩
    · subst hv9
      have hc9 : ∀ j u, (Ls.lnsV L)[j]? = some u → w9.cell? ⟨g9, j, none⟩ = some u := fun j u hu => by
        have hj : j < L.length * 2 := by have := (List.getElem?_eq_some_iff.1 hu).1; rwa [Ls.lnsV_len] at this
        rw [own9.cellAt j hj]; exact hu
      clear own9 hk9
      go_wp2_with (at_builtin; refine wpList_append_own_wide _ (by rfl) _ _ 40 (by rfl) w6.heap.size 44 iln _ 2 24 Tryz.underlying40 hiln hz0 hz1 hz2 rfl (by omega) (.slice A7 L.length c7) L.length (Ls.lnsV L.reverse) (by rfl) own89 ⟨g9, 0, none⟩ L.length cap9 (Ls.lnsV L) (by rfl) (by rw [Ls.lnsV_len]) (fun j u hj => by rw [addr_addS, Nat.zero_add]; exact hc9 j u hj) (Ls.lnsV_ones _) (by unfold maxLen; omega) (by omega) (by omega) ?_; intro v10 w10 own10 hgrow10 _)
      have hb10 := hb9.trans ((below_grown (Below.refl w9.heap.size w9 |>.mono hs69) hs69 own89 hgrow10).mono (by have := hb6.size; omega))
      have HS10 := Lib.hid (HS_next hn69 (below_grown ((Below.refl w9.heap.size w9).mono hs69) hs69 own89 hgrow10) HS6B.out)
      rw [← Ls.lnsV_app, show L.length + L.length = (L.reverse ++ L).length by rw [List.length_append, hrl]] at own10
      clear own89 hgrow10 hb9 HS9 hn69 hc9
      have hel := Ls.own_el (l := L.reverse ++ L) Ls.lnV 2 Ls.lnV_len own10
      obtain ⟨A10, c10, hv10, _, _, at10⟩ := hel
      first | subst hv10 | rw [hv10]
      have co := of_any (L.reverse ++ L) A10 c10 w10 at10 (by rw [List.length_append, List.length_reverse]; omega) (fun x hx => HLV.out x (by rcases List.mem_append.1 hx with h | h; exact List.mem_reverse.1 h; exact h)) (HM.out.below hb10)
      clear own10 at10
      go_wp2_with fail
      with_reducible refine co.mono ?_
      clear co
      rintro e w11 ⟨out, A11, c11, rfl, ⟨o1, o2, _⟩, S11, hn11⟩
      obtain rfl := HBE.out out o1 o2
      have hb11 := hb10.trans (hn11.mono hb10.size)
      have HS11 := Lib.hid (HS10.out.next hn11)
      clear o1 o2 hn11 hb10 HS10
      have cp := lprint_any out A c w11 HS11.out HV.out (HM.out.below hb11) (HTb.out.below hb11)
      go_wp2_with fail
      with_reducible refine cp.mono ?_
      clear cp
      rintro e w12 ⟨rfl, hn12⟩
      have hb12 := hb11.trans (hn12.mono hb11.size)
      have HS12 := Lib.hid (HS11.out.next hn12)
      have S12 := S11.next hn12
      have hpl := Ls.prt_len2 HV.out
      have cq := pparse_any (Ls.prt out) (by omega) w12 (HE.out.below hb12) (HTb.out.below hb12) (HM.out.below hb12)
      rw [Ls.prs_prt HV.out] at cq
      clear hn12 hb11 HS11 S11 hpl
      generalize Ls.prt out = pt at *
      go_wp2_with fail
      with_reducible refine cq.mono ?_
      clear cq
      rintro e w13 ⟨⟨A13, c13, rfl, S13⟩, hn13⟩
      dsimp only at S13
      have hb13 := hb12.trans (hn13.mono hb12.size)
      have HS13 := Lib.hid (HS12.out.next hn13)
      have S13b := S12.next hn13
      clear hn13 hb12 HS12 S12
      have ce := eq_true_any A11 A c11 c out w13 S13b HS13.out.at_ (by omega)
      go_wp2_with fail
      with_reducible refine ce.mono ?_
      clear ce
      rintro e w14 ⟨rfl, hn14⟩
      have hb14 := hb13.trans (hn14.mono hb13.size)
      have ce := eq_true_any A13 A c13 c out w14 (S13.next hn14) (HS13.out.next hn14).at_ (by omega)
      clear hn14 hb13 S13 S13b HS13
      go_wp2_with fail
      with_reducible refine ce.mono ?_
      clear ce
      rintro e w15 ⟨rfl, hn15⟩
      have HB := Lib.hid (hb14.trans (hn15.mono hb14.size))
      clear hn15 hb14
      go_wp2_with fail
      first | go_ret3 | go_ret2 | go_ret
      exact ⟨rfl, HB.out⟩
  · obtain ⟨hM0, hn0⟩ := HPE.out her
    subst hM0
    have b1 : (er == (0 : Int)) = false := by rw [beq_eq_false_iff_ne]; exact her
    have b2 : decide (n < (0 : Int)) = false := decide_eq_false (by omega)
    rw [List.length_nil]
    clear HPB HPE her hn0 S3
    obtain ⟨w4, hw4⟩ : ∃ x, x = w3 := ⟨_, rfl⟩
    rw [← hw4] at hb3 HS3 ⊢
    have hb4 := hb3
    have HS4 := HS3
    clear hb3 HS3 hw4
    have cv := valid_any l A c w4 HS4.out.at_ (by omega) HS4.out.path (HM.out.below hb4)
    go_wp2_with fail
    with_reducible refine cv.mono ?_
    clear cv
    rintro e w5 ⟨rfl, hn5⟩
    have hb5 := hb4.trans (hn5.mono hb4.size)
    have HS5 := Lib.hid (HS4.out.next hn5)
    clear hn5 hb4 HS4
    cases hv : Ls.vld l with
    | false =>
      clear hv
      go_wp2_with fail
      first | go_ret3 | go_ret2 | go_ret
      exact ⟨rfl, hb5⟩
    | true =>
    have HV := Lib.hid hv
    clear hv
    have ck := count_any l A c w5 HS5.out.at_ (by omega) HS5.out.path (HM.out.below hb5)
    have hcl := Ls.countV_list l
    rw [Ls.list_lnsB HV.out] at hcl
    rw [hcl] at ck
    clear hcl
    go_wp2_with fail
    with_reducible refine ck.mono ?_
    clear ck
    rintro e w6 ⟨rfl, hn6⟩
    have hb6 := hb5.trans (hn6.mono hb5.size)
    have HS6 := Lib.hid (HS5.out.next hn6)
    clear hn6 hb5 HS5
    by_cases h300 : 300 < (Ls.lns l).length
    · have g3 : decide ((300 : Int) < ((Ls.lns l).length : Int)) = true := decide_eq_true (by omega)
      have g3n : decide (300 < (Ls.lns l).length) = true := decide_eq_true h300
      clear h300
      go_wp2_with fail
      first | go_ret3 | go_ret2 | go_ret
      exact ⟨rfl, hb6⟩
    have g3 : decide ((300 : Int) < ((Ls.lns l).length : Int)) = false := decide_eq_false (by omega)
    have g3n : decide (300 < (Ls.lns l).length) = false := decide_eq_false h300
    have hL3 : (Ls.lns l).length ≤ 300 := by omega
    have HLV := Lib.hid (Ls.lns_valid HV.out)
    have HBE := Lib.hid (fun (out : List Ls.Sp) (h1 : Ls.Valid out) (h2 : ∀ p m, Ls.has out p m = decide ((p, m) ∈ (Ls.lns l).reverse ++ Ls.lns l)) => Ls.back_eq HV.out h1 h2)
    have c1 := list_any l A c w6 HS6.out.at_ (by omega) HS6.out.path (HM.out.below hb6)
    have C2 := Lib.hid (fun w (hS : SetAt w A l) (hM : MaxAt w) => list_any l A c w hS.at_ (by omega) hS.path hM)
    rw [Ls.list_lnsB HV.out] at c1 C2
    generalize Ls.lns l = L at *
    clear h300
    go_wp2_with fail
    with_reducible refine c1.mono ?_
    clear c1
    rintro e w7 ⟨v, rfl, own7, hn7⟩
    obtain ⟨A7, c7, rfl, _, _, _⟩ := Ls.own_el Ls.lnV 2 Ls.lnV_len own7
    have cr := reverse_any L A7 c7 w6.heap.size w7 own7 (by omega)
    clear own7 g3 g3n
    go_wp2_with fail
    with_reducible refine cr.mono ?_
    clear cr
    rintro e w8 ⟨rfl, own8, hn8⟩
    have hn68 := hn7.trans hn8
    have hb8 := hb6.trans (hn68.mono hb6.size)
    have HS8 := Lib.hid (HS6.out.next hn68)
    have c2 := C2.out w8 HS8.out (HM.out.below hb8)
    have HS6B := HS6
    clear hn7 hn8 HS6 C2
    have hrl : L.reverse.length = L.length := List.length_reverse
    go_upto_region 16 with (fail)
    go_wp2_with fail
    with_reducible refine c2.mono ?_
    clear c2
    rintro e w9 ⟨v9, rfl, own9, hn9⟩
    have hs68 := hn68.size
    have own89 := own_below own8 hn9
    have hb9 := hb8.trans (hn9.mono hb8.size)
    have HS9 := Lib.hid (HS8.out.next hn9)
    have hn69 := hn68.trans (hn9.mono hn68.size)
    have hs69 := hn69.size
    clear own8 hn9 hb8 HS8 hn68
    rcases own9.2 with ⟨hv9, h0⟩ | ⟨g9, cap9, cur9, hv9, hg9, hk9⟩
    · subst hv9
      have hL0 : L = [] := List.length_eq_zero_iff.1 h0
      have own10 : w9.ownsRow w6.heap.size 44 2 (.slice A7 L.length c7) (L.reverse ++ L).length (Ls.lnsV (L.reverse ++ L)) := by subst hL0; exact own89
      have HS10 := HS9
      have hb10 := hb9
      clear hL0 own9 h0
      go_wp2_with (at_builtin; refine wpList_wanted (by rfl) fun K hK => wp_append_nothing _ _ 40 (by rfl) w6.heap.size 44 iln 2 Tryz.underlying40 hiln _ _ _ (by rfl) own89 (by rfl) (hK _ _ ?_))
      obtain ⟨w10, hw10⟩ : ∃ x, x = w9 := ⟨_, rfl⟩
      rw [← hw10] at own10 HS10 hb10 ⊢
      clear own89 hb9 HS9 hn69 hw10
      have hel := Ls.own_el (l := L.reverse ++ L) Ls.lnV 2 Ls.lnV_len own10
      obtain ⟨A10, c10, hv10, _, _, at10⟩ := hel
      first | subst hv10 | rw [hv10]
      have co := of_any (L.reverse ++ L) A10 c10 w10 at10 (by rw [List.length_append, List.length_reverse]; omega) (fun x hx => HLV.out x (by rcases List.mem_append.1 hx with h | h; exact List.mem_reverse.1 h; exact h)) (HM.out.below hb10)
      clear own10 at10
      go_wp2_with fail
      with_reducible refine co.mono ?_
      clear co
      rintro e w11 ⟨out, A11, c11, rfl, ⟨o1, o2, _⟩, S11, hn11⟩
      obtain rfl := HBE.out out o1 o2
      have hb11 := hb10.trans (hn11.mono hb10.size)
      have HS11 := Lib.hid (HS10.out.next hn11)
      clear o1 o2 hn11 hb10 HS10
      have cp := lprint_any out A c w11 HS11.out HV.out (HM.out.below hb11) (HTb.out.below hb11)
      go_wp2_with fail
      with_reducible refine cp.mono ?_
      clear cp
      rintro e w12 ⟨rfl, hn12⟩
      have hb12 := hb11.trans (hn12.mono hb11.size)
      have HS12 := Lib.hid (HS11.out.next hn12)
      have S12 := S11.next hn12
      have hpl := Ls.prt_len2 HV.out
      have cq := pparse_any (Ls.prt out) (by omega) w12 (HE.out.below hb12) (HTb.out.below hb12) (HM.out.below hb12)
      rw [Ls.prs_prt HV.out] at cq
      clear hn12 hb11 HS11 S11 hpl
      generalize Ls.prt out = pt at *
      go_wp2_with fail
      with_reducible refine cq.mono ?_
      clear cq
      rintro e w13 ⟨⟨A13, c13, rfl, S13⟩, hn13⟩
      dsimp only at S13
      have hb13 := hb12.trans (hn13.mono hb12.size)
      have HS13 := Lib.hid (HS12.out.next hn13)
      have S13b := S12.next hn13
      clear hn13 hb12 HS12 S12
      have ce := eq_true_any A11 A c11 c out w13 S13b HS13.out.at_ (by omega)
      go_wp2_with fail
      with_reducible refine ce.mono ?_
      clear ce
      rintro e w14 ⟨rfl, hn14⟩
      have hb14 := hb13.trans (hn14.mono hb13.size)
      have ce := eq_true_any A13 A c13 c out w14 (S13.next hn14) (HS13.out.next hn14).at_ (by omega)
      clear hn14 hb13 S13 S13b HS13
      go_wp2_with fail
      with_reducible refine ce.mono ?_
      clear ce
      rintro e w15 ⟨rfl, hn15⟩
      have HB := Lib.hid (hb14.trans (hn15.mono hb14.size))
      clear hn15 hb14
      go_wp2_with fail
      first | go_ret3 | go_ret2 | go_ret
      exact ⟨rfl, HB.out⟩
    · subst hv9
      have hc9 : ∀ j u, (Ls.lnsV L)[j]? = some u → w9.cell? ⟨g9, j, none⟩ = some u := fun j u hu => by
        have hj : j < L.length * 2 := by have := (List.getElem?_eq_some_iff.1 hu).1; rwa [Ls.lnsV_len] at this
        rw [own9.cellAt j hj]; exact hu
      clear own9 hk9
      go_wp2_with (at_builtin; refine wpList_append_own_wide _ (by rfl) _ _ 40 (by rfl) w6.heap.size 44 iln _ 2 24 Tryz.underlying40 hiln hz0 hz1 hz2 rfl (by omega) (.slice A7 L.length c7) L.length (Ls.lnsV L.reverse) (by rfl) own89 ⟨g9, 0, none⟩ L.length cap9 (Ls.lnsV L) (by rfl) (by rw [Ls.lnsV_len]) (fun j u hj => by rw [addr_addS, Nat.zero_add]; exact hc9 j u hj) (Ls.lnsV_ones _) (by unfold maxLen; omega) (by omega) (by omega) ?_; intro v10 w10 own10 hgrow10 _)
      have hb10 := hb9.trans ((below_grown (Below.refl w9.heap.size w9 |>.mono hs69) hs69 own89 hgrow10).mono (by have := hb6.size; omega))
      have HS10 := Lib.hid (HS_next hn69 (below_grown ((Below.refl w9.heap.size w9).mono hs69) hs69 own89 hgrow10) HS6B.out)
      rw [← Ls.lnsV_app, show L.length + L.length = (L.reverse ++ L).length by rw [List.length_append, hrl]] at own10
      clear own89 hgrow10 hb9 HS9 hn69 hc9
      have hel := Ls.own_el (l := L.reverse ++ L) Ls.lnV 2 Ls.lnV_len own10
      obtain ⟨A10, c10, hv10, _, _, at10⟩ := hel
      first | subst hv10 | rw [hv10]
      have co := of_any (L.reverse ++ L) A10 c10 w10 at10 (by rw [List.length_append, List.length_reverse]; omega) (fun x hx => HLV.out x (by rcases List.mem_append.1 hx with h | h; exact List.mem_reverse.1 h; exact h)) (HM.out.below hb10)
      clear own10 at10
      go_wp2_with fail
      with_reducible refine co.mono ?_
      clear co
      rintro e w11 ⟨out, A11, c11, rfl, ⟨o1, o2, _⟩, S11, hn11⟩
      obtain rfl := HBE.out out o1 o2
      have hb11 := hb10.trans (hn11.mono hb10.size)
      have HS11 := Lib.hid (HS10.out.next hn11)
      clear o1 o2 hn11 hb10 HS10
      have cp := lprint_any out A c w11 HS11.out HV.out (HM.out.below hb11) (HTb.out.below hb11)
      go_wp2_with fail
      with_reducible refine cp.mono ?_
      clear cp
      rintro e w12 ⟨rfl, hn12⟩
      have hb12 := hb11.trans (hn12.mono hb11.size)
      have HS12 := Lib.hid (HS11.out.next hn12)
      have S12 := S11.next hn12
      have hpl := Ls.prt_len2 HV.out
      have cq := pparse_any (Ls.prt out) (by omega) w12 (HE.out.below hb12) (HTb.out.below hb12) (HM.out.below hb12)
      rw [Ls.prs_prt HV.out] at cq
      clear hn12 hb11 HS11 S11 hpl
      generalize Ls.prt out = pt at *
      go_wp2_with fail
      with_reducible refine cq.mono ?_
      clear cq
      rintro e w13 ⟨⟨A13, c13, rfl, S13⟩, hn13⟩
      dsimp only at S13
      have hb13 := hb12.trans (hn13.mono hb12.size)
      have HS13 := Lib.hid (HS12.out.next hn13)
      have S13b := S12.next hn13
      clear hn13 hb12 HS12 S12
      have ce := eq_true_any A11 A c11 c out w13 S13b HS13.out.at_ (by omega)
      go_wp2_with fail
      with_reducible refine ce.mono ?_
      clear ce
      rintro e w14 ⟨rfl, hn14⟩
      have hb14 := hb13.trans (hn14.mono hb13.size)
      have ce := eq_true_any A13 A c13 c out w14 (S13.next hn14) (HS13.out.next hn14).at_ (by omega)
      clear hn14 hb13 S13 S13b HS13
      go_wp2_with fail
      with_reducible refine ce.mono ?_
      clear ce
      rintro e w15 ⟨rfl, hn15⟩
      have HB := Lib.hid (hb14.trans (hn15.mono hb14.size))
      clear hn15 hb14
      go_wp2_with fail
      first | go_ret3 | go_ret2 | go_ret
      exact ⟨rfl, HB.out⟩
end Go.Proofs.YtlablbibdkcifaaGreatDoor
