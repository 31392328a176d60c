/- The law CodecBeginnings returns true. Condition: the library's table of powers of ten lies in its variable. -/
import Derived.Test.YthkijcombpmfeaaDoorPre
namespace Go.Proofs.YthkijcombpmfeaaDoor
open Go.RowKit

theorem encAll_pos {n : Int} {s : ByteArray} {ns : List Int} {ss : List ByteArray} : 0 < (encAll n s ns ss).length := by
  unfold encAll
  have := Cod.num_pos ns.length
  simp only [List.length_append]
  omega
set_option maxHeartbeats 8000000 in
set_option maxRecDepth 100000 in
theorem beginnings_law (n : Int) (s : ByteArray) (A : Option Addr) (c : Nat) (ns : List Int) (A' : Option Addr) (c' : Nat) (ss : List ByteArray) (a : Int) (w : World) (hT : Tabs w) (hA : CellsAt w w.heap.size A (intsOf ns)) (hA' : CellsAt w w.heap.size A' (strsOf ss)) (hl : ss.length ≤ 9223372036854775807) (hat : (Lit.int .u16 a).wf = true) :
    Calls Tryd.prog 7 #[.agg #[.int .i64 n, .string s, .slice A ns.length c, .slice A' ss.length c'], .int .u16 a] w fun e w' => e = .returned (.bool true) ∧ Below w.heap.size w w' := by
  have ha : 0 ≤ a ∧ a ≤ 65535 := by
    simp [Lit.wf] at hat
    have h1 : IntKind.u16.min = 0 := by rfl
    have h2 : IntKind.u16.max = 65535 := by rfl
    omega
  obtain ⟨W, hW⟩ : ∃ W, W = w.alloc (.cells #[.int .i64 n, .string s, .slice A ns.length c, .slice A' ss.length c'] 51) := ⟨_, rfl⟩
  have hb0 : Below w.heap.size w W := by rw [hW]; exact (Below.refl w.heap.size w).alloc (Nat.le_refl _) _
  have hlt : w.heap.size < W.heap.size := by rw [hW]; simp
  have k0 : W.cell? ⟨w.heap.size, 0, none⟩ = some (.int .i64 n) := by rw [hW]; go_simp
  have k1 : W.cell? ⟨w.heap.size, 1, none⟩ = some (.string s) := by rw [hW]; go_simp
  have k2 : W.cell? ⟨w.heap.size, 2, none⟩ = some (.slice A ns.length c) := by rw [hW]; go_simp
  have k3 : W.cell? ⟨w.heap.size, 3, none⟩ = some (.slice A' ss.length c') := by rw [hW]; go_simp
  obtain ⟨b0, hb⟩ : ∃ b, b = w.heap.size := ⟨_, rfl⟩
  have HB := Lib.hid hb
  clear hb hat
  go_enter Tryd.func7, Tryd.ntmps7
  go_wp2_with fail
  rw [← hW, ← HB.out]
  rw [← HB.out] at k0 k1 k2 k3 hlt
  clear hW
  refine (awake_any W (hT.below hb0)).mono ?_
  rintro e w1 ⟨rfl, hb1⟩
  replace k0 := (hb1.cell (p := ⟨b0, 0, none⟩) hlt).trans k0
  replace k1 := (hb1.cell (p := ⟨b0, 1, none⟩) hlt).trans k1
  replace k2 := (hb1.cell (p := ⟨b0, 2, none⟩) hlt).trans k2
  replace k3 := (hb1.cell (p := ⟨b0, 3, none⟩) hlt).trans k3
  replace hlt := Nat.lt_of_lt_of_le hlt hb1.size
  replace hb0 := hb0.trans (hb1.mono hb0.size)
  clear hb1
  go_wp2_with fail
  have hcall := few_any n s A c ns A' c' ss w1 (hA'.up hb0) hl
  with_reducible refine hcall.mono ?_
  clear hcall
  rintro e w2 ⟨⟨r, rfl⟩, hb1⟩
  replace k0 := (hb1.cell (p := ⟨b0, 0, none⟩) hlt).trans k0
  replace k1 := (hb1.cell (p := ⟨b0, 1, none⟩) hlt).trans k1
  replace k2 := (hb1.cell (p := ⟨b0, 2, none⟩) hlt).trans k2
  replace k3 := (hb1.cell (p := ⟨b0, 3, none⟩) hlt).trans k3
  replace hlt := Nat.lt_of_lt_of_le hlt hb1.size
  replace hb0 := hb0.trans (hb1.mono hb0.size)
  clear hb1
  cases r with
  | false =>
    go_wp2_with fail
    go_ret
    exact ⟨rfl, hb0⟩
  | true =>
    by_cases hok : allOk n s ns ss
    · go_wp2_with fail
      have hcall := write_ok n s A c ns A' c' ss w2 (hT.below hb0) (hA.up hb0) (hA'.up hb0) hok
      with_reducible refine hcall.mono ?_
      clear hcall
      rintro e w3 ⟨rfl, hb1⟩
      replace hb0 := hb0.trans (hb1.mono hb0.size)
      clear hb1 k0 k1 k2 k3 hlt hA hA'
      have hel := encAll_le hok
      have hpos := @encAll_pos n s ns ss
      have PRE := pre_all hok
      generalize encAll n s ns ss = E at *
      have hEs : (str E).size = E.length := str_size E
      have hne : (!(str E).toList.isEmpty) = true := nonempty_of (by omega)
      have hne2 : (str E).toList.isEmpty = false := by simpa using hne
      have hne3 : ((str E).toList == []) = false := by
        cases hh : (str E).toList with
        | nil => rw [hh] at hne2; cases hne2
        | cons => rfl
      obtain ⟨k, hk⟩ : ∃ k : Nat, (k : Int) = a % (E.length : Int) := ⟨(a % (E.length : Int)).toNat, Int.toNat_of_nonneg (Int.emod_nonneg _ (by omega))⟩
      have hkl : (k : Int) < (E.length : Int) := by rw [hk]; exact Int.emod_lt_of_pos _ (by omega)
      have i1 : a.tmod ((str E).size : Int) = (k : Int) := by rw [hEs, Int.tmod_eq_emod_of_nonneg ha.1, hk]
      have i2 : a % ((str E).size : Int) = (k : Int) := by rw [hEs, hk]
      have i5 : (0 : Int) ≤ (k : Int) := by omega
      have i6 : (k : Int) ≤ ((str E).size : Int) := by omega
      have i7 : ¬ str E = ByteArray.empty := fun hc => by rw [hc] at hEs; have : ByteArray.empty.size = 0 := rfl; omega
      have i8 : ¬ ((str E).size : Int) = 0 := by omega
      have HP := Lib.hid (ext_take E k)
      obtain ⟨p, hp⟩ : ∃ p, p = E.take k := ⟨_, rfl⟩
      have hpl : p.length ≤ 170000000 := by rw [hp, List.length_take]; omega
      have hq : E.drop k ≠ [] := by
        intro hc
        have := congrArg List.length hc
        simp at this
        omega
      replace PRE := PRE p (E.drop k) (by rw [hp]; exact List.take_append_drop k E) hq
      rw [← hp] at HP
      have i3 : IntKind.i64.wrap a = a := IntWalk.i64_in _ (by omega)
      have i4 : IntKind.i64.wrap (k : Int) = (k : Int) := IntWalk.i64_in _ (by omega)
      generalize str E = out at *
      clear hk hkl hp hq hel hpos hok hEs hne
      go_wp2_with fail
      rw [HP.out]
      clear i2 i5 i6 i7 i8 i1 i3 i4
      obtain ⟨R1, e1⟩ : ∃ R, Cod.number 0 281474976710656 ⟨p, 0⟩ = R := ⟨_, rfl⟩
      obtain ⟨R2, e2⟩ : ∃ R, Cod.text 65536 R1.2 = R := ⟨_, rfl⟩
      obtain ⟨R3, e3⟩ : ∃ R, Cod.list (Cod.number 0 281474976710656) R2.2 = R := ⟨_, rfl⟩
      obtain ⟨R4, e4⟩ : ∃ R, Cod.list (nextT 65536) R3.2 = R := ⟨_, rfl⟩
      have l1 : R1.2.rest.length ≤ 170000000 := by rw [← e1]; exact Nat.le_trans (Cod.number_short _ _ _) hpl
      have l2 : R2.2.rest.length ≤ 170000000 := by rw [← e2]; exact Nat.le_trans (Cod.text_short _ _) l1
      have l3 : R3.2.rest.length ≤ 170000000 := by rw [← e3]; exact Nat.le_trans (list_short _ (Cod.number_short _ _) _) l2
      have hR4 := PRE R1 R2 R3 R4 e1 e2 e3 e4
      clear PRE
      have E1 := Lib.hid e1
      have E2 := Lib.hid e2
      have E3 := Lib.hid e3
      have E4 := Lib.hid e4
      clear e1 e2 e3 e4
      have hcall := newReader_any (str p) w3
      with_reducible refine hcall.mono ?_
      clear hcall
      rintro e w4 ⟨rfl, hr, hb1⟩
      obtain ⟨b, hb⟩ : ∃ b, b = w3.heap.size := ⟨_, rfl⟩
      rw [← hb] at hr
      rw [← hb]
      have hwb : w.heap.size ≤ b := by rw [hb]; exact hb0.size
      replace hb0 := hb0.trans (hb1.mono hb0.size)
      clear hb1 hb
      go_wp2_with fail
      have hcall := rdNumber_at b 0 281474976710656 ⟨p, 0⟩ w4 hr (by show p.length ≤ _; omega)
      rw [E1.out] at hcall
      with_reducible refine hcall.mono ?_
      clear hcall
      rintro e w5 ⟨rfl, hr5, hg⟩
      replace hb0 := hb0.trans (below_grown hg hwb hb0.size)
      clear hg hr
      go_wp2_with fail
      have hcall := rdText_at b 65536 R1.2 w5 hr5 (by omega)
      rw [E2.out] at hcall
      with_reducible refine hcall.mono ?_
      clear hcall
      rintro e w6 ⟨rfl, hr6, hg⟩
      replace hb0 := hb0.trans (below_grown hg hwb hb0.size)
      clear hg hr5
      go_wp2_with fail
      have hcall := rdNumbers_at b 0 281474976710656 R2.2 w6 hr6 (by omega)
      rw [E3.out] at hcall
      with_reducible refine hcall.mono ?_
      clear hcall
      rintro e w7 hgot
      obtain ⟨v, rfl, _, hr7, hg⟩ := hgot
      replace hb0 := hb0.trans (below_grown hg hwb hb0.size)
      clear hg hr6
      go_wp2_with fail
      have hcall := rdTexts_at b 65536 R3.2 w7 hr7 (by omega)
      rw [E4.out] at hcall
      with_reducible refine hcall.mono ?_
      clear hcall
      rintro e w8 hgot
      obtain ⟨v', rfl, _, hr8, hg⟩ := hgot
      rw [hR4] at hr8
      replace hb0 := hb0.trans (below_grown hg hwb hb0.size)
      clear hg hr7
      go_wp2_with fail
      refine (err_any b _ _ _ hr8).mono ?_
      rintro e w9 ⟨rfl, rfl⟩
      go_wp2_with fail
      refine (close_any b _ _ _ hr8).mono ?_
      rintro e w9 ⟨rfl, rfl⟩
      rw [show closeI (str (⟨[], 13⟩ : Cod.Rd).rest) (⟨[], 13⟩ : Cod.Rd).err = 13 from rfl]
      go_wp2_with fail
      refine (left_any b _ _ _ hr8).mono ?_
      rintro e w9 ⟨rfl, rfl⟩
      rw [show ((str (⟨[], 13⟩ : Cod.Rd).rest).size : Int) = 0 from rfl]
      go_wp2_with fail
      go_ret
      exact ⟨rfl, hb0⟩
    · go_wp2_with fail
      have hcall := write_bad n s A c ns A' c' ss w2 (hT.below hb0) (hA.up hb0) (hA'.up hb0) hok
      with_reducible refine hcall.mono ?_
      clear hcall
      rintro e w3 ⟨⟨o, rfl⟩, hb1⟩
      replace hb0 := hb0.trans (hb1.mono hb0.size)
      clear hb1
      go_wp2_with fail
      go_ret
      exact ⟨rfl, hb0⟩
end Go.Proofs.YthkijcombpmfeaaDoor
