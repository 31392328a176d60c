/- Print of tokens; whether a token is valid. Condition: the library's error of ranges lies in its variable. -/
import Derived.Test.YtndehkoglgakpaaGreatDoorBld
namespace Go.Proofs.YtndehkoglgakpaaGreatDoor
open Go.RowKit

theorem valid_def (t : Tok.Tk) : Tok.valid t = if t.kind = 1 then Tok.nameOk t.text else if t.kind = 2 then (Tok.number t.text).2 == 0 else if t.kind = 3 then Tok.isSym t.text else false := rfl
set_option maxHeartbeats 2000000 in
set_option maxRecDepth 100000 in
theorem isValid_any (t : Tok.Tk) (w : World) (hs : t.text.length ≤ 1000000000) (hE : Errs w) :
    Calls Tryz.prog 44 #[.agg #[.int .i64 t.kind, .string (str t.text)]] w fun e w' => e = .returned (.bool (Tok.valid t)) ∧ Below w.heap.size w w' := by
  have HV := Lib.hid (valid_def t)
  have hb0 : Below w.heap.size w (w.alloc (.cells #[.int .i64 t.kind, .string (str t.text)] 45)) := (Below.refl _ _).alloc (Nat.le_refl _) _
  have hE0 := hE.below hb0
  have hsz : (str t.text).size ≤ 1000000000 := by rw [str_size]; exact hs
  have h1 := fun w => isName_any (str t.text) w hsz
  have h2 := fun w => number_any (str t.text) w hsz
  have h3 := fun w => sym_any (str t.text) w
  simp only [str_data] at h1 h2 h3
  generalize Tok.valid t = v at *
  obtain ⟨k, x⟩ := t
  simp only at *
  by_cases k1 : k = 1
  · have HT := Lib.hid (show v = Tok.nameOk x by rw [HV.out, if_pos k1])
    subst k1
    clear HV h2 h3
    generalize Tok.nameOk x = r at *
    go_enter Tryz.func44, Tryz.ntmps44
    go_wp2_with (go_at_call 71; (with_reducible refine (h1 _).mono ?_); rintro e w' ⟨rfl, rfl⟩)
    go_ret
    exact ⟨ret_bool (by rw [HT.out]), hb0⟩
  · by_cases k2 : k = 2
    · have HT := Lib.hid (show v = ((Tok.number x).2 == 0) by rw [HV.out, if_neg k1, if_pos k2])
      subst k2
      clear HV h1 h3 k1
      have hcall := h2 _ hE0
      unfold numV at hcall
      clear h2
      generalize Tok.number x = r at *
      obtain ⟨ra, rb⟩ := r
      go_enter Tryz.func44, Tryz.ntmps44
      go_wp2_with (go_at_call 72; (with_reducible refine hcall.mono ?_); rintro e w' ⟨rfl, hb⟩)
      go_ret
      exact ⟨ret_bool (by rw [HT.out]), hb0.trans (hb.mono hb0.size)⟩
    · by_cases k3 : k = 3
      · have HT := Lib.hid (show v = Tok.isSym x by rw [HV.out, if_neg k1, if_neg k2, if_pos k3])
        subst k3
        clear HV h1 h2 k1 k2
        generalize Tok.isSym x = r at *
        go_enter Tryz.func44, Tryz.ntmps44
        go_wp2_with (go_at_call 73; (with_reducible refine (h3 _).mono ?_); rintro e w' ⟨rfl, rfl⟩)
        go_ret
        exact ⟨ret_bool (by rw [HT.out]), hb0⟩
      · have HT := Lib.hid (show v = false by rw [HV.out, if_neg k1, if_neg k2, if_neg k3])
        have q1 : (k == 1) = false := by rw [beq_eq_false_iff_ne]; exact k1
        have q2 : (k == 2) = false := by rw [beq_eq_false_iff_ne]; exact k2
        have q3 : (k == 3) = false := by rw [beq_eq_false_iff_ne]; exact k3
        clear HV h1 h2 h3 k1 k2 k3
        go_enter Tryz.func44, Tryz.ntmps44
        go_wp2_with fail
        go_ret
        exact ⟨ret_bool (by rw [HT.out]), hb0⟩
/-- The slice value's cells are these tokens; they lie below block B. -/
def TksAt (w : World) (B : Nat) (A : Option Addr) (ts : List Tok.Tk) : Prop := ∀ i (h : i < ts.length), ∃ g o, A = some ⟨g, o, none⟩ ∧ g < B ∧ w.cell? ⟨g, o + i * 2, none⟩ = some (.int .i64 ts[i].kind) ∧ w.cell? ⟨g, o + i * 2 + 1, none⟩ = some (.string (str ts[i].text))
theorem TksAt.below {w w' : World} {B B' : Nat} {A : Option Addr} {ts : List Tok.Tk} (h : TksAt w B A ts) (hb : Below B' w w') (hB : B ≤ B') : TksAt w' B A ts := fun i hi => by
  obtain ⟨g, o, e, hg, hc, hd⟩ := h i hi
  exact ⟨g, o, e, hg, (hb.cell (p := ⟨g, o + i * 2, none⟩) (by show g < B'; omega)).trans hc, (hb.cell (p := ⟨g, o + i * 2 + 1, none⟩) (by show g < B'; omega)).trans hd⟩
theorem all_snoc {α : Type} (p : α → Bool) (zs : List α) (k : Nat) (h : k < zs.length) : (zs.take (k + 1)).all p = ((zs.take k).all p && p zs[k]) := by
  rw [List.take_succ_eq_append_getElem h, List.all_append]; simp
def prnV (l : List Tok.Tk) : Value := .tuple #[.string (str (Tok.printed l).1), .int .i64 (Tok.printed l).2]
theorem printed_def (l : List Tok.Tk) : Tok.printed l = if 256 < l.length then ([], 10) else if l.all Tok.valid = true then (Tok.textOf l, 0) else ([], 1) := rfl
theorem all_of_take {α : Type} (p : α → Bool) (zs : List α) (k : Nat) (h : (zs.take k).all p = false) : zs.all p = false := by
  cases he : zs.all p
  · rfl
  · rw [← h, eq_comm, List.all_eq_true]
    exact fun x hx => List.all_eq_true.1 he x (List.mem_of_mem_take hx)
theorem textOf_take (l : List Tok.Tk) (k : Nat) (h : k < l.length) : Tok.textOf (l.take (k + 1)) = Tok.textOf (l.take k) ++ (if k = 0 then [] else [32]) ++ l[k].text := by
  rw [List.take_succ_eq_append_getElem h]
  by_cases hk : k = 0
  · subst hk; simp [Tok.textOf]
  · rw [Tok.textOf_snoc _ (by intro e; have := congrArg List.length e; rw [List.length_take, List.length_nil] at this; omega), if_neg hk]
    simp
set_option maxHeartbeats 4000000 in
set_option maxRecDepth 100000 in
theorem print_any (A : Option Addr) (c : Nat) (ts : List Tok.Tk) (w : World) (hA : TksAt w w.heap.size A ts) (hlen : ∀ k (h : k < ts.length), ts[k].text.length ≤ 3000) (hE : Errs w) :
    Calls Tryz.prog 23 #[.slice A ts.length c] w fun e w' => e = .returned (prnV ts) ∧ Below w.heap.size w w' := by
  have HP := Lib.hid (printed_def ts)
  unfold prnV
  generalize Tok.printed ts = v at *
  by_cases hbig : 256 < ts.length
  · have b0 : decide ((256 : Int) < ts.length) = true := by simp; omega
    have HT := Lib.hid (show v = ([], 10) by rw [HP.out, if_pos hbig])
    clear HP hbig
    go_enter Tryz.func23, Tryz.ntmps23
    go_wp2_with fail
    go_ret2
    exact ⟨by rw [HT.out]; rfl, Below.refl _ _⟩
  · have b0 : decide ((256 : Int) < ts.length) = false := by simp; omega
    have HT := Lib.hid (show v = if ts.all Tok.valid = true then (Tok.textOf ts, 0) else ([], 1) by rw [HP.out, if_neg hbig])
    have hl : ts.length ≤ 256 := by omega
    clear HP hbig
    go_enter Tryz.func23, Tryz.ntmps23
    go_wp2_with fail
    go_loopw [12] (fun i wr => ∃ (k : Nat) (p : Value), k ≤ ts.length ∧ i = .int .i64 k ∧ (p = .pointer none ∨ p = .pointer (some ⟨w.heap.size, 0, none⟩)) ∧ Bld wr w.heap.size w.heap.size p (Tok.textOf (ts.take k)) ∧ (Tok.textOf (ts.take k)).length ≤ 3001 * k ∧ (ts.take k).all Tok.valid = true ∧ Below w.heap.size w wr) (fun i _ => ts.length - (intOf i).toNat)
    case atStart => exact ⟨0, _, by omega, rfl, .inl rfl, bld_new w, by simp [Tok.textOf], by simp, (Below.refl _ _).alloc (Nat.le_refl _) _⟩
    case round =>
      obtain ⟨k, p, hk, rfl, hp, hB, hbl, hall, hb⟩ := hrel
      by_cases hlt : k < ts.length
      · have b1 : decide ((k : Int) < ts.length) = true := by simp; omega
        obtain ⟨g, o, rfl, hg, hc0, hc1⟩ := hA k hlt
        have hd0 := (hb.cell (p := ⟨g, o + k * 2, none⟩) hg).trans hc0
        have hd1 := (hb.cell (p := ⟨g, o + k * 2 + 1, none⟩) hg).trans hc1
        have hcall := fun w => isValid_any ts[k] w (by have := hlen k hlt; omega)
        have hsn := all_snoc Tok.valid ts k hlt
        rw [hall, Bool.true_and] at hsn
        have HTX := Lib.hid (textOf_take ts k hlt)
        have hlk := hlen k hlt
        clear hc0 hc1 hA hlen
        generalize ts[k] = t at *
        have hbw : Below w.heap.size w (wr.alloc (.cells #[.int .i64 t.kind, .string (str t.text)] 45)) := hb.alloc hb.size _
        have hEr := hE.below (hbw.mono (Nat.le_refl _))
        replace hcall := hcall _ hEr
        cases hv : Tok.valid t
        · have HTT := Lib.hid (show v = ([], 1) by
            rw [HT.out, if_neg]
            rw [all_of_take Tok.valid ts (k + 1) (by rw [hsn, hv])]
            simp)
          rw [hv] at hcall
          clear hv hsn hall HT HTX hB hbl
          go_wp2_with fail
          (with_reducible refine hcall.mono ?_)
          clear hcall
          rintro e w2 ⟨rfl, hb2⟩
          go_wp2_with fail
          go_ret2
          exact ⟨by rw [HTT.out]; rfl, hbw.trans (hb2.mono hbw.size)⟩
        · rw [hv] at hcall hsn
          have HSN := Lib.hid hsn
          have hB1 : Bld (wr.alloc (.cells #[.int .i64 t.kind, .string (str t.text)] 45)) w.heap.size w.heap.size p (Tok.textOf (ts.take k)) := hB.below ((Below.refl _ _).alloc (Nat.le_refl _) _)
          have hts : (str t.text).size = t.text.length := str_size _
          clear hv hsn hall hB
          by_cases hk0 : k = 0
          · have hB2 : Bld (wr.alloc (.cells #[.int .i64 t.kind, .string (str t.text)] 45)) w.heap.size w.heap.size p [] := by rw [hk0] at hB1; exact hB1
            have b2 : decide ((0 : Int) < (k : Int)) = false := by simp; omega
            have b2n : decide (0 < k) = false := by simp; omega
            have HTX2 := Lib.hid (show Tok.textOf (ts.take (k + 1)) = t.text by rw [HTX.out, hk0]; simp [Tok.textOf])
            have HTS := Lib.hid hts
            have hk1 : k + 1 ≤ ts.length := by omega
            have HK0 := Lib.hid hk0
            clear hB1 HTX hts hk0 hbl
            go_wp2_with fail
            (with_reducible refine hcall.mono ?_)
            clear hcall
            rintro e w2 ⟨rfl, hb2⟩
            obtain ⟨hc0, hc1, hf0, hf1, _⟩ := keep2 hb2
            replace hB2 := hB2.below hb2
            replace hbw := hbw.trans (hb2.mono hbw.size)
            clear hb2
            go_wp2_with fail
            have hcall := writeString_any w.heap.size w.heap.size p hp [] (str t.text) w2 hB2 (by have := HTS.out; simp; omega) hbw.size
            (with_reducible refine hcall.mono ?_)
            clear hcall
            rintro e w3 ⟨rfl, hB3, hb3⟩
            rw [List.nil_append, str_data, ← HTX2.out] at hB3
            replace hbw := hbw.trans hb3
            clear hb3 hB2
            go_wp2_with fail
            go_roundw
            case rel => exact ⟨k + 1, _, hk1, by go_num, .inr rfl, hB3, by rw [HTX2.out]; omega, HSN.out, hbw⟩
            case measure => simp [intOf]; omega
          · have b2 : decide ((0 : Int) < (k : Int)) = true := by simp; omega
            have b2n : decide (0 < k) = true := by simp; omega
            have HTX2 := Lib.hid (show Tok.textOf (ts.take (k + 1)) = Tok.textOf (ts.take k) ++ [32] ++ t.text by rw [HTX.out, if_neg hk0])
            have HTS := Lib.hid hts
            clear HTX hts hk0
            generalize Tok.textOf (ts.take k) = X at *
            go_wp2_with fail
            (with_reducible refine hcall.mono ?_)
            clear hcall
            rintro e w2 ⟨rfl, hb2⟩
            obtain ⟨hc0, hc1, hf0, hf1, _⟩ := keep2 hb2
            have hz2 : w2.heap[wr.heap.size]? = some (.cells #[.int .i64 t.kind, .string (str t.text)] 45 (0, 0)) := (hb2.block wr.heap.size (by simp)).trans (heap_alloc_new wr _)
            have HZ2 := Lib.hid hz2
            clear hz2
            replace hB1 := hB1.below hb2
            replace hbw := hbw.trans (hb2.mono hbw.size)
            clear hb2
            go_wp2_with fail
            have hcall : Calls Tryz.prog 45 #[.pointer (some ⟨w.heap.size, 0, none⟩), .int .u8 32] w2 _ := writeByte_any w.heap.size w.heap.size p hp X 32 w2 hB1 (by omega) hbw.size
            (with_reducible refine hcall.mono ?_)
            clear hcall
            rintro e w3 ⟨rfl, hB3, hb3, hq3⟩
            have hbox : w3.heap[wr.heap.size]? = some (.cells #[.int .i64 t.kind, .string (str t.text)] 45 (0, 0)) := hq3 _ _ _ _ HZ2.out (by decide) (by decide)
            have hd1 : w3.cell? ⟨wr.heap.size, 1, none⟩ = some (.string (str t.text)) := by rw [Lib.cell_of_heap hbox]; rfl
            replace hbw := hbw.trans hb3
            clear hb3 hq3 hB1 hbox hc0 hc1 hf0 hf1 HZ2
            go_wp2_with fail
            have hcall := writeString_any w.heap.size w.heap.size _ (.inr rfl) (X ++ [32]) (str t.text) w3 hB3 (by have := HTS.out; simp; omega) hbw.size
            (with_reducible refine hcall.mono ?_)
            clear hcall
            rintro e w4 ⟨rfl, hB4, hb4⟩
            rw [str_data, ← HTX2.out] at hB4
            replace hbw := hbw.trans hb4
            clear hb4 hB3
            go_wp2_with fail
            go_roundw
            case rel => exact ⟨k + 1, _, by omega, by go_num, .inr rfl, hB4, by rw [HTX2.out]; simp; omega, HSN.out, hbw⟩
            case measure => simp [intOf]; omega
      · have b1 : decide ((k : Int) < ts.length) = false := by simp; omega
        have hk2 : k = ts.length := by omega
        have HV := Lib.hid (show v = (Tok.textOf ts, 0) by rw [HT.out, if_pos (by rw [hk2, List.take_length] at hall; exact hall)])
        have hB2 : Bld wr w.heap.size w.heap.size p (Tok.textOf ts) := by rw [hk2, List.take_length] at hB; exact hB
        clear hall hk2 hB HT
        go_wp2_with fail
        refine (string_any w.heap.size w.heap.size p hp _ wr hB2 hb.size).mono ?_
        rintro e w2 ⟨rfl, hb2⟩
        go_wp2_with fail
        go_ret2
        exact ⟨by rw [HV.out]; rfl, hb.trans hb2⟩
end Go.Proofs.YtndehkoglgakpaaGreatDoor
