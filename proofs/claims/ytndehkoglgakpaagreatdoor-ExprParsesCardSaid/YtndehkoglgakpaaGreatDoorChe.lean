/- Check of a formula; whether all operations are numbers. No condition but the lengths. -/
import Derived.Test.YtndehkoglgakpaaGreatDoorOps
import Derived.Test.YtndehkoglgakpaaGreatDoorPrs
namespace Go.Proofs.YtndehkoglgakpaaGreatDoor
open Go.RowKit Go.Deep

/-- The slice value's cells are these operations; they lie below block B. -/
def OpsAt (w : World) (B : Nat) (A : Option Addr) (f : List Ex.Op) : Prop := ∀ i (h : i < f.length), ∃ g o, A = some ⟨g, o, none⟩ ∧ g < B ∧ w.cell? ⟨g, o + i * 3, none⟩ = some (.int .i64 f[i].kind) ∧ w.cell? ⟨g, o + i * 3 + 1, none⟩ = some (.string (str f[i].text)) ∧ w.cell? ⟨g, o + i * 3 + 2, none⟩ = some (.int .u32 f[i].n)
theorem OpsAt.below {w w' : World} {B B' : Nat} {A : Option Addr} {f : List Ex.Op} (h : OpsAt w B A f) (hb : Below B' w w') (hB : B ≤ B') : OpsAt w' B A f := fun i hi => by
  obtain ⟨g, o, e, hg, h1, h2, h3⟩ := h i hi
  exact ⟨g, o, e, hg, (hb.cell (p := ⟨g, o + i * 3, none⟩) (by show g < B'; omega)).trans h1, (hb.cell (p := ⟨g, o + i * 3 + 1, none⟩) (by show g < B'; omega)).trans h2, (hb.cell (p := ⟨g, o + i * 3 + 2, none⟩) (by show g < B'; omega)).trans h3⟩
theorem OpsAt.next {w w' : World} {A : Option Addr} {f : List Ex.Op} (h : OpsAt w w.heap.size A f) (hb : Below w.heap.size w w') : OpsAt w' w'.heap.size A f := fun i hi => by
  obtain ⟨g, o, e, hg, hc⟩ := h.below hb (Nat.le_refl _) i hi
  exact ⟨g, o, e, Nat.lt_of_lt_of_le hg hb.size, hc⟩
theorem opsOf_get (us : List Ex.Op) : ∀ (i : Nat) (h : i < us.length), (opsOf us)[i * 3]? = some (.int .i64 us[i].kind) ∧ (opsOf us)[i * 3 + 1]? = some (.string (str us[i].text)) ∧ (opsOf us)[i * 3 + 2]? = some (.int .u32 us[i].n) := by
  induction us with
  | nil => intro i h; simp at h
  | cons u us ih =>
    intro i h
    cases i with
    | zero => exact ⟨rfl, rfl, rfl⟩
    | succ i =>
      have h2 := ih i (by simpa using h)
      rw [show (i + 1) * 3 = i * 3 + 3 by omega]
      simpa [opsOf, opOf] using h2
theorem opsOf_len (us : List Ex.Op) : (opsOf us).length = us.length * 3 := by
  induction us with
  | nil => rfl
  | cons u us ih => rw [show opsOf (u :: us) = opOf u ++ opsOf us from rfl, List.length_append, ih]; show 3 + _ = _; simp; omega
theorem owns_ops {w : World} {B : Nat} {v : Value} {f : List Ex.Op} (h : w.ownsRow B 42 3 v f.length (opsOf f)) : ∃ A c, v = .slice A f.length c ∧ OpsAt w w.heap.size A f ∧ f.length ≤ c ∧ c ≤ maxLen := by
  rcases h.2 with ⟨rfl, h0⟩ | ⟨g, cap, cur, rfl, hb, hg, hn, hc, hs, ht⟩
  · have h0' : f = [] := List.eq_nil_of_length_eq_zero h0
    subst h0'
    exact ⟨none, 0, rfl, fun i hi => by simp at hi, by simp, by unfold maxLen; omega⟩
  · refine ⟨_, cap, rfl, fun i hi => ⟨g, 0, rfl, (Array.getElem?_eq_some_iff.1 hg).1, ?_⟩, hn, hc⟩
    have key : ∀ j, j < f.length * 3 → w.cell? ⟨g, j, none⟩ = (opsOf f)[j]? := fun j hj => by
      rw [cell_of_row w g j cur 42 (0, 0) hg]
      have h1 := congrArg (fun x => x[j]?) ht
      simp only [List.getElem?_take, if_pos hj] at h1
      rw [← Array.getElem?_toList, h1]
    rw [Nat.zero_add, key _ (by omega), key _ (by omega), key _ (by omega)]
    exact opsOf_get f i hi
/-- The texts are short, the numbers are words. -/
def OpsLen (f : List Ex.Op) : Prop := ∀ o ∈ f, o.text.length ≤ 1000000000 ∧ 0 ≤ o.n ∧ o.n < 4294967296
theorem list_drop {α : Type} (l : List α) (k : Nat) (h : k < l.length) : l.drop k = l[k] :: l.drop (k + 1) := List.drop_eq_getElem_cons h
theorem check_def (f : List Ex.Op) : Ex.check f = if 256 < f.length then 10 else Ex.chk 0 f := rfl
set_option maxHeartbeats 4000000 in
set_option maxRecDepth 100000 in
theorem fcheck_any (A : Option Addr) (c : Nat) (f : List Ex.Op) (w : World) (hA : OpsAt w w.heap.size A f) (hl : f.length ≤ 1000000000) (hL : OpsLen f) :
    Calls Tryz.prog 15 #[.slice A f.length c] w fun x w' => x = .returned (.int .i64 (Ex.check f)) ∧ Below w.heap.size w w' := by
  have HV := Lib.hid (check_def f)
  generalize Ex.check f = R at *
  by_cases hbig : 256 < f.length
  · have b0 : decide ((256 : Int) < f.length) = true := by simp; omega
    have b0n : decide (256 < f.length) = true := by simp; omega
    have HT := Lib.hid (HV.out.trans (if_pos hbig))
    clear HV
    go_enter Tryz.func15, Tryz.ntmps15
    go_wp2_with fail
    go_ret
    exact ⟨by rw [HT.out]; rfl, Below.refl _ _⟩
  have b0 : decide ((256 : Int) < f.length) = false := by simp; omega
  have b0n : decide (256 < f.length) = false := by simp; omega
  have hl2 : f.length ≤ 256 := by omega
  have HR := Lib.hid (show R = Ex.chk 0 (f.drop 0) from HV.out.trans (if_neg hbig))
  clear HV hbig
  go_enter Tryz.func15, Tryz.ntmps15
  go_wp2_with fail
  go_loopw [3, 13] (fun v i wr => ∃ (k : Nat) (m : Int), k ≤ f.length ∧ 0 ≤ m ∧ m ≤ k ∧ v = .int .i64 m ∧ i = .int .i64 k ∧ R = Ex.chk m (f.drop k) ∧ Below w.heap.size w wr) (fun _ i _ => f.length - (intOf i).toNat)
  case atStart => exact ⟨0, 0, by omega, by omega, by omega, rfl, rfl, HR.out, Below.refl _ _⟩
  case round =>
    clear HR
    obtain ⟨k, m, hk, hm0, hmk, rfl, rfl, hR, hb⟩ := hrel
    have HR := Lib.hid hR
    clear hR
    by_cases hlt : k < f.length
    · have b1 : decide ((k : Int) < f.length) = true := by simp; omega
      have b1n : decide (k < f.length) = true := by simp; omega
      obtain ⟨g, o, rfl, hg, hc0, hc1, hc2⟩ := hA k hlt
      have hd0 := (hb.cell (p := ⟨g, o + k * 3, none⟩) hg).trans hc0
      have hd1 := (hb.cell (p := ⟨g, o + k * 3 + 1, none⟩) hg).trans hc1
      have hd2 := (hb.cell (p := ⟨g, o + k * 3 + 2, none⟩) hg).trans hc2
      have HD := Lib.hid (HR.out.trans (by rw [list_drop f k hlt, Ex.chk_cons]))
      obtain ⟨l1, l2, l3⟩ := hL f[k] (List.getElem_mem hlt)
      clear hc0 hc1 hc2 HR
      generalize f[k] = u at *
      have hbw := hb.alloc hb.size (.cells #[.int .i64 u.kind, .string (str u.text), .int .u32 u.n] 42)
      have hcall := opr_any u l1 l2 l3 (wr.alloc (.cells #[.int .i64 u.kind, .string (str u.text), .int .u32 u.n] 42))
      have hlo := Ex.opr_lo l2
      rw [oprV_def] at hcall
      cases hq : (Ex.opr u).2 with
      | false =>
        rw [hq] at hcall
        have HT := Lib.hid (HD.out.trans (if_neg (fun h => by rw [hq] at h; cases h.1)))
        generalize (Ex.opr u).1 = t at *
        clear HD hq
        go_wp2_with fail
        with_reducible refine hcall.mono ?_
        clear hcall
        rintro e w2 ⟨rfl, hb2⟩
        go_wp2_with fail
        go_ret
        exact ⟨by rw [HT.out]; rfl, hbw.trans (hb2.mono hbw.size)⟩
      | true =>
        rw [hq] at hcall
        by_cases hle : (Ex.opr u).1 ≤ m
        · have HT := Lib.hid (HD.out.trans (if_pos ⟨hq, hle⟩))
          generalize (Ex.opr u).1 = t at *
          have q1 : decide (m < t) = false := by simp; omega
          clear HD hq
          go_wp2_with fail
          with_reducible refine hcall.mono ?_
          clear hcall
          rintro e w2 ⟨rfl, hb2⟩
          have hb3 := hbw.trans (hb2.mono hbw.size)
          go_wp2_with fail
          go_roundw
          case rel => exact ⟨k + 1, m + (1 - t), by omega, by omega, by omega, by go_num, by go_num, HT.out, hb3⟩
          case measure => simp [intOf]; omega
        · have HT := Lib.hid (HD.out.trans (if_neg (fun h => hle h.2)))
          generalize (Ex.opr u).1 = t at *
          have q1 : decide (m < t) = true := by simp; omega
          clear HD hq
          go_wp2_with fail
          with_reducible refine hcall.mono ?_
          clear hcall
          rintro e w2 ⟨rfl, hb2⟩
          go_wp2_with fail
          go_ret
          exact ⟨by rw [HT.out]; rfl, hbw.trans (hb2.mono hbw.size)⟩
    · have b1 : decide ((k : Int) < f.length) = false := by simp; omega
      have b1n : decide (k < f.length) = false := by simp; omega
      have HT := Lib.hid (show R = if m = 1 then 0 else 1 by rw [HR.out, List.drop_of_length_le (by omega)]; rfl)
      clear HR
      by_cases h1 : m = 1
      · have q1 : (m != 1) = false := by rw [h1]; rfl
        have HT2 := Lib.hid (HT.out.trans (if_pos h1))
        clear HT h1
        go_wp2_with fail
        go_ret
        exact ⟨by rw [HT2.out]; rfl, hb⟩
      · have q1 : (m != 1) = true := by rw [bne_iff_ne]; exact h1
        have HT2 := Lib.hid (HT.out.trans (if_neg h1))
        clear HT h1
        go_wp2_with fail
        go_ret
        exact ⟨by rw [HT2.out]; rfl, hb⟩
set_option maxHeartbeats 4000000 in
set_option maxRecDepth 100000 in
theorem areNumbers_any (A : Option Addr) (c : Nat) (f : List Ex.Op) (w : World) (hA : OpsAt w w.heap.size A f) (hl : f.length ≤ 1000000000) :
    Calls Tryz.prog 39 #[.slice A f.length c] w fun x w' => x = .returned (.bool (f.all Ex.isNum)) ∧ Below w.heap.size w w' := by
  have HR := Lib.hid (show f.all Ex.isNum = (f.drop 0).all Ex.isNum from rfl)
  generalize f.all Ex.isNum = R at *
  go_enter Tryz.func39, Tryz.ntmps39
  go_wp2_with fail
  go_loopw [7] (fun i wr => ∃ (k : Nat), k ≤ f.length ∧ i = .int .i64 k ∧ R = (f.drop k).all Ex.isNum ∧ Below w.heap.size w wr) (fun i _ => f.length - (intOf i).toNat)
  case atStart => exact ⟨0, by omega, rfl, HR.out, Below.refl _ _⟩
  case round =>
    clear HR
    obtain ⟨k, hk, rfl, hR, hb⟩ := hrel
    have HR := Lib.hid hR
    clear hR
    by_cases hlt : k < f.length
    · have b1 : decide ((k : Int) < f.length) = true := by simp; omega
      have b1n : decide (k < f.length) = true := by simp; omega
      obtain ⟨g, o, rfl, hg, hc0, hc1, hc2⟩ := hA k hlt
      have hd0 := (hb.cell (p := ⟨g, o + k * 3, none⟩) hg).trans hc0
      have hd1 := (hb.cell (p := ⟨g, o + k * 3 + 1, none⟩) hg).trans hc1
      have hd2 := (hb.cell (p := ⟨g, o + k * 3 + 2, none⟩) hg).trans hc2
      have HD := Lib.hid (HR.out.trans (by rw [list_drop f k hlt, List.all_cons]))
      clear hc0 hc1 hc2 HR
      generalize f[k] = u at *
      have hbw := hb.alloc hb.size (.cells #[.int .i64 u.kind, .string (str u.text), .int .u32 u.n] 42)
      by_cases h1 : u.kind = 1
      · have q1 : (u.kind != 1) = false := by rw [h1]; rfl
        have HT := Lib.hid (HD.out.trans (by rw [show Ex.isNum u = true by unfold Ex.isNum; rw [h1]; rfl, Bool.true_and]))
        clear HD h1
        go_wp2_with fail
        go_roundw
        case rel => exact ⟨k + 1, by omega, by go_num, HT.out, hbw⟩
        case measure => simp [intOf]; omega
      · have q1 : (u.kind != 1) = true := by rw [bne_iff_ne]; exact h1
        have HT := Lib.hid (HD.out.trans (by rw [show Ex.isNum u = false by unfold Ex.isNum; rw [beq_eq_false_iff_ne]; exact h1, Bool.false_and]))
        clear HD h1
        go_wp2_with fail
        go_ret
        exact ⟨by rw [HT.out]; rfl, hbw⟩
    · have b1 : decide ((k : Int) < f.length) = false := by simp; omega
      have b1n : decide (k < f.length) = false := by simp; omega
      have HT := Lib.hid (show R = true by rw [HR.out, List.drop_of_length_le (by omega)]; rfl)
      clear HR
      go_wp2_with fail
      go_ret
      exact ⟨by rw [HT.out]; rfl, hb⟩
end Go.Proofs.YtndehkoglgakpaaGreatDoor
