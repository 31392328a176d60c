/- Select of the reference. No condition but the lengths. -/
import Derived.Test.YtkmldaelgbkfbaaDoorQse
namespace Go.Proofs.YtkmldaelgbkfbaaDoor
open Go.RowKit Go.Deep
namespace Wn
theorem own_in {w : World} {B : Nat} {v : Value} {l : List Int} (h : w.ownsRow B 3 1 v l.length (Gr.insV l)) : ∃ A c, v = .slice A l.length c ∧ l.length ≤ c ∧ c ≤ maxLen ∧ Gr.InAt w w.heap.size A l := Gr.own_el Gr.inV 1 Gr.inV_len h
theorem own_empty (w : World) (B : Nat) (hB : B ≤ w.heap.size) (T : TypeId) (size : Nat) : (w.alloc (.cells #[] T)).ownsRow B T size (.slice (some ⟨w.heap.size, 0, none⟩) 0 0) 0 [] :=
  ⟨by simp, .inr ⟨w.heap.size, 0, #[], rfl, hB, heap_alloc_new w _, Nat.le_refl _, by unfold maxLen; omega, by simp, by simp⟩⟩
set_option maxHeartbeats 8000000 in
set_option maxRecDepth 100000 in
theorem qselect_any (l : List Int) (n : Int) (A : Option Addr) (c : Nat) (w : World) (hA : Gr.InAt w w.heap.size A l) (hl : l.length ≤ 100000) :
    Calls Tryd.prog 25 #[.slice A l.length c, .int .i64 n] w (GotI w (selL l n) (selE l n)) := by
  obtain ⟨i0, hi0, hz0, hz1, hz2⟩ := info_parts infoIn
  have HL := Lib.hid (show selL l n = if sz n = true ∧ l.length ≤ 8192 then ints (sel l n.toNat (l.length + 1 - n.toNat)) else [] from rfl)
  have HE := Lib.hid (show selE l n = if sz n = true then if 8192 < l.length then 10 else 0 else 3 from rfl)
  generalize selL l n = L at *
  generalize selE l n = E at *
  have c1 := qsize_any n w
  cases hz : sz n with
  | false =>
    rw [hz] at c1
    have HT := Lib.hid (show L = [] ∧ E = 3 from ⟨by rw [HL.out, hz, if_neg (by simp)], by rw [HE.out, hz, if_neg (by simp)]⟩)
    clear HL HE hz
    go_enter Tryd.func25, Tryd.ntmps25
    go_wp2_with (go_at_call 23; (with_reducible refine c1.mono ?_); rintro e w' ⟨rfl, rfl⟩)
    go_ret2
    exact ⟨none, 0, by rw [HT.out.1, HT.out.2]; rfl, by rw [HT.out.1]; exact Nat.le_refl _, by unfold maxLen; omega, by rw [HT.out.1]; exact Gr.ElAt.nil _ _ _ _ _, Below.refl _ _⟩
  | true =>
  rw [hz] at c1
  obtain ⟨K, rfl, hK1, hK2⟩ := sz_of hz
  by_cases h8 : 8192 < l.length
  · have b8 : decide ((8192 : Int) < (l.length : Int)) = true := decide_eq_true (by omega)
    have b8n : decide (8192 < l.length) = true := decide_eq_true h8
    have HT := Lib.hid (show L = [] ∧ E = 10 from ⟨by rw [HL.out, if_neg (fun h => by omega)], by rw [HE.out, hz, if_pos rfl, if_pos h8]⟩)
    clear HL HE hz h8
    go_enter Tryd.func25, Tryd.ntmps25
    go_wp2_with (go_at_call 23; (with_reducible refine c1.mono ?_); rintro e w' ⟨rfl, rfl⟩)
    go_ret2
    exact ⟨none, 0, by rw [HT.out.1, HT.out.2]; rfl, by rw [HT.out.1]; exact Nat.le_refl _, by unfold maxLen; omega, by rw [HT.out.1]; exact Gr.ElAt.nil _ _ _ _ _, Below.refl _ _⟩
  have b8 : decide ((8192 : Int) < (l.length : Int)) = false := decide_eq_false (by omega)
  have b8n : decide (8192 < l.length) = false := decide_eq_false h8
  have HT := Lib.hid (show L = ints (sel l K (l.length + 1 - K)) ∧ E = 0 from ⟨by rw [HL.out, if_pos ⟨hz, by omega⟩]; rfl, by rw [HE.out, hz, if_pos rfl, if_neg h8]⟩)
  have HKK := Lib.hid (show 1 ≤ K ∧ K ≤ 1024 ∧ l.length ≤ 8192 from ⟨hK1, hK2, by omega⟩)
  have HAA := Lib.hid hA
  clear HL HE hz h8 hK1 hK2 hA
  go_enter Tryd.func25, Tryd.ntmps25
  go_wp2_with (go_at_call 23; (with_reducible refine c1.mono ?_); rintro e w' ⟨rfl, rfl⟩)
  clear c1
  go_loopw [6, 7] (fun s6 s7 wr => ∃ (i : Nat) (sv : Value), sv = s6 ∧ s7 = .int .i64 i ∧ i ≤ l.length + 1 - K ∧ wr.ownsRow w.heap.size 3 1 sv (sel l K i).length (Gr.insV (ints (sel l K i))) ∧ Below w.heap.size w wr) (fun _ s7 _ => l.length + 1 - K - (intOf s7).toNat)
  case atStart => exact ⟨0, _, rfl, rfl, by omega, own_empty w w.heap.size (Nat.le_refl _) _ _, (Below.refl _ _).alloc (Nat.le_refl _) _⟩
  case round =>
    obtain ⟨i, sv, rfl, rfl, hi, hown, hb⟩ := hrel
    have hKK := HKK.out
    have t5 : IntKind.i64.wrap ((i : Int) + (K : Int)) = (i : Int) + (K : Int) := by rw [IntKind.wrap_i64]; omega
    obtain ⟨Q, hQ⟩ : ∃ Q, Q = i + K := ⟨_, rfl⟩
    have t6 : IntKind.i64.wrap ((i : Int) + (K : Int)) = (Q : Int) := by rw [t5]; omega
    clear t5
    by_cases hlt : i + K ≤ l.length
    · have b1 : decide ((Q : Int) ≤ (l.length : Int)) = true := decide_eq_true (by omega)
      have b1n : decide (Q ≤ l.length) = true := decide_eq_true (by omega)
      have cc := qleast_any l i K A c wr (HAA.out.next hb) hl (by omega) hlt
      rw [← hQ] at cc
      have HSEL := Lib.hid (sel_step l K i)
      have HASC := Lib.hid (show i = 0 ∨ (sel l K i).getLast? = some (lst l i K) ∨ ∀ x, x ∈ sel l K i → x < lst l i K from by
        cases i with
        | zero => exact .inl rfl
        | succ i => exact .inr (sel_new l K (by omega) i))
      have HK := Lib.hid (show i + 1 ≤ l.length + 1 - K ∧ i ≤ 8192 ∧ (sel l K i).length ≤ i ∧ (i = 0 ∨ 0 < (sel l K i).length) from ⟨by omega, by omega, sel_len l K i, (Nat.eq_zero_or_pos i).elim .inl fun h => .inr (sel_pos l K i h)⟩)
      have hik : i ≤ 8192 := HK.out.2.1
      generalize lst l i K = y at *
      have HO := Lib.hid hown
      have HB := Lib.hid hb
      have HSZ0 := Lib.hid (show i = 0 → sel l K i = [] from fun h => by rw [h]; rfl)
      generalize sel l K i = S at *
      clear hown hb hlt hi hKK hQ
      go_upto_region 10 with ((with_reducible refine cc.mono ?_); rintro e w5 ⟨rfl, hb5⟩)
      have hown4 := own_below HO.out hb5
      have hb04 := HB.out.trans (hb5.mono HB.out.size)
      have hsz := hb04.size
      clear HO HB hb5 cc b1 b1n t6
      obtain ⟨As, cs, rfl, -, -, hin⟩ := own_in (show w5.ownsRow w.heap.size 3 1 sv (ints S).length (Gr.insV (ints S)) by rw [ints_len]; exact hown4)
      rw [ints_len] at hown4 ⊢
      cases S with
      | nil =>
        have HAP := Lib.hid (show sel l K (i + 1) = [] ++ [y] by rw [HSEL.out]; simp)
        clear HSEL HASC HSZ0 hin
        go_upto_region 11 with (fail)
        have hown4 : w5.ownsRow w.heap.size 3 1 (.slice As 0 cs) 0 [] := hown4
        go_wp2_with (at_builtin; refine wpList_append_own_wide _ (by rfl) _ _ 47 (by rfl) w.heap.size 3 i0 _ 1 8 Tryd.underlying47 hi0 hz0 hz1 hz2 rfl (by omega) _ _ _ (by rfl) (hown4.alloc _) ⟨w5.heap.size, 0, none⟩ 1 1 [_] (by rfl) (by rfl) (World.news_of_block (cs := #[_]) (t := 3) (fr := (0, 0)) (heap_alloc_new w5 _)) (by simp [Value.oneCell']) (by unfold maxLen; omega) (by omega) (by simp; omega) ?_; intro v6 w6 hown6 hgrow6 _)
        have HO := Lib.hid hown6
        have HB4 := Lib.hid (below_grown (hb04.alloc hsz _) (by simp; omega) (hown4.alloc _) hgrow6)
        clear hown6 hgrow6 hown4 hb04
        go_wp2_with fail
        go_roundw
        case rel => exact ⟨i + 1, _, rfl, by go_num, HK.out.1, by rw [HAP.out, ints_app, Gr.insV_app, List.length_append]; exact HO.out, HB4.out⟩
        case measure => have := HK.out; simp [intOf]; omega
      | cons x t =>
      obtain ⟨m, hm⟩ : ∃ m, (x :: t).length = m + 1 := ⟨t.length, rfl⟩
      obtain ⟨z, hz⟩ : ∃ z, (x :: t).getLast? = some z := ⟨(x :: t).getLast (by simp), List.getLast?_eq_some_getLast (by simp)⟩
      obtain ⟨gs, os, rfl, hgs, hcs0⟩ := in_at hin (by rw [ints_len]; simp)
      have hcs : w5.cell? ⟨gs, os + m, none⟩ = some (.int .i64 (z : Int)) := by
        rw [hcs0 m (by rw [ints_len]; omega), List.getD_eq_getElem?_getD, List.getElem?_eq_getElem (by rw [ints_len]; omega), ints_get _ _ (by omega)]
        rw [List.getLast?_eq_getElem?, show (x :: t).length - 1 = m by omega, List.getElem?_eq_getElem (by omega)] at hz
        rw [← Option.some.inj hz]
        rfl
      have hyz : z = y ∨ z < y := by
        rcases HASC.out with h | h | h
        · exact absurd (HSZ0.out h) (by simp)
        · rw [hz] at h; exact .inl (Option.some.inj h)
        · exact .inr (h z (List.mem_of_getLast? hz))
      have hm8 : m ≤ 8192 := by have := HK.out; omega
      generalize (x :: t) = S at *
      rw [hm] at hown4 ⊢
      have HM := Lib.hid hm
      have HOWN := Lib.hid hown4
      have HBB := Lib.hid hb04
      have u1 : IntKind.i64.wrap (((m + 1 : Nat) : Int) - 1) = (m : Int) := by rw [IntKind.wrap_i64]; omega
      have u2 : (m : Int) < ((m + 1 : Nat) : Int) := by omega
      have u4 : ((m : Int) + 1 == 0) = false := by rw [beq_eq_false_iff_ne]; omega
      have u5 : decide ((m : Int) + 1 = 0) = false := decide_eq_false (by omega)
      have u6 : wrap64 (m : Int) = (m : Int) := by unfold wrap64; omega
      by_cases hzy : z = y
      · have HAP := Lib.hid (show sel l K (i + 1) = S by rw [HSEL.out, if_pos (by rw [hz, hzy])])
        have d3 : decide ((z : Int) < (y : Int)) = false := decide_eq_false (by omega)
        have d3n : decide (z < y) = false := decide_eq_false (by omega)
        clear HSEL hz hzy hyz hcs0 hin hm hown4 hb04 HASC HSZ0
        go_upto_region 8 with (fail)
        clear u1 u2 u4 u5 u6 d3 d3n hcs
        go_wp2_with fail
        go_roundw
        case rel => exact ⟨i + 1, _, rfl, by go_num, HK.out.1, by rw [HAP.out, HM.out]; exact HOWN.out, HBB.out⟩
        case measure => have := HK.out; simp [intOf]; omega
      · have HAP := Lib.hid (show sel l K (i + 1) = S ++ [y] by rw [HSEL.out, if_neg (by rw [hz]; exact fun e => hzy (Option.some.inj e))])
        have d3 : decide ((z : Int) < (y : Int)) = true := decide_eq_true (by omega)
        have d3n : decide (z < y) = true := decide_eq_true (by omega)
        clear HSEL hz hzy hyz hcs0 hin hm hown4 hb04 HASC HSZ0
        go_upto_region 11 with (fail)
        clear u1 u2 u4 u5 u6 d3 d3n hcs
        have hown4 := HOWN.out
        have hb04 := HBB.out
        go_wp2_with (at_builtin; refine wpList_append_own_wide _ (by rfl) _ _ 47 (by rfl) w.heap.size 3 i0 _ 1 8 Tryd.underlying47 hi0 hz0 hz1 hz2 rfl (by omega) _ _ _ (by rfl) (hown4.alloc _) ⟨w5.heap.size, 0, none⟩ 1 1 [_] (by rfl) (by rfl) (World.news_of_block (cs := #[_]) (t := 3) (fr := (0, 0)) (heap_alloc_new w5 _)) (by simp [Value.oneCell']) (by unfold maxLen; omega) (by omega) (by simp; omega) ?_; intro v6 w6 hown6 hgrow6 _)
        have HO := Lib.hid hown6
        have HB4 := Lib.hid (below_grown (hb04.alloc hsz _) (by simp; omega) (hown4.alloc _) hgrow6)
        clear hown6 hgrow6 hown4 hb04
        go_wp2_with fail
        go_roundw
        case rel => exact ⟨i + 1, _, rfl, by go_num, HK.out.1, by rw [HAP.out, ints_app, Gr.insV_app, List.length_append, HM.out]; exact HO.out, HB4.out⟩
        case measure => have := HK.out; simp [intOf]; omega
    · have b1 : decide ((Q : Int) ≤ (l.length : Int)) = false := decide_eq_false (by omega)
      have b1n : decide (Q ≤ l.length) = false := decide_eq_false (by omega)
      have HIN := Lib.hid (show l.length + 1 - K = i by omega)
      obtain ⟨As, cs, rfl, h1, h2, h3⟩ := own_in (show wr.ownsRow w.heap.size 3 1 sv (ints (sel l K i)).length (Gr.insV (ints (sel l K i))) by rw [ints_len]; exact hown)
      have HR := Lib.hid h3
      have HC := Lib.hid (And.intro h1 h2)
      have HB := Lib.hid hb
      clear hown hb h1 h2 h3 hi hlt hKK hQ
      go_wp2_with fail
      go_ret2
      rw [HT.out.1, HT.out.2, HIN.out]
      exact ⟨As, cs, rfl, HC.out.1, HC.out.2, HR.out, HB.out⟩
end Wn
end Go.Proofs.YtkmldaelgbkfbaaDoor
