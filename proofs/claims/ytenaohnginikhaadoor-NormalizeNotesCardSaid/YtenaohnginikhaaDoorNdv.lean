/- The words of a line: divide of the program. No condition but the length. -/
import Derived.Test.YtenaohnginikhaaDoorNld
import Derived.Test.YtenaohnginikhaaDoorNrp
namespace Go.Proofs.YtenaohnginikhaaDoor
open Go.RowKit Go.Deep Tr
namespace Nm
/-- How many bytes stand at the beginning of a line for one word, or a blank. -/
def wid (s : List UInt8) : Nat := max 1 (lead s)
def one (s : List UInt8) : List (List UInt8) := if (s.take (wid s)).any isBl = true then [] else [s.take (wid s)]
def dv : Nat → List UInt8 → List (List UInt8)
  | 0, _ => []
  | f + 1, s => if s = [] then [] else one s ++ dv f (s.drop (wid s))
/-- The words of a line. -/
def div (s : List UInt8) : List (List UInt8) := dv s.length s
theorem wid_pos (s : List UInt8) : 1 ≤ wid s := Nat.le_max_left _ _
theorem lead_le (s : List UInt8) : lead s ≤ s.length := (List.takeWhile_prefix (l := s) isLt).length_le
theorem wid_le {s : List UInt8} (h : s ≠ []) : wid s ≤ s.length := by
  have := List.length_pos_iff.2 h
  have := lead_le s
  unfold wid; omega
theorem dv_fuel : ∀ f g s, s.length ≤ f → s.length ≤ g → dv f s = dv g s := by
  intro f
  induction f with
  | zero =>
    intro g s hf hg
    have : s = [] := List.length_eq_zero_iff.1 (by omega)
    subst this
    cases g <;> rfl
  | succ f ih =>
    intro g s hf hg
    by_cases hs : s = []
    · subst hs; cases g <;> rfl
    · have := List.length_pos_iff.2 hs
      have := wid_pos s
      obtain ⟨g, rfl⟩ : ∃ g', g = g' + 1 := ⟨g - 1, by omega⟩
      rw [dv, dv, if_neg hs, if_neg hs, ih g _ (by rw [List.length_drop]; omega) (by rw [List.length_drop]; omega)]
theorem div_nil : div [] = [] := rfl
theorem div_next {s : List UInt8} (h : s ≠ []) : div s = one s ++ div (s.drop (wid s)) := by
  have := List.length_pos_iff.2 h
  have := wid_pos s
  unfold div
  obtain ⟨n, hn⟩ : ∃ n, s.length = n + 1 := ⟨s.length - 1, by omega⟩
  conv => lhs; rw [hn, dv, if_neg h]
  rw [dv_fuel n _ _ (by rw [List.length_drop]; omega) (Nat.le_refl _)]
theorem one_len (s : List UInt8) : (one s).length ≤ 1 := by unfold one; split <;> simp
theorem dv_len : ∀ f s, (dv f s).length ≤ s.length := by
  intro f
  induction f with
  | zero => intro s; exact Nat.zero_le _
  | succ f ih =>
    intro s
    rw [dv]
    split
    · exact Nat.zero_le _
    · rename_i h
      have h1 := List.length_pos_iff.2 h
      have h2 := one_len s
      have h3 := ih (s.drop (wid s))
      have h4 := wid_pos s
      rw [List.length_append]
      rw [List.length_drop] at h3
      omega
theorem div_len (s : List UInt8) : (div s).length ≤ s.length := dv_len _ s
/-- Each word is one. -/
theorem dv_ok : ∀ f s, ∀ x ∈ dv f s, isW x = true ∧ x.length ≤ s.length := by
  intro f
  induction f with
  | zero => intro s x hx; cases hx
  | succ f ih =>
    intro s x hx
    rw [dv] at hx
    split at hx
    · cases hx
    · rename_i h
      rcases List.mem_append.1 hx with hx | hx
      · unfold one at hx
        split at hx
        · cases hx
        · rename_i hb
          rw [List.mem_singleton.1 hx]
          have h1 := wid_le h
          have h2 := wid_pos s
          have h3 : (s.take (wid s)).length = wid s := by rw [List.length_take]; omega
          refine ⟨?_, by omega⟩
          unfold isW
          rw [Bool.and_eq_true]
          refine ⟨?_, by simpa using hb⟩
          rw [Bool.not_eq_true', List.isEmpty_eq_false_iff]
          intro e
          rw [e] at h3
          simp at h3; omega
      · obtain ⟨h1, h2⟩ := ih _ x hx
        rw [List.length_drop] at h2
        exact ⟨h1, by omega⟩
theorem div_ok (s : List UInt8) : ∀ x ∈ div s, isW x = true ∧ x.length ≤ s.length := dv_ok _ s
theorem str_nil : str [] = ⟨#[]⟩ := rfl
set_option maxHeartbeats 8000000 in
set_option maxRecDepth 100000 in
theorem divide_any (s : ByteArray) (w : World) (hs : s.size ≤ 1000000) :
    Calls Tryd.prog 28 #[.string s] w (GotSs w (div s.data.toList)) := by
  obtain ⟨i0, hi0, hz0, hz1, hz2⟩ := info_parts infoStr
  have HV := Lib.hid (show div s.data.toList = [] ++ div s.data.toList from rfl)
  have HSD := Lib.hid (str_of s)
  generalize hV : div s.data.toList = V at *
  have HV0 := Lib.hid hV
  clear hV
  go_enter Tryd.func28, Tryd.ntmps28
  go_wp2_with fail
  go_loopw [0, 3] (fun s0 s3 wr => ∃ (r : List UInt8) (O : List (List UInt8)), s0 = .string (str r) ∧ O.length + r.length ≤ s.size ∧ V = O ++ div r ∧ wr.ownsRow w.heap.size 9 1 s3 O.length (Ls.stsV O) ∧ Below w.heap.size w wr) (fun s0 _ _ => match s0 with | .string x => x.size | _ => 0)
  case atStart => exact ⟨s.data.toList, [], by rw [HSD.out], by rw [size_data]; simp, by rw [HV0.out]; rfl, World.ownsRow_nil _ _ _ _, Below.refl _ _⟩
  case round =>
    clear HV HV0 HSD
    obtain ⟨r, O, rfl, hOr, hS, hown, hb⟩ := hrel
    have hwX := hb.size
    obtain ⟨A3, c3, rfl, hc3, hm3, hEl⟩ := Ls.own_el (l := O) Ls.stV 1 Ls.stV_len hown
    by_cases hr : r = []
    · subst hr
      have HR := Lib.hid (show V = O by rw [hS, div_nil, List.append_nil])
      have HO := Lib.hid hEl
      have HKD := Lib.hid (show ∀ g o, A3 = some ⟨g, o, none⟩ → ∃ cs fr, wr.heap[g]? = some (.cells cs 9 fr) from fun g o h => by subst h; exact Lib.ownsRow_kind hown g rfl)
      have HB := Lib.hid hb
      rw [str_nil]
      clear hS hown hb hEl hOr
      go_wp2_with fail
      go_ret
      exact ⟨A3, c3, by rw [HR.out]; rfl, by rw [HR.out]; exact HO.out, HKD.out, HB.out⟩
    have hrp := List.length_pos_iff.2 hr
    have q1 : ((str r).toList == ([] : List UInt8)) = false := by rw [strL, beq_eq_false_iff_ne]; exact hr
    have q2 : ((str r).toList != ([] : List UInt8)) = true := by rw [strL, bne_iff_ne]; exact hr
    have q3 : (str r).toList.isEmpty = false := by rw [strL, List.isEmpty_eq_false_iff]; exact hr
    have hsz := str_size r
    have hwl := wid_le hr
    have hwp := wid_pos r
    have c1 := leading_any (str r) wr
    rw [str_data] at c1
    have hmx : wid r = max 1 (lead r) := rfl
    have HN := Lib.hid (div_next hr)
    have HX1 := Lib.hid (show (str r).extract 0 (wid r) = str (r.take (wid r)) by rw [ext_take, str_data])
    have HX2 := Lib.hid (show (str r).extract (wid r) (str r).size = str (r.drop (wid r)) by rw [ext_drop, str_data])
    have HONE := Lib.hid (show one r = if (r.take (wid r)).any isBl = true then [] else [r.take (wid r)] from rfl)
    have hcast : max (1 : Int) ((lead r : Nat) : Int) = ((wid r : Nat) : Int) := by rw [hmx]; omega
    clear hmx
    generalize lead r = ld at *
    generalize wid r = n at *
    have k2 : ((n : Int) ≤ (r.length : Int)) := by omega
    go_wp2_with fail
    (with_reducible refine c1.mono ?_); rintro e w1 ⟨rfl, hb1⟩
    have hbB := hb.trans (hb1.mono hwX)
    have ho1 := own_below hown hb1
    clear c1 hb1 hown hb hEl
    have c2 := hasBlank_any (str (r.take n)) w1
    rw [str_data] at c2
    have HB0 := Lib.hid hbB
    have HX3 := HX1.out
    have HX4 : (str r).extract n r.length = str (r.drop n) := by rw [← hsz]; exact HX2.out
    clear hbB HX1 HX2
    by_cases hbl : (r.take n).any isBl = true
    · rw [hbl] at c2
      have HR := Lib.hid (show V = O ++ div (r.drop n) by rw [hS, HN.out, HONE.out, if_pos hbl, List.nil_append])
      clear hS hbl HN HONE
      go_wp2_with fail
      (with_reducible refine c2.mono ?_); rintro e w2 ⟨rfl, hb2⟩
      have HO := Lib.hid (own_below ho1 hb2)
      have HB := Lib.hid (HB0.out.trans (hb2.mono HB0.out.size))
      clear c2 hb2 ho1
      go_wp2_with fail
      go_roundw
      case rel => exact ⟨r.drop n, O, rfl, by rw [List.length_drop]; omega, HR.out, HO.out, HB.out⟩
      case measure => simp [str_size]; omega
    · rw [Bool.not_eq_true] at hbl
      rw [hbl] at c2
      have HR := Lib.hid (show V = (O ++ [r.take n]) ++ div (r.drop n) by rw [hS, HN.out, HONE.out, if_neg (by rw [hbl]; decide), List.append_assoc])
      clear hS hbl HN HONE
      go_wp2_with fail
      (with_reducible refine c2.mono ?_); rintro e w2 ⟨rfl, hb2⟩
      have hown := own_below ho1 hb2
      have hb := HB0.out.trans (hb2.mono HB0.out.size)
      have hw2 := hb.size
      clear c2 hb2 ho1 HB0
      go_wp2_with (at_builtin; refine wpList_append_lies _ (by rfl) _ _ 45 (by rfl) w.heap.size 9 i0 _ 1 16 Tryd.underlying45 hi0 hz0 hz1 hz2 rfl (by omega) (.slice A3 O.length c3) O.length _ (by rfl) (hown.alloc _) ⟨w2.heap.size, 0, none⟩ 1 1 [_] (by rfl) (by rfl) (World.news_of_block (cs := #[_]) (t := 9) (fr := (0, 0)) (heap_alloc_new w2 _)) (by simp [Value.oneCell']) (by omega) (by unfold maxLen; omega) (by omega) (by simp; omega) (w2.heap.size + 1) (by simp) ?_; intro gg cap w6 hown6 hgrow hat hlt6)
      have hb6 := below_grown (hb.alloc (by omega) _) (by simp; omega) (hown.alloc _) hgrow
      have HO := Lib.hid hown6
      have H6 := Lib.hid hb6
      clear hown6 hb6 hgrow hat hlt6 hown hb
      go_wp2_with fail
      go_roundw
      case rel => exact ⟨r.drop n, _, rfl, by rw [List.length_append, List.length_singleton, List.length_drop]; omega, HR.out, by rw [Ls.stsV_snoc, List.length_append, List.length_singleton]; exact HO.out, H6.out⟩
      case measure => simp [str_size]; omega
end Nm
end Go.Proofs.YtenaohnginikhaaDoor
