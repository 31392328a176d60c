/- Whether a path is below another one, on both sides. No condition but the strings' lengths. -/
import Derived.Test.YtinkpbobkeppiaaGreatDoorPat
namespace Go.Proofs.YtinkpbobkeppiaaGreatDoor
open Go.RowKit

theorem below_pre (p d : List UInt8) : Tre.below p d = (Lib.hasPrefix p d && Lib.hasPrefix (p.drop d.length) [47]) := by
  unfold Tre.below Lib.hasPrefix
  by_cases hd : d <+: p
  · obtain ⟨r, rfl⟩ := hd
    cases r with
    | nil => simp
    | cons a r =>
      have h3 : d.isPrefixOf (d ++ a :: r) = true := by rw [List.isPrefixOf_iff_prefix]; exact ⟨_, rfl⟩
      rw [h3, Bool.eq_iff_iff]
      simp [List.isPrefixOf]
      exact eq_comm
  · have h1 : d.isPrefixOf p = false := by
      rw [Bool.eq_false_iff, ne_eq, List.isPrefixOf_iff_prefix]; exact hd
    have h2 : (p.take d.length == d) = false := by
      rw [beq_eq_false_iff_ne]
      intro e
      exact hd (List.prefix_iff_eq_take.2 e.symm)
    rw [h1, h2]; simp
theorem below_drop (p d : List UInt8) (h : Tre.below p d = true) : d.length < p.length ∧ p.take d.length = d ∧ p[d.length]? = some 47 := by
  unfold Tre.below at h
  simp only [Bool.and_eq_true, decide_eq_true_iff, beq_iff_eq] at h
  exact ⟨h.1.1, h.1.2, h.2⟩
theorem trim_hit (p d : List UInt8) (h : Lib.hasPrefix p d = true) : Lib.trimPrefix p d = p.drop d.length := if_pos h
/-- What inside returns. -/
def insideV (p d : List UInt8) : Value := .tuple #[.string (if Tre.below p d = true then str (p.drop (d.length + 1)) else ⟨#[]⟩), .bool (Tre.below p d)]
set_option maxHeartbeats 4000000 in
set_option maxRecDepth 100000 in
theorem inside_any (p d : ByteArray) (w : World) :
    Calls Tryz.prog 61 #[.string p, .string d] w fun e w' => e = .returned (insideV p.data.toList d.data.toList) ∧ w = w' := by
  have hc : ∀ s q w, Calls Tryz.prog 82 #[.string s, .string q] w fun e w' => e = .returned (.tuple #[.string (str (Lib.trimPrefix s.data.toList q.data.toList)), .bool (Lib.hasPrefix s.data.toList q.data.toList)]) ∧ w = w' := fun s q w => (Tryz.strings_CutPrefix s q w).mono fun e w' h => ⟨h.1, h.2.symm⟩
  have h1 := hc p d
  have hpre := below_pre p.data.toList d.data.toList
  have hdef : insideV p.data.toList d.data.toList = .tuple #[.string (if Tre.below p.data.toList d.data.toList = true then str (p.data.toList.drop (d.data.toList.length + 1)) else ⟨#[]⟩), .bool (Tre.below p.data.toList d.data.toList)] := rfl
  have HD := Lib.hid hdef
  clear hdef
  generalize insideV p.data.toList d.data.toList = v at *
  cases ha : Lib.hasPrefix p.data.toList d.data.toList with
  | false =>
    rw [ha] at h1 hpre
    have h2 := fun w => hc (str (Lib.trimPrefix p.data.toList d.data.toList)) ⟨#[47]⟩ w
    have HT := Lib.hid (show v = .tuple #[.string ⟨#[]⟩, .bool false] by rw [HD.out, hpre]; rfl)
    clear HD hpre ha hc
    generalize Lib.trimPrefix p.data.toList d.data.toList = t at *
    generalize Lib.trimPrefix (str t).data.toList _ = t2 at *
    generalize Lib.hasPrefix (str t).data.toList _ = b2 at *
    go_enter Tryz.func61, Tryz.ntmps61
    go_wp2_with fail
    with_reducible refine (h1 _).mono ?_
    rintro e w' ⟨rfl, rfl⟩
    go_wp2_with fail
    with_reducible refine (h2 _).mono ?_
    rintro e w' ⟨rfl, rfl⟩
    cases b2 <;> (go_wp2_with fail; go_ret2; exact ⟨by rw [HT.out]; rfl, rfl⟩)
  | true =>
    rw [ha, trim_hit _ _ ha] at h1
    rw [ha, Bool.true_and] at hpre
    have h2 := fun w => hc (str (p.data.toList.drop d.data.toList.length)) ⟨#[47]⟩ w
    rw [show (⟨#[47]⟩ : ByteArray).data.toList = [47] from rfl, str_data, ← hpre] at h2
    have htr : Tre.below p.data.toList d.data.toList = true → Lib.trimPrefix (p.data.toList.drop d.data.toList.length) [47] = p.data.toList.drop (d.data.toList.length + 1) := fun hb => by
      rw [trim_hit _ _ (by rw [← hpre]; exact hb), List.drop_drop]; rfl
    clear hpre ha hc
    cases hb : Tre.below p.data.toList d.data.toList with
    | true =>
      rw [htr hb, hb] at h2
      have HT := Lib.hid (show v = .tuple #[.string (str (p.data.toList.drop (d.data.toList.length + 1))), .bool true] by rw [HD.out, hb]; rfl)
      clear HD hb htr
      generalize p.data.toList.drop d.data.toList.length = t at *
      generalize p.data.toList.drop (d.data.toList.length + 1) = t2 at *
      go_enter Tryz.func61, Tryz.ntmps61
      go_wp2_with fail
      with_reducible refine (h1 _).mono ?_
      rintro e w' ⟨rfl, rfl⟩
      go_wp2_with fail
      with_reducible refine (h2 _).mono ?_
      rintro e w' ⟨rfl, rfl⟩
      go_wp2_with fail
      go_ret2
      exact ⟨by rw [HT.out]; rfl, rfl⟩
    | false =>
      rw [hb] at h2
      have HT := Lib.hid (show v = .tuple #[.string ⟨#[]⟩, .bool false] by rw [HD.out, hb]; rfl)
      clear HD hb htr
      generalize p.data.toList.drop d.data.toList.length = t at *
      generalize Lib.trimPrefix t [47] = t2 at *
      go_enter Tryz.func61, Tryz.ntmps61
      go_wp2_with fail
      with_reducible refine (h1 _).mono ?_
      rintro e w' ⟨rfl, rfl⟩
      go_wp2_with fail
      with_reducible refine (h2 _).mono ?_
      rintro e w' ⟨rfl, rfl⟩
      go_wp2_with fail
      go_ret2
      exact ⟨by rw [HT.out]; rfl, rfl⟩
theorem below_def (p d : List UInt8) : Tre.below p d = (decide (d.length < p.length) && (p.take d.length == d) && (p[d.length]? == some 47)) := rfl
set_option maxHeartbeats 4000000 in
set_option maxRecDepth 100000 in
theorem qBelow_any (p d : ByteArray) (w : World) :
    Calls Tryz.prog 50 #[.string p, .string d] w fun e w' => e = .returned (.bool (Tre.below p.data.toList d.data.toList)) ∧ w = w' := by
  have HV := Lib.hid (below_def p.data.toList d.data.toList)
  generalize Tre.below p.data.toList d.data.toList = v at *
  rw [size_data, size_data] at HV
  by_cases hlt : d.size < p.size
  · have b0 : decide ((d.size : Int) < p.size) = true := by simp; omega
    have b0n : decide (d.size < p.size) = true := by simp; omega
    have hg := get_d p d.size hlt
    have hx : (p.extract 0 d.size).toList = p.data.toList.take d.size := by rw [ByteArray.toList_eq, ext_take, str_data]
    have hdl : d.toList = d.data.toList := ByteArray.toList_eq d
    by_cases he : p.data.toList.take d.size = d.data.toList
    · have b1 : ((p.extract 0 d.size).toList == d.toList) = true := by rw [beq_iff_eq, hx, hdl]; exact he
      by_cases hc : p[d.size] = 47
      · have b2 : ((p[d.size].toNat : Int) == 47) = true := by rw [beq_iff_eq, hc]; rfl
        have b2n : (p[d.size].toNat == 47) = true := by rw [beq_iff_eq, hc]; rfl
        have HT := Lib.hid (show v = true by rw [HV.out, hg, he, hc]; simp; exact hlt)
        clear HV hg hx hdl he hc
        go_enter Tryz.func50, Tryz.ntmps50
        go_wp2_with fail
        go_ret
        exact ⟨ret_bool HT.out.symm, rfl⟩
      · have hcn : p[d.size].toNat ≠ 47 := nat_ne (k := 47) hc
        have b2 : ((p[d.size].toNat : Int) == 47) = false := by rw [beq_eq_false_iff_ne]; omega
        have b2n : (p[d.size].toNat == 47) = false := by rw [beq_eq_false_iff_ne]; exact hcn
        have HT := Lib.hid (show v = false by rw [HV.out, hg]; simp [hc])
        clear HV hg hx hdl he hc hcn
        go_enter Tryz.func50, Tryz.ntmps50
        go_wp2_with fail
        go_ret
        exact ⟨ret_bool HT.out.symm, rfl⟩
    · have b1 : ((p.extract 0 d.size).toList == d.toList) = false := by rw [beq_eq_false_iff_ne, hx, hdl]; exact he
      have HT := Lib.hid (show v = false by rw [HV.out]; simp [he])
      clear HV hg hx hdl he
      go_enter Tryz.func50, Tryz.ntmps50
      go_wp2_with fail
      go_ret
      exact ⟨ret_bool HT.out.symm, rfl⟩
  · have b0 : decide ((d.size : Int) < p.size) = false := by simp; omega
    have b0n : decide (d.size < p.size) = false := by simp; omega
    have HT := Lib.hid (show v = false by rw [HV.out, b0n]; rfl)
    clear HV
    go_enter Tryz.func50, Tryz.ntmps50
    go_wp2_with fail
    go_ret
    exact ⟨ret_bool HT.out.symm, rfl⟩
end Go.Proofs.YtinkpbobkeppiaaGreatDoor
