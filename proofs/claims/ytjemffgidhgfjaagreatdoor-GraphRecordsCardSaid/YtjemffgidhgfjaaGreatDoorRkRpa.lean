/- Path of the reference. No condition but the length. -/
import Derived.Test.YtjemffgidhgfjaaGreatDoorRkRfn
namespace Go.Proofs.YtjemffgidhgfjaaGreatDoor.Rk
open Go.RowKit Go.Deep Tr

namespace Ls
theorem pq_cut (L : List UInt8) (f i : Nat) (h : f ≤ i) (hi : i < L.length) (hc : L[i] = 47) (hn : ∀ x ∈ (L.drop f).take (i - f), x ≠ 47) : Tre.split 47 (L.drop f) = (L.drop f).take (i - f) :: Tre.split 47 (L.drop (i + 1)) := by
  have e : L.drop f = (L.drop f).take (i - f) ++ 47 :: L.drop (i + 1) := by
    conv => lhs; rw [← List.take_append_drop (i - f) (L.drop f)]
    rw [List.drop_drop, show f + (i - f) = i by omega, List.drop_eq_getElem_cons hi, hc]
  conv => lhs; rw [e]
  exact Tre.split_cut 47 _ _ hn
theorem pq_end (L : List UInt8) (f : Nat) (hn : ∀ x ∈ (L.drop f).take (L.length - f), x ≠ 47) : Tre.split 47 (L.drop f) = [(L.drop f).take (L.length - f)] := by
  have e : (L.drop f).take (L.length - f) = L.drop f := List.take_of_length_le (by simp)
  rw [e] at hn ⊢
  exact Tre.split_end 47 _ hn
theorem pq_more (L : List UInt8) (f i : Nat) (h : f ≤ i) (hi : i < L.length) (hc : L[i] ≠ 47) (hn : ∀ x ∈ (L.drop f).take (i - f), x ≠ 47) : ∀ x ∈ (L.drop f).take (i + 1 - f), x ≠ 47 := by
  intro x hx
  rw [show i + 1 - f = (i - f) + 1 by omega, List.take_succ_eq_append_getElem (by simp; omega)] at hx
  rcases List.mem_append.1 hx with hx | hx
  · exact hn x hx
  · rw [List.mem_singleton.1 hx, List.getElem_drop]
    have : L[f + (i - f)]'(by omega) = L[i] := by congr 1; omega
    rw [this]
    exact hc
/-- What the loop of Path knows. -/
def PqS (v : Bool) (L : List UInt8) (n f i : Nat) : Prop := (f ≤ i ∧ i ≤ L.length ∧ v = (decide (n + (Tre.split 47 (L.drop f)).length ≤ 8) && (Tre.split 47 (L.drop f)).all Tre.part) ∧ ∀ x ∈ (L.drop f).take (i - f), x ≠ 47) ∨ (i = L.length + 1 ∧ v = decide (n ≤ 8))
theorem PqS.init (L : List UInt8) (h : L.length ≤ 128) : PqS (Tre.pathOk L) L 0 0 0 := by
  refine .inl ⟨Nat.le_refl _, Nat.zero_le _, ?_, by simp⟩
  unfold Tre.pathOk
  rw [decide_eq_true h, Bool.true_and, List.drop_zero, Nat.zero_add]
theorem PqS.skip {v : Bool} {L : List UInt8} {n f i : Nat} (h : PqS v L n f i) (hi : i < L.length) (hc : L[i] ≠ 47) : PqS v L n f (i + 1) := by
  rcases h with ⟨h1, h2, h3, h4⟩ | ⟨h1, _⟩
  · exact .inl ⟨by omega, hi, h3, pq_more L f i h1 hi hc h4⟩
  · omega
theorem PqS.cut {v : Bool} {L : List UInt8} {n f i : Nat} (h : PqS v L n f i) (hi : i < L.length) (hc : L[i] = 47) : f ≤ i ∧ (Tre.part ((L.drop f).take (i - f)) = false → v = false) ∧ (Tre.part ((L.drop f).take (i - f)) = true → PqS v L (n + 1) (i + 1) (i + 1)) := by
  rcases h with ⟨h1, h2, h3, h4⟩ | ⟨h1, _⟩
  · rw [pq_cut L f i h1 hi hc h4, List.length_cons, List.all_cons] at h3
    refine ⟨h1, fun hp => by rw [h3, hp]; simp, fun hp => .inl ⟨Nat.le_refl _, hi, ?_, by simp⟩⟩
    rw [h3, hp, Bool.true_and, show n + ((Tre.split 47 (L.drop (i + 1))).length + 1) = n + 1 + (Tre.split 47 (L.drop (i + 1))).length by omega]
  · omega
theorem PqS.last {v : Bool} {L : List UInt8} {n f : Nat} (h : PqS v L n f L.length) : f ≤ L.length ∧ (Tre.part ((L.drop f).take (L.length - f)) = false → v = false) ∧ (Tre.part ((L.drop f).take (L.length - f)) = true → PqS v L (n + 1) (L.length + 1) (L.length + 1)) := by
  rcases h with ⟨h1, h2, h3, h4⟩ | ⟨h1, _⟩
  · rw [pq_end L f h4] at h3
    refine ⟨h1, fun hp => by rw [h3, List.all_cons, hp]; simp, fun hp => .inr ⟨rfl, ?_⟩⟩
    rw [h3, List.all_cons, hp]
    simp
  · omega
theorem PqS.done {v : Bool} {L : List UInt8} {n f i : Nat} (h : PqS v L n f i) (hi : ¬ i ≤ L.length) : v = decide (n ≤ 8) := by
  rcases h with ⟨_, h2, _⟩ | ⟨_, h2⟩
  · omega
  · exact h2
end Ls
set_option maxHeartbeats 4000000 in
set_option maxRecDepth 100000 in
theorem qPath_any (s : ByteArray) (w : World) (hs : s.size ≤ 1000000000) :
    Calls Tryz.prog 107 #[.string s] w fun e w' => e = .returned (.bool (Tre.pathOk s.data.toList)) ∧ w = w' := by
  by_cases h128 : 128 < s.size
  · have b0 : decide ((128 : Int) < s.size) = true := by simp; omega
    have b0n : decide (128 < s.size) = true := by simp; omega
    have HT := Lib.hid (show Tre.pathOk s.data.toList = false by unfold Tre.pathOk; rw [size_data, show decide (s.size ≤ 128) = false by simp; omega]; rfl)
    go_enter Tryz.func107, Tryz.ntmps107
    go_wp2_with fail
    go_ret
    exact ⟨ret_bool (by rw [HT.out]), rfl⟩
  have b0 : decide ((128 : Int) < s.size) = false := by simp; omega
  have b0n : decide (128 < s.size) = false := by simp; omega
  have HI := Lib.hid (Ls.PqS.init s.data.toList (by rw [size_data]; omega))
  generalize Tre.pathOk s.data.toList = v at *
  go_enter Tryz.func107, Tryz.ntmps107
  go_wp2_with fail
  clear b0 b0n
  go_loopw [3, 4, 5] (fun a3 a4 a5 wr => ∃ n f i : Nat, a3 = .int .i64 n ∧ a4 = .int .i64 f ∧ a5 = .int .i64 i ∧ n ≤ i ∧ i ≤ s.size + 1 ∧ Ls.PqS v s.data.toList n f i ∧ w = wr) (fun _ _ a5 _ => s.size + 1 - (intOf a5).toNat)
  case atStart => exact ⟨0, 0, 0, rfl, rfl, rfl, by omega, by omega, HI.out, rfl⟩
  case round =>
    clear HI
    obtain ⟨n, f, i, rfl, rfl, rfl, hni, hi, hS, rfl⟩ := hrel
    by_cases hlt : i < s.size
    · have c0 : decide ((i : Int) ≤ s.size) = true := by simp; omega
      have c0n : decide (i ≤ s.size) = true := by simp; omega
      have c1 : decide ((i : Int) < s.size) = true := by simp; omega
      have c1n : decide (i < s.size) = true := by simp; omega
      have hsl : s.data.toList[i]'(by rw [size_data]; exact hlt) = s[i] := by
        have := get_d s i hlt
        rw [List.getElem?_eq_getElem (by rw [size_data]; exact hlt)] at this
        exact Option.some.inj this
      by_cases hc : s[i] = 47
      · have d1 : ((s[i].toNat : Int) == 47) = true := by rw [beq_iff_eq, hc]; rfl
        have d1n : (s[i].toNat == 47) = true := by rw [beq_iff_eq, hc]; rfl
        obtain ⟨hfi, hF, hG⟩ := hS.cut (by rw [size_data]; exact hlt) (by rw [hsl]; exact hc)
        have HF := Lib.hid hF
        have HG := Lib.hid hG
        clear hF hG hS hsl hc
        have k1 : ((f : Int) ≤ (i : Int)) := by omega
        have k2 : ((i : Int) ≤ (s.size : Int)) := by omega
        have cc := qname_any (s.extract f i) w (by rw [ext_mid, str_size]; simp; omega)
        rw [show (s.extract f i).data.toList = (s.data.toList.drop f).take (i - f) by rw [ext_mid, str_data]] at cc
        generalize Tre.part ((s.data.toList.drop f).take (i - f)) = pv at *
        go_wp2_with fail
        with_reducible refine cc.mono ?_
        clear cc
        rintro e w' ⟨rfl, rfl⟩
        cases pv with
        | false =>
          have HV := Lib.hid (HF.out rfl)
          clear HF HG
          go_wp2_with fail
          first | go_ret3 | go_ret2 | go_ret
          exact ⟨ret_bool (by rw [HV.out]), rfl⟩
        | true =>
          have HV := Lib.hid (HG.out rfl)
          clear HF HG
          go_wp2_with fail
          go_roundw
          case rel => exact ⟨n + 1, i + 1, i + 1, by go_num, by go_num, by go_num, by omega, by omega, HV.out, by first | rfl | trivial⟩
          case measure => simp [intOf]; omega
      · have hcn : s[i].toNat ≠ 47 := nat_ne (k := 47) hc
        have d1 : ((s[i].toNat : Int) == 47) = false := by rw [beq_eq_false_iff_ne]; omega
        have d1n : (s[i].toNat == 47) = false := by rw [beq_eq_false_iff_ne]; exact hcn
        have HV := Lib.hid (hS.skip (by rw [size_data]; exact hlt) (by rw [hsl]; exact hc))
        clear hS hsl hc hcn
        go_wp2_with fail
        go_roundw
        case rel => exact ⟨n, f, i + 1, by first | rfl | go_num, by first | rfl | go_num, by go_num, by omega, by omega, HV.out, by first | rfl | trivial⟩
        case measure => simp [intOf]; omega
    · have c1 : decide ((i : Int) < s.size) = false := by simp; omega
      have c1n : decide (i < s.size) = false := by simp; omega
      by_cases he : i = s.size
      · have c0 : decide ((i : Int) ≤ s.size) = true := by simp; omega
        have c0n : decide (i ≤ s.size) = true := by simp; omega
        rw [he] at hS
        obtain ⟨hfi, hF, hG⟩ := hS.last
        rw [size_data] at hfi hF hG
        have HF := Lib.hid hF
        have HG := Lib.hid hG
        clear hF hG hS
        rw [← he] at HF HG hfi
        have k1 : ((f : Int) ≤ (i : Int)) := by omega
        have k2 : ((i : Int) ≤ (s.size : Int)) := by omega
        have cc := qname_any (s.extract f i) w (by rw [ext_mid, str_size]; simp; omega)
        rw [show (s.extract f i).data.toList = (s.data.toList.drop f).take (i - f) by rw [ext_mid, str_data]] at cc
        have HE := Lib.hid he
        clear he
        generalize Tre.part ((s.data.toList.drop f).take (i - f)) = pv at *
        go_wp2_with fail
        with_reducible refine cc.mono ?_
        clear cc
        rintro e w' ⟨rfl, rfl⟩
        cases pv with
        | false =>
          have HV := Lib.hid (HF.out rfl)
          clear HF HG
          go_wp2_with fail
          first | go_ret3 | go_ret2 | go_ret
          exact ⟨ret_bool (by rw [HV.out]), rfl⟩
        | true =>
          have HV := Lib.hid (HG.out rfl)
          clear HF HG
          go_wp2_with fail
          go_roundw
          case rel => exact ⟨n + 1, i + 1, i + 1, by go_num, by go_num, by go_num, by omega, by have := HE.out; omega, HV.out, by first | rfl | trivial⟩
          case measure => simp [intOf]; have := HE.out; omega
      · have c0 : decide ((i : Int) ≤ s.size) = false := by simp; omega
        have c0n : decide (i ≤ s.size) = false := by simp; omega
        have HV := Lib.hid (hS.done (by rw [size_data]; omega))
        clear hS
        go_wp2_with fail
        first | go_ret2 | go_ret
        exact ⟨ret_bool (by rw [HV.out]; simp; try omega), rfl⟩
end Go.Proofs.YtjemffgidhgfjaaGreatDoor.Rk
