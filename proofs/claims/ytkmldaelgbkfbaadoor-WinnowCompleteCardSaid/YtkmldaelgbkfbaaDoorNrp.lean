/- Cut and Path of the reference. No condition but lengths. -/
import Derived.Test.YtkmldaelgbkfbaaDoorNdc
import Derived.Test.YtkmldaelgbkfbaaDoorNel
namespace Go.Proofs.YtkmldaelgbkfbaaDoor
open Go.RowKit Go.Deep Tr
namespace Ls
theorem sp_cut (c : UInt8) (L : LN) (f i : Nat) (h : f ≤ i) (hi : i < L.length) (hc : L[i] = c) (hn : ∀ x ∈ (L.drop f).take (i - f), x ≠ c) : Tre.split c (L.drop f) = (L.drop f).take (i - f) :: Tre.split c (L.drop (i + 1)) := by
  have e : L.drop f = (L.drop f).take (i - f) ++ c :: L.drop (i + 1) := by
    conv => lhs; rw [← List.take_append_drop (i - f) (L.drop f)]
    rw [List.drop_drop, show f + (i - f) = i by omega, List.drop_eq_getElem_cons hi, hc]
  conv => lhs; rw [e]
  exact Tre.split_cut c _ _ hn
theorem sp_end (c : UInt8) (L : LN) (f : Nat) (hn : ∀ x ∈ (L.drop f).take (L.length - f), x ≠ c) : Tre.split c (L.drop f) = [(L.drop f).take (L.length - f)] := by
  have e : (L.drop f).take (L.length - f) = L.drop f := List.take_of_length_le (by simp)
  rw [e] at hn ⊢
  exact Tre.split_end c _ hn
theorem sp_more (c : UInt8) (L : LN) (f i : Nat) (h : f ≤ i) (hi : i < L.length) (hc : L[i] ≠ c) (hn : ∀ x ∈ (L.drop f).take (i - f), x ≠ c) : ∀ x ∈ (L.drop f).take (i + 1 - f), x ≠ c := by
  intro x hx
  rw [show i + 1 - f = (i - f) + 1 by omega, List.take_succ_eq_append_getElem (by simp; omega)] at hx
  rcases List.mem_append.1 hx with hx | hx
  · exact hn x hx
  · rw [List.mem_singleton.1 hx, List.getElem_drop]
    have : L[f + (i - f)]'(by omega) = L[i] := by congr 1; omega
    rw [this]
    exact hc
/-- What the loop of Cut knows: what it has cut off, and where it stands. -/
def CutS (c : UInt8) (R O : List LN) (L : LN) (f i : Nat) : Prop := (f ≤ i ∧ i ≤ L.length ∧ R = O ++ Tre.split c (L.drop f) ∧ ∀ x ∈ (L.drop f).take (i - f), x ≠ c) ∨ (i = L.length + 1 ∧ R = O)
theorem CutS.init (c : UInt8) (L : LN) : CutS c (Tre.split c L) [] L 0 0 := .inl ⟨Nat.le_refl _, Nat.zero_le _, by simp, by simp⟩
theorem CutS.skip {c : UInt8} {R O : List LN} {L : LN} {f i : Nat} (h : CutS c R O L f i) (hi : i < L.length) (hc : L[i] ≠ c) : CutS c R O L f (i + 1) := by
  rcases h with ⟨h1, h2, h3, h4⟩ | ⟨h1, _⟩
  · exact .inl ⟨by omega, hi, h3, sp_more c L f i h1 hi hc h4⟩
  · omega
theorem CutS.cut {c : UInt8} {R O : List LN} {L : LN} {f i : Nat} (h : CutS c R O L f i) (hi : i < L.length) (hc : L[i] = c) : f ≤ i ∧ CutS c R (O ++ [(L.drop f).take (i - f)]) L (i + 1) (i + 1) := by
  rcases h with ⟨h1, h2, h3, h4⟩ | ⟨h1, _⟩
  · exact ⟨h1, .inl ⟨Nat.le_refl _, hi, by rw [h3, sp_cut c L f i h1 hi hc h4]; simp, by simp⟩⟩
  · omega
theorem CutS.last {c : UInt8} {R O : List LN} {L : LN} {f : Nat} (h : CutS c R O L f L.length) : f ≤ L.length ∧ CutS c R (O ++ [(L.drop f).take (L.length - f)]) L (L.length + 1) (L.length + 1) := by
  rcases h with ⟨h1, h2, h3, h4⟩ | ⟨h1, _⟩
  · exact ⟨h1, .inr ⟨rfl, by rw [h3, sp_end c L f h4]⟩⟩
  · omega
theorem CutS.done {c : UInt8} {R O : List LN} {L : LN} {f i : Nat} (h : CutS c R O L f i) (hi : ¬ i ≤ L.length) : R = O := by
  rcases h with ⟨_, h2, _⟩ | ⟨_, h2⟩
  · omega
  · exact h2
def stV (x : LN) : List Value := [.string (str x)]
theorem stV_len (x : LN) : (stV x).length = 1 := rfl
def stsV (l : List LN) : List Value := l.flatMap stV
theorem stsV_snoc (l : List LN) (x : LN) : stsV (l ++ [x]) = stsV l ++ [.string (str x)] := by unfold stsV; rw [List.flatMap_append]; rfl
abbrev StAt := ElAt stV 1
end Ls
/-- A list of strings of the call's own. -/
def GotSs (w : World) (L : List (List UInt8)) : Ending → World → Prop := fun e w' => ∃ A c, e = .returned (.slice A L.length c) ∧ Ls.StAt w' w'.heap.size A L ∧ (∀ g o, A = some ⟨g, o, none⟩ → ∃ cs fr, w'.heap[g]? = some (.cells cs 9 fr)) ∧ Below w.heap.size w w'
theorem infoStr : (Tryd.prog.info? 9).map (fun i => (i.zero, i.size, i.bytes)) = some (some (.string ⟨#[]⟩), 1, 16) := by kernel_rfl
theorem dig_nat (d : Nat) (h : d < 10) : 48 + (d : Int) = ((UInt8.ofNat (48 + d)).toNat : Int) := by rw [Cd.Cod.digit_nat h]; omega
set_option maxHeartbeats 4000000 in
set_option maxRecDepth 100000 in
theorem qname_any (s : ByteArray) (w : World) (hs : s.size ≤ 1000000000) :
    Calls Tryd.prog 45 #[.string s] w fun e w' => e = .returned (.bool (Tre.part s.data.toList)) ∧ w = w' := by
  have HV := Lib.hid (part_def s.data.toList)
  generalize Tre.part s.data.toList = v at *
  by_cases h0 : s.size = 0
  · have HT := Lib.hid (show v = false by rw [HV.out, size_data, h0]; rfl)
    have he : s = ⟨#[]⟩ := by apply ByteArray.ext; exact Array.eq_empty_of_size_eq_zero h0
    subst he
    clear HV
    go_enter Tryd.func45, Tryd.ntmps45
    go_wp2_with fail
    go_ret
    exact ⟨ret_bool (by rw [HT.out]), rfl⟩
  have h1 : 1 ≤ s.size := by omega
  have n0 : (s.size == 0) = false := by rw [beq_eq_false_iff_ne]; exact h0
  have ne := ne_list s h0
  have ni : s.toList.isEmpty = false := by rw [List.isEmpty_eq_false_iff]; exact ne
  have i1 : decide ((s.size : Int) < 1) = false := by simp; omega
  have i1n : decide (s.size < 1) = false := decide_eq_false (by omega)
  by_cases h32 : 32 < s.size
  · have b0 : decide ((32 : Int) < s.size) = true := by simp; omega
    have b0n : decide (32 < s.size) = true := by simp; omega
    have HT := Lib.hid (show v = false by rw [HV.out, size_data, show decide (1 ≤ s.size ∧ s.size ≤ 32) = false by simp; omega]; rfl)
    clear HV h0
    go_enter Tryd.func45, Tryd.ntmps45
    go_wp2_with fail
    go_ret
    exact ⟨ret_bool (by rw [HT.out]), rfl⟩
  have b0 : decide ((32 : Int) < s.size) = false := by simp; omega
  have b0n : decide (32 < s.size) = false := by simp; omega
  have h0s : 0 < s.size := h1
  have HH := Lib.hid (head_s s h0s)
  by_cases hd : s[0] = 46 ∨ s[0] = 45
  · have HT := Lib.hid (show v = false by rw [HV.out, HH.out]; rcases hd with e | e <;> rw [e] <;> simp)
    clear HV HH h0
    have hq : (s[0].toNat = 46 ∨ s[0].toNat = 45) := hd.imp (fun e => by rw [e]; rfl) (fun e => by rw [e]; rfl)
    clear hd
    generalize hc : s[0] = c at *
    rcases hq with q | q
    · have e1 : ((c.toNat : Int) == 46) = true := by rw [beq_iff_eq]; omega
      have e1n : (c.toNat == 46) = true := by rw [beq_iff_eq]; omega
      clear q
      go_enter Tryd.func45, Tryd.ntmps45
      go_wp2_with fail
      go_ret
      exact ⟨ret_bool (by rw [HT.out]), rfl⟩
    · have e1 : ((c.toNat : Int) == 46) = false := by rw [beq_eq_false_iff_ne]; omega
      have e1n : (c.toNat == 46) = false := by rw [beq_eq_false_iff_ne]; omega
      have e2 : ((c.toNat : Int) == 45) = true := by rw [beq_iff_eq]; omega
      have e2n : (c.toNat == 45) = true := by rw [beq_iff_eq]; omega
      clear q
      go_enter Tryd.func45, Tryd.ntmps45
      go_wp2_with fail
      go_ret
      exact ⟨ret_bool (by rw [HT.out]), rfl⟩
  have hd1 : s[0] ≠ 46 := fun e => hd (.inl e)
  have hd2 : s[0] ≠ 45 := fun e => hd (.inr e)
  have g1 : s[0].toNat ≠ 46 := nat_ne hd1
  have g2 : s[0].toNat ≠ 45 := nat_ne hd2
  have d1 : ((s[0].toNat : Int) == 46) = false := by rw [beq_eq_false_iff_ne]; omega
  have d2 : ((s[0].toNat : Int) == 45) = false := by rw [beq_eq_false_iff_ne]; omega
  have d1n : (s[0].toNat == 46) = false := by rw [beq_eq_false_iff_ne]; exact g1
  have d2n : (s[0].toNat == 45) = false := by rw [beq_eq_false_iff_ne]; exact g2
  have HA := Lib.hid (show v = s.data.toList.all Tre.byteOk by
    rw [HV.out, HH.out, size_data]
    have x1 : (some s[0] == some (46 : UInt8)) = false := by rw [beq_eq_false_iff_ne]; intro e; exact hd1 (Option.some.inj e)
    have x2 : (some s[0] == some (45 : UInt8)) = false := by rw [beq_eq_false_iff_ne]; intro e; exact hd2 (Option.some.inj e)
    rw [x1, x2]
    have x3 : decide (1 ≤ s.size ∧ s.size ≤ 32) = true := by simp; omega
    rw [x3]; rfl)
  have HL := Lib.hid (show s.size ≤ 32 by omega)
  clear HV HH hd hd1 hd2 g1 g2 h0 h32
  go_enter Tryd.func45, Tryd.ntmps45
  go_wp2_with fail
  go_loopw [3] (fun i wr => ∃ k : Nat, k ≤ s.size ∧ i = .int .i64 k ∧ v = (s.data.toList.drop k).all Tre.byteOk ∧ wr = w) (fun i _ => s.size - (intOf i).toNat)
  case atStart => exact ⟨0, by omega, rfl, by rw [HA.out, List.drop_zero], rfl⟩
  case round =>
    clear d1 d2 d1n d2n HA
    obtain ⟨k, hk, rfl, hv, rfl⟩ := hrel
    by_cases hlt : k < s.size
    · have b1 : decide ((k : Int) < s.size) = true := by simp; omega
      have b1n : decide (k < s.size) = true := by simp; omega
      rw [all_drop _ s k hlt] at hv
      have HVV := Lib.hid hv
      have hcl := s[k].toNat_lt
      have HB := Lib.hid (byte_def s[k])
      clear hv
      generalize hcg : s[k] = c at *
      have hsplit : (97 ≤ c.toNat ∧ c.toNat ≤ 122) ∨ (48 ≤ c.toNat ∧ c.toNat ≤ 57) ∨ (c.toNat = 46) ∨ (c.toNat = 95) ∨ (c.toNat = 45) ∨ (c.toNat < 48 ∧ c.toNat ≠ 46 ∧ c.toNat ≠ 45) ∨ (57 < c.toNat ∧ c.toNat < 97 ∧ c.toNat ≠ 95) ∨ (122 < c.toNat) := by omega
      rcases hsplit with hx | hx | hx | hx | hx | hx | hx | hx
      · have f0 : decide ((c.toNat : Int) < 97) = false := by simp; omega
        have f0n : decide (c.toNat < 97) = false := by simp; omega
        have f1 : decide ((122 : Int) < (c.toNat : Int)) = false := by simp; omega
        have f1n : decide (122 < c.toNat) = false := by simp; omega
        have f2 : decide ((c.toNat : Int) < 48) = false := by simp; omega
        have f2n : decide (c.toNat < 48) = false := by simp; omega
        have f3 : decide ((57 : Int) < (c.toNat : Int)) = true := by simp; omega
        have f3n : decide (57 < c.toNat) = true := by simp; omega
        have e46 : ((c.toNat : Int) == 46) = false := by rw [beq_eq_false_iff_ne]; omega
        have e46n : (c.toNat == 46) = false := by rw [beq_eq_false_iff_ne]; omega
        have n46 : ((c.toNat : Int) != 46) = true := by rw [bne_iff_ne]; omega
        have e95 : ((c.toNat : Int) == 95) = false := by rw [beq_eq_false_iff_ne]; omega
        have e95n : (c.toNat == 95) = false := by rw [beq_eq_false_iff_ne]; omega
        have n95 : ((c.toNat : Int) != 95) = true := by rw [bne_iff_ne]; omega
        have e45 : ((c.toNat : Int) == 45) = false := by rw [beq_eq_false_iff_ne]; omega
        have e45n : (c.toNat == 45) = false := by rw [beq_eq_false_iff_ne]; omega
        have n45 : ((c.toNat : Int) != 45) = true := by rw [bne_iff_ne]; omega
        have HN := Lib.hid (show v = (s.data.toList.drop (k + 1)).all Tre.byteOk by rw [HVV.out, HB.out]; rw [show decide ((97 ≤ c.toNat ∧ c.toNat ≤ 122) ∨ (48 ≤ c.toNat ∧ c.toNat ≤ 57) ∨ c.toNat = 46 ∨ c.toNat = 95 ∨ c.toNat = 45) = true by simp only [decide_eq_true_iff]; omega]; rfl)
        clear HVV HB hx
        go_wp2_with fail
        go_roundw
        case rel => exact ⟨k + 1, by omega, by go_num, HN.out, by trivial⟩
        case measure => simp [intOf]; omega
      · have f0 : decide ((c.toNat : Int) < 97) = true := by simp; omega
        have f0n : decide (c.toNat < 97) = true := by simp; omega
        have f1 : decide ((122 : Int) < (c.toNat : Int)) = false := by simp; omega
        have f1n : decide (122 < c.toNat) = false := by simp; omega
        have f2 : decide ((c.toNat : Int) < 48) = false := by simp; omega
        have f2n : decide (c.toNat < 48) = false := by simp; omega
        have f3 : decide ((57 : Int) < (c.toNat : Int)) = false := by simp; omega
        have f3n : decide (57 < c.toNat) = false := by simp; omega
        have e46 : ((c.toNat : Int) == 46) = false := by rw [beq_eq_false_iff_ne]; omega
        have e46n : (c.toNat == 46) = false := by rw [beq_eq_false_iff_ne]; omega
        have n46 : ((c.toNat : Int) != 46) = true := by rw [bne_iff_ne]; omega
        have e95 : ((c.toNat : Int) == 95) = false := by rw [beq_eq_false_iff_ne]; omega
        have e95n : (c.toNat == 95) = false := by rw [beq_eq_false_iff_ne]; omega
        have n95 : ((c.toNat : Int) != 95) = true := by rw [bne_iff_ne]; omega
        have e45 : ((c.toNat : Int) == 45) = false := by rw [beq_eq_false_iff_ne]; omega
        have e45n : (c.toNat == 45) = false := by rw [beq_eq_false_iff_ne]; omega
        have n45 : ((c.toNat : Int) != 45) = true := by rw [bne_iff_ne]; omega
        have HN := Lib.hid (show v = (s.data.toList.drop (k + 1)).all Tre.byteOk by rw [HVV.out, HB.out]; rw [show decide ((97 ≤ c.toNat ∧ c.toNat ≤ 122) ∨ (48 ≤ c.toNat ∧ c.toNat ≤ 57) ∨ c.toNat = 46 ∨ c.toNat = 95 ∨ c.toNat = 45) = true by simp only [decide_eq_true_iff]; omega]; rfl)
        clear HVV HB hx
        go_wp2_with fail
        go_roundw
        case rel => exact ⟨k + 1, by omega, by go_num, HN.out, by trivial⟩
        case measure => simp [intOf]; omega
      · have f0 : decide ((c.toNat : Int) < 97) = true := by simp; omega
        have f0n : decide (c.toNat < 97) = true := by simp; omega
        have f1 : decide ((122 : Int) < (c.toNat : Int)) = false := by simp; omega
        have f1n : decide (122 < c.toNat) = false := by simp; omega
        have f2 : decide ((c.toNat : Int) < 48) = true := by simp; omega
        have f2n : decide (c.toNat < 48) = true := by simp; omega
        have f3 : decide ((57 : Int) < (c.toNat : Int)) = false := by simp; omega
        have f3n : decide (57 < c.toNat) = false := by simp; omega
        have e46 : ((c.toNat : Int) == 46) = true := by rw [beq_iff_eq]; omega
        have e46n : (c.toNat == 46) = true := by rw [beq_iff_eq]; omega
        have n46 : ((c.toNat : Int) != 46) = false := by simp; omega
        have e95 : ((c.toNat : Int) == 95) = false := by rw [beq_eq_false_iff_ne]; omega
        have e95n : (c.toNat == 95) = false := by rw [beq_eq_false_iff_ne]; omega
        have n95 : ((c.toNat : Int) != 95) = true := by rw [bne_iff_ne]; omega
        have e45 : ((c.toNat : Int) == 45) = false := by rw [beq_eq_false_iff_ne]; omega
        have e45n : (c.toNat == 45) = false := by rw [beq_eq_false_iff_ne]; omega
        have n45 : ((c.toNat : Int) != 45) = true := by rw [bne_iff_ne]; omega
        have HN := Lib.hid (show v = (s.data.toList.drop (k + 1)).all Tre.byteOk by rw [HVV.out, HB.out]; rw [show decide ((97 ≤ c.toNat ∧ c.toNat ≤ 122) ∨ (48 ≤ c.toNat ∧ c.toNat ≤ 57) ∨ c.toNat = 46 ∨ c.toNat = 95 ∨ c.toNat = 45) = true by simp only [decide_eq_true_iff]; omega]; rfl)
        clear HVV HB hx
        go_wp2_with fail
        go_roundw
        case rel => exact ⟨k + 1, by omega, by go_num, HN.out, by trivial⟩
        case measure => simp [intOf]; omega
      · have f0 : decide ((c.toNat : Int) < 97) = true := by simp; omega
        have f0n : decide (c.toNat < 97) = true := by simp; omega
        have f1 : decide ((122 : Int) < (c.toNat : Int)) = false := by simp; omega
        have f1n : decide (122 < c.toNat) = false := by simp; omega
        have f2 : decide ((c.toNat : Int) < 48) = false := by simp; omega
        have f2n : decide (c.toNat < 48) = false := by simp; omega
        have f3 : decide ((57 : Int) < (c.toNat : Int)) = true := by simp; omega
        have f3n : decide (57 < c.toNat) = true := by simp; omega
        have e46 : ((c.toNat : Int) == 46) = false := by rw [beq_eq_false_iff_ne]; omega
        have e46n : (c.toNat == 46) = false := by rw [beq_eq_false_iff_ne]; omega
        have n46 : ((c.toNat : Int) != 46) = true := by rw [bne_iff_ne]; omega
        have e95 : ((c.toNat : Int) == 95) = true := by rw [beq_iff_eq]; omega
        have e95n : (c.toNat == 95) = true := by rw [beq_iff_eq]; omega
        have n95 : ((c.toNat : Int) != 95) = false := by simp; omega
        have e45 : ((c.toNat : Int) == 45) = false := by rw [beq_eq_false_iff_ne]; omega
        have e45n : (c.toNat == 45) = false := by rw [beq_eq_false_iff_ne]; omega
        have n45 : ((c.toNat : Int) != 45) = true := by rw [bne_iff_ne]; omega
        have HN := Lib.hid (show v = (s.data.toList.drop (k + 1)).all Tre.byteOk by rw [HVV.out, HB.out]; rw [show decide ((97 ≤ c.toNat ∧ c.toNat ≤ 122) ∨ (48 ≤ c.toNat ∧ c.toNat ≤ 57) ∨ c.toNat = 46 ∨ c.toNat = 95 ∨ c.toNat = 45) = true by simp only [decide_eq_true_iff]; omega]; rfl)
        clear HVV HB hx
        go_wp2_with fail
        go_roundw
        case rel => exact ⟨k + 1, by omega, by go_num, HN.out, by trivial⟩
        case measure => simp [intOf]; omega
      · have f0 : decide ((c.toNat : Int) < 97) = true := by simp; omega
        have f0n : decide (c.toNat < 97) = true := by simp; omega
        have f1 : decide ((122 : Int) < (c.toNat : Int)) = false := by simp; omega
        have f1n : decide (122 < c.toNat) = false := by simp; omega
        have f2 : decide ((c.toNat : Int) < 48) = true := by simp; omega
        have f2n : decide (c.toNat < 48) = true := by simp; omega
        have f3 : decide ((57 : Int) < (c.toNat : Int)) = false := by simp; omega
        have f3n : decide (57 < c.toNat) = false := by simp; omega
        have e46 : ((c.toNat : Int) == 46) = false := by rw [beq_eq_false_iff_ne]; omega
        have e46n : (c.toNat == 46) = false := by rw [beq_eq_false_iff_ne]; omega
        have n46 : ((c.toNat : Int) != 46) = true := by rw [bne_iff_ne]; omega
        have e95 : ((c.toNat : Int) == 95) = false := by rw [beq_eq_false_iff_ne]; omega
        have e95n : (c.toNat == 95) = false := by rw [beq_eq_false_iff_ne]; omega
        have n95 : ((c.toNat : Int) != 95) = true := by rw [bne_iff_ne]; omega
        have e45 : ((c.toNat : Int) == 45) = true := by rw [beq_iff_eq]; omega
        have e45n : (c.toNat == 45) = true := by rw [beq_iff_eq]; omega
        have n45 : ((c.toNat : Int) != 45) = false := by simp; omega
        have HN := Lib.hid (show v = (s.data.toList.drop (k + 1)).all Tre.byteOk by rw [HVV.out, HB.out]; rw [show decide ((97 ≤ c.toNat ∧ c.toNat ≤ 122) ∨ (48 ≤ c.toNat ∧ c.toNat ≤ 57) ∨ c.toNat = 46 ∨ c.toNat = 95 ∨ c.toNat = 45) = true by simp only [decide_eq_true_iff]; omega]; rfl)
        clear HVV HB hx
        go_wp2_with fail
        go_roundw
        case rel => exact ⟨k + 1, by omega, by go_num, HN.out, by trivial⟩
        case measure => simp [intOf]; omega
      · have f0 : decide ((c.toNat : Int) < 97) = true := by simp; omega
        have f0n : decide (c.toNat < 97) = true := by simp; omega
        have f1 : decide ((122 : Int) < (c.toNat : Int)) = false := by simp; omega
        have f1n : decide (122 < c.toNat) = false := by simp; omega
        have f2 : decide ((c.toNat : Int) < 48) = true := by simp; omega
        have f2n : decide (c.toNat < 48) = true := by simp; omega
        have f3 : decide ((57 : Int) < (c.toNat : Int)) = false := by simp; omega
        have f3n : decide (57 < c.toNat) = false := by simp; omega
        have e46 : ((c.toNat : Int) == 46) = false := by rw [beq_eq_false_iff_ne]; omega
        have e46n : (c.toNat == 46) = false := by rw [beq_eq_false_iff_ne]; omega
        have n46 : ((c.toNat : Int) != 46) = true := by rw [bne_iff_ne]; omega
        have e95 : ((c.toNat : Int) == 95) = false := by rw [beq_eq_false_iff_ne]; omega
        have e95n : (c.toNat == 95) = false := by rw [beq_eq_false_iff_ne]; omega
        have n95 : ((c.toNat : Int) != 95) = true := by rw [bne_iff_ne]; omega
        have e45 : ((c.toNat : Int) == 45) = false := by rw [beq_eq_false_iff_ne]; omega
        have e45n : (c.toNat == 45) = false := by rw [beq_eq_false_iff_ne]; omega
        have n45 : ((c.toNat : Int) != 45) = true := by rw [bne_iff_ne]; omega
        have HN := Lib.hid (show v = false by rw [HVV.out, HB.out]; rw [show decide ((97 ≤ c.toNat ∧ c.toNat ≤ 122) ∨ (48 ≤ c.toNat ∧ c.toNat ≤ 57) ∨ c.toNat = 46 ∨ c.toNat = 95 ∨ c.toNat = 45) = false by simp only [decide_eq_false_iff_not]; omega]; rfl)
        clear HVV HB hx
        go_wp2_with fail
        go_ret
        exact ⟨ret_bool (by rw [HN.out]), rfl⟩
      · have f0 : decide ((c.toNat : Int) < 97) = true := by simp; omega
        have f0n : decide (c.toNat < 97) = true := by simp; omega
        have f1 : decide ((122 : Int) < (c.toNat : Int)) = false := by simp; omega
        have f1n : decide (122 < c.toNat) = false := by simp; omega
        have f2 : decide ((c.toNat : Int) < 48) = false := by simp; omega
        have f2n : decide (c.toNat < 48) = false := by simp; omega
        have f3 : decide ((57 : Int) < (c.toNat : Int)) = true := by simp; omega
        have f3n : decide (57 < c.toNat) = true := by simp; omega
        have e46 : ((c.toNat : Int) == 46) = false := by rw [beq_eq_false_iff_ne]; omega
        have e46n : (c.toNat == 46) = false := by rw [beq_eq_false_iff_ne]; omega
        have n46 : ((c.toNat : Int) != 46) = true := by rw [bne_iff_ne]; omega
        have e95 : ((c.toNat : Int) == 95) = false := by rw [beq_eq_false_iff_ne]; omega
        have e95n : (c.toNat == 95) = false := by rw [beq_eq_false_iff_ne]; omega
        have n95 : ((c.toNat : Int) != 95) = true := by rw [bne_iff_ne]; omega
        have e45 : ((c.toNat : Int) == 45) = false := by rw [beq_eq_false_iff_ne]; omega
        have e45n : (c.toNat == 45) = false := by rw [beq_eq_false_iff_ne]; omega
        have n45 : ((c.toNat : Int) != 45) = true := by rw [bne_iff_ne]; omega
        have HN := Lib.hid (show v = false by rw [HVV.out, HB.out]; rw [show decide ((97 ≤ c.toNat ∧ c.toNat ≤ 122) ∨ (48 ≤ c.toNat ∧ c.toNat ≤ 57) ∨ c.toNat = 46 ∨ c.toNat = 95 ∨ c.toNat = 45) = false by simp only [decide_eq_false_iff_not]; omega]; rfl)
        clear HVV HB hx
        go_wp2_with fail
        go_ret
        exact ⟨ret_bool (by rw [HN.out]), rfl⟩
      · have f0 : decide ((c.toNat : Int) < 97) = false := by simp; omega
        have f0n : decide (c.toNat < 97) = false := by simp; omega
        have f1 : decide ((122 : Int) < (c.toNat : Int)) = true := by simp; omega
        have f1n : decide (122 < c.toNat) = true := by simp; omega
        have f2 : decide ((c.toNat : Int) < 48) = false := by simp; omega
        have f2n : decide (c.toNat < 48) = false := by simp; omega
        have f3 : decide ((57 : Int) < (c.toNat : Int)) = true := by simp; omega
        have f3n : decide (57 < c.toNat) = true := by simp; omega
        have e46 : ((c.toNat : Int) == 46) = false := by rw [beq_eq_false_iff_ne]; omega
        have e46n : (c.toNat == 46) = false := by rw [beq_eq_false_iff_ne]; omega
        have n46 : ((c.toNat : Int) != 46) = true := by rw [bne_iff_ne]; omega
        have e95 : ((c.toNat : Int) == 95) = false := by rw [beq_eq_false_iff_ne]; omega
        have e95n : (c.toNat == 95) = false := by rw [beq_eq_false_iff_ne]; omega
        have n95 : ((c.toNat : Int) != 95) = true := by rw [bne_iff_ne]; omega
        have e45 : ((c.toNat : Int) == 45) = false := by rw [beq_eq_false_iff_ne]; omega
        have e45n : (c.toNat == 45) = false := by rw [beq_eq_false_iff_ne]; omega
        have n45 : ((c.toNat : Int) != 45) = true := by rw [bne_iff_ne]; omega
        have HN := Lib.hid (show v = false by rw [HVV.out, HB.out]; rw [show decide ((97 ≤ c.toNat ∧ c.toNat ≤ 122) ∨ (48 ≤ c.toNat ∧ c.toNat ≤ 57) ∨ c.toNat = 46 ∨ c.toNat = 95 ∨ c.toNat = 45) = false by simp only [decide_eq_false_iff_not]; omega]; rfl)
        clear HVV HB hx
        go_wp2_with fail
        go_ret
        exact ⟨ret_bool (by rw [HN.out]), rfl⟩
    · have b1 : decide ((k : Int) < s.size) = false := by simp; omega
      have b1n : decide (k < s.size) = false := by simp; omega
      have HN := Lib.hid (show v = true by rw [hv, List.drop_of_length_le (by rw [size_data]; omega)]; rfl)
      clear hv
      go_wp2_with fail
      go_ret
      exact ⟨ret_bool (by rw [HN.out]), rfl⟩
namespace Ls
theorem pq_cut (L : List UInt8) (f i : Nat) (h : f ≤ i) (hi : i < L.length) (hc : L[i] = 47) (hn : ∀ x ∈ (L.drop f).take (i - f), x ≠ 47) : Tre.split 47 (L.drop f) = (L.drop f).take (i - f) :: Tre.split 47 (L.drop (i + 1)) := by
  have e : L.drop f = (L.drop f).take (i - f) ++ 47 :: L.drop (i + 1) := by
    conv => lhs; rw [← List.take_append_drop (i - f) (L.drop f)]
    rw [List.drop_drop, show f + (i - f) = i by omega, List.drop_eq_getElem_cons hi, hc]
  conv => lhs; rw [e]
  exact Tre.split_cut 47 _ _ hn
theorem pq_end (L : List UInt8) (f : Nat) (hn : ∀ x ∈ (L.drop f).take (L.length - f), x ≠ 47) : Tre.split 47 (L.drop f) = [(L.drop f).take (L.length - f)] := by
  have e : (L.drop f).take (L.length - f) = L.drop f := List.take_of_length_le (by simp)
  rw [e] at hn ⊢
  exact Tre.split_end 47 _ hn
theorem pq_more (L : List UInt8) (f i : Nat) (h : f ≤ i) (hi : i < L.length) (hc : L[i] ≠ 47) (hn : ∀ x ∈ (L.drop f).take (i - f), x ≠ 47) : ∀ x ∈ (L.drop f).take (i + 1 - f), x ≠ 47 := by
  intro x hx
  rw [show i + 1 - f = (i - f) + 1 by omega, List.take_succ_eq_append_getElem (by simp; omega)] at hx
  rcases List.mem_append.1 hx with hx | hx
  · exact hn x hx
  · rw [List.mem_singleton.1 hx, List.getElem_drop]
    have : L[f + (i - f)]'(by omega) = L[i] := by congr 1; omega
    rw [this]
    exact hc
/-- What the loop of Path knows. -/
def PqS (v : Bool) (L : List UInt8) (n f i : Nat) : Prop := (f ≤ i ∧ i ≤ L.length ∧ v = (decide (n + (Tre.split 47 (L.drop f)).length ≤ 8) && (Tre.split 47 (L.drop f)).all Tre.part) ∧ ∀ x ∈ (L.drop f).take (i - f), x ≠ 47) ∨ (i = L.length + 1 ∧ v = decide (n ≤ 8))
theorem PqS.init (L : List UInt8) (h : L.length ≤ 128) : PqS (Tre.pathOk L) L 0 0 0 := by
  refine .inl ⟨Nat.le_refl _, Nat.zero_le _, ?_, by simp⟩
  unfold Tre.pathOk
  rw [decide_eq_true h, Bool.true_and, List.drop_zero, Nat.zero_add]
theorem PqS.skip {v : Bool} {L : List UInt8} {n f i : Nat} (h : PqS v L n f i) (hi : i < L.length) (hc : L[i] ≠ 47) : PqS v L n f (i + 1) := by
  rcases h with ⟨h1, h2, h3, h4⟩ | ⟨h1, _⟩
  · exact .inl ⟨by omega, hi, h3, pq_more L f i h1 hi hc h4⟩
  · omega
theorem PqS.cut {v : Bool} {L : List UInt8} {n f i : Nat} (h : PqS v L n f i) (hi : i < L.length) (hc : L[i] = 47) : f ≤ i ∧ (Tre.part ((L.drop f).take (i - f)) = false → v = false) ∧ (Tre.part ((L.drop f).take (i - f)) = true → PqS v L (n + 1) (i + 1) (i + 1)) := by
  rcases h with ⟨h1, h2, h3, h4⟩ | ⟨h1, _⟩
  · rw [pq_cut L f i h1 hi hc h4, List.length_cons, List.all_cons] at h3
    refine ⟨h1, fun hp => by rw [h3, hp]; simp, fun hp => .inl ⟨Nat.le_refl _, hi, ?_, by simp⟩⟩
    rw [h3, hp, Bool.true_and, show n + ((Tre.split 47 (L.drop (i + 1))).length + 1) = n + 1 + (Tre.split 47 (L.drop (i + 1))).length by omega]
  · omega
theorem PqS.last {v : Bool} {L : List UInt8} {n f : Nat} (h : PqS v L n f L.length) : f ≤ L.length ∧ (Tre.part ((L.drop f).take (L.length - f)) = false → v = false) ∧ (Tre.part ((L.drop f).take (L.length - f)) = true → PqS v L (n + 1) (L.length + 1) (L.length + 1)) := by
  rcases h with ⟨h1, h2, h3, h4⟩ | ⟨h1, _⟩
  · rw [pq_end L f h4] at h3
    refine ⟨h1, fun hp => by rw [h3, List.all_cons, hp]; simp, fun hp => .inr ⟨rfl, ?_⟩⟩
    rw [h3, List.all_cons, hp]
    simp
  · omega
theorem PqS.done {v : Bool} {L : List UInt8} {n f i : Nat} (h : PqS v L n f i) (hi : ¬ i ≤ L.length) : v = decide (n ≤ 8) := by
  rcases h with ⟨_, h2, _⟩ | ⟨_, h2⟩
  · omega
  · exact h2
end Ls
set_option maxHeartbeats 4000000 in
set_option maxRecDepth 100000 in
theorem qPath_any (s : ByteArray) (w : World) (hs : s.size ≤ 1000000000) :
    Calls Tryd.prog 34 #[.string s] w fun e w' => e = .returned (.bool (Tre.pathOk s.data.toList)) ∧ w = w' := by
  by_cases h128 : 128 < s.size
  · have b0 : decide ((128 : Int) < s.size) = true := by simp; omega
    have b0n : decide (128 < s.size) = true := by simp; omega
    have HT := Lib.hid (show Tre.pathOk s.data.toList = false by unfold Tre.pathOk; rw [size_data, show decide (s.size ≤ 128) = false by simp; omega]; rfl)
    go_enter Tryd.func34, Tryd.ntmps34
    go_wp2_with fail
    go_ret
    exact ⟨ret_bool (by rw [HT.out]), rfl⟩
  have b0 : decide ((128 : Int) < s.size) = false := by simp; omega
  have b0n : decide (128 < s.size) = false := by simp; omega
  have HI := Lib.hid (Ls.PqS.init s.data.toList (by rw [size_data]; omega))
  generalize Tre.pathOk s.data.toList = v at *
  go_enter Tryd.func34, Tryd.ntmps34
  go_wp2_with fail
  clear b0 b0n
  go_loopw [3, 4, 5] (fun a3 a4 a5 wr => ∃ n f i : Nat, a3 = .int .i64 n ∧ a4 = .int .i64 f ∧ a5 = .int .i64 i ∧ n ≤ i ∧ i ≤ s.size + 1 ∧ Ls.PqS v s.data.toList n f i ∧ w = wr) (fun _ _ a5 _ => s.size + 1 - (intOf a5).toNat)
  case atStart => exact ⟨0, 0, 0, rfl, rfl, rfl, by omega, by omega, HI.out, rfl⟩
  case round =>
    clear HI
    obtain ⟨n, f, i, rfl, rfl, rfl, hni, hi, hS, rfl⟩ := hrel
    by_cases hlt : i < s.size
    · have c0 : decide ((i : Int) ≤ s.size) = true := by simp; omega
      have c0n : decide (i ≤ s.size) = true := by simp; omega
      have c1 : decide ((i : Int) < s.size) = true := by simp; omega
      have c1n : decide (i < s.size) = true := by simp; omega
      have hsl : s.data.toList[i]'(by rw [size_data]; exact hlt) = s[i] := by
        have := get_d s i hlt
        rw [List.getElem?_eq_getElem (by rw [size_data]; exact hlt)] at this
        exact Option.some.inj this
      by_cases hc : s[i] = 47
      · have d1 : ((s[i].toNat : Int) == 47) = true := by rw [beq_iff_eq, hc]; rfl
        have d1n : (s[i].toNat == 47) = true := by rw [beq_iff_eq, hc]; rfl
        obtain ⟨hfi, hF, hG⟩ := hS.cut (by rw [size_data]; exact hlt) (by rw [hsl]; exact hc)
        have HF := Lib.hid hF
        have HG := Lib.hid hG
        clear hF hG hS hsl hc
        have k1 : ((f : Int) ≤ (i : Int)) := by omega
        have k2 : ((i : Int) ≤ (s.size : Int)) := by omega
        have cc := qname_any (s.extract f i) w (by rw [ext_mid, str_size]; simp; omega)
        rw [show (s.extract f i).data.toList = (s.data.toList.drop f).take (i - f) by rw [ext_mid, str_data]] at cc
        generalize Tre.part ((s.data.toList.drop f).take (i - f)) = pv at *
        go_wp2_with fail
        with_reducible refine cc.mono ?_
        clear cc
        rintro e w' ⟨rfl, rfl⟩
        cases pv with
        | false =>
          have HV := Lib.hid (HF.out rfl)
          clear HF HG
          go_wp2_with fail
          first | go_ret3 | go_ret2 | go_ret
          exact ⟨ret_bool (by rw [HV.out]), rfl⟩
        | true =>
          have HV := Lib.hid (HG.out rfl)
          clear HF HG
          go_wp2_with fail
          go_roundw
          case rel => exact ⟨n + 1, i + 1, i + 1, by go_num, by go_num, by go_num, by omega, by omega, HV.out, by first | rfl | trivial⟩
          case measure => simp [intOf]; omega
      · have hcn : s[i].toNat ≠ 47 := nat_ne (k := 47) hc
        have d1 : ((s[i].toNat : Int) == 47) = false := by rw [beq_eq_false_iff_ne]; omega
        have d1n : (s[i].toNat == 47) = false := by rw [beq_eq_false_iff_ne]; exact hcn
        have HV := Lib.hid (hS.skip (by rw [size_data]; exact hlt) (by rw [hsl]; exact hc))
        clear hS hsl hc hcn
        go_wp2_with fail
        go_roundw
        case rel => exact ⟨n, f, i + 1, by first | rfl | go_num, by first | rfl | go_num, by go_num, by omega, by omega, HV.out, by first | rfl | trivial⟩
        case measure => simp [intOf]; omega
    · have c1 : decide ((i : Int) < s.size) = false := by simp; omega
      have c1n : decide (i < s.size) = false := by simp; omega
      by_cases he : i = s.size
      · have c0 : decide ((i : Int) ≤ s.size) = true := by simp; omega
        have c0n : decide (i ≤ s.size) = true := by simp; omega
        rw [he] at hS
        obtain ⟨hfi, hF, hG⟩ := hS.last
        rw [size_data] at hfi hF hG
        have HF := Lib.hid hF
        have HG := Lib.hid hG
        clear hF hG hS
        rw [← he] at HF HG hfi
        have k1 : ((f : Int) ≤ (i : Int)) := by omega
        have k2 : ((i : Int) ≤ (s.size : Int)) := by omega
        have cc := qname_any (s.extract f i) w (by rw [ext_mid, str_size]; simp; omega)
        rw [show (s.extract f i).data.toList = (s.data.toList.drop f).take (i - f) by rw [ext_mid, str_data]] at cc
        have HE := Lib.hid he
        clear he
        generalize Tre.part ((s.data.toList.drop f).take (i - f)) = pv at *
        go_wp2_with fail
        with_reducible refine cc.mono ?_
        clear cc
        rintro e w' ⟨rfl, rfl⟩
        cases pv with
        | false =>
          have HV := Lib.hid (HF.out rfl)
          clear HF HG
          go_wp2_with fail
          first | go_ret3 | go_ret2 | go_ret
          exact ⟨ret_bool (by rw [HV.out]), rfl⟩
        | true =>
          have HV := Lib.hid (HG.out rfl)
          clear HF HG
          go_wp2_with fail
          go_roundw
          case rel => exact ⟨n + 1, i + 1, i + 1, by go_num, by go_num, by go_num, by omega, by have := HE.out; omega, HV.out, by first | rfl | trivial⟩
          case measure => simp [intOf]; have := HE.out; omega
      · have c0 : decide ((i : Int) ≤ s.size) = false := by simp; omega
        have c0n : decide (i ≤ s.size) = false := by simp; omega
        have HV := Lib.hid (hS.done (by rw [size_data]; omega))
        clear hS
        go_wp2_with fail
        first | go_ret2 | go_ret
        exact ⟨ret_bool (by rw [HV.out]; simp; try omega), rfl⟩
end Go.Proofs.YtkmldaelgbkfbaaDoor
