/- Cut and Decimal of the reference. No condition but lengths. -/
import Derived.Test.YtlablbibdkcifaaGreatDoorRls
import Derived.Test.YtlablbibdkcifaaGreatDoorPrn
import Derived.Deep.RegionWith
import Derived.Laws.IdiomStrings
import Derived.Lib.OwnKind
namespace Go.Proofs.YtlablbibdkcifaaGreatDoor
open Go.RowKit Go.Deep Tr

namespace Ls
theorem sp_cut (c : UInt8) (L : LN) (f i : Nat) (h : f ≤ i) (hi : i < L.length) (hc : L[i] = c) (hn : ∀ x ∈ (L.drop f).take (i - f), x ≠ c) : Tre.split c (L.drop f) = (L.drop f).take (i - f) :: Tre.split c (L.drop (i + 1)) := by
  have e : L.drop f = (L.drop f).take (i - f) ++ c :: L.drop (i + 1) := by
    conv => lhs; rw [← List.take_append_drop (i - f) (L.drop f)]
    rw [List.drop_drop, show f + (i - f) = i by omega, List.drop_eq_getElem_cons hi, hc]
  conv => lhs; rw [e]
  exact Tre.split_cut c _ _ hn
theorem sp_end (c : UInt8) (L : LN) (f : Nat) (hn : ∀ x ∈ (L.drop f).take (L.length - f), x ≠ c) : Tre.split c (L.drop f) = [(L.drop f).take (L.length - f)] := by
  have e : (L.drop f).take (L.length - f) = L.drop f := List.take_of_length_le (by simp)
  rw [e] at hn ⊢
  exact Tre.split_end c _ hn
theorem sp_more (c : UInt8) (L : LN) (f i : Nat) (h : f ≤ i) (hi : i < L.length) (hc : L[i] ≠ c) (hn : ∀ x ∈ (L.drop f).take (i - f), x ≠ c) : ∀ x ∈ (L.drop f).take (i + 1 - f), x ≠ c := by
  intro x hx
  rw [show i + 1 - f = (i - f) + 1 by omega, List.take_succ_eq_append_getElem (by simp; omega)] at hx
  rcases List.mem_append.1 hx with hx | hx
  · exact hn x hx
  · rw [List.mem_singleton.1 hx, List.getElem_drop]
    have : L[f + (i - f)]'(by omega) = L[i] := by congr 1; omega
    rw [this]
    exact hc
/-- What the loop of Cut knows: what it has cut off, and where it stands. -/
def CutS (c : UInt8) (R O : List LN) (L : LN) (f i : Nat) : Prop := (f ≤ i ∧ i ≤ L.length ∧ R = O ++ Tre.split c (L.drop f) ∧ ∀ x ∈ (L.drop f).take (i - f), x ≠ c) ∨ (i = L.length + 1 ∧ R = O)
theorem CutS.init (c : UInt8) (L : LN) : CutS c (Tre.split c L) [] L 0 0 := .inl ⟨Nat.le_refl _, Nat.zero_le _, by simp, by simp⟩
theorem CutS.skip {c : UInt8} {R O : List LN} {L : LN} {f i : Nat} (h : CutS c R O L f i) (hi : i < L.length) (hc : L[i] ≠ c) : CutS c R O L f (i + 1) := by
  rcases h with ⟨h1, h2, h3, h4⟩ | ⟨h1, _⟩
  · exact .inl ⟨by omega, hi, h3, sp_more c L f i h1 hi hc h4⟩
  · omega
theorem CutS.cut {c : UInt8} {R O : List LN} {L : LN} {f i : Nat} (h : CutS c R O L f i) (hi : i < L.length) (hc : L[i] = c) : f ≤ i ∧ CutS c R (O ++ [(L.drop f).take (i - f)]) L (i + 1) (i + 1) := by
  rcases h with ⟨h1, h2, h3, h4⟩ | ⟨h1, _⟩
  · exact ⟨h1, .inl ⟨Nat.le_refl _, hi, by rw [h3, sp_cut c L f i h1 hi hc h4]; simp, by simp⟩⟩
  · omega
theorem CutS.last {c : UInt8} {R O : List LN} {L : LN} {f : Nat} (h : CutS c R O L f L.length) : f ≤ L.length ∧ CutS c R (O ++ [(L.drop f).take (L.length - f)]) L (L.length + 1) (L.length + 1) := by
  rcases h with ⟨h1, h2, h3, h4⟩ | ⟨h1, _⟩
  · exact ⟨h1, .inr ⟨rfl, by rw [h3, sp_end c L f h4]⟩⟩
  · omega
theorem CutS.done {c : UInt8} {R O : List LN} {L : LN} {f i : Nat} (h : CutS c R O L f i) (hi : ¬ i ≤ L.length) : R = O := by
  rcases h with ⟨_, h2, _⟩ | ⟨_, h2⟩
  · omega
  · exact h2
def stV (x : LN) : List Value := [.string (str x)]
theorem stV_len (x : LN) : (stV x).length = 1 := rfl
def stsV (l : List LN) : List Value := l.flatMap stV
theorem stsV_snoc (l : List LN) (x : LN) : stsV (l ++ [x]) = stsV l ++ [.string (str x)] := by unfold stsV; rw [List.flatMap_append]; rfl
abbrev StAt := ElAt stV 1
end Ls
/-- A list of strings of the call's own. -/
def GotSs (w : World) (L : List (List UInt8)) : Ending → World → Prop := fun e w' => ∃ A c, e = .returned (.slice A L.length c) ∧ Ls.StAt w' w'.heap.size A L ∧ (∀ g o, A = some ⟨g, o, none⟩ → ∃ cs fr, w'.heap[g]? = some (.cells cs 9 fr)) ∧ Below w.heap.size w w'
theorem infoStr : (Tryz.prog.info? 9).map (fun i => (i.zero, i.size, i.bytes)) = some (some (.string ⟨#[]⟩), 1, 16) := by kernel_rfl
set_option maxHeartbeats 8000000 in
set_option maxRecDepth 100000 in
theorem qcut_any (c : UInt8) (s : ByteArray) (w : World) (hs : s.size ≤ 1000000) :
    Calls Tryz.prog 45 #[.string s, .int .u8 (c.toNat : Int)] w (GotSs w (Tre.split c s.data.toList)) := by
  obtain ⟨i0, hi0, hz0, hz1, hz2⟩ := info_parts infoStr
  have HI := Lib.hid (Ls.CutS.init c s.data.toList)
  generalize Tre.split c s.data.toList = R at *
  have HO0 := Lib.hid (own_emptyL w w.heap.size (Nat.le_refl _) 9 1)
  have HB0 := Lib.hid (show Below w.heap.size w (w.alloc (.cells #[] 9)) from (Below.refl _ _).alloc (Nat.le_refl _) _)
  go_enter Tryz.func45, Tryz.ntmps45
  go_wp2_with fail
  go_loopw [5, 6, 7] (fun s5 s6 s7 wr => ∃ (f i : Nat) (O : List (List UInt8)), s6 = .int .i64 f ∧ s7 = .int .i64 i ∧ O.length ≤ i ∧ i ≤ s.size + 1 ∧ Ls.CutS c R O s.data.toList f i ∧ wr.ownsRow w.heap.size 9 1 s5 O.length (Ls.stsV O) ∧ Below w.heap.size w wr) (fun _ _ s7 _ => s.size + 1 - (intOf s7).toNat)
  case atStart => exact ⟨0, 0, [], rfl, rfl, by simp, by omega, HI.out, HO0.out, HB0.out⟩
  case round =>
    clear HI HO0 HB0
    obtain ⟨f, i, O, rfl, rfl, hOi, hi, hS, hown, hb⟩ := hrel
    have hwX := hb.size
    obtain ⟨A3, c3, rfl, hc3, hm3, hEl⟩ := Ls.own_el (l := O) Ls.stV 1 Ls.stV_len hown
    by_cases hlt : i < s.size
    · have c0 : decide ((i : Int) ≤ s.size) = true := by simp; omega
      have c0n : decide (i ≤ s.size) = true := by simp; omega
      have c1 : ((i : Int) == (s.size : Int)) = false := by rw [beq_eq_false_iff_ne]; omega
      have c1n : (i == s.size) = false := by rw [beq_eq_false_iff_ne]; omega
      have hsl : s.data.toList[i]'(by rw [size_data]; exact hlt) = s[i] := by
        have := get_d s i hlt
        rw [List.getElem?_eq_getElem (by rw [size_data]; exact hlt)] at this
        exact Option.some.inj this
      by_cases hc : s[i] = c
      · have d1 : ((s[i].toNat : Int) == (c.toNat : Int)) = true := by rw [beq_iff_eq, hc]
        have d1n : (s[i].toNat == c.toNat) = true := by rw [beq_iff_eq, hc]
        obtain ⟨hfi, hG⟩ := hS.cut (by rw [size_data]; exact hlt) (by rw [hsl]; exact hc)
        have HG := Lib.hid hG
        clear hG hS hsl hc hEl
        have k1 : ((f : Int) ≤ (i : Int)) := by omega
        have k2 : ((i : Int) ≤ (s.size : Int)) := by omega
        have HX := Lib.hid (ext_mid s f i)
        go_wp2_with (at_builtin; refine wpList_append_lies _ (by rfl) _ _ 69 (by rfl) w.heap.size 9 i0 _ 1 16 Tryz.underlying69 hi0 hz0 hz1 hz2 rfl (by omega) (.slice A3 O.length c3) O.length _ (by rfl) (hown.alloc _) ⟨wr.heap.size, 0, none⟩ 1 1 [_] (by rfl) (by rfl) (World.news_of_block (cs := #[_]) (t := 9) (fr := (0, 0)) (heap_alloc_new wr _)) (by simp [Value.oneCell']) (by omega) (by unfold maxLen; omega) (by omega) (by simp; omega) (wr.heap.size + 1) (by simp) ?_; intro gg cap w6 hown6 hgrow hat hlt6)
        have hb6 := below_grown (hb.alloc (by omega) _) (by simp; omega) (hown.alloc _) hgrow
        have HO := Lib.hid hown6
        have H6 := Lib.hid hb6
        clear hown6 hb6 hgrow hat hlt6 hown hb
        go_wp2_with fail
        go_roundw
        case rel => exact ⟨i + 1, i + 1, _, by go_num, by go_num, by rw [List.length_append, List.length_singleton]; omega, by omega, HG.out, by rw [Ls.stsV_snoc, List.length_append, List.length_singleton, ← HX.out]; exact HO.out, H6.out⟩
        case measure => simp [intOf]; omega
      · have hcn : s[i].toNat ≠ c.toNat := fun e => hc (UInt8.toNat_inj.1 e)
        have d1 : ((s[i].toNat : Int) == (c.toNat : Int)) = false := by rw [beq_eq_false_iff_ne]; omega
        have d1n : (s[i].toNat == c.toNat) = false := by rw [beq_eq_false_iff_ne]; exact hcn
        have HV := Lib.hid (hS.skip (by rw [size_data]; exact hlt) (by rw [hsl]; exact hc))
        have HO := Lib.hid hown
        have H6 := Lib.hid hb
        clear hS hsl hc hcn hown hb hEl
        go_wp2_with fail
        go_roundw
        case rel => exact ⟨f, i + 1, O, by first | rfl | go_num, by go_num, by omega, by omega, HV.out, HO.out, H6.out⟩
        case measure => simp [intOf]; omega
    · by_cases he : i = s.size
      · have c0 : decide ((i : Int) ≤ s.size) = true := by simp; omega
        have c0n : decide (i ≤ s.size) = true := by simp; omega
        have c1 : ((i : Int) == (s.size : Int)) = true := by rw [beq_iff_eq]; omega
        have c1n : (i == s.size) = true := by rw [beq_iff_eq]; omega
        rw [he] at hS
        obtain ⟨hfi, hG⟩ := hS.last
        rw [size_data] at hfi hG
        rw [← he] at hG hfi
        have HG := Lib.hid hG
        have HE := Lib.hid he
        clear hG hS he hEl
        have k1 : ((f : Int) ≤ (i : Int)) := by omega
        have k2 : ((i : Int) ≤ (s.size : Int)) := by have := HE.out; omega
        have HX := Lib.hid (ext_mid s f i)
        go_wp2_with (at_builtin; refine wpList_append_lies _ (by rfl) _ _ 69 (by rfl) w.heap.size 9 i0 _ 1 16 Tryz.underlying69 hi0 hz0 hz1 hz2 rfl (by omega) (.slice A3 O.length c3) O.length _ (by rfl) (hown.alloc _) ⟨wr.heap.size, 0, none⟩ 1 1 [_] (by rfl) (by rfl) (World.news_of_block (cs := #[_]) (t := 9) (fr := (0, 0)) (heap_alloc_new wr _)) (by simp [Value.oneCell']) (by omega) (by unfold maxLen; omega) (by omega) (by simp; omega) (wr.heap.size + 1) (by simp) ?_; intro gg cap w6 hown6 hgrow hat hlt6)
        have hb6 := below_grown (hb.alloc (by omega) _) (by simp; omega) (hown.alloc _) hgrow
        have HO := Lib.hid hown6
        have H6 := Lib.hid hb6
        clear hown6 hb6 hgrow hat hlt6 hown hb
        go_wp2_with fail
        go_roundw
        case rel => exact ⟨i + 1, i + 1, _, by go_num, by go_num, by rw [List.length_append, List.length_singleton]; omega, by have := HE.out; omega, HG.out, by rw [Ls.stsV_snoc, List.length_append, List.length_singleton, ← HX.out]; exact HO.out, H6.out⟩
        case measure => simp [intOf]; have := HE.out; omega
      · have c0 : decide ((i : Int) ≤ s.size) = false := by simp; omega
        have c0n : decide (i ≤ s.size) = false := by simp; omega
        have HV := Lib.hid (hS.done (by rw [size_data]; omega))
        have HO := Lib.hid hEl
        have HKD := Lib.hid (show ∀ g o, A3 = some ⟨g, o, none⟩ → ∃ cs fr, wr.heap[g]? = some (.cells cs 9 fr) from fun g o h => by subst h; exact Lib.ownsRow_kind hown g rfl)
        have HB := Lib.hid hb
        clear hS hown hb hEl
        go_wp2_with fail
        first | go_ret2 | go_ret
        exact ⟨A3, c3, by rw [HV.out]; rfl, by rw [HV.out]; exact HO.out, HKD.out, HB.out⟩
/-- 'string([]byte{c})'. -/
theorem one_str (W : World) (g : Nat) (x : Int) (c : UInt8) (hx : x = (c.toNat : Int)) (h : W.cell? ⟨g, 0, none⟩ = some (.int .u8 x)) :
    (convert 55 9 (.slice (some ⟨g, 0, none⟩) 1 1)).run Tryz.prog W = .ok (.string (str [c])) W :=
  run_convert_bytes_back W 55 9 5 ⟨g, 0, none⟩ 1 [c] Tryz.underlying55 Tryz.underlying5 Tryz.underlying9 (fun j hj => by
    have h0 : j = 0 := by simpa using hj
    subst h0
    have hadd : (⟨g, 0, none⟩ : Addr).add 0 = ⟨g, 0, none⟩ := by simp [Addr.add]
    rw [hadd, h, hx]; rfl)
theorem dig_nat (d : Nat) (h : d < 10) : 48 + (d : Int) = ((UInt8.ofNat (48 + d)).toNat : Int) := by rw [Cd.Cod.digit_nat h]; omega

set_option maxHeartbeats 4000000 in
set_option maxRecDepth 100000 in
theorem qdecimal_any : ∀ (n : Nat), n ≤ 9223372036854775807 → ∀ (w : World), Calls Tryz.prog 41 #[.int .i64 (n : Int)] w fun e w' => e = .returned (.string (str (Lib.decDigits n))) ∧ Below w.heap.size w w' := by
  intro n
  induction n using Nat.strongRecOn with
  | _ n ih =>
    intro hn w
    by_cases h : n < 10
    · have hd0 := Cd.Cod.dec_small h
      have hdn := dig_nat n h
      generalize UInt8.ofNat (48 + n) = c at *
      have hd := Lib.hid hd0
      have b1 : decide ((n : Int) < 10) = true := by simp; omega
      have hcv := fun (W : World) (g : Nat) => one_str W g (48 + (n : Int)) c hdn
      clear hd0 hdn
      go_enter Tryz.func41, Tryz.ntmps41
      go_wp2_with fail
      go_ret
      exact ⟨by rw [hd.out]; rfl, (Below.refl _ _).alloc (Nat.le_refl _) _⟩
    · have hd := Lib.hid (Cd.Cod.dec_big h)
      have b1 : decide ((n : Int) < 10) = false := by simp; omega
      obtain ⟨q, hq⟩ : ∃ q, q = n / 10 := ⟨_, rfl⟩
      obtain ⟨r, hr⟩ : ∃ r, r = n % 10 := ⟨_, rfl⟩
      have hr10 : r < 10 := by omega
      have hih := ih q (by omega) (by omega)
      have hih2 := ih r (by omega) (by omega)
      rw [Cd.Cod.dec_small hr10] at hih2
      have i1 : ((n : Int)).tdiv 10 = (q : Int) := by rw [Int.tdiv_eq_ediv_of_nonneg (by omega)]; omega
      have i2 : ((n : Int)).tmod 10 = (r : Int) := by rw [Int.tmod_eq_emod_of_nonneg (by omega)]; omega
      have n1 : (n : Int) / 10 = (q : Int) := by omega
      have n2 : (n : Int) % 10 = (r : Int) := by omega
      have i3 : IntKind.i64.wrap (q : Int) = (q : Int) := IntWalk.i64_in _ (by omega)
      have i4 : IntKind.i64.wrap (r : Int) = (r : Int) := IntWalk.i64_in _ (by omega)
      have hlen := Cd.dec_len q (by omega)
      rw [← str_size] at hlen
      have hE : str (Lib.decDigits q) ++ str [UInt8.ofNat (48 + r)] = str (Lib.decDigits n) := by rw [str_appL, hd.out, hq, hr]
      generalize UInt8.ofNat (48 + r) = c at *
      have hs1 : (str [c]).size ≤ 1 := by rw [str_size]; simp
      have HE := Lib.hid hE
      clear hE hq hr
      go_enter Tryz.func41, Tryz.ntmps41
      go_wp2_with fail
      refine (hih _).mono ?_
      clear hih
      rintro e w2 ⟨rfl, hb⟩
      go_wp2_with fail
      refine (hih2 _).mono ?_
      clear hih2
      rintro e w3 ⟨rfl, hb3⟩
      have HB := Lib.hid (hb.trans (hb3.mono hb.size))
      clear hb hb3
      go_wp2_with fail
      go_ret
      exact ⟨by rw [← HE.out]; rfl, HB.out⟩
end Go.Proofs.YtlablbibdkcifaaGreatDoor
