/- The token at the beginning of a string. Condition: the library's error of ranges lies in its variable. -/
import Derived.Test.YtlbddfaebmcckaaDoorNum
namespace Go.Proofs.YtlbddfaebmcckaaDoor
open Go.RowKit
namespace Tok
def symbF : Nat → List UInt8 → List UInt8
  | 0, _ => []
  | m + 1, l => if isSym (l.take (m + 1)) = true then l.take (m + 1) else symbF m l
theorem symb_F (l : List UInt8) : symb l = symbF (min 2 l.length) l := by
  match l with
  | [] => rfl
  | [c] => simp [symb, symbF]
  | c :: d :: r => simp [symb, symbF]
end Tok
set_option maxHeartbeats 2000000 in
set_option maxRecDepth 100000 in
theorem symb_any (s : ByteArray) (w : World) (hs : s.size ≤ 1000000000) :
    Calls Tryd.prog 48 #[.string s] w fun e w' => e = .returned (.string (str (Tok.symb s.data.toList))) ∧ w = w' := by
  have HV := Lib.hid (Tok.symb_F s.data.toList)
  generalize Tok.symb s.data.toList = v at *
  rw [size_data] at HV
  go_enter Tryd.func48, Tryd.ntmps48
  go_wp2_with fail
  go_loop [3] (fun i => ∃ m : Nat, m ≤ s.size ∧ m ≤ 2 ∧ i = .int .i64 m ∧ v = Tok.symbF m s.data.toList) (fun i => (intOf i).toNat)
  case atStart => exact ⟨min 2 s.size, by omega, by omega, by rw [Value.int.injEq]; exact ⟨rfl, by omega⟩, HV.out⟩
  case round =>
    obtain ⟨m, hm1, hm2, rfl, hv⟩ := hrel
    have HV2 := Lib.hid hv
    clear hv HV
    match m with
    | 0 =>
      go_wp2_with fail
      go_ret
      exact ⟨by rw [HV2.out]; rfl, rfl⟩
    | m + 1 =>
      have hcall := sym_any (s.extract 0 (m + 1)) w
      rw [ext_take s (m + 1)] at hcall
      rw [str_data] at hcall
      rw [← ext_take s (m + 1)] at hcall
      cases hb : Tok.isSym (s.data.toList.take (m + 1))
      · rw [hb] at hcall
        have HT := Lib.hid (show v = Tok.symbF m s.data.toList by rw [HV2.out, Tok.symbF, hb]; simp)
        clear hb HV2
        go_wp2_with (go_at_call 51; (with_reducible refine hcall.mono ?_); rintro e w' ⟨rfl, rfl⟩)
        go_round
        case rel => exact ⟨m, by omega, by omega, by go_num, HT.out⟩
        case measure => simp [intOf]
      · rw [hb] at hcall
        have HT := Lib.hid (show v = s.data.toList.take (m + 1) by rw [HV2.out, Tok.symbF, hb]; simp)
        have HX := Lib.hid (ext_take s (m + 1))
        clear hb HV2
        go_wp2_with (go_at_call 51; (with_reducible refine hcall.mono ?_); rintro e w' ⟨rfl, rfl⟩)
        go_ret
        exact ⟨by rw [HT.out, ← HX.out]; rfl, rfl⟩
theorem keep2 {w w1 : World} {v0 v1 : Value} {T : TypeId} (hb : Below (w.alloc (.cells #[v0, v1] T)).heap.size (w.alloc (.cells #[v0, v1] T)) w1) :
    w1.cell? ⟨w.heap.size, 0, none⟩ = some v0 ∧ w1.cell? ⟨w.heap.size, 1, none⟩ = some v1 ∧ w1.frozen? ⟨w.heap.size, 0, none⟩ = false ∧ w1.frozen? ⟨w.heap.size, 1, none⟩ = false ∧ w.heap.size < w1.heap.size :=
  ⟨(hb.cell (p := ⟨w.heap.size, 0, none⟩) (by simp)).trans (by go_simp), (hb.cell (p := ⟨w.heap.size, 1, none⟩) (by simp)).trans (by go_simp), (hb.frozen (p := ⟨w.heap.size, 0, none⟩) (by simp)).trans (by go_simp), (hb.frozen (p := ⟨w.heap.size, 1, none⟩) (by simp)).trans (by go_simp), by have := hb.size; simp at this; omega⟩
/-- What a token and an error are as a result. -/
def tokV (x : Tok.Tk × Int) : Value := .tuple #[.agg #[.int .i64 x.1.kind, .string (str x.1.text)], .int .i64 x.2]
theorem tokV_def (x : Tok.Tk × Int) : tokV x = .tuple #[.agg #[.int .i64 x.1.kind, .string (str x.1.text)], .int .i64 x.2] := rfl
set_option maxHeartbeats 2000000 in
set_option maxRecDepth 100000 in
theorem firstName_any (s : ByteArray) (w : World) (hs : s.size ≤ 1000000000) :
    Calls Tryd.prog 46 #[.string s] w fun e w' => e = .returned (tokV (Tok.nName s.data.toList)) ∧ Below w.heap.size w w' := by
  have HV := Lib.hid (show Tok.nName s.data.toList = if 32 < Tok.run Tok.isIn s.data.toList then (⟨0, []⟩, 2) else (⟨1, s.data.toList.takeWhile Tok.isIn⟩, 0) from rfl)
  have hrl := run_le Tok.isIn s.data.toList
  rw [size_data] at hrl
  have h2 := fun w => runIn_any s w hs
  have HX := Lib.hid (show s.extract 0 (Tok.run Tok.isIn s.data.toList) = str (s.data.toList.takeWhile Tok.isIn) by rw [ext_take, run_take])
  have hz : (s.extract 0 (Tok.run Tok.isIn s.data.toList)).size = Tok.run Tok.isIn s.data.toList := by rw [ext_take, str_size, List.length_take, size_data]; omega
  generalize Tok.nName s.data.toList = v at *
  generalize Tok.run Tok.isIn s.data.toList = R at *
  generalize s.data.toList.takeWhile Tok.isIn = T at *
  by_cases h3 : 32 < R
  · have b3 : decide ((32 : Int) < R) = true := by simp; omega
    have HT := Lib.hid (show v = (⟨0, []⟩, 2) by rw [HV.out, if_pos h3])
    clear HV HX
    have HZ := Lib.hid hz
    clear hz
    go_enter Tryd.func46, Tryd.ntmps46
    go_wp2_with (go_at_call 32; (with_reducible refine (h2 _).mono ?_); rintro e w' ⟨rfl, rfl⟩)
    exact bodyPost_ret (v := .tuple #[.agg #[.int .i64 0, .string ⟨#[]⟩], .int .i64 2]) (by simp [results, Tryd.results46, go_sem]) rfl ⟨by rw [HT.out]; rfl, (Below.refl _ _).alloc (Nat.le_refl _) _⟩
  · have b3 : decide ((32 : Int) < R) = false := by simp; omega
    have HT := Lib.hid (show v = (⟨1, T⟩, 0) by rw [HV.out, if_neg h3])
    clear HV
    have HZ := Lib.hid hz
    clear hz
    go_enter Tryd.func46, Tryd.ntmps46
    go_wp2_with (go_at_call 32; (with_reducible refine (h2 _).mono ?_); rintro e w' ⟨rfl, rfl⟩)
    exact bodyPost_ret (v := .tuple #[.agg #[.int .i64 1, .string (s.extract 0 R)], .int .i64 0]) (by simp [results, Tryd.results46, go_sem]) rfl ⟨by rw [HT.out, HX.out]; rfl, by first | exact (Below.refl _ _).alloc (Nat.le_refl _) _ | exact (((Below.refl _ _).alloc (Nat.le_refl _) _).setCell (by simp) _).setCell (by simp) _⟩
theorem dw_drop (p : UInt8 → Bool) (l : List UInt8) : l.dropWhile p = l.drop (Tok.run p l) := by
  have h := List.takeWhile_append_dropWhile (p := p) (l := l)
  have h2 : (l.takeWhile p ++ l.dropWhile p).drop (l.takeWhile p).length = l.dropWhile p := List.drop_left
  rw [h] at h2
  exact h2.symm
theorem head_drop (s : ByteArray) (k : Nat) (h : k < s.size) : (s.data.toList.drop k).head? = some s[k] := by rw [get_s s k h]; rfl
set_option maxHeartbeats 4000000 in
set_option maxRecDepth 100000 in
theorem firstNumber_any (s : ByteArray) (w : World) (hs : s.size ≤ 1000000000) (hE : Errs w) :
    Calls Tryd.prog 47 #[.string s] w fun e w' => e = .returned (tokV (Tok.nNum s.data.toList)) ∧ Below w.heap.size w w' := by
  have HV := Lib.hid (show Tok.nNum s.data.toList = if (Tok.number (s.data.toList.takeWhile Tok.isDig)).2 ≠ 0 then (⟨0, []⟩, (Tok.number (s.data.toList.takeWhile Tok.isDig)).2) else if (s.data.toList.drop (Tok.run Tok.isDig s.data.toList)).head?.map Tok.isLet = some true then (⟨0, []⟩, 4) else (⟨2, s.data.toList.takeWhile Tok.isDig⟩, 0) by rw [← dw_drop]; rfl)
  have hrl := run_le Tok.isDig s.data.toList
  rw [size_data] at hrl
  have h2 := fun w => runDig_any s w hs
  have hX : s.extract 0 (Tok.run Tok.isDig s.data.toList) = str (s.data.toList.takeWhile Tok.isDig) := by rw [ext_take, run_take]
  have hz : (s.extract 0 (Tok.run Tok.isDig s.data.toList)).size = Tok.run Tok.isDig s.data.toList := by rw [ext_take, str_size, List.length_take, size_data]; omega
  generalize Tok.nNum s.data.toList = v at *
  generalize Tok.run Tok.isDig s.data.toList = R at *
  generalize s.data.toList.takeWhile Tok.isDig = T at *
  have h3 : ∀ w, Errs w → Calls Tryd.prog 17 #[.string (s.extract 0 R)] w fun e w' => e = .returned (.tuple #[.int .u32 ((Tok.number T).1 : Int), .int .i64 (Tok.number T).2]) ∧ Below w.heap.size w w' := fun w hw => by
    have h := number_any (s.extract 0 R) w (by omega) hw
    rw [hX, str_data] at h
    rw [hX]
    exact h
  have HX := Lib.hid hX
  clear hX
  generalize Tok.number T = N at *
  obtain ⟨n, er⟩ := N
  have hb0 : Below w.heap.size w (w.alloc (.cells #[.int .i64 0, .string ⟨#[]⟩] 39)) := (Below.refl _ _).alloc (Nat.le_refl _) _
  have hE0 := hE.below hb0
  have HZ := Lib.hid hz
  by_cases he : er ≠ 0
  · have HT := Lib.hid (show v = (⟨0, []⟩, er) by rw [HV.out, if_pos he])
    have b3 : (er != 0) = true := by rw [bne_iff_ne]; exact he
    clear HV hz he
    go_enter Tryd.func47, Tryd.ntmps47
    go_wp2_with (go_at_call 32; (with_reducible refine (h2 _).mono ?_); rintro e w' ⟨rfl, rfl⟩)
    have hcall := h3 _ hE0
    (with_reducible refine hcall.mono ?_)
    clear hcall
    rintro e w1 ⟨rfl, hb⟩
    obtain ⟨hc0, hc1, hf0, hf1, _⟩ := keep2 hb
    replace hb0 := hb0.trans (hb.mono hb0.size)
    clear hb
    go_wp2_with fail
    exact bodyPost_ret (v := .tuple #[.agg #[.int .i64 0, .string ⟨#[]⟩], .int .i64 er]) (by simp [results, Tryd.results47, go_sem, hc0, hc1]) rfl ⟨by rw [HT.out]; rfl, (hb0.setCell (by simp) _).setCell (by simp) _⟩
  · have he' : er = 0 := Classical.not_not.1 he
    subst he'
    have HV2 := Lib.hid (show v = if (s.data.toList.drop R).head?.map Tok.isLet = some true then (⟨0, []⟩, 4) else (⟨2, T⟩, 0) by rw [HV.out, if_neg he])
    clear HV he
    by_cases hR : R < s.size
    · have hh := head_drop s R hR
      have h4 := fun w => letter_at s[R] w
      cases hl : Tok.isLet s[R]
      · rw [hl] at h4
        have HT := Lib.hid (show v = (⟨2, T⟩, 0) by rw [HV2.out, hh]; simp [hl])
        have b3 : decide ((R : Int) < s.size) = true := by simp; omega
        clear HV2 hh hl
        go_enter Tryd.func47, Tryd.ntmps47
        go_wp2_with (go_at_call 32; (with_reducible refine (h2 _).mono ?_); rintro e w' ⟨rfl, rfl⟩)
        have hcall := h3 _ hE0
        (with_reducible refine hcall.mono ?_)
        clear hcall
        rintro e w1 ⟨rfl, hb⟩
        obtain ⟨hc0, hc1, hf0, hf1, _⟩ := keep2 hb
        replace hb0 := hb0.trans (hb.mono hb0.size)
        clear hb
        go_wp2_with (go_at_call 45; (with_reducible refine (h4 _).mono ?_); rintro e w' ⟨rfl, rfl⟩)
        exact bodyPost_ret (v := .tuple #[.agg #[.int .i64 2, .string (s.extract 0 R)], .int .i64 0]) (by simp [results, Tryd.results47, go_sem, hc0, hc1]) rfl ⟨by rw [HT.out, HX.out]; rfl, (hb0.setCell (by simp) _).setCell (by simp) _⟩
      · rw [hl] at h4
        have HT := Lib.hid (show v = (⟨0, []⟩, 4) by rw [HV2.out, hh]; simp [hl])
        have b3 : decide ((R : Int) < s.size) = true := by simp; omega
        clear HV2 hh hl
        go_enter Tryd.func47, Tryd.ntmps47
        go_wp2_with (go_at_call 32; (with_reducible refine (h2 _).mono ?_); rintro e w' ⟨rfl, rfl⟩)
        have hcall := h3 _ hE0
        (with_reducible refine hcall.mono ?_)
        clear hcall
        rintro e w1 ⟨rfl, hb⟩
        obtain ⟨hc0, hc1, hf0, hf1, _⟩ := keep2 hb
        replace hb0 := hb0.trans (hb.mono hb0.size)
        clear hb
        go_wp2_with (go_at_call 45; (with_reducible refine (h4 _).mono ?_); rintro e w' ⟨rfl, rfl⟩)
        exact bodyPost_ret (v := .tuple #[.agg #[.int .i64 0, .string ⟨#[]⟩], .int .i64 4]) (by simp [results, Tryd.results47, go_sem, hc0, hc1]) rfl ⟨by rw [HT.out]; rfl, (hb0.setCell (by simp) _).setCell (by simp) _⟩
    · have HT := Lib.hid (show v = (⟨2, T⟩, 0) by rw [HV2.out, List.drop_of_length_le (by rw [size_data]; omega)]; simp)
      have b3 : decide ((R : Int) < s.size) = false := by simp; omega
      clear HV2
      go_enter Tryd.func47, Tryd.ntmps47
      go_wp2_with (go_at_call 32; (with_reducible refine (h2 _).mono ?_); rintro e w' ⟨rfl, rfl⟩)
      have hcall := h3 _ hE0
      (with_reducible refine hcall.mono ?_)
      clear hcall
      rintro e w1 ⟨rfl, hb⟩
      obtain ⟨hc0, hc1, hf0, hf1, _⟩ := keep2 hb
      replace hb0 := hb0.trans (hb.mono hb0.size)
      clear hb
      go_wp2_with fail
      exact bodyPost_ret (v := .tuple #[.agg #[.int .i64 2, .string (s.extract 0 R)], .int .i64 0]) (by simp [results, Tryd.results47, go_sem, hc0, hc1]) rfl ⟨by rw [HT.out, HX.out]; rfl, (hb0.setCell (by simp) _).setCell (by simp) _⟩
theorem next_def (l : List UInt8) : Tok.next l = if l.head?.map Tok.isLet = some true then Tok.nName l else if l.head?.map Tok.isDig = some true then Tok.nNum l else (if Tok.symb l = [] then (⟨0, []⟩, 4) else (⟨3, Tok.symb l⟩, 0)) := rfl
theorem tokV_two (x : Tok.Tk × Int) : ∃ a b c, tokV x = .tuple #[.agg #[.int .i64 a, .string b], .int .i64 c] := ⟨_, _, _, rfl⟩
set_option maxHeartbeats 4000000 in
set_option maxRecDepth 100000 in
theorem first_any (s : ByteArray) (w : World) (hs : s.size ≤ 1000000000) (h0 : 0 < s.size) (hE : Errs w) :
    Calls Tryd.prog 24 #[.string s] w fun e w' => e = .returned (tokV (Tok.next s.data.toList)) ∧ Below w.heap.size w w' := by
  have hd := next_def s.data.toList
  rw [head_s s h0] at hd
  simp only [Option.map_some] at hd
  have HV := Lib.hid hd
  clear hd
  have hb0 : Below w.heap.size w (w.alloc (.cells #[.int .i64 0, .string ⟨#[]⟩] 39)) := (Below.refl _ _).alloc (Nat.le_refl _) _
  have hE0 := hE.below hb0
  have h1 := fun w => letter_at s[0] w
  have h2 := fun w => digit_at s[0] w
  have h3 := fun w => firstName_any s w hs
  have h4 := fun w => firstNumber_any s w hs
  have h5 := fun w => symb_any s w hs
  generalize Tok.next s.data.toList = v at *
  generalize Tok.nName s.data.toList = va at *
  generalize Tok.nNum s.data.toList = vb at *
  generalize Tok.symb s.data.toList = vc at *
  cases hl : Tok.isLet s[0]
  · rw [hl] at h1
    cases hdg : Tok.isDig s[0]
    · rw [hdg] at h2
      by_cases hc : vc = []
      · have HT := Lib.hid (show v = (⟨0, []⟩, 4) by rw [HV.out]; simp [hl, hdg, hc])
        subst hc
        rw [show str [] = ⟨#[]⟩ from rfl] at h5
        clear HV hl hdg
        go_enter Tryd.func24, Tryd.ntmps24
        go_wp2_with (first
          | (go_at_call 45; (with_reducible refine (h1 _).mono ?_); rintro e w' ⟨rfl, rfl⟩)
          | (go_at_call 33; (with_reducible refine (h2 _).mono ?_); rintro e w' ⟨rfl, rfl⟩)
          | (go_at_call 48; (with_reducible refine (h5 _).mono ?_); rintro e w' ⟨rfl, rfl⟩))
        exact bodyPost_ret (v := .tuple #[.agg #[.int .i64 0, .string ⟨#[]⟩], .int .i64 4]) (by simp [results, Tryd.results24, go_sem]) rfl ⟨by rw [HT.out]; rfl, by first | exact hb0 | exact (hb0.setCell (by simp) _).setCell (by simp) _⟩
      · have HT := Lib.hid (show v = (⟨3, vc⟩, 0) by rw [HV.out]; simp [hl, hdg, hc])
        have q1 : ¬ (str vc).toList = [] := fun e => hc (by rw [ByteArray.toList_eq, str_data] at e; exact e)
        have q2 : (str vc).toList.isEmpty = false := by rw [List.isEmpty_eq_false_iff]; exact q1
        clear HV hl hdg hc
        generalize hcs : str vc = cs at *
        have HCS := Lib.hid hcs
        clear hcs
        go_enter Tryd.func24, Tryd.ntmps24
        go_wp2_with (first
          | (go_at_call 45; (with_reducible refine (h1 _).mono ?_); rintro e w' ⟨rfl, rfl⟩)
          | (go_at_call 33; (with_reducible refine (h2 _).mono ?_); rintro e w' ⟨rfl, rfl⟩)
          | (go_at_call 48; (with_reducible refine (h5 _).mono ?_); rintro e w' ⟨rfl, rfl⟩))
        exact bodyPost_ret (v := .tuple #[.agg #[.int .i64 3, .string cs], .int .i64 0]) (by simp [results, Tryd.results24, go_sem]) rfl ⟨by rw [HT.out, ← HCS.out]; rfl, by first | exact hb0 | exact (Below.refl _ _).alloc (Nat.le_refl _) _ | exact (hb0.setCell (by simp) _).setCell (by simp) _⟩
    · rw [hdg] at h2
      have HT := Lib.hid (show v = vb by rw [HV.out]; simp [hl, hdg])
      have hcall := h4 _ hE0
      obtain ⟨⟨ka, kb⟩, kc⟩ := vb
      rw [tokV_def] at hcall
      clear HV hl hdg h4 h3
      go_enter Tryd.func24, Tryd.ntmps24
      go_wp2_with (first
        | (go_at_call 45; (with_reducible refine (h1 _).mono ?_); rintro e w' ⟨rfl, rfl⟩)
        | (go_at_call 33; (with_reducible refine (h2 _).mono ?_); rintro e w' ⟨rfl, rfl⟩))
      (with_reducible refine hcall.mono ?_)
      clear hcall
      rintro e w1 ⟨rfl, hb⟩
      obtain ⟨hc0, hc1, hf0, hf1, _⟩ := keep2 hb
      replace hb0 := hb0.trans (hb.mono hb0.size)
      clear hb
      go_wp2_with fail
      exact bodyPost_ret (v := .tuple #[.agg #[.int .i64 ka, .string (str kb)], .int .i64 kc]) (by simp [results, Tryd.results24, go_sem, hc0, hc1]) rfl ⟨by rw [HT.out]; rfl, (hb0.setCell (by simp) _).setCell (by simp) _⟩
  · rw [hl] at h1
    have HT := Lib.hid (show v = va by rw [HV.out]; simp [hl])
    have hcall := h3 (w.alloc (.cells #[.int .i64 0, .string ⟨#[]⟩] 39))
    obtain ⟨⟨ka, kb⟩, kc⟩ := va
    rw [tokV_def] at hcall
    clear HV hl h4 h3
    go_enter Tryd.func24, Tryd.ntmps24
    go_wp2_with (go_at_call 45; (with_reducible refine (h1 _).mono ?_); rintro e w' ⟨rfl, rfl⟩)
    (with_reducible refine hcall.mono ?_)
    clear hcall
    rintro e w1 ⟨rfl, hb⟩
    obtain ⟨hc0, hc1, hf0, hf1, _⟩ := keep2 hb
    replace hb0 := hb0.trans (hb.mono hb0.size)
    clear hb
    go_wp2_with fail
    exact bodyPost_ret (v := .tuple #[.agg #[.int .i64 ka, .string (str kb)], .int .i64 kc]) (by simp [results, Tryd.results24, go_sem, hc0, hc1]) rfl ⟨by rw [HT.out]; rfl, (hb0.setCell (by simp) _).setCell (by simp) _⟩
end Go.Proofs.YtlbddfaebmcckaaDoor
