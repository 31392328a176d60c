/- NormalizeNotes. Condition: bytealg's MaxLen, the table of powers and strconv's errors lie in their variables. -/
import Derived.Test.YtenaohnginikhaaDoorNno
import Derived.Test.YtenaohnginikhaaDoorNcl
namespace Go.Proofs.YtenaohnginikhaaDoor
open Go.RowKit Go.Deep Tr
namespace Nm
theorem num_conv (X : World) (g : Nat) (l : List UInt8) (hc : ∀ j (h : j < l.length), X.cell? ⟨g, j, none⟩ = some (.int .u8 (l[j].toNat : Int))) :
    (convert 38 9 (.slice (some ⟨g, 0, none⟩) l.length l.length)).run Tryd.prog X = .ok (.string (str l)) X :=
  run_convert_bytes_back X 38 9 5 ⟨g, 0, none⟩ l.length l Tryd.underlying38 Tryd.underlying5 Tryd.underlying9 (fun j hj => by
    rw [addr_addS, Nat.zero_add]
    exact hc j hj)
theorem dig_to (a : Nat) (h : a < 10) : (((UInt8.ofNat (48 + a)).toNat : Nat) : Int) = 48 + (a : Int) := by
  have : (UInt8.ofNat (48 + a)).toNat = 48 + a := by rw [UInt8.toNat_ofNat']; omega
  rw [this]; omega
theorem okw_bound : ∀ (l : List Lx) (m : Int), okw m l = true → ∀ x ∈ l, m ≤ x.ln ∧ x.ln < 1024 := by
  intro l
  induction l with
  | nil => intro m _ x hx; cases hx
  | cons y r ih =>
    intro m h x hx
    rw [okw_next] at h
    simp only [Bool.and_eq_true, decide_eq_true_eq] at h
    rcases List.mem_cons.1 hx with rfl | hx
    · exact ⟨h.1.1.2, h.1.2⟩
    · have := ih y.ln h.2 x hx
      omega
theorem lx_set2 {w : World} {B g : Nat} {A : Option Addr} {l : List Lx} {s0 : ByteArray} {T : TypeId} {z : Nat × Nat} (u v : Value) (hA : LxAt w B A l) (hg : w.heap[g]? = some (.cells #[.string s0, .slice none 0 0] T z)) : LxAt ((w.setCell ⟨g, 0, none⟩ u).setCell ⟨g, 1, none⟩ v) B A l := fun j hj => by
  obtain ⟨q, o, e, hq, h0, h1⟩ := hA j hj
  have hne : q ≠ g := fun e2 => by
    subst e2
    rw [cell_of_row _ _ _ _ _ _ hg] at h1
    match hh : o + j * 2 + 1 with
    | 0 => omega
    | 1 => rw [hh] at h1; simp at h1
    | n + 2 => rw [hh] at h1; simp at h1
  have hb : ((w.setCell ⟨g, 0, none⟩ u).setCell ⟨g, 1, none⟩ v).heap[q]? = w.heap[q]? := (Below.heap_setCell _ ⟨g, 1, none⟩ _ _ hne).trans (Below.heap_setCell _ ⟨g, 0, none⟩ _ _ hne)
  refine ⟨q, o, e, hq, ?_, ?_⟩
  · unfold World.cell? at h0 ⊢; rw [hb]; exact h0
  · unfold World.cell? at h1 ⊢; rw [hb]; exact h1
theorem ins_rep (s : List UInt8) : ∀ k, Lib.repeatL (s ++ [10]) k = insL k s := by
  intro k
  induction k with
  | zero => rfl
  | succ k ih => show (s ++ [10]) ++ Lib.repeatL (s ++ [10]) k = s ++ 10 :: insL k s; rw [ih, List.append_assoc]; rfl
set_option maxHeartbeats 16000000 in
set_option maxRecDepth 100000 in
theorem notes_law (sd si : ByteArray) (m : Nat) (hm : m ≤ 255) (W : World) (hM : MaxAt W) (hE : ErrAt W) (hT : Cd.Tabs W) :
    Calls Tryd.prog 6 #[.string sd, .string si, .int .u8 (m : Int)] W fun e w' => e = .returned (.bool true) ∧ Below W.heap.size W w' := by
  have cc := awake_any W hM hE hT
  have HM := Lib.hid hM
  have HE := Lib.hid hE
  have HT := Lib.hid hT
  clear hM hE hT
  go_enter Tryd.func6, Tryd.ntmps6
  go_wp2_with fail
  (with_reducible refine cc.mono ?_)
  rintro e w1 ⟨rfl, hb1⟩
  clear cc
  have HB1 := Lib.hid hb1
  by_cases h2 : 2000 < sd.size
  · have b2 : decide ((2000 : Int) < (sd.size : Int)) = true := decide_eq_true (by omega)
    have b2n : decide (2000 < sd.size) = true := decide_eq_true h2
    clear hb1
    go_wp2_with fail
    go_ret
    exact ⟨rfl, HB1.out⟩
  have b2 : decide ((2000 : Int) < (sd.size : Int)) = false := decide_eq_false (by omega)
  have b2n : decide (2000 < sd.size) = false := decide_eq_false h2
  by_cases h3 : 100 < si.size
  · have b3 : decide ((100 : Int) < (si.size : Int)) = true := decide_eq_true (by omega)
    have b3n : decide (100 < si.size) = true := decide_eq_true h3
    clear hb1
    go_wp2_with fail
    go_ret
    exact ⟨rfl, HB1.out⟩
  have b3 : decide ((100 : Int) < (si.size : Int)) = false := decide_eq_false (by omega)
  have b3n : decide (100 < si.size) = false := decide_eq_false h3
  obtain ⟨k, hk⟩ : ∃ k, k = m % 21 := ⟨_, rfl⟩
  have hk21 : k < 21 := by omega
  have hmk : (m : Int) % 21 = (k : Int) := by omega
  obtain ⟨d, rfl⟩ : ∃ x, sd = str x := ⟨sd.data.toList, (str_of sd).symm⟩
  obtain ⟨s, rfl⟩ : ∃ x, si = str x := ⟨si.data.toList, (str_of si).symm⟩
  have hds := str_size d
  have hss := str_size s
  have c0 := Tryd.strings_Contains_one (str s) 10 w1
  rw [str_data] at c0
  have HIX := Lib.hid (show Lib.indexByte s 10 < 0 → ∀ z ∈ s, z ≠ 10 from fun h => by
    rcases byte_cut 10 s with ⟨_, h2⟩ | ⟨k, h1, _⟩
    · exact h2
    · omega)
  generalize Lib.indexByte s 10 = ix at *
  clear hb1 hk
  by_cases hix : 0 ≤ ix
  · rw [decide_eq_true hix] at c0
    go_wp2_with fail
    (with_reducible refine c0.mono ?_)
    rintro e w1' ⟨rfl, rfl⟩
    go_wp2_with fail
    go_ret
    exact ⟨rfl, HB1.out⟩
  rw [decide_eq_false hix] at c0
  have HS := Lib.hid (HIX.out (by omega))
  clear HIX hix
  go_wp2_with fail
  (with_reducible refine c0.mono ?_)
  rintro e w1' ⟨rfl, rfl⟩
  clear c0
  have c1 := Tryd.strings_Count_one (str d) 10 w1'
  rw [str_data] at c1
  have HCN := Lib.hid (Lib.count_one 10 d)
  have hcb : Lib.countByte d 10 = d.count 10 := rfl
  rw [hcb] at c1
  generalize d.count 10 = cn at *
  clear hcb
  by_cases hcn : 500 < cn
  · have b4 : decide ((500 : Int) < (cn : Int)) = true := decide_eq_true (by omega)
    have b4n : decide (500 < cn) = true := decide_eq_true hcn
    go_wp2_with fail
    (with_reducible refine c1.mono ?_)
    rintro e w1 ⟨rfl, rfl⟩
    go_wp2_with fail
    go_ret
    exact ⟨rfl, HB1.out⟩
  have b4 : decide ((500 : Int) < (cn : Int)) = false := decide_eq_false (by omega)
  have b4n : decide (500 < cn) = false := decide_eq_false hcn
  have HWN := Lib.hid (wr_note hk21 HS.out (by omega) (by omega) (show Lib.count d [10] ≤ 500 by rw [HCN.out]; omega))
  go_wp2_with fail
  (with_reducible refine c1.mono ?_)
  rintro e w2 ⟨rfl, rfl⟩
  clear c1 b4 b4n
  obtain ⟨a, ha⟩ : ∃ a, a = k % 10 := ⟨_, rfl⟩
  obtain ⟨q, hq⟩ : ∃ q, q = k / 10 := ⟨_, rfl⟩
  have hra : (k : Int) % 10 = (a : Int) := by omega
  have hrq : (k : Int) / 10 = (q : Int) := by omega
  have ha10 : a < 10 := by omega
  have hq3 : q < 3 := by omega
  have HA := Lib.hid ha
  have HQ := Lib.hid hq
  clear ha hq
  go_upto_region 7 with (fail)
  by_cases h10 : 10 ≤ k
  · have b5 : decide ((10 : Int) ≤ (k : Int)) = true := decide_eq_true (by omega)
    have b5n : decide (10 ≤ k) = true := decide_eq_true h10
    obtain ⟨N, hN⟩ : ∃ N, N = ((w2.alloc (.cells #[.int .u8 (48 + (a : Int))] 5)).alloc (.cells #[.int .u8 (48 + (q : Int)), .int .u8 (48 + (a : Int))] 5)) := ⟨_, rfl⟩
    have hbN : Below w2.heap.size w2 N := by rw [hN]; exact ((Below.refl _ w2).alloc (Nat.le_refl _) _).alloc (by simp) _
    have gN : N.heap[(w2.heap.size + 1)]? = some (.cells #[.int .u8 (48 + (q : Int)), .int .u8 (48 + (a : Int))] 5 (0, 0)) := by rw [hN]; exact (by have := heap_alloc_new (w2.alloc (.cells #[.int .u8 (48 + (a : Int))] 5)) (.cells #[.int .u8 (48 + (q : Int)), .int .u8 (48 + (a : Int))] 5); rwa [World.size_alloc] at this)
    have HNL := Lib.hid (show numL k = [UInt8.ofNat (48 + q), UInt8.ofNat (48 + a)] by unfold numL; rw [if_pos h10, ← HA.out, ← HQ.out])
    have HCV := Lib.hid (fun (X : World) (hX : Below N.heap.size N X) => (show (convert 38 9 (.slice (some ⟨(w2.heap.size + 1), 0, none⟩) 2 2)).run Tryd.prog X = .ok (.string (str (numL k))) X from by
      have gX := (hX.block _ (blk_lt gN)).trans gN
      have hlen : (numL k).length = 2 := by rw [HNL.out]; rfl
      have h := num_conv X (w2.heap.size + 1) (numL k) (fun j hj => by
        rw [cell_of_row _ _ _ _ _ _ gX]
        rw [hlen] at hj
        simp only [HNL.out]
        match j, hj with
        | 0, _ => exact congrArg (fun z => some (Value.int .u8 z)) (dig_to q (by omega)).symm
        | 1, _ => exact congrArg (fun z => some (Value.int .u8 z)) (dig_to a ha10).symm)
      rw [hlen] at h
      exact h))
    have HBN := Lib.hid (HB1.out.trans (hbN.mono HB1.out.size))
    have c2 : Calls Tryd.prog 11 #[.string ⟨#[97]⟩, .string (str d), .bool false, .bool false] N (GotTx N ⟨[97], wrd false false d⟩ 0) := by
      have h := words_any [97] d false false N (by decide) (by omega) (HM.out.below HBN.out) (HE.out.below HBN.out) (HT.out.below HBN.out)
      rw [HWN.out.1, HWN.out.2.2.1] at h
      exact h
    clear hbN gN
    go_wp2_with fail
    rw [← hN]
    clear hN
    (with_reducible refine c2.mono ?_)
    rintro e w3 ⟨A2, k2, rfl, hA2, _, hb2⟩
    clear c2
    dsimp only
    obtain ⟨tl, htl⟩ : ∃ tl, tl = wrd false false d := ⟨_, rfl⟩
    rw [← htl] at hA2 ⊢
    obtain ⟨V2, hV2⟩ : ∃ V2, V2 = w3.alloc (.cells #[.string ⟨#[97]⟩, .slice A2 tl.length k2] 25) := ⟨_, rfl⟩
    have hv2 : Below w3.heap.size w3 V2 := by rw [hV2]; exact (Below.refl _ _).alloc (Nat.le_refl _) _
    have g2 : V2.heap[w3.heap.size]? = some (.cells #[.string ⟨#[97]⟩, .slice A2 tl.length k2] 25 (0, 0)) := by rw [hV2]; exact heap_alloc_new w3 _
    have hBV2 := hb2.trans (hv2.mono hb2.size)
    have HA2 := Lib.hid (hA2.next hv2)
    have HB2 := Lib.hid (HBN.out.trans (hBV2.mono HBN.out.size))
    have HN2 := Lib.hid hBV2
    have HG2 := Lib.hid g2
    have HTL := Lib.hid htl
    clear hb2 hv2 hA2 hBV2 g2 htl
    go_upto_region 10 with (fail)
    rw [show w3.alloc (.cells #[.string (str [97]), .slice A2 tl.length k2] 25 (0, 0)) = V2 from hV2.symm]
    clear hV2
    obtain ⟨hd, hhd⟩ : ∃ x, x = headL k := ⟨_, rfl⟩
    obtain ⟨h1, hh1⟩ : ∃ x, x = hd ++ [10] := ⟨_, rfl⟩
    obtain ⟨s1, hs1⟩ : ∃ x, x = s ++ [10] := ⟨_, rfl⟩
    obtain ⟨r, hr⟩ : ∃ x, x = insL k s := ⟨_, rfl⟩
    obtain ⟨h2', hh2⟩ : ∃ x, x = h1 ++ r := ⟨_, rfl⟩
    obtain ⟨tt, htt⟩ : ∃ x, x = noteT k s d := ⟨_, rfl⟩
    have hcat1 : (⟨#[32, 110, 111, 116, 101, 32, 32]⟩ : ByteArray) ++ str (numL k) = str hd := by rw [hhd]; exact str_app [32, 110, 111, 116, 101, 32, 32] (numL k)
    have hcat2 : str hd ++ (⟨#[10]⟩ : ByteArray) = str h1 := by rw [hh1]; exact str_app hd [10]
    have hcat3 : str s ++ (⟨#[10]⟩ : ByteArray) = str s1 := by rw [hs1]; exact str_app s [10]
    have hcat4 : str h1 ++ str r = str h2' := by rw [hh2]; exact str_app h1 r
    have hcat5 : str h2' ++ str d = str tt := by
      rw [str_app, hh2, hh1, htt, hhd, hr]
      unfold noteT
      simp
    have hz0 : (str (numL k)).size ≤ 2 := by rw [str_size]; unfold numL; split <;> simp
    have hzd : (str hd).size ≤ 9 := by rw [str_size, hhd]; exact (head_ok k hk21).2.2
    have hz1 : (str h1).size ≤ 10 := by rw [str_size, hh1, List.length_append]; rw [str_size] at hzd; simp; omega
    have hzs : (str s1).size = s.length + 1 := by rw [str_size, hs1]; simp
    have hzr : (str r).size ≤ 2020 := by
      rw [str_size, hr, ins_len]
      have : k * (s.length + 1) ≤ 20 * 101 := Nat.mul_le_mul (by omega) (by omega)
      omega
    have hz2 : (str h2').size ≤ 2030 := by rw [str_size, hh2, List.length_append]; rw [str_size] at hz1 hzr; omega
    have hzt : (str tt).size ≤ 5000 := by rw [str_size, htt]; have := note_len hk21 (s := s) (by omega) d; omega
    have HRP := Lib.hid (fun (X : World) => (show Calls Tryd.prog 20 #[.string (str s1), .int .i64 (k : Int)] X fun e w' => e = .returned (.string (str r)) ∧ Below X.heap.size X w' from by
      have hmul : (str s1).size * k ≤ 101 * 20 := Nat.mul_le_mul (by omega) (by omega)
      have h := Tryd.strings_Repeat (str s1) k X (by omega) (by omega)
      refine h.mono fun e w' hh => ⟨?_, hh.2⟩
      rw [hh.1, str_data, hs1, ins_rep, ← hr]
      rfl))
    obtain ⟨ul, hul⟩ : ∃ ul, ul = tl.map (mv (k + 1)) := ⟨_, rfl⟩
    have HUL := Lib.hid hul
    have hulen : ul.length = tl.length := by rw [hul, List.length_map]
    have HWD := Lib.hid (fun (X : World) (hX : Below W.heap.size W X) => (show Calls Tryd.prog 11 #[.string ⟨#[97]⟩, .string (str tt), .bool false, .bool false] X (GotTx X ⟨[97], ul⟩ 0) from by
      have h := words_any [97] tt false false X (by decide) (by rw [← str_size]; omega) (HM.out.below hX) (HE.out.below hX) (HT.out.below hX)
      rw [htt, HWN.out.2.1, HWN.out.2.2.2, ← HTL.out, ← hul] at h
      rw [htt]
      exact h))
    have HLN := Lib.hid (show ∀ x ∈ tl, 0 ≤ x.ln ∧ x.ln < 1024 from by
      rw [HTL.out]
      exact okw_bound _ _ (okw_wl false false _ 0 0 (by have := split_count' d; rw [HCN.out] at this; omega)))
    have htl2 : tl.length ≤ 2000 := by rw [HTL.out]; have := wrd_len false false d; omega
    have BD : Below N.heap.size N V2.drew := HN2.out.drew
    have BV : Below V2.heap.size V2 V2.drew := (Below.refl _ _).drew
    clear hhd hh1 hs1 hr hh2 htt hul
    refine wp_region_held_drew (S := (fun w' : World => (convert 38 9 (.slice (some ⟨(w2.heap.size + 1), 0, none⟩) 2 2)).run Tryd.prog w' = .ok (.string (str (numL k))) w')) (by kernel_rfl) (HCV.out _ BD) (fun hHeld => ?_)
    refine wpAnyH_take (i := 0) (oi := { dst := some 59, op := _, type := _, pos := _, after := _, guard := _ }) (v := ?v1) rfl (by kernel_rfl) (by kernel_rfl) (by kernel_rfl) (fun _ _ _ h => h) (Or.inl ⟨by rfl, ?hy1⟩) (by assumption) ?rest1
    case hy1 =>
      intro w hSw
      try dsimp only at hSw
      go_simp
      try rw [if_neg (by omega)]
      try with_reducible rfl
    try simp only [Act.put]
    refine wpAnyH_take (i := 1) (oi := { dst := some 60, op := _, type := _, pos := _, after := _, guard := _ }) (v := ?v2) rfl (by kernel_rfl) (by kernel_rfl) (by kernel_rfl) (fun _ _ _ h => h) (Or.inl ⟨by rfl, ?hy2⟩) (by assumption) ?rest2
    case hy2 =>
      intro w hSw
      try dsimp only at hSw
      go_simp
      try rw [if_neg (by omega)]
      try with_reducible rfl
    try simp only [Act.put]
    refine wpAnyH_take (i := 2) (oi := { dst := some 61, op := _, type := _, pos := _, after := _, guard := _ }) (v := ?v3) rfl (by kernel_rfl) (by kernel_rfl) (by kernel_rfl) (fun _ _ _ h => h) (Or.inl ⟨by rfl, ?hy3⟩) (by assumption) ?rest3
    case hy3 =>
      intro w hSw
      try dsimp only at hSw
      go_simp
      try rw [if_neg (by omega)]
      try with_reducible rfl
    try simp only [Act.put]
    refine wpAnyH_take (i := 3) (oi := { dst := some 62, op := _, type := _, pos := _, after := _, guard := _ }) (v := ?v4) rfl (by kernel_rfl) (by kernel_rfl) (by kernel_rfl) (fun _ _ _ h => h) (Or.inl ⟨by rfl, ?hy4⟩) (by assumption) ?rest4
    case hy4 =>
      intro w hSw
      try dsimp only at hSw
      go_simp
      try rw [if_neg (by omega)]
      try with_reducible rfl
    try simp only [Act.put]
    refine wpAnyH_take (i := 4) (oi := { dst := some 63, op := _, type := _, pos := _, after := _, guard := _ }) (v := ?v5) rfl (by kernel_rfl) (by kernel_rfl) (by kernel_rfl) (fun _ _ _ h => h) (Or.inl ⟨by rfl, ?hy5⟩) (by assumption) ?rest5
    case hy5 =>
      intro w hSw
      try dsimp only at hSw
      go_simp
      try rw [if_neg (by omega)]
      try with_reducible rfl
    try simp only [Act.put]
    refine wpAnyH_take (i := 5) (oi := { dst := some 64, op := _, type := _, pos := _, after := _, guard := _ }) (v := ?v6) rfl (by kernel_rfl) (by kernel_rfl) (by kernel_rfl) (fun _ _ _ h => h) (Or.inl ⟨by rfl, ?hy6⟩) (by assumption) ?rest6
    case hy6 =>
      intro w hSw
      try dsimp only at hSw
      go_simp
      try rw [if_neg (by omega)]
      try with_reducible rfl
    try simp only [Act.put]
    refine wpAnyH_take (i := 6) (oi := { dst := some 65, op := _, type := _, pos := _, after := _, guard := _ }) (v := ?v7) rfl (by kernel_rfl) (by kernel_rfl) (by kernel_rfl) (fun _ _ _ h => h) (Or.inl ⟨by rfl, ?hy7⟩) (by assumption) ?rest7
    case hy7 =>
      intro w hSw
      try dsimp only at hSw
      go_simp
      try rw [if_neg (by omega)]
      try with_reducible rfl
    try simp only [Act.put]
    refine wpAnyH_take (i := 9) (oi := { dst := some 68, op := _, type := _, pos := _, after := _, guard := _ }) (v := ?v8) rfl (by kernel_rfl) (by kernel_rfl) (by kernel_rfl) (fun _ _ _ h => h) (Or.inl ⟨by rfl, ?hy8⟩) (by assumption) ?rest8
    case hy8 =>
      intro w hSw
      try dsimp only at hSw
      go_simp
      try rw [if_neg (by omega)]
      try with_reducible rfl
    try simp only [Act.put]
    refine wpAnyH_ready (rs := [7, 15]) (by kernel_rfl) (by simp) ?_
    refine AllReadyH.cons (o := _) rfl (fun K hK => ?_) ?_
    · skip
      go_simp
      have cc := HRP.out (V2.drew)
      go_at_call 20
      with_reducible refine cc.mono ?_
      clear cc
      rintro e x1 ⟨rfl, hx1⟩
      have BN1 := BD.trans (hx1.mono BD.size)
      have BV1 := BV.trans (hx1.mono BV.size)
      clear hx1
      refine hK.out _ _ (HCV.out _ BN1) (fun hHeld => ?_)
      clear hK K
      try simp only [Act.put]
      refine wpAnyH_take (i := 8) (oi := { dst := some 67, op := _, type := _, pos := _, after := _, guard := _ }) (v := ?v9) rfl (by kernel_rfl) (by kernel_rfl) (by kernel_rfl) (fun _ _ _ h => h) (Or.inl ⟨by rfl, ?hy9⟩) (by assumption) ?rest9
      case hy9 =>
        intro w hSw
        try dsimp only at hSw
        go_simp
        try rw [if_neg (by omega)]
        try with_reducible rfl
      try simp only [Act.put]
      refine wpAnyH_take (i := 10) (oi := { dst := some 69, op := _, type := _, pos := _, after := _, guard := _ }) (v := ?v10) rfl (by kernel_rfl) (by kernel_rfl) (by kernel_rfl) (fun _ _ _ h => h) (Or.inl ⟨by rfl, ?hy10⟩) (by assumption) ?rest10
      case hy10 =>
        intro w hSw
        try dsimp only at hSw
        go_simp
        try rw [if_neg (by omega)]
        try with_reducible rfl
      try simp only [Act.put]
      refine wpAnyH_ready (rs := [11, 15]) (by kernel_rfl) (by simp) ?_
      refine AllReadyH.cons (o := _) rfl (fun K hK => ?_) ?_
      · skip
        go_simp
        have cc := HWD.out (x1) (HBN.out.trans (BN1.mono HBN.out.size))
        go_at_call 11
        with_reducible refine cc.mono ?_
        clear cc
        rintro e x2 ⟨A3, k3, rfl, hA3, hk3, hx2⟩
        have BN2 := BN1.trans (hx2.mono BN1.size)
        have BV2 := BV1.trans (hx2.mono BV1.size)
        clear hx2
        refine hK.out _ _ (HCV.out _ BN2) (fun hHeld => ?_)
        clear hK K
        try simp only [Act.put]
        refine wpAnyH_take (i := 12) (oi := { dst := some 58, op := _, type := _, pos := _, after := _, guard := _ }) (v := ?v11) rfl (by kernel_rfl) (by kernel_rfl) (by kernel_rfl) (fun _ _ _ h => h) (Or.inl ⟨by rfl, ?hy11⟩) (by assumption) ?rest11
        case hy11 =>
          intro w hSw
          try dsimp only at hSw
          go_simp
          try rw [if_neg (by omega)]
          try with_reducible rfl
        try simp only [Act.put]
        refine wpAnyH_take (i := 13) (oi := { dst := some 71, op := _, type := _, pos := _, after := _, guard := _ }) (v := ?v12) rfl (by kernel_rfl) (by kernel_rfl) (by kernel_rfl) (fun _ _ _ h => h) (Or.inl ⟨by rfl, ?hy12⟩) (by assumption) ?rest12
        case hy12 =>
          intro w hSw
          try dsimp only at hSw
          go_simp
          try rw [if_neg (by omega)]
          try with_reducible rfl
        try simp only [Act.put]
        refine wpAnyH_take (i := 14) (oi := { dst := some 72, op := _, type := _, pos := _, after := _, guard := _ }) (v := ?v13) rfl (by kernel_rfl) (by kernel_rfl) (by kernel_rfl) (fun _ _ _ h => h) (Or.inl ⟨by rfl, ?hy13⟩) (by assumption) ?rest13
        case hy13 =>
          intro w hSw
          try dsimp only at hSw
          go_simp
          try rw [if_neg (by omega)]
          try with_reducible rfl
        try simp only [Act.put]
        refine wpAnyH_ready (rs := [15]) (by kernel_rfl) (by simp) ?_
        refine AllReadyH.cons (o := _) rfl (fun K hK => ?_) AllReadyH.nil
        go_simp
        have ga : (x2.alloc (.cells #[.string ⟨#[]⟩, .slice none 0 0] 25)).heap[x2.heap.size]? = some (.cells #[.string ⟨#[]⟩, .slice none 0 0] 25 (0, 0)) := heap_alloc_new x2 _
        have BNa : Below N.heap.size N (x2.alloc (.cells #[.string ⟨#[]⟩, .slice none 0 0] 25)) := BN2.alloc BN2.size _
        have BVa : Below V2.heap.size V2 (x2.alloc (.cells #[.string ⟨#[]⟩, .slice none 0 0] 25)) := BV2.alloc BV2.size _
        have gle1 : N.heap.size ≤ x2.heap.size := BN2.size
        have gle2 : V2.heap.size ≤ x2.heap.size := BV2.size
        refine hK.out _ _ (HCV.out _ BNa) (fun hHeld => ?_)
        clear hK K
        try simp only [Act.put]
        obtain ⟨Z, hZ⟩ : ∃ Z, Z = (x2.alloc (.cells #[.string (str [97]), .slice A3 tl.length k3] 25)) := ⟨_, rfl⟩
        have gZ : Z.heap[x2.heap.size]? = some (.cells #[.string (str [97]), .slice A3 tl.length k3] 25 (0, 0)) := by rw [hZ]; exact heap_alloc_new x2 _
        have BNZ : Below N.heap.size N Z := by rw [hZ]; exact BN2.alloc BN2.size _
        have BVZ : Below V2.heap.size V2 Z := by rw [hZ]; exact BV2.alloc BV2.size _
        have lZ : LxAt Z Z.heap.size A3 ul := by rw [hZ]; exact (hA3.ws).next ((Below.refl _ _).alloc (Nat.le_refl _) _)
        refine wpAnyH_ready (rs := [16]) (by kernel_rfl) (by simp) ?_
        refine AllReadyH.cons (o := _) rfl (fun K hK => ?_) AllReadyH.nil
        go_simp
        rw [← hZ]
        refine hK.out _ _ (HCV.out _ BNZ) (fun hHeld => ?_)
        clear hK K
        try simp only [Act.put]
        refine wpAnyH_take (i := 17) (oi := { dst := some 12, op := _, type := _, pos := _, after := _, guard := _ }) (v := ?v14) rfl (by kernel_rfl) (by kernel_rfl) (by kernel_rfl) (fun _ _ _ h => h) (Or.inl ⟨by rfl, ?hy14⟩) (by assumption) ?rest14
        case hy14 =>
          intro w hSw
          try dsimp only at hSw
          go_simp
          try rw [if_neg (by omega)]
          try with_reducible rfl
        try simp only [Act.put]
        refine wpAnyH_done (by kernel_rfl) ?_ _
        try simp only [List.setIfInBounds_toArray]
        have hx2z : w3.heap.size < V2.heap.size := blk_lt HG2.out
        have gA := (BVZ.block _ hx2z).trans HG2.out
        have HKEEP := Lib.hid (fun (X : World) (hX : Below Z.heap.size Z X) => (show X.cell? ⟨w3.heap.size, 1, none⟩ = some (.slice A2 tl.length k2) ∧ X.cell? ⟨x2.heap.size, 1, none⟩ = some (.slice A3 tl.length k3) ∧ LxAt X X.heap.size A2 tl ∧ LxAt X X.heap.size A3 ul ∧ Below W.heap.size W X from
          have hBZ := HB2.out.trans (BVZ.mono HB2.out.size)
          ⟨(cells2 ((hX.block _ (blk_lt gA)).trans gA)).2, (cells2 ((hX.block _ (blk_lt gZ)).trans gZ)).2, ((HA2.out.ws).next BVZ).next hX, lZ.next hX, hBZ.trans (hX.mono hBZ.size)⟩))
        have zz := HKEEP.out Z (Below.refl _ _)
        have e1 := zz.1
        have f1 := zz.2.1
        clear zz gA gZ lZ BNZ BVZ hZ BN2 BV2 hHeld
        go_wp2_with fail
        clear e1 f1
        go_loopw [91] (fun v wr => ∃ j : Nat, j ≤ tl.length ∧ v = .int .i64 j ∧ Below Z.heap.size Z wr) (fun v _ => tl.length - (intOf v).toNat)
        case atStart => exact ⟨0, by omega, rfl, Below.refl _ _⟩
        case round =>
          obtain ⟨j, hj, rfl, hb⟩ := hrel
          obtain ⟨-, -, l1, l2, hEW⟩ := HKEEP.out wr hb
          have HEW := Lib.hid hEW
          clear hEW
          by_cases hlt : j < tl.length
          · have b1 : decide ((j : Int) < (tl.length : Int)) = true := decide_eq_true (by omega)
            have b1n : decide (j < tl.length) = true := decide_eq_true hlt
            have y1 : (j : Int) < (tl.length : Int) := by omega
            have hlu : j < ul.length := by omega
            obtain ⟨g, o, rfl, hg, d0, d1⟩ := l1 j hlt
            obtain ⟨g', o', rfl, hg', j0, j1⟩ := l2 j hlu
            have huk : ul[j]'hlu = mv (k + 1) tl[j] := by
              have : ul[j]? = some (mv (k + 1) tl[j]) := by rw [HUL.out, List.getElem?_map, List.getElem?_eq_getElem hlt]; rfl
              rw [List.getElem?_eq_getElem hlu] at this
              exact Option.some.inj this
            obtain ⟨x, hx⟩ : ∃ x, x = tl[j] := ⟨_, rfl⟩
            have hxl := HLN.out x (by rw [hx]; exact List.getElem_mem hlt)
            rw [huk, ← hx] at j0 j1
            rw [← hx] at d0 d1
            rw [show (mv (k + 1) x).ln = x.ln + (k : Int) + 1 by show x.ln + ((k + 1 : Nat) : Int) = _; omega] at j1
            change wr.cell? _ = some (.string (str x.tx)) at j0
            have u1 : IntKind.i64.wrap (x.ln + (k : Int)) = x.ln + (k : Int) := IntWalk.i64_in _ (by omega)
            have u2 : IntKind.i64.wrap (x.ln + (k : Int) + 1) = x.ln + (k : Int) + 1 := IntWalk.i64_in _ (by omega)
            have hbs := hb.size
            obtain ⟨N1, hN1⟩ : ∃ N1, N1 = wr.alloc (.cells #[.string (str x.tx), .int .i64 x.ln] 41) := ⟨_, rfl⟩
            have ha1 : Below wr.heap.size wr N1 := by rw [hN1]; exact (Below.refl _ _).alloc (Nat.le_refl _) _
            have hbN1 : Below Z.heap.size Z N1 := hb.trans (ha1.mono hbs)
            have gN1 : N1.heap[wr.heap.size]? = some (.cells #[.string (str x.tx), .int .i64 x.ln] 41 (0, 0)) := by rw [hN1]; exact heap_alloc_new wr _
            obtain ⟨p0, p1⟩ := cells2 gN1
            have jj0 := (ha1.cell (p := ⟨g', o' + j * 2, none⟩) hg').trans j0
            have jj1 := (ha1.cell (p := ⟨g', o' + j * 2 + 1, none⟩) hg').trans j1
            have ff1 := (HKEEP.out N1 hbN1).2.1
            have HBN1 := Lib.hid hbN1
            clear huk hx l1 l2 hg hg' j0 j1 gN1 ha1 hb hbN1
            go_upto_region 16 with (fail)
            rw [← hN1]
            clear hN1 d0 d1
            go_quiet (fail)
            have hbQ := HBN1.out.trans ((below_drewN N1 nq).mono HBN1.out.size)
            generalize N1.drewN nq = Q at *
            have HBQ := Lib.hid hbQ
            clear hbQ p0 p1 jj0 jj1 ff1
            go_wp2_with fail
            go_roundw
            case rel => exact ⟨j + 1, by omega, by go_num, HBQ.out⟩
            case measure => simp [intOf]; omega
          · have b1 : decide ((j : Int) < (tl.length : Int)) = false := decide_eq_false (by omega)
            have b1n : decide (j < tl.length) = false := decide_eq_false hlt
            clear hb l1 l2
            go_wp2_with fail
            go_ret
            exact ⟨rfl, HEW.out⟩
      refine AllReadyH.cons (o := _) rfl (fun K hK => ?_) AllReadyH.nil
      go_simp
      have ga : (x1.alloc (.cells #[.string ⟨#[]⟩, .slice none 0 0] 25)).heap[x1.heap.size]? = some (.cells #[.string ⟨#[]⟩, .slice none 0 0] 25 (0, 0)) := heap_alloc_new x1 _
      have BNa : Below N.heap.size N (x1.alloc (.cells #[.string ⟨#[]⟩, .slice none 0 0] 25)) := BN1.alloc BN1.size _
      have BVa : Below V2.heap.size V2 (x1.alloc (.cells #[.string ⟨#[]⟩, .slice none 0 0] 25)) := BV1.alloc BV1.size _
      have gle1 : N.heap.size ≤ x1.heap.size := BN1.size
      have gle2 : V2.heap.size ≤ x1.heap.size := BV1.size
      refine hK.out _ _ (HCV.out _ BNa) (fun hHeld => ?_)
      clear hK K
      try simp only [Act.put]
      refine wpAnyH_ready (rs := [11]) (by kernel_rfl) (by simp) ?_
      refine AllReadyH.cons (o := _) rfl (fun K hK => ?_) AllReadyH.nil
      go_simp
      have cc := HWD.out ((x1.alloc (.cells #[.string ⟨#[]⟩, .slice none 0 0] 25))) (HBN.out.trans (BNa.mono HBN.out.size))
      go_at_call 11
      with_reducible refine cc.mono ?_
      clear cc
      rintro e x2 ⟨A3, k3, rfl, hA3, hk3, hx2⟩
      have BN2 := BNa.trans (hx2.mono BNa.size)
      have BV2 := BVa.trans (hx2.mono BVa.size)
      have ga := (hx2.block _ (blk_lt ga)).trans ga
      clear hx2
      refine hK.out _ _ (HCV.out _ BN2) (fun hHeld => ?_)
      clear hK K
      try simp only [Act.put]
      refine wpAnyH_take (i := 12) (oi := { dst := some 58, op := _, type := _, pos := _, after := _, guard := _ }) (v := ?v15) rfl (by kernel_rfl) (by kernel_rfl) (by kernel_rfl) (fun _ _ _ h => h) (Or.inl ⟨by rfl, ?hy15⟩) (by assumption) ?rest15
      case hy15 =>
        intro w hSw
        try dsimp only at hSw
        go_simp
        try rw [if_neg (by omega)]
        try with_reducible rfl
      try simp only [Act.put]
      refine wpAnyH_take (i := 13) (oi := { dst := some 71, op := _, type := _, pos := _, after := _, guard := _ }) (v := ?v16) rfl (by kernel_rfl) (by kernel_rfl) (by kernel_rfl) (fun _ _ _ h => h) (Or.inl ⟨by rfl, ?hy16⟩) (by assumption) ?rest16
      case hy16 =>
        intro w hSw
        try dsimp only at hSw
        go_simp
        try rw [if_neg (by omega)]
        try with_reducible rfl
      try simp only [Act.put]
      refine wpAnyH_take (i := 14) (oi := { dst := some 72, op := _, type := _, pos := _, after := _, guard := _ }) (v := ?v17) rfl (by kernel_rfl) (by kernel_rfl) (by kernel_rfl) (fun _ _ _ h => h) (Or.inl ⟨by rfl, ?hy17⟩) (by assumption) ?rest17
      case hy17 =>
        intro w hSw
        try dsimp only at hSw
        go_simp
        try rw [if_neg (by omega)]
        try with_reducible rfl
      try simp only [Act.put]
      obtain ⟨Z, hZ⟩ : ∃ Z, Z = ((x2.setCell ⟨x1.heap.size, 0, none⟩ (.string (str [97]))).setCell ⟨x1.heap.size, 1, none⟩ (.slice A3 tl.length k3)) := ⟨_, rfl⟩
      have gZ : Z.heap[x1.heap.size]? = some (.cells #[.string (str [97]), .slice A3 tl.length k3] 25 (0, 0)) := by rw [hZ]; exact set2_row ga
      have BNZ : Below N.heap.size N Z := by rw [hZ]; exact (BN2.setCell (p := ⟨x1.heap.size, 0, none⟩) gle1 _).setCell (p := ⟨x1.heap.size, 1, none⟩) gle1 _
      have BVZ : Below V2.heap.size V2 Z := by rw [hZ]; exact (BV2.setCell (p := ⟨x1.heap.size, 0, none⟩) gle2 _).setCell (p := ⟨x1.heap.size, 1, none⟩) gle2 _
      have lZ : LxAt Z Z.heap.size A3 ul := by
        have h := lx_set2 (.string (str [97])) (.slice A3 tl.length k3) hA3.ws ga
        rw [hZ]
        have e : ((x2.setCell ⟨x1.heap.size, 0, none⟩ (.string (str [97]))).setCell ⟨x1.heap.size, 1, none⟩ (.slice A3 tl.length k3)).heap.size = x2.heap.size := by simp
        rw [e]
        exact h
      have fs0 : x2.frozen? ⟨x1.heap.size, 0, none⟩ = false := frozen_of_row _ _ _ _ _ ga
      have fs1 : x2.frozen? ⟨x1.heap.size, 1, none⟩ = false := frozen_of_row _ _ _ _ _ ga
      obtain ⟨gs0, gs1⟩ := cells2 ga
      refine wpAnyH_ready (rs := [16]) (by kernel_rfl) (by simp) ?_
      refine AllReadyH.cons (o := _) rfl (fun K hK => ?_) AllReadyH.nil
      go_simp
      rw [← hZ]
      refine hK.out _ _ (HCV.out _ BNZ) (fun hHeld => ?_)
      clear hK K
      try simp only [Act.put]
      refine wpAnyH_take (i := 17) (oi := { dst := some 12, op := _, type := _, pos := _, after := _, guard := _ }) (v := ?v18) rfl (by kernel_rfl) (by kernel_rfl) (by kernel_rfl) (fun _ _ _ h => h) (Or.inl ⟨by rfl, ?hy18⟩) (by assumption) ?rest18
      case hy18 =>
        intro w hSw
        try dsimp only at hSw
        go_simp
        try rw [if_neg (by omega)]
        try with_reducible rfl
      try simp only [Act.put]
      refine wpAnyH_done (by kernel_rfl) ?_ _
      try simp only [List.setIfInBounds_toArray]
      have hx2z : w3.heap.size < V2.heap.size := blk_lt HG2.out
      have gA := (BVZ.block _ hx2z).trans HG2.out
      have HKEEP := Lib.hid (fun (X : World) (hX : Below Z.heap.size Z X) => (show X.cell? ⟨w3.heap.size, 1, none⟩ = some (.slice A2 tl.length k2) ∧ X.cell? ⟨x1.heap.size, 1, none⟩ = some (.slice A3 tl.length k3) ∧ LxAt X X.heap.size A2 tl ∧ LxAt X X.heap.size A3 ul ∧ Below W.heap.size W X from
        have hBZ := HB2.out.trans (BVZ.mono HB2.out.size)
        ⟨(cells2 ((hX.block _ (blk_lt gA)).trans gA)).2, (cells2 ((hX.block _ (blk_lt gZ)).trans gZ)).2, ((HA2.out.ws).next BVZ).next hX, lZ.next hX, hBZ.trans (hX.mono hBZ.size)⟩))
      have zz := HKEEP.out Z (Below.refl _ _)
      have e1 := zz.1
      have f1 := zz.2.1
      clear zz gA gZ lZ BNZ BVZ hZ BN2 BV2 hHeld
      go_wp2_with fail
      clear e1 f1
      go_loopw [91] (fun v wr => ∃ j : Nat, j ≤ tl.length ∧ v = .int .i64 j ∧ Below Z.heap.size Z wr) (fun v _ => tl.length - (intOf v).toNat)
      case atStart => exact ⟨0, by omega, rfl, Below.refl _ _⟩
      case round =>
        obtain ⟨j, hj, rfl, hb⟩ := hrel
        obtain ⟨-, -, l1, l2, hEW⟩ := HKEEP.out wr hb
        have HEW := Lib.hid hEW
        clear hEW
        by_cases hlt : j < tl.length
        · have b1 : decide ((j : Int) < (tl.length : Int)) = true := decide_eq_true (by omega)
          have b1n : decide (j < tl.length) = true := decide_eq_true hlt
          have y1 : (j : Int) < (tl.length : Int) := by omega
          have hlu : j < ul.length := by omega
          obtain ⟨g, o, rfl, hg, d0, d1⟩ := l1 j hlt
          obtain ⟨g', o', rfl, hg', j0, j1⟩ := l2 j hlu
          have huk : ul[j]'hlu = mv (k + 1) tl[j] := by
            have : ul[j]? = some (mv (k + 1) tl[j]) := by rw [HUL.out, List.getElem?_map, List.getElem?_eq_getElem hlt]; rfl
            rw [List.getElem?_eq_getElem hlu] at this
            exact Option.some.inj this
          obtain ⟨x, hx⟩ : ∃ x, x = tl[j] := ⟨_, rfl⟩
          have hxl := HLN.out x (by rw [hx]; exact List.getElem_mem hlt)
          rw [huk, ← hx] at j0 j1
          rw [← hx] at d0 d1
          rw [show (mv (k + 1) x).ln = x.ln + (k : Int) + 1 by show x.ln + ((k + 1 : Nat) : Int) = _; omega] at j1
          change wr.cell? _ = some (.string (str x.tx)) at j0
          have u1 : IntKind.i64.wrap (x.ln + (k : Int)) = x.ln + (k : Int) := IntWalk.i64_in _ (by omega)
          have u2 : IntKind.i64.wrap (x.ln + (k : Int) + 1) = x.ln + (k : Int) + 1 := IntWalk.i64_in _ (by omega)
          have hbs := hb.size
          obtain ⟨N1, hN1⟩ : ∃ N1, N1 = wr.alloc (.cells #[.string (str x.tx), .int .i64 x.ln] 41) := ⟨_, rfl⟩
          have ha1 : Below wr.heap.size wr N1 := by rw [hN1]; exact (Below.refl _ _).alloc (Nat.le_refl _) _
          have hbN1 : Below Z.heap.size Z N1 := hb.trans (ha1.mono hbs)
          have gN1 : N1.heap[wr.heap.size]? = some (.cells #[.string (str x.tx), .int .i64 x.ln] 41 (0, 0)) := by rw [hN1]; exact heap_alloc_new wr _
          obtain ⟨p0, p1⟩ := cells2 gN1
          have jj0 := (ha1.cell (p := ⟨g', o' + j * 2, none⟩) hg').trans j0
          have jj1 := (ha1.cell (p := ⟨g', o' + j * 2 + 1, none⟩) hg').trans j1
          have ff1 := (HKEEP.out N1 hbN1).2.1
          have HBN1 := Lib.hid hbN1
          clear huk hx l1 l2 hg hg' j0 j1 gN1 ha1 hb hbN1
          go_upto_region 16 with (fail)
          rw [← hN1]
          clear hN1 d0 d1
          go_quiet (fail)
          have hbQ := HBN1.out.trans ((below_drewN N1 nq).mono HBN1.out.size)
          generalize N1.drewN nq = Q at *
          have HBQ := Lib.hid hbQ
          clear hbQ p0 p1 jj0 jj1 ff1
          go_wp2_with fail
          go_roundw
          case rel => exact ⟨j + 1, by omega, by go_num, HBQ.out⟩
          case measure => simp [intOf]; omega
        · have b1 : decide ((j : Int) < (tl.length : Int)) = false := decide_eq_false (by omega)
          have b1n : decide (j < tl.length) = false := decide_eq_false hlt
          clear hb l1 l2
          go_wp2_with fail
          go_ret
          exact ⟨rfl, HEW.out⟩
    refine AllReadyH.cons (o := _) rfl (fun K hK => ?_) AllReadyH.nil
    go_simp
    have ga : ((V2.alloc (.cells #[.string ⟨#[]⟩, .slice none 0 0] 25)).drew).heap[V2.heap.size]? = some (.cells #[.string ⟨#[]⟩, .slice none 0 0] 25 (0, 0)) := heap_alloc_new V2 _
    have BNa : Below N.heap.size N ((V2.alloc (.cells #[.string ⟨#[]⟩, .slice none 0 0] 25)).drew) := (HN2.out.alloc HN2.out.size _).drew
    have BVa : Below V2.heap.size V2 ((V2.alloc (.cells #[.string ⟨#[]⟩, .slice none 0 0] 25)).drew) := ((Below.refl _ _).alloc (Nat.le_refl _) _).drew
    have gle1 : N.heap.size ≤ V2.heap.size := HN2.out.size
    have gle2 : V2.heap.size ≤ V2.heap.size := Nat.le_refl _
    refine hK.out _ _ (HCV.out _ BNa) (fun hHeld => ?_)
    clear hK K
    try simp only [Act.put]
    refine wpAnyH_ready (rs := [7]) (by kernel_rfl) (by simp) ?_
    refine AllReadyH.cons (o := _) rfl (fun K hK => ?_) AllReadyH.nil
    go_simp
    have cc := HRP.out (((V2.alloc (.cells #[.string ⟨#[]⟩, .slice none 0 0] 25)).drew))
    go_at_call 20
    with_reducible refine cc.mono ?_
    clear cc
    rintro e x1 ⟨rfl, hx1⟩
    have BN1 := BNa.trans (hx1.mono BNa.size)
    have BV1 := BVa.trans (hx1.mono BVa.size)
    have ga := (hx1.block _ (blk_lt ga)).trans ga
    clear hx1
    refine hK.out _ _ (HCV.out _ BN1) (fun hHeld => ?_)
    clear hK K
    try simp only [Act.put]
    refine wpAnyH_take (i := 8) (oi := { dst := some 67, op := _, type := _, pos := _, after := _, guard := _ }) (v := ?v19) rfl (by kernel_rfl) (by kernel_rfl) (by kernel_rfl) (fun _ _ _ h => h) (Or.inl ⟨by rfl, ?hy19⟩) (by assumption) ?rest19
    case hy19 =>
      intro w hSw
      try dsimp only at hSw
      go_simp
      try rw [if_neg (by omega)]
      try with_reducible rfl
    try simp only [Act.put]
    refine wpAnyH_take (i := 10) (oi := { dst := some 69, op := _, type := _, pos := _, after := _, guard := _ }) (v := ?v20) rfl (by kernel_rfl) (by kernel_rfl) (by kernel_rfl) (fun _ _ _ h => h) (Or.inl ⟨by rfl, ?hy20⟩) (by assumption) ?rest20
    case hy20 =>
      intro w hSw
      try dsimp only at hSw
      go_simp
      try rw [if_neg (by omega)]
      try with_reducible rfl
    try simp only [Act.put]
    refine wpAnyH_ready (rs := [11]) (by kernel_rfl) (by simp) ?_
    refine AllReadyH.cons (o := _) rfl (fun K hK => ?_) AllReadyH.nil
    go_simp
    have cc := HWD.out (x1) (HBN.out.trans (BN1.mono HBN.out.size))
    go_at_call 11
    with_reducible refine cc.mono ?_
    clear cc
    rintro e x2 ⟨A3, k3, rfl, hA3, hk3, hx2⟩
    have BN2 := BN1.trans (hx2.mono BN1.size)
    have BV2 := BV1.trans (hx2.mono BV1.size)
    have ga := (hx2.block _ (blk_lt ga)).trans ga
    clear hx2
    refine hK.out _ _ (HCV.out _ BN2) (fun hHeld => ?_)
    clear hK K
    try simp only [Act.put]
    refine wpAnyH_take (i := 12) (oi := { dst := some 58, op := _, type := _, pos := _, after := _, guard := _ }) (v := ?v21) rfl (by kernel_rfl) (by kernel_rfl) (by kernel_rfl) (fun _ _ _ h => h) (Or.inl ⟨by rfl, ?hy21⟩) (by assumption) ?rest21
    case hy21 =>
      intro w hSw
      try dsimp only at hSw
      go_simp
      try rw [if_neg (by omega)]
      try with_reducible rfl
    try simp only [Act.put]
    refine wpAnyH_take (i := 13) (oi := { dst := some 71, op := _, type := _, pos := _, after := _, guard := _ }) (v := ?v22) rfl (by kernel_rfl) (by kernel_rfl) (by kernel_rfl) (fun _ _ _ h => h) (Or.inl ⟨by rfl, ?hy22⟩) (by assumption) ?rest22
    case hy22 =>
      intro w hSw
      try dsimp only at hSw
      go_simp
      try rw [if_neg (by omega)]
      try with_reducible rfl
    try simp only [Act.put]
    refine wpAnyH_take (i := 14) (oi := { dst := some 72, op := _, type := _, pos := _, after := _, guard := _ }) (v := ?v23) rfl (by kernel_rfl) (by kernel_rfl) (by kernel_rfl) (fun _ _ _ h => h) (Or.inl ⟨by rfl, ?hy23⟩) (by assumption) ?rest23
    case hy23 =>
      intro w hSw
      try dsimp only at hSw
      go_simp
      try rw [if_neg (by omega)]
      try with_reducible rfl
    try simp only [Act.put]
    obtain ⟨Z, hZ⟩ : ∃ Z, Z = ((x2.setCell ⟨V2.heap.size, 0, none⟩ (.string (str [97]))).setCell ⟨V2.heap.size, 1, none⟩ (.slice A3 tl.length k3)) := ⟨_, rfl⟩
    have gZ : Z.heap[V2.heap.size]? = some (.cells #[.string (str [97]), .slice A3 tl.length k3] 25 (0, 0)) := by rw [hZ]; exact set2_row ga
    have BNZ : Below N.heap.size N Z := by rw [hZ]; exact (BN2.setCell (p := ⟨V2.heap.size, 0, none⟩) gle1 _).setCell (p := ⟨V2.heap.size, 1, none⟩) gle1 _
    have BVZ : Below V2.heap.size V2 Z := by rw [hZ]; exact (BV2.setCell (p := ⟨V2.heap.size, 0, none⟩) gle2 _).setCell (p := ⟨V2.heap.size, 1, none⟩) gle2 _
    have lZ : LxAt Z Z.heap.size A3 ul := by
      have h := lx_set2 (.string (str [97])) (.slice A3 tl.length k3) hA3.ws ga
      rw [hZ]
      have e : ((x2.setCell ⟨V2.heap.size, 0, none⟩ (.string (str [97]))).setCell ⟨V2.heap.size, 1, none⟩ (.slice A3 tl.length k3)).heap.size = x2.heap.size := by simp
      rw [e]
      exact h
    have fs0 : x2.frozen? ⟨V2.heap.size, 0, none⟩ = false := frozen_of_row _ _ _ _ _ ga
    have fs1 : x2.frozen? ⟨V2.heap.size, 1, none⟩ = false := frozen_of_row _ _ _ _ _ ga
    obtain ⟨gs0, gs1⟩ := cells2 ga
    refine wpAnyH_ready (rs := [16]) (by kernel_rfl) (by simp) ?_
    refine AllReadyH.cons (o := _) rfl (fun K hK => ?_) AllReadyH.nil
    go_simp
    rw [← hZ]
    refine hK.out _ _ (HCV.out _ BNZ) (fun hHeld => ?_)
    clear hK K
    try simp only [Act.put]
    refine wpAnyH_take (i := 17) (oi := { dst := some 12, op := _, type := _, pos := _, after := _, guard := _ }) (v := ?v24) rfl (by kernel_rfl) (by kernel_rfl) (by kernel_rfl) (fun _ _ _ h => h) (Or.inl ⟨by rfl, ?hy24⟩) (by assumption) ?rest24
    case hy24 =>
      intro w hSw
      try dsimp only at hSw
      go_simp
      try rw [if_neg (by omega)]
      try with_reducible rfl
    try simp only [Act.put]
    refine wpAnyH_done (by kernel_rfl) ?_ _
    try simp only [List.setIfInBounds_toArray]
    have hx2z : w3.heap.size < V2.heap.size := blk_lt HG2.out
    have gA := (BVZ.block _ hx2z).trans HG2.out
    have HKEEP := Lib.hid (fun (X : World) (hX : Below Z.heap.size Z X) => (show X.cell? ⟨w3.heap.size, 1, none⟩ = some (.slice A2 tl.length k2) ∧ X.cell? ⟨V2.heap.size, 1, none⟩ = some (.slice A3 tl.length k3) ∧ LxAt X X.heap.size A2 tl ∧ LxAt X X.heap.size A3 ul ∧ Below W.heap.size W X from
      have hBZ := HB2.out.trans (BVZ.mono HB2.out.size)
      ⟨(cells2 ((hX.block _ (blk_lt gA)).trans gA)).2, (cells2 ((hX.block _ (blk_lt gZ)).trans gZ)).2, ((HA2.out.ws).next BVZ).next hX, lZ.next hX, hBZ.trans (hX.mono hBZ.size)⟩))
    have zz := HKEEP.out Z (Below.refl _ _)
    have e1 := zz.1
    have f1 := zz.2.1
    clear zz gA gZ lZ BNZ BVZ hZ BN2 BV2 hHeld
    go_wp2_with fail
    clear e1 f1
    go_loopw [91] (fun v wr => ∃ j : Nat, j ≤ tl.length ∧ v = .int .i64 j ∧ Below Z.heap.size Z wr) (fun v _ => tl.length - (intOf v).toNat)
    case atStart => exact ⟨0, by omega, rfl, Below.refl _ _⟩
    case round =>
      obtain ⟨j, hj, rfl, hb⟩ := hrel
      obtain ⟨-, -, l1, l2, hEW⟩ := HKEEP.out wr hb
      have HEW := Lib.hid hEW
      clear hEW
      by_cases hlt : j < tl.length
      · have b1 : decide ((j : Int) < (tl.length : Int)) = true := decide_eq_true (by omega)
        have b1n : decide (j < tl.length) = true := decide_eq_true hlt
        have y1 : (j : Int) < (tl.length : Int) := by omega
        have hlu : j < ul.length := by omega
        obtain ⟨g, o, rfl, hg, d0, d1⟩ := l1 j hlt
        obtain ⟨g', o', rfl, hg', j0, j1⟩ := l2 j hlu
        have huk : ul[j]'hlu = mv (k + 1) tl[j] := by
          have : ul[j]? = some (mv (k + 1) tl[j]) := by rw [HUL.out, List.getElem?_map, List.getElem?_eq_getElem hlt]; rfl
          rw [List.getElem?_eq_getElem hlu] at this
          exact Option.some.inj this
        obtain ⟨x, hx⟩ : ∃ x, x = tl[j] := ⟨_, rfl⟩
        have hxl := HLN.out x (by rw [hx]; exact List.getElem_mem hlt)
        rw [huk, ← hx] at j0 j1
        rw [← hx] at d0 d1
        rw [show (mv (k + 1) x).ln = x.ln + (k : Int) + 1 by show x.ln + ((k + 1 : Nat) : Int) = _; omega] at j1
        change wr.cell? _ = some (.string (str x.tx)) at j0
        have u1 : IntKind.i64.wrap (x.ln + (k : Int)) = x.ln + (k : Int) := IntWalk.i64_in _ (by omega)
        have u2 : IntKind.i64.wrap (x.ln + (k : Int) + 1) = x.ln + (k : Int) + 1 := IntWalk.i64_in _ (by omega)
        have hbs := hb.size
        obtain ⟨N1, hN1⟩ : ∃ N1, N1 = wr.alloc (.cells #[.string (str x.tx), .int .i64 x.ln] 41) := ⟨_, rfl⟩
        have ha1 : Below wr.heap.size wr N1 := by rw [hN1]; exact (Below.refl _ _).alloc (Nat.le_refl _) _
        have hbN1 : Below Z.heap.size Z N1 := hb.trans (ha1.mono hbs)
        have gN1 : N1.heap[wr.heap.size]? = some (.cells #[.string (str x.tx), .int .i64 x.ln] 41 (0, 0)) := by rw [hN1]; exact heap_alloc_new wr _
        obtain ⟨p0, p1⟩ := cells2 gN1
        have jj0 := (ha1.cell (p := ⟨g', o' + j * 2, none⟩) hg').trans j0
        have jj1 := (ha1.cell (p := ⟨g', o' + j * 2 + 1, none⟩) hg').trans j1
        have ff1 := (HKEEP.out N1 hbN1).2.1
        have HBN1 := Lib.hid hbN1
        clear huk hx l1 l2 hg hg' j0 j1 gN1 ha1 hb hbN1
        go_upto_region 16 with (fail)
        rw [← hN1]
        clear hN1 d0 d1
        go_quiet (fail)
        have hbQ := HBN1.out.trans ((below_drewN N1 nq).mono HBN1.out.size)
        generalize N1.drewN nq = Q at *
        have HBQ := Lib.hid hbQ
        clear hbQ p0 p1 jj0 jj1 ff1
        go_wp2_with fail
        go_roundw
        case rel => exact ⟨j + 1, by omega, by go_num, HBQ.out⟩
        case measure => simp [intOf]; omega
      · have b1 : decide ((j : Int) < (tl.length : Int)) = false := decide_eq_false (by omega)
        have b1n : decide (j < tl.length) = false := decide_eq_false hlt
        clear hb l1 l2
        go_wp2_with fail
        go_ret
        exact ⟨rfl, HEW.out⟩
  · have b5 : decide ((10 : Int) ≤ (k : Int)) = false := decide_eq_false (by omega)
    have b5n : decide (10 ≤ k) = false := decide_eq_false h10
    obtain ⟨N, hN⟩ : ∃ N, N = (w2.alloc (.cells #[.int .u8 (48 + (a : Int))] 5)) := ⟨_, rfl⟩
    have hbN : Below w2.heap.size w2 N := by rw [hN]; exact (Below.refl _ w2).alloc (Nat.le_refl _) _
    have gN : N.heap[w2.heap.size]? = some (.cells #[.int .u8 (48 + (a : Int))] 5 (0, 0)) := by rw [hN]; exact heap_alloc_new w2 _
    have HNL := Lib.hid (show numL k = [UInt8.ofNat (48 + a)] by unfold numL; rw [if_neg h10, ← HA.out])
    have HCV := Lib.hid (fun (X : World) (hX : Below N.heap.size N X) => (show (convert 38 9 (.slice (some ⟨w2.heap.size, 0, none⟩) 1 1)).run Tryd.prog X = .ok (.string (str (numL k))) X from by
      have gX := (hX.block _ (blk_lt gN)).trans gN
      have hlen : (numL k).length = 1 := by rw [HNL.out]; rfl
      have h := num_conv X w2.heap.size (numL k) (fun j hj => by
        rw [cell_of_row _ _ _ _ _ _ gX]
        rw [hlen] at hj
        simp only [HNL.out]
        match j, hj with
        | 0, _ => exact congrArg (fun z => some (Value.int .u8 z)) (dig_to a ha10).symm)
      rw [hlen] at h
      exact h))
    have HBN := Lib.hid (HB1.out.trans (hbN.mono HB1.out.size))
    have c2 : Calls Tryd.prog 11 #[.string ⟨#[97]⟩, .string (str d), .bool false, .bool false] N (GotTx N ⟨[97], wrd false false d⟩ 0) := by
      have h := words_any [97] d false false N (by decide) (by omega) (HM.out.below HBN.out) (HE.out.below HBN.out) (HT.out.below HBN.out)
      rw [HWN.out.1, HWN.out.2.2.1] at h
      exact h
    clear hbN gN
    go_wp2_with fail
    rw [← hN]
    clear hN
    (with_reducible refine c2.mono ?_)
    rintro e w3 ⟨A2, k2, rfl, hA2, _, hb2⟩
    clear c2
    dsimp only
    obtain ⟨tl, htl⟩ : ∃ tl, tl = wrd false false d := ⟨_, rfl⟩
    rw [← htl] at hA2 ⊢
    obtain ⟨V2, hV2⟩ : ∃ V2, V2 = w3.alloc (.cells #[.string ⟨#[97]⟩, .slice A2 tl.length k2] 25) := ⟨_, rfl⟩
    have hv2 : Below w3.heap.size w3 V2 := by rw [hV2]; exact (Below.refl _ _).alloc (Nat.le_refl _) _
    have g2 : V2.heap[w3.heap.size]? = some (.cells #[.string ⟨#[97]⟩, .slice A2 tl.length k2] 25 (0, 0)) := by rw [hV2]; exact heap_alloc_new w3 _
    have hBV2 := hb2.trans (hv2.mono hb2.size)
    have HA2 := Lib.hid (hA2.next hv2)
    have HB2 := Lib.hid (HBN.out.trans (hBV2.mono HBN.out.size))
    have HN2 := Lib.hid hBV2
    have HG2 := Lib.hid g2
    have HTL := Lib.hid htl
    clear hb2 hv2 hA2 hBV2 g2 htl
    go_upto_region 10 with (fail)
    rw [show w3.alloc (.cells #[.string (str [97]), .slice A2 tl.length k2] 25 (0, 0)) = V2 from hV2.symm]
    clear hV2
    obtain ⟨hd, hhd⟩ : ∃ x, x = headL k := ⟨_, rfl⟩
    obtain ⟨h1, hh1⟩ : ∃ x, x = hd ++ [10] := ⟨_, rfl⟩
    obtain ⟨s1, hs1⟩ : ∃ x, x = s ++ [10] := ⟨_, rfl⟩
    obtain ⟨r, hr⟩ : ∃ x, x = insL k s := ⟨_, rfl⟩
    obtain ⟨h2', hh2⟩ : ∃ x, x = h1 ++ r := ⟨_, rfl⟩
    obtain ⟨tt, htt⟩ : ∃ x, x = noteT k s d := ⟨_, rfl⟩
    have hcat1 : (⟨#[32, 110, 111, 116, 101, 32, 32]⟩ : ByteArray) ++ str (numL k) = str hd := by rw [hhd]; exact str_app [32, 110, 111, 116, 101, 32, 32] (numL k)
    have hcat2 : str hd ++ (⟨#[10]⟩ : ByteArray) = str h1 := by rw [hh1]; exact str_app hd [10]
    have hcat3 : str s ++ (⟨#[10]⟩ : ByteArray) = str s1 := by rw [hs1]; exact str_app s [10]
    have hcat4 : str h1 ++ str r = str h2' := by rw [hh2]; exact str_app h1 r
    have hcat5 : str h2' ++ str d = str tt := by
      rw [str_app, hh2, hh1, htt, hhd, hr]
      unfold noteT
      simp
    have hz0 : (str (numL k)).size ≤ 2 := by rw [str_size]; unfold numL; split <;> simp
    have hzd : (str hd).size ≤ 9 := by rw [str_size, hhd]; exact (head_ok k hk21).2.2
    have hz1 : (str h1).size ≤ 10 := by rw [str_size, hh1, List.length_append]; rw [str_size] at hzd; simp; omega
    have hzs : (str s1).size = s.length + 1 := by rw [str_size, hs1]; simp
    have hzr : (str r).size ≤ 2020 := by
      rw [str_size, hr, ins_len]
      have : k * (s.length + 1) ≤ 20 * 101 := Nat.mul_le_mul (by omega) (by omega)
      omega
    have hz2 : (str h2').size ≤ 2030 := by rw [str_size, hh2, List.length_append]; rw [str_size] at hz1 hzr; omega
    have hzt : (str tt).size ≤ 5000 := by rw [str_size, htt]; have := note_len hk21 (s := s) (by omega) d; omega
    have HRP := Lib.hid (fun (X : World) => (show Calls Tryd.prog 20 #[.string (str s1), .int .i64 (k : Int)] X fun e w' => e = .returned (.string (str r)) ∧ Below X.heap.size X w' from by
      have hmul : (str s1).size * k ≤ 101 * 20 := Nat.mul_le_mul (by omega) (by omega)
      have h := Tryd.strings_Repeat (str s1) k X (by omega) (by omega)
      refine h.mono fun e w' hh => ⟨?_, hh.2⟩
      rw [hh.1, str_data, hs1, ins_rep, ← hr]
      rfl))
    obtain ⟨ul, hul⟩ : ∃ ul, ul = tl.map (mv (k + 1)) := ⟨_, rfl⟩
    have HUL := Lib.hid hul
    have hulen : ul.length = tl.length := by rw [hul, List.length_map]
    have HWD := Lib.hid (fun (X : World) (hX : Below W.heap.size W X) => (show Calls Tryd.prog 11 #[.string ⟨#[97]⟩, .string (str tt), .bool false, .bool false] X (GotTx X ⟨[97], ul⟩ 0) from by
      have h := words_any [97] tt false false X (by decide) (by rw [← str_size]; omega) (HM.out.below hX) (HE.out.below hX) (HT.out.below hX)
      rw [htt, HWN.out.2.1, HWN.out.2.2.2, ← HTL.out, ← hul] at h
      rw [htt]
      exact h))
    have HLN := Lib.hid (show ∀ x ∈ tl, 0 ≤ x.ln ∧ x.ln < 1024 from by
      rw [HTL.out]
      exact okw_bound _ _ (okw_wl false false _ 0 0 (by have := split_count' d; rw [HCN.out] at this; omega)))
    have htl2 : tl.length ≤ 2000 := by rw [HTL.out]; have := wrd_len false false d; omega
    have BD : Below N.heap.size N V2.drew := HN2.out.drew
    have BV : Below V2.heap.size V2 V2.drew := (Below.refl _ _).drew
    clear hhd hh1 hs1 hr hh2 htt hul
    refine wp_region_held_drew (S := (fun w' : World => (convert 38 9 (.slice (some ⟨w2.heap.size, 0, none⟩) 1 1)).run Tryd.prog w' = .ok (.string (str (numL k))) w')) (by kernel_rfl) (HCV.out _ BD) (fun hHeld => ?_)
    refine wpAnyH_take (i := 0) (oi := { dst := some 59, op := _, type := _, pos := _, after := _, guard := _ }) (v := ?v25) rfl (by kernel_rfl) (by kernel_rfl) (by kernel_rfl) (fun _ _ _ h => h) (Or.inl ⟨by rfl, ?hy25⟩) (by assumption) ?rest25
    case hy25 =>
      intro w hSw
      try dsimp only at hSw
      go_simp
      try rw [if_neg (by omega)]
      try with_reducible rfl
    try simp only [Act.put]
    refine wpAnyH_take (i := 1) (oi := { dst := some 60, op := _, type := _, pos := _, after := _, guard := _ }) (v := ?v26) rfl (by kernel_rfl) (by kernel_rfl) (by kernel_rfl) (fun _ _ _ h => h) (Or.inl ⟨by rfl, ?hy26⟩) (by assumption) ?rest26
    case hy26 =>
      intro w hSw
      try dsimp only at hSw
      go_simp
      try rw [if_neg (by omega)]
      try with_reducible rfl
    try simp only [Act.put]
    refine wpAnyH_take (i := 2) (oi := { dst := some 61, op := _, type := _, pos := _, after := _, guard := _ }) (v := ?v27) rfl (by kernel_rfl) (by kernel_rfl) (by kernel_rfl) (fun _ _ _ h => h) (Or.inl ⟨by rfl, ?hy27⟩) (by assumption) ?rest27
    case hy27 =>
      intro w hSw
      try dsimp only at hSw
      go_simp
      try rw [if_neg (by omega)]
      try with_reducible rfl
    try simp only [Act.put]
    refine wpAnyH_take (i := 3) (oi := { dst := some 62, op := _, type := _, pos := _, after := _, guard := _ }) (v := ?v28) rfl (by kernel_rfl) (by kernel_rfl) (by kernel_rfl) (fun _ _ _ h => h) (Or.inl ⟨by rfl, ?hy28⟩) (by assumption) ?rest28
    case hy28 =>
      intro w hSw
      try dsimp only at hSw
      go_simp
      try rw [if_neg (by omega)]
      try with_reducible rfl
    try simp only [Act.put]
    refine wpAnyH_take (i := 4) (oi := { dst := some 63, op := _, type := _, pos := _, after := _, guard := _ }) (v := ?v29) rfl (by kernel_rfl) (by kernel_rfl) (by kernel_rfl) (fun _ _ _ h => h) (Or.inl ⟨by rfl, ?hy29⟩) (by assumption) ?rest29
    case hy29 =>
      intro w hSw
      try dsimp only at hSw
      go_simp
      try rw [if_neg (by omega)]
      try with_reducible rfl
    try simp only [Act.put]
    refine wpAnyH_take (i := 5) (oi := { dst := some 64, op := _, type := _, pos := _, after := _, guard := _ }) (v := ?v30) rfl (by kernel_rfl) (by kernel_rfl) (by kernel_rfl) (fun _ _ _ h => h) (Or.inl ⟨by rfl, ?hy30⟩) (by assumption) ?rest30
    case hy30 =>
      intro w hSw
      try dsimp only at hSw
      go_simp
      try rw [if_neg (by omega)]
      try with_reducible rfl
    try simp only [Act.put]
    refine wpAnyH_take (i := 6) (oi := { dst := some 65, op := _, type := _, pos := _, after := _, guard := _ }) (v := ?v31) rfl (by kernel_rfl) (by kernel_rfl) (by kernel_rfl) (fun _ _ _ h => h) (Or.inl ⟨by rfl, ?hy31⟩) (by assumption) ?rest31
    case hy31 =>
      intro w hSw
      try dsimp only at hSw
      go_simp
      try rw [if_neg (by omega)]
      try with_reducible rfl
    try simp only [Act.put]
    refine wpAnyH_take (i := 9) (oi := { dst := some 68, op := _, type := _, pos := _, after := _, guard := _ }) (v := ?v32) rfl (by kernel_rfl) (by kernel_rfl) (by kernel_rfl) (fun _ _ _ h => h) (Or.inl ⟨by rfl, ?hy32⟩) (by assumption) ?rest32
    case hy32 =>
      intro w hSw
      try dsimp only at hSw
      go_simp
      try rw [if_neg (by omega)]
      try with_reducible rfl
    try simp only [Act.put]
    refine wpAnyH_ready (rs := [7, 15]) (by kernel_rfl) (by simp) ?_
    refine AllReadyH.cons (o := _) rfl (fun K hK => ?_) ?_
    · skip
      go_simp
      have cc := HRP.out (V2.drew)
      go_at_call 20
      with_reducible refine cc.mono ?_
      clear cc
      rintro e x1 ⟨rfl, hx1⟩
      have BN1 := BD.trans (hx1.mono BD.size)
      have BV1 := BV.trans (hx1.mono BV.size)
      clear hx1
      refine hK.out _ _ (HCV.out _ BN1) (fun hHeld => ?_)
      clear hK K
      try simp only [Act.put]
      refine wpAnyH_take (i := 8) (oi := { dst := some 67, op := _, type := _, pos := _, after := _, guard := _ }) (v := ?v33) rfl (by kernel_rfl) (by kernel_rfl) (by kernel_rfl) (fun _ _ _ h => h) (Or.inl ⟨by rfl, ?hy33⟩) (by assumption) ?rest33
      case hy33 =>
        intro w hSw
        try dsimp only at hSw
        go_simp
        try rw [if_neg (by omega)]
        try with_reducible rfl
      try simp only [Act.put]
      refine wpAnyH_take (i := 10) (oi := { dst := some 69, op := _, type := _, pos := _, after := _, guard := _ }) (v := ?v34) rfl (by kernel_rfl) (by kernel_rfl) (by kernel_rfl) (fun _ _ _ h => h) (Or.inl ⟨by rfl, ?hy34⟩) (by assumption) ?rest34
      case hy34 =>
        intro w hSw
        try dsimp only at hSw
        go_simp
        try rw [if_neg (by omega)]
        try with_reducible rfl
      try simp only [Act.put]
      refine wpAnyH_ready (rs := [11, 15]) (by kernel_rfl) (by simp) ?_
      refine AllReadyH.cons (o := _) rfl (fun K hK => ?_) ?_
      · skip
        go_simp
        have cc := HWD.out (x1) (HBN.out.trans (BN1.mono HBN.out.size))
        go_at_call 11
        with_reducible refine cc.mono ?_
        clear cc
        rintro e x2 ⟨A3, k3, rfl, hA3, hk3, hx2⟩
        have BN2 := BN1.trans (hx2.mono BN1.size)
        have BV2 := BV1.trans (hx2.mono BV1.size)
        clear hx2
        refine hK.out _ _ (HCV.out _ BN2) (fun hHeld => ?_)
        clear hK K
        try simp only [Act.put]
        refine wpAnyH_take (i := 12) (oi := { dst := some 58, op := _, type := _, pos := _, after := _, guard := _ }) (v := ?v35) rfl (by kernel_rfl) (by kernel_rfl) (by kernel_rfl) (fun _ _ _ h => h) (Or.inl ⟨by rfl, ?hy35⟩) (by assumption) ?rest35
        case hy35 =>
          intro w hSw
          try dsimp only at hSw
          go_simp
          try rw [if_neg (by omega)]
          try with_reducible rfl
        try simp only [Act.put]
        refine wpAnyH_take (i := 13) (oi := { dst := some 71, op := _, type := _, pos := _, after := _, guard := _ }) (v := ?v36) rfl (by kernel_rfl) (by kernel_rfl) (by kernel_rfl) (fun _ _ _ h => h) (Or.inl ⟨by rfl, ?hy36⟩) (by assumption) ?rest36
        case hy36 =>
          intro w hSw
          try dsimp only at hSw
          go_simp
          try rw [if_neg (by omega)]
          try with_reducible rfl
        try simp only [Act.put]
        refine wpAnyH_take (i := 14) (oi := { dst := some 72, op := _, type := _, pos := _, after := _, guard := _ }) (v := ?v37) rfl (by kernel_rfl) (by kernel_rfl) (by kernel_rfl) (fun _ _ _ h => h) (Or.inl ⟨by rfl, ?hy37⟩) (by assumption) ?rest37
        case hy37 =>
          intro w hSw
          try dsimp only at hSw
          go_simp
          try rw [if_neg (by omega)]
          try with_reducible rfl
        try simp only [Act.put]
        refine wpAnyH_ready (rs := [15]) (by kernel_rfl) (by simp) ?_
        refine AllReadyH.cons (o := _) rfl (fun K hK => ?_) AllReadyH.nil
        go_simp
        have ga : (x2.alloc (.cells #[.string ⟨#[]⟩, .slice none 0 0] 25)).heap[x2.heap.size]? = some (.cells #[.string ⟨#[]⟩, .slice none 0 0] 25 (0, 0)) := heap_alloc_new x2 _
        have BNa : Below N.heap.size N (x2.alloc (.cells #[.string ⟨#[]⟩, .slice none 0 0] 25)) := BN2.alloc BN2.size _
        have BVa : Below V2.heap.size V2 (x2.alloc (.cells #[.string ⟨#[]⟩, .slice none 0 0] 25)) := BV2.alloc BV2.size _
        have gle1 : N.heap.size ≤ x2.heap.size := BN2.size
        have gle2 : V2.heap.size ≤ x2.heap.size := BV2.size
        refine hK.out _ _ (HCV.out _ BNa) (fun hHeld => ?_)
        clear hK K
        try simp only [Act.put]
        obtain ⟨Z, hZ⟩ : ∃ Z, Z = (x2.alloc (.cells #[.string (str [97]), .slice A3 tl.length k3] 25)) := ⟨_, rfl⟩
        have gZ : Z.heap[x2.heap.size]? = some (.cells #[.string (str [97]), .slice A3 tl.length k3] 25 (0, 0)) := by rw [hZ]; exact heap_alloc_new x2 _
        have BNZ : Below N.heap.size N Z := by rw [hZ]; exact BN2.alloc BN2.size _
        have BVZ : Below V2.heap.size V2 Z := by rw [hZ]; exact BV2.alloc BV2.size _
        have lZ : LxAt Z Z.heap.size A3 ul := by rw [hZ]; exact (hA3.ws).next ((Below.refl _ _).alloc (Nat.le_refl _) _)
        refine wpAnyH_ready (rs := [16]) (by kernel_rfl) (by simp) ?_
        refine AllReadyH.cons (o := _) rfl (fun K hK => ?_) AllReadyH.nil
        go_simp
        rw [← hZ]
        refine hK.out _ _ (HCV.out _ BNZ) (fun hHeld => ?_)
        clear hK K
        try simp only [Act.put]
        refine wpAnyH_take (i := 17) (oi := { dst := some 12, op := _, type := _, pos := _, after := _, guard := _ }) (v := ?v38) rfl (by kernel_rfl) (by kernel_rfl) (by kernel_rfl) (fun _ _ _ h => h) (Or.inl ⟨by rfl, ?hy38⟩) (by assumption) ?rest38
        case hy38 =>
          intro w hSw
          try dsimp only at hSw
          go_simp
          try rw [if_neg (by omega)]
          try with_reducible rfl
        try simp only [Act.put]
        refine wpAnyH_done (by kernel_rfl) ?_ _
        try simp only [List.setIfInBounds_toArray]
        have hx2z : w3.heap.size < V2.heap.size := blk_lt HG2.out
        have gA := (BVZ.block _ hx2z).trans HG2.out
        have HKEEP := Lib.hid (fun (X : World) (hX : Below Z.heap.size Z X) => (show X.cell? ⟨w3.heap.size, 1, none⟩ = some (.slice A2 tl.length k2) ∧ X.cell? ⟨x2.heap.size, 1, none⟩ = some (.slice A3 tl.length k3) ∧ LxAt X X.heap.size A2 tl ∧ LxAt X X.heap.size A3 ul ∧ Below W.heap.size W X from
          have hBZ := HB2.out.trans (BVZ.mono HB2.out.size)
          ⟨(cells2 ((hX.block _ (blk_lt gA)).trans gA)).2, (cells2 ((hX.block _ (blk_lt gZ)).trans gZ)).2, ((HA2.out.ws).next BVZ).next hX, lZ.next hX, hBZ.trans (hX.mono hBZ.size)⟩))
        have zz := HKEEP.out Z (Below.refl _ _)
        have e1 := zz.1
        have f1 := zz.2.1
        clear zz gA gZ lZ BNZ BVZ hZ BN2 BV2 hHeld
        go_wp2_with fail
        clear e1 f1
        go_loopw [91] (fun v wr => ∃ j : Nat, j ≤ tl.length ∧ v = .int .i64 j ∧ Below Z.heap.size Z wr) (fun v _ => tl.length - (intOf v).toNat)
        case atStart => exact ⟨0, by omega, rfl, Below.refl _ _⟩
        case round =>
          obtain ⟨j, hj, rfl, hb⟩ := hrel
          obtain ⟨-, -, l1, l2, hEW⟩ := HKEEP.out wr hb
          have HEW := Lib.hid hEW
          clear hEW
          by_cases hlt : j < tl.length
          · have b1 : decide ((j : Int) < (tl.length : Int)) = true := decide_eq_true (by omega)
            have b1n : decide (j < tl.length) = true := decide_eq_true hlt
            have y1 : (j : Int) < (tl.length : Int) := by omega
            have hlu : j < ul.length := by omega
            obtain ⟨g, o, rfl, hg, d0, d1⟩ := l1 j hlt
            obtain ⟨g', o', rfl, hg', j0, j1⟩ := l2 j hlu
            have huk : ul[j]'hlu = mv (k + 1) tl[j] := by
              have : ul[j]? = some (mv (k + 1) tl[j]) := by rw [HUL.out, List.getElem?_map, List.getElem?_eq_getElem hlt]; rfl
              rw [List.getElem?_eq_getElem hlu] at this
              exact Option.some.inj this
            obtain ⟨x, hx⟩ : ∃ x, x = tl[j] := ⟨_, rfl⟩
            have hxl := HLN.out x (by rw [hx]; exact List.getElem_mem hlt)
            rw [huk, ← hx] at j0 j1
            rw [← hx] at d0 d1
            rw [show (mv (k + 1) x).ln = x.ln + (k : Int) + 1 by show x.ln + ((k + 1 : Nat) : Int) = _; omega] at j1
            change wr.cell? _ = some (.string (str x.tx)) at j0
            have u1 : IntKind.i64.wrap (x.ln + (k : Int)) = x.ln + (k : Int) := IntWalk.i64_in _ (by omega)
            have u2 : IntKind.i64.wrap (x.ln + (k : Int) + 1) = x.ln + (k : Int) + 1 := IntWalk.i64_in _ (by omega)
            have hbs := hb.size
            obtain ⟨N1, hN1⟩ : ∃ N1, N1 = wr.alloc (.cells #[.string (str x.tx), .int .i64 x.ln] 41) := ⟨_, rfl⟩
            have ha1 : Below wr.heap.size wr N1 := by rw [hN1]; exact (Below.refl _ _).alloc (Nat.le_refl _) _
            have hbN1 : Below Z.heap.size Z N1 := hb.trans (ha1.mono hbs)
            have gN1 : N1.heap[wr.heap.size]? = some (.cells #[.string (str x.tx), .int .i64 x.ln] 41 (0, 0)) := by rw [hN1]; exact heap_alloc_new wr _
            obtain ⟨p0, p1⟩ := cells2 gN1
            have jj0 := (ha1.cell (p := ⟨g', o' + j * 2, none⟩) hg').trans j0
            have jj1 := (ha1.cell (p := ⟨g', o' + j * 2 + 1, none⟩) hg').trans j1
            have ff1 := (HKEEP.out N1 hbN1).2.1
            have HBN1 := Lib.hid hbN1
            clear huk hx l1 l2 hg hg' j0 j1 gN1 ha1 hb hbN1
            go_upto_region 16 with (fail)
            rw [← hN1]
            clear hN1 d0 d1
            go_quiet (fail)
            have hbQ := HBN1.out.trans ((below_drewN N1 nq).mono HBN1.out.size)
            generalize N1.drewN nq = Q at *
            have HBQ := Lib.hid hbQ
            clear hbQ p0 p1 jj0 jj1 ff1
            go_wp2_with fail
            go_roundw
            case rel => exact ⟨j + 1, by omega, by go_num, HBQ.out⟩
            case measure => simp [intOf]; omega
          · have b1 : decide ((j : Int) < (tl.length : Int)) = false := decide_eq_false (by omega)
            have b1n : decide (j < tl.length) = false := decide_eq_false hlt
            clear hb l1 l2
            go_wp2_with fail
            go_ret
            exact ⟨rfl, HEW.out⟩
      refine AllReadyH.cons (o := _) rfl (fun K hK => ?_) AllReadyH.nil
      go_simp
      have ga : (x1.alloc (.cells #[.string ⟨#[]⟩, .slice none 0 0] 25)).heap[x1.heap.size]? = some (.cells #[.string ⟨#[]⟩, .slice none 0 0] 25 (0, 0)) := heap_alloc_new x1 _
      have BNa : Below N.heap.size N (x1.alloc (.cells #[.string ⟨#[]⟩, .slice none 0 0] 25)) := BN1.alloc BN1.size _
      have BVa : Below V2.heap.size V2 (x1.alloc (.cells #[.string ⟨#[]⟩, .slice none 0 0] 25)) := BV1.alloc BV1.size _
      have gle1 : N.heap.size ≤ x1.heap.size := BN1.size
      have gle2 : V2.heap.size ≤ x1.heap.size := BV1.size
      refine hK.out _ _ (HCV.out _ BNa) (fun hHeld => ?_)
      clear hK K
      try simp only [Act.put]
      refine wpAnyH_ready (rs := [11]) (by kernel_rfl) (by simp) ?_
      refine AllReadyH.cons (o := _) rfl (fun K hK => ?_) AllReadyH.nil
      go_simp
      have cc := HWD.out ((x1.alloc (.cells #[.string ⟨#[]⟩, .slice none 0 0] 25))) (HBN.out.trans (BNa.mono HBN.out.size))
      go_at_call 11
      with_reducible refine cc.mono ?_
      clear cc
      rintro e x2 ⟨A3, k3, rfl, hA3, hk3, hx2⟩
      have BN2 := BNa.trans (hx2.mono BNa.size)
      have BV2 := BVa.trans (hx2.mono BVa.size)
      have ga := (hx2.block _ (blk_lt ga)).trans ga
      clear hx2
      refine hK.out _ _ (HCV.out _ BN2) (fun hHeld => ?_)
      clear hK K
      try simp only [Act.put]
      refine wpAnyH_take (i := 12) (oi := { dst := some 58, op := _, type := _, pos := _, after := _, guard := _ }) (v := ?v39) rfl (by kernel_rfl) (by kernel_rfl) (by kernel_rfl) (fun _ _ _ h => h) (Or.inl ⟨by rfl, ?hy39⟩) (by assumption) ?rest39
      case hy39 =>
        intro w hSw
        try dsimp only at hSw
        go_simp
        try rw [if_neg (by omega)]
        try with_reducible rfl
      try simp only [Act.put]
      refine wpAnyH_take (i := 13) (oi := { dst := some 71, op := _, type := _, pos := _, after := _, guard := _ }) (v := ?v40) rfl (by kernel_rfl) (by kernel_rfl) (by kernel_rfl) (fun _ _ _ h => h) (Or.inl ⟨by rfl, ?hy40⟩) (by assumption) ?rest40
      case hy40 =>
        intro w hSw
        try dsimp only at hSw
        go_simp
        try rw [if_neg (by omega)]
        try with_reducible rfl
      try simp only [Act.put]
      refine wpAnyH_take (i := 14) (oi := { dst := some 72, op := _, type := _, pos := _, after := _, guard := _ }) (v := ?v41) rfl (by kernel_rfl) (by kernel_rfl) (by kernel_rfl) (fun _ _ _ h => h) (Or.inl ⟨by rfl, ?hy41⟩) (by assumption) ?rest41
      case hy41 =>
        intro w hSw
        try dsimp only at hSw
        go_simp
        try rw [if_neg (by omega)]
        try with_reducible rfl
      try simp only [Act.put]
      obtain ⟨Z, hZ⟩ : ∃ Z, Z = ((x2.setCell ⟨x1.heap.size, 0, none⟩ (.string (str [97]))).setCell ⟨x1.heap.size, 1, none⟩ (.slice A3 tl.length k3)) := ⟨_, rfl⟩
      have gZ : Z.heap[x1.heap.size]? = some (.cells #[.string (str [97]), .slice A3 tl.length k3] 25 (0, 0)) := by rw [hZ]; exact set2_row ga
      have BNZ : Below N.heap.size N Z := by rw [hZ]; exact (BN2.setCell (p := ⟨x1.heap.size, 0, none⟩) gle1 _).setCell (p := ⟨x1.heap.size, 1, none⟩) gle1 _
      have BVZ : Below V2.heap.size V2 Z := by rw [hZ]; exact (BV2.setCell (p := ⟨x1.heap.size, 0, none⟩) gle2 _).setCell (p := ⟨x1.heap.size, 1, none⟩) gle2 _
      have lZ : LxAt Z Z.heap.size A3 ul := by
        have h := lx_set2 (.string (str [97])) (.slice A3 tl.length k3) hA3.ws ga
        rw [hZ]
        have e : ((x2.setCell ⟨x1.heap.size, 0, none⟩ (.string (str [97]))).setCell ⟨x1.heap.size, 1, none⟩ (.slice A3 tl.length k3)).heap.size = x2.heap.size := by simp
        rw [e]
        exact h
      have fs0 : x2.frozen? ⟨x1.heap.size, 0, none⟩ = false := frozen_of_row _ _ _ _ _ ga
      have fs1 : x2.frozen? ⟨x1.heap.size, 1, none⟩ = false := frozen_of_row _ _ _ _ _ ga
      obtain ⟨gs0, gs1⟩ := cells2 ga
      refine wpAnyH_ready (rs := [16]) (by kernel_rfl) (by simp) ?_
      refine AllReadyH.cons (o := _) rfl (fun K hK => ?_) AllReadyH.nil
      go_simp
      rw [← hZ]
      refine hK.out _ _ (HCV.out _ BNZ) (fun hHeld => ?_)
      clear hK K
      try simp only [Act.put]
      refine wpAnyH_take (i := 17) (oi := { dst := some 12, op := _, type := _, pos := _, after := _, guard := _ }) (v := ?v42) rfl (by kernel_rfl) (by kernel_rfl) (by kernel_rfl) (fun _ _ _ h => h) (Or.inl ⟨by rfl, ?hy42⟩) (by assumption) ?rest42
      case hy42 =>
        intro w hSw
        try dsimp only at hSw
        go_simp
        try rw [if_neg (by omega)]
        try with_reducible rfl
      try simp only [Act.put]
      refine wpAnyH_done (by kernel_rfl) ?_ _
      try simp only [List.setIfInBounds_toArray]
      have hx2z : w3.heap.size < V2.heap.size := blk_lt HG2.out
      have gA := (BVZ.block _ hx2z).trans HG2.out
      have HKEEP := Lib.hid (fun (X : World) (hX : Below Z.heap.size Z X) => (show X.cell? ⟨w3.heap.size, 1, none⟩ = some (.slice A2 tl.length k2) ∧ X.cell? ⟨x1.heap.size, 1, none⟩ = some (.slice A3 tl.length k3) ∧ LxAt X X.heap.size A2 tl ∧ LxAt X X.heap.size A3 ul ∧ Below W.heap.size W X from
        have hBZ := HB2.out.trans (BVZ.mono HB2.out.size)
        ⟨(cells2 ((hX.block _ (blk_lt gA)).trans gA)).2, (cells2 ((hX.block _ (blk_lt gZ)).trans gZ)).2, ((HA2.out.ws).next BVZ).next hX, lZ.next hX, hBZ.trans (hX.mono hBZ.size)⟩))
      have zz := HKEEP.out Z (Below.refl _ _)
      have e1 := zz.1
      have f1 := zz.2.1
      clear zz gA gZ lZ BNZ BVZ hZ BN2 BV2 hHeld
      go_wp2_with fail
      clear e1 f1
      go_loopw [91] (fun v wr => ∃ j : Nat, j ≤ tl.length ∧ v = .int .i64 j ∧ Below Z.heap.size Z wr) (fun v _ => tl.length - (intOf v).toNat)
      case atStart => exact ⟨0, by omega, rfl, Below.refl _ _⟩
      case round =>
        obtain ⟨j, hj, rfl, hb⟩ := hrel
        obtain ⟨-, -, l1, l2, hEW⟩ := HKEEP.out wr hb
        have HEW := Lib.hid hEW
        clear hEW
        by_cases hlt : j < tl.length
        · have b1 : decide ((j : Int) < (tl.length : Int)) = true := decide_eq_true (by omega)
          have b1n : decide (j < tl.length) = true := decide_eq_true hlt
          have y1 : (j : Int) < (tl.length : Int) := by omega
          have hlu : j < ul.length := by omega
          obtain ⟨g, o, rfl, hg, d0, d1⟩ := l1 j hlt
          obtain ⟨g', o', rfl, hg', j0, j1⟩ := l2 j hlu
          have huk : ul[j]'hlu = mv (k + 1) tl[j] := by
            have : ul[j]? = some (mv (k + 1) tl[j]) := by rw [HUL.out, List.getElem?_map, List.getElem?_eq_getElem hlt]; rfl
            rw [List.getElem?_eq_getElem hlu] at this
            exact Option.some.inj this
          obtain ⟨x, hx⟩ : ∃ x, x = tl[j] := ⟨_, rfl⟩
          have hxl := HLN.out x (by rw [hx]; exact List.getElem_mem hlt)
          rw [huk, ← hx] at j0 j1
          rw [← hx] at d0 d1
          rw [show (mv (k + 1) x).ln = x.ln + (k : Int) + 1 by show x.ln + ((k + 1 : Nat) : Int) = _; omega] at j1
          change wr.cell? _ = some (.string (str x.tx)) at j0
          have u1 : IntKind.i64.wrap (x.ln + (k : Int)) = x.ln + (k : Int) := IntWalk.i64_in _ (by omega)
          have u2 : IntKind.i64.wrap (x.ln + (k : Int) + 1) = x.ln + (k : Int) + 1 := IntWalk.i64_in _ (by omega)
          have hbs := hb.size
          obtain ⟨N1, hN1⟩ : ∃ N1, N1 = wr.alloc (.cells #[.string (str x.tx), .int .i64 x.ln] 41) := ⟨_, rfl⟩
          have ha1 : Below wr.heap.size wr N1 := by rw [hN1]; exact (Below.refl _ _).alloc (Nat.le_refl _) _
          have hbN1 : Below Z.heap.size Z N1 := hb.trans (ha1.mono hbs)
          have gN1 : N1.heap[wr.heap.size]? = some (.cells #[.string (str x.tx), .int .i64 x.ln] 41 (0, 0)) := by rw [hN1]; exact heap_alloc_new wr _
          obtain ⟨p0, p1⟩ := cells2 gN1
          have jj0 := (ha1.cell (p := ⟨g', o' + j * 2, none⟩) hg').trans j0
          have jj1 := (ha1.cell (p := ⟨g', o' + j * 2 + 1, none⟩) hg').trans j1
          have ff1 := (HKEEP.out N1 hbN1).2.1
          have HBN1 := Lib.hid hbN1
          clear huk hx l1 l2 hg hg' j0 j1 gN1 ha1 hb hbN1
          go_upto_region 16 with (fail)
          rw [← hN1]
          clear hN1 d0 d1
          go_quiet (fail)
          have hbQ := HBN1.out.trans ((below_drewN N1 nq).mono HBN1.out.size)
          generalize N1.drewN nq = Q at *
          have HBQ := Lib.hid hbQ
          clear hbQ p0 p1 jj0 jj1 ff1
          go_wp2_with fail
          go_roundw
          case rel => exact ⟨j + 1, by omega, by go_num, HBQ.out⟩
          case measure => simp [intOf]; omega
        · have b1 : decide ((j : Int) < (tl.length : Int)) = false := decide_eq_false (by omega)
          have b1n : decide (j < tl.length) = false := decide_eq_false hlt
          clear hb l1 l2
          go_wp2_with fail
          go_ret
          exact ⟨rfl, HEW.out⟩
    refine AllReadyH.cons (o := _) rfl (fun K hK => ?_) AllReadyH.nil
    go_simp
    have ga : ((V2.alloc (.cells #[.string ⟨#[]⟩, .slice none 0 0] 25)).drew).heap[V2.heap.size]? = some (.cells #[.string ⟨#[]⟩, .slice none 0 0] 25 (0, 0)) := heap_alloc_new V2 _
    have BNa : Below N.heap.size N ((V2.alloc (.cells #[.string ⟨#[]⟩, .slice none 0 0] 25)).drew) := (HN2.out.alloc HN2.out.size _).drew
    have BVa : Below V2.heap.size V2 ((V2.alloc (.cells #[.string ⟨#[]⟩, .slice none 0 0] 25)).drew) := ((Below.refl _ _).alloc (Nat.le_refl _) _).drew
    have gle1 : N.heap.size ≤ V2.heap.size := HN2.out.size
    have gle2 : V2.heap.size ≤ V2.heap.size := Nat.le_refl _
    refine hK.out _ _ (HCV.out _ BNa) (fun hHeld => ?_)
    clear hK K
    try simp only [Act.put]
    refine wpAnyH_ready (rs := [7]) (by kernel_rfl) (by simp) ?_
    refine AllReadyH.cons (o := _) rfl (fun K hK => ?_) AllReadyH.nil
    go_simp
    have cc := HRP.out (((V2.alloc (.cells #[.string ⟨#[]⟩, .slice none 0 0] 25)).drew))
    go_at_call 20
    with_reducible refine cc.mono ?_
    clear cc
    rintro e x1 ⟨rfl, hx1⟩
    have BN1 := BNa.trans (hx1.mono BNa.size)
    have BV1 := BVa.trans (hx1.mono BVa.size)
    have ga := (hx1.block _ (blk_lt ga)).trans ga
    clear hx1
    refine hK.out _ _ (HCV.out _ BN1) (fun hHeld => ?_)
    clear hK K
    try simp only [Act.put]
    refine wpAnyH_take (i := 8) (oi := { dst := some 67, op := _, type := _, pos := _, after := _, guard := _ }) (v := ?v43) rfl (by kernel_rfl) (by kernel_rfl) (by kernel_rfl) (fun _ _ _ h => h) (Or.inl ⟨by rfl, ?hy43⟩) (by assumption) ?rest43
    case hy43 =>
      intro w hSw
      try dsimp only at hSw
      go_simp
      try rw [if_neg (by omega)]
      try with_reducible rfl
    try simp only [Act.put]
    refine wpAnyH_take (i := 10) (oi := { dst := some 69, op := _, type := _, pos := _, after := _, guard := _ }) (v := ?v44) rfl (by kernel_rfl) (by kernel_rfl) (by kernel_rfl) (fun _ _ _ h => h) (Or.inl ⟨by rfl, ?hy44⟩) (by assumption) ?rest44
    case hy44 =>
      intro w hSw
      try dsimp only at hSw
      go_simp
      try rw [if_neg (by omega)]
      try with_reducible rfl
    try simp only [Act.put]
    refine wpAnyH_ready (rs := [11]) (by kernel_rfl) (by simp) ?_
    refine AllReadyH.cons (o := _) rfl (fun K hK => ?_) AllReadyH.nil
    go_simp
    have cc := HWD.out (x1) (HBN.out.trans (BN1.mono HBN.out.size))
    go_at_call 11
    with_reducible refine cc.mono ?_
    clear cc
    rintro e x2 ⟨A3, k3, rfl, hA3, hk3, hx2⟩
    have BN2 := BN1.trans (hx2.mono BN1.size)
    have BV2 := BV1.trans (hx2.mono BV1.size)
    have ga := (hx2.block _ (blk_lt ga)).trans ga
    clear hx2
    refine hK.out _ _ (HCV.out _ BN2) (fun hHeld => ?_)
    clear hK K
    try simp only [Act.put]
    refine wpAnyH_take (i := 12) (oi := { dst := some 58, op := _, type := _, pos := _, after := _, guard := _ }) (v := ?v45) rfl (by kernel_rfl) (by kernel_rfl) (by kernel_rfl) (fun _ _ _ h => h) (Or.inl ⟨by rfl, ?hy45⟩) (by assumption) ?rest45
    case hy45 =>
      intro w hSw
      try dsimp only at hSw
      go_simp
      try rw [if_neg (by omega)]
      try with_reducible rfl
    try simp only [Act.put]
    refine wpAnyH_take (i := 13) (oi := { dst := some 71, op := _, type := _, pos := _, after := _, guard := _ }) (v := ?v46) rfl (by kernel_rfl) (by kernel_rfl) (by kernel_rfl) (fun _ _ _ h => h) (Or.inl ⟨by rfl, ?hy46⟩) (by assumption) ?rest46
    case hy46 =>
      intro w hSw
      try dsimp only at hSw
      go_simp
      try rw [if_neg (by omega)]
      try with_reducible rfl
    try simp only [Act.put]
    refine wpAnyH_take (i := 14) (oi := { dst := some 72, op := _, type := _, pos := _, after := _, guard := _ }) (v := ?v47) rfl (by kernel_rfl) (by kernel_rfl) (by kernel_rfl) (fun _ _ _ h => h) (Or.inl ⟨by rfl, ?hy47⟩) (by assumption) ?rest47
    case hy47 =>
      intro w hSw
      try dsimp only at hSw
      go_simp
      try rw [if_neg (by omega)]
      try with_reducible rfl
    try simp only [Act.put]
    obtain ⟨Z, hZ⟩ : ∃ Z, Z = ((x2.setCell ⟨V2.heap.size, 0, none⟩ (.string (str [97]))).setCell ⟨V2.heap.size, 1, none⟩ (.slice A3 tl.length k3)) := ⟨_, rfl⟩
    have gZ : Z.heap[V2.heap.size]? = some (.cells #[.string (str [97]), .slice A3 tl.length k3] 25 (0, 0)) := by rw [hZ]; exact set2_row ga
    have BNZ : Below N.heap.size N Z := by rw [hZ]; exact (BN2.setCell (p := ⟨V2.heap.size, 0, none⟩) gle1 _).setCell (p := ⟨V2.heap.size, 1, none⟩) gle1 _
    have BVZ : Below V2.heap.size V2 Z := by rw [hZ]; exact (BV2.setCell (p := ⟨V2.heap.size, 0, none⟩) gle2 _).setCell (p := ⟨V2.heap.size, 1, none⟩) gle2 _
    have lZ : LxAt Z Z.heap.size A3 ul := by
      have h := lx_set2 (.string (str [97])) (.slice A3 tl.length k3) hA3.ws ga
      rw [hZ]
      have e : ((x2.setCell ⟨V2.heap.size, 0, none⟩ (.string (str [97]))).setCell ⟨V2.heap.size, 1, none⟩ (.slice A3 tl.length k3)).heap.size = x2.heap.size := by simp
      rw [e]
      exact h
    have fs0 : x2.frozen? ⟨V2.heap.size, 0, none⟩ = false := frozen_of_row _ _ _ _ _ ga
    have fs1 : x2.frozen? ⟨V2.heap.size, 1, none⟩ = false := frozen_of_row _ _ _ _ _ ga
    obtain ⟨gs0, gs1⟩ := cells2 ga
    refine wpAnyH_ready (rs := [16]) (by kernel_rfl) (by simp) ?_
    refine AllReadyH.cons (o := _) rfl (fun K hK => ?_) AllReadyH.nil
    go_simp
    rw [← hZ]
    refine hK.out _ _ (HCV.out _ BNZ) (fun hHeld => ?_)
    clear hK K
    try simp only [Act.put]
    refine wpAnyH_take (i := 17) (oi := { dst := some 12, op := _, type := _, pos := _, after := _, guard := _ }) (v := ?v48) rfl (by kernel_rfl) (by kernel_rfl) (by kernel_rfl) (fun _ _ _ h => h) (Or.inl ⟨by rfl, ?hy48⟩) (by assumption) ?rest48
    case hy48 =>
      intro w hSw
      try dsimp only at hSw
      go_simp
      try rw [if_neg (by omega)]
      try with_reducible rfl
    try simp only [Act.put]
    refine wpAnyH_done (by kernel_rfl) ?_ _
    try simp only [List.setIfInBounds_toArray]
    have hx2z : w3.heap.size < V2.heap.size := blk_lt HG2.out
    have gA := (BVZ.block _ hx2z).trans HG2.out
    have HKEEP := Lib.hid (fun (X : World) (hX : Below Z.heap.size Z X) => (show X.cell? ⟨w3.heap.size, 1, none⟩ = some (.slice A2 tl.length k2) ∧ X.cell? ⟨V2.heap.size, 1, none⟩ = some (.slice A3 tl.length k3) ∧ LxAt X X.heap.size A2 tl ∧ LxAt X X.heap.size A3 ul ∧ Below W.heap.size W X from
      have hBZ := HB2.out.trans (BVZ.mono HB2.out.size)
      ⟨(cells2 ((hX.block _ (blk_lt gA)).trans gA)).2, (cells2 ((hX.block _ (blk_lt gZ)).trans gZ)).2, ((HA2.out.ws).next BVZ).next hX, lZ.next hX, hBZ.trans (hX.mono hBZ.size)⟩))
    have zz := HKEEP.out Z (Below.refl _ _)
    have e1 := zz.1
    have f1 := zz.2.1
    clear zz gA gZ lZ BNZ BVZ hZ BN2 BV2 hHeld
    go_wp2_with fail
    clear e1 f1
    go_loopw [91] (fun v wr => ∃ j : Nat, j ≤ tl.length ∧ v = .int .i64 j ∧ Below Z.heap.size Z wr) (fun v _ => tl.length - (intOf v).toNat)
    case atStart => exact ⟨0, by omega, rfl, Below.refl _ _⟩
    case round =>
      obtain ⟨j, hj, rfl, hb⟩ := hrel
      obtain ⟨-, -, l1, l2, hEW⟩ := HKEEP.out wr hb
      have HEW := Lib.hid hEW
      clear hEW
      by_cases hlt : j < tl.length
      · have b1 : decide ((j : Int) < (tl.length : Int)) = true := decide_eq_true (by omega)
        have b1n : decide (j < tl.length) = true := decide_eq_true hlt
        have y1 : (j : Int) < (tl.length : Int) := by omega
        have hlu : j < ul.length := by omega
        obtain ⟨g, o, rfl, hg, d0, d1⟩ := l1 j hlt
        obtain ⟨g', o', rfl, hg', j0, j1⟩ := l2 j hlu
        have huk : ul[j]'hlu = mv (k + 1) tl[j] := by
          have : ul[j]? = some (mv (k + 1) tl[j]) := by rw [HUL.out, List.getElem?_map, List.getElem?_eq_getElem hlt]; rfl
          rw [List.getElem?_eq_getElem hlu] at this
          exact Option.some.inj this
        obtain ⟨x, hx⟩ : ∃ x, x = tl[j] := ⟨_, rfl⟩
        have hxl := HLN.out x (by rw [hx]; exact List.getElem_mem hlt)
        rw [huk, ← hx] at j0 j1
        rw [← hx] at d0 d1
        rw [show (mv (k + 1) x).ln = x.ln + (k : Int) + 1 by show x.ln + ((k + 1 : Nat) : Int) = _; omega] at j1
        change wr.cell? _ = some (.string (str x.tx)) at j0
        have u1 : IntKind.i64.wrap (x.ln + (k : Int)) = x.ln + (k : Int) := IntWalk.i64_in _ (by omega)
        have u2 : IntKind.i64.wrap (x.ln + (k : Int) + 1) = x.ln + (k : Int) + 1 := IntWalk.i64_in _ (by omega)
        have hbs := hb.size
        obtain ⟨N1, hN1⟩ : ∃ N1, N1 = wr.alloc (.cells #[.string (str x.tx), .int .i64 x.ln] 41) := ⟨_, rfl⟩
        have ha1 : Below wr.heap.size wr N1 := by rw [hN1]; exact (Below.refl _ _).alloc (Nat.le_refl _) _
        have hbN1 : Below Z.heap.size Z N1 := hb.trans (ha1.mono hbs)
        have gN1 : N1.heap[wr.heap.size]? = some (.cells #[.string (str x.tx), .int .i64 x.ln] 41 (0, 0)) := by rw [hN1]; exact heap_alloc_new wr _
        obtain ⟨p0, p1⟩ := cells2 gN1
        have jj0 := (ha1.cell (p := ⟨g', o' + j * 2, none⟩) hg').trans j0
        have jj1 := (ha1.cell (p := ⟨g', o' + j * 2 + 1, none⟩) hg').trans j1
        have ff1 := (HKEEP.out N1 hbN1).2.1
        have HBN1 := Lib.hid hbN1
        clear huk hx l1 l2 hg hg' j0 j1 gN1 ha1 hb hbN1
        go_upto_region 16 with (fail)
        rw [← hN1]
        clear hN1 d0 d1
        go_quiet (fail)
        have hbQ := HBN1.out.trans ((below_drewN N1 nq).mono HBN1.out.size)
        generalize N1.drewN nq = Q at *
        have HBQ := Lib.hid hbQ
        clear hbQ p0 p1 jj0 jj1 ff1
        go_wp2_with fail
        go_roundw
        case rel => exact ⟨j + 1, by omega, by go_num, HBQ.out⟩
        case measure => simp [intOf]; omega
      · have b1 : decide ((j : Int) < (tl.length : Int)) = false := decide_eq_false (by omega)
        have b1n : decide (j < tl.length) = false := decide_eq_false hlt
        clear hb l1 l2
        go_wp2_with fail
        go_ret
        exact ⟨rfl, HEW.out⟩
end Nm
end Go.Proofs.YtenaohnginikhaaDoor
