/- The reference's tokens of a line, and its print. No condition but the string's length. -/
import Derived.Test.YtndehkoglgakpaaGreatDoorRefX
namespace Go.Proofs.YtndehkoglgakpaaGreatDoor
open Go.RowKit

set_option maxHeartbeats 4000000 in
set_option maxRecDepth 100000 in
theorem qTokens_any (s : ByteArray) (w : World) (hs : s.size ≤ 1000000000) :
    Calls Tryz.prog 42 #[.string s] w (GotT w (Tok.tokens s.data.toList)) := by
  obtain ⟨i0, hi0, hz0, hz1, hz2⟩ := info_parts infoT
  have hdef : Tok.tokens s.data.toList = if 65536 < s.size then ([], 10) else Tok.scan 0 s.data.toList := rfl
  by_cases hbig : 65536 < s.size
  · have b0 : decide ((65536 : Int) < s.size) = true := by simp; omega
    have HT := Lib.hid (show Tok.tokens s.data.toList = ([], 10) by rw [hdef, if_pos hbig])
    clear hdef hbig
    generalize Tok.tokens s.data.toList = R at *
    go_enter Tryz.func42, Tryz.ntmps42
    go_wp2_with fail
    go_ret2
    rw [HT.out]
    exact ⟨_, rfl, World.ownsRow_nil _ _ _ _, Below.refl _ _⟩
  · have b0 : decide ((65536 : Int) < s.size) = false := by simp; omega
    have HT := Lib.hid (show Tok.tokens s.data.toList = Tok.scan 0 s.data.toList by rw [hdef, if_neg hbig])
    have hsz : s.size ≤ 65536 := by omega
    clear hdef hbig
    generalize Tok.tokens s.data.toList = R at *
    go_enter Tryz.func42, Tryz.ntmps42
    go_wp2_with fail
    go_loopg [4, 5] s.size (fun g v a wr => ∃ (k : Nat) (ts : List Tok.Tk) (A : Option Addr) (c : Nat), k + g = s.size ∧ a = .int .i64 k ∧ v = .slice A ts.length c ∧ ts.length ≤ 256 ∧ wr.ownsRow w.heap.size 45 2 v ts.length (tksOf ts) ∧ R = Tok.pre ts (Tok.scan ts.length (s.data.toList.drop k)) ∧ Below w.heap.size w wr)
    case atStart => exact ⟨0, [], none, 0, by omega, rfl, rfl, by simp, World.ownsRow_nil _ _ _ _, by rw [HT.out, List.drop_zero]; exact (Tok.pre_nil _ _).symm, Below.refl _ _⟩
    case round =>
      obtain ⟨k, ts, A, c, hkg, rfl, rfl, hts, hown, hR, hb⟩ := hrel
      have HR := Lib.hid hR
      clear hR HT
      by_cases hlt : k < s.size
      · have b1 : decide ((k : Int) < s.size) = true := by simp; omega
        have hsc := scan_at ts.length s k hlt
        have HS := Lib.hid hsc
        clear hsc
        have hbl : s[k] = 32 ∨ s[k] ≠ 32 := Classical.em _
        rcases hbl with h32 | h32
        · have b2 : ((s[k].toNat : Int) == 32) = true := by rw [h32]; rfl
          have b2n : (s[k].toNat == 32) = true := by rw [h32]; rfl
          have HS2 := Lib.hid (HS.out.trans (if_pos h32))
          clear HS h32
          have HT := Lib.hid (show R = Tok.pre ts (Tok.scan ts.length (s.data.toList.drop (k + 1))) by rw [HR.out, HS2.out])
          clear HR HS2
          go_wp2_with fail
          go_roundg (gk - 1)
          case measure => omega
          case rel => exact ⟨k + 1, ts, A, c, by omega, by go_num, rfl, hts, hown, HT.out, hb⟩
        · have h32n : s[k].toNat ≠ 32 := fun e => h32 (UInt8.toNat_inj.1 e)
          have b2 : ((s[k].toNat : Int) == 32) = false := by rw [beq_eq_false_iff_ne]; omega
          have b2n : (s[k].toNat == 32) = false := by rw [beq_eq_false_iff_ne]; exact h32n
          have HS2 := Lib.hid (HS.out.trans (if_neg h32))
          clear HS h32 h32n
          by_cases hfull : ts.length = 256
          · have b3 : ((ts.length : Int) == 256) = true := by rw [beq_iff_eq]; omega
            have b3n : (ts.length == 256) = true := by rw [beq_iff_eq]; exact hfull
            have HT := Lib.hid (show R = ([], 10) by rw [HR.out, HS2.out, if_pos hfull]; simp [Tok.pre])
            clear HR HS2 hfull
            go_wp2_with fail
            go_ret2
            rw [HT.out]
            exact ⟨_, rfl, World.ownsRow_nil _ _ _ _, hb⟩
          · have b3 : ((ts.length : Int) == 256) = false := by rw [beq_eq_false_iff_ne]; omega
            have b3n : (ts.length == 256) = false := by rw [beq_eq_false_iff_ne]; exact hfull
            have hts2 : ts.length < 256 := by omega
            have HS3 := Lib.hid (HS2.out.trans (if_neg hfull))
            have hx : (s.extract k s.size).data.toList = s.data.toList.drop k := by rw [ext_drop, str_data]
            have hxs : (s.extract k s.size).size = s.size - k := by rw [← size_data, hx, List.length_drop, size_data]
            have hcall := qNext_any (s.extract k s.size) wr (by omega) (by omega)
            rw [hx] at hcall
            have hns := next_size s k
            clear HS2 hfull hx
            generalize Tok.next (s.data.toList.drop k) = N at *
            obtain ⟨⟨ka, kb⟩, kc⟩ := N
            rw [tokV_def] at hcall
            clear hxs
            by_cases hkc : kc = 0
            · subst hkc
              obtain ⟨hn1, hn2⟩ := hns rfl
              have HT := Lib.hid (show R = Tok.pre (ts ++ [⟨ka, kb⟩]) (Tok.scan (ts ++ [(⟨ka, kb⟩ : Tok.Tk)]).length (s.data.toList.drop (k + kb.length))) by
                rw [HR.out, HS3.out, if_pos rfl, Tok.pre_pre]; simp)
              clear HR HS3 hns
              go_wp2_with fail
              with_reducible refine hcall.mono ?_
              clear hcall
              rintro e w1 ⟨rfl, hb1⟩
              replace hown := owns_below hown hb1
              replace hb := hb.trans (hb1.mono hb.size)
              clear hb1
              have hrow := hown.lt
              go_upto_region 14 with (at_builtin; refine wpList_append_lies _ (by rfl) _ _ 22 (by rfl) w.heap.size 45 i0 _ 2 24 Tryz.underlying22 hi0 hz0 hz1 hz2 rfl (by omega) (.slice A ts.length c) ts.length _ (by rfl) ((hown.alloc _).alloc _) ⟨w1.heap.size + 1, 0, none⟩ 1 1 [_, _] (by rfl) (by rfl) (World.news_of_block (cs := #[_, _]) (t := 45) (fr := (0, 0)) (by have := heap_alloc_new (w1.alloc (.cells #[.int .i64 ka, .string (str kb)] 45)) (.cells #[.int .i64 ka, .string (str kb)] 45); simpa using this)) (by simp [Value.oneCell']) (by omega) (by unfold maxLen; omega) (by omega) (by have := hb.size; simp; omega) (w1.heap.size + 2) (by simp) ?_; intro gg cap w3 hown3 hgrow hat hlt3)
              have hbk : w3.heap[w1.heap.size]? = some (.cells #[.int .i64 ka, .string (str kb)] 45 (0, 0)) :=
                (hgrow.block w1.heap.size (by simp; omega) (fun hx => by have := (hrow _ hx.symm).2; omega)).trans ((heap_alloc_old _ _ (by simp)).trans (heap_alloc_new w1 _))
              have hc1 : w3.cell? ⟨w1.heap.size, 1, none⟩ = some (.string (str kb)) := by rw [Lib.cell_of_heap hbk]; rfl
              have hown4 : w3.ownsRow w.heap.size 45 2 (.slice (some ⟨gg, 0, none⟩) (ts.length + 1) cap) (ts ++ [(⟨ka, kb⟩ : Tok.Tk)]).length (tksOf (ts ++ [⟨ka, kb⟩])) := by
                rw [← tksOf_snoc, List.length_append, List.length_singleton]; exact hown3
              have hb4 : Below w.heap.size w w3 := ((hb.alloc hb.size _).alloc (by have := hb.size; simp; omega) _).grown hgrow (by have := hb.size; simp; omega) (fun q hq => (hrow q hq).1)
              have hks : (str kb).size ≤ s.size := by rw [str_size]; omega
              have HKS := Lib.hid (str_size kb)
              clear hbk hown3 hgrow hat hlt3 hrow hown hb
              go_wp2_with fail
              go_roundg (s.size - (k + kb.length))
              case measure => omega
              case rel => exact ⟨k + kb.length, ts ++ [⟨ka, kb⟩], some ⟨gg, 0, none⟩, cap, by omega, by have := HKS.out; rw [Value.int.injEq]; exact ⟨rfl, by omega⟩, by simp, by simp; omega, hown4, HT.out, hb4⟩
            · have b4 : (kc != 0) = true := by rw [bne_iff_ne]; exact hkc
              have HT := Lib.hid (show R = ([], kc) by
                rw [HR.out, HS3.out, if_neg hkc]; simp [Tok.pre, hkc])
              clear HR HS3 hns hkc
              go_wp2_with fail
              with_reducible refine hcall.mono ?_
              clear hcall
              rintro e w1 ⟨rfl, hb1⟩
              replace hb := hb.trans (hb1.mono hb.size)
              clear hb1
              go_wp2_with fail
              go_ret2
              rw [HT.out]
              exact ⟨_, rfl, World.ownsRow_nil _ _ _ _, hb.alloc hb.size _⟩
      · have b1 : decide ((k : Int) < s.size) = false := by simp; omega
        have HT := Lib.hid (show R = (ts, 0) by
          rw [HR.out, List.drop_of_length_le (by rw [size_data]; omega), Tok.scan_nil]; simp [Tok.pre])
        clear HR
        go_wp2_with fail
        go_ret2
        rw [HT.out]
        exact ⟨_, rfl, hown, hb⟩
set_option maxHeartbeats 2000000 in
set_option maxRecDepth 100000 in
theorem qAllValid_any (A : Option Addr) (c : Nat) (ts : List Tok.Tk) (w : World) (hA : TksAt w w.heap.size A ts) (hl : ts.length ≤ 256) (hlen : ∀ k (h : k < ts.length), ts[k].text.length ≤ 3000) :
    Calls Tryz.prog 27 #[.slice A ts.length c] w fun x w' => x = .returned (.bool (ts.all Tok.valid)) ∧ Below w.heap.size w w' := by
  have HF := Lib.hid (show ts.all Tok.valid = ts.all Tok.valid from rfl)
  obtain ⟨v, hv⟩ : ∃ v, v = ts.all Tok.valid := ⟨_, rfl⟩
  rw [← hv]
  have HV := Lib.hid hv
  clear hv HF
  have b0 : decide ((ts.length : Int) ≤ 256) = true := by simp; omega
  go_enter Tryz.func27, Tryz.ntmps27
  go_wp2_with fail
  go_loopw [7] (fun i wr => ∃ k : Nat, k ≤ ts.length ∧ i = .int .i64 k ∧ (ts.take k).all Tok.valid = true ∧ Below w.heap.size w wr) (fun i _ => ts.length - (intOf i).toNat)
  case atStart => exact ⟨0, by omega, rfl, by simp, Below.refl _ _⟩
  case round =>
    obtain ⟨k, hk, rfl, hall, hb⟩ := hrel
    by_cases hlt : k < ts.length
    · have b1 : decide ((k : Int) < ts.length) = true := by simp; omega
      obtain ⟨g, o, rfl, hg, hc0, hc1⟩ := hA k hlt
      have hd0 := (hb.cell (p := ⟨g, o + k * 2, none⟩) hg).trans hc0
      have hd1 := (hb.cell (p := ⟨g, o + k * 2 + 1, none⟩) hg).trans hc1
      have hsn := all_snoc Tok.valid ts k hlt
      rw [hall, Bool.true_and] at hsn
      have hcall := fun w => qValid_any ts[k] w (by have := hlen k hlt; omega)
      clear hc0 hc1 hA hall hlen
      have HAT := Lib.hid (all_of_take Tok.valid ts (k + 1))
      generalize ts[k] = t at *
      have hbw : Below w.heap.size w (wr.alloc (.cells #[.int .i64 t.kind, .string (str t.text)] 45)) := hb.alloc hb.size _
      cases hvt : Tok.valid t
      · rw [hvt] at hcall hsn
        have HR := Lib.hid (show v = false by rw [HV.out, HAT.out hsn])
        clear hsn hvt
        go_wp2_with fail
        with_reducible refine (hcall _).mono ?_
        rintro e w2 ⟨rfl, hb2⟩
        go_wp2_with fail
        go_ret
        exact ⟨ret_bool (by rw [HR.out]), hbw.trans (hb2.mono hbw.size)⟩
      · rw [hvt] at hcall hsn
        have HSN := Lib.hid hsn
        clear hsn hvt
        go_wp2_with fail
        with_reducible refine (hcall _).mono ?_
        rintro e w2 ⟨rfl, hb2⟩
        replace hbw := hbw.trans (hb2.mono hbw.size)
        clear hb2 hcall
        go_wp2_with fail
        go_roundw
        case rel => exact ⟨k + 1, by omega, by go_num, HSN.out, hbw⟩
        case measure => simp [intOf]; omega
    · have b1 : decide ((k : Int) < ts.length) = false := by simp; omega
      have hk2 : k = ts.length := by omega
      have HR := Lib.hid (show v = true by rw [HV.out]; rw [hk2, List.take_length] at hall; exact hall)
      clear hall hk2 hA hlen
      go_wp2_with fail
      go_ret
      exact ⟨ret_bool (by rw [HR.out]), hb⟩
set_option maxHeartbeats 4000000 in
set_option maxRecDepth 100000 in
theorem qText_any (A : Option Addr) (c : Nat) (ts : List Tok.Tk) (w : World) (hA : TksAt w w.heap.size A ts) (hl : ts.length ≤ 256) (hlen : ∀ k (h : k < ts.length), ts[k].text.length ≤ 3000) :
    Calls Tryz.prog 43 #[.slice A ts.length c] w fun e w' => e = .returned (.string (str (Tok.textOf ts))) ∧ Below w.heap.size w w' := by
  go_enter Tryz.func43, Tryz.ntmps43
  go_wp2_with fail
  go_loopw [3, 8] (fun v i wr => ∃ k : Nat, k ≤ ts.length ∧ i = .int .i64 k ∧ v = .string (str (Tok.textOf (ts.take k))) ∧ (Tok.textOf (ts.take k)).length ≤ 3001 * k ∧ Below w.heap.size w wr) (fun _ i _ => ts.length - (intOf i).toNat)
  case atStart => exact ⟨0, by omega, rfl, rfl, by simp [Tok.textOf], Below.refl _ _⟩
  case round =>
    obtain ⟨k, hk, rfl, rfl, hbl, hb⟩ := hrel
    by_cases hlt : k < ts.length
    · have b1 : decide ((k : Int) < ts.length) = true := by simp; omega
      obtain ⟨g, o, rfl, hg, hc0, hc1⟩ := hA k hlt
      have hd0 := (hb.cell (p := ⟨g, o + k * 2, none⟩) hg).trans hc0
      have hd1 := (hb.cell (p := ⟨g, o + k * 2 + 1, none⟩) hg).trans hc1
      have HTX := Lib.hid (textOf_take ts k hlt)
      have hlk := hlen k hlt
      clear hc0 hc1 hA hlen
      generalize ts[k] = t at *
      have hbw : Below w.heap.size w (wr.alloc (.cells #[.int .i64 t.kind, .string (str t.text)] 45)) := hb.alloc hb.size _
      have hss : (str t.text).size ≤ 3000 := by rw [str_size]; omega
      by_cases hk0 : k = 0
      · have b2 : decide ((0 : Int) < (k : Int)) = false := by simp; omega
        have b2n : decide (0 < k) = false := by simp; omega
        have hX : Tok.textOf (ts.take k) = [] := by rw [hk0]; rfl
        have HTX2 := Lib.hid (show Tok.textOf (ts.take (k + 1)) = t.text by rw [HTX.out, if_pos hk0, hX]; simp)
        rw [hX]
        have hk1 : k + 1 ≤ ts.length := by omega
        have hz : (str ([] : List UInt8)).size ≤ 0 := by rw [str_size]; simp
        have HJ := Lib.hid (show str [] ++ str t.text = str t.text by rw [str_app]; rfl)
        clear HTX hX hk0 hbl
        generalize str [] = E at *
        go_wp2_with fail
        go_roundw
        case rel => exact ⟨k + 1, hk1, by go_num, by rw [HTX2.out, HJ.out], by rw [HTX2.out]; omega, hbw⟩
        case measure => simp [intOf]; omega
      · have b2 : decide ((0 : Int) < (k : Int)) = true := by simp; omega
        have b2n : decide (0 < k) = true := by simp; omega
        have HTX2 := Lib.hid (show Tok.textOf (ts.take (k + 1)) = Tok.textOf (ts.take k) ++ [32] ++ t.text by rw [HTX.out, if_neg hk0])
        have hXs : (str (Tok.textOf (ts.take k))).size ≤ 3001 * 256 := by rw [str_size]; omega
        have hXs2 : (str (Tok.textOf (ts.take k)) ++ ⟨#[32]⟩).size ≤ 3001 * 256 + 1 := by
          rw [show (⟨#[32]⟩ : ByteArray) = str [32] from rfl, str_app, str_size]; simp; omega
        have HJ := Lib.hid (show str (Tok.textOf (ts.take k)) ++ ⟨#[32]⟩ ++ str t.text = str (Tok.textOf (ts.take k) ++ [32] ++ t.text) by
          rw [show (⟨#[32]⟩ : ByteArray) = str [32] from rfl, str_app, str_app])
        clear HTX hk0
        generalize hX : Tok.textOf (ts.take k) = X at *
        clear hX
        go_wp2_with fail
        go_roundw
        case rel => exact ⟨k + 1, by omega, by go_num, by rw [HTX2.out, HJ.out], by rw [HTX2.out]; simp; omega, hbw⟩
        case measure => simp [intOf]; omega
    · have b1 : decide ((k : Int) < ts.length) = false := by simp; omega
      have hk2 : k = ts.length := by omega
      have HX := Lib.hid (show Tok.textOf (ts.take k) = Tok.textOf ts by rw [hk2, List.take_length])
      clear hk2
      go_wp2_with fail
      go_ret
      exact ⟨by rw [← HX.out]; rfl, hb⟩
end Go.Proofs.YtndehkoglgakpaaGreatDoor
