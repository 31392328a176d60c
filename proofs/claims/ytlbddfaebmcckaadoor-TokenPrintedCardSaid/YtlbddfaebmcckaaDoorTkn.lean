/- The tokens of a line. Condition: the library's error of ranges lies in its variable. -/
import Derived.Test.YtlbddfaebmcckaaDoorFst
import Derived.Deep.AppendLies
import Derived.Lib.Builder
import Derived.Lib.AppendStr
import Derived.Deep.LoopGhost
namespace Go.Proofs.YtlbddfaebmcckaaDoor
open Go.RowKit

def tkOf (t : Tok.Tk) : List Value := [.int .i64 t.kind, .string (str t.text)]
def tksOf (ts : List Tok.Tk) : List Value := ts.flatMap tkOf
theorem tksOf_snoc (ts : List Tok.Tk) (t : Tok.Tk) : tksOf ts ++ [.int .i64 t.kind, .string (str t.text)] = tksOf (ts ++ [t]) := by simp [tksOf, tkOf]
theorem infoT : (Tryd.prog.info? 39).map (fun i => (i.zero, i.size, i.bytes)) = some (some (.agg #[.int .i64 0, .string ⟨#[]⟩]), 2, 24) := by kernel_rfl
/-- What a list of tokens and an error are as a result. -/
def GotT (w : World) (R : List Tok.Tk × Int) : Ending → World → Prop := fun x w' => ∃ v, x = .returned (.tuple #[v, .int .i64 R.2]) ∧ w'.ownsRow w.heap.size 39 2 v R.1.length (tksOf R.1) ∧ Below w.heap.size w w'
theorem owns_below {w w' : World} {B size n : Nat} {e : TypeId} {v : Value} {xs : List Value} (h : w.ownsRow B e size v n xs) (hb : Below w.heap.size w w') : w'.ownsRow B e size v n xs :=
  h.kept (row := none) ⟨hb.os, hb.tape, hb.output, hb.size, fun k hk _ => hb.block k hk⟩ (by cases hv : v.ownBlock <;> simp)
theorem scan_at (k : Nat) (s : ByteArray) (i : Nat) (h : i < s.size) : Tok.scan k (s.data.toList.drop i) = if s[i] = 32 then Tok.scan k (s.data.toList.drop (i + 1)) else if k = 256 then ([], 10) else if (Tok.next (s.data.toList.drop i)).2 = 0 then Tok.pre [(Tok.next (s.data.toList.drop i)).1] (Tok.scan (k + 1) (s.data.toList.drop (i + (Tok.next (s.data.toList.drop i)).1.text.length))) else ([], (Tok.next (s.data.toList.drop i)).2) := by
  have hd : ∀ m, s.data.toList.drop (i + m) = (s[i] :: s.data.toList.drop (i + 1)).drop m := fun m => by rw [← get_s s i h, List.drop_drop]
  rw [get_s s i h, Tok.scan_cons, ← hd]
theorem next_size (s : ByteArray) (i : Nat) (h : (Tok.next (s.data.toList.drop i)).2 = 0) : 1 ≤ (Tok.next (s.data.toList.drop i)).1.text.length ∧ i + (Tok.next (s.data.toList.drop i)).1.text.length ≤ s.size := by
  obtain ⟨_, h1, h2⟩ := Tok.next_ok _ h
  rw [List.length_drop, size_data] at h2
  omega
set_option maxHeartbeats 4000000 in
set_option maxRecDepth 100000 in
theorem tokens_any (s : ByteArray) (w : World) (hs : s.size ≤ 1000000000) (hE : Errs w) :
    Calls Tryd.prog 11 #[.string s] w (GotT w (Tok.tokens s.data.toList)) := by
  obtain ⟨i0, hi0, hz0, hz1, hz2⟩ := info_parts infoT
  have hdef : Tok.tokens s.data.toList = if 65536 < s.size then ([], 10) else Tok.scan 0 s.data.toList := rfl
  by_cases hbig : 65536 < s.size
  · have b0 : decide ((65536 : Int) < s.size) = true := by simp; omega
    have HT := Lib.hid (show Tok.tokens s.data.toList = ([], 10) by rw [hdef, if_pos hbig])
    clear hdef hbig
    generalize Tok.tokens s.data.toList = R at *
    go_enter Tryd.func11, Tryd.ntmps11
    go_wp2_with fail
    go_step3
    go_wp2_with fail
    try rw [Exit.noGoto_ret]
    go_ret2
    rw [HT.out]
    exact ⟨_, rfl, World.ownsRow_nil _ _ _ _, Below.refl _ _⟩
  · have b0 : decide ((65536 : Int) < s.size) = false := by simp; omega
    have HT := Lib.hid (show Tok.tokens s.data.toList = Tok.scan 0 s.data.toList by rw [hdef, if_neg hbig])
    have hsz : s.size ≤ 65536 := by omega
    clear hdef hbig
    generalize Tok.tokens s.data.toList = R at *
    go_enter Tryd.func11, Tryd.ntmps11
    go_wp2_with fail
    go_step3
    go_wp2_with fail
    go_step3
    go_wp2_with fail
    go_loopg [4, 5] s.size (fun g v a wr => ∃ (k : Nat) (ts : List Tok.Tk) (A : Option Addr) (c : Nat), k + g = s.size ∧ a = .int .i64 k ∧ v = .slice A ts.length c ∧ ts.length ≤ 256 ∧ wr.ownsRow w.heap.size 39 2 v ts.length (tksOf ts) ∧ R = Tok.pre ts (Tok.scan ts.length (s.data.toList.drop k)) ∧ Below w.heap.size w wr)
    case atStart => exact ⟨0, [], none, 0, by omega, rfl, rfl, by simp, World.ownsRow_nil _ _ _ _, by rw [HT.out, List.drop_zero]; exact (Tok.pre_nil _ _).symm, Below.refl _ _⟩
    case round =>
      obtain ⟨k, ts, A, c, hkg, rfl, rfl, hts, hown, hR, hb⟩ := hrel
      have HR := Lib.hid hR
      clear hR HT
      by_cases hlt : k < s.size
      · have b1 : decide ((k : Int) < s.size) = true := by simp; omega
        go_wp2_with fail
        go_loopg [5] (s.size - k) (fun g a wx => ∃ j : Nat, j + g = s.size ∧ a = .int .i64 j ∧ wx = wr ∧ k ≤ j ∧ j < s.size ∧ Tok.scan ts.length (s.data.toList.drop k) = Tok.scan ts.length (s.data.toList.drop j))
        case atStart => exact ⟨k, by omega, rfl, rfl, by omega, hlt, rfl⟩
        case round =>
          obtain ⟨j, hjg, rfl, rfl, hkj, hjs, hsc⟩ := hrel
          rw [scan_at ts.length s j hjs] at hsc
          have HS := Lib.hid hsc
          clear hsc
          have hbl : s[j] = 32 ∨ s[j] ≠ 32 := Classical.em _
          rcases hbl with h32 | h32
          · have b2 : ((s[j].toNat : Int) == 32) = true := by rw [h32]; rfl
            have b2n : (s[j].toNat == 32) = true := by rw [h32]; rfl
            have HS2 := Lib.hid (HS.out.trans (if_pos h32))
            clear HS h32
            by_cases hend : j + 1 = s.size
            · have b3 : ((j : Int) + 1 == (s.size : Int)) = true := by rw [beq_iff_eq]; omega
              have b3n : (j + 1 == s.size) = true := by rw [beq_iff_eq]; exact hend
              have HT := Lib.hid (show R = (ts, 0) by
                rw [HR.out, HS2.out, List.drop_of_length_le (by rw [size_data]; omega), Tok.scan_nil]; simp [Tok.pre])
              have HEND := Lib.hid hend
              clear HR HS2 hend
              go_wp2_with fail
              try rw [Exit.noGoto_ret]
              go_ret2
              rw [HT.out]
              exact ⟨_, rfl, hown, hb⟩
            · have b3 : ((j : Int) + 1 == (s.size : Int)) = false := by rw [beq_eq_false_iff_ne]; omega
              have b3n : (j + 1 == s.size) = false := by rw [beq_eq_false_iff_ne]; exact hend
              go_wp2_with fail
              go_roundg (gk - 1)
              case measure => omega
              case rel => exact ⟨j + 1, by omega, by go_num, rfl, by omega, by omega, HS2.out⟩
          · have h32n : s[j].toNat ≠ 32 := fun e => h32 (UInt8.toNat_inj.1 e)
            have b2 : ((s[j].toNat : Int) == 32) = false := by rw [beq_eq_false_iff_ne]; omega
            have b2n : (s[j].toNat == 32) = false := by rw [beq_eq_false_iff_ne]; exact h32n
            have HS2 := Lib.hid (HS.out.trans (if_neg h32))
            clear HS h32 h32n
            by_cases hfull : ts.length = 256
            · have b3 : ((ts.length : Int) == 256) = true := by rw [beq_iff_eq]; omega
              have b3n : (ts.length == 256) = true := by rw [beq_iff_eq]; exact hfull
              have HT := Lib.hid (show R = ([], 10) by rw [HR.out, HS2.out, if_pos hfull]; simp [Tok.pre])
              clear HR HS2 hfull
              go_wp2_with fail
              try rw [Exit.noGoto_ret]
              go_ret2
              rw [HT.out]
              exact ⟨_, rfl, World.ownsRow_nil _ _ _ _, hb⟩
            · have b3 : ((ts.length : Int) == 256) = false := by rw [beq_eq_false_iff_ne]; omega
              have b3n : (ts.length == 256) = false := by rw [beq_eq_false_iff_ne]; exact hfull
              have hts2 : ts.length < 256 := by omega
              have HS3 := Lib.hid (HS2.out.trans (if_neg hfull))
              have hx : (s.extract j s.size).data.toList = s.data.toList.drop j := by rw [ext_drop, str_data]
              have hxs : (s.extract j s.size).size = s.size - j := by rw [← size_data, hx, List.length_drop, size_data]
              have hcall := first_any (s.extract j s.size) wr (by omega) (by omega) (hE.below hb)
              rw [hx] at hcall
              have hns := next_size s j
              clear HS2 hfull hx
              generalize Tok.next (s.data.toList.drop j) = N at *
              obtain ⟨⟨ka, kb⟩, kc⟩ := N
              rw [tokV_def] at hcall
              clear hxs
              by_cases hkc : kc = 0
              · subst hkc
                obtain ⟨hn1, hn2⟩ := hns rfl
                have HT := Lib.hid (show R = Tok.pre (ts ++ [⟨ka, kb⟩]) (Tok.scan (ts ++ [(⟨ka, kb⟩ : Tok.Tk)]).length (s.data.toList.drop (j + kb.length))) by
                  rw [HR.out, HS3.out, if_pos rfl, Tok.pre_pre]; simp)
                clear HR HS3 hns
                go_wp2_with fail
                with_reducible refine hcall.mono ?_
                clear hcall
                rintro e w1 ⟨rfl, hb1⟩
                replace hown := owns_below hown hb1
                replace hb := hb.trans (hb1.mono hb.size)
                clear hb1
                have hrow := hown.lt
                go_upto_region 15 with (at_builtin; refine wpList_append_lies _ (by rfl) _ _ 23 (by rfl) w.heap.size 39 i0 _ 2 24 Tryd.underlying23 hi0 hz0 hz1 hz2 rfl (by omega) (.slice A ts.length c) ts.length _ (by rfl) ((hown.alloc _).alloc _) ⟨w1.heap.size + 1, 0, none⟩ 1 1 [_, _] (by rfl) (by rfl) (World.news_of_block (cs := #[_, _]) (t := 39) (fr := (0, 0)) (by have := heap_alloc_new (w1.alloc (.cells #[.int .i64 ka, .string (str kb)] 39)) (.cells #[.int .i64 ka, .string (str kb)] 39); simpa using this)) (by simp [Value.oneCell']) (by omega) (by unfold maxLen; omega) (by omega) (by have := hb.size; simp; omega) (w1.heap.size + 2) (by simp) ?_; intro gg cap w3 hown3 hgrow hat hlt3)
                have hbk : w3.heap[w1.heap.size]? = some (.cells #[.int .i64 ka, .string (str kb)] 39 (0, 0)) :=
                  (hgrow.block w1.heap.size (by simp; omega) (fun hx => by have := (hrow _ hx.symm).2; omega)).trans ((heap_alloc_old _ _ (by simp)).trans (heap_alloc_new w1 _))
                have hc1 : w3.cell? ⟨w1.heap.size, 1, none⟩ = some (.string (str kb)) := by rw [Lib.cell_of_heap hbk]; rfl
                have hown4 : w3.ownsRow w.heap.size 39 2 (.slice (some ⟨gg, 0, none⟩) (ts.length + 1) cap) (ts ++ [(⟨ka, kb⟩ : Tok.Tk)]).length (tksOf (ts ++ [⟨ka, kb⟩])) := by
                  rw [← tksOf_snoc, List.length_append, List.length_singleton]; exact hown3
                have hb4 : Below w.heap.size w w3 := ((hb.alloc hb.size _).alloc (by have := hb.size; simp; omega) _).grown hgrow (by have := hb.size; simp; omega) (fun q hq => (hrow q hq).1)
                have hks : (str kb).size ≤ s.size := by rw [str_size]; omega
                have HKS := Lib.hid (str_size kb)
                clear hbk hown3 hgrow hat hlt3 hrow hown hb
                go_wp2_with fail
                go_roundg (s.size - (j + kb.length))
                case measure => omega
                case rel => exact ⟨j + kb.length, ts ++ [⟨ka, kb⟩], some ⟨gg, 0, none⟩, cap, by omega, by have := HKS.out; rw [Value.int.injEq]; exact ⟨rfl, by omega⟩, by simp, by simp; omega, hown4, HT.out, hb4⟩
              · have b4 : (kc != 0) = true := by rw [bne_iff_ne]; exact hkc
                have HT := Lib.hid (show R = ([], kc) by
                  rw [HR.out, HS3.out, if_neg hkc]; simp [Tok.pre, hkc])
                clear HR HS3 hns hkc
                go_wp2_with fail
                with_reducible refine hcall.mono ?_
                clear hcall
                rintro e w1 ⟨rfl, hb1⟩
                replace hb := hb.trans (hb1.mono hb.size)
                clear hb1
                go_wp2_with fail
                try rw [Exit.noGoto_ret]
                go_ret2
                rw [HT.out]
                exact ⟨_, rfl, World.ownsRow_nil _ _ _ _, hb.alloc hb.size _⟩
      · have b1 : decide ((k : Int) < s.size) = false := by simp; omega
        have HT := Lib.hid (show R = (ts, 0) by
          rw [HR.out, List.drop_of_length_le (by rw [size_data]; omega), Tok.scan_nil]; simp [Tok.pre])
        clear HR
        go_wp2_with fail
        try rw [Exit.noGoto_ret]
        go_ret2
        rw [HT.out]
        exact ⟨_, rfl, hown, hb⟩
end Go.Proofs.YtlbddfaebmcckaaDoor
