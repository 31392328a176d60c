/- choose at behind's closure, behind, Reach, Back. No condition but the lengths. -/
import Derived.Test.YtdiaejdoglccoaaLen
import Derived.Deep.DeepAppendWide
namespace Go.Proofs.Ytdiaejdoglccoaa
open Go.RowKit Go.Deep Tr

namespace Gr
/-- The nodes that a function chooses. -/
def chs (p : Nat → Bool) : Nat → List Int
  | 0 => []
  | k + 1 => chs p k ++ if p k then [(k : Int)] else []
theorem chs_succ (p : Nat → Bool) (k : Nat) : chs p (k + 1) = if p k = true then chs p k ++ [(k : Int)] else chs p k := by
  rw [chs]
  split <;> simp
theorem chs_len (p : Nat → Bool) : ∀ k, (chs p k).length ≤ k
  | 0 => Nat.le_refl _
  | k + 1 => by have := chs_len p k; rw [chs, List.length_append]; split <;> simp <;> omega
theorem mem_chs (p : Nat → Bool) : ∀ (n : Nat) (x : Int), x ∈ chs p n ↔ ∃ m : Nat, x = (m : Int) ∧ m < n ∧ p m = true
  | 0, x => by simp [chs]
  | n + 1, x => by
    rw [chs, List.mem_append, mem_chs p n x]
    constructor
    · rintro (⟨m, h1, h2, h3⟩ | h)
      · exact ⟨m, h1, by omega, h3⟩
      · by_cases hp : p n = true
        · rw [if_pos hp, List.mem_singleton] at h; exact ⟨n, h, by omega, hp⟩
        · rw [if_neg hp] at h; simp at h
    · rintro ⟨m, h1, h2, h3⟩
      by_cases e : m = n
      · subst e; right; rw [if_pos h3, List.mem_singleton]; exact h1
      · exact .inl ⟨m, h1, by omega, h3⟩
end Gr
theorem own_below {w w' : World} {B e size n : Nat} {v : Value} {xs : List Value} (h : w.ownsRow B e size v n xs) (hb : Below w.heap.size w w') : w'.ownsRow B e size v n xs :=
  own_same h fun g hg => by
    obtain ⟨c, fz, h5⟩ := Lib.ownsRow_kind h g hg
    exact hb.block g (blk_lt h5)
/-- A list of numbers of the call's own. -/
def GotIn (w : World) (l : List Int) : Ending → World → Prop := fun e w' => ∃ v, e = .returned v ∧ w'.ownsRow w.heap.size 3 1 v l.length (Gr.insV l) ∧ Below w.heap.size w w'
/-- The labels in a closure's variable. -/
structure LbAt (w : World) (lb gl n : Nat) (L : Nat → Int) : Prop where
  lv : w.heap[lb]? = some (.cells #[.slice (some ⟨gl, 0, none⟩) n n] 29 (0, 0))
  row : w.rowIs gl 3 n (fun i => .int .i64 (L i))
theorem LbAt.next {w w' : World} {lb gl n : Nat} {L : Nat → Int} (h : LbAt w lb gl n L) (hb : Below w.heap.size w w') : LbAt w' lb gl n L := ⟨(hb.block _ (blk_lt h.lv)).trans h.lv, h.row.of_block (hb.block _ h.row.lt)⟩
set_option maxHeartbeats 2000000 in
set_option maxRecDepth 100000 in
theorem led_any (m lb gl n : Nat) (L : Nat → Int) (w : World) (hm : m < n) (h : LbAt w lb gl n L) : Calls Try.prog 55 #[.int .i64 m, .pointer (some ⟨lb, 0, none⟩)] w fun e w' => e = .returned (.bool (decide (0 ≤ L m))) ∧ Below w.heap.size w w' := by
  have y1 : (m : Int) < (n : Int) := by omega
  have e1 : w.cell? ⟨lb, 0, none⟩ = some (.slice (some ⟨gl, 0, none⟩) n n) := by rw [cell_of_row _ _ _ _ _ _ h.lv]; rfl
  have e3 : w.cell? ⟨gl, m, none⟩ = some (.int .i64 (L m)) := h.row.cell hm
  clear h
  generalize L m = x at *
  generalize hd : decide (0 ≤ x) = d at *
  go_enter Try.func55, Try.ntmps55
  go_wp2_with fail
  go_ret
  exact ⟨by first | rfl | rw [hd], Below.refl _ _⟩
set_option maxHeartbeats 8000000 in
set_option maxRecDepth 100000 in
theorem chooseLed_any (g : Gph) (A B : Option Addr) (c d : Nat) (lb gl : Nat) (L : Nat → Int) (w : World) (hn : g.ns.length ≤ 1024) (hL : LbAt w lb gl g.ns.length L) :
    Calls Try.prog 43 #[grV A B c d g, .func (.func 55) #[] #[.pointer (some ⟨lb, 0, none⟩)]] w (GotIn w (Gr.chs (fun m => decide (0 ≤ L m)) g.ns.length)) := by
  obtain ⟨i0, hi0, hz0, hz1, hz2⟩ := info_parts infoIn
  have HLb := Lib.hid hL
  clear hL
  have hb0 : Below w.heap.size w (w.alloc (grO A B c d g)) := (Below.refl _ _).alloc (Nat.le_refl _) _
  have hG := heap_alloc_new w (grO A B c d g)
  obtain ⟨W, hW⟩ : ∃ W, W = w.alloc (grO A B c d g) := ⟨_, rfl⟩
  rw [← hW] at hb0 hG
  obtain ⟨q0, q1⟩ := gb_cells hG
  go_enter Try.func43, Try.ntmps43
  go_upto_region 2 with (fail)
  rw [← hW]
  clear hW
  go_wp2_with fail
  clear q0 q1 hG
  go_loopw [5, 10] (fun s5 s10 wr => ∃ k : Nat, s10 = .int .i64 k ∧ k ≤ g.ns.length ∧ wr.ownsRow w.heap.size 3 1 s5 (Gr.chs (fun m => decide (0 ≤ L m)) k).length (Gr.insV (Gr.chs (fun m => decide (0 ≤ L m)) k)) ∧ Below w.heap.size w wr) (fun _ s10 _ => g.ns.length - (intOf s10).toNat)
  case atStart => exact ⟨0, rfl, by omega, World.ownsRow_nil _ _ _ _, hb0⟩
  case round =>
    clear hb0
    obtain ⟨k, rfl, hk, hown, hb⟩ := hrel
    have hcl := Gr.chs_len (fun m => decide (0 ≤ L m)) k
    by_cases hlt : k < g.ns.length
    · have b1 : decide ((k : Int) < (g.ns.length : Int)) = true := decide_eq_true (by omega)
      have b1n : decide (k < g.ns.length) = true := decide_eq_true hlt
      have cc := led_any k lb gl g.ns.length L wr hlt (HLb.out.next hb)
      have HT := Lib.hid (Gr.chs_succ (fun m => decide (0 ≤ L m)) k)
      generalize hv : (decide (0 ≤ L k) : Bool) = v at *
      generalize Gr.chs (fun m => decide (0 ≤ L m)) k = T at *
      cases v with
      | false =>
        have HT' := Lib.hid (show Gr.chs (fun m => decide (0 ≤ L m)) (k + 1) = T from HT.out)
        clear HT hv
        go_wp2_with fail
        with_reducible refine cc.mono ?_
        clear cc
        rintro e w4 ⟨rfl, hb4⟩
        have HO := Lib.hid (own_below hown hb4)
        have HB := Lib.hid (hb.trans (hb4.mono hb.size))
        clear hown hb hb4
        go_wp2_with fail
        go_roundw
        case rel => exact ⟨k + 1, by go_num, by omega, by rw [HT'.out]; exact HO.out, HB.out⟩
        case measure => simp [intOf]; omega
      | true =>
        have HT' := Lib.hid (show Gr.chs (fun m => decide (0 ≤ L m)) (k + 1) = T ++ [(k : Int)] from HT.out)
        clear HT hv
        go_wp2_with fail
        with_reducible refine cc.mono ?_
        clear cc
        rintro e w4 ⟨rfl, hb4⟩
        have hown4 := own_below hown hb4
        have hb04 := hb.trans (hb4.mono hb.size)
        clear hown hb hb4
        have hsz := hb04.size
        go_wp2_with (at_builtin; refine wpList_append_own_wide _ (by rfl) _ _ 29 (by rfl) w.heap.size 3 i0 _ 1 8 Try.underlying29 hi0 hz0 hz1 hz2 rfl (by omega) _ T.length _ (by rfl) (hown4.alloc _) ⟨w4.heap.size, 0, none⟩ 1 1 [_] (by rfl) (by rfl) (World.news_of_block (cs := #[_]) (t := 3) (fr := (0, 0)) (heap_alloc_new w4 _)) (by simp [Value.oneCell']) (by unfold maxLen; omega) (by omega) (by simp; omega) ?_; intro v6 w6 hown6 hgrow6 _)
        have HO := Lib.hid hown6
        have HB := Lib.hid (below_grown (hb04.alloc hsz _) (by simp; omega) (hown4.alloc _) hgrow6)
        clear hown6 hgrow6 hown4 hb04
        go_wp2_with fail
        go_roundw
        case rel => exact ⟨k + 1, by go_num, by omega, by rw [HT'.out, List.length_append, List.length_singleton, Gr.insV_app, Gr.insV_one]; exact HO.out, HB.out⟩
        case measure => simp [intOf]; omega
    · have b1 : decide ((k : Int) < (g.ns.length : Int)) = false := decide_eq_false (by omega)
      have b1n : decide (k < g.ns.length) = false := decide_eq_false hlt
      have hkn : k = g.ns.length := by omega
      have HO := Lib.hid hown
      have HB := Lib.hid hb
      have HK := Lib.hid hkn
      clear hown hb hkn
      go_wp2_with fail
      go_ret
      exact ⟨_, rfl, by rw [← HK.out]; exact HO.out, HB.out⟩
end Go.Proofs.Ytdiaejdoglccoaa
