/- isSpan, follows and extend. No condition but the lengths. -/
import Derived.Test.YtlablbibdkcifaaGreatDoorCmp
import Derived.Deep.AppendLies
import Derived.BigQuiet
import Derived.Deep.QuietTactic
import Derived.Deep.RegionWith
import Derived.WalkSmall
namespace Go.Proofs.YtlablbibdkcifaaGreatDoor
open Go.RowKit Go.Deep Tr

theorem strL (l : List UInt8) : (str l).toList = l := by rw [ByteArray.toList_eq]; rfl
theorem isSpan_any (a b : Int) (w : World) : Calls Tryz.prog 48 #[.int .i64 a, .int .i64 b] w fun e w' => e = .returned (.bool (Ls.isSp a b)) ∧ w = w' := by
  have HV := Lib.hid (show Ls.isSp a b = (decide (0 ≤ a) && (decide (a < b) && decide (b ≤ 1024))) from rfl)
  generalize Ls.isSp a b = v at *
  rcases Bool.eq_false_or_eq_true (decide ((0 : Int) ≤ a)) with c0 | c0 <;> rcases Bool.eq_false_or_eq_true (decide (a < b)) with c1 | c1 <;> rcases Bool.eq_false_or_eq_true (decide (b ≤ (1024 : Int))) with c2 | c2
  all_goals
    have HT := HV.out
    rw [c0, c1, c2] at HT
    have HX := Lib.hid HT
    clear HT HV
    go_enter Tryz.func48, Tryz.ntmps48
    go_wp2_with fail
    go_ret
    exact ⟨by rw [HX.out]; rfl, rfl⟩
def spA (s : Ls.Sp) : Value := .agg #[.string (str s.path), .int .i64 s.lo, .int .i64 s.hi]
theorem spA_def (s : Ls.Sp) : spA s = .agg #[.string (str s.path), .int .i64 s.lo, .int .i64 s.hi] := rfl
theorem follows_any (s b : Ls.Sp) (w : World) : Calls Tryz.prog 44 #[spA s, spA b] w fun e w' => e = .returned (.bool (Ls.fol s b)) ∧ Below w.heap.size w w' := by
  rw [spA_def, spA_def]
  have HV := Lib.hid (show Ls.fol s b = if s.path = b.path then decide (b.hi < s.lo) else Op.bytesLess b.path s.path from rfl)
  generalize Ls.fol s b = v at *
  have hb0 : Below w.heap.size w ((w.alloc (.cells #[.string (str s.path), .int .i64 s.lo, .int .i64 s.hi] 32)).alloc (.cells #[.string (str b.path), .int .i64 b.lo, .int .i64 b.hi] 32)) := ((Below.refl _ _).alloc (Nat.le_refl _) _).alloc (by simp) _
  by_cases hp : s.path = b.path
  · have e1 : ((str s.path).toList == (str b.path).toList) = true := by rw [hp]; simp
    have HT := Lib.hid (HV.out.trans (if_pos hp))
    clear HV hp
    generalize hd : decide (b.hi < s.lo) = d at *
    go_enter Tryz.func44, Tryz.ntmps44
    go_wp2_with fail
    go_ret
    exact ⟨by rw [HT.out]; first | rfl | rw [hd], hb0⟩
  · have e1 : ((str s.path).toList == (str b.path).toList) = false := by rw [beq_eq_false_iff_ne, strL, strL]; exact hp
    have HT := Lib.hid (HV.out.trans (if_neg hp))
    have hd : Op.bytesLess (str b.path).toList (str s.path).toList = Op.bytesLess b.path s.path := by rw [strL, strL]
    clear HV hp
    generalize Op.bytesLess b.path s.path = d at *
    go_enter Tryz.func44, Tryz.ntmps44
    go_wp2_with fail
    go_ret
    exact ⟨by rw [HT.out]; first | rfl | rw [hd], hb0⟩
namespace Ls
theorem ext_same {l : List Sp} {s : Sp} (h : s.lo = s.hi) : ext l s = l := if_pos h
theorem ext_nil {s : Sp} (h : ¬ s.lo = s.hi) : ext [] s = [s] := if_neg h
theorem ext_last {l : List Sp} {t s : Sp} (h : ¬ s.lo = s.hi) : ext (l ++ [t]) s = if t.path = s.path ∧ t.hi = s.lo then l ++ [⟨t.path, t.lo, s.hi⟩] else (l ++ [t]) ++ [s] := by
  unfold ext
  rw [if_neg h, List.getLast?_concat, List.dropLast_concat]
end Ls
theorem own_below {w w' : World} {B e size n : Nat} {v : Value} {xs : List Value} (h : w.ownsRow B e size v n xs) (hb : Below w.heap.size w w') : w'.ownsRow B e size v n xs := by
  rcases h with ⟨h1, ⟨rfl, h2⟩ | ⟨g, cap, cur, rfl, h2, h3, h4⟩⟩
  · exact ⟨h1, .inl ⟨rfl, h2⟩⟩
  · exact ⟨h1, .inr ⟨g, cap, cur, rfl, h2, (hb.block g (blk_lt h3)).trans h3, h4⟩⟩
theorem below_drewN' {w : World} (n : Nat) : Below w.heap.size w (w.drewN n) := below_drewN (Below.refl _ _) n
theorem below_grown {B e size n : Nat} {w W w6 : World} {v : Value} {xs : List Value} (hb : Below B w W) (hB : B ≤ W.heap.size) (ho : W.ownsRow B e size v n xs) (hg : W.grownBy w6 v.ownBlock) : Below B w w6 :=
  hb.trans ⟨hg.os, hg.tape, hg.output, hg.size, fun k hk => hg.block k (by omega) (fun e => by have := (ho.lt k e.symm).1; omega)⟩
/-- A list of spans of the call's own. -/
def GotSp (w : World) (B : Nat) (l : List Ls.Sp) : Ending → World → Prop := fun e w' => ∃ v, e = .returned v ∧ w'.ownsRow B 32 3 v l.length (Ls.spsV l) ∧ Below B w w'
set_option maxHeartbeats 8000000 in
set_option maxRecDepth 100000 in
theorem extend_any (out : List Ls.Sp) (s : Ls.Sp) (v : Value) (B : Nat) (w : World) (hown : w.ownsRow B 32 3 v out.length (Ls.spsV out)) (hB : B ≤ w.heap.size) (hl : out.length ≤ 1000000) :
    Calls Tryz.prog 72 #[v, spA s] w (GotSp w B (Ls.ext out s)) := by
  rw [spA_def]
  obtain ⟨isp, hisp, hz0, hz1, hz2⟩ := info_parts infoSp
  have hb0 : Below B w (w.alloc (.cells #[.string (str s.path), .int .i64 s.lo, .int .i64 s.hi] 32)) := (Below.refl _ _).alloc hB _
  have hN0 := heap_alloc_new w (.cells #[.string (str s.path), .int .i64 s.lo, .int .i64 s.hi] 32)
  have hoW := hown.alloc (.cells #[.string (str s.path), .int .i64 s.lo, .int .i64 s.hi] 32)
  have hBW := hb0.size
  obtain ⟨A, c, rfl, hca, hcm, _⟩ := Ls.own_el Ls.spV 3 Ls.spV_len hown
  clear hown
  go_enter Tryz.func72, Tryz.ntmps72
  go_upto_region 2 with (fail)
  generalize w.alloc (.cells #[.string (str s.path), .int .i64 s.lo, .int .i64 s.hi] 32) = W at *
  generalize w.heap.size = q at *
  have hq : q < W.heap.size := blk_lt hN0
  have e0 : W.cell? ⟨q, 0, none⟩ = some (.string (str s.path)) := by rw [cell_of_row _ _ _ _ _ _ hN0]; rfl
  have e1 : W.cell? ⟨q, 1, none⟩ = some (.int .i64 s.lo) := by rw [cell_of_row _ _ _ _ _ _ hN0]; rfl
  have e2 : W.cell? ⟨q, 2, none⟩ = some (.int .i64 s.hi) := by rw [cell_of_row _ _ _ _ _ _ hN0]; rfl
  by_cases hs : s.lo = s.hi
  · have b1 : (s.lo == s.hi) = true := by rw [beq_iff_eq]; exact hs
    have HE := Lib.hid (Ls.ext_same (l := out) hs)
    have HO := Lib.hid hoW
    have HB := Lib.hid hb0
    clear hs hoW hb0 hN0
    go_wp2_with fail
    go_ret
    exact ⟨_, rfl, by rw [HE.out]; exact HO.out, HB.out⟩
  · have b1 : (s.lo == s.hi) = false := by rw [beq_eq_false_iff_ne]; exact hs
    rcases List.eq_nil_or_concat out with h0 | ⟨l, t, h0⟩
    · subst h0
      have HE := Lib.hid (Ls.ext_nil hs)
      clear hs
      rw [List.length_nil] at hoW hca ⊢
      go_upto_region 4 with (fail)
      clear b1
      go_quiet (fail)
      have hbq : Below B w (W.drewN nq) := below_drewN hb0 nq
      have hoq : (W.drewN nq).ownsRow B 32 3 (.slice A 0 c) 0 (Ls.spsV []) := own_below hoW (below_drewN (Below.refl _ W) nq)
      have hNq : (W.drewN nq).heap[q]? = some (.cells #[.string (str s.path), .int .i64 s.lo, .int .i64 s.hi] 32 (0, 0)) := hN0
      clear e0 e1 e2 hN0 hoW hb0
      generalize W.drewN nq = X at *
      have hqX := blk_lt hNq
      have e0 : X.cell? ⟨q, 0, none⟩ = some (.string (str s.path)) := by rw [cell_of_row _ _ _ _ _ _ hNq]; rfl
      have e1 : X.cell? ⟨q, 1, none⟩ = some (.int .i64 s.lo) := by rw [cell_of_row _ _ _ _ _ _ hNq]; rfl
      have e2 : X.cell? ⟨q, 2, none⟩ = some (.int .i64 s.hi) := by rw [cell_of_row _ _ _ _ _ _ hNq]; rfl
      go_wp2_with (at_builtin; refine wpList_append_lies _ (by rfl) _ _ 23 (by rfl) B 32 isp _ 3 32 Tryz.underlying23 hisp hz0 hz1 hz2 rfl (by omega) (.slice A 0 c) (0) _ (by rfl) (hoq.alloc _) ⟨X.heap.size, 0, none⟩ 1 1 [_, _, _] (by rfl) (by rfl) (World.news_of_block (cs := #[_, _, _]) (t := 32) (fr := (0, 0)) (heap_alloc_new X _)) (by simp [Value.oneCell']) (by omega) (by unfold maxLen; omega) (by omega) (by simp; omega) (X.heap.size + 1) (by simp) ?_; intro gg cap w6 hown6 hgrow hat hlt6)
      have hbX := below_grown (hbq.alloc (by omega) _) (by simp; omega) (hoq.alloc _) hgrow
      have HO := Lib.hid hown6
      have HX := Lib.hid hbX
      clear hown6 hbX hgrow hat hlt6 e0 e1 e2
      go_wp2_with fail
      go_ret
      exact ⟨_, rfl, by rw [HE.out]; exact HO.out, HX.out⟩
    · rw [List.concat_eq_append] at h0
      subst h0
      have hlen : (l ++ [t]).length = l.length + 1 := by simp
      rw [hlen] at hoW hca hl ⊢
      have hls := Ls.own_last Ls.spV 3 Ls.spV_len hoW
      obtain ⟨g, cap0, he, hgW, hce, hfz⟩ := hls
      injection he with he _ hec
      subst he hec
      have t0 : W.cell? ⟨g, l.length * 3, none⟩ = some (.string (str t.path)) := hce 0 _ rfl
      have t2 : W.cell? ⟨g, l.length * 3 + 2, none⟩ = some (.int .i64 t.hi) := hce 2 _ rfl
      have hsub : (((l.length + 1 : Nat) : Int) - 1) = (l.length : Int) := by omega
      have HXE := Lib.hid (Ls.ext_last (l := l) (t := t) hs)
      clear hlen hce hs
      go_upto_region 4 with (fail)
      clear b1
      first | rw [hsub] | skip
      have d0 : decide ((0 : Int) ≤ (l.length : Int)) = true := decide_eq_true (by omega)
      by_cases hm : t.path = s.path ∧ t.hi = s.lo
      · have HE := Lib.hid (HXE.out.trans (if_pos hm))
        have p1 : ((str t.path).toList == (str s.path).toList) = true := by rw [hm.1]; simp
        have p2 : (t.hi == s.lo) = true := by rw [beq_iff_eq]; exact hm.2
        clear hm HXE
        go_quiet (fail)
        have hbq : Below B w (W.drewN nq) := below_drewN hb0 nq
        have hoq : (W.drewN nq).ownsRow B 32 3 (.slice (some ⟨g, 0, none⟩) (l.length + 1) c) (l.length + 1) (Ls.spsV (l ++ [t])) := own_below hoW (below_drewN (Below.refl _ W) nq)
        have hNq : (W.drewN nq).heap[q]? = some (.cells #[.string (str s.path), .int .i64 s.lo, .int .i64 s.hi] 32 (0, 0)) := hN0
        clear e0 e1 e2 hN0 hoW hb0 t0 t2 hfz hgW p1 p2
        generalize W.drewN nq = X at *
        have e2 : X.cell? ⟨q, 2, none⟩ = some (.int .i64 s.hi) := by rw [cell_of_row _ _ _ _ _ _ hNq]; rfl
        obtain ⟨g', c', he, hgX, hce, hfz⟩ := Ls.own_last Ls.spV 3 Ls.spV_len hoq
        injection he with he _ hec
        injection he with he
        injection he with he
        subst he hec
        have t2 : X.cell? ⟨g, l.length * 3 + 2, none⟩ = some (.int .i64 t.hi) := hce 2 _ rfl
        have f2 := hfz (l.length * 3 + 2)
        obtain ⟨z1, z2⟩ := Ls.own_set Ls.spV 3 Ls.spV_len (x := t) (y := ⟨t.path, t.lo, s.hi⟩) hoq 2 (.int .i64 s.hi) rfl
        have HO := Lib.hid z1
        have HX := Lib.hid (hbq.trans z2)
        clear z1 z2 hce hfz
        go_wp2_with fail
        go_ret
        exact ⟨_, rfl, by rw [HE.out, List.length_append, List.length_singleton]; exact HO.out, HX.out⟩
      · have HE := Lib.hid (HXE.out.trans (if_neg hm))
        have hdis : ((str t.path).toList == (str s.path).toList) = false ∨ (((str t.path).toList == (str s.path).toList) = true ∧ (t.hi == s.lo) = false) := by
          by_cases h1 : t.path = s.path
          · exact .inr ⟨by rw [h1]; simp, by rw [beq_eq_false_iff_ne]; exact fun h2 => hm ⟨h1, h2⟩⟩
          · exact .inl (by rw [beq_eq_false_iff_ne, strL, strL]; exact h1)
        clear hm HXE
        rcases hdis with p1 | ⟨p1, p2⟩
        all_goals
          go_quiet (fail)
          have hbq : Below B w (W.drewN nq) := below_drewN hb0 nq
          have hoq : (W.drewN nq).ownsRow B 32 3 (.slice (some ⟨g, 0, none⟩) (l.length + 1) c) (l.length + 1) (Ls.spsV (l ++ [t])) := own_below hoW (below_drewN (Below.refl _ W) nq)
          have hNq : (W.drewN nq).heap[q]? = some (.cells #[.string (str s.path), .int .i64 s.lo, .int .i64 s.hi] 32 (0, 0)) := hN0
          clear e0 e1 e2 hN0 hoW hb0 t0 t2 hfz
          clear p1
          generalize W.drewN nq = X at *
          have hqX := blk_lt hNq
          have e0 : X.cell? ⟨q, 0, none⟩ = some (.string (str s.path)) := by rw [cell_of_row _ _ _ _ _ _ hNq]; rfl
          have e1 : X.cell? ⟨q, 1, none⟩ = some (.int .i64 s.lo) := by rw [cell_of_row _ _ _ _ _ _ hNq]; rfl
          have e2 : X.cell? ⟨q, 2, none⟩ = some (.int .i64 s.hi) := by rw [cell_of_row _ _ _ _ _ _ hNq]; rfl
          go_wp2_with (at_builtin; refine wpList_append_lies _ (by rfl) _ _ 23 (by rfl) B 32 isp _ 3 32 Tryz.underlying23 hisp hz0 hz1 hz2 rfl (by omega) (.slice (some ⟨g, 0, none⟩) (l.length + 1) c) (l.length + 1) _ (by rfl) (hoq.alloc _) ⟨X.heap.size, 0, none⟩ 1 1 [_, _, _] (by rfl) (by rfl) (World.news_of_block (cs := #[_, _, _]) (t := 32) (fr := (0, 0)) (heap_alloc_new X _)) (by simp [Value.oneCell']) (by omega) (by unfold maxLen; omega) (by omega) (by simp; omega) (X.heap.size + 1) (by simp) ?_; intro gg cap w6 hown6 hgrow hat hlt6)
          have hbX := below_grown (hbq.alloc (by omega) _) (by simp; omega) (hoq.alloc _) hgrow
          have HO := Lib.hid hown6
          have HX := Lib.hid hbX
          clear hown6 hbX hgrow hat hlt6 e0 e1 e2
          go_wp2_with fail
          go_ret
          exact ⟨_, rfl, by rw [HE.out, Ls.spsV_app (l ++ [t]) [s], Ls.spsV_one, List.length_append, List.length_append, List.length_singleton, List.length_singleton]; exact HO.out, HX.out⟩
end Go.Proofs.YtlablbibdkcifaaGreatDoor
