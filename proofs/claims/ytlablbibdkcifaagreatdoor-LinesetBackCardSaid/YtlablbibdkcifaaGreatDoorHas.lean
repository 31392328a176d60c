/- Has and Count of the program. Condition: bytealg's MaxLen lies in its variable. -/
import Derived.Test.YtlablbibdkcifaaGreatDoorVld
namespace Go.Proofs.YtlablbibdkcifaaGreatDoor
open Go.RowKit Go.Deep Tr

namespace Ls
theorem hasV_def (l : List Sp) (p : LN) (m : Int) : hasV l p m = (vld l && has l p m) := rfl
theorem countV_def (l : List Sp) : countV l = if vld l = true then count l else 0 := rfl
theorem has_at (l : List Sp) (p : LN) (m : Int) (k : Nat) (h : k < l.length) : has (l.drop k) p m = (inSp p m l[k] || has (l.drop (k + 1)) p m) := by
  rw [List.drop_eq_getElem_cons h, has_cons]
theorem count_take (l : List Sp) (k : Nat) (h : k < l.length) : count (l.take (k + 1)) = count (l.take k) + (l[k].hi - l[k].lo) := by
  unfold count
  rw [List.take_succ_eq_append_getElem h, List.map_append, List.sum_append]
  simp
theorem count_bound (l : List Sp) (h : ∀ s ∈ l, 0 ≤ s.hi - s.lo ∧ s.hi - s.lo ≤ 1024) : 0 ≤ count l ∧ count l ≤ 1024 * l.length := by
  induction l with
  | nil => simp [count]
  | cons s t ih =>
    have h1 := h s (by simp)
    have h2 := ih fun x hx => h x (List.mem_cons_of_mem _ hx)
    unfold count at h2 ⊢
    rw [List.map_cons, List.sum_cons, List.length_cons]
    omega
end Ls
set_option maxHeartbeats 8000000 in
set_option maxRecDepth 100000 in
theorem has_any (l : List Ls.Sp) (x : List UInt8) (m : Int) (A : Option Addr) (c : Nat) (w : World) (hA : Ls.SpAt w w.heap.size A l) (hl : l.length ≤ 1000000) (hp : ∀ s ∈ l, s.path.length ≤ 1000000) (hM : MaxAt w) :
    Calls Tryz.prog 26 #[.slice A l.length c, .agg #[.string (str x), .int .i64 m]] w fun e w' => e = .returned (.bool (Ls.hasV l x m)) ∧ Below w.heap.size w w' := by
  have HV := Lib.hid (Ls.hasV_def l x m)
  generalize Ls.hasV l x m = V at *
  have hb0 : Below w.heap.size w (w.alloc (.cells #[.string (str x), .int .i64 m] 44)) := (Below.refl _ _).alloc (Nat.le_refl _) _
  have hN0 := heap_alloc_new w (.cells #[.string (str x), .int .i64 m] 44)
  have hva := valid_any l A c _ (hA.next hb0) hl hp (hM.below hb0)
  have HAA := Lib.hid hA
  clear hA hp hM
  go_enter Tryz.func26, Tryz.ntmps26
  go_wp2_with fail
  with_reducible refine hva.mono ?_
  clear hva
  rintro e w1 ⟨rfl, hb1⟩
  have hb01 := hb0.trans (hb1.mono hb0.size)
  have hN1 := (hb1.block _ (blk_lt hN0)).trans hN0
  clear hb0 hN0 hb1
  cases hv : Ls.vld l with
  | false =>
    have HT := Lib.hid (show V = false by rw [HV.out, hv]; rfl)
    clear hv
    go_wp2_with fail
    first | go_ret2 | go_ret
    exact ⟨by rw [HT.out]; rfl, hb01⟩
  | true =>
    have HT := Lib.hid (show V = Ls.has (l.drop 0) x m by rw [HV.out, hv]; rfl)
    clear hv HV
    have hq1 := blk_lt hN1
    have HN1 := Lib.hid hN1
    clear hN1
    go_wp2_with fail
    go_loopw [12] (fun s12 wr => ∃ k : Nat, s12 = .int .i64 k ∧ k ≤ l.length ∧ V = Ls.has (l.drop k) x m ∧ Below w1.heap.size w1 wr) (fun s12 _ => l.length - (intOf s12).toNat)
    case atStart => exact ⟨0, rfl, by omega, HT.out, Below.refl _ _⟩
    case round =>
      clear HT
      obtain ⟨k, rfl, hk, hR, hb⟩ := hrel
      by_cases hlt : k < l.length
      · have b1 : decide ((k : Int) < (l.length : Int)) = true := decide_eq_true (by omega)
        have b1n : decide (k < l.length) = true := decide_eq_true hlt
        obtain ⟨g, o, rfl, hg, hc⟩ := HAA.out k hlt
        rw [Ls.has_at l x m k hlt] at hR
        have HR := Lib.hid hR
        have hbw := hb01.trans (hb.mono hb01.size)
        have hd0 := (hbw.cell (p := ⟨g, o + k * 3, none⟩) hg).trans (hc 0 _ rfl)
        have hd1 := (hbw.cell (p := ⟨g, o + k * 3 + 1, none⟩) hg).trans (hc 1 _ rfl)
        have hd2 := (hbw.cell (p := ⟨g, o + k * 3 + 2, none⟩) hg).trans (hc 2 _ rfl)
        clear hc hR
        generalize l[k] = s at *
        have hN := heap_alloc_new wr (.cells #[.string (str s.path), .int .i64 s.lo, .int .i64 s.hi] 32)
        have hbX : Below w1.heap.size w1 (wr.alloc (.cells #[.string (str s.path), .int .i64 s.lo, .int .i64 s.hi] 32)) := hb.alloc hb.size _
        go_upto_region 6 with (fail)
        clear hd0 hd1 hd2 hb hbw
        generalize wr.alloc (.cells #[.string (str s.path), .int .i64 s.lo, .int .i64 s.hi] 32) = X at *
        generalize wr.heap.size = q at *
        have hNx := (hbX.block _ hq1).trans HN1.out
        have e0 : X.cell? ⟨q, 0, none⟩ = some (.string (str s.path)) := by rw [cell_of_row _ _ _ _ _ _ hN]; rfl
        have e1 : X.cell? ⟨q, 1, none⟩ = some (.int .i64 s.lo) := by rw [cell_of_row _ _ _ _ _ _ hN]; rfl
        have e2 : X.cell? ⟨q, 2, none⟩ = some (.int .i64 s.hi) := by rw [cell_of_row _ _ _ _ _ _ hN]; rfl
        have f0 : X.cell? ⟨w.heap.size, 0, none⟩ = some (.string (str x)) := by rw [cell_of_row _ _ _ _ _ _ hNx]; rfl
        have f1 : X.cell? ⟨w.heap.size, 1, none⟩ = some (.int .i64 m) := by rw [cell_of_row _ _ _ _ _ _ hNx]; rfl
        have HBW := Lib.hid (hb01.trans (hbX.mono hb01.size))
        have HBX := Lib.hid hbX
        clear hN hNx hbX
        have hcs : (Ls.inSp x m s = true ∧ ((str s.path).toList == (str x).toList) = true ∧ decide (s.lo ≤ m) = true ∧ decide (m < s.hi) = true) ∨ (Ls.inSp x m s = false ∧ (((str s.path).toList == (str x).toList) = false ∨ (((str s.path).toList == (str x).toList) = true ∧ decide (s.lo ≤ m) = false) ∨ (((str s.path).toList == (str x).toList) = true ∧ decide (s.lo ≤ m) = true ∧ decide (m < s.hi) = false))) := by
          have e : ((str s.path).toList == (str x).toList) = decide (s.path = x) := by
            rw [strL, strL]
            by_cases h : s.path = x
            · rw [h, decide_eq_true rfl]; simp
            · rw [decide_eq_false h, beq_eq_false_iff_ne]; exact h
          rw [e]
          unfold Ls.inSp
          cases decide (s.path = x) <;> cases decide (s.lo ≤ m) <;> cases decide (m < s.hi) <;> simp
        rcases hcs with ⟨hin, p1, p2, p3⟩ | ⟨hin, hcs⟩
        · have HT := Lib.hid (show V = true by rw [HR.out, hin]; rfl)
          clear hin HR
          go_wp2_with fail
          first | go_ret3 | go_ret2 | go_ret
          exact ⟨by rw [HT.out]; rfl, HBW.out⟩
        · have HT := Lib.hid (show V = Ls.has (l.drop (k + 1)) x m by rw [HR.out, hin]; rfl)
          clear hin HR
          rcases hcs with p1 | ⟨p1, p2⟩ | ⟨p1, p2, p3⟩
          all_goals
            go_wp2_with fail
            go_roundw
            case rel => exact ⟨k + 1, by go_num, by omega, HT.out, HBX.out⟩
            case measure => simp [intOf]; omega
      · have b1 : decide ((k : Int) < (l.length : Int)) = false := decide_eq_false (by omega)
        have b1n : decide (k < l.length) = false := decide_eq_false hlt
        have HT := Lib.hid (show V = false by rw [hR, List.drop_eq_nil_of_le (by omega)]; rfl)
        have HB := Lib.hid (hb01.trans (hb.mono hb01.size))
        clear hR hb
        go_wp2_with fail
        go_ret
        exact ⟨by rw [HT.out]; rfl, HB.out⟩
set_option maxHeartbeats 8000000 in
set_option maxRecDepth 100000 in
theorem count_any (l : List Ls.Sp) (A : Option Addr) (c : Nat) (w : World) (hA : Ls.SpAt w w.heap.size A l) (hl : l.length ≤ 1000000) (hp : ∀ s ∈ l, s.path.length ≤ 1000000) (hM : MaxAt w) :
    Calls Tryz.prog 22 #[.slice A l.length c] w fun e w' => e = .returned (.int .i64 (Ls.countV l)) ∧ Below w.heap.size w w' := by
  have HV := Lib.hid (Ls.countV_def l)
  generalize Ls.countV l = V at *
  have hva := valid_any l A c w hA hl hp hM
  have HAA := Lib.hid hA
  clear hA hp hM
  go_enter Tryz.func22, Tryz.ntmps22
  go_wp2_with fail
  with_reducible refine hva.mono ?_
  clear hva
  rintro e w1 ⟨rfl, hb01⟩
  cases hv : Ls.vld l with
  | false =>
    have HT := Lib.hid (show V = 0 by rw [HV.out, hv]; rfl)
    clear hv
    go_wp2_with fail
    first | go_ret2 | go_ret
    exact ⟨by rw [HT.out]; rfl, hb01⟩
  | true =>
    have HT := Lib.hid (show V = Ls.count l by rw [HV.out, hv]; rfl)
    have HVL := Lib.hid (show ∀ s ∈ l, 0 ≤ s.lo ∧ s.lo < s.hi ∧ s.hi ≤ 1024 from fun s hs => by
      have h := (Ls.vld_iff l).1 hv
      have h1 := h.each s hs
      have h2 := h.apart.ne s hs
      omega)
    clear hv HV
    go_wp2_with fail
    go_loopw [3, 11] (fun s3 s11 wr => ∃ k : Nat, s11 = .int .i64 k ∧ k ≤ l.length ∧ s3 = .int .i64 (Ls.count (l.take k)) ∧ Below w.heap.size w wr) (fun _ s11 _ => l.length - (intOf s11).toNat)
    case atStart => exact ⟨0, rfl, by omega, rfl, hb01⟩
    case round =>
      obtain ⟨k, rfl, hk, rfl, hb⟩ := hrel
      by_cases hlt : k < l.length
      · have b1 : decide ((k : Int) < (l.length : Int)) = true := decide_eq_true (by omega)
        have b1n : decide (k < l.length) = true := decide_eq_true hlt
        obtain ⟨g, o, rfl, hg, hc⟩ := HAA.out k hlt
        have HC := Lib.hid (Ls.count_take l k hlt)
        have hbd := Ls.count_bound (l.take k) fun s hs => by have := HVL.out s (List.mem_of_mem_take hs); omega
        rw [List.length_take] at hbd
        have hse := HVL.out l[k] (List.getElem_mem hlt)
        have hd0 := (hb.cell (p := ⟨g, o + k * 3, none⟩) hg).trans (hc 0 _ rfl)
        have hd1 := (hb.cell (p := ⟨g, o + k * 3 + 1, none⟩) hg).trans (hc 1 _ rfl)
        have hd2 := (hb.cell (p := ⟨g, o + k * 3 + 2, none⟩) hg).trans (hc 2 _ rfl)
        clear hc
        generalize l[k] = s at *
        generalize Ls.count (l.take k) = n at *
        have hn1 : n ≤ 1024000000 := by omega
        have hn0 := hbd.1
        clear hbd
        have hN := heap_alloc_new wr (.cells #[.string (str s.path), .int .i64 s.lo, .int .i64 s.hi] 32)
        have hbX : Below w.heap.size w (wr.alloc (.cells #[.string (str s.path), .int .i64 s.lo, .int .i64 s.hi] 32)) := hb.alloc hb.size _
        go_upto_region 7 with (fail)
        clear hd0 hd1 hd2 hb
        generalize wr.alloc (.cells #[.string (str s.path), .int .i64 s.lo, .int .i64 s.hi] 32) = X at *
        generalize wr.heap.size = q at *
        have e1 : X.cell? ⟨q, 1, none⟩ = some (.int .i64 s.lo) := by rw [cell_of_row _ _ _ _ _ _ hN]; rfl
        have e2 : X.cell? ⟨q, 2, none⟩ = some (.int .i64 s.hi) := by rw [cell_of_row _ _ _ _ _ _ hN]; rfl
        obtain ⟨h1, h2, h3⟩ := hse
        have w1' : IntKind.i64.wrap (s.hi - s.lo) = s.hi - s.lo := IntWalk.i64_in _ (by omega)
        have w2' : IntKind.i64.wrap (n + (s.hi - s.lo)) = n + (s.hi - s.lo) := IntWalk.i64_in _ (by omega)
        go_wp2_with fail
        go_roundw
        case rel => exact ⟨k + 1, by go_num, by omega, by rw [HC.out], hbX⟩
        case measure => simp [intOf]; omega
      · have b1 : decide ((k : Int) < (l.length : Int)) = false := decide_eq_false (by omega)
        have b1n : decide (k < l.length) = false := decide_eq_false hlt
        rw [List.take_of_length_le (show l.length ≤ k by omega)]
        go_wp2_with fail
        go_ret
        exact ⟨by rw [HT.out]; rfl, hb⟩
end Go.Proofs.YtlablbibdkcifaaGreatDoor
