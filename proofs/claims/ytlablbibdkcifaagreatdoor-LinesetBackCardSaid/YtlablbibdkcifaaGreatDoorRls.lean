/- List of the reference and of the program; Has and Count of the reference. Condition: bytealg's MaxLen lies in its variable. -/
import Derived.Test.YtlablbibdkcifaaGreatDoorRvd
import Derived.Test.YtlablbibdkcifaaGreatDoorVld
import Derived.Test.YtlablbibdkcifaaGreatDoorPak
import Derived.Lib.OwnKind
namespace Go.Proofs.YtlablbibdkcifaaGreatDoor
open Go.RowKit Go.Deep Tr

namespace Ls
/-- A run of lines of one path. -/
def run (p : LN) (a N : Nat) : List Ln := (List.range N).map fun (i : Nat) => (p, (a : Int) + (i : Int))
theorem run_len (p : LN) (a N : Nat) : (run p a N).length = N := by unfold run; rw [List.length_map, List.length_range]
theorem run_take (p : LN) (a N j : Nat) (h : j < N) : (run p a N).take (j + 1) = (run p a N).take j ++ [(p, (a : Int) + (j : Int))] := by
  rw [List.take_succ_eq_append_getElem (by rw [run_len]; exact h)]
  congr 2
  unfold run
  simp
theorem run_end (p : LN) (a N j : Nat) (h : N ≤ j) : (run p a N).take j = run p a N := List.take_of_length_le (by rw [run_len]; exact h)
theorem lns_take (l : List Sp) (k : Nat) (h : k < l.length) : lns (l.take (k + 1)) = lns (l.take k) ++ ((List.range (l[k].hi - l[k].lo).toNat).map fun (i : Nat) => (l[k].path, l[k].lo + (i : Int))) := by
  unfold lns
  rw [List.take_succ_eq_append_getElem h, List.flatMap_append]
  simp
theorem lns_len (l : List Sp) (h : ∀ s ∈ l, s.hi - s.lo ≤ 1024) : (lns l).length ≤ 1024 * l.length := by
  induction l with
  | nil => simp [lns]
  | cons s t ih =>
    have h1 := h s (by simp)
    have h2 := ih fun x hx => h x (List.mem_cons_of_mem _ hx)
    rw [lns_cons, List.length_append, List.length_map, List.length_range, List.length_cons]
    omega
end Ls
/-- A list of lines of the call's own. -/
def GotLn (w : World) (L : List Ls.Ln) : Ending → World → Prop := fun e w' => ∃ v, e = .returned v ∧ w'.ownsRow w.heap.size 44 2 v L.length (Ls.lnsV L) ∧ Below w.heap.size w w'
theorem own_emptyL (w : World) (B : Nat) (hB : B ≤ w.heap.size) (T : TypeId) (size : Nat) : (w.alloc (.cells #[] T)).ownsRow B T size (.slice (some ⟨w.heap.size, 0, none⟩) 0 0) 0 [] :=
  ⟨by simp, .inr ⟨w.heap.size, 0, #[], rfl, hB, heap_alloc_new w _, Nat.le_refl _, by unfold maxLen; omega, by simp, by simp⟩⟩
theorem grown_keep {w w6 : World} {B e size n q : Nat} {v : Value} {xs : List Value} {cs : Array Value} {T : TypeId} {fr : Nat × Nat} (hown : w.ownsRow B e size v n xs) (hq : w.heap[q]? = some (.cells cs T fr)) (hT : T ≠ e) (hg : w.grownBy w6 v.ownBlock) : w6.heap[q]? = some (.cells cs T fr) := by
  rw [hg.block q (blk_lt hq) (fun hx => by
    obtain ⟨c', fz, hx2⟩ := Lib.ownsRow_kind hown q hx.symm
    rw [hq] at hx2
    simp only [Option.some.injEq, Obj.cells.injEq] at hx2
    exact hT hx2.2.1)]
  exact hq
set_option maxHeartbeats 8000000 in
set_option maxRecDepth 100000 in
theorem qlist_any (l : List Ls.Sp) (A : Option Addr) (c : Nat) (w : World) (hA : Ls.SpAt w w.heap.size A l) (hl : l.length ≤ 1000) (hp : ∀ s ∈ l, s.path.length ≤ 1000000) :
    Calls Tryz.prog 58 #[.slice A l.length c] w (GotLn w (Ls.list l)) := by
  obtain ⟨iln, hiln, hz0, hz1, hz2⟩ := info_parts infoLn
  have ho0 := own_emptyL w w.heap.size (Nat.le_refl _) 44 2
  have hb0 : Below w.heap.size w (w.alloc (.cells #[] 44)) := (Below.refl _ _).alloc (Nat.le_refl _) _
  have hva := qvalid_any l A c _ (hA.next hb0) (by omega) hp
  have HLV := Lib.hid (show Ls.list l = if Ls.vld l = true then Ls.lns l else [] from rfl)
  generalize Ls.list l = V at *
  have HAA := Lib.hid hA
  clear hA hp
  go_enter Tryz.func58, Tryz.ntmps58
  go_wp2_with fail
  with_reducible refine hva.mono ?_
  clear hva
  rintro e w1 ⟨rfl, hb1⟩
  have ho1 := own_below ho0 hb1
  have hb01 := hb0.trans (hb1.mono hb0.size)
  cases hv : Ls.vld l with
  | false =>
    have HT := Lib.hid (show V = [] by rw [HLV.out, hv]; rfl)
    have HO := Lib.hid ho1
    have HB := Lib.hid hb01
    clear hv HLV ho0 ho1 hb0 hb1 hb01
    go_wp2_with fail
    first | go_ret2 | go_ret
    exact ⟨_, rfl, by rw [HT.out]; exact HO.out, HB.out⟩
  | true =>
    have HT := Lib.hid (show V = Ls.lns l by rw [HLV.out, hv]; rfl)
    have HVV := Lib.hid ((Ls.vld_iff l).1 hv)
    have HB1 := Lib.hid hb01
    have HO1 := Lib.hid ho1
    have hq1 : w.heap.size ≤ w1.heap.size := hb01.size
    clear hv HLV ho0 ho1 hb0 hb1 hb01
    go_wp2_with fail
    go_loopw [3, 4] (fun s3 s4 wr => ∃ k : Nat, s4 = .int .i64 k ∧ k ≤ l.length ∧ wr.ownsRow w.heap.size 44 2 s3 (Ls.lns (l.take k)).length (Ls.lnsV (Ls.lns (l.take k))) ∧ Below w.heap.size w wr) (fun _ s4 _ => l.length - (intOf s4).toNat)
    case atStart => exact ⟨0, rfl, by omega, HO1.out, HB1.out⟩
    case round =>
      clear HO1 HB1
      obtain ⟨k, rfl, hk, hown, hb⟩ := hrel
      rename World => wo
      by_cases hlt : k < l.length
      · have b1 : decide ((k : Int) < (l.length : Int)) = true := decide_eq_true (by omega)
        have b1n : decide (k < l.length) = true := decide_eq_true hlt
        have y3 : (k : Int) < (l.length : Int) := by omega
        obtain ⟨g, o, rfl, hg, hc⟩ := HAA.out k hlt
        have hse := HVV.out.each l[k] (List.getElem_mem hlt)
        have hsn := HVV.out.apart.ne l[k] (List.getElem_mem hlt)
        have hnl := Ls.lns_len (l.take k) fun s hs => by have := HVV.out.each s (List.mem_of_mem_take hs); omega
        rw [List.length_take, Nat.min_eq_left hk] at hnl
        have HTK := Lib.hid (Ls.lns_take l k hlt)
        have hc0 := hc 0 _ rfl
        have hc1 := hc 1 _ rfl
        have hc2 := hc 2 _ rfl
        clear hc
        generalize l[k] = s at *
        obtain ⟨p, lo, hi⟩ := s
        dsimp only at hse hsn hc0 hc1 hc2
        obtain ⟨a, rfl⟩ : ∃ a : Nat, lo = (a : Int) := ⟨lo.toNat, by omega⟩
        obtain ⟨b, rfl⟩ : ∃ b : Nat, hi = (b : Int) := ⟨hi.toNat, by omega⟩
        obtain ⟨N, hN⟩ : ∃ N : Nat, b = a + N := ⟨b - a, by omega⟩
        have hb1024 : b ≤ 1024 := by omega
        have HTK2 := Lib.hid (show Ls.lns (l.take (k + 1)) = Ls.lns (l.take k) ++ Ls.run p a N by
          rw [HTK.out]
          show _ ++ ((List.range (((b : Nat) : Int) - (a : Int)).toNat).map fun (i : Nat) => (p, (a : Int) + (i : Int))) = _
          rw [show ((b : Int) - (a : Int)).toNat = N by omega]
          rfl)
        clear HTK hse hsn
        generalize Ls.lns (l.take k) = T at *
        have hTl : T.length ≤ 1024000 := by omega
        have d1 := (hb.cell (p := ⟨g, o + k * 3 + 1, none⟩) hg).trans hc1
        clear hnl
        go_wp2_with fail
        clear d1
        go_loopw [3, 5] (fun s3 s5 wr => ∃ m : Nat, s5 = .int .i64 m ∧ a ≤ m ∧ m ≤ b ∧ wr.ownsRow w.heap.size 44 2 s3 (T ++ (Ls.run p a N).take (m - a)).length (Ls.lnsV (T ++ (Ls.run p a N).take (m - a))) ∧ Below w.heap.size w wr) (fun _ s5 _ => b - (intOf s5).toNat)
        case atStart => exact ⟨a, rfl, Nat.le_refl _, by omega, by rw [Nat.sub_self, List.take_zero, List.append_nil]; exact hown, hb⟩
        case round =>
          clear hown hb
          obtain ⟨m, rfl, ham, hmb, hown, hb⟩ := hrel
          have d0 := (hb.cell (p := ⟨g, o + k * 3, none⟩) hg).trans hc0
          have d2 := (hb.cell (p := ⟨g, o + k * 3 + 2, none⟩) hg).trans hc2
          by_cases hmlt : m < b
          · have t1 : decide ((m : Int) < (b : Int)) = true := decide_eq_true (by omega)
            have t1n : decide (m < b) = true := decide_eq_true hmlt
            have HR := Lib.hid (show T ++ (Ls.run p a N).take (m + 1 - a) = (T ++ (Ls.run p a N).take (m - a)) ++ [(p, (m : Int))] by
              rw [show m + 1 - a = (m - a) + 1 by omega, Ls.run_take p a N (m - a) (by omega), show (a : Int) + ((m - a : Nat) : Int) = (m : Int) by omega, List.append_assoc])
            have hZl : (T ++ (Ls.run p a N).take (m - a)).length ≤ 1026000 := by rw [List.length_append, List.length_take, Ls.run_len]; omega
            generalize T ++ (Ls.run p a N).take (m - a) = Z at *
            have hwX := hb.size
            obtain ⟨A3, c3, rfl, hc3, hm3, _⟩ := Ls.own_el Ls.lnV 2 Ls.lnV_len hown
            have HN := Lib.hid hN
            clear hN
            go_wp2_with (at_builtin; refine wpList_append_lies _ (by rfl) _ _ 40 (by rfl) w.heap.size 44 iln _ 2 24 Tryz.underlying40 hiln hz0 hz1 hz2 rfl (by omega) (.slice A3 Z.length c3) Z.length _ (by rfl) (hown.alloc _) ⟨wr.heap.size, 0, none⟩ 1 1 [_, _] (by rfl) (by rfl) (World.news_of_block (cs := #[_, _]) (t := 44) (fr := (0, 0)) (heap_alloc_new wr _)) (by simp [Value.oneCell']) (by omega) (by unfold maxLen; omega) (by omega) (by simp; omega) (wr.heap.size + 1) (by simp) ?_; intro gg cap w6 hown6 hgrow hat hlt6)
            have hb6 := below_grown (hb.alloc (by omega) _) (by simp; omega) (hown.alloc _) hgrow
            have HO := Lib.hid hown6
            have H6 := Lib.hid hb6
            clear hown6 hb6 hgrow hat hlt6 d0 d2
            go_roundw
            case rel => exact ⟨m + 1, by go_num, by omega, by omega, by rw [HR.out, Ls.lnsV_app, Ls.lnsV_one, List.length_append, List.length_singleton]; exact HO.out, H6.out⟩
            case measure => simp [intOf]; omega
          · have t1 : decide ((m : Int) < (b : Int)) = false := decide_eq_false (by omega)
            have t1n : decide (m < b) = false := decide_eq_false hmlt
            have HE := Lib.hid (show T ++ (Ls.run p a N).take (m - a) = Ls.lns (l.take (k + 1)) by rw [HTK2.out, Ls.run_end p a N _ (by omega)])
            have HO := Lib.hid hown
            have H6 := Lib.hid hb
            clear hown hb hN
            go_wp2_with fail
            go_roundw
            case rel => exact ⟨k + 1, by go_num, by omega, by rw [← HE.out]; exact HO.out, H6.out⟩
            case measure => simp [intOf]; omega
      · have b1 : decide ((k : Int) < (l.length : Int)) = false := decide_eq_false (by omega)
        have b1n : decide (k < l.length) = false := decide_eq_false hlt
        have HO := Lib.hid (show wo.ownsRow w.heap.size 44 2 _ (Ls.lns l).length (Ls.lnsV (Ls.lns l)) by rw [List.take_of_length_le (show l.length ≤ k by omega)] at hown; exact hown)
        have HB := Lib.hid hb
        clear hown hb
        go_wp2_with fail
        first | go_ret2 | go_ret
        exact ⟨_, rfl, by rw [HT.out]; exact HO.out, HB.out⟩
set_option maxHeartbeats 8000000 in
set_option maxRecDepth 100000 in
theorem list_any (l : List Ls.Sp) (A : Option Addr) (c : Nat) (w : World) (hA : Ls.SpAt w w.heap.size A l) (hl : l.length ≤ 1000) (hp : ∀ s ∈ l, s.path.length ≤ 1000000) (hM : MaxAt w) :
    Calls Tryz.prog 23 #[.slice A l.length c] w (GotLn w (Ls.list l)) := by
  obtain ⟨iln, hiln, hz0, hz1, hz2⟩ := info_parts infoLn
  have hva := valid_any l A c w hA (by omega) hp hM
  have HLV := Lib.hid (show Ls.list l = if Ls.vld l = true then Ls.lns l else [] from rfl)
  generalize Ls.list l = V at *
  have HAA := Lib.hid hA
  clear hA hp hM
  go_enter Tryz.func23, Tryz.ntmps23
  go_wp2_with fail
  with_reducible refine hva.mono ?_
  clear hva
  rintro e w1 ⟨rfl, hb01⟩
  cases hv : Ls.vld l with
  | false =>
    have HT := Lib.hid (show V = [] by rw [HLV.out, hv]; rfl)
    have HB := Lib.hid hb01
    clear hv HLV hb01
    go_wp2_with fail
    first | go_ret2 | go_ret
    exact ⟨_, rfl, by rw [HT.out]; exact World.ownsRow_nil _ _ _ _, HB.out⟩
  | true =>
    have HT := Lib.hid (show V = Ls.lns l by rw [HLV.out, hv]; rfl)
    have HVV := Lib.hid ((Ls.vld_iff l).1 hv)
    have HB1 := Lib.hid hb01
    have hq1 : w.heap.size ≤ w1.heap.size := hb01.size
    clear hv HLV hb01
    go_wp2_with fail
    go_loopw [3, 12] (fun s3 s12 wr => ∃ k : Nat, s12 = .int .i64 k ∧ k ≤ l.length ∧ wr.ownsRow w.heap.size 44 2 s3 (Ls.lns (l.take k)).length (Ls.lnsV (Ls.lns (l.take k))) ∧ Below w.heap.size w wr) (fun _ s12 _ => l.length - (intOf s12).toNat)
    case atStart => exact ⟨0, rfl, by omega, World.ownsRow_nil _ _ _ _, HB1.out⟩
    case round =>
      clear HB1
      obtain ⟨k, rfl, hk, hown, hb⟩ := hrel
      rename World => wo
      by_cases hlt : k < l.length
      · have b1 : decide ((k : Int) < (l.length : Int)) = true := decide_eq_true (by omega)
        have b1n : decide (k < l.length) = true := decide_eq_true hlt
        obtain ⟨g, o, rfl, hg, hc⟩ := HAA.out k hlt
        have hse := HVV.out.each l[k] (List.getElem_mem hlt)
        have hsn := HVV.out.apart.ne l[k] (List.getElem_mem hlt)
        have hnl := Ls.lns_len (l.take k) fun s hs => by have := HVV.out.each s (List.mem_of_mem_take hs); omega
        rw [List.length_take, Nat.min_eq_left hk] at hnl
        have HTK := Lib.hid (Ls.lns_take l k hlt)
        have hc0 := hc 0 _ rfl
        have hc1 := hc 1 _ rfl
        have hc2 := hc 2 _ rfl
        clear hc
        generalize l[k] = s at *
        obtain ⟨p, lo, hi⟩ := s
        dsimp only at hse hsn hc0 hc1 hc2
        obtain ⟨a, rfl⟩ : ∃ a : Nat, lo = (a : Int) := ⟨lo.toNat, by omega⟩
        obtain ⟨b, rfl⟩ : ∃ b : Nat, hi = (b : Int) := ⟨hi.toNat, by omega⟩
        obtain ⟨N, hN⟩ : ∃ N : Nat, b = a + N := ⟨b - a, by omega⟩
        have hb1024 : b ≤ 1024 := by omega
        have HTK2 := Lib.hid (show Ls.lns (l.take (k + 1)) = Ls.lns (l.take k) ++ Ls.run p a N by
          rw [HTK.out]
          show _ ++ ((List.range (((b : Nat) : Int) - (a : Int)).toNat).map fun (i : Nat) => (p, (a : Int) + (i : Int))) = _
          rw [show ((b : Int) - (a : Int)).toNat = N by omega]
          rfl)
        have HNb := Lib.hid hN
        have hN1024 : N ≤ 1024 := by omega
        have wN : (b : Int) - (a : Int) = (N : Int) := by omega
        clear HTK hse hsn hN
        generalize Ls.lns (l.take k) = T at *
        have hTl : T.length ≤ 1024000 := by omega
        have d0 := (hb.cell (p := ⟨g, o + k * 3, none⟩) hg).trans hc0
        have d1 := (hb.cell (p := ⟨g, o + k * 3 + 1, none⟩) hg).trans hc1
        have d2 := (hb.cell (p := ⟨g, o + k * 3 + 2, none⟩) hg).trans hc2
        have hNn := heap_alloc_new wo (.cells #[.string (str p), .int .i64 (a : Int), .int .i64 (b : Int)] 32)
        have hbX : Below w.heap.size w (wo.alloc (.cells #[.string (str p), .int .i64 (a : Int), .int .i64 (b : Int)] 32)) := hb.alloc hb.size _
        have hoX := hown.alloc (.cells #[.string (str p), .int .i64 (a : Int), .int .i64 (b : Int)] 32)
        clear hnl
        go_upto_region 7 with (fail)
        clear d0 d1 d2 hb hown
        generalize wo.alloc (.cells #[.string (str p), .int .i64 (a : Int), .int .i64 (b : Int)] 32) = X at *
        generalize wo.heap.size = q at *
        have e1 : X.cell? ⟨q, 1, none⟩ = some (.int .i64 (a : Int)) := by rw [cell_of_row _ _ _ _ _ _ hNn]; rfl
        have e2 : X.cell? ⟨q, 2, none⟩ = some (.int .i64 (b : Int)) := by rw [cell_of_row _ _ _ _ _ _ hNn]; rfl
        go_wp2_with fail
        clear e1 e2
        go_loopw [3, 21] (fun s3 s21 wr => ∃ j : Nat, s21 = .int .i64 j ∧ j ≤ N ∧ wr.ownsRow w.heap.size 44 2 s3 (T ++ (Ls.run p a N).take j).length (Ls.lnsV (T ++ (Ls.run p a N).take j)) ∧ wr.heap[q]? = some (.cells #[.string (str p), .int .i64 (a : Int), .int .i64 (b : Int)] 32 (0, 0)) ∧ Below w.heap.size w wr) (fun _ s21 _ => N - (intOf s21).toNat)
        case atStart => exact ⟨0, rfl, by omega, by rw [List.take_zero, List.append_nil]; exact hoX, hNn, hbX⟩
        case round =>
          clear hoX hbX hNn wN
          obtain ⟨j, rfl, hjN, hown, hNw, hb⟩ := hrel
          by_cases hjlt : j < N
          · have t1 : decide ((j : Int) < (N : Int)) = true := decide_eq_true (by omega)
            have t1n : decide (j < N) = true := decide_eq_true hjlt
            have HR := Lib.hid (show T ++ (Ls.run p a N).take (j + 1) = (T ++ (Ls.run p a N).take j) ++ [(p, (a : Int) + (j : Int))] by
              rw [Ls.run_take p a N j hjlt, List.append_assoc])
            have hZl : (T ++ (Ls.run p a N).take j).length ≤ 1026000 := by rw [List.length_append, List.length_take, Ls.run_len]; have := HNb.out; omega
            generalize T ++ (Ls.run p a N).take j = Z at *
            have hwX := hb.size
            obtain ⟨A3, c3, rfl, hc3, hm3, _⟩ := Ls.own_el Ls.lnV 2 Ls.lnV_len hown
            have f0 : wr.cell? ⟨q, 0, none⟩ = some (.string (str p)) := by rw [cell_of_row _ _ _ _ _ _ hNw]; rfl
            have f1 : wr.cell? ⟨q, 1, none⟩ = some (.int .i64 (a : Int)) := by rw [cell_of_row _ _ _ _ _ _ hNw]; rfl
            have wa : IntKind.i64.wrap ((a : Int) + (j : Int)) = (a : Int) + (j : Int) := IntWalk.i64_in _ (by have := HNb.out; omega)
            have HNW := Lib.hid hNw
            have hqlt := blk_lt hNw
            clear hNw
            go_wp2_with (at_builtin; refine wpList_append_lies _ (by rfl) _ _ 40 (by rfl) w.heap.size 44 iln _ 2 24 Tryz.underlying40 hiln hz0 hz1 hz2 rfl (by omega) (.slice A3 Z.length c3) Z.length _ (by rfl) (hown.alloc _) ⟨wr.heap.size, 0, none⟩ 1 1 [_, _] (by rfl) (by rfl) (World.news_of_block (cs := #[_, _]) (t := 44) (fr := (0, 0)) (heap_alloc_new wr _)) (by simp [Value.oneCell']) (by omega) (by unfold maxLen; omega) (by omega) (by simp; omega) (wr.heap.size + 1) (by simp) ?_; intro gg cap w6 hown6 hgrow hat hlt6)
            have hb6 := below_grown (hb.alloc (by omega) _) (by simp; omega) (hown.alloc _) hgrow
            have HN6 := Lib.hid (grown_keep (hown.alloc _) (by rw [blk_alloc_lt _ _ _ hqlt]; exact HNW.out) (by decide) hgrow)
            have HO := Lib.hid hown6
            have H6 := Lib.hid hb6
            clear hown6 hb6 hgrow hat hlt6 f0 f1
            go_roundw
            case rel => exact ⟨j + 1, by go_num, by omega, by rw [HR.out, Ls.lnsV_app, Ls.lnsV_one, List.length_append, List.length_singleton]; exact HO.out, HN6.out, H6.out⟩
            case measure => simp [intOf]; omega
          · have t1 : decide ((j : Int) < (N : Int)) = false := decide_eq_false (by omega)
            have t1n : decide (j < N) = false := decide_eq_false hjlt
            have HE := Lib.hid (show T ++ (Ls.run p a N).take j = Ls.lns (l.take (k + 1)) by rw [HTK2.out, Ls.run_end p a N _ (by omega)])
            have HO := Lib.hid hown
            have H6 := Lib.hid hb
            clear hown hb hNw
            go_wp2_with fail
            go_roundw
            case rel => exact ⟨k + 1, by go_num, by omega, by rw [← HE.out]; exact HO.out, H6.out⟩
            case measure => simp [intOf]; omega
      · have b1 : decide ((k : Int) < (l.length : Int)) = false := decide_eq_false (by omega)
        have b1n : decide (k < l.length) = false := decide_eq_false hlt
        have HO := Lib.hid (show wo.ownsRow w.heap.size 44 2 _ (Ls.lns l).length (Ls.lnsV (Ls.lns l)) by rw [List.take_of_length_le (show l.length ≤ k by omega)] at hown; exact hown)
        have HB := Lib.hid hb
        clear hown hb
        go_wp2_with fail
        first | go_ret2 | go_ret
        exact ⟨_, rfl, by rw [HT.out]; exact HO.out, HB.out⟩
end Go.Proofs.YtlablbibdkcifaaGreatDoor
