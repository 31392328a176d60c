/- The lines of a patched text: change of the program. No condition but the lengths. -/
import Derived.Test.YtmmdldicafbjdaaGreatDoorOwn
import Derived.Test.YtmmdldicafbjdaaGreatDoorKp2
namespace Go.Proofs.YtmmdldicafbjdaaGreatDoor
open Go.RowKit Go.Deep Tr

theorem cells_take {w : World} {B : Nat} {A : Option Addr} {ls : List (List UInt8)} (h : CellsAt w B A (strs ls)) (m : Nat) : CellsAt w B A (strs (ls.take m)) := fun i hi => by
  have hi' : i < (ls.take m).length := by rw [← strs_len]; exact hi
  have hl : i < ls.length := by rw [List.length_take] at hi'; omega
  obtain ⟨g, o, e, hg, hc⟩ := h i (by rw [strs_len]; exact hl)
  refine ⟨g, o, e, hg, ?_⟩
  rw [hc, strs_get ls i hl, strs_get (ls.take m) i hi', List.getElem_take]
theorem cells_drop {w : World} {B : Nat} {g o : Nat} {ls : List (List UInt8)} (h : CellsAt w B (some ⟨g, o, none⟩) (strs ls)) (m : Nat) : CellsAt w B (some ⟨g, o + m, none⟩) (strs (ls.drop m)) := fun i hi => by
  have hi' : i < (ls.drop m).length := by rw [← strs_len]; exact hi
  have hl : m + i < ls.length := by rw [List.length_drop] at hi'; omega
  obtain ⟨g', o', e, hg, hc⟩ := h (m + i) (by rw [strs_len]; exact hl)
  injection e with e
  injection e with e1 e2 _
  subst e1 e2
  refine ⟨g, o + m, rfl, hg, ?_⟩
  rw [Nat.add_assoc, hc, strs_get ls _ hl, strs_get (ls.drop m) i hi', List.getElem_drop]
theorem change_nil (l : List (List UInt8)) : Pc.change [] l = [] := rfl
theorem change_keep (n : Int) (x : List (List UInt8)) (t : List Pc.Hk) (l : List (List UInt8)) : Pc.change (⟨1, n, x⟩ :: t) l = l.take n.toNat ++ Pc.change t (l.drop n.toNat) := by rw [Pc.change, if_pos rfl]
theorem change_drop (n : Int) (x : List (List UInt8)) (t : List Pc.Hk) (l : List (List UInt8)) : Pc.change (⟨2, n, x⟩ :: t) l = Pc.change t (l.drop n.toNat) := by rw [Pc.change, if_neg (by simp), if_pos rfl]
theorem change_add (n : Int) (x : List (List UInt8)) (t : List Pc.Hk) (l : List (List UInt8)) : Pc.change (⟨3, n, x⟩ :: t) l = x ++ Pc.change t l := by rw [Pc.change, if_neg (by simp), if_neg (by simp), if_pos rfl]
theorem cnt_cons (k : Int) (h : Pc.Hk) (t : List Pc.Hk) : Pc.cnt k (h :: t) = (if h.kind = k then h.n else 0) + Pc.cnt k t := rfl
set_option maxHeartbeats 8000000 in
set_option maxRecDepth 100000 in
theorem change_any (A : Option Addr) (c : Nat) (hs : List Pc.Hk) (A2 : Option Addr) (c2 : Nat) (ls : List (List UInt8)) (w : World) (hA : HsAt w w.heap.size A hs) (hl : hs.length ≤ 2048) (hH : ∀ h ∈ hs, Pc.isHunk h = true)
    (hL : CellsAt w w.heap.size A2 (strs ls)) (hn : Pc.cnt 1 hs + Pc.cnt 2 hs = ls.length) (hll : ls.length ≤ 1024) (hc2 : ls.length ≤ c2) (hc2m : c2 ≤ maxLen) :
    Calls Tryz.prog 39 #[.slice A hs.length c, .slice A2 ls.length c2] w fun e w' => ∃ v, e = .returned v ∧ w'.ownsRow w.heap.size 9 1 v (Pc.change hs ls).length (strs (Pc.change hs ls)) ∧ Below w.heap.size w w' := by
  obtain ⟨i0, hi0, hz0, hz1, hz2⟩ := info_parts infoS
  have HR := Lib.hid (show Pc.change hs ls = [] ++ Pc.change (hs.drop 0) ls from rfl)
  have HN := Lib.hid (show Pc.cnt 1 (hs.drop 0) + Pc.cnt 2 (hs.drop 0) = ls.length from hn)
  have HHK := Lib.hid hH
  have HNN := Lib.hid (fun k => Pc.cnt_nonneg 1 (hs.drop k) fun x hx => (Pc.isHunk_num (hH x (List.mem_of_mem_drop hx))).1.1)
  have HNM := Lib.hid (fun k => Pc.cnt_nonneg 2 (hs.drop k) fun x hx => (Pc.isHunk_num (hH x (List.mem_of_mem_drop hx))).1.1)
  clear hn hH
  generalize Pc.change hs ls = R at *
  go_enter Tryz.func39, Tryz.ntmps39
  go_wp2_with fail
  go_loopw [1, 5, 10] (fun s1 s5 i wr => ∃ (k : Nat) (rest os : List (List UInt8)) (A' : Option Addr) (c' : Nat), k ≤ hs.length ∧ i = .int .i64 k ∧ s1 = .slice A' rest.length c' ∧ CellsAt w w.heap.size A' (strs rest) ∧ rest.length ≤ c' ∧ c' ≤ maxLen ∧ rest.length ≤ 1024 ∧ wr.ownsRow w.heap.size 9 1 s5 os.length (strs os) ∧ R = os ++ Pc.change (hs.drop k) rest ∧ Pc.cnt 1 (hs.drop k) + Pc.cnt 2 (hs.drop k) = rest.length ∧ os.length ≤ 1024 * k ∧ Below w.heap.size w wr) (fun _ _ i _ => hs.length - (intOf i).toNat)
  case atStart => exact ⟨0, ls, [], A2, c2, by omega, rfl, rfl, hL, hc2, hc2m, hll, World.ownsRow_nil _ _ _ _, HR.out, HN.out, by simp, Below.refl _ _⟩
  case round =>
    clear HR HN hL hc2 hc2m hll
    obtain ⟨k, rest, os, A', c', hk, rfl, rfl, hL, hc', hcm, hrl, hown, hR, hN, hol, hb⟩ := hrel
    have HR := Lib.hid hR
    have HN := Lib.hid hN
    clear hR hN
    by_cases hlt : k < hs.length
    · have b1 : decide ((k : Int) < hs.length) = true := by simp; omega
      have b1n : decide (k < hs.length) = true := by simp; omega
      obtain ⟨g, o, Ak, ck, rfl, hg, h0, h1, h2, hck, h4, h5⟩ := hA k hlt
      have hd0 := (hb.cell (p := ⟨g, o + k * 3, none⟩) hg).trans h0
      have hd1 := (hb.cell (p := ⟨g, o + k * 3 + 1, none⟩) hg).trans h1
      have hd2 := (hb.cell (p := ⟨g, o + k * 3 + 2, none⟩) hg).trans h2
      have HX := Lib.hid (HR.out.trans (by rw [list_drop hs k hlt]))
      have HY := Lib.hid (show Pc.cnt 1 (hs[k] :: hs.drop (k + 1)) + Pc.cnt 2 (hs[k] :: hs.drop (k + 1)) = rest.length by rw [← list_drop hs k hlt]; exact HN.out)
      have hnn := HNN.out (k + 1)
      have hnm := HNM.out (k + 1)
      obtain ⟨⟨n1, n2⟩, hkd, hln⟩ := Pc.isHunk_num (HHK.out hs[k] (List.getElem_mem hlt))
      clear h0 h1 h2 HR HN
      generalize hs[k] = h at *
      obtain ⟨kd, n, xs⟩ := h
      dsimp only at *
      obtain ⟨m, rfl⟩ : ∃ m : Nat, n = m := ⟨n.toNat, by omega⟩
      have hxl : xs.length ≤ 1024 := by omega
      rcases hkd with rfl | rfl | rfl
      · have hy := HY.out
        rw [cnt_cons, cnt_cons, if_pos rfl, if_neg (by simp)] at hy
        dsimp only at hy
        have hmr : m ≤ rest.length := by omega
        have hm1 : 1 ≤ m := by omega
        have hmc : m ≤ c' := by omega
        have HT := Lib.hid (show R = (os ++ rest.take m) ++ Pc.change (hs.drop (k + 1)) (rest.drop m) by rw [HX.out, change_keep, List.append_assoc]; rfl)
        have HN2 := Lib.hid (show Pc.cnt 1 (hs.drop (k + 1)) + Pc.cnt 2 (hs.drop (k + 1)) = (rest.drop m).length by rw [List.length_drop]; omega)
        obtain ⟨g', o', hAe, hg', hcell⟩ := cells_row (cells_take hL m) (by rw [strs_len, List.length_take]; omega)
        subst hAe
        have htl : (rest.take m).length = m := by rw [List.length_take]; omega
        have hbw : Below w.heap.size w (wr.alloc (.cells #[.int .i64 1, .int .i64 m, .slice Ak xs.length ck] 47)) := hb.alloc hb.size _
        have hown1 := hown.alloc (.cells #[.int .i64 1, .int .i64 m, .slice Ak xs.length ck] 47)
        clear HX HY hy hnn hnm n1 n2 hln hown hb
        have hrow := hown1.lt
        have hcw := fun j u h => (hbw.cell (p := ⟨g', o' + j, none⟩) hg').trans (hcell j u h)
        go_upto_region 8 with (at_builtin; refine wpList_append_lies _ (by rfl) _ _ 45 (by rfl) w.heap.size 9 i0 _ 1 16 Tryz.underlying45 hi0 hz0 hz1 hz2 rfl (by omega) u5 os.length _ (by rfl) hown1 ⟨g', o', none⟩ m c' (strs (rest.take m)) (by rfl) (by rw [strs_len, htl, Nat.mul_one]) (fun j u hj => by rw [addr_addS]; exact hcw j u hj) (strs_one _) (by omega) (by unfold maxLen; omega) (by omega) hbw.size _ rfl ?_; intro gg cap w3 hown3 hgrow hat hlt3)
        have hblk := heap_alloc_new wr (.cells #[.int .i64 1, .int .i64 m, .slice Ak xs.length ck] 47)
        have hblk3 := blk_grown0 hblk hgrow (own_far hown1 hblk (by decide))
        have e1 : w3.cell? ⟨wr.heap.size, 1, none⟩ = some (.int .i64 m) := by rw [cell_of_row _ _ _ _ _ _ hblk3]; rfl
        have hb3 : Below w.heap.size w w3 := grown_own0 hbw hgrow (fun q hq => (hrow q hq).1)
        have hown4 : w3.ownsRow w.heap.size 9 1 (.slice (some ⟨gg, 0, none⟩) (os.length + m) cap) (os ++ rest.take m).length (strs (os ++ rest.take m)) := by rw [strs_app, List.length_append, htl]; exact hown3
        have hll : (os ++ rest.take m).length ≤ 1024 * (k + 1) := by rw [List.length_append, htl]; omega
        clear hown3 hgrow hat hlt3 hown1 hrow hcw hblk hblk3 hbw hcell
        by_cases hcap : c' = m
        · subst hcap
          go_wp2_with fail
          go_roundw
          case rel => exact ⟨k + 1, rest.drop c', os ++ rest.take c', some ⟨g', o', none⟩, c' - c', by omega, by go_num, by first | rfl | (simp; done) | (simp; omega), fun i hi => by rw [strs_len, List.length_drop] at hi; omega, by rw [List.length_drop]; omega, by unfold maxLen; omega, by rw [List.length_drop]; omega, hown4, HT.out, HN2.out, hll, hb3⟩
          case measure => simp [intOf]; omega
        · go_wp2_with fail
          go_roundw
          case rel => exact ⟨k + 1, rest.drop m, os ++ rest.take m, some ⟨g', o' + m, none⟩, c' - m, by omega, by go_num, by first | rfl | (simp; done) | (simp; omega), cells_drop hL m, by rw [List.length_drop]; omega, by unfold maxLen at *; omega, by rw [List.length_drop]; omega, hown4, HT.out, HN2.out, hll, hb3⟩
          case measure => simp [intOf]; omega
      · have hy := HY.out
        rw [cnt_cons, cnt_cons, if_neg (by simp), if_pos rfl] at hy
        dsimp only at hy
        have hmr : m ≤ rest.length := by omega
        have hm1 : 1 ≤ m := by omega
        have hmc : m ≤ c' := by omega
        have HT := Lib.hid (show R = os ++ Pc.change (hs.drop (k + 1)) (rest.drop m) by rw [HX.out, change_drop]; rfl)
        have HN2 := Lib.hid (show Pc.cnt 1 (hs.drop (k + 1)) + Pc.cnt 2 (hs.drop (k + 1)) = (rest.drop m).length by rw [List.length_drop]; omega)
        obtain ⟨g', o', hAe, hg', hxx⟩ := hL 0 (by rw [strs_len]; omega)
        clear hxx
        subst hAe
        have hbw : Below w.heap.size w (wr.alloc (.cells #[.int .i64 2, .int .i64 m, .slice Ak xs.length ck] 47)) := hb.alloc hb.size _
        have hown1 := hown.alloc (.cells #[.int .i64 2, .int .i64 m, .slice Ak xs.length ck] 47)
        clear HX HY hy hnn hnm n1 n2 hln hown hb
        by_cases hcap : c' = m
        · subst hcap
          go_wp2_with fail
          go_roundw
          case rel => exact ⟨k + 1, rest.drop c', os, some ⟨g', o', none⟩, c' - c', by omega, by go_num, by first | rfl | (simp; done) | (simp; omega), fun i hi => by rw [strs_len, List.length_drop] at hi; omega, by rw [List.length_drop]; omega, by unfold maxLen; omega, by rw [List.length_drop]; omega, hown1, HT.out, HN2.out, by omega, hbw⟩
          case measure => simp [intOf]; omega
        · go_wp2_with fail
          go_roundw
          case rel => exact ⟨k + 1, rest.drop m, os, some ⟨g', o' + m, none⟩, c' - m, by omega, by go_num, by first | rfl | (simp; done) | (simp; omega), cells_drop hL m, by rw [List.length_drop]; omega, by unfold maxLen at *; omega, by rw [List.length_drop]; omega, hown1, HT.out, HN2.out, by omega, hbw⟩
          case measure => simp [intOf]; omega
      · have hy := HY.out
        rw [cnt_cons, cnt_cons, if_neg (by simp), if_neg (by simp)] at hy
        have HT := Lib.hid (show R = (os ++ xs) ++ Pc.change (hs.drop (k + 1)) rest by rw [HX.out, change_add, List.append_assoc])
        have HN2 := Lib.hid (show Pc.cnt 1 (hs.drop (k + 1)) + Pc.cnt 2 (hs.drop (k + 1)) = rest.length by omega)
        have hbw : Below w.heap.size w (wr.alloc (.cells #[.int .i64 3, .int .i64 m, .slice Ak xs.length ck] 47)) := hb.alloc hb.size _
        have hown1 := hown.alloc (.cells #[.int .i64 3, .int .i64 m, .slice Ak xs.length ck] 47)
        have hrow := hown1.lt
        obtain ⟨v3, w3, hrun, hown3, hgrow⟩ := app_strs 45 _ w.heap.size u5 os xs hown1 Ak ck (hck.next hbw) hbw.size (by omega)
        have hb3 : Below w.heap.size w w3 := grown_own0 hbw hgrow (fun q hq => (hrow q hq).1)
        have hll : (os ++ xs).length ≤ 1024 * (k + 1) := by rw [List.length_append]; omega
        clear HX HY hy hnn hnm n1 n2 hln hown hb hgrow hrow
        go_wp2_with (at_builtin; refine Lib.wpList_append_run _ rfl _ _ _ _ rfl _ _ rfl rfl _ _ hrun ?_)
        go_roundw
        case rel => exact ⟨k + 1, rest, os ++ xs, A', c', by omega, by go_num, rfl, hL, hc', hcm, hrl, hown3, HT.out, HN2.out, hll, hb3⟩
        case measure => simp [intOf]; omega
    · have b1 : decide ((k : Int) < hs.length) = false := by simp; omega
      have b1n : decide (k < hs.length) = false := by simp; omega
      have HT := Lib.hid (show R = os by rw [HR.out, List.drop_of_length_le (by omega), change_nil, List.append_nil])
      clear HR HN
      go_wp2_with fail
      go_ret
      rw [HT.out]
      exact ⟨_, rfl, hown, hb⟩
end Go.Proofs.YtmmdldicafbjdaaGreatDoor
