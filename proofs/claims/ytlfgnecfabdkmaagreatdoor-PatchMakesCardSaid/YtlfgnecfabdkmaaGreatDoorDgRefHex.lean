/- The reference Hex returns what Hex returns. No condition. -/
import Derived.Test.YtlfgnecfabdkmaaGreatDoorDgTrip
import Derived.Deep.RegionHeld3
import Derived.Deep.AppendLies
namespace Go.Proofs.YtlfgnecfabdkmaaGreatDoor.Dg
open Go.RowKit

theorem info8 : (Tryz.prog.info? 5).map (fun i => (i.zero, i.size, i.bytes)) = some (some (.int .u8 0), 1, 1) := by kernel_rfl
theorem below_owned {a w' : World} {v : Value} {B n size : Nat} {e : TypeId} {xs : List Value} (h : a.ownsRow B e size v n xs) (hg : a.grownBy w' v.ownBlock) (hs : B ≤ a.heap.size) : Below B a w' :=
  ⟨hg.os, hg.tape, hg.output, hg.size, fun k hk => hg.block k (by omega) (by
    rcases h.2 with ⟨rfl, _⟩ | ⟨g, cap, cur, rfl, hb, _⟩
    · simp [Value.ownBlock]
    · simp [Value.ownBlock]; omega)⟩
theorem own_str {P : Program} {w : World} {base n : Nat} {v : Value} {src e dst : TypeId} {l : List Int} (h : w.ownsRow base e 1 v n (l.map (Value.int .u8)))
    (hs : P.underlying src = some (.slice e)) (he : P.underlying e = some (.int .u8)) (hd : P.underlying dst = some .string) : (convert src dst v).run P w = .ok (.string (strOfNums l)) w := by
  obtain ⟨hl, ⟨rfl, rfl⟩ | ⟨g, cap, cur, rfl, hb, hg, hnc, hcm, hcs, htake⟩⟩ := h
  · have : l = [] := by simpa using hl
    subst this
    exact run_convert_bytes_nil w src e hs he 0 0 dst hd
  · have hln : l.length = n := by simpa using hl
    refine run_convert_bytes_arg w src e hs he g 0 n cap l hln (fun i hi => ?_) dst hd
    rw [cell_of_row _ _ _ _ _ _ hg, Nat.zero_add]
    have h1 := congrArg (fun x => x[i]?) htake
    simp only [Nat.mul_one, List.getElem?_take, if_pos hi, List.getElem?_map] at h1
    rw [← Array.getElem?_toList, h1, List.getElem?_eq_getElem (by omega), List.getD_eq_getElem?_getD, List.getElem?_eq_getElem (by omega)]
    rfl
/-- What a reference has appended by now. -/
def Apd (w w' : World) (v : Value) (l : List Int) : Prop := w'.ownsRow w.heap.size 5 1 v l.length (l.map (Value.int .u8)) ∧ Below w.heap.size w w'

theorem hd_eq2 (i : Nat) (x : Int) (e : x.toNat = i) (h : i < 16) (h' : x.toNat < (⟨#[48, 49, 50, 51, 52, 53, 54, 55, 56, 57, 97, 98, 99, 100, 101, 102]⟩ : ByteArray).size) : (((⟨#[48, 49, 50, 51, 52, 53, 54, 55, 56, 57, 97, 98, 99, 100, 101, 102]⟩ : ByteArray)[x.toNat]'h').toNat : Int) = hdI i := by
  subst e; exact hd_eq _ h h'
theorem hex_step (s : ByteArray) (k : Nat) (hks : k < s.size) {w w1 : World} {v : Value} (h : w1.ownsRow w.heap.size 5 1 v (2 * k + 2) (List.map (Value.int .u8) (List.map (hexAt s.data.toList) (List.range (2 * k))) ++ [.int .u8 (hdI (s[k].toNat / 16)), .int .u8 (hdI (s[k].toNat % 16))]))
    (hB : Below w.heap.size w w1) : Apd w w1 v ((List.range (2 * (k + 1))).map (hexAt s.data.toList)) := by
  refine ⟨?_, hB⟩
  rw [List.length_map, List.length_range, show 2 * (k + 1) = 2 * k + 1 + 1 by omega, List.range_succ, List.range_succ]
  simp only [List.map_append, List.map_cons, List.map_nil, List.append_assoc, List.cons_append, List.nil_append]
  rw [hexAt_even _ _ (by omega), hexAt_odd _ _ (by omega), show 2 * k / 2 = k by omega, show (2 * k + 1) / 2 = k by omega, get_D s k hks]
  simpa using h

set_option maxHeartbeats 4000000 in
set_option maxRecDepth 100000 in
theorem refHex_bad (s : ByteArray) (hs : s.size ≠ 32) (w : World) :
    Calls Tryz.prog 65 #[.string s] w fun e w' => e = .returned (.tuple #[.string ⟨#[]⟩, .int .i64 1]) ∧ w = w' := by
  have h : ((s.size : Int) != 32) = true := by rw [bne_iff_ne]; omega
  go_enter Tryz.func65, Tryz.ntmps65
  go_wp2_with fail
  go_ret2
  exact ⟨rfl, rfl⟩

set_option maxHeartbeats 4000000 in
set_option maxRecDepth 100000 in
theorem refHex_good (s : ByteArray) (hs : s.size = 32) (w : World) :
    Calls Tryz.prog 65 #[.string s] w fun e w' => e = .returned (.tuple #[.string (hexS s), .int .i64 0]) ∧ Below w.heap.size w w' := by
  have h : ((s.size : Int) != 32) = false := by rw [bne_eq_false_iff_eq]; omega
  have hs1 : s.size ≤ 32 := by omega
  have hs2 : 32 ≤ s.size := by omega
  clear hs
  obtain ⟨i0, hi0, hz0, hz1, hz2⟩ := info_parts info8
  go_enter Tryz.func65, Tryz.ntmps65
  go_wp2_with fail
  go_loopw [5, 6] (fun v u wr => ∃ k : Nat, k ≤ 32 ∧ u = .int .i64 k ∧ Apd w wr v ((List.range (2 * k)).map (hexAt s.data.toList))) (fun _ u _ => 32 - (intOf u).toNat)
  case atStart => exact ⟨0, by omega, rfl, World.ownsRow_nil _ _ _ _, Below.refl _ _⟩
  case round =>
    obtain ⟨k, hk, rfl, hown, hB⟩ := hrel
    by_cases hlt : k < 32
    · have hks : k < s.size := by omega
      have hb : (s[k].toNat : Int) < 256 := by have := s[k].toNat_lt; omega
      have e15 : bits .and .u8 (s[k].toNat : Int) 15 = (s[k].toNat : Int) % 16 := u8_and15 _ (by omega) hb
      have x1 := hd_eq (s[k].toNat / 16) (by omega)
      have x2 := hd_eq (s[k].toNat % 16) (by omega)
      have hl : ((List.range (2 * k)).map (hexAt s.data.toList)).length = 2 * k := by simp
      have hown2 := hown
      rw [hl] at hown2
      clear hl
      have hsz := hB.size
      go_wp2_with fail
      go_region_held3 (fun _ => True) (trivial)
        ((refine step_append_lies _ (by rfl) _ _ _ (by rfl) w.heap.size 5 i0 _ 1 1 Tryz.underlying89 hi0 hz0 hz1 hz2 rfl (by omega) u5 (2 * k) _ (by rfl) ((hown2.alloc _).drew) ⟨wr.heap.size, 0, none⟩ 2 2 [_, _] (by rfl) (by rfl) (World.news_of_block (cs := #[_, _]) (t := 5) (fr := (0, 0)) (heap_alloc_new wr _)) (by simp [Value.oneCell']) (by omega) (by unfold maxLen; omega) (by omega) (by simp; omega) (wr.heap.size + 1) (by simp) ?_; intro gg cap w1 hown1 hgrow hat hlt))
      all_goals
        have hB1 := ((hB.alloc hB.size _).drew).trans (below_owned ((hown2.alloc _).drew) hgrow (by simp; omega))
        rw [hd_eq2 (s[k].toNat / 16) ((s[k].toNat : Int) / 16) (by omega) (by omega), hd_eq2 (s[k].toNat % 16) ((s[k].toNat : Int) % 16) (by omega) (by omega)] at hown1
        have hA := hex_step s k hks hown1 hB1
        clear hown1 hB1 hgrow hat hlt hown2 hown hB x1 x2 e15 hb
        go_wp2_with fail
        go_roundw
        case rel => exact ⟨k + 1, by omega, by go_num, hA⟩
        case measure => simp [intOf]; omega
    · obtain rfl : k = 32 := by omega
      have hcv := own_str hown Tryz.underlying89 Tryz.underlying5 Tryz.underlying9
      rw [show strOfNums ((List.range (2 * 32)).map (hexAt s.data.toList)) = hexS s from rfl] at hcv
      go_wp2_with fail
      go_ret2
      exact ⟨rfl, hB⟩
end Go.Proofs.YtlfgnecfabdkmaaGreatDoor.Dg
