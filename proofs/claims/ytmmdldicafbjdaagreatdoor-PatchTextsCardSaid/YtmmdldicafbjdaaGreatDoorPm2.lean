/- Hex and Parse undo each other. No condition.
The reference Hex returns what Hex returns. No condition.
The reference's Parse returns the digest with a text, or the error. No condition. -/
import Derived.Test.YtmmdldicafbjdaaGreatDoorDgPar
import Derived.Deep.RegionHeld3
import Derived.Deep.AppendLies
import Derived.Deep.QuietTactic
import Derived.BigQuiet
section
namespace Go.Proofs.YtmmdldicafbjdaaGreatDoor.Dg
open Go.RowKit

theorem bytes_ext {a b : ByteArray} (h : a.data.toList = b.data.toList) : a = b := by
  cases a; cases b; exact congrArg ByteArray.mk (Array.toList_inj.1 h)
theorem size_list (s : ByteArray) : s.data.toList.length = s.size := rfl

theorem hv_hd : ∀ n, n < 16 → hv (UInt8.ofNat (hdI n).toNat) = n := by decide +kernel
theorem hd_hv' : ∀ n, n < 256 → 0 ≤ hv (UInt8.ofNat n) → UInt8.ofNat (hdI (hv (UInt8.ofNat n)).toNat).toNat = UInt8.ofNat n := by decide +kernel
theorem hd_hv (c : UInt8) (h : 0 ≤ hv c) : UInt8.ofNat (hdI (hv c).toNat).toNat = c := by
  have h1 := hd_hv' c.toNat c.toNat_lt
  rw [UInt8.ofNat_toNat] at h1
  exact h1 h
theorem hexS_size (s : ByteArray) : (hexS s).size = 64 := by unfold hexS; rw [strOfNums_size]; simp
theorem parS_size (s : ByteArray) : (parS s).size = 32 := by unfold parS; rw [strOfNums_size]; simp
theorem hexS_at (s : ByteArray) (j : Nat) (h : j < 64) : (hexS s).data.toList.getD j 0 = UInt8.ofNat (hexAt s.data.toList j).toNat := by
  unfold hexS; rw [strOfNums_data]; simp [h]
theorem parS_at (s : ByteArray) (j : Nat) (h : j < 32) : (parS s).data.toList.getD j 0 = UInt8.ofNat (parAt s.data.toList j).toNat := by
  unfold parS; rw [strOfNums_data]; simp [h]
theorem hv_hex (s : ByteArray) (j : Nat) (h : j < 64) : hv ((hexS s).data.toList.getD j 0) = if j % 2 = 0 then (((s.data.toList.getD (j / 2) 0).toNat / 16 : Nat) : Int) else (((s.data.toList.getD (j / 2) 0).toNat % 16 : Nat) : Int) := by
  rw [hexS_at s j h]
  have := (s.data.toList.getD (j / 2) 0).toNat_lt
  unfold hexAt
  split
  · exact hv_hd _ (by omega)
  · exact hv_hd _ (by omega)
theorem ext_D {a b : ByteArray} (n : Nat) (ha : a.size = n) (hb : b.size = n) (h : ∀ j, j < n → a.data.toList.getD j 0 = b.data.toList.getD j 0) : a = b := by
  apply bytes_ext
  apply List.ext_getElem
  · rw [size_list, size_list, ha, hb]
  · intro i h1 h2
    have h3 := h i (by rw [size_list] at h1; omega)
    rwa [List.getD_eq_getElem?_getD, List.getD_eq_getElem?_getD, List.getElem?_eq_getElem h1, List.getElem?_eq_getElem h2] at h3
theorem par_hex (s : ByteArray) (hs : s.size = 32) : parV (hexS s) = .tuple #[.string s, .int .i64 0] := by
  unfold parV
  rw [if_pos ⟨hexS_size s, fun j hj => by rw [hv_hex s j hj]; split <;> omega⟩]
  have : parS (hexS s) = s := by
    refine ext_D 32 (parS_size _) hs fun j hj => ?_
    rw [parS_at _ j hj]
    unfold parAt
    rw [hv_hex s (2 * j) (by omega), hv_hex s (2 * j + 1) (by omega), if_pos (by omega), if_neg (by omega)]
    rw [show 2 * j / 2 = j by omega, show (2 * j + 1) / 2 = j by omega]
    generalize s.data.toList.getD j 0 = c
    rw [show (16 * ((c.toNat / 16 : Nat) : Int) + ((c.toNat % 16 : Nat) : Int)).toNat = c.toNat by omega, UInt8.ofNat_toNat]
  rw [this]
theorem hex_par (t : ByteArray) (hs : t.size = 64) (h : AllHex t.data.toList 64) : hexS (parS t) = t := by
  refine ext_D 64 (hexS_size _) hs fun j hj => ?_
  rw [hexS_at _ j hj]
  unfold hexAt
  rw [parS_at _ (j / 2) (by omega)]
  unfold parAt
  have hlo := h j hj
  have h1 := h (2 * (j / 2)) (by omega)
  have h2 := h (2 * (j / 2) + 1) (by omega)
  have l1 := (hv_lt (t.data.toList.getD (2 * (j / 2)) 0)).1
  have l2 := (hv_lt (t.data.toList.getD (2 * (j / 2) + 1) 0)).1
  have e1 : (UInt8.ofNat (16 * hv (t.data.toList.getD (2 * (j / 2)) 0) + hv (t.data.toList.getD (2 * (j / 2) + 1) 0)).toNat).toNat = (16 * hv (t.data.toList.getD (2 * (j / 2)) 0) + hv (t.data.toList.getD (2 * (j / 2) + 1) 0)).toNat := by
    simp only [UInt8.toNat_ofNat']
    omega
  rw [e1]
  by_cases hj2 : j % 2 = 0
  · rw [if_pos hj2]
    have e : 2 * (j / 2) = j := by omega
    rw [e] at h1 l1 ⊢
    rw [show (16 * hv (t.data.toList.getD j 0) + hv (t.data.toList.getD (j + 1) 0)).toNat / 16 = (hv (t.data.toList.getD j 0)).toNat by rw [e] at h2 l2; omega]
    exact hd_hv _ hlo
  · rw [if_neg hj2]
    have e : 2 * (j / 2) + 1 = j := by omega
    rw [show (16 * hv (t.data.toList.getD (2 * (j / 2)) 0) + hv (t.data.toList.getD (2 * (j / 2) + 1) 0)).toNat % 16 = (hv (t.data.toList.getD (2 * (j / 2) + 1) 0)).toNat by omega, e]
    exact hd_hv _ hlo
end Go.Proofs.YtmmdldicafbjdaaGreatDoor.Dg
end
section
namespace Go.Proofs.YtmmdldicafbjdaaGreatDoor.Dg
open Go.RowKit

theorem info8 : (Tryz.prog.info? 5).map (fun i => (i.zero, i.size, i.bytes)) = some (some (.int .u8 0), 1, 1) := by kernel_rfl
theorem below_owned {a w' : World} {v : Value} {B n size : Nat} {e : TypeId} {xs : List Value} (h : a.ownsRow B e size v n xs) (hg : a.grownBy w' v.ownBlock) (hs : B ≤ a.heap.size) : Below B a w' :=
  ⟨hg.os, hg.tape, hg.output, hg.size, fun k hk => hg.block k (by omega) (by
    rcases h.2 with ⟨rfl, _⟩ | ⟨g, cap, cur, rfl, hb, _⟩
    · simp [Value.ownBlock]
    · simp [Value.ownBlock]; omega)⟩
theorem own_str {P : Program} {w : World} {base n : Nat} {v : Value} {src e dst : TypeId} {l : List Int} (h : w.ownsRow base e 1 v n (l.map (Value.int .u8)))
    (hs : P.underlying src = some (.slice e)) (he : P.underlying e = some (.int .u8)) (hd : P.underlying dst = some .string) : (convert src dst v).run P w = .ok (.string (strOfNums l)) w := by
  obtain ⟨hl, ⟨rfl, rfl⟩ | ⟨g, cap, cur, rfl, hb, hg, hnc, hcm, hcs, htake⟩⟩ := h
  · have : l = [] := by simpa using hl
    subst this
    exact run_convert_bytes_nil w src e hs he 0 0 dst hd
  · have hln : l.length = n := by simpa using hl
    refine run_convert_bytes_arg w src e hs he g 0 n cap l hln (fun i hi => ?_) dst hd
    rw [cell_of_row _ _ _ _ _ _ hg, Nat.zero_add]
    have h1 := congrArg (fun x => x[i]?) htake
    simp only [Nat.mul_one, List.getElem?_take, if_pos hi, List.getElem?_map] at h1
    rw [← Array.getElem?_toList, h1, List.getElem?_eq_getElem (by omega), List.getD_eq_getElem?_getD, List.getElem?_eq_getElem (by omega)]
    rfl
/-- What a reference has appended by now. -/
def Apd (w w' : World) (v : Value) (l : List Int) : Prop := w'.ownsRow w.heap.size 5 1 v l.length (l.map (Value.int .u8)) ∧ Below w.heap.size w w'

theorem hd_eq2 (i : Nat) (x : Int) (e : x.toNat = i) (h : i < 16) (h' : x.toNat < (⟨#[48, 49, 50, 51, 52, 53, 54, 55, 56, 57, 97, 98, 99, 100, 101, 102]⟩ : ByteArray).size) : (((⟨#[48, 49, 50, 51, 52, 53, 54, 55, 56, 57, 97, 98, 99, 100, 101, 102]⟩ : ByteArray)[x.toNat]'h').toNat : Int) = hdI i := by
  subst e; exact hd_eq _ h h'
theorem hex_step (s : ByteArray) (k : Nat) (hks : k < s.size) {w w1 : World} {v : Value} (h : w1.ownsRow w.heap.size 5 1 v (2 * k + 2) (List.map (Value.int .u8) (List.map (hexAt s.data.toList) (List.range (2 * k))) ++ [.int .u8 (hdI (s[k].toNat / 16)), .int .u8 (hdI (s[k].toNat % 16))]))
    (hB : Below w.heap.size w w1) : Apd w w1 v ((List.range (2 * (k + 1))).map (hexAt s.data.toList)) := by
  refine ⟨?_, hB⟩
  rw [List.length_map, List.length_range, show 2 * (k + 1) = 2 * k + 1 + 1 by omega, List.range_succ, List.range_succ]
  simp only [List.map_append, List.map_cons, List.map_nil, List.append_assoc, List.cons_append, List.nil_append]
  rw [hexAt_even _ _ (by omega), hexAt_odd _ _ (by omega), show 2 * k / 2 = k by omega, show (2 * k + 1) / 2 = k by omega, get_D s k hks]
  simpa using h

set_option maxHeartbeats 4000000 in
set_option maxRecDepth 100000 in
theorem refHex_bad (s : ByteArray) (hs : s.size ≠ 32) (w : World) :
    Calls Tryz.prog 49 #[.string s] w fun e w' => e = .returned (.tuple #[.string ⟨#[]⟩, .int .i64 1]) ∧ w = w' := by
  have h : ((s.size : Int) != 32) = true := by rw [bne_iff_ne]; omega
  go_enter Tryz.func49, Tryz.ntmps49
  go_wp2_with fail
  go_ret2
  exact ⟨rfl, rfl⟩

set_option maxHeartbeats 4000000 in
set_option maxRecDepth 100000 in
theorem refHex_good (s : ByteArray) (hs : s.size = 32) (w : World) :
    Calls Tryz.prog 49 #[.string s] w fun e w' => e = .returned (.tuple #[.string (hexS s), .int .i64 0]) ∧ Below w.heap.size w w' := by
  have h : ((s.size : Int) != 32) = false := by rw [bne_eq_false_iff_eq]; omega
  have hs1 : s.size ≤ 32 := by omega
  have hs2 : 32 ≤ s.size := by omega
  clear hs
  obtain ⟨i0, hi0, hz0, hz1, hz2⟩ := info_parts info8
  go_enter Tryz.func49, Tryz.ntmps49
  go_wp2_with fail
  go_loopw [5, 6] (fun v u wr => ∃ k : Nat, k ≤ 32 ∧ u = .int .i64 k ∧ Apd w wr v ((List.range (2 * k)).map (hexAt s.data.toList))) (fun _ u _ => 32 - (intOf u).toNat)
  case atStart => exact ⟨0, by omega, rfl, World.ownsRow_nil _ _ _ _, Below.refl _ _⟩
  case round =>
    obtain ⟨k, hk, rfl, hown, hB⟩ := hrel
    by_cases hlt : k < 32
    · have hks : k < s.size := by omega
      have hb : (s[k].toNat : Int) < 256 := by have := s[k].toNat_lt; omega
      have e15 : bits .and .u8 (s[k].toNat : Int) 15 = (s[k].toNat : Int) % 16 := u8_and15 _ (by omega) hb
      have x1 := hd_eq (s[k].toNat / 16) (by omega)
      have x2 := hd_eq (s[k].toNat % 16) (by omega)
      have hl : ((List.range (2 * k)).map (hexAt s.data.toList)).length = 2 * k := by simp
      have hown2 := hown
      rw [hl] at hown2
      clear hl
      have hsz := hB.size
      go_wp2_with fail
      go_region_held3 (fun _ => True) (trivial)
        ((refine step_append_lies _ (by rfl) _ _ _ (by rfl) w.heap.size 5 i0 _ 1 1 Tryz.underlying76 hi0 hz0 hz1 hz2 rfl (by omega) u5 (2 * k) _ (by rfl) ((hown2.alloc _).drew) ⟨wr.heap.size, 0, none⟩ 2 2 [_, _] (by rfl) (by rfl) (World.news_of_block (cs := #[_, _]) (t := 5) (fr := (0, 0)) (heap_alloc_new wr _)) (by simp [Value.oneCell']) (by omega) (by unfold maxLen; omega) (by omega) (by simp; omega) (wr.heap.size + 1) (by simp) ?_; intro gg cap w1 hown1 hgrow hat hlt))
      all_goals
        have hB1 := ((hB.alloc hB.size _).drew).trans (below_owned ((hown2.alloc _).drew) hgrow (by simp; omega))
        rw [hd_eq2 (s[k].toNat / 16) ((s[k].toNat : Int) / 16) (by omega) (by omega), hd_eq2 (s[k].toNat % 16) ((s[k].toNat : Int) % 16) (by omega) (by omega)] at hown1
        have hA := hex_step s k hks hown1 hB1
        clear hown1 hB1 hgrow hat hlt hown2 hown hB x1 x2 e15 hb
        go_wp2_with fail
        go_roundw
        case rel => exact ⟨k + 1, by omega, by go_num, hA⟩
        case measure => simp [intOf]; omega
    · obtain rfl : k = 32 := by omega
      have hcv := own_str hown Tryz.underlying76 Tryz.underlying5 Tryz.underlying9
      rw [show strOfNums ((List.range (2 * 32)).map (hexAt s.data.toList)) = hexS s from rfl] at hcv
      go_wp2_with fail
      go_ret2
      exact ⟨rfl, hB⟩
end Go.Proofs.YtmmdldicafbjdaaGreatDoor.Dg
end
section
namespace Go.Proofs.YtmmdldicafbjdaaGreatDoor.Dg
open Go.RowKit

theorem hv_val : ∀ n, n < 256 → hv (UInt8.ofNat n) = if 48 ≤ n ∧ n ≤ 57 then (n : Int) - 48 else if 97 ≤ n ∧ n ≤ 102 then (n : Int) - 87 else -1 := by decide +kernel
theorem hv_of (c : UInt8) : hv c = if 48 ≤ c.toNat ∧ c.toNat ≤ 57 then (c.toNat : Int) - 48 else if 97 ≤ c.toNat ∧ c.toNat ≤ 102 then (c.toNat : Int) - 87 else -1 := by
  have := hv_val c.toNat c.toNat_lt
  rwa [UInt8.ofNat_toNat] at this
theorem ret_int {k : IntKind} {a b : Int} (h : a = b) : Ending.returned (.int k a) = .returned (.int k b) := by rw [h]

set_option maxHeartbeats 1000000 in
theorem refDigit_any (c : UInt8) (w : World) :
    Calls Tryz.prog 56 #[.int .u8 (c.toNat : Int)] w fun e w' => e = .returned (.int .i64 (hv c)) ∧ w = w' := by
  have hval := Lib.hid (hv_of c)
  have hlt := c.toNat_lt
  have hlt' : (c.toNat : Int) < 256 := by omega
  by_cases h1 : (48 : Int) ≤ c.toNat
  all_goals (by_cases h2 : (c.toNat : Int) ≤ 57)
  all_goals (by_cases h3 : (97 : Int) ≤ c.toNat)
  all_goals (by_cases h4 : (c.toNat : Int) ≤ 102)
  all_goals (try (exfalso; omega))
  all_goals
    have d1 : decide ((48 : Int) ≤ c.toNat) = decide ((48 : Int) ≤ c.toNat) := rfl
    go_enter Tryz.func56, Tryz.ntmps56
    go_wp2_with fail
    go_ret
    refine ⟨ret_int ?_, rfl⟩
    rw [hval.out]
    split
    · omega
    · split <;> omega

theorem refDigit_q (c : UInt8) (w : World) :
    Calls Tryz.prog 56 #[.int .u8 (c.toNat : Int)] w fun e w' => e = .returned (.int .i64 (hv c)) ∧ w' = w := (refDigit_any c w).mono fun _ _ h => ⟨h.1, h.2.symm⟩

set_option maxHeartbeats 1000000 in
set_option maxRecDepth 100000 in
theorem refParse_long (t : ByteArray) (hs : t.size ≠ 64) (w : World) :
    Calls Tryz.prog 35 #[.string t] w fun e w' => e = .returned (parV t) ∧ Below w.heap.size w w' := by
  have h : ((t.size : Int) != 64) = true := by rw [bne_iff_ne]; omega
  have hv := Lib.hid (show parV t = .tuple #[.string ⟨#[]⟩, .int .i64 4] from if_neg fun h => hs h.1)
  clear hs
  go_enter Tryz.func35, Tryz.ntmps35
  go_wp2_with fail
  go_ret2
  exact ⟨by rw [hv.out]; rfl, Below.refl _ _⟩

set_option maxHeartbeats 4000000 in
set_option maxRecDepth 100000 in
theorem refParse_64 (t : ByteArray) (hs : t.size = 64) (w : World) :
    Calls Tryz.prog 35 #[.string t] w fun e w' => e = .returned (parV t) ∧ Below w.heap.size w w' := by
  have h : ((t.size : Int) != 64) = false := by rw [bne_eq_false_iff_eq]; omega
  have HS := Lib.hid hs
  have hs1 : t.size ≤ 64 := by omega
  have hs2 : 64 ≤ t.size := by omega
  clear hs
  obtain ⟨i0, hi0, hz0, hz1, hz2⟩ := info_parts info8
  go_enter Tryz.func35, Tryz.ntmps35
  go_wp2_with fail
  go_loopw [4, 5] (fun v u wr => ∃ j : Nat, j ≤ 64 ∧ j % 2 = 0 ∧ u = .int .i64 j ∧ AllHex t.data.toList j ∧ Apd w wr v ((List.range (j / 2)).map (parAt t.data.toList))) (fun _ u _ => 64 - (intOf u).toNat)
  case atStart => exact ⟨0, by omega, rfl, rfl, fun j hj => by omega, World.ownsRow_nil _ _ _ _, Below.refl _ _⟩
  case round =>
    obtain ⟨j, hj, hev, rfl, hA, hown, hB⟩ := hrel
    have HA := Lib.hid hA
    have HEV := Lib.hid hev
    clear hA hev
    by_cases hlt : j < 64
    · have hjs : j < t.size := by omega
      have hjs1 : j + 1 < t.size := by have := HEV.out; omega
      have hgd0 := Lib.hid (get_D t j hjs)
      have hgd1 := Lib.hid (get_D t (j + 1) hjs1)
      have hd0 := (hv_lt t[j]).1
      have hd1 := (hv_lt t[j + 1]).1
      have x1 : IntKind.i64.wrap ((j : Int) + 1) = (j : Int) + 1 := IntWalk.i64_in _ (by omega)
      have x2 : 0 ≤ (j : Int) + 1 := by omega
      have x3 : ((j : Int) + 1).toNat = j + 1 := by omega
      have x4 : (j : Int) + 1 < (t.size : Int) := by omega
      go_upto_region 7 with (fail)
      go_quiet ((go_at_call 56; exact Calls.quiet_of_same (refDigit_q _ _)))
      have H : Apd w (wr.drewN nq) u4 ((List.range (j / 2)).map (parAt t.data.toList)) := ⟨hown, below_drewN hB _⟩
      clear hown hB x1
      generalize t[j + 1] = c1 at *
      generalize t[j] = c0 at *
      clear x3
      generalize wr.drewN nq = w1 at *
      by_cases ha : 0 ≤ hv c0
      · by_cases hb : 0 ≤ hv c1
        · obtain ⟨p, hp⟩ := Int.eq_ofNat_of_zero_le ha
          obtain ⟨q, hq⟩ := Int.eq_ofNat_of_zero_le hb
          have hA2 : AllHex t.data.toList (j + 2) := fun i hi => by
            by_cases e0 : i = j
            · subst e0; rw [hgd0.out]; exact ha
            · by_cases e1 : i = j + 1
              · subst e1; rw [hgd1.out]; exact hb
              · exact HA.out i (by omega)
          have hpar : parAt t.data.toList (j / 2) = ((16 * p + q : Nat) : Int) := by
            have := HEV.out
            unfold parAt
            rw [show 2 * (j / 2) = j by omega, hgd0.out, hgd1.out, hp, hq]
            omega
          have hp16 : p < 16 := by omega
          have hq16 : q < 16 := by omega
          have HPar := Lib.hid hpar
          have HA2 := Lib.hid hA2
          rw [hp, hq]
          clear hp hq ha hb hd0 hd1 hpar hA2
          have hl : ((List.range (j / 2)).map (parAt t.data.toList)).length = j / 2 := by simp
          obtain ⟨hown, hB⟩ := H
          rw [hl] at hown
          clear hl
          have hsz := hB.size
          have o1 : decide ((p : Int) < 0) = false := by simp
          have o2 : decide ((q : Int) < 0) = false := by simp
          go_wp2_with (at_builtin; refine wpList_append_lies _ (by rfl) _ _ 76 (by rfl) w.heap.size 5 i0 _ 1 1 Tryz.underlying76 hi0 hz0 hz1 hz2 rfl (by omega) u4 (j / 2) _ (by rfl) (hown.alloc _) ⟨w1.heap.size, 0, none⟩ 1 1 [_] (by rfl) (by rfl) (World.news_of_block (cs := #[_]) (t := 5) (fr := (0, 0)) (heap_alloc_new w1 _)) (by simp [Value.oneCell']) (by omega) (by unfold maxLen; omega) (by omega) (by simp; omega) (w1.heap.size + 1) (by simp) ?_; intro gg cap w2 hown2 hgrow hat hlt2)
          have hB2 : Below w.heap.size w w2 := (hB.alloc hB.size _).trans (below_owned (hown.alloc _) hgrow (by simp; omega))
          have hA3 : Apd w w2 (.slice (some ⟨gg, 0, none⟩) (j / 2 + 1) cap) ((List.range ((j + 2) / 2)).map (parAt t.data.toList)) := by
            refine ⟨?_, hB2⟩
            rw [List.length_map, List.length_range, show (j + 2) / 2 = j / 2 + 1 by omega, List.range_succ, List.map_append, List.map_append, List.map_cons, List.map_nil, List.map_cons, List.map_nil, HPar.out]
            exact hown2
          have hev2 := HEV.out
          clear hown hB hown2 hgrow hat hlt2 hB2
          go_roundw
          case rel => exact ⟨j + 2, by omega, by omega, by go_num, HA2.out, hA3⟩
          case measure => simp [intOf]; omega
        · have hbad : parV t = .tuple #[.string ⟨#[]⟩, .int .i64 4] := if_neg fun h => hb (by rw [← hgd1.out]; exact h.2 (j + 1) (by omega))
          have HB := Lib.hid hbad
          have o1 : decide (hv c0 < 0) = false := by simp; omega
          have o2 : decide (hv c1 < 0) = true := by simp; omega
          have hB := H.2
          clear hbad hd0 hd1 H ha hb
          generalize hv c0 = v0 at *
          generalize hv c1 = v1 at *
          go_wp2_with fail
          go_ret2
          exact ⟨by rw [HB.out]; rfl, hB⟩
      · have hbad : parV t = .tuple #[.string ⟨#[]⟩, .int .i64 4] := if_neg fun h => ha (by rw [← hgd0.out]; exact h.2 j hlt)
        have HB := Lib.hid hbad
        have o1 : decide (hv c0 < 0) = true := by simp; omega
        have hB := H.2
        clear hbad hd0 hd1 H ha
        generalize hv c0 = v0 at *
        generalize hv c1 = v1 at *
        go_wp2_with fail
        go_ret2
        exact ⟨by rw [HB.out]; rfl, hB⟩
    · obtain rfl : j = 64 := by omega
      have hcv := own_str hown Tryz.underlying76 Tryz.underlying5 Tryz.underlying9
      rw [show strOfNums ((List.range (64 / 2)).map (parAt t.data.toList)) = parS t from rfl] at hcv
      have HP := Lib.hid (show parV t = .tuple #[.string (parS t), .int .i64 0] from if_pos ⟨HS.out, HA.out⟩)
      go_wp2_with fail
      go_ret2
      exact ⟨by rw [HP.out]; rfl, hB⟩
theorem refParse_any (t : ByteArray) (w : World) :
    Calls Tryz.prog 35 #[.string t] w fun e w' => e = .returned (parV t) ∧ Below w.heap.size w w' := by
  by_cases h : t.size = 64
  · exact refParse_64 t h w
  · exact refParse_long t h w
end Go.Proofs.YtmmdldicafbjdaaGreatDoor.Dg
end
