/- The parts of a string: strings.Split at one byte, and the reference's. Condition: bytealg's MaxLen lies in its variable. -/
import Derived.Test.YtmmdldicafbjdaaGreatDoorTrPth
import Derived.Test.YtmmdldicafbjdaaGreatDoorShelf
import Derived.Deep.AppendLies
import Derived.Lib.Builder
import Derived.Lib.AppendStr
namespace Go.Proofs.YtmmdldicafbjdaaGreatDoor.Tr
open Go.RowKit

/-- The library's variable holds a number. -/
def MaxAt (w : World) : Prop := ∃ m : Int, w.cell? ⟨0, 0, none⟩ = some (.int .i64 m)
theorem MaxAt.below {w w' : World} (h : MaxAt w) (hb : Below w.heap.size w w') : MaxAt w' := by
  obtain ⟨m, hc⟩ := h
  have hlt := World.block_lt_of_cell? w _ hc
  exact ⟨m, (hb.cell hlt).trans hc⟩
/-- The slice value's cells are these values; they lie below block B. -/
def CellsAt (w : World) (B : Nat) (A : Option Addr) (vs : List Value) : Prop := ∀ i (h : i < vs.length), ∃ g o, A = some ⟨g, o, none⟩ ∧ g < B ∧ w.cell? ⟨g, o + i, none⟩ = some vs[i]
theorem CellsAt.below {w w' : World} {B B' : Nat} {A : Option Addr} {vs : List Value} (h : CellsAt w B A vs) (hb : Below B' w w') (hB : B ≤ B') : CellsAt w' B A vs := fun i hi => by
  obtain ⟨g, o, e, hg, hc⟩ := h i hi
  exact ⟨g, o, e, hg, (hb.cell (p := ⟨g, o + i, none⟩) (by show g < B'; omega)).trans hc⟩
theorem CellsAt.next {w w' : World} {A : Option Addr} {vs : List Value} (h : CellsAt w w.heap.size A vs) (hb : Below w.heap.size w w') : CellsAt w' w'.heap.size A vs := fun i hi => by
  obtain ⟨g, o, e, hg, hc⟩ := h.below hb (Nat.le_refl _) i hi
  exact ⟨g, o, e, Nat.lt_of_lt_of_le hg hb.size, hc⟩
theorem owns_cells {w : World} {B : Nat} {e : TypeId} {v : Value} {n : Nat} {xs : List Value} (h : w.ownsRow B e 1 v n xs) : ∃ A c, v = .slice A n c ∧ CellsAt w w.heap.size A xs := by
  have hl : xs.length = n := by simpa using h.1
  rcases h.2 with ⟨rfl, h0⟩ | ⟨g, cap, cur, rfl, hb, hg, hn, hc, hs, ht⟩
  · subst h0
    exact ⟨none, 0, rfl, fun i hi => by omega⟩
  · refine ⟨_, cap, rfl, fun i hi => ⟨g, 0, rfl, (Array.getElem?_eq_some_iff.1 hg).1, ?_⟩⟩
    rw [Nat.zero_add, cell_of_row w g i cur e (0, 0) hg]
    have h1 := congrArg (fun x => x[i]?) ht
    simp only [Nat.mul_one, List.getElem?_take, if_pos (show i < n by omega)] at h1
    rw [← Array.getElem?_toList, h1, List.getElem?_eq_getElem hi]
theorem owns_below {w w' : World} {B size n : Nat} {e : TypeId} {v : Value} {xs : List Value} (h : w.ownsRow B e size v n xs) (hb : Below w.heap.size w w') : w'.ownsRow B e size v n xs :=
  h.kept (row := none) ⟨hb.os, hb.tape, hb.output, hb.size, fun k hk _ => hb.block k hk⟩ (by cases hv : v.ownBlock <;> simp)
theorem grown_own0 {w W w2 : World} {row : Option Nat} (hb : Below w.heap.size w W) (hg : W.grownBy w2 row) (hr : ∀ k, row = some k → w.heap.size ≤ k) : Below w.heap.size w w2 :=
  ⟨hg.os.trans hb.os, hg.tape.trans hb.tape, hg.output.trans hb.output, Nat.le_trans hb.size hg.size, fun i hi => (hg.block i (Nat.lt_of_lt_of_le hi hb.size) (fun e => by have := hr i e.symm; omega)).trans (hb.block i hi)⟩
theorem infoS : (Tryz.prog.info? 9).map (fun i => (i.zero, i.size, i.bytes)) = some (some (.string ⟨#[]⟩), 1, 16) := by kernel_rfl
def strs (ps : List (List UInt8)) : List Value := ps.map fun p => .string (str p)
theorem strs_len (ps : List (List UInt8)) : (strs ps).length = ps.length := by simp [strs]
theorem strs_snoc (ps : List (List UInt8)) (p : List UInt8) : strs ps ++ [Value.string (str p)] = strs (ps ++ [p]) := by simp [strs]
/-- What parts of a string are as a result. -/
def GotP (w : World) (ps : List (List UInt8)) : Ending → World → Prop := fun x w' => ∃ v, x = .returned v ∧ w'.ownsRow w.heap.size 9 1 v ps.length (strs ps) ∧ Below w.heap.size w w'
theorem cut_any (s : ByteArray) (c : UInt8) (w : World) (hs : s.size ≤ 1000000000) (hM : MaxAt w) :
    Calls Tryz.prog 52 #[.string s, .string ⟨#[c]⟩] w (GotP w (Tre.split c s.data.toList)) := by
  obtain ⟨m, hm⟩ := hM
  have h1 : 1 ≤ (⟨#[c]⟩ : ByteArray).size := Nat.le_refl 1
  have hn := Lib.countB_le ⟨#[c]⟩ h1 s.size s (Nat.le_refl _)
  have hlen := Lib.splitB_all ⟨#[c]⟩ h1 0 _ s rfl
  have hp := Tre.pieces c s
  have e1 : (Tre.split c s.data.toList).length = Lib.countB s ⟨#[c]⟩ + 1 := by rw [← hp, List.length_map, hlen]
  have e2 : strs (Tre.split c s.data.toList) = (Lib.splitB ⟨#[c]⟩ 0 (Lib.countB s ⟨#[c]⟩) s).map Value.string := by
    rw [← hp, strs, List.map_map]
    exact List.map_congr_left fun x _ => by rw [Function.comp, str_of]
  refine (Tryz.strings_Split s ⟨#[c]⟩ m w (by omega) hm h1).mono ?_
  rintro e w' ⟨rfl, rfl⟩
  refine ⟨_, rfl, ?_, (Below.refl _ _).alloc (Nat.le_refl _) _⟩
  rw [e1, e2]
  exact World.ownsRow_lit w _ _ (Nat.le_refl _) (by unfold maxLen; omega) (by simp [hlen])

theorem mid_cut (s : ByteArray) (f k : Nat) (hf : f ≤ k) (hk : k < s.size) : s.data.toList.drop f = (s.data.toList.drop f).take (k - f) ++ s[k] :: s.data.toList.drop (k + 1) := by
  rw [← get_s s k hk]
  conv => lhs; rw [← List.take_append_drop (k - f) (s.data.toList.drop f)]
  rw [List.drop_drop, show f + (k - f) = k by omega]
theorem mid_snoc (s : ByteArray) (f k : Nat) (hf : f ≤ k) (hk : k < s.size) : (s.data.toList.drop f).take (k + 1 - f) = (s.data.toList.drop f).take (k - f) ++ [s[k]] := by
  rw [show k + 1 - f = (k - f) + 1 by omega, List.take_add_one, List.getElem?_drop, show f + (k - f) = k by omega, get_d s k hk]
  rfl
set_option maxHeartbeats 4000000 in
set_option maxRecDepth 100000 in
theorem qSplit_any (s : ByteArray) (c : UInt8) (w : World) (hs : s.size ≤ 1000000000) :
    Calls Tryz.prog 48 #[.string s, .int .u8 (c.toNat : Int)] w (GotP w (Tre.split c s.data.toList)) := by
  obtain ⟨i0, hi0, hz0, hz1, hz2⟩ := info_parts infoS
  have HR := Lib.hid (show Tre.split c s.data.toList = Tre.split c s.data.toList from rfl)
  generalize hR : Tre.split c s.data.toList = R at *
  clear HR
  have HR0 := Lib.hid hR
  clear hR
  go_enter Tryz.func48, Tryz.ntmps48
  go_wp2_with fail
  go_loopw [5, 6, 7] (fun v fr i wr => ∃ (ps : List (List UInt8)) (f k : Nat), f ≤ k ∧ k ≤ s.size ∧ i = .int .i64 k ∧ fr = .int .i64 f ∧ wr.ownsRow w.heap.size 9 1 v ps.length (strs ps) ∧ R = ps ++ Tre.split c (s.data.toList.drop f) ∧ (∀ x ∈ (s.data.toList.drop f).take (k - f), x ≠ c) ∧ ps.length ≤ k ∧ Below w.heap.size w wr) (fun _ _ i _ => s.size - (intOf i).toNat)
  case atStart => exact ⟨[], 0, 0, by omega, by omega, rfl, rfl, World.ownsRow_nil _ _ _ _, by rw [HR0.out.symm]; rfl, by simp, by simp, Below.refl _ _⟩
  case round =>
    obtain ⟨ps, f, k, hf, hk, rfl, rfl, hown, hR, hno, hpl, hb⟩ := hrel
    have HR := Lib.hid hR
    have HNO := Lib.hid hno
    clear hR hno HR0
    have hrow := hown.lt
    by_cases hlt : k < s.size
    · have b1 : decide ((k : Int) < s.size) = true := by simp; omega
      have b1n : decide (k < s.size) = true := by simp; omega
      have HCUT := Lib.hid (mid_cut s f k hf hlt)
      have HSN := Lib.hid (mid_snoc s f k hf hlt)
      by_cases hc : s[k] = c
      · have e1 : ((s[k].toNat : Int) == (c.toNat : Int)) = true := by rw [beq_iff_eq, hc]
        have e1n : (s[k].toNat == c.toNat) = true := by rw [beq_iff_eq, hc]
        have HN := Lib.hid (show R = (ps ++ [(s.data.toList.drop f).take (k - f)]) ++ Tre.split c (s.data.toList.drop (k + 1)) by
          rw [HR.out, (congrArg (Tre.split c) (HCUT.out.trans (by rw [hc]))).trans (Tre.split_cut c _ (s.data.toList.drop (k + 1)) HNO.out)]
          simp)
        have HX := Lib.hid (ext_mid s f k)
        clear HCUT HSN HR HNO hc
        go_upto_region 8 with (at_builtin; refine wpList_append_lies _ (by rfl) _ _ 45 (by rfl) w.heap.size 9 i0 _ 1 16 Tryz.underlying45 hi0 hz0 hz1 hz2 rfl (by omega) u5 ps.length _ (by rfl) (hown.alloc _) ⟨wr.heap.size, 0, none⟩ 1 1 [_] (by rfl) (by rfl) (World.news_of_block (cs := #[_]) (t := 9) (fr := (0, 0)) (heap_alloc_new wr _)) (by simp [Value.oneCell']) (by omega) (by unfold maxLen; omega) (by omega) (by have := hb.size; simp; omega) (wr.heap.size + 1) (by simp) ?_; intro gg cap w3 hown3 hgrow hat hlt3)
        have hb3 : Below w.heap.size w w3 := grown_own0 (hb.alloc hb.size _) hgrow (fun k' hk' => (hrow k' hk').1)
        rw [HX.out, strs_snoc] at hown3
        have hown4 : w3.ownsRow w.heap.size 9 1 (.slice (some ⟨gg, 0, none⟩) (ps.length + 1) cap) (ps ++ [(s.data.toList.drop f).take (k - f)]).length (strs (ps ++ [(s.data.toList.drop f).take (k - f)])) := by
          rw [List.length_append, List.length_singleton]; exact hown3
        clear hown3 hown hgrow hat hlt3 hb hrow HX
        go_wp2_with fail
        go_roundw
        case rel => exact ⟨ps ++ [(s.data.toList.drop f).take (k - f)], k + 1, k + 1, by omega, by omega, by go_num, by go_num, hown4, HN.out, by simp, by simp; omega, hb3⟩
        case measure => simp [intOf]; omega
      · have hcn : s[k].toNat ≠ c.toNat := fun e => hc (UInt8.toNat_inj.1 e)
        have e1 : ((s[k].toNat : Int) == (c.toNat : Int)) = false := by rw [beq_eq_false_iff_ne]; omega
        have e1n : (s[k].toNat == c.toNat) = false := by rw [beq_eq_false_iff_ne]; exact hcn
        have HN := Lib.hid (show ∀ x ∈ (s.data.toList.drop f).take (k + 1 - f), x ≠ c by
          rw [HSN.out]
          intro x hx
          rcases List.mem_append.1 hx with hx | hx
          · exact HNO.out x hx
          · rw [List.mem_singleton.1 hx]; exact hc)
        clear HCUT HSN HNO hc hcn hrow
        go_wp2_with fail
        go_roundw
        case rel => exact ⟨ps, f, k + 1, by omega, by omega, by go_num, rfl, hown, HR.out, HN.out, by omega, hb⟩
        case measure => simp [intOf]; omega
    · have b1 : decide ((k : Int) < s.size) = false := by simp; omega
      have b1n : decide (k < s.size) = false := by simp; omega
      have hke : k = s.size := by omega
      have HN := Lib.hid (show R = ps ++ [s.data.toList.drop f] by
        have h := HNO.out
        rw [hke, List.take_of_length_le (by rw [List.length_drop, size_data]; exact Nat.le_refl _)] at h
        rw [HR.out, Tre.split_end c _ h])
      have HX := Lib.hid (ext_drop s f)
      clear HR HNO hke
      go_wp2_with (at_builtin; refine wpList_append_lies _ (by rfl) _ _ 45 (by rfl) w.heap.size 9 i0 _ 1 16 Tryz.underlying45 hi0 hz0 hz1 hz2 rfl (by omega) u5 ps.length _ (by rfl) (hown.alloc _) ⟨wr.heap.size, 0, none⟩ 1 1 [_] (by rfl) (by rfl) (World.news_of_block (cs := #[_]) (t := 9) (fr := (0, 0)) (heap_alloc_new wr _)) (by simp [Value.oneCell']) (by omega) (by unfold maxLen; omega) (by omega) (by have := hb.size; simp; omega) (wr.heap.size + 1) (by simp) ?_; intro gg cap w3 hown3 hgrow hat hlt3)
      have hb3 : Below w.heap.size w w3 := grown_own0 (hb.alloc hb.size _) hgrow (fun k' hk' => (hrow k' hk').1)
      rw [HX.out, strs_snoc] at hown3
      have hown4 : w3.ownsRow w.heap.size 9 1 (.slice (some ⟨gg, 0, none⟩) (ps.length + 1) cap) (ps ++ [s.data.toList.drop f]).length (strs (ps ++ [s.data.toList.drop f])) := by
        rw [List.length_append, List.length_singleton]; exact hown3
      rw [HN.out]
      go_ret
      exact ⟨_, rfl, hown4, hb3⟩
end Go.Proofs.YtmmdldicafbjdaaGreatDoor.Tr
