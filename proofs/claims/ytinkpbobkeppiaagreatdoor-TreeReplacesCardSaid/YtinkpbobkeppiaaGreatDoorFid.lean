/- The identifier of a file, and the bytes of texts, on both sides. Condition: the round constants of the digest, and the table of powers of ten, lie in their variables. -/
import Derived.Test.YtinkpbobkeppiaaGreatDoorGrp
import Derived.Test.YtinkpbobkeppiaaGreatDoorPz2
import Derived.Test.YtinkpbobkeppiaaGreatDoorPz3
import Derived.Test.YtinkpbobkeppiaaGreatDoorPz4
namespace Go.Proofs.YtinkpbobkeppiaaGreatDoor
open Go.RowKit

/-- What identifiers ask of the world. -/
structure IdAt (w : World) : Prop where
  max : MaxAt w
  consts : Dg.Consts w
  tabs : Cd.Tabs w
theorem IdAt.below {w w' : World} (h : IdAt w) (hb : Below w.heap.size w w') : IdAt w' := ⟨h.max.below hb, h.consts.below hb, h.tabs.below hb⟩
theorem digS_str (s : ByteArray) : Dg.digS s = str (Dg.Spo.dig s.data.toList) := rfl
theorem digL_str (l : List UInt8) : Dg.digL l = str (Dg.Spo.dig l) := rfl
theorem cons_list (c : UInt8) (s : ByteArray) : ((⟨#[c]⟩ : ByteArray) ++ s).data.toList = c :: s.data.toList := by simp
theorem one_size (c : UInt8) : (⟨#[c]⟩ : ByteArray).size = 1 := rfl
set_option maxHeartbeats 2000000 in
set_option maxRecDepth 100000 in
theorem fileID_any (s : ByteArray) (w : World) (hC : Dg.Consts w) (hs : s.size ≤ 1000000000) :
    Calls Tryz.prog 95 #[.string s] w fun e w' => e = .returned (.string (str (Tre.fid s.data.toList))) ∧ Below w.heap.size w w' := by
  have hn := Dg.holds_new w
  have hgl := hC.1
  have HEQ := Lib.hid (show Dg.digL ([] ++ Dg.cat [⟨#[102]⟩, s]) = str (Tre.fid s.data.toList) by rw [digL_str]; unfold Tre.fid Dg.cat; simp)
  have hcat : (Dg.cat [⟨#[102]⟩, s]).length ≤ 1000000001 := by
    unfold Dg.cat; simp only [List.flatMap_cons, List.flatMap_nil, List.append_nil, List.length_append, size_data]; show 1 + s.size ≤ _; omega
  go_enter Tryz.func95, Tryz.ntmps95
  go_wp2_with fail
  generalize hbb : w.heap.size = b at *
  have HBB := Lib.hid hbb
  with_reducible refine hn.mono ?_
  clear hn
  rintro x w1 ⟨rfl, hH, hb1⟩
  have hlt := World.rowIs.lt hH
  have hC1 := hC.below (by rw [hbb]; exact hb1)
  clear hbb hC
  have a1 := (Below.refl w1.heap.size w1).alloc (Nat.le_refl _) (.cells #[.string ⟨#[102]⟩, .string s] 9)
  have hA := Dg.strs_new w1 b [⟨#[102]⟩, s] hlt
  have hw : Calls Tryz.prog 124 #[.pointer (some ⟨b, 0, none⟩), .slice (some ⟨w1.heap.size, 0, none⟩) 2 2] (w1.alloc (.cells #[.string ⟨#[102]⟩, .string s] 9)) _ := Dg.holds_write [] b (some ⟨w1.heap.size, 0, none⟩) 2 [⟨#[102]⟩, s] _ (hC1.below a1) (by omega) (hH.below a1) hA (by show 2 ≤ _; decide) (by simp only [List.length_nil]; omega)
  have hsum := fun w3 h1 h2 => Dg.holds_sum ([] ++ Dg.cat [⟨#[102]⟩, s]) b w3 h1 h2 (by rw [List.nil_append]; omega)
  rw [HEQ.out] at hsum
  generalize [] ++ Dg.cat [⟨#[102]⟩, s] = L at *
  generalize (([] : List UInt8).length + (Dg.cat [⟨#[102]⟩, s]).length : Nat) = z at *
  clear hA hcat HEQ
  go_wp2_with fail
  with_reducible refine hw.mono ?_
  clear hw
  rintro x w3 ⟨rfl, hH3, hg3⟩
  have hC3 := (hC1.below a1).grown (by omega) hg3
  have hs3 := hsum w3 hC3 hH3
  have hb3 : Below b w w3 := (hb1.alloc (Nat.le_of_lt hlt) _).grown hg3 (by simp; omega) (fun k hk => by cases hk; exact Nat.le_refl _)
  clear hsum hC1 hH a1 hH3
  go_wp2_with fail
  with_reducible refine hs3.mono ?_
  clear hs3
  rintro x w4 ⟨rfl, hb4⟩
  go_wp2_with fail
  go_ret
  exact ⟨rfl, by rw [HBB.out]; exact hb3.trans (hb4.mono (by have := hg3.size; simp at this; omega))⟩
set_option maxHeartbeats 1000000 in
set_option maxRecDepth 100000 in
theorem qFileID_any (s : ByteArray) (w : World) (hs : s.size ≤ 999999) :
    Calls Tryz.prog 70 #[.string s] w fun e w' => e = .returned (.string (str (Tre.fid s.data.toList))) ∧ Below w.heap.size w w' := by
  have hz : (⟨#[102]⟩ : ByteArray).size ≤ 1 := Nat.le_refl _
  have hz2 : ((⟨#[102]⟩ : ByteArray) ++ s).size ≤ 1000000 := by rw [ByteArray.size_append, one_size]; omega
  have hcall := Dg.refSum_any ((⟨#[102]⟩ : ByteArray) ++ s) w hz2
  rw [digS_str, cons_list] at hcall
  change Calls _ _ _ _ (fun e w' => e = .returned (.string (str (Tre.fid s.data.toList))) ∧ _) at hcall
  generalize Tre.fid s.data.toList = R at *
  go_enter Tryz.func70, Tryz.ntmps70
  go_wp2_with fail
  with_reducible refine hcall.mono ?_
  clear hcall
  rintro x w1 ⟨rfl, hb1⟩
  go_wp2_with fail
  go_ret
  exact ⟨rfl, hb1⟩
theorem txtsV_tx (l : List (List UInt8)) (h1 : l.length ≤ 1024) (h2 : ∀ x ∈ l, x.length ≤ 65536) : Cd.txtsV (l.map str) = .tuple #[.string (str (Tre.tx l)), .int .i64 0] := by
  unfold Cd.txtsV
  rw [if_neg (by rw [List.length_map]; omega), if_pos (by
    rw [List.all_eq_true]
    intro x hx
    obtain ⟨y, hy, rfl⟩ := List.mem_map.1 hx
    exact decide_eq_true (by rw [str_size]; exact h2 y hy))]
  have e : (l.map str).flatMap Cd.encS = l.flatMap Cd.Cod.txt := by
    rw [List.flatMap_map]
    congr 1
  rw [e, List.length_map]
  rfl
theorem strs_map (l : List (List UInt8)) : Cd.strsOf (l.map str) = strs l := by unfold Cd.strsOf strs; rw [List.map_map]; rfl
theorem texts_any (A : Option Addr) (c : Nat) (l : List (List UInt8)) (w : World) (hT : Cd.Tabs w) (hA : CellsAt w w.heap.size A (strs l)) (h1 : l.length ≤ 1024) (h2 : ∀ x ∈ l, x.length ≤ 65536) :
    Calls Tryz.prog 85 #[.slice A l.length c] w fun e w' => e = .returned (.tuple #[.string (str (Tre.tx l)), .int .i64 0]) ∧ Below w.heap.size w w' := by
  have h := Cd.txts_any A c (l.map str) w hT (by rw [strs_map]; exact hA)
  rw [txtsV_tx l h1 h2, List.length_map] at h
  exact h
theorem qTexts_any (A : Option Addr) (c : Nat) (l : List (List UInt8)) (w : World) (hA : CellsAt w w.heap.size A (strs l)) (h1 : l.length ≤ 1024) (h2 : ∀ x ∈ l, x.length ≤ 65536) :
    Calls Tryz.prog 87 #[.slice A l.length c] w fun e w' => e = .returned (.tuple #[.string (str (Tre.tx l)), .int .i64 0]) ∧ Below w.heap.size w w' := by
  have h := Cd.refTexts_any A c (l.map str) w (by rw [strs_map]; exact hA)
  rw [txtsV_tx l h1 h2, List.length_map] at h
  exact h
theorem idx_name : ∀ p : List UInt8, (Tre.slash p = true → Lib.index p [47] = (Tre.nameOf p).length) ∧ (Tre.slash p = false → Lib.index p [47] = -1)
  | [] => ⟨fun h => (by cases h), fun _ => rfl⟩
  | c :: p => by
    obtain ⟨h1, h2⟩ := idx_name p
    have hsl : Tre.slash (c :: p) = ((47 == c) || Tre.slash p) := by unfold Tre.slash; rw [List.contains_cons]
    rw [Tre.name_cons, hsl]
    by_cases hc : c = 47
    · subst hc
      exact ⟨fun _ => by rw [if_pos rfl]; rfl, fun h => by simp at h⟩
    · have h47 : ((47 : UInt8) == c) = false := by rw [beq_eq_false_iff_ne]; exact fun e => hc e.symm
      have hpre : ([47] : List UInt8).isPrefixOf (c :: p) = false := by simp [List.isPrefixOf, h47]
      rw [if_neg hc, h47, Bool.false_or]
      unfold Lib.index
      rw [if_neg (by rw [hpre]; decide)]
      refine ⟨fun h => ?_, fun h => ?_⟩
      · rw [h1 h, if_neg (by rw [beq_iff_eq]; omega)]; simp
      · rw [h2 h]; rfl
theorem cut_name (p : List UInt8) : Lib.cut p [47] = (Tre.nameOf p, Tre.restOf p, Tre.slash p) := by
  unfold Lib.cut
  cases h : Tre.slash p with
  | true =>
    have e := Tre.name_cut p h
    rw [(idx_name p).1 h, if_pos (by omega)]
    have e1 : p.take (Tre.nameOf p).length = Tre.nameOf p := by
      have h2 : (Tre.nameOf p ++ 47 :: Tre.restOf p).take (Tre.nameOf p).length = Tre.nameOf p := List.take_left
      rw [← e] at h2
      exact h2
    simp only [Int.toNat_natCast]
    rw [e1]
    rfl
  | false =>
    obtain ⟨e1, e2⟩ := Tre.name_all p h
    rw [(idx_name p).2 h, if_neg (by decide), e1, e2]
end Go.Proofs.YtinkpbobkeppiaaGreatDoor
