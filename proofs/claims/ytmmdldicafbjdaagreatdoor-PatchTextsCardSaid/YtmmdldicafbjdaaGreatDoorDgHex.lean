/- Hex returns the text of a digest, or the error. No condition. -/
import Derived.Test.YtmmdldicafbjdaaGreatDoorDgSum
namespace Go.Proofs.YtmmdldicafbjdaaGreatDoor.Dg
open Go.RowKit

def hexL : List UInt8 := [48, 49, 50, 51, 52, 53, 54, 55, 56, 57, 97, 98, 99, 100, 101, 102]
/-- The hexadecimal digit of a number below 16. -/
def hdI (n : Nat) : Int := ((hexL.getD n 0).toNat : Int)
theorem hd_eq (i : Nat) (h : i < 16) (h' : i < (⟨#[48, 49, 50, 51, 52, 53, 54, 55, 56, 57, 97, 98, 99, 100, 101, 102]⟩ : ByteArray).size) : (((⟨#[48, 49, 50, 51, 52, 53, 54, 55, 56, 57, 97, 98, 99, 100, 101, 102]⟩ : ByteArray)[i]'h').toNat : Int) = hdI i := by
  have hc : i = 0 ∨ i = 1 ∨ i = 2 ∨ i = 3 ∨ i = 4 ∨ i = 5 ∨ i = 6 ∨ i = 7 ∨ i = 8 ∨ i = 9 ∨ i = 10 ∨ i = 11 ∨ i = 12 ∨ i = 13 ∨ i = 14 ∨ i = 15 := by omega
  rcases hc with rfl | rfl | rfl | rfl | rfl | rfl | rfl | rfl | rfl | rfl | rfl | rfl | rfl | rfl | rfl | rfl <;> rfl
def hexAt (l : List UInt8) (j : Nat) : Int := if j % 2 = 0 then hdI ((l.getD (j / 2) 0).toNat / 16) else hdI ((l.getD (j / 2) 0).toNat % 16)
def mixH (l : List UInt8) (k : Nat) : Nat → Int := fun j => if j < 2 * k then hexAt l j else 0
theorem mixH_lt (l : List UInt8) (k j : Nat) (h : j < 2 * k) : mixH l k j = hexAt l j := if_pos h
theorem mixH_ge (l : List UInt8) (k j : Nat) (h : ¬ j < 2 * k) : mixH l k j = 0 := if_neg h
theorem hexAt_even (l : List UInt8) (j : Nat) (h : j % 2 = 0) : hexAt l j = hdI ((l.getD (j / 2) 0).toNat / 16) := if_pos h
theorem hexAt_odd (l : List UInt8) (j : Nat) (h : ¬ j % 2 = 0) : hexAt l j = hdI ((l.getD (j / 2) 0).toNat % 16) := if_neg h
/-- The text of a digest. -/
def hexS (s : ByteArray) : ByteArray := strOfNums ((List.range 64).map (hexAt s.data.toList))
theorem get_D (s : ByteArray) (k : Nat) (h : k < s.size) : s.data.toList.getD k 0 = s[k] := by
  have hl : k < s.data.toList.length := by simpa using h
  rw [List.getD_eq_getElem?_getD, List.getElem?_eq_getElem hl]
  exact (get_list s k h).symm

set_option maxHeartbeats 1000000 in
set_option maxRecDepth 100000 in
theorem hex_bad (s : ByteArray) (hs : s.size ≠ 32) (w : World) :
    Calls Tryz.prog 19 #[.string s] w fun e w' => e = .returned (.tuple #[.string ⟨#[]⟩, .int .i64 1]) ∧ w = w' := by
  have h : ((s.size : Int) != 32) = true := by rw [bne_iff_ne]; omega
  go_enter Tryz.func19, Tryz.ntmps19
  go_wp2_with fail
  go_ret2
  exact ⟨rfl, rfl⟩

structure HxAt (w w' : World) (b n : Nat) (t : TypeId) (f : Nat → Int) : Prop where
  q : IsBy w' b t n f
  k : Below w.heap.size w w'
theorem HxAt.put_ {w w' : World} {b n : Nat} {t : TypeId} {f : Nat → Int} (h : HxAt w w' b n t f) (hb : w.heap.size ≤ b) (i : Nat) (x : Int) : HxAt w (w'.setCell ⟨b, i, none⟩ (.int .u8 x)) b n t (fun j => if j = i then x else f j) :=
  ⟨h.q.set_ i x, h.k.setCell (p := ⟨b, i, none⟩) (by simpa using hb) _⟩
theorem HxAt.congr {w w' : World} {b n : Nat} {t : TypeId} {f g : Nat → Int} (h : HxAt w w' b n t f) (e : ∀ i, i < n → f i = g i) : HxAt w w' b n t g := ⟨h.q.congr e, h.k⟩

set_option maxHeartbeats 1000000 in
set_option maxRecDepth 100000 in
theorem hex_good (s : ByteArray) (hs : s.size = 32) (w : World) :
    Calls Tryz.prog 19 #[.string s] w fun e w' => e = .returned (.tuple #[.string (hexS s), .int .i64 0]) ∧ Below w.heap.size w w' := by
  have h : ((s.size : Int) != 32) = false := by rw [bne_eq_false_iff_eq]; omega
  have hs1 : s.size ≤ 32 := by omega
  have hs2 : 32 ≤ s.size := by omega
  clear hs
  have H : HxAt w (w.alloc (.cells #[Value.int .u8 0, Value.int .u8 0, Value.int .u8 0, Value.int .u8 0, Value.int .u8 0, Value.int .u8 0, Value.int .u8 0, Value.int .u8 0, Value.int .u8 0, Value.int .u8 0, Value.int .u8 0, Value.int .u8 0, Value.int .u8 0, Value.int .u8 0, Value.int .u8 0, Value.int .u8 0, Value.int .u8 0, Value.int .u8 0, Value.int .u8 0, Value.int .u8 0, Value.int .u8 0, Value.int .u8 0, Value.int .u8 0, Value.int .u8 0, Value.int .u8 0, Value.int .u8 0, Value.int .u8 0, Value.int .u8 0, Value.int .u8 0, Value.int .u8 0, Value.int .u8 0, Value.int .u8 0, Value.int .u8 0, Value.int .u8 0, Value.int .u8 0, Value.int .u8 0, Value.int .u8 0, Value.int .u8 0, Value.int .u8 0, Value.int .u8 0, Value.int .u8 0, Value.int .u8 0, Value.int .u8 0, Value.int .u8 0, Value.int .u8 0, Value.int .u8 0, Value.int .u8 0, Value.int .u8 0, Value.int .u8 0, Value.int .u8 0, Value.int .u8 0, Value.int .u8 0, Value.int .u8 0, Value.int .u8 0, Value.int .u8 0, Value.int .u8 0, Value.int .u8 0, Value.int .u8 0, Value.int .u8 0, Value.int .u8 0, Value.int .u8 0, Value.int .u8 0, Value.int .u8 0, Value.int .u8 0] 74)) w.heap.size 64 74 (mixH s.data.toList 0) := by
    refine ⟨?_, (Below.refl _ _).alloc (Nat.le_refl _) _⟩
    exact World.rowIs_alloc w #[Value.int .u8 0, Value.int .u8 0, Value.int .u8 0, Value.int .u8 0, Value.int .u8 0, Value.int .u8 0, Value.int .u8 0, Value.int .u8 0, Value.int .u8 0, Value.int .u8 0, Value.int .u8 0, Value.int .u8 0, Value.int .u8 0, Value.int .u8 0, Value.int .u8 0, Value.int .u8 0, Value.int .u8 0, Value.int .u8 0, Value.int .u8 0, Value.int .u8 0, Value.int .u8 0, Value.int .u8 0, Value.int .u8 0, Value.int .u8 0, Value.int .u8 0, Value.int .u8 0, Value.int .u8 0, Value.int .u8 0, Value.int .u8 0, Value.int .u8 0, Value.int .u8 0, Value.int .u8 0, Value.int .u8 0, Value.int .u8 0, Value.int .u8 0, Value.int .u8 0, Value.int .u8 0, Value.int .u8 0, Value.int .u8 0, Value.int .u8 0, Value.int .u8 0, Value.int .u8 0, Value.int .u8 0, Value.int .u8 0, Value.int .u8 0, Value.int .u8 0, Value.int .u8 0, Value.int .u8 0, Value.int .u8 0, Value.int .u8 0, Value.int .u8 0, Value.int .u8 0, Value.int .u8 0, Value.int .u8 0, Value.int .u8 0, Value.int .u8 0, Value.int .u8 0, Value.int .u8 0, Value.int .u8 0, Value.int .u8 0, Value.int .u8 0, Value.int .u8 0, Value.int .u8 0, Value.int .u8 0] 74 _ (fun i hi => by
      have hi64 : i < 64 := hi
      have : (mixH s.data.toList 0 i) = 0 := by unfold mixH; rw [if_neg (by omega)]
      rw [this]
      rw [show (#[Value.int .u8 0, Value.int .u8 0, Value.int .u8 0, Value.int .u8 0, Value.int .u8 0, Value.int .u8 0, Value.int .u8 0, Value.int .u8 0, Value.int .u8 0, Value.int .u8 0, Value.int .u8 0, Value.int .u8 0, Value.int .u8 0, Value.int .u8 0, Value.int .u8 0, Value.int .u8 0, Value.int .u8 0, Value.int .u8 0, Value.int .u8 0, Value.int .u8 0, Value.int .u8 0, Value.int .u8 0, Value.int .u8 0, Value.int .u8 0, Value.int .u8 0, Value.int .u8 0, Value.int .u8 0, Value.int .u8 0, Value.int .u8 0, Value.int .u8 0, Value.int .u8 0, Value.int .u8 0, Value.int .u8 0, Value.int .u8 0, Value.int .u8 0, Value.int .u8 0, Value.int .u8 0, Value.int .u8 0, Value.int .u8 0, Value.int .u8 0, Value.int .u8 0, Value.int .u8 0, Value.int .u8 0, Value.int .u8 0, Value.int .u8 0, Value.int .u8 0, Value.int .u8 0, Value.int .u8 0, Value.int .u8 0, Value.int .u8 0, Value.int .u8 0, Value.int .u8 0, Value.int .u8 0, Value.int .u8 0, Value.int .u8 0, Value.int .u8 0, Value.int .u8 0, Value.int .u8 0, Value.int .u8 0, Value.int .u8 0, Value.int .u8 0, Value.int .u8 0, Value.int .u8 0, Value.int .u8 0] : Array Value) = (List.replicate 64 (Value.int .u8 0)).toArray from rfl]
      rw [List.getElem?_toArray, List.getElem?_replicate, if_pos hi64])
  go_enter Tryz.func19, Tryz.ntmps19
  go_upto_region 4 with (fail)
  obtain ⟨b, hb⟩ : ∃ b, b = w.heap.size := ⟨_, rfl⟩
  rw [← hb] at H
  rw [← hb]
  refine wp_gen (fun w' => HxAt w w' b 64 74 (mixH s.data.toList 0)) H ?_
  clear H
  intro w1 H
  have hwb : w.heap.size ≤ b := by omega
  clear hb
  go_wp2_with fail
  go_loopw [11] (fun v wr => ∃ k : Nat, k ≤ 32 ∧ v = .int .i64 k ∧ HxAt w wr b 64 74 (mixH s.data.toList k)) (fun v _ => 32 - (intOf v).toNat)
  case atStart => exact ⟨0, by omega, rfl, H⟩
  case round =>
    clear H
    obtain ⟨k, hk, rfl, H⟩ := hrel
    by_cases hlt : k < 32
    · have hks : k < s.size := by omega
      have c1 := H.q.cell (2 * k) (by omega)
      have c2 := H.q.cell (2 * k + 1) (by omega)
      have f1 := H.q.frozen (2 * k)
      have f2 := H.q.frozen (2 * k + 1)
      have hb : (s[k].toNat : Int) < 256 := by have := s[k].toNat_lt; omega
      have e15 : bits .and .u8 (s[k].toNat : Int) 15 = (s[k].toNat : Int) % 16 := u8_and15 _ (by omega) hb
      have x1 := hd_eq (s[k].toNat / 16) (by omega)
      have x2 := hd_eq (s[k].toNat % 16) (by omega)
      go_upto_region 9 with (fail)
      clear c1 c2 f1 f2 hb e15
      have X1 := Lib.hid x1
      have X2 := Lib.hid x2
      clear x1 x2
      refine wp_gen (fun w' => HxAt w w' b 64 74 (mixH s.data.toList (k + 1))) ?_ ?_
      · have h5 := (H.put_ hwb (2 * k) (hdI (s[k].toNat / 16))).put_ hwb (2 * k + 1) (hdI (s[k].toNat % 16))
        refine HxAt.congr (f := fun j => if j = 2 * k + 1 then hdI (s[k].toNat % 16) else if j = 2 * k then hdI (s[k].toNat / 16) else mixH s.data.toList k j) ?_ fun i _ => ?_
        · first | exact h5 | (simp only [X1.out, X2.out]; exact h5)
        · show (if i = 2 * k + 1 then hdI (s[k].toNat % 16) else if i = 2 * k then hdI (s[k].toNat / 16) else mixH s.data.toList k i) = mixH s.data.toList (k + 1) i
          by_cases hi : i = 2 * k + 1
          · rw [if_pos hi, mixH_lt _ _ _ (by omega), hexAt_odd _ _ (by omega), show i / 2 = k from by omega, get_D s k hks]
          · rw [if_neg hi]
            by_cases hj : i = 2 * k
            · rw [if_pos hj, mixH_lt _ _ _ (by omega), hexAt_even _ _ (by omega), show i / 2 = k from by omega, get_D s k hks]
            · rw [if_neg hj]
              by_cases hq : i < 2 * k
              · rw [mixH_lt _ _ _ hq, mixH_lt _ _ _ (by omega)]
              · rw [mixH_ge _ _ _ hq, mixH_ge _ _ _ (by omega)]
      · clear H X1 X2
        intro w8 H
        go_wp2_with fail
        go_roundw
        case rel => exact ⟨k + 1, by omega, by go_num, H⟩
        case measure => simp [intOf]; omega
    · obtain rfl : k = 32 := by omega
      have hcv := H.q.str 76 5 9 Tryz.underlying76 Tryz.underlying5 Tryz.underlying9
      rw [show (List.range 64).map (mixH s.data.toList 32) = (List.range 64).map (hexAt s.data.toList) from List.map_congr_left fun i hi => by
        have : i < 64 := by simpa using hi
        unfold mixH; rw [if_pos (by omega)]] at hcv
      rw [show strOfNums ((List.range 64).map (hexAt s.data.toList)) = hexS s from rfl] at hcv
      go_wp2_with fail
      go_ret2
      exact ⟨rfl, H.k⟩
end Go.Proofs.YtmmdldicafbjdaaGreatDoor.Dg
