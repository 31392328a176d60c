/- Parse returns the digest with a text, or the error. No condition. -/
import Derived.Test.YtmmdldicafbjdaaGreatDoorDgHex
import Derived.Lib.Bytealg
namespace Go.Proofs.YtmmdldicafbjdaaGreatDoor.Dg
open Go.RowKit

/-- The value of a hexadecimal digit, or -1. -/
def hv (c : UInt8) : Int := Lib.indexByte hexL c
theorem hv_lt' : ∀ n, n < 256 → hv (UInt8.ofNat n) < 16 ∧ -1 ≤ hv (UInt8.ofNat n) := by decide +kernel
theorem hv_lt (c : UInt8) : hv c < 16 ∧ -1 ≤ hv c := by
  have h := hv_lt' c.toNat c.toNat_lt
  rwa [UInt8.ofNat_toNat] at h

set_option maxHeartbeats 1000000 in
set_option maxRecDepth 100000 in
theorem slIndexByte_any (s : ByteArray) (c : Int) (w : World) :
    Calls Tryz.prog 71 #[.string s, .int .u8 c] w fun e w' => e = .returned (.int .i64 (Lib.indexByte s.data.toList c.toNat.toUInt8)) ∧ w = w' := by
  go_enter Tryz.func71, Tryz.ntmps71
  go_wp2
  rw [run_callFunc_extern Tryz.func85 (by kernel_rfl) (by kernel_rfl) (by kernel_rfl) (e := Extern.BytealgIndexByte.indexByte) (by kernel_rfl), Lib.run_indexByteString]
  simp only [Result.andThen]
  rw [Oper.upon_value]
  go_wp2
  go_ret
  exact ⟨rfl, rfl⟩
set_option maxHeartbeats 1000000 in
theorem strIndexByte_any (s : ByteArray) (c : Int) (w : World) :
    Calls Tryz.prog 54 #[.string s, .int .u8 c] w fun e w' => e = .returned (.int .i64 (Lib.indexByte s.data.toList c.toNat.toUInt8)) ∧ w = w' := by
  go_enter Tryz.func54, Tryz.ntmps54
  go_wp2_with (go_at_call 71; refine (slIndexByte_any _ _ _).mono ?_; rintro e w' ⟨rfl, rfl⟩)
  go_ret
  exact ⟨rfl, rfl⟩
theorem digit_any (c : UInt8) (w : World) :
    Calls Tryz.prog 54 #[.string ⟨#[48, 49, 50, 51, 52, 53, 54, 55, 56, 57, 97, 98, 99, 100, 101, 102]⟩, .int .u8 (c.toNat : Int)] w fun e w' => e = .returned (.int .i64 (hv c)) ∧ w = w' := by
  have h := strIndexByte_any ⟨#[48, 49, 50, 51, 52, 53, 54, 55, 56, 57, 97, 98, 99, 100, 101, 102]⟩ (c.toNat : Int) w
  rw [show ((c.toNat : Int).toNat.toUInt8) = c from by rw [Int.toNat_natCast]; simp] at h
  exact h

def AllHex (l : List UInt8) (k : Nat) : Prop := ∀ j, j < k → 0 ≤ hv (l.getD j 0)
instance (l : List UInt8) (k : Nat) : Decidable (AllHex l k) := by unfold AllHex; exact inferInstance
def parAt (l : List UInt8) (j : Nat) : Int := 16 * hv (l.getD (2 * j) 0) + hv (l.getD (2 * j + 1) 0)
def mixP (l : List UInt8) (i j : Nat) : Int := if 2 * j + 1 < i then parAt l j else if 2 * j < i then hv (l.getD (2 * j) 0) else 0
/-- The digest with a text. -/
def parS (t : ByteArray) : ByteArray := strOfNums ((List.range 32).map (parAt t.data.toList))
def parV (t : ByteArray) : Value := if t.size = 64 ∧ AllHex t.data.toList 64 then .tuple #[.string (parS t), .int .i64 0] else .tuple #[.string ⟨#[]⟩, .int .i64 4]
theorem or16 : ∀ a, a < 16 → ∀ b, b < 16 → bits .or .u8 ((a : Nat) * 16 : Int) (b : Nat) = (16 * a + b : Nat) := by decide +kernel

set_option maxHeartbeats 1000000 in
set_option maxRecDepth 100000 in
theorem parse_long (t : ByteArray) (hs : t.size ≠ 64) (w : World) :
    Calls Tryz.prog 31 #[.string t] w fun e w' => e = .returned (parV t) ∧ Below w.heap.size w w' := by
  have h : ((t.size : Int) != 64) = true := by rw [bne_iff_ne]; omega
  have hv := Lib.hid (show parV t = .tuple #[.string ⟨#[]⟩, .int .i64 4] from if_neg fun h => hs h.1)
  clear hs
  go_enter Tryz.func31, Tryz.ntmps31
  go_wp2_with fail
  go_ret2
  exact ⟨by rw [hv.out]; rfl, Below.refl _ _⟩

set_option maxHeartbeats 2000000 in
set_option maxRecDepth 100000 in
theorem parse_64 (t : ByteArray) (hs : t.size = 64) (w : World) :
    Calls Tryz.prog 31 #[.string t] w fun e w' => e = .returned (parV t) ∧ Below w.heap.size w w' := by
  have h : ((t.size : Int) != 64) = false := by rw [bne_eq_false_iff_eq]; omega
  have HS := Lib.hid hs
  have hs1 : t.size ≤ 64 := by omega
  have hs2 : 64 ≤ t.size := by omega
  clear hs
  have H : HxAt w (w.alloc (.cells #[Value.int .u8 0, Value.int .u8 0, Value.int .u8 0, Value.int .u8 0, Value.int .u8 0, Value.int .u8 0, Value.int .u8 0, Value.int .u8 0, Value.int .u8 0, Value.int .u8 0, Value.int .u8 0, Value.int .u8 0, Value.int .u8 0, Value.int .u8 0, Value.int .u8 0, Value.int .u8 0, Value.int .u8 0, Value.int .u8 0, Value.int .u8 0, Value.int .u8 0, Value.int .u8 0, Value.int .u8 0, Value.int .u8 0, Value.int .u8 0, Value.int .u8 0, Value.int .u8 0, Value.int .u8 0, Value.int .u8 0, Value.int .u8 0, Value.int .u8 0, Value.int .u8 0, Value.int .u8 0] 83)) w.heap.size 32 83 (mixP t.data.toList 0) := by
    refine ⟨?_, (Below.refl _ _).alloc (Nat.le_refl _) _⟩
    exact World.rowIs_alloc w #[Value.int .u8 0, Value.int .u8 0, Value.int .u8 0, Value.int .u8 0, Value.int .u8 0, Value.int .u8 0, Value.int .u8 0, Value.int .u8 0, Value.int .u8 0, Value.int .u8 0, Value.int .u8 0, Value.int .u8 0, Value.int .u8 0, Value.int .u8 0, Value.int .u8 0, Value.int .u8 0, Value.int .u8 0, Value.int .u8 0, Value.int .u8 0, Value.int .u8 0, Value.int .u8 0, Value.int .u8 0, Value.int .u8 0, Value.int .u8 0, Value.int .u8 0, Value.int .u8 0, Value.int .u8 0, Value.int .u8 0, Value.int .u8 0, Value.int .u8 0, Value.int .u8 0, Value.int .u8 0] 83 _ (fun i hi => by
      have hi32 : i < 32 := hi
      have : (mixP t.data.toList 0 i) = 0 := by unfold mixP; rw [if_neg (by omega), if_neg (by omega)]
      rw [this]
      rw [show (#[Value.int .u8 0, Value.int .u8 0, Value.int .u8 0, Value.int .u8 0, Value.int .u8 0, Value.int .u8 0, Value.int .u8 0, Value.int .u8 0, Value.int .u8 0, Value.int .u8 0, Value.int .u8 0, Value.int .u8 0, Value.int .u8 0, Value.int .u8 0, Value.int .u8 0, Value.int .u8 0, Value.int .u8 0, Value.int .u8 0, Value.int .u8 0, Value.int .u8 0, Value.int .u8 0, Value.int .u8 0, Value.int .u8 0, Value.int .u8 0, Value.int .u8 0, Value.int .u8 0, Value.int .u8 0, Value.int .u8 0, Value.int .u8 0, Value.int .u8 0, Value.int .u8 0, Value.int .u8 0] : Array Value) = (List.replicate 32 (Value.int .u8 0)).toArray from rfl]
      rw [List.getElem?_toArray, List.getElem?_replicate, if_pos hi32])
  go_enter Tryz.func31, Tryz.ntmps31
  go_upto_region 4 with (fail)
  obtain ⟨b, hb⟩ : ∃ b, b = w.heap.size := ⟨_, rfl⟩
  rw [← hb] at H
  rw [← hb]
  refine wp_gen (fun w' => HxAt w w' b 32 83 (mixP t.data.toList 0)) H ?_
  clear H
  intro w1 H
  have hwb : w.heap.size ≤ b := by omega
  clear hb
  go_wp2_with fail
  go_loopw [12] (fun v wr => ∃ k : Nat, k ≤ 64 ∧ v = .int .i64 k ∧ AllHex t.data.toList k ∧ HxAt w wr b 32 83 (mixP t.data.toList k)) (fun v _ => 64 - (intOf v).toNat)
  case atStart => exact ⟨0, by omega, rfl, fun j hj => by omega, H⟩
  case round =>
    clear H
    obtain ⟨k, hk, rfl, hA, H⟩ := hrel
    have HA := Lib.hid hA
    clear hA
    by_cases hlt : k < 64
    · have hks : k < t.size := by omega
      have hvl := hv_lt t[k]
      have hgd := get_D t k hks
      by_cases hg : 0 ≤ hv t[k]
      · obtain ⟨v, hv'⟩ := Int.eq_ofNat_of_zero_le hg
        have hv16 : v < 16 := by omega
        have HGD := Lib.hid hgd
        clear hgd hvl hg
        have HV := Lib.hid hv'
        clear hv'
        have ho : 0 ≤ mixP t.data.toList k (k / 2) ∧ mixP t.data.toList k (k / 2) < 16 := by
          unfold mixP
          rw [if_neg (by omega)]
          by_cases h2 : 2 * (k / 2) < k
          · rw [if_pos h2]; exact ⟨HA.out _ (by omega), (hv_lt _).1⟩
          · rw [if_neg h2]; omega
        obtain ⟨o, ho'⟩ := Int.eq_ofNat_of_zero_le ho.1
        have ho16 : o < 16 := by omega
        clear ho
        obtain ⟨q, hq⟩ : ∃ q, q = k / 2 := ⟨_, rfl⟩
        rw [← hq] at ho'
        have hq32 : q < 32 := by omega
        have c := H.q.cell q hq32
        rw [ho'] at c
        have f := H.q.frozen q
        have HO := Lib.hid ho'
        have HQ := Lib.hid hq
        have i1 : (k : Int) / 2 = (q : Int) := by omega
        clear ho' hq
        go_upto_region 8 with (go_at_call 54; refine (digit_any _ _).mono ?_; rintro e w' ⟨rfl, rfl⟩)
        rw [HV.out]
        go_upto_region 11 with (fail)
        clear c f i1
        refine wp_gen (fun w' => HxAt w w' b 32 83 (mixP t.data.toList (k + 1))) ?_ ?_
        · have h5 := H.put_ hwb q (bits BinOp.or IntKind.u8 ((o : Int) * 16) (v : Int))
          refine h5.congr fun i hi => ?_
          rw [or16 o ho16 v hv16]
          show (if i = q then ((16 * o + v : Nat) : Int) else mixP t.data.toList k i) = mixP t.data.toList (k + 1) i
          have hq := HQ.out
          have hval : hv (t.data.toList.getD k 0) = (v : Int) := by rw [HGD.out, HV.out]
          by_cases hiq : i = q
          · rw [if_pos hiq, hiq]
            have ho := HO.out
            unfold mixP at ho ⊢
            by_cases hodd : 2 * q + 1 < k + 1
            · rw [if_pos hodd]
              rw [if_neg (by omega), if_pos (by omega)] at ho
              unfold parAt
              rw [ho, show 2 * q + 1 = k from by omega, hval]
              omega
            · rw [if_neg hodd, if_pos (by omega)]
              rw [if_neg (by omega), if_neg (by omega)] at ho
              rw [show 2 * q = k from by omega, hval]
              omega
          · rw [if_neg hiq]
            unfold mixP
            by_cases h1 : 2 * i + 1 < k
            · rw [if_pos h1, if_pos (by omega)]
            · have h2 : ¬ 2 * i < k := by omega
              have h3 : ¬ 2 * i + 1 < k + 1 := by omega
              have h4 : ¬ 2 * i < k + 1 := by omega
              rw [if_neg h1, if_neg h2, if_neg h3, if_neg h4]
        · clear H
          intro w8 H
          go_wp2_with fail
          have hA2 : AllHex t.data.toList (k + 1) := fun j hj => by
            by_cases e : j = k
            · subst e; rw [HGD.out, HV.out]; omega
            · exact HA.out j (by omega)
          go_roundw
          case rel => exact ⟨k + 1, by omega, by go_num, hA2, H⟩
          case measure => simp [intOf]; omega
      · have hneg : hv t[k] < 0 := by omega
        have hbad : parV t = .tuple #[.string ⟨#[]⟩, .int .i64 4] := if_neg fun h => hg (by rw [← hgd]; exact h.2 k hlt)
        have HB := Lib.hid hbad
        clear hbad hgd hvl hg
        go_upto_region 8 with (go_at_call 54; refine (digit_any _ _).mono ?_; rintro e w' ⟨rfl, rfl⟩)
        generalize hv t[k] = v at *
        go_wp2_with fail
        go_ret2
        exact ⟨by rw [HB.out]; rfl, H.k⟩
    · obtain rfl : k = 64 := by omega
      have hcv := H.q.str 76 5 9 Tryz.underlying76 Tryz.underlying5 Tryz.underlying9
      rw [show (List.range 32).map (mixP t.data.toList 64) = (List.range 32).map (parAt t.data.toList) from List.map_congr_left fun i hi => by
        have : i < 32 := by simpa using hi
        unfold mixP; rw [if_pos (by omega)]] at hcv
      rw [show strOfNums ((List.range 32).map (parAt t.data.toList)) = parS t from rfl] at hcv
      have HP := Lib.hid (show parV t = .tuple #[.string (parS t), .int .i64 0] from if_pos ⟨HS.out, HA.out⟩)
      go_wp2_with fail
      go_ret2
      exact ⟨by rw [HP.out]; rfl, H.k⟩
theorem parse_any (t : ByteArray) (w : World) :
    Calls Tryz.prog 31 #[.string t] w fun e w' => e = .returned (parV t) ∧ Below w.heap.size w w' := by
  by_cases h : t.size = 64
  · exact parse_64 t h w
  · exact parse_long t h w
end Go.Proofs.YtmmdldicafbjdaaGreatDoor.Dg
