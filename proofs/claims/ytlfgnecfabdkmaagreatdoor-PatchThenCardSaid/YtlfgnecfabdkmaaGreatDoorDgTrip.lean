/- Hex and Parse undo each other. No condition. -/
import Derived.Test.YtlfgnecfabdkmaaGreatDoorPz2
namespace Go.Proofs.YtlfgnecfabdkmaaGreatDoor.Dg
open Go.RowKit

theorem bytes_ext {a b : ByteArray} (h : a.data.toList = b.data.toList) : a = b := by
  cases a; cases b; exact congrArg ByteArray.mk (Array.toList_inj.1 h)
theorem size_list (s : ByteArray) : s.data.toList.length = s.size := rfl

theorem hv_hd : ∀ n, n < 16 → hv (UInt8.ofNat (hdI n).toNat) = n := by decide +kernel
theorem hd_hv' : ∀ n, n < 256 → 0 ≤ hv (UInt8.ofNat n) → UInt8.ofNat (hdI (hv (UInt8.ofNat n)).toNat).toNat = UInt8.ofNat n := by decide +kernel
theorem hd_hv (c : UInt8) (h : 0 ≤ hv c) : UInt8.ofNat (hdI (hv c).toNat).toNat = c := by
  have h1 := hd_hv' c.toNat c.toNat_lt
  rw [UInt8.ofNat_toNat] at h1
  exact h1 h
theorem hexS_size (s : ByteArray) : (hexS s).size = 64 := by unfold hexS; rw [strOfNums_size]; simp
theorem parS_size (s : ByteArray) : (parS s).size = 32 := by unfold parS; rw [strOfNums_size]; simp
theorem hexS_at (s : ByteArray) (j : Nat) (h : j < 64) : (hexS s).data.toList.getD j 0 = UInt8.ofNat (hexAt s.data.toList j).toNat := by
  unfold hexS; rw [strOfNums_data]; simp [h]
theorem parS_at (s : ByteArray) (j : Nat) (h : j < 32) : (parS s).data.toList.getD j 0 = UInt8.ofNat (parAt s.data.toList j).toNat := by
  unfold parS; rw [strOfNums_data]; simp [h]
theorem hv_hex (s : ByteArray) (j : Nat) (h : j < 64) : hv ((hexS s).data.toList.getD j 0) = if j % 2 = 0 then (((s.data.toList.getD (j / 2) 0).toNat / 16 : Nat) : Int) else (((s.data.toList.getD (j / 2) 0).toNat % 16 : Nat) : Int) := by
  rw [hexS_at s j h]
  have := (s.data.toList.getD (j / 2) 0).toNat_lt
  unfold hexAt
  split
  · exact hv_hd _ (by omega)
  · exact hv_hd _ (by omega)
theorem ext_D {a b : ByteArray} (n : Nat) (ha : a.size = n) (hb : b.size = n) (h : ∀ j, j < n → a.data.toList.getD j 0 = b.data.toList.getD j 0) : a = b := by
  apply bytes_ext
  apply List.ext_getElem
  · rw [size_list, size_list, ha, hb]
  · intro i h1 h2
    have h3 := h i (by rw [size_list] at h1; omega)
    rwa [List.getD_eq_getElem?_getD, List.getD_eq_getElem?_getD, List.getElem?_eq_getElem h1, List.getElem?_eq_getElem h2] at h3
theorem par_hex (s : ByteArray) (hs : s.size = 32) : parV (hexS s) = .tuple #[.string s, .int .i64 0] := by
  unfold parV
  rw [if_pos ⟨hexS_size s, fun j hj => by rw [hv_hex s j hj]; split <;> omega⟩]
  have : parS (hexS s) = s := by
    refine ext_D 32 (parS_size _) hs fun j hj => ?_
    rw [parS_at _ j hj]
    unfold parAt
    rw [hv_hex s (2 * j) (by omega), hv_hex s (2 * j + 1) (by omega), if_pos (by omega), if_neg (by omega)]
    rw [show 2 * j / 2 = j by omega, show (2 * j + 1) / 2 = j by omega]
    generalize s.data.toList.getD j 0 = c
    rw [show (16 * ((c.toNat / 16 : Nat) : Int) + ((c.toNat % 16 : Nat) : Int)).toNat = c.toNat by omega, UInt8.ofNat_toNat]
  rw [this]
theorem hex_par (t : ByteArray) (hs : t.size = 64) (h : AllHex t.data.toList 64) : hexS (parS t) = t := by
  refine ext_D 64 (hexS_size _) hs fun j hj => ?_
  rw [hexS_at _ j hj]
  unfold hexAt
  rw [parS_at _ (j / 2) (by omega)]
  unfold parAt
  have hlo := h j hj
  have h1 := h (2 * (j / 2)) (by omega)
  have h2 := h (2 * (j / 2) + 1) (by omega)
  have l1 := (hv_lt (t.data.toList.getD (2 * (j / 2)) 0)).1
  have l2 := (hv_lt (t.data.toList.getD (2 * (j / 2) + 1) 0)).1
  have e1 : (UInt8.ofNat (16 * hv (t.data.toList.getD (2 * (j / 2)) 0) + hv (t.data.toList.getD (2 * (j / 2) + 1) 0)).toNat).toNat = (16 * hv (t.data.toList.getD (2 * (j / 2)) 0) + hv (t.data.toList.getD (2 * (j / 2) + 1) 0)).toNat := by
    simp only [UInt8.toNat_ofNat']
    omega
  rw [e1]
  by_cases hj2 : j % 2 = 0
  · rw [if_pos hj2]
    have e : 2 * (j / 2) = j := by omega
    rw [e] at h1 l1 ⊢
    rw [show (16 * hv (t.data.toList.getD j 0) + hv (t.data.toList.getD (j + 1) 0)).toNat / 16 = (hv (t.data.toList.getD j 0)).toNat by rw [e] at h2 l2; omega]
    exact hd_hv _ hlo
  · rw [if_neg hj2]
    have e : 2 * (j / 2) + 1 = j := by omega
    rw [show (16 * hv (t.data.toList.getD (2 * (j / 2)) 0) + hv (t.data.toList.getD (2 * (j / 2) + 1) 0)).toNat % 16 = (hv (t.data.toList.getD (2 * (j / 2) + 1) 0)).toNat by omega, e]
    exact hd_hv _ hlo
end Go.Proofs.YtlfgnecfabdkmaaGreatDoor.Dg
