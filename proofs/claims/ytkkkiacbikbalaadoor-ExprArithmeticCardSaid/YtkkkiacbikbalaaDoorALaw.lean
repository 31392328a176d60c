/- The law ExprArithmetic returns true. Condition: the library's error of ranges lies in its variable. -/
import Derived.Test.YtkkkiacbikbalaaDoorAwk
import Derived.Test.YtkkkiacbikbalaaDoorAri
namespace Go.Proofs.YtkkkiacbikbalaaDoor
open Go.RowKit

theorem ari2_at (t : List UInt8) (x y : Int) (hy : 0 ≤ y) (w : World) : Calls Tryd.prog 20 #[.string (str t), .int .u32 x, .int .u32 y] w fun e w' => e = .returned (.int .u32 (bo t x y)) ∧ w = w' := by
  have h := ari2_any (str t) x y hy w
  rw [str_list] at h; exact h
theorem ari1_at (t : List UInt8) (x : Int) (w : World) : Calls Tryd.prog 21 #[.string (str t), .int .u32 x] w fun e w' => e = .returned (.int .u32 (un t x)) ∧ w = w' := by
  have h := ari1_any (str t) x w
  rw [str_list] at h; exact h
theorem ne_of {a b : Int} (h : a = b) : (a != b) = false := by rw [h]; simp
theorem eq_of {a b : Int} (h : a = b) : (a == b) = true := by rw [h]; simp
theorem three_mod (x y : Int) : ((bo [60] x y + bo [61, 61] x y) % 4294967296 + bo [62] x y) % 4294967296 = 1 := by
  have h := id_three x y
  have h1 := tru_lt (decide (wrap32 x < wrap32 y))
  have h2 := tru_lt (wrap32 x == wrap32 y)
  have h3 := tru_lt (decide (wrap32 y < wrap32 x))
  show ((tru (decide (wrap32 x < wrap32 y)) + tru (wrap32 x == wrap32 y)) % 4294967296 + tru (decide (wrap32 y < wrap32 x))) % 4294967296 = 1
  omega
theorem id_xor (x y : Int) (hx : 0 ≤ x ∧ x < 4294967296) (hy : 0 ≤ y ∧ y < 4294967296) : bo [94] x y = (bo [124] x y - bo [38] x y) % 4294967296 := by
  have h := oa_int hx hy
  show bits .xor .u32 x y = (bits .or .u32 x y - bits .and .u32 x y) % 4294967296
  omega
theorem id_oa (x y : Int) (hx : 0 ≤ x ∧ x < 4294967296) (hy : 0 ≤ y ∧ y < 4294967296) : bo [43] (bo [124] x y) (bo [38] x y) = bo [43] x y := by
  have h := oa_int hx hy
  show (bits .or .u32 x y + bits .and .u32 x y) % 4294967296 = (x + y) % 4294967296
  rw [h.1]
theorem fa_f1 (x y : Int) (_hx : 0 ≤ x ∧ x < 4294967296) (_hy : 0 ≤ y ∧ y < 4294967296) : ((bo [47] x y * y % 4294967296 + bo [37] x y) % 4294967296 != x) = false := ne_of (id_div x y _hx)
theorem fa_f2 (x y : Int) (_hx : 0 ≤ x ∧ x < 4294967296) (_hy : 0 ≤ y ∧ y < 4294967296) : (un [45] x != (un [126] x + 1) % 4294967296) = false := ne_of (id_neg x _hx).symm
theorem fa_f3 (x y : Int) (_hx : 0 ≤ x ∧ x < 4294967296) (_hy : 0 ≤ y ∧ y < 4294967296) : (un [33] (un [33] x) != bo [33, 61] x 0) = false := ne_of ((id_nn x).resolve_right (fun h => h _hx))
theorem fa_f4 (x y : Int) (_hx : 0 ≤ x ∧ x < 4294967296) (_hy : 0 ≤ y ∧ y < 4294967296) : (bo [60, 60] x 1 != bo [43] x x) = false := ne_of (id_dbl x)
theorem fa_f5 (x y : Int) (_hx : 0 ≤ x ∧ x < 4294967296) (_hy : 0 ≤ y ∧ y < 4294967296) : (bo [60, 60] x ((y + 32) % 4294967296) != bo [60, 60] x y) = false := ne_of (id_sh x y)
theorem fa_g1 (x y : Int) (_hx : 0 ≤ x ∧ x < 4294967296) (_hy : 0 ≤ y ∧ y < 4294967296) : (((bo [60] x y + bo [61, 61] x y) % 4294967296 + bo [62] x y) % 4294967296 != 1) = false := ne_of (three_mod x y)
theorem fa_g2 (x y : Int) (_hx : 0 ≤ x ∧ x < 4294967296) (_hy : 0 ≤ y ∧ y < 4294967296) : (bo [60, 61] x y != un [33] (bo [62] x y)) = false := ne_of (id_le _ _)
theorem fa_g3 (x y : Int) (_hx : 0 ≤ x ∧ x < 4294967296) (_hy : 0 ≤ y ∧ y < 4294967296) : (bo [62, 61] x y != bo [60, 61] y x) = false := ne_of rfl
theorem fa_g4 (x y : Int) (_hx : 0 ≤ x ∧ x < 4294967296) (_hy : 0 ≤ y ∧ y < 4294967296) : (bo [33, 61] x y != un [33] (bo [61, 61] x y)) = false := ne_of (id_ne _ _)
theorem fa_k1 (x y : Int) (_hx : 0 ≤ x ∧ x < 4294967296) (_hy : 0 ≤ y ∧ y < 4294967296) : (bo [38, 38] x y != un [33] (bo [124, 124] (un [33] x) (un [33] y))) = false := ne_of (id_and x y)
theorem fa_k2 (x y : Int) (_hx : 0 ≤ x ∧ x < 4294967296) (_hy : 0 ≤ y ∧ y < 4294967296) : (bo [94] x y != (bo [124] x y - bo [38] x y) % 4294967296) = false := ne_of (id_xor x y _hx _hy)
theorem fa_k3 (x y : Int) (_hx : 0 ≤ x ∧ x < 4294967296) (_hy : 0 ≤ y ∧ y < 4294967296) : (bo [43] (bo [124] x y) (bo [38] x y) != bo [43] x y) = false := ne_of (id_oa x y _hx _hy)
theorem fa_m1 (x y : Int) (_hx : 0 ≤ x ∧ x < 4294967296) (_hy : 0 ≤ y ∧ y < 4294967296) : (bo [62, 62] x 31 == bo [45] 0 (bo [60] x 0)) = true := eq_of (id_31 x)
theorem fa_m2 (x y : Int) (_hx : 0 ≤ x ∧ x < 4294967296) (_hy : 0 ≤ y ∧ y < 4294967296) : (bo [45] (bo [43] x y) y == x) = true := eq_of (id_back x y _hx)
theorem fa_m3 (x y : Int) (_hx : 0 ≤ x ∧ x < 4294967296) (_hy : 0 ≤ y ∧ y < 4294967296) : (bo [42] x y == bo [42] y x) = true := eq_of (id_comm x y)
theorem fa_p1 (x y : Int) (hx : 0 ≤ x ∧ x < 4294967296) : ((bo [47] x y * y + bo [37] x y) % 4294967296 != x) = false := ne_of (by have h := id_div x y hx; rwa [Int.emod_add_emod] at h)
theorem fa_p2 (x y : Int) : ((bo [60] x y + bo [61, 61] x y + bo [62] x y) % 4294967296 != 1) = false := ne_of (by have h := three_mod x y; rwa [Int.emod_add_emod] at h)
set_option maxHeartbeats 8000000 in
set_option maxRecDepth 100000 in
theorem arithmetic_law (x y : Int) (w : World) (hE : Errs w) (hx : 0 ≤ x ∧ x < 4294967296) (hy : 0 ≤ y ∧ y < 4294967296) :
    Calls Tryd.prog 6 #[.int .u32 x, .int .u32 y] w fun e w' => e = .returned (.bool true) ∧ Below w.heap.size w w' := by
  have b47 : ∀ (x y : Int), 0 ≤ y → ∀ w, Calls Tryd.prog 20 #[.string ⟨#[47]⟩, .int .u32 x, .int .u32 y] w fun e w' => e = .returned (.int .u32 (bo [47] x y)) ∧ w = w' := fun x y h w => ari2_at [47] x y h w
  have b37 : ∀ (x y : Int), 0 ≤ y → ∀ w, Calls Tryd.prog 20 #[.string ⟨#[37]⟩, .int .u32 x, .int .u32 y] w fun e w' => e = .returned (.int .u32 (bo [37] x y)) ∧ w = w' := fun x y h w => ari2_at [37] x y h w
  have b33_61 : ∀ (x y : Int), 0 ≤ y → ∀ w, Calls Tryd.prog 20 #[.string ⟨#[33, 61]⟩, .int .u32 x, .int .u32 y] w fun e w' => e = .returned (.int .u32 (bo [33, 61] x y)) ∧ w = w' := fun x y h w => ari2_at [33, 61] x y h w
  have b60_60 : ∀ (x y : Int), 0 ≤ y → ∀ w, Calls Tryd.prog 20 #[.string ⟨#[60, 60]⟩, .int .u32 x, .int .u32 y] w fun e w' => e = .returned (.int .u32 (bo [60, 60] x y)) ∧ w = w' := fun x y h w => ari2_at [60, 60] x y h w
  have b43 : ∀ (x y : Int), 0 ≤ y → ∀ w, Calls Tryd.prog 20 #[.string ⟨#[43]⟩, .int .u32 x, .int .u32 y] w fun e w' => e = .returned (.int .u32 (bo [43] x y)) ∧ w = w' := fun x y h w => ari2_at [43] x y h w
  have b60 : ∀ (x y : Int), 0 ≤ y → ∀ w, Calls Tryd.prog 20 #[.string ⟨#[60]⟩, .int .u32 x, .int .u32 y] w fun e w' => e = .returned (.int .u32 (bo [60] x y)) ∧ w = w' := fun x y h w => ari2_at [60] x y h w
  have b61_61 : ∀ (x y : Int), 0 ≤ y → ∀ w, Calls Tryd.prog 20 #[.string ⟨#[61, 61]⟩, .int .u32 x, .int .u32 y] w fun e w' => e = .returned (.int .u32 (bo [61, 61] x y)) ∧ w = w' := fun x y h w => ari2_at [61, 61] x y h w
  have b62 : ∀ (x y : Int), 0 ≤ y → ∀ w, Calls Tryd.prog 20 #[.string ⟨#[62]⟩, .int .u32 x, .int .u32 y] w fun e w' => e = .returned (.int .u32 (bo [62] x y)) ∧ w = w' := fun x y h w => ari2_at [62] x y h w
  have b60_61 : ∀ (x y : Int), 0 ≤ y → ∀ w, Calls Tryd.prog 20 #[.string ⟨#[60, 61]⟩, .int .u32 x, .int .u32 y] w fun e w' => e = .returned (.int .u32 (bo [60, 61] x y)) ∧ w = w' := fun x y h w => ari2_at [60, 61] x y h w
  have b62_61 : ∀ (x y : Int), 0 ≤ y → ∀ w, Calls Tryd.prog 20 #[.string ⟨#[62, 61]⟩, .int .u32 x, .int .u32 y] w fun e w' => e = .returned (.int .u32 (bo [62, 61] x y)) ∧ w = w' := fun x y h w => ari2_at [62, 61] x y h w
  have b38_38 : ∀ (x y : Int), 0 ≤ y → ∀ w, Calls Tryd.prog 20 #[.string ⟨#[38, 38]⟩, .int .u32 x, .int .u32 y] w fun e w' => e = .returned (.int .u32 (bo [38, 38] x y)) ∧ w = w' := fun x y h w => ari2_at [38, 38] x y h w
  have b124_124 : ∀ (x y : Int), 0 ≤ y → ∀ w, Calls Tryd.prog 20 #[.string ⟨#[124, 124]⟩, .int .u32 x, .int .u32 y] w fun e w' => e = .returned (.int .u32 (bo [124, 124] x y)) ∧ w = w' := fun x y h w => ari2_at [124, 124] x y h w
  have b94 : ∀ (x y : Int), 0 ≤ y → ∀ w, Calls Tryd.prog 20 #[.string ⟨#[94]⟩, .int .u32 x, .int .u32 y] w fun e w' => e = .returned (.int .u32 (bo [94] x y)) ∧ w = w' := fun x y h w => ari2_at [94] x y h w
  have b124 : ∀ (x y : Int), 0 ≤ y → ∀ w, Calls Tryd.prog 20 #[.string ⟨#[124]⟩, .int .u32 x, .int .u32 y] w fun e w' => e = .returned (.int .u32 (bo [124] x y)) ∧ w = w' := fun x y h w => ari2_at [124] x y h w
  have b38 : ∀ (x y : Int), 0 ≤ y → ∀ w, Calls Tryd.prog 20 #[.string ⟨#[38]⟩, .int .u32 x, .int .u32 y] w fun e w' => e = .returned (.int .u32 (bo [38] x y)) ∧ w = w' := fun x y h w => ari2_at [38] x y h w
  have b62_62 : ∀ (x y : Int), 0 ≤ y → ∀ w, Calls Tryd.prog 20 #[.string ⟨#[62, 62]⟩, .int .u32 x, .int .u32 y] w fun e w' => e = .returned (.int .u32 (bo [62, 62] x y)) ∧ w = w' := fun x y h w => ari2_at [62, 62] x y h w
  have b45 : ∀ (x y : Int), 0 ≤ y → ∀ w, Calls Tryd.prog 20 #[.string ⟨#[45]⟩, .int .u32 x, .int .u32 y] w fun e w' => e = .returned (.int .u32 (bo [45] x y)) ∧ w = w' := fun x y h w => ari2_at [45] x y h w
  have b42 : ∀ (x y : Int), 0 ≤ y → ∀ w, Calls Tryd.prog 20 #[.string ⟨#[42]⟩, .int .u32 x, .int .u32 y] w fun e w' => e = .returned (.int .u32 (bo [42] x y)) ∧ w = w' := fun x y h w => ari2_at [42] x y h w
  have u45 : ∀ (x : Int) w, Calls Tryd.prog 21 #[.string ⟨#[45]⟩, .int .u32 x] w fun e w' => e = .returned (.int .u32 (un [45] x)) ∧ w = w' := fun x w => ari1_at [45] x w
  have u126 : ∀ (x : Int) w, Calls Tryd.prog 21 #[.string ⟨#[126]⟩, .int .u32 x] w fun e w' => e = .returned (.int .u32 (un [126] x)) ∧ w = w' := fun x w => ari1_at [126] x w
  have u33 : ∀ (x : Int) w, Calls Tryd.prog 21 #[.string ⟨#[33]⟩, .int .u32 x] w fun e w' => e = .returned (.int .u32 (un [33] x)) ∧ w = w' := fun x w => ari1_at [33] x w
  have n1 : 0 ≤ un [33] y := (un_lt hy.1 hy.2).1
  have n2 : 0 ≤ bo [60] x 0 := (bi_lt hx.1 hx.2 (by decide) (by decide)).1
  have n3 : 0 ≤ bo [38] x y := (bi_lt hx.1 hx.2 hy.1 hy.2).1
  have n4 : 0 ≤ (y + 32) % 4294967296 := by omega
  have hx0 := hx.1
  have hy0 := hy.1
  have f1 := fa_f1 x y hx hy
  have p1 := fa_p1 x y hx
  have p2 := fa_p2 x y
  have f2 := fa_f2 x y hx hy
  have f3 := fa_f3 x y hx hy
  have f4 := fa_f4 x y hx hy
  have f5 := fa_f5 x y hx hy
  have g1 := fa_g1 x y hx hy
  have g2 := fa_g2 x y hx hy
  have g3 := fa_g3 x y hx hy
  have g4 := fa_g4 x y hx hy
  have k1 := fa_k1 x y hx hy
  have k2 := fa_k2 x y hx hy
  have k3 := fa_k3 x y hx hy
  have m1 := fa_m1 x y hx hy
  have m2 := fa_m2 x y hx hy
  have m3 := fa_m3 x y hx hy
  go_enter Tryd.func6, Tryd.ntmps6
  go_wp2_with fail
  refine (awake_any w hE).mono ?_
  rintro e w1 ⟨rfl, hb⟩
  go_wp2_with (first | (go_at_call 20; (with_reducible (first | refine (b47 _ _ ?_ _).mono ?_ | refine (b37 _ _ ?_ _).mono ?_ | refine (b33_61 _ _ ?_ _).mono ?_ | refine (b60_60 _ _ ?_ _).mono ?_ | refine (b43 _ _ ?_ _).mono ?_ | refine (b60 _ _ ?_ _).mono ?_ | refine (b61_61 _ _ ?_ _).mono ?_ | refine (b62 _ _ ?_ _).mono ?_ | refine (b60_61 _ _ ?_ _).mono ?_ | refine (b62_61 _ _ ?_ _).mono ?_ | refine (b38_38 _ _ ?_ _).mono ?_ | refine (b124_124 _ _ ?_ _).mono ?_ | refine (b94 _ _ ?_ _).mono ?_ | refine (b124 _ _ ?_ _).mono ?_ | refine (b38 _ _ ?_ _).mono ?_ | refine (b62_62 _ _ ?_ _).mono ?_ | refine (b45 _ _ ?_ _).mono ?_ | refine (b42 _ _ ?_ _).mono ?_)); (first | assumption | omega | decide); rintro e w' ⟨rfl, rfl⟩) | (go_at_call 21; (with_reducible (first | refine (u45 _ _).mono ?_ | refine (u126 _ _).mono ?_ | refine (u33 _ _).mono ?_)); rintro e w' ⟨rfl, rfl⟩))
  go_ret
  exact ⟨rfl, hb⟩
end Go.Proofs.YtkkkiacbikbalaaDoor
