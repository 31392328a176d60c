/- Print of the program, and what rests on it. Condition: the digits' table lies. -/
import Derived.Test.YtmmdldicafbjdaaGreatDoorShp
import Derived.Test.YtmmdldicafbjdaaGreatDoorCdNum
import Derived.Lib.AppendZeros
import Derived.Deep.Upon
import Derived.Deep.RegionLaw
import Derived.Deep.Onto
namespace Go.Proofs.YtmmdldicafbjdaaGreatDoor
open Go.RowKit Go.Deep Tr

theorem hex_def (b : List UInt8) : Pc.hex b = (Dg.hexS ⟨b.toArray⟩).data.toList := rfl
theorem addr_addS (g o j : Nat) : (⟨g, o, none⟩ : Addr).add j = ⟨g, o + j, none⟩ := by simp [Addr.add]
theorem strs_one (ps : List (List UInt8)) : ∀ u ∈ strs ps, u.oneCell' = true := fun u hu => by
  obtain ⟨x, _, rfl⟩ := List.mem_map.1 hu; rfl
theorem strs_app (a b : List (List UInt8)) : strs (a ++ b) = strs a ++ strs b := List.map_append
theorem src_noneS {P : Program} {size : Nat} {tx e' : TypeId} (w : World) (hk : P.underlying tx = some (.slice e')) (A : Option Addr) (c : Nat) : Src P size tx (.slice A 0 c) 0 [] w := by
  cases A with
  | none => exact Src.ofNil w hk c
  | some a => exact Src.ofSlice w hk a 0 c [] (by simp) (fun j u h => by simp at h) (by simp)
theorem own_capS {w : World} {B size n c : Nat} {e : TypeId} {A : Option Addr} {xs : List Value} (h : w.ownsRow B e size (.slice A n c) n xs) : n ≤ c ∧ c ≤ maxLen := by
  rcases h.2 with ⟨h1, h2⟩ | ⟨g, cap, cur, h1, _, _, hn, hc, _⟩
  · injection h1 with h3 h4 h5
    subst h5; subst h4
    exact ⟨Nat.le_refl _, Nat.zero_le _⟩
  · injection h1 with h3 h4 h5
    subst h5
    exact ⟨hn, hc⟩
theorem cells_row {w : World} {B : Nat} {A : Option Addr} {vs : List Value} (h : CellsAt w B A vs) (hn : 0 < vs.length) : ∃ g o, A = some ⟨g, o, none⟩ ∧ g < B ∧ ∀ j u, vs[j]? = some u → w.cell? ⟨g, o + j, none⟩ = some u := by
  obtain ⟨g, o, rfl, hg, _⟩ := h 0 hn
  refine ⟨g, o, rfl, hg, fun j u hj => ?_⟩
  have hlt := (List.getElem?_eq_some_iff.1 hj).1
  obtain ⟨g', o', e, _, hc⟩ := h j hlt
  injection e with e
  injection e with e1 e2 _
  subst e1; subst e2
  rw [hc, ← hj, List.getElem?_eq_getElem hlt]
/-- Lines that lie somewhere are appended to a row of the call's own. -/
theorem app_strs (ty : TypeId) (w : World) (B : Nat) (v : Value) (xs ys : List (List UInt8)) (hown : w.ownsRow B 9 1 v xs.length (strs xs)) (A : Option Addr) (c : Nat) (hA : CellsAt w w.heap.size A (strs ys)) (hB : B ≤ w.heap.size) (hlen : xs.length + ys.length ≤ 100000000) :
    ∃ v' w', (Builtin.append_ #[45, 45] ty #[v, .slice A ys.length c]).run Tryz.prog w = .ok v' w' ∧ w'.ownsRow B 9 1 v' (xs ++ ys).length (strs (xs ++ ys)) ∧ w.grownBy w' v.ownBlock := by
  obtain ⟨i0, hi0, hz0, hz1, hz2⟩ := info_parts infoS
  by_cases h0 : ys.length = 0
  · have e : ys = [] := List.length_eq_zero_iff.1 h0
    subst e
    obtain ⟨A0, c0, rfl, _⟩ := owns_cells hown
    obtain ⟨hcc, _⟩ := own_capS hown
    refine ⟨_, w, run_append_nothing w 45 45 ty 9 i0 Tryz.underlying45 hi0 A0 _ c0 hcc _ (src_noneS w Tryz.underlying45 A c), by rw [List.append_nil]; exact hown, ⟨rfl, rfl, rfl, Nat.le_refl _, fun _ _ _ => rfl⟩⟩
  · obtain ⟨g, o, rfl, hg, hc⟩ := cells_row hA (by rw [strs_len]; omega)
    obtain ⟨gg, cap, w3, hrun, hown3, hgrow, _, _⟩ := run_append_lies (P := Tryz.prog) w 45 ty B 9 i0 _ 1 16 Tryz.underlying45 hi0 hz0 hz1 hz2 rfl (by omega) v xs.length _ hown ⟨g, o, none⟩ ys.length c (strs ys) (by rw [strs_len, Nat.mul_one]) (fun j u hj => by rw [addr_addS]; exact hc j u hj) (strs_one ys) (by omega) (by unfold maxLen; omega) (by omega) hB w.heap.size rfl
    exact ⟨_, w3, hrun, by rw [strs_app, List.length_append]; exact hown3, hgrow⟩
def paV (p : Pc.Pa) (A : Option Addr) (c : Nat) : Value := .agg #[.string (str p.base), .slice A p.hs.length c]
theorem paV_def (p : Pc.Pa) (A : Option Addr) (c : Nat) : paV p A c = .agg #[.string (str p.base), .slice A p.hs.length c] := rfl
/-- A patch where it lies. -/
structure PaOk (w : World) (p : Pc.Pa) (A : Option Addr) : Prop where
  at_ : HsAt w w.heap.size A p.hs
  len : p.hs.length ≤ 1000000000
  base : p.base.length ≤ 1000000000
  each : ∀ h ∈ p.hs, ∀ l ∈ h.ls, l.length ≤ 1000000
theorem PaOk.next {w w' : World} {p : Pc.Pa} {A : Option Addr} (h : PaOk w p A) (hb : Below w.heap.size w w') : PaOk w' p A := ⟨h.at_.next hb, h.len, h.base, h.each⟩
theorem word_def (k : Int) : Pc.word k = if k = 1 then [107, 101, 101, 112, 32] else if k = 2 then [100, 114, 111, 112, 32] else [97, 100, 100, 32] := rfl
theorem word_len (k : Int) : (Pc.word k).length ≤ 5 := by
  rw [word_def]
  split
  · simp
  · split <;> simp
set_option maxHeartbeats 2000000 in
theorem wordOf_any (k : Int) (w : World) : Calls Tryz.prog 20 #[.int .i64 k] w fun e w' => e = .returned (.string (str (Pc.word k))) ∧ w = w' := by
  have HV := Lib.hid (word_def k)
  generalize Pc.word k = v at *
  by_cases h1 : k = 1
  · have b1 : (k == 1) = true := by rw [beq_iff_eq]; exact h1
    have HT := Lib.hid (HV.out.trans (if_pos h1))
    clear HV h1
    go_enter Tryz.func20, Tryz.ntmps20
    go_wp2_with fail
    go_ret
    exact ⟨by rw [HT.out]; rfl, rfl⟩
  · have b1 : (k == 1) = false := by rw [beq_eq_false_iff_ne]; exact h1
    have HV1 := Lib.hid (HV.out.trans (if_neg h1))
    clear HV h1
    by_cases h2 : k = 2
    · have b2 : (k == 2) = true := by rw [beq_iff_eq]; exact h2
      have HT := Lib.hid (HV1.out.trans (if_pos h2))
      clear HV1 h2
      go_enter Tryz.func20, Tryz.ntmps20
      go_wp2_with fail
      go_ret
      exact ⟨by rw [HT.out]; rfl, rfl⟩
    · have b2 : (k == 2) = false := by rw [beq_eq_false_iff_ne]; exact h2
      have HT := Lib.hid (HV1.out.trans (if_neg h2))
      clear HV1 h2
      go_enter Tryz.func20, Tryz.ntmps20
      go_wp2_with fail
      go_ret
      exact ⟨by rw [HT.out]; rfl, rfl⟩
/-- What Print's lines are, and whether they are wanted. -/
theorem valid_def (p : Pc.Pa) : Pc.valid p = (Pc.shape p.hs && Pc.baseOk p.base && decide ((Tre.join (Pc.printL p)).2 = 0)) := rfl
theorem print_def (p : Pc.Pa) : Pc.print p = if Pc.valid p = true then (Tre.joined (Pc.printL p), 0) else ([], 1) := rfl
theorem printL_def (p : Pc.Pa) : Pc.printL p = (if p.base = [] then [] else [Pc.baseW ++ Pc.hex p.base]) ++ Pc.bodyL p.hs := rfl
theorem hex_any (b : List UInt8) (w : World) : Calls Tryz.prog 19 #[.string (str b)] w fun e w' => e = .returned (if b.length = 32 then .tuple #[.string (str (Pc.hex b)), .int .i64 0] else .tuple #[.string ⟨#[]⟩, .int .i64 1]) ∧ Below w.heap.size w w' := by
  by_cases h : b.length = 32
  · rw [if_pos h]
    refine (Dg.hex_good (str b) (by rw [str_size]; exact h) w).mono fun e w' ⟨h1, h2⟩ => ⟨?_, h2⟩
    rw [h1, hex_def]
    show Ending.returned (.tuple #[.string (Dg.hexS (str b)), .int .i64 0]) = .returned (.tuple #[.string (str (Dg.hexS (str b)).data.toList), .int .i64 0])
    rw [str_of]
  · rw [if_neg h]
    exact (Dg.hex_bad (str b) (by rw [str_size]; exact h) w).mono fun e w' ⟨h1, h2⟩ => ⟨h1, by rw [← h2]; exact Below.refl _ _⟩
end Go.Proofs.YtmmdldicafbjdaaGreatDoor
