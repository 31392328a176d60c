/- The reference's numerals. No condition but a bound. -/
import Derived.Test.YtmmdldicafbjdaaGreatDoorCdLists
import Derived.Deep.RegionWith
import Derived.Laws.IdiomStrings
namespace Go.Proofs.YtmmdldicafbjdaaGreatDoor.Cd
open Go.RowKit

theorem bcell {W w1 : World} (hb : Below W.heap.size W w1) : (∀ b o, b < W.heap.size → w1.cell? ⟨b, o, none⟩ = W.cell? ⟨b, o, none⟩) ∧ (∀ b o, b < W.heap.size → w1.frozen? ⟨b, o, none⟩ = W.frozen? ⟨b, o, none⟩) :=
  ⟨fun b o h => hb.cell (p := ⟨b, o, none⟩) h, fun b o h => hb.frozen (p := ⟨b, o, none⟩) h⟩
/-- 'string([]byte{c})'. -/
theorem one_str (W : World) (g : Nat) (x : Int) (c : UInt8) (hx : x = (c.toNat : Int)) (h : W.cell? ⟨g, 0, none⟩ = some (.int .u8 x)) :
    (convert 76 9 (.slice (some ⟨g, 0, none⟩) 1 1)).run Tryz.prog W = .ok (.string (str [c])) W :=
  run_convert_bytes_back W 76 9 5 ⟨g, 0, none⟩ 1 [c] Tryz.underlying76 Tryz.underlying5 Tryz.underlying9 (fun j hj => by
    have h0 : j = 0 := by simpa using hj
    subst h0
    have hadd : (⟨g, 0, none⟩ : Addr).add 0 = ⟨g, 0, none⟩ := by simp [Addr.add]
    rw [hadd, h, hx]; rfl)
theorem dig_nat (d : Nat) (h : d < 10) : 48 + (d : Int) = ((UInt8.ofNat (48 + d)).toNat : Int) := by rw [Cod.digit_nat h]; omega

set_option maxHeartbeats 4000000 in
set_option maxRecDepth 100000 in
theorem decimal_any : ∀ (n : Nat), n ≤ 9223372036854775807 → ∀ (w : World), Calls Tryz.prog 50 #[.int .i64 (n : Int)] w fun e w' => e = .returned (.string (str (Lib.decDigits n))) ∧ Below w.heap.size w w' := by
  intro n
  induction n using Nat.strongRecOn with
  | _ n ih =>
    intro hn w
    by_cases h : n < 10
    · have hd0 := Cod.dec_small h
      have hdn := dig_nat n h
      generalize UInt8.ofNat (48 + n) = c at *
      have hd := Lib.hid hd0
      have b1 : decide ((n : Int) < 10) = true := by simp; omega
      have hcv := fun (W : World) (g : Nat) => one_str W g (48 + (n : Int)) c hdn
      clear hd0 hdn
      go_enter Tryz.func50, Tryz.ntmps50
      go_wp2_with fail
      go_ret
      exact ⟨by rw [hd.out]; rfl, (Below.refl _ _).alloc (Nat.le_refl _) _⟩
    · have hd := Lib.hid (Cod.dec_big h)
      have b1 : decide ((n : Int) < 10) = false := by simp; omega
      obtain ⟨q, hq⟩ : ∃ q, q = n / 10 := ⟨_, rfl⟩
      obtain ⟨r, hr⟩ : ∃ r, r = n % 10 := ⟨_, rfl⟩
      have hr10 : r < 10 := by omega
      have hih := ih q (by omega) (by omega)
      have i1 : ((n : Int)).tdiv 10 = (q : Int) := by rw [Int.tdiv_eq_ediv_of_nonneg (by omega)]; omega
      have i2 : ((n : Int)).tmod 10 = (r : Int) := by rw [Int.tmod_eq_emod_of_nonneg (by omega)]; omega
      have n1 : (n : Int) / 10 = (q : Int) := by omega
      have n2 : (n : Int) % 10 = (r : Int) := by omega
      have i3 : IntKind.i64.wrap (q : Int) = (q : Int) := IntWalk.i64_in _ (by omega)
      have i4 : IntKind.i64.wrap (r : Int) = (r : Int) := IntWalk.i64_in _ (by omega)
      have i5 : IntKind.i64.wrap (48 + (r : Int)) = 48 + (r : Int) := IntWalk.i64_in _ (by omega)
      have i6 : IntKind.u8.wrap (48 + (r : Int)) = 48 + (r : Int) := by rw [IntKind.wrap_u8']; omega
      have hdn := dig_nat r hr10
      have hlen := dec_len q (by omega)
      rw [← str_size] at hlen
      have hE : str (Lib.decDigits q) ++ str [UInt8.ofNat (48 + r)] = str (Lib.decDigits n) := by rw [str_app, hd.out, hq, hr]
      generalize UInt8.ofNat (48 + r) = c at *
      have hcv := fun (W : World) (g : Nat) => one_str W g (48 + (r : Int)) c hdn
      have hs1 : (str [c]).size ≤ 1 := by rw [str_size]; simp
      have HE := Lib.hid hE
      clear hE hq hr hdn
      go_enter Tryz.func50, Tryz.ntmps50
      go_wp2_with fail
      go_region_with (go_at_call 50; refine (hih _).mono ?_; rintro e w2 ⟨rfl, hb⟩; obtain ⟨hc, hf⟩ := bcell hb)
      all_goals
        go_wp2_with fail
        go_ret
        refine ⟨by rw [← HE.out]; rfl, ?_⟩
        first
          | exact Below.alloc (⟨hb.os, hb.tape, hb.output, hb.size, hb.block⟩ : Below w.heap.size w w2) (show w.heap.size ≤ w2.heap.size from hb.size) _
          | exact Below.trans (((Below.refl w.heap.size w).alloc (Nat.le_refl _) _).drew) (hb.mono (by simp))
end Go.Proofs.YtmmdldicafbjdaaGreatDoor.Cd
