/- The reference's numerals, symbols and parentheses. No condition but the lengths. -/
import Derived.Test.YtkkkiacbikbalaaGreatDoorQnd
import Derived.Test.YtkkkiacbikbalaaGreatDoorPap
import Derived.Test.YtkkkiacbikbalaaGreatDoorRnd
import Derived.Deep.RegionWith
import Derived.Laws.IdiomStrings
namespace Go.Proofs.YtkkkiacbikbalaaGreatDoor
open Go.RowKit Go.Deep

theorem bcell {W w1 : World} (hb : Below W.heap.size W w1) : (∀ b o, b < W.heap.size → w1.cell? ⟨b, o, none⟩ = W.cell? ⟨b, o, none⟩) ∧ (∀ b o, b < W.heap.size → w1.frozen? ⟨b, o, none⟩ = W.frozen? ⟨b, o, none⟩) :=
  ⟨fun b o h => hb.cell (p := ⟨b, o, none⟩) h, fun b o h => hb.frozen (p := ⟨b, o, none⟩) h⟩
/-- 'string([]byte{c})'. -/
theorem one_str (W : World) (g : Nat) (x : Int) (c : UInt8) (hx : x = (c.toNat : Int)) (h : W.cell? ⟨g, 0, none⟩ = some (.int .u8 x)) :
    (convert 82 9 (.slice (some ⟨g, 0, none⟩) 1 1)).run Tryz.prog W = .ok (.string (str [c])) W :=
  run_convert_bytes_back W 82 9 5 ⟨g, 0, none⟩ 1 [c] Tryz.underlying82 Tryz.underlying5 Tryz.underlying9 (fun j hj => by
    have h0 : j = 0 := by simpa using hj
    subst h0
    have hadd : (⟨g, 0, none⟩ : Addr).add 0 = ⟨g, 0, none⟩ := by simp [Addr.add]
    rw [hadd, h, hx]; rfl)
theorem dig_nat (d : Nat) (h : d < 10) : 48 + (d : Int) = ((UInt8.ofNat (48 + d)).toNat : Int) := by rw [Tok.digit_nat h]; omega
set_option maxHeartbeats 4000000 in
set_option maxRecDepth 100000 in
theorem qdec_any : ∀ (n : Nat), n ≤ 4294967295 → ∀ (w : World), Calls Tryz.prog 33 #[.int .u32 (n : Int)] w fun e w' => e = .returned (.string (str (Lib.decDigits n))) ∧ Below w.heap.size w w' := by
  intro n
  induction n using Nat.strongRecOn with
  | _ n ih =>
    intro hn w
    by_cases h : n < 10
    · have hd0 := Tok.dec_small h
      have hdn := dig_nat n h
      generalize UInt8.ofNat (48 + n) = c at *
      have hd := Lib.hid hd0
      have b1 : decide ((n : Int) < 10) = true := by simp; omega
      have i5 : IntKind.u32.wrap (48 + (n : Int)) = 48 + (n : Int) := by rw [IntKind.wrap_u32]; omega
      have i7 : (48 + (n : Int)) % 4294967296 = 48 + (n : Int) := by omega
      have i6 : IntKind.u8.wrap (48 + (n : Int)) = 48 + (n : Int) := by rw [IntKind.wrap_u8']; omega
      have hcv := fun (W : World) (g : Nat) => one_str W g (48 + (n : Int)) c hdn
      clear hd0 hdn
      go_enter Tryz.func33, Tryz.ntmps33
      go_wp2_with fail
      go_ret
      exact ⟨by rw [hd.out]; rfl, (Below.refl _ _).alloc (Nat.le_refl _) _⟩
    · have hd := Lib.hid (Tok.dec_big h)
      have b1 : decide ((n : Int) < 10) = false := by simp; omega
      obtain ⟨q, hq⟩ : ∃ q, q = n / 10 := ⟨_, rfl⟩
      obtain ⟨r, hr⟩ : ∃ r, r = n % 10 := ⟨_, rfl⟩
      have hr10 : r < 10 := by omega
      have hih := ih q (by omega) (by omega)
      have i1 : ((n : Int)).tdiv 10 = (q : Int) := by rw [Int.tdiv_eq_ediv_of_nonneg (by omega)]; omega
      have i2 : ((n : Int)).tmod 10 = (r : Int) := by rw [Int.tmod_eq_emod_of_nonneg (by omega)]; omega
      have n1 : (n : Int) / 10 = (q : Int) := by omega
      have n2 : (n : Int) % 10 = (r : Int) := by omega
      have i3 : IntKind.u32.wrap (q : Int) = (q : Int) := by rw [IntKind.wrap_u32]; omega
      have i4 : IntKind.u32.wrap (r : Int) = (r : Int) := by rw [IntKind.wrap_u32]; omega
      have i5 : IntKind.u32.wrap (48 + (r : Int)) = 48 + (r : Int) := by rw [IntKind.wrap_u32]; omega
      have i6 : IntKind.u8.wrap (48 + (r : Int)) = 48 + (r : Int) := by rw [IntKind.wrap_u8']; omega
      have hdn := dig_nat r hr10
      have hlen := Ex.dec_le q (by omega)
      rw [← str_size] at hlen
      have hE : str (Lib.decDigits q) ++ str [UInt8.ofNat (48 + r)] = str (Lib.decDigits n) := by rw [str_app, hd.out, hq, hr]
      generalize UInt8.ofNat (48 + r) = c at *
      have hcv := fun (W : World) (g : Nat) => one_str W g (48 + (r : Int)) c hdn
      have hs1 : (str [c]).size ≤ 1 := by rw [str_size]; simp
      have HE := Lib.hid hE
      clear hE hq hr hdn
      go_enter Tryz.func33, Tryz.ntmps33
      go_wp2_with fail
      go_region_with (go_at_call 33; refine (hih _).mono ?_; rintro e w2 ⟨rfl, hb⟩; obtain ⟨hc, hf⟩ := bcell hb)
      all_goals
        go_wp2_with fail
        go_ret
        refine ⟨by rw [← HE.out]; rfl, ?_⟩
        first
          | exact Below.alloc (⟨hb.os, hb.tape, hb.output, hb.size, hb.block⟩ : Below w.heap.size w w2) (show w.heap.size ≤ w2.heap.size from hb.size) _
          | exact Below.trans (((Below.refl w.heap.size w).alloc (Nat.le_refl _) _).drew) (hb.mono (by simp))
set_option maxRecDepth 100000 in
theorem qsym_tok (t : List UInt8) (w : World) : Calls Tryz.prog 35 #[.string (str t)] w fun e w' => e = .returned (.agg #[.int .i64 3, .string (str t)]) ∧ Below w.heap.size w w' ∧ w.heap.size ≤ w'.heap.size := by
  have hb0 : Below w.heap.size w (w.alloc (.cells #[.int .i64 0, .string ⟨#[]⟩] 45)) := (Below.refl _ _).alloc (Nat.le_refl _) _
  go_enter Tryz.func35, Tryz.ntmps35
  go_wp2_with fail
  exact bodyPost_ret (v := .agg #[.int .i64 3, .string (str t)]) (by simp [results, Tryz.results35, go_sem]) rfl ⟨rfl, by first | exact (Below.refl _ _).alloc (Nat.le_refl _) _ | exact (hb0.setCell (by simp) _).setCell (by simp) _, by simp⟩
theorem own_one (w : World) (B : Nat) (hB : B ≤ w.heap.size) (t : List UInt8) (k : Int) : (w.alloc (.cells #[.int .i64 k, .string (str t)] 45)).ownsRow B 45 2 (.slice (some ⟨w.heap.size, 0, none⟩) 1 1) 1 (tksOf [⟨k, t⟩]) :=
  ⟨rfl, .inr ⟨w.heap.size, 1, _, rfl, hB, heap_alloc_new w _, Nat.le_refl _, by unfold maxLen; omega, rfl, rfl⟩⟩
set_option maxHeartbeats 4000000 in
set_option maxRecDepth 100000 in
theorem qwithin_any (p : Pt) (lv n : Int) (w : World) (hp : PtOk w p) (hl : p.ts.length ≤ 10000000) :
    Calls Tryz.prog 36 #[.agg #[p.v, .int .i64 lv], .int .i64 n] w fun e w' => ∃ p2 : Pt, e = .returned p2.v ∧ p2.ts = Ex.inP p.ts lv n ∧ PtOk w' p2 ∧ Below w.heap.size w w' := by
  obtain ⟨i0, hi0, hz0, hz1, hz2⟩ := info_parts infoT
  have hb0 : Below w.heap.size w (w.alloc (.cells #[p.v, .int .i64 lv] 68)) := (Below.refl _ _).alloc (Nat.le_refl _) _
  by_cases hle : n ≤ lv
  · have q1 : decide (n ≤ lv) = true := by simp; omega
    rw [Pt.v_def] at hb0 ⊢
    go_enter Tryz.func36, Tryz.ntmps36
    go_wp2_with fail
    go_ret
    exact ⟨p, rfl, by unfold Ex.inP; rw [if_pos hle], hp.next hb0, hb0⟩
  · have q1 : decide (n ≤ lv) = false := by simp; omega
    rw [Pt.v_def] at hb0 ⊢
    go_enter Tryz.func36, Tryz.ntmps36
    go_upto_region 3 with fail
    have hp1 := hp.next hb0
    have hgp := hp.lt
    have hpos := hp.pos
    have e1 : (w.alloc (.cells #[.slice (some ⟨p.g, p.o, none⟩) p.ts.length p.c, .int .i64 lv] 68)).cell? ⟨w.heap.size, 0, none⟩ = some (.slice (some ⟨p.g, p.o, none⟩) p.ts.length p.c) := new_cell _ _ _ _ _ rfl
    have hs0 : w.heap.size < (w.alloc (.cells #[.slice (some ⟨p.g, p.o, none⟩) p.ts.length p.c, .int .i64 lv] 68)).heap.size := by simp
    clear hp
    generalize w.alloc (.cells #[.slice (some ⟨p.g, p.o, none⟩) p.ts.length p.c, .int .i64 lv] 68) = w0 at *
    have e2 : w0.drew.cell? ⟨w.heap.size, 0, none⟩ = some (.slice (some ⟨p.g, p.o, none⟩) p.ts.length p.c) := e1
    have hs1 : w.heap.size < w0.drew.heap.size := hs0
    have hp2 : PtOk w0.drew p := ⟨hp1.pos, hp1.lt, hp1.at_⟩
    have hb1 : Below w.heap.size w w0.drew := hb0.drew
    have hc40 : ∀ w, Calls Tryz.prog 35 #[.string ⟨#[40]⟩] w fun e w' => e = .returned (.agg #[.int .i64 3, .string ⟨#[40]⟩]) ∧ Below w.heap.size w w' ∧ w.heap.size ≤ w'.heap.size := qsym_tok [40]
    have hc41 : ∀ w, Calls Tryz.prog 35 #[.string ⟨#[41]⟩] w fun e w' => e = .returned (.agg #[.int .i64 3, .string ⟨#[41]⟩]) ∧ Below w.heap.size w w' ∧ w.heap.size ≤ w'.heap.size := qsym_tok [41]
    have ho1 : ∀ (W : World), w.heap.size ≤ W.heap.size → (W.alloc (.cells #[.int .i64 3, .string ⟨#[40]⟩] 45)).ownsRow w.heap.size 45 2 (.slice (some ⟨W.heap.size, 0, none⟩) 1 1) 1 (tksOf [⟨3, [40]⟩]) := fun W h => own_one W w.heap.size h [40] 3
    have hn2 : ∀ (w : World), PtOk (w.alloc (.cells #[.int .i64 3, .string ⟨#[41]⟩] 45)) ⟨w.heap.size, 0, 1, [⟨3, [41]⟩]⟩ := fun w => pt_new w ⟨3, [41]⟩
    clear hp1 hb0 e1 hs0
    go_region_law ((first
      | (go_simp; go_at_call 35; with_reducible refine (hc40 _).mono ?_; rintro e w3 ⟨rfl, hb3, hs3⟩; have hB3 := hb1.trans (hb3.mono hb1.size); have hP3 := hp2.next hb3; have e3 := cell_below hb3 hs1 e2; have e3b := cell_alloc (.cells #[.int .i64 3, .string ⟨#[40]⟩] 45) (lt_below hb3 hs1) e3)
      | (go_simp; go_at_call 35; with_reducible refine (hc41 _).mono ?_; rintro e w5 ⟨rfl, hb5, hs5⟩; have hB5 := hB4.trans (hb5.mono hB4.size); have hown5 := owns_below hown4 hb5; have hrow5 := hown5.lt)
      | (refine step_append_lies _ (by rfl) _ _ 22 (by rfl) w.heap.size 45 i0 _ 2 24 Tryz.underlying22 hi0 hz0 hz1 hz2 rfl (by omega) _ 1 _ (by rfl) (ho1 w3 hB3.size) ⟨p.g, p.o, none⟩ p.ts.length p.c (tksOf p.ts) (by rfl) (tksOf_len _) (fun j u hj => by rw [addr_add]; exact (pt_alloc _ hP3).at_ j u hj) (tksOf_one _) hpos (by unfold maxLen; omega) (by omega) (by have := hB3.size; simp; omega) _ rfl ?_; intro gg cap3 w4 hown4 hgrow hat hlt4; have hB4 : Below w.heap.size w w4 := grown_own (hB3.alloc hB3.size _) hgrow (fun j hj => ((ho1 w3 hB3.size).lt j hj).1); rw [← tksOf_app] at hown4)
      | (refine step_append_lies _ (by rfl) _ _ 22 (by rfl) w.heap.size 45 i0 _ 2 24 Tryz.underlying22 hi0 hz0 hz1 hz2 rfl (by omega) _ (1 + p.ts.length) _ (by rfl) (hown5.alloc _) ⟨w5.heap.size, 0, none⟩ 1 1 (tksOf [⟨3, [41]⟩]) (by rfl) (tksOf_len _) (fun j u hj => by rw [addr_add]; exact (hn2 w5).at_ j u hj) (tksOf_one _) (by omega) (by unfold maxLen; omega) (by omega) (by have := hB5.size; simp; omega) _ rfl ?_; intro gg2 cap4 w6 hown6 hgrow6 hat6 hlt6; have hB6 : Below w.heap.size w w6 := grown_own (hB5.alloc hB5.size _) hgrow6 (fun j hj => (hrow5 j hj).1); rw [← tksOf_app] at hown6)))
    all_goals
      go_wp2_with fail
      go_ret
      obtain ⟨p3, hpv, hpt, hpk, _⟩ := own_pt (ts := [⟨3, [40]⟩] ++ p.ts ++ [⟨3, [41]⟩]) (by rw [show ([⟨3, [40]⟩] ++ p.ts ++ [⟨3, [41]⟩] : List Tok.Tk).length = 1 + p.ts.length + 1 by simp; omega]; exact hown6) (by simp)
      exact ⟨p3, by rw [← hpv]; rfl, by rw [hpt]; unfold Ex.inP; rw [if_neg (by omega)], hpk, hB6⟩
set_option maxHeartbeats 8000000 in
set_option maxRecDepth 100000 in
theorem qcall_any (A : Option Addr) (c : Nat) (t : List UInt8) (L : List Pl) (w : World) (hA : VAt w w.heap.size A L) (hl : L.length ≤ 300) (hlen : ∀ p ∈ L, p.1.ts.length ≤ 100000) :
    Calls Tryz.prog 34 #[.string (str t), .slice A L.length c] w (GotP w (Ex.callT t (L.map (fun p => p.1.ts))) 12) := by
  obtain ⟨i0, hi0, hz0, hz1, hz2⟩ := info_parts infoT
  have HALL := Lib.hid (callK_all t L)
  have c40 : ∀ w, Calls Tryz.prog 35 #[.string ⟨#[40]⟩] w fun e w' => e = .returned (.agg #[.int .i64 3, .string ⟨#[40]⟩]) ∧ Below w.heap.size w w' ∧ w.heap.size ≤ w'.heap.size := qsym_tok [40]
  have c41 : ∀ w, Calls Tryz.prog 35 #[.string ⟨#[41]⟩] w fun e w' => e = .returned (.agg #[.int .i64 3, .string ⟨#[41]⟩]) ∧ Below w.heap.size w w' ∧ w.heap.size ≤ w'.heap.size := qsym_tok [41]
  have c44 : ∀ w, Calls Tryz.prog 35 #[.string ⟨#[44]⟩] w fun e w' => e = .returned (.agg #[.int .i64 3, .string ⟨#[44]⟩]) ∧ Below w.heap.size w w' ∧ w.heap.size ≤ w'.heap.size := qsym_tok [44]
  generalize Ex.callT t (L.map (fun p => p.1.ts)) = R at *
  go_enter Tryz.func34, Tryz.ntmps34
  go_upto_region 1 with fail
  have hb0 : Below w.heap.size w (w.alloc (.cells #[.slice none 0 0, .int .i64 0] 68)) := (Below.refl _ _).alloc (Nat.le_refl _) _
  have hr := heap_alloc_new w (.cells #[.slice none 0 0, .int .i64 0] 68)
  have hA0 := hA.next hb0
  have hs0 : (w.alloc (.cells #[.slice none 0 0, .int .i64 0] 68)).heap.size = w.heap.size + 1 := by simp
  have HS0 := Lib.hid hs0
  clear hA hs0
  generalize w.alloc (.cells #[.slice none 0 0, .int .i64 0] 68) = w0 at *
  have q2 := c40 w0
  go_wp2_with fail
  with_reducible refine q2.mono ?_
  clear q2
  rintro e w2 ⟨rfl, hb2, hs2⟩
  have hB2 : Below w0.heap.size w0 w2 := hb2
  have hown2 := own_two w2 w0.heap.size hB2.size ⟨1, t⟩ ⟨3, [40]⟩
  have hB3 := hB2.alloc hB2.size (.cells #[.int .i64 1, .string (str t), .int .i64 3, .string (str [40])] 45)
  clear hb2 hs2
  go_upto_region 3 with fail
  change (w2.alloc (.cells #[.int .i64 1, .string (str t), .int .i64 3, .string ⟨#[40]⟩] 45)).ownsRow _ _ _ _ _ _ at hown2
  change Below _ _ (w2.alloc (.cells #[.int .i64 1, .string (str t), .int .i64 3, .string ⟨#[40]⟩] 45)) at hB3
  generalize w2.alloc (.cells #[.int .i64 1, .string (str t), .int .i64 3, .string ⟨#[40]⟩] 45) = w3 at *
  go_loopw [5, 14] (fun v i wr => ∃ (k : Nat), k ≤ L.length ∧ i = .int .i64 k ∧ (Ex.callK t L k).length ≤ 2 + 100001 * k ∧ 1 ≤ (Ex.callK t L k).length ∧ wr.ownsRow w0.heap.size 45 2 v (Ex.callK t L k).length (tksOf (Ex.callK t L k)) ∧ Below w0.heap.size w0 wr) (fun _ i _ => L.length - (intOf i).toNat)
  case atStart => exact ⟨0, by omega, rfl, by simp [Ex.callK], by simp [Ex.callK], hown2, hB3⟩
  case round =>
    clear hown2 hB3 hB2
    obtain ⟨k, hk, rfl, hkl, hk1, hown, hb⟩ := hrel
    by_cases hlt : k < L.length
    · have b1 : decide ((k : Int) < L.length) = true := by simp; omega
      have b1n : decide (k < L.length) = true := by simp; omega
      have HS := Lib.hid (callK_succ t L k hlt)
      obtain ⟨⟨g, o, rfl, hg, hd0, hd1⟩, hp0⟩ := hA0 k hlt
      have hpl := hlen L[k] (List.getElem_mem hlt)
      have hp := hp0.next hb
      have hgp := hp0.lt
      have e0 := (hb.cell (p := ⟨g, o + k * 2, none⟩) hg).trans hd0
      have e1 := (hb.cell (p := ⟨g, o + k * 2 + 1, none⟩) hg).trans hd1
      clear hd0 hd1 hp0
      generalize L[k] = pl at *
      obtain ⟨p, lv⟩ := pl
      dsimp only at hp e0 e1 hpl hgp
      have HS2 := Lib.hid (show Ex.callK t L (k + 1) = Ex.callK t L k ++ (if 0 < k then [⟨3, [44]⟩] else []) ++ p.ts from HS.out)
      clear HS
      rw [Pt.v_def] at e0
      have hpos := hp.pos
      by_cases hk0 : 0 < k
      · have b2 : decide ((0 : Int) < (k : Int)) = true := by simp; omega
        have b2n : decide (0 < k) = true := by simp; omega
        have HN := Lib.hid (HS2.out.trans (by rw [if_pos hk0]))
        clear HS2 hk0
        go_upto_region 6 with fail
        have hb4 : Below w0.heap.size w0 (wr.alloc (.cells #[.slice (some ⟨p.g, p.o, none⟩) p.ts.length p.c, .int .i64 lv] 68)) := hb.alloc hb.size _
        have hown4 := hown.alloc (.cells #[.slice (some ⟨p.g, p.o, none⟩) p.ts.length p.c, .int .i64 lv] 68)
        have hp4 := pt_alloc (.cells #[.slice (some ⟨p.g, p.o, none⟩) p.ts.length p.c, .int .i64 lv] 68) hp
        have hx4 := heap_alloc_new wr (.cells #[.slice (some ⟨p.g, p.o, none⟩) p.ts.length p.c, .int .i64 lv] 68)
        generalize wr.alloc (.cells #[.slice (some ⟨p.g, p.o, none⟩) p.ts.length p.c, .int .i64 lv] 68) = w4 at *
        have q3 := c44 w4
        go_wp2_with fail
        with_reducible refine q3.mono ?_
        clear q3
        rintro e w5 ⟨rfl, hb5, hs5⟩
        have hx5 := (hb5.block wr.heap.size (Array.getElem?_eq_some_iff.1 hx4).1).trans hx4
        have hB5 := hb4.trans (hb5.mono hb4.size)
        have hown5 := owns_below hown4 hb5
        have hp5 := hp4.next hb5
        have hbB : w0.heap.size ≤ wr.heap.size := hb.size
        have hlt5 : wr.heap.size < w5.heap.size := (Array.getElem?_eq_some_iff.1 hx5).1
        have hn5 : PtOk (w5.alloc (.cells #[.int .i64 3, .string ⟨#[44]⟩] 45)) ⟨w5.heap.size, 0, 1, [⟨3, [44]⟩]⟩ := pt_new w5 ⟨3, [44]⟩
        have hrow := hown5.lt
        clear hx4 hown4 hp4 hb4 hb5
        go_upto_region 7 with (at_builtin; refine wpList_append_lies _ (by rfl) _ _ 22 (by rfl) w0.heap.size 45 i0 _ 2 24 Tryz.underlying22 hi0 hz0 hz1 hz2 rfl (by omega) _ (Ex.callK t L k).length _ (by rfl) (hown5.alloc _) ⟨w5.heap.size, 0, none⟩ 1 1 (tksOf [⟨3, [44]⟩]) (by rfl) (tksOf_len _) (fun j u hj => by rw [addr_add]; exact hn5.at_ j u hj) (tksOf_one _) (by omega) (by unfold maxLen; omega) (by omega) (by have := hB5.size; simp; omega) _ rfl ?_; intro gg cap3 w6 hown6 hgrow hat hlt6)
        have hB6 : Below w0.heap.size w0 w6 := grown_own (hB5.alloc hB5.size _) hgrow (fun j hj => (hrow j hj).1)
        have hvb : ∀ j, u5.ownBlock = some j → j < wr.heap.size := fun j hj => (hown.lt j hj).2
        have hgB : p.g < w0.heap.size := hgp
        have hx5c : w5.cell? ⟨wr.heap.size, 0, none⟩ = some (.slice (some ⟨p.g, p.o, none⟩) p.ts.length p.c) := by rw [cell_of_row _ _ _ _ _ _ hx5]; rfl
        have hx6 : w6.cell? ⟨wr.heap.size, 0, none⟩ = some (.slice (some ⟨p.g, p.o, none⟩) p.ts.length p.c) := (World.grownBy.cell_far hgrow ⟨wr.heap.size, 0, none⟩ (by simp; omega) (fun e => absurd (hvb wr.heap.size e.symm) (Nat.lt_irrefl _))).trans (cell_alloc _ hlt5 hx5c)
        have hp6 : PtOk w6 p := pt_grown (pt_alloc _ hp5) hgrow (fun e => by have := (hrow _ e).1; omega)
        rw [← tksOf_app] at hown6
        have hrow6 := hown6.lt
        clear hown5 hown hp5 hp hx5 hx5c hn5 hgrow hat hrow hb hvb
        go_upto_region 8 with (at_builtin; refine wpList_append_lies _ (by rfl) _ _ 22 (by rfl) w0.heap.size 45 i0 _ 2 24 Tryz.underlying22 hi0 hz0 hz1 hz2 rfl (by omega) _ ((Ex.callK t L k).length + 1) _ (by rfl) hown6 ⟨p.g, p.o, none⟩ p.ts.length p.c (tksOf p.ts) (by rfl) (tksOf_len _) (fun j u hj => by rw [addr_add]; exact hp6.at_ j u hj) (tksOf_one _) hpos (by unfold maxLen; omega) (by omega) (by first | exact hB6.size | (have := hB6.size; omega)) _ rfl ?_); intro gg2 cap4 w7 hown7 hgrow7 hat7 hlt7
        have hB7 : Below w0.heap.size w0 w7 := grown_own hB6 hgrow7 (fun j hj => (hrow6 j hj).1)
        rw [← tksOf_app, ← HN.out] at hown7
        have hle : (Ex.callK t L (k + 1)).length = (Ex.callK t L k).length + 1 + p.ts.length := by rw [HN.out]; simp; omega
        go_wp2_with fail
        go_roundw
        case rel => exact ⟨k + 1, by omega, by go_num, by omega, by omega, by rw [hle]; exact hown7, hB7⟩
        case measure => simp [intOf]; omega
      · have b2 : decide ((0 : Int) < (k : Int)) = false := by simp; omega
        have b2n : decide (0 < k) = false := by simp; omega
        have HN := Lib.hid (HS2.out.trans (by rw [if_neg hk0, List.append_nil]))
        clear HS2 hk0
        go_upto_region 7 with fail
        have hb4 : Below w0.heap.size w0 (wr.alloc (.cells #[.slice (some ⟨p.g, p.o, none⟩) p.ts.length p.c, .int .i64 lv] 68)) := hb.alloc hb.size _
        have hown4 := hown.alloc (.cells #[.slice (some ⟨p.g, p.o, none⟩) p.ts.length p.c, .int .i64 lv] 68)
        have hp4 := pt_alloc (.cells #[.slice (some ⟨p.g, p.o, none⟩) p.ts.length p.c, .int .i64 lv] 68) hp
        have hx4 := heap_alloc_new wr (.cells #[.slice (some ⟨p.g, p.o, none⟩) p.ts.length p.c, .int .i64 lv] 68)
        generalize wr.alloc (.cells #[.slice (some ⟨p.g, p.o, none⟩) p.ts.length p.c, .int .i64 lv] 68) = w4 at *
        have hx6 : w4.cell? ⟨wr.heap.size, 0, none⟩ = some (.slice (some ⟨p.g, p.o, none⟩) p.ts.length p.c) := by rw [cell_of_row _ _ _ _ _ _ hx4]; rfl
        have hrow6 := hown4.lt
        clear hown hp hx4 hb
        go_upto_region 8 with (at_builtin; refine wpList_append_lies _ (by rfl) _ _ 22 (by rfl) w0.heap.size 45 i0 _ 2 24 Tryz.underlying22 hi0 hz0 hz1 hz2 rfl (by omega) _ (Ex.callK t L k).length _ (by rfl) hown4 ⟨p.g, p.o, none⟩ p.ts.length p.c (tksOf p.ts) (by rfl) (tksOf_len _) (fun j u hj => by rw [addr_add]; exact hp4.at_ j u hj) (tksOf_one _) hpos (by unfold maxLen; omega) (by omega) (by first | exact hb4.size | (have := hb4.size; omega)) _ rfl ?_); intro gg2 cap4 w7 hown7 hgrow7 hat7 hlt7
        have hB7 : Below w0.heap.size w0 w7 := grown_own hb4 hgrow7 (fun j hj => (hrow6 j hj).1)
        rw [← tksOf_app, ← HN.out] at hown7
        have hle : (Ex.callK t L (k + 1)).length = (Ex.callK t L k).length + p.ts.length := by rw [HN.out]; simp
        go_wp2_with fail
        go_roundw
        case rel => exact ⟨k + 1, by omega, by go_num, by omega, by omega, by rw [hle]; exact hown7, hB7⟩
        case measure => simp [intOf]; omega
    · have b1 : decide ((k : Int) < L.length) = false := by simp; omega
      have b1n : decide (k < L.length) = false := by simp; omega
      obtain rfl : k = L.length := by omega
      have q3 := c41 wr
      go_upto_region 9 with fail
      go_wp2_with fail
      with_reducible refine q3.mono ?_
      clear q3
      rintro e w5 ⟨rfl, hb5, hs5⟩
      have hB5 := hb.trans (hb5.mono hb.size)
      have hown5 := owns_below hown hb5
      have hn5 : PtOk (w5.alloc (.cells #[.int .i64 3, .string ⟨#[41]⟩] 45)) ⟨w5.heap.size, 0, 1, [⟨3, [41]⟩]⟩ := pt_new w5 ⟨3, [41]⟩
      have hrow := hown5.lt
      have hr5 := (hB5.block w.heap.size (by have := HS0.out; omega)).trans hr
      have hB50 : w0.heap.size ≤ w5.heap.size := hB5.size
      clear hown hb hb5
      go_wp2_with (at_builtin; refine wpList_append_lies _ (by rfl) _ _ 22 (by rfl) w0.heap.size 45 i0 _ 2 24 Tryz.underlying22 hi0 hz0 hz1 hz2 rfl (by omega) _ (Ex.callK t L L.length).length _ (by rfl) (hown5.alloc _) ⟨w5.heap.size, 0, none⟩ 1 1 (tksOf [⟨3, [41]⟩]) (by rfl) (tksOf_len _) (fun j u hj => by rw [addr_add]; exact hn5.at_ j u hj) (tksOf_one _) (by omega) (by unfold maxLen; omega) (by omega) (by have := hB5.size; simp; omega) _ rfl ?_; intro gg cap3 w6 hown6 hgrow hat hlt6; have hB6 : Below w0.heap.size w0 w6 := grown_own (hB5.alloc hB5.size _) hgrow (fun j hj => (hrow j hj).1); have hr6 : w6.heap[w.heap.size]? = some (.cells #[.slice none 0 0, .int .i64 0] 68 (0, 0)) := (hB6.block w.heap.size (by have := HS0.out; omega)).trans hr; have k0 : w6.cell? ⟨w.heap.size, 0, none⟩ = some (.slice none 0 0) := (by rw [cell_of_row _ _ _ _ _ _ hr6]; rfl); have k1 : w6.cell? ⟨w.heap.size, 1, none⟩ = some (.int .i64 0) := (by rw [cell_of_row _ _ _ _ _ _ hr6]; rfl); have f0 : w6.frozen? ⟨w.heap.size, 0, none⟩ = false := (by simp [World.frozen?, hr6]); have f1 : w6.frozen? ⟨w.heap.size, 1, none⟩ = false := (by simp [World.frozen?, hr6]))
      rw [← tksOf_app, show tksOf (Ex.callK t L L.length ++ [⟨3, [41]⟩]) = tksOf R by rw [HALL.out]] at hown6
      have hRl := Lib.hid (show R.length = (Ex.callK t L L.length).length + 1 by rw [← HALL.out]; simp)
      rw [show (Ex.callK t L L.length).length + 1 = R.length from hRl.out.symm] at hown6 ⊢
      obtain ⟨p2, hpv, hpt, hpk, hpg⟩ := own_pt hown6 (by have := hRl.out; omega)
      have hbx := boxed (.slice (some ⟨gg, 0, none⟩) R.length cap3) (.int .i64 12) k0 k1
      have hne : w.heap.size ≠ p2.g := by have := HS0.out; omega
      have hk2 := pt_set w.heap.size 1 (.int .i64 12) (pt_set w.heap.size 0 (.slice (some ⟨gg, 0, none⟩) R.length cap3) hpk hne) hne
      have hBw : Below w.heap.size w w6 := hb0.trans (hB6.mono (by have := HS0.out; omega))
      exact bodyPost_ret (v := .agg #[.slice (some ⟨gg, 0, none⟩) R.length cap3, .int .i64 12]) (by simp [results, Tryz.results34, go_sem, hbx.1, hbx.2]) rfl ⟨p2, by rw [← hpv], hpt, hk2, by have := HS0.out; omega, (hBw.setCell (by simp) _).setCell (by simp) _⟩
end Go.Proofs.YtkkkiacbikbalaaGreatDoor
