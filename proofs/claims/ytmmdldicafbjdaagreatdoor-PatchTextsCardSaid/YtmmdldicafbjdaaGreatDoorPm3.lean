/- Counts of the reference, on hunks in form. No condition but the lengths.
What applying a patch gives, for the walks; a patch in a variable. No condition.
The lines of a patch, of the reference. No condition but the lengths.
Join of the reference. No condition but the lengths.
Valid of the reference. No condition but the lengths.
Print and Cost of the reference. No condition but the lengths. -/
import Derived.Test.YtmmdldicafbjdaaGreatDoorOwn
import Derived.Test.YtmmdldicafbjdaaGreatDoorShp
import Derived.BigQuiet
import Derived.Deep.QuietTactic
import Derived.Deep.RegionLaw
import Derived.Test.YtmmdldicafbjdaaGreatDoorPm1
import Derived.Test.YtmmdldicafbjdaaGreatDoorPrt
import Derived.Test.YtmmdldicafbjdaaGreatDoorPm2
import Derived.Test.YtmmdldicafbjdaaGreatDoorCdRefDec
import Derived.Test.YtmmdldicafbjdaaGreatDoorTrJoi
section
namespace Go.Proofs.YtmmdldicafbjdaaGreatDoor
open Go.RowKit Go.Deep Tr

/-- The three counts as they lie. -/
def cntV (hs : List Pc.Hk) : Array Value := #[.int .i64 0, .int .i64 (Pc.cnt 1 hs), .int .i64 (Pc.cnt 2 hs), .int .i64 (Pc.cnt 3 hs)]
theorem cntV_def (hs : List Pc.Hk) : cntV hs = #[.int .i64 0, .int .i64 (Pc.cnt 1 hs), .int .i64 (Pc.cnt 2 hs), .int .i64 (Pc.cnt 3 hs)] := rfl
set_option maxHeartbeats 8000000 in
set_option maxRecDepth 100000 in
theorem qCounts_any (p : Pc.Pa) (A : Option Addr) (c : Nat) (w : World) (hA : HsAt w w.heap.size A p.hs) (hl : p.hs.length ≤ 1000000) (hH : ∀ h ∈ p.hs, Pc.isHunk h = true) :
    Calls Tryz.prog 28 #[paV p A c] w fun e w' => e = .returned (.tuple #[.int .i64 (Pc.cnt 1 p.hs), .int .i64 (Pc.cnt 2 p.hs), .int .i64 (Pc.cnt 3 p.hs)]) ∧ Below w.heap.size w w' := by
  rw [paV_def]
  obtain ⟨base, hs⟩ := p
  dsimp only at *
  have hb1 : Below w.heap.size w (w.alloc (.cells #[.string (str base), .slice A hs.length c] 24)) := (Below.refl _ _).alloc (Nat.le_refl _) _
  have hb2 : Below w.heap.size w ((w.alloc (.cells #[.string (str base), .slice A hs.length c] 24)).alloc (.cells #[Value.int .i64 0, Value.int .i64 0, Value.int .i64 0, Value.int .i64 0] 80)) := hb1.alloc hb1.size _
  have hN2 := heap_alloc_new (w.alloc (.cells #[.string (str base), .slice A hs.length c] 24)) (.cells #[Value.int .i64 0, Value.int .i64 0, Value.int .i64 0, Value.int .i64 0] 80)
  rw [show (w.alloc (.cells #[.string (str base), .slice A hs.length c] 24)).heap.size = w.heap.size + 1 by simp] at hN2
  have HB2 := Lib.hid hb2
  have hws : w.heap.size + 1 < ((w.alloc (.cells #[.string (str base), .slice A hs.length c] 24)).alloc (.cells #[Value.int .i64 0, Value.int .i64 0, Value.int .i64 0, Value.int .i64 0] 80)).heap.size := by simp
  have HLE := Lib.hid (fun k j => Pc.cnt_le k (hs.take j) fun h hm => by have := (Pc.isHunk_num (hH h (List.mem_of_mem_take hm))).1; omega)
  have HHK := Lib.hid hH
  have HA := Lib.hid hA
  clear hA hb1 hH
  have HN2 := Lib.hid hN2
  have HWS := Lib.hid hws
  clear hN2 hb2 hws
  go_enter Tryz.func28, Tryz.ntmps28
  go_wp2_with fail
  generalize (w.alloc (.cells #[.string (str base), .slice A hs.length c] 24)).alloc (.cells #[Value.int .i64 0, Value.int .i64 0, Value.int .i64 0, Value.int .i64 0] 80) = W at *
  go_loopw [11] (fun i wr => ∃ k : Nat, k ≤ hs.length ∧ i = .int .i64 k ∧ wr.heap[w.heap.size + 1]? = some (.cells (cntV (hs.take k)) 80 (0, 0)) ∧ Below w.heap.size w wr ∧ w.heap.size + 1 < wr.heap.size) (fun i _ => hs.length - (intOf i).toNat)
  case atStart => exact ⟨0, by omega, rfl, HN2.out, HB2.out, HWS.out⟩
  case round =>
    clear HN2 HB2 HWS
    obtain ⟨k, hk, rfl, hnb, hb, hws⟩ := hrel
    have HNB := Lib.hid hnb
    clear hnb
    by_cases hlt : k < hs.length
    · have b1 : decide ((k : Int) < hs.length) = true := by simp; omega
      have b1n : decide (k < hs.length) = true := by simp; omega
      obtain ⟨g, o, Ak, ck, rfl, hg, h0, h1, h2, _⟩ := HA.out k hlt
      have hd0 := (hb.cell (p := ⟨g, o + k * 3, none⟩) hg).trans h0
      have hd1 := (hb.cell (p := ⟨g, o + k * 3 + 1, none⟩) hg).trans h1
      have hd2 := (hb.cell (p := ⟨g, o + k * 3 + 2, none⟩) hg).trans h2
      have H1 := Lib.hid (Pc.cnt_snoc 1 hs k hlt)
      have H2 := Lib.hid (Pc.cnt_snoc 2 hs k hlt)
      have H3 := Lib.hid (Pc.cnt_snoc 3 hs k hlt)
      obtain ⟨⟨n1, n2⟩, hkd, _⟩ := Pc.isHunk_num (HHK.out hs[k] (List.getElem_mem hlt))
      obtain ⟨c1a, c1b⟩ := HLE.out 1 k
      obtain ⟨c2a, c2b⟩ := HLE.out 2 k
      obtain ⟨c3a, c3b⟩ := HLE.out 3 k
      have hlk : (hs.take k).length ≤ k := List.length_take_le _ _
      have q1 : Pc.cnt 1 (hs.take k) ≤ 1024000000000 := by omega
      have q2 : Pc.cnt 2 (hs.take k) ≤ 1024000000000 := by omega
      have q3 : Pc.cnt 3 (hs.take k) ≤ 1024000000000 := by omega
      clear c1b c2b c3b hlk h0 h1 h2
      generalize hs[k] = h at *
      obtain ⟨kd, n, ls⟩ := h
      dsimp only at *
      go_upto_region 5 with (fail)
      have hbw : Below wr.heap.size wr (wr.alloc (.cells #[.int .i64 kd, .int .i64 n, .slice Ak ls.length ck] 47)) := (Below.refl _ _).alloc (Nat.le_refl _) _
      have hnew := heap_alloc_new wr (.cells #[.int .i64 kd, .int .i64 n, .slice Ak ls.length ck] 47)
      have e0 : (wr.alloc (.cells #[.int .i64 kd, .int .i64 n, .slice Ak ls.length ck] 47)).cell? ⟨wr.heap.size, 0, none⟩ = some (.int .i64 kd) := by rw [cell_of_row _ _ _ _ _ _ hnew]; rfl
      have e1 : (wr.alloc (.cells #[.int .i64 kd, .int .i64 n, .slice Ak ls.length ck] 47)).cell? ⟨wr.heap.size, 1, none⟩ = some (.int .i64 n) := by rw [cell_of_row _ _ _ _ _ _ hnew]; rfl
      have hb3 := hb.trans (hbw.mono hb.size)
      have hnb3 := (hbw.block _ hws).trans HNB.out
      have hws3 : w.heap.size + 1 < (wr.alloc (.cells #[.int .i64 kd, .int .i64 n, .slice Ak ls.length ck] 47)).heap.size := by simp; omega
      have hqn : wr.heap.size ≠ w.heap.size + 1 := by omega
      clear hnew hbw hd0 hd1 hd2 hb HNB hg
      generalize wr.alloc (.cells #[.int .i64 kd, .int .i64 n, .slice Ak ls.length ck] 47) = w3 at *
      generalize hQ : wr.heap.size = Q at *
      have f0 := frozen_of_row w3 (w.heap.size + 1) 1 _ _ hnb3
      have f1 := frozen_of_row w3 (w.heap.size + 1) 2 _ _ hnb3
      have f2 := frozen_of_row w3 (w.heap.size + 1) 3 _ _ hnb3
      have m1 : w3.cell? ⟨w.heap.size + 1, 1, none⟩ = some (.int .i64 (Pc.cnt 1 (hs.take k))) := by rw [cell_of_row _ _ _ _ _ _ hnb3]; rfl
      have m2 : w3.cell? ⟨w.heap.size + 1, 2, none⟩ = some (.int .i64 (Pc.cnt 2 (hs.take k))) := by rw [cell_of_row _ _ _ _ _ _ hnb3]; rfl
      have m3 : w3.cell? ⟨w.heap.size + 1, 3, none⟩ = some (.int .i64 (Pc.cnt 3 (hs.take k))) := by rw [cell_of_row _ _ _ _ _ _ hnb3]; rfl
      have HNB := Lib.hid hnb3
      have HBB := Lib.hid hb3
      have HS := Lib.hid hws3
      clear hnb3 hb3 hws3 hws hQ hqn
      have d1 : decide ((1 : Int) ≤ n) = true := decide_eq_true n1
      have d2 : decide (n ≤ 1024) = true := decide_eq_true n2
      rcases hkd with rfl | rfl | rfl
      · go_upto_region 6 with (fail)
        go_region
        go_wp2_with fail
        go_roundw
        case rel =>
          refine ⟨k + 1, by omega, by go_num, ?_, (Below.setCell (p := ⟨w.heap.size + 1, _, none⟩) HBB.out (Nat.le_succ _) _).drew, by have := HS.out; simp; omega⟩
          rw [show cntV (hs.take (k + 1)) = #[.int .i64 0, .int .i64 (Pc.cnt 1 (hs.take k) + n), .int .i64 (Pc.cnt 2 (hs.take k)), .int .i64 (Pc.cnt 3 (hs.take k))] by unfold cntV; rw [H1.out, H2.out, H3.out]; simp]
          exact heap_setCell_same w3 (w.heap.size + 1) 1 _ _ _ HNB.out
        case measure => simp [intOf]; omega
      · go_upto_region 6 with (fail)
        go_region
        go_wp2_with fail
        go_roundw
        case rel =>
          refine ⟨k + 1, by omega, by go_num, ?_, (Below.setCell (p := ⟨w.heap.size + 1, _, none⟩) HBB.out (Nat.le_succ _) _).drew, by have := HS.out; simp; omega⟩
          rw [show cntV (hs.take (k + 1)) = #[.int .i64 0, .int .i64 (Pc.cnt 1 (hs.take k)), .int .i64 (Pc.cnt 2 (hs.take k) + n), .int .i64 (Pc.cnt 3 (hs.take k))] by unfold cntV; rw [H1.out, H2.out, H3.out]; simp]
          exact heap_setCell_same w3 (w.heap.size + 1) 2 _ _ _ HNB.out
        case measure => simp [intOf]; omega
      · go_upto_region 6 with (fail)
        go_region
        go_wp2_with fail
        go_roundw
        case rel =>
          refine ⟨k + 1, by omega, by go_num, ?_, (Below.setCell (p := ⟨w.heap.size + 1, _, none⟩) HBB.out (Nat.le_succ _) _).drew, by have := HS.out; simp; omega⟩
          rw [show cntV (hs.take (k + 1)) = #[.int .i64 0, .int .i64 (Pc.cnt 1 (hs.take k)), .int .i64 (Pc.cnt 2 (hs.take k)), .int .i64 (Pc.cnt 3 (hs.take k) + n)] by unfold cntV; rw [H1.out, H2.out, H3.out]; simp]
          exact heap_setCell_same w3 (w.heap.size + 1) 3 _ _ _ HNB.out
        case measure => simp [intOf]; omega
    · have b1 : decide ((k : Int) < hs.length) = false := by simp; omega
      have b1n : decide (k < hs.length) = false := by simp; omega
      have hnb := HNB.out
      rw [List.take_of_length_le (show hs.length ≤ k by omega)] at hnb
      have m1 : wr.cell? ⟨w.heap.size + 1, 1, none⟩ = some (.int .i64 (Pc.cnt 1 hs)) := by rw [cell_of_row _ _ _ _ _ _ hnb]; rfl
      have m2 : wr.cell? ⟨w.heap.size + 1, 2, none⟩ = some (.int .i64 (Pc.cnt 2 hs)) := by rw [cell_of_row _ _ _ _ _ _ hnb]; rfl
      have m3 : wr.cell? ⟨w.heap.size + 1, 3, none⟩ = some (.int .i64 (Pc.cnt 3 hs)) := by rw [cell_of_row _ _ _ _ _ _ hnb]; rfl
      clear hnb HNB
      go_wp2_with fail
      go_quiet (fail)
      go_wp2_with fail
      go_ret3
      exact ⟨rfl, below_drewN hb nq⟩
end Go.Proofs.YtmmdldicafbjdaaGreatDoor
end
section
namespace Go.Proofs.YtmmdldicafbjdaaGreatDoor
open Go.RowKit Go.Deep Tr

theorem led_ok {w : World} {A : Option Addr} {p : Pc.Pa} {data s : List UInt8} {a b : List (List UInt8)} (h : Pc.Led p data s a b) (hA : HsAt w w.heap.size A p.hs) : PaOk w p A := by
  refine ⟨hA, ?_, ?_, fun x hx l hl => ?_⟩
  · have := (valid_all h.valid).1
    omega
  · rcases h.base with e | e
    · rw [e]; simp
    · rw [e, dig_len]; omega
  · have h1 := ls_change p.hs a h.all x hx l hl
    rw [← h.chg] at h1
    have h2 := text_len h.now
    rcases lines_cases s with ⟨he, _⟩ | ⟨l', e1, _, _, e4⟩
    · rw [h.now] at he; exact absurd rfl he
    · rw [h.now] at e1
      injection e1 with e1
      subst e1
      have := e4 l h1
      omega
theorem led_len {p : Pc.Pa} {data s : List UInt8} {a b : List (List UInt8)} (h : Pc.Led p data s a b) : p.hs.length ≤ 1000000000 ∧ ∀ x ∈ p.hs, x.ls.length ≤ 1000000000 := by
  refine ⟨by have := (valid_all h.valid).1; omega, fun x hx => ?_⟩
  have := Pc.isHunk_num (h.all x hx)
  omega
theorem invert_of_apply {p : Pc.Pa} {d : List UInt8} (h : (Pc.invert p d).2 = 0) : (Pc.apply p d).2 = 0 := by
  by_cases e : (Pc.apply p d).2 = 0
  · exact e
  · rw [invert_def, if_pos e] at h
    exact absurd h e
/-- A patch in a variable. -/
def Bp (w : World) (pb : Nat) (p : Pc.Pa) (A : Option Addr) (c : Nat) : Prop := w.heap[pb]? = some (.cells #[.string (str p.base), .slice A p.hs.length c] 24 (0, 0))
theorem Bp.next {w w' : World} {pb c : Nat} {p : Pc.Pa} {A : Option Addr} (h : Bp w pb p A c) (hb : Below w.heap.size w w') : Bp w' pb p A c := (hb.block _ (blk_lt h)).trans h
theorem Bp.cells {w : World} {pb c : Nat} {p : Pc.Pa} {A : Option Addr} (h : Bp w pb p A c) : w.cell? ⟨pb, 0, none⟩ = some (.string (str p.base)) ∧ w.cell? ⟨pb, 1, none⟩ = some (.slice A p.hs.length c) := ⟨by rw [cell_of_row _ _ _ _ _ _ h]; rfl, by rw [cell_of_row _ _ _ _ _ _ h]; rfl⟩
end Go.Proofs.YtmmdldicafbjdaaGreatDoor
end
section
namespace Go.Proofs.YtmmdldicafbjdaaGreatDoor
open Go.RowKit Go.Deep Tr

theorem app_strs2 (ty : TypeId) (w : World) (B : Nat) (v : Value) (xs ys : List (List UInt8)) (hown : w.ownsRow B 9 1 v xs.length (strs xs)) (A : Option Addr) (c : Nat) (hA : CellsAt w w.heap.size A (strs ys)) (hB : B ≤ w.heap.size) (hlen : xs.length + ys.length ≤ 100000000) :
    ∃ v' w', (Builtin.append_ #[45, 45] ty #[v, .slice A ys.length c]).run Tryz.prog w = .ok v' w' ∧ w'.ownsRow B 9 1 v' (xs ++ ys).length (strs (xs ++ ys)) ∧ w.grownBy w' v.ownBlock ∧ ∀ q, v'.ownBlock = some q → v.ownBlock = some q ∨ q = w.heap.size := by
  obtain ⟨i0, hi0, hz0, hz1, hz2⟩ := info_parts infoS
  by_cases h0 : ys.length = 0
  · have e : ys = [] := List.length_eq_zero_iff.1 h0
    subst e
    obtain ⟨A0, c0, rfl, _⟩ := owns_cells hown
    obtain ⟨hcc, _⟩ := own_capS hown
    refine ⟨_, w, run_append_nothing w 45 45 ty 9 i0 Tryz.underlying45 hi0 A0 _ c0 hcc _ (src_noneS w Tryz.underlying45 A c), by rw [List.append_nil]; exact hown, ⟨rfl, rfl, rfl, Nat.le_refl _, fun _ _ _ => rfl⟩, fun q hq => .inl hq⟩
  · obtain ⟨g, o, rfl, hg, hc⟩ := cells_row hA (by rw [strs_len]; omega)
    obtain ⟨gg, cap, w3, hrun, hown3, hgrow, hat, _⟩ := run_append_lies (P := Tryz.prog) w 45 ty B 9 i0 _ 1 16 Tryz.underlying45 hi0 hz0 hz1 hz2 rfl (by omega) v xs.length _ hown ⟨g, o, none⟩ ys.length c (strs ys) (by rw [strs_len, Nat.mul_one]) (fun j u hj => by rw [addr_addS]; exact hc j u hj) (strs_one ys) (by omega) (by unfold maxLen; omega) (by omega) hB w.heap.size rfl
    refine ⟨_, w3, hrun, by rw [strs_app, List.length_append]; exact hown3, hgrow, fun q hq => ?_⟩
    have e : q = gg := (Option.some.inj hq).symm
    rw [e]; exact hat
/-- The four words lie. -/
def WordsAt (w : World) (wb : Nat) : Prop := w.heap[wb]? = some (.cells #[.string ⟨#[]⟩, .string ⟨#[107, 101, 101, 112, 32]⟩, .string ⟨#[100, 114, 111, 112, 32]⟩, .string ⟨#[97, 100, 100, 32]⟩] 9 (0, 0))
theorem WordsAt.grown {w w' : World} {wb : Nat} {row : Option Nat} (h : WordsAt w wb) (hg : w.grownBy w' row) (hne : ∀ q, row = some q → q ≠ wb) : WordsAt w' wb := (hg.block wb (blk_lt h) (fun e => hne wb e.symm rfl)).trans h
theorem WordsAt.next {w w' : World} {wb : Nat} (h : WordsAt w wb) (hb : Below w.heap.size w w') : WordsAt w' wb := (hb.block _ (blk_lt h)).trans h
theorem WordsAt.cell {w : World} {wb : Nat} (h : WordsAt w wb) : w.cell? ⟨wb, 1, none⟩ = some (.string ⟨#[107, 101, 101, 112, 32]⟩) ∧ w.cell? ⟨wb, 2, none⟩ = some (.string ⟨#[100, 114, 111, 112, 32]⟩) ∧ w.cell? ⟨wb, 3, none⟩ = some (.string ⟨#[97, 100, 100, 32]⟩) := ⟨by rw [cell_of_row _ _ _ _ _ _ h]; rfl, by rw [cell_of_row _ _ _ _ _ _ h]; rfl, by rw [cell_of_row _ _ _ _ _ _ h]; rfl⟩
set_option maxHeartbeats 16000000 in
set_option maxRecDepth 100000 in
theorem qlines_any (p : Pc.Pa) (A : Option Addr) (c : Nat) (w : World) (hP : PaOk w p A) (hH : ∀ h ∈ p.hs, Pc.isHunk h = true) (hl : p.hs.length ≤ 2048) (hsum : (Pc.bodyL p.hs).length ≤ 4096) (hbo : Pc.baseOk p.base = true) :
    Calls Tryz.prog 25 #[paV p A c] w (GotP w (Pc.printL p)) := by
  obtain ⟨base, hs⟩ := p
  obtain ⟨hA, _, hbl, heach⟩ := hP
  dsimp only at *
  rw [paV_def]
  dsimp only
  have HPL := Lib.hid (show Pc.printL ⟨base, hs⟩ = (if base = [] then [] else [Pc.baseW ++ Pc.hex base]) ++ Pc.bodyL hs from rfl)
  generalize Pc.printL ⟨base, hs⟩ = PL at *
  have hb0 : Below w.heap.size w (w.alloc (.cells #[.string (str base), .slice A hs.length c] 24)) := (Below.refl _ _).alloc (Nat.le_refl _) _
  have hN0 := heap_alloc_new w (.cells #[.string (str base), .slice A hs.length c] 24)
  have HW := Lib.hid (show ∀ w', Below (w.alloc (.cells #[.string (str base), .slice A hs.length c] 24)).heap.size (w.alloc (.cells #[.string (str base), .slice A hs.length c] 24)) w' →
      Below w.heap.size w w' ∧ HsAt w' w'.heap.size A hs ∧ w'.cell? ⟨w.heap.size, 0, none⟩ = some (.string (str base)) ∧ w'.cell? ⟨w.heap.size, 1, none⟩ = some (.slice A hs.length c) from fun w' h => by
    have hb := hb0.trans (h.mono hb0.size)
    have hN := (h.block w.heap.size (blk_lt hN0)).trans hN0
    exact ⟨hb, hA.next hb, by rw [cell_of_row _ _ _ _ _ _ hN]; rfl, by rw [cell_of_row _ _ _ _ _ _ hN]; rfl⟩)
  have hbb0 := Below.refl (w.alloc (.cells #[.string (str base), .slice A hs.length c] 24)).heap.size (w.alloc (.cells #[.string (str base), .slice A hs.length c] 24))
  obtain ⟨k0, k1⟩ := (HW.out _ hbb0).2.2
  have HBW := Lib.hid (show w.heap.size ≤ (w.alloc (.cells #[.string (str base), .slice A hs.length c] 24)).heap.size by simp)
  have HHK := Lib.hid hH
  have HEA := Lib.hid heach
  have HBO := Lib.hid hbo
  clear hA hb0 hN0 hH heach hbo
  obtain ⟨L0, hL0⟩ : ∃ L0, L0 = (if base = [] then [] else [Pc.baseW ++ Pc.hex base]) := ⟨_, rfl⟩
  have hL0l : L0.length ≤ 1 := by rw [hL0]; split <;> simp
  have HL0 := Lib.hid hL0
  have HPL1 := Lib.hid (show PL = L0 ++ Pc.bodyL hs by rw [HPL.out, hL0])
  clear hL0 HPL
  go_enter Tryz.func25, Tryz.ntmps25
  go_upto_if 11 with (fail)
  generalize w.alloc (.cells #[.string (str base), .slice A hs.length c] 24) = W at *
  go_cut [3] (fun s3 wx => wx.ownsRow W.heap.size 9 1 s3 L0.length (strs L0) ∧ Below W.heap.size W wx)
  case first =>
    by_cases hbe : base = []
    · have HE := Lib.hid (show L0 = [] by rw [HL0.out, if_pos hbe])
      have q3 : (!(str base).toList.isEmpty) = false := by rw [str_list, hbe]; rfl
      rw [q3]
      clear hbe HL0 HBO
      go_wp2_with fail
      go_meet
      exact ⟨by rw [HE.out]; exact World.ownsRow_nil _ _ _ _, hbb0⟩
    · have q3 : (!(str base).toList.isEmpty) = true := by rw [str_list]; cases hq : base with | nil => exact absurd hq hbe | cons _ _ => rfl
      rw [q3]
      have h32 : base.length = 32 := by
        have h := HBO.out
        unfold Pc.baseOk at h
        simp only [Bool.or_eq_true, decide_eq_true_eq] at h
        rcases h with h | h
        · exact absurd h hbe
        · exact h
      have hcall := Dg.refHex_good (str base) (by rw [str_size]; exact h32) W
      rw [show Dg.hexS (str base) = str (Pc.hex base) from rfl] at hcall
      have HE := Lib.hid (show L0 = [Pc.baseW ++ Pc.hex base] by rw [HL0.out, if_neg hbe])
      have hxs : (str (Pc.hex base)).size ≤ 64 := by rw [str_size, hex_len]; omega
      have HXA := Lib.hid (show (⟨#[98, 97, 115, 101, 32]⟩ : ByteArray) ++ str (Pc.hex base) = str (Pc.baseW ++ Pc.hex base) by rw [baseW_str, str_app])
      clear hbe h32 HL0 HBO
      generalize Pc.hex base = hx at *
      obtain ⟨i0, hi0, hz0, hz1, hz2⟩ := info_parts infoS
      go_wp2_with fail
      with_reducible refine hcall.mono ?_
      clear hcall k0 k1
      rintro x w2 ⟨rfl, hb2⟩
      have hbw2 : W.heap.size ≤ w2.heap.size := hb2.size
      go_wp2_with (at_builtin; refine wpList_append_lies _ (by rfl) _ _ 45 (by rfl) W.heap.size 9 i0 _ 1 16 Tryz.underlying45 hi0 hz0 hz1 hz2 rfl (by omega) (.slice none 0 0) 0 [] (by rfl) (World.ownsRow_nil _ _ _ _) ⟨w2.heap.size, 0, none⟩ 1 1 [_] (by rfl) (by rfl) (World.news_of_block (cs := #[_]) (t := 9) (fr := (0, 0)) (heap_alloc_new w2 _)) (by simp [Value.oneCell']) (by omega) (by unfold maxLen; omega) (by omega) (by simp; omega) _ rfl ?_; intro gg cap w3 hown3 hgrow hat hlt3)
      rw [HXA.out] at hown3
      have hbx : Below W.heap.size W w3 := (hb2.alloc hb2.size _).grown hgrow (by simp; have := hb2.size; omega) (fun q hq => by cases hq)
      go_meet
      exact ⟨by rw [HE.out]; exact hown3, hbx⟩
  case rest =>
  obtain ⟨hown, hbc⟩ := hcut
  clear HL0 HBO k0 k1 hbb0
  have hwd : WordsAt (wc.alloc (.cells #[.string ⟨#[]⟩, .string ⟨#[107, 101, 101, 112, 32]⟩, .string ⟨#[100, 114, 111, 112, 32]⟩, .string ⟨#[97, 100, 100, 32]⟩] 9)) wc.heap.size := heap_alloc_new wc _
  have hbd : Below W.heap.size W (wc.alloc (.cells #[.string ⟨#[]⟩, .string ⟨#[107, 101, 101, 112, 32]⟩, .string ⟨#[100, 114, 111, 112, 32]⟩, .string ⟨#[97, 100, 100, 32]⟩] 9)) := hbc.alloc hbc.size _
  have hownd := hown.alloc (.cells #[.string ⟨#[]⟩, .string ⟨#[107, 101, 101, 112, 32]⟩, .string ⟨#[100, 114, 111, 112, 32]⟩, .string ⟨#[97, 100, 100, 32]⟩] 9)
  have haw : ∀ q, u3.ownBlock = some q → q ≠ wc.heap.size := fun q hq => by have := (hown.lt q hq).2; omega
  obtain ⟨k0, k1⟩ := (HW.out _ hbd).2.2
  have hbt := fun k => bodyL_take hs k
  have HBT := Lib.hid hbt
  clear hbt hown hbc
  have hown0 : (wc.alloc (.cells #[.string ⟨#[]⟩, .string ⟨#[107, 101, 101, 112, 32]⟩, .string ⟨#[100, 114, 111, 112, 32]⟩, .string ⟨#[97, 100, 100, 32]⟩] 9)).ownsRow W.heap.size 9 1 u3 (L0 ++ Pc.bodyL (hs.take 0)).length (strs (L0 ++ Pc.bodyL (hs.take 0))) := by rw [List.take_zero, show Pc.bodyL [] = [] from rfl, List.append_nil]; exact hownd
  clear hownd
  obtain ⟨i0, hi0, hz0, hz1, hz2⟩ := info_parts infoS
  have HRES := Lib.hid (fun w' h => (HW.out w' h).1)
  have HHS := Lib.hid (HW.out _ (Below.refl W.heap.size W)).2.1
  go_upto_region 7 with (fail)
  have HD := Lib.hid hwd
  have HA := Lib.hid haw
  have HO := Lib.hid hown0
  have HB := Lib.hid hbd
  clear hwd haw hown0 hbd
  generalize wc.alloc (.cells #[.string ⟨#[]⟩, .string ⟨#[107, 101, 101, 112, 32]⟩, .string ⟨#[100, 114, 111, 112, 32]⟩, .string ⟨#[97, 100, 100, 32]⟩] 9) = W2 at *
  generalize wc.heap.size = wb at *
  go_loopw [3, 27] (fun v i wr => ∃ k : Nat, k ≤ hs.length ∧ i = .int .i64 k ∧ wr.ownsRow W.heap.size 9 1 v (L0 ++ Pc.bodyL (hs.take k)).length (strs (L0 ++ Pc.bodyL (hs.take k))) ∧ Below W.heap.size W wr ∧ WordsAt wr wb ∧ (∀ q, v.ownBlock = some q → q ≠ wb)) (fun _ i _ => hs.length - (intOf i).toNat)
  case atStart => exact ⟨0, by omega, rfl, HO.out, HB.out, HD.out, HA.out⟩
  case round =>
    clear HO HB HD HA k0 k1 HW
    obtain ⟨k, hk, rfl, hown, hb, hwd, haw⟩ := hrel
    have HAW := Lib.hid haw
    have HWD := Lib.hid hwd
    clear haw hwd
    have hpl : (L0 ++ Pc.bodyL (hs.take k)).length ≤ 4097 := by have := HBT.out k; rw [List.length_append]; omega
    by_cases hlt : k < hs.length
    · have b1 : decide ((k : Int) < hs.length) = true := by simp; omega
      have b1n : decide (k < hs.length) = true := by simp; omega
      obtain ⟨g, o, Ak, ck, rfl, hg, h0, h1, h2, hck, h4, h5⟩ := HHS.out k hlt
      have hd0 := (hb.cell (p := ⟨g, o + k * 3, none⟩) hg).trans h0
      have hd1 := (hb.cell (p := ⟨g, o + k * 3 + 1, none⟩) hg).trans h1
      have hd2 := (hb.cell (p := ⟨g, o + k * 3 + 2, none⟩) hg).trans h2
      have HCK := Lib.hid hck
      clear h0 h1 h2 hck
      have HSN := Lib.hid (bodyL_snoc' L0 hs k hlt)
      have hnx := HBT.out (k + 1)
      obtain ⟨⟨n1, n2⟩, hkd, hll⟩ := Pc.isHunk_num (HHK.out hs[k] (List.getElem_mem hlt))
      generalize hs[k] = h at *
      generalize L0 ++ Pc.bodyL (hs.take k) = pr at *
      obtain ⟨kd, n, ls⟩ := h
      dsimp only at *
      have hlsl : ls.length ≤ 1024 := by omega
      obtain ⟨m, rfl⟩ : ∃ m : Nat, n = m := ⟨n.toNat, by omega⟩
      go_upto_region 9 with (fail)
      have hnew := heap_alloc_new wr (.cells #[.int .i64 kd, .int .i64 m, .slice Ak ls.length ck] 47)
      have e0 : (wr.alloc (.cells #[.int .i64 kd, .int .i64 m, .slice Ak ls.length ck] 47)).cell? ⟨wr.heap.size, 0, none⟩ = some (.int .i64 kd) := by rw [cell_of_row _ _ _ _ _ _ hnew]; rfl
      have e1 : (wr.alloc (.cells #[.int .i64 kd, .int .i64 m, .slice Ak ls.length ck] 47)).cell? ⟨wr.heap.size, 1, none⟩ = some (.int .i64 m) := by rw [cell_of_row _ _ _ _ _ _ hnew]; rfl
      have e2 : (wr.alloc (.cells #[.int .i64 kd, .int .i64 m, .slice Ak ls.length ck] 47)).cell? ⟨wr.heap.size, 2, none⟩ = some (.slice Ak ls.length ck) := by rw [cell_of_row _ _ _ _ _ _ hnew]; rfl
      have hlw : wr.heap.size < (wr.alloc (.cells #[.int .i64 kd, .int .i64 m, .slice Ak ls.length ck] 47)).heap.size := by simp
      have hb2 : Below W.heap.size W (wr.alloc (.cells #[.int .i64 kd, .int .i64 m, .slice Ak ls.length ck] 47)) := hb.alloc hb.size _
      have hown2 := hown.alloc (.cells #[.int .i64 kd, .int .i64 m, .slice Ak ls.length ck] 47)
      have hwd2 : WordsAt (wr.alloc (.cells #[.int .i64 kd, .int .i64 m, .slice Ak ls.length ck] 47)) wb := HWD.out.next ((Below.refl _ _).alloc (Nat.le_refl _) _)
      have HROW := Lib.hid (show ∀ q, u3.ownBlock = some q → W.heap.size ≤ q ∧ q < wr.heap.size from fun q hq => hown.lt q hq)
      clear hd0 hd1 hd2 hown hb hnew HWD
      generalize wr.alloc (.cells #[.int .i64 kd, .int .i64 m, .slice Ak ls.length ck] 47) = w2 at *
      generalize hq : wr.heap.size = q at *
      have HQ := Lib.hid hq
      clear hq
      obtain ⟨m1, m2, m3⟩ := hwd2.cell
      have HL2 := Lib.hid hlw
      have HB2 := Lib.hid hb2
      have HD2 := Lib.hid hwd2
      have hdc : ∀ w, Calls Tryz.prog 50 #[.int .i64 (m : Int)] w fun e w' => e = .returned (.string (str (Lib.decDigits m))) ∧ Below w.heap.size w w' := fun w => Cd.decimal_any m (by omega) w
      have hxa : str (Pc.word kd) ++ str (Lib.decDigits m) = str (Pc.headL ⟨kd, m, ls⟩) := by rw [str_app]; rfl
      have hz5 := word_len kd
      have hz21 : (Lib.decDigits m).length ≤ 21 := Cd.dec_len m (by omega)
      have s1 : (str (Pc.word kd)).size ≤ 5 := by rw [str_size]; omega
      have s2 : (str (Lib.decDigits m)).size ≤ 21 := by rw [str_size]; omega
      have HXA := Lib.hid hxa
      have HWB := Lib.hid (blk_lt hwd2)
      clear hz5 hz21 hxa hwd2
      generalize Pc.headL ⟨kd, m, ls⟩ = hl1 at *
      generalize str (Lib.decDigits m) = dd at *
      have hsz2 := hb2.size
      have hk4 : (0 : Int) ≤ kd ∧ kd < 4 := by omega
      rcases hkd with rfl | rfl | rfl
      · rw [show str (Pc.word 1) = ⟨#[107, 101, 101, 112, 32]⟩ from rfl] at HXA s1
        have s3 : ¬ (9223372036854775807 < (⟨#[107, 101, 101, 112, 32]⟩ : ByteArray).size + dd.size) := by have : (⟨#[107, 101, 101, 112, 32]⟩ : ByteArray).size = 5 := rfl; omega
        have s4 : ¬ (9223372036854775807 < 5 + dd.size) := by omega
        go_region_law (first
          | (go_simp; go_at_call 50; (with_reducible refine (hdc _).mono ?_); rintro x w4 ⟨rfl, hb4⟩; have hown4 := owns_below hown2.drew hb4; have hb04 := HB2.out.drew.trans (hb4.mono HB2.out.drew.size); have f2 := (hb4.cell (p := ⟨q, 2, none⟩) HL2.out).trans e2; have f0 := (hb4.cell (p := ⟨q, 0, none⟩) HL2.out).trans e0; have fw := (hb4.cell (p := ⟨wb, 1, none⟩) HWB.out).trans m1; have hwd4 : WordsAt w4 wb := (hb4.block _ HWB.out).trans HD2.out; have hlq := Nat.lt_of_lt_of_le HL2.out hb4.size; have hs4 := hb04.size)
          | (refine step_append_lies _ (by rfl) _ _ _ (by rfl) W.heap.size 9 i0 _ 1 16 Tryz.underlying45 hi0 hz0 hz1 hz2 rfl (by omega) u3 pr.length _ (by rfl) (hown4.alloc _) ⟨w4.heap.size, 0, none⟩ 1 1 [_] (by rfl) (by rfl) (World.news_of_block (cs := #[_]) (t := 9) (fr := (0, 0)) (heap_alloc_new w4 _)) (by simp [Value.oneCell']) (by omega) (by unfold maxLen; omega) (by omega) (by simp; omega) (w4.heap.size + 1) (by simp) ?_; intro gg cap w6 hown6 hgrow hat hlt6))
        all_goals
          have hb6 : Below W.heap.size W w6 := grown_own0 (hb04.alloc hb04.size _) hgrow (fun q' hq' => (HROW.out q' hq').1)
          rw [strs_snoc' pr _ hl1 HXA.out] at hown6
          have hq0 : (w4.alloc (.cells #[.string (⟨#[107, 101, 101, 112, 32]⟩ ++ dd)] 9)).cell? ⟨q, 2, none⟩ = some (.slice Ak ls.length ck) := (((Below.refl _ w4).alloc (Nat.le_refl _) _).cell (p := ⟨q, 2, none⟩) hlq).trans f2
          have e6 : w6.cell? ⟨q, 2, none⟩ = some (.slice Ak ls.length ck) := (World.grownBy.cell_far hgrow ⟨q, 2, none⟩ (by simp; omega) (fun e => by have := (HROW.out q e.symm).2; have := HQ.out; omega)).trans hq0
          have hwd6 : WordsAt w6 wb := (hwd4.next ((Below.refl _ _).alloc (Nat.le_refl _) _)).grown hgrow (fun q hq => HAW.out q hq)
          have haw6 : gg ≠ wb := by
            rcases hat with e | e
            · exact HAW.out gg e
            · have := blk_lt hwd4; omega
          have hown6' : w6.ownsRow W.heap.size 9 1 (.slice (some ⟨gg, 0, none⟩) (pr.length + 1) cap) (pr ++ [hl1]).length (strs (pr ++ [hl1])) := by rw [List.length_append, List.length_singleton]; exact hown6
          have hcl : (pr ++ [hl1]).length = pr.length + 1 := by simp
          obtain ⟨v7, w7, hrun, hown7, hgrow7, hat7⟩ := app_strs2 45 w6 W.heap.size _ (pr ++ [hl1]) ls hown6' Ak ck (HCK.out.next hb6) hb6.size (by rw [hcl]; omega)
          have hb7 : Below W.heap.size W w7 := grown_own0 hb6 hgrow7 (fun q' hq' => (hown6'.lt q' hq').1)
          have hwd7 : WordsAt w7 wb := hwd6.grown hgrow7 (fun q hq => by have e := Option.some.inj hq; rw [← e]; exact haw6)
          have haw7 : ∀ q, v7.ownBlock = some q → q ≠ wb := fun q hq => by
            rcases hat7 q hq with e | e
            · have e := Option.some.inj e; rw [← e]; exact haw6
            · have := blk_lt hwd6; omega
          rw [← HSN.out] at hown7
          clear hown6 hown6' hgrow hgrow7 hat hlt6 hq0 hcl f2 f0 fw hlq hb04 hb6 hown4 hs4 hb4 hwd6 haw6 hwd4 hat7
          go_wp2_with (at_builtin; refine Lib.wpList_append_run _ rfl _ _ _ _ rfl _ _ rfl rfl _ _ hrun ?_)
          go_roundw
          case rel => exact ⟨k + 1, by omega, by go_num, hown7, hb7, hwd7, haw7⟩
          case measure => simp [intOf]; omega
      · rw [show str (Pc.word 2) = ⟨#[100, 114, 111, 112, 32]⟩ from rfl] at HXA s1
        have s3 : ¬ (9223372036854775807 < (⟨#[100, 114, 111, 112, 32]⟩ : ByteArray).size + dd.size) := by have : (⟨#[100, 114, 111, 112, 32]⟩ : ByteArray).size = 5 := rfl; omega
        have s4 : ¬ (9223372036854775807 < 5 + dd.size) := by omega
        go_region_law (first
          | (go_simp; go_at_call 50; (with_reducible refine (hdc _).mono ?_); rintro x w4 ⟨rfl, hb4⟩; have hown4 := owns_below hown2.drew hb4; have hb04 := HB2.out.drew.trans (hb4.mono HB2.out.drew.size); have f2 := (hb4.cell (p := ⟨q, 2, none⟩) HL2.out).trans e2; have f0 := (hb4.cell (p := ⟨q, 0, none⟩) HL2.out).trans e0; have fw := (hb4.cell (p := ⟨wb, 2, none⟩) HWB.out).trans m2; have hwd4 : WordsAt w4 wb := (hb4.block _ HWB.out).trans HD2.out; have hlq := Nat.lt_of_lt_of_le HL2.out hb4.size; have hs4 := hb04.size)
          | (refine step_append_lies _ (by rfl) _ _ _ (by rfl) W.heap.size 9 i0 _ 1 16 Tryz.underlying45 hi0 hz0 hz1 hz2 rfl (by omega) u3 pr.length _ (by rfl) (hown4.alloc _) ⟨w4.heap.size, 0, none⟩ 1 1 [_] (by rfl) (by rfl) (World.news_of_block (cs := #[_]) (t := 9) (fr := (0, 0)) (heap_alloc_new w4 _)) (by simp [Value.oneCell']) (by omega) (by unfold maxLen; omega) (by omega) (by simp; omega) (w4.heap.size + 1) (by simp) ?_; intro gg cap w6 hown6 hgrow hat hlt6))
        all_goals
          have hb6 : Below W.heap.size W w6 := grown_own0 (hb04.alloc hb04.size _) hgrow (fun q' hq' => (HROW.out q' hq').1)
          rw [strs_snoc' pr _ hl1 HXA.out] at hown6
          have hq0 : (w4.alloc (.cells #[.string (⟨#[100, 114, 111, 112, 32]⟩ ++ dd)] 9)).cell? ⟨q, 2, none⟩ = some (.slice Ak ls.length ck) := (((Below.refl _ w4).alloc (Nat.le_refl _) _).cell (p := ⟨q, 2, none⟩) hlq).trans f2
          have e6 : w6.cell? ⟨q, 2, none⟩ = some (.slice Ak ls.length ck) := (World.grownBy.cell_far hgrow ⟨q, 2, none⟩ (by simp; omega) (fun e => by have := (HROW.out q e.symm).2; have := HQ.out; omega)).trans hq0
          have hwd6 : WordsAt w6 wb := (hwd4.next ((Below.refl _ _).alloc (Nat.le_refl _) _)).grown hgrow (fun q hq => HAW.out q hq)
          have haw6 : gg ≠ wb := by
            rcases hat with e | e
            · exact HAW.out gg e
            · have := blk_lt hwd4; omega
          have hown6' : w6.ownsRow W.heap.size 9 1 (.slice (some ⟨gg, 0, none⟩) (pr.length + 1) cap) (pr ++ [hl1]).length (strs (pr ++ [hl1])) := by rw [List.length_append, List.length_singleton]; exact hown6
          have hcl : (pr ++ [hl1]).length = pr.length + 1 := by simp
          obtain ⟨v7, w7, hrun, hown7, hgrow7, hat7⟩ := app_strs2 45 w6 W.heap.size _ (pr ++ [hl1]) ls hown6' Ak ck (HCK.out.next hb6) hb6.size (by rw [hcl]; omega)
          have hb7 : Below W.heap.size W w7 := grown_own0 hb6 hgrow7 (fun q' hq' => (hown6'.lt q' hq').1)
          have hwd7 : WordsAt w7 wb := hwd6.grown hgrow7 (fun q hq => by have e := Option.some.inj hq; rw [← e]; exact haw6)
          have haw7 : ∀ q, v7.ownBlock = some q → q ≠ wb := fun q hq => by
            rcases hat7 q hq with e | e
            · have e := Option.some.inj e; rw [← e]; exact haw6
            · have := blk_lt hwd6; omega
          rw [← HSN.out] at hown7
          clear hown6 hown6' hgrow hgrow7 hat hlt6 hq0 hcl f2 f0 fw hlq hb04 hb6 hown4 hs4 hb4 hwd6 haw6 hwd4 hat7
          go_wp2_with (at_builtin; refine Lib.wpList_append_run _ rfl _ _ _ _ rfl _ _ rfl rfl _ _ hrun ?_)
          go_roundw
          case rel => exact ⟨k + 1, by omega, by go_num, hown7, hb7, hwd7, haw7⟩
          case measure => simp [intOf]; omega
      · rw [show str (Pc.word 3) = ⟨#[97, 100, 100, 32]⟩ from rfl] at HXA s1
        have s3 : ¬ (9223372036854775807 < (⟨#[97, 100, 100, 32]⟩ : ByteArray).size + dd.size) := by have : (⟨#[97, 100, 100, 32]⟩ : ByteArray).size = 4 := rfl; omega
        have s4 : ¬ (9223372036854775807 < 4 + dd.size) := by omega
        go_region_law (first
          | (go_simp; go_at_call 50; (with_reducible refine (hdc _).mono ?_); rintro x w4 ⟨rfl, hb4⟩; have hown4 := owns_below hown2.drew hb4; have hb04 := HB2.out.drew.trans (hb4.mono HB2.out.drew.size); have f2 := (hb4.cell (p := ⟨q, 2, none⟩) HL2.out).trans e2; have f0 := (hb4.cell (p := ⟨q, 0, none⟩) HL2.out).trans e0; have fw := (hb4.cell (p := ⟨wb, 3, none⟩) HWB.out).trans m3; have hwd4 : WordsAt w4 wb := (hb4.block _ HWB.out).trans HD2.out; have hlq := Nat.lt_of_lt_of_le HL2.out hb4.size; have hs4 := hb04.size)
          | (refine step_append_lies _ (by rfl) _ _ _ (by rfl) W.heap.size 9 i0 _ 1 16 Tryz.underlying45 hi0 hz0 hz1 hz2 rfl (by omega) u3 pr.length _ (by rfl) (hown4.alloc _) ⟨w4.heap.size, 0, none⟩ 1 1 [_] (by rfl) (by rfl) (World.news_of_block (cs := #[_]) (t := 9) (fr := (0, 0)) (heap_alloc_new w4 _)) (by simp [Value.oneCell']) (by omega) (by unfold maxLen; omega) (by omega) (by simp; omega) (w4.heap.size + 1) (by simp) ?_; intro gg cap w6 hown6 hgrow hat hlt6))
        all_goals
          have hb6 : Below W.heap.size W w6 := grown_own0 (hb04.alloc hb04.size _) hgrow (fun q' hq' => (HROW.out q' hq').1)
          rw [strs_snoc' pr _ hl1 HXA.out] at hown6
          have hq0 : (w4.alloc (.cells #[.string (⟨#[97, 100, 100, 32]⟩ ++ dd)] 9)).cell? ⟨q, 2, none⟩ = some (.slice Ak ls.length ck) := (((Below.refl _ w4).alloc (Nat.le_refl _) _).cell (p := ⟨q, 2, none⟩) hlq).trans f2
          have e6 : w6.cell? ⟨q, 2, none⟩ = some (.slice Ak ls.length ck) := (World.grownBy.cell_far hgrow ⟨q, 2, none⟩ (by simp; omega) (fun e => by have := (HROW.out q e.symm).2; have := HQ.out; omega)).trans hq0
          have hwd6 : WordsAt w6 wb := (hwd4.next ((Below.refl _ _).alloc (Nat.le_refl _) _)).grown hgrow (fun q hq => HAW.out q hq)
          have haw6 : gg ≠ wb := by
            rcases hat with e | e
            · exact HAW.out gg e
            · have := blk_lt hwd4; omega
          have hown6' : w6.ownsRow W.heap.size 9 1 (.slice (some ⟨gg, 0, none⟩) (pr.length + 1) cap) (pr ++ [hl1]).length (strs (pr ++ [hl1])) := by rw [List.length_append, List.length_singleton]; exact hown6
          have hcl : (pr ++ [hl1]).length = pr.length + 1 := by simp
          obtain ⟨v7, w7, hrun, hown7, hgrow7, hat7⟩ := app_strs2 45 w6 W.heap.size _ (pr ++ [hl1]) ls hown6' Ak ck (HCK.out.next hb6) hb6.size (by rw [hcl]; omega)
          have hb7 : Below W.heap.size W w7 := grown_own0 hb6 hgrow7 (fun q' hq' => (hown6'.lt q' hq').1)
          have hwd7 : WordsAt w7 wb := hwd6.grown hgrow7 (fun q hq => by have e := Option.some.inj hq; rw [← e]; exact haw6)
          have haw7 : ∀ q, v7.ownBlock = some q → q ≠ wb := fun q hq => by
            rcases hat7 q hq with e | e
            · have e := Option.some.inj e; rw [← e]; exact haw6
            · have := blk_lt hwd6; omega
          rw [← HSN.out] at hown7
          clear hown6 hown6' hgrow hgrow7 hat hlt6 hq0 hcl f2 f0 fw hlq hb04 hb6 hown4 hs4 hb4 hwd6 haw6 hwd4 hat7
          go_wp2_with (at_builtin; refine Lib.wpList_append_run _ rfl _ _ _ _ rfl _ _ rfl rfl _ _ hrun ?_)
          go_roundw
          case rel => exact ⟨k + 1, by omega, by go_num, hown7, hb7, hwd7, haw7⟩
          case measure => simp [intOf]; omega
    · have b1 : decide ((k : Int) < hs.length) = false := by simp; omega
      have b1n : decide (k < hs.length) = false := by simp; omega
      rw [show hs.take k = hs from List.take_of_length_le (by omega), ← HPL1.out] at hown
      have hbw := HRES.out _ hb
      clear hb
      go_wp2_with fail
      go_ret
      exact ⟨_, rfl, hown.mono HBW.out, hbw⟩
end Go.Proofs.YtmmdldicafbjdaaGreatDoor
end
section
namespace Go.Proofs.YtmmdldicafbjdaaGreatDoor.Tr
open Go.RowKit

theorem joined_app : ∀ (l r : List (List UInt8)), ∃ t, Tre.joined (l ++ r) = Tre.joined l ++ t
  | [], r => ⟨Tre.joined r, rfl⟩
  | [a], [] => ⟨[], by simp [Tre.joined]⟩
  | [a], b :: r => ⟨10 :: Tre.joined (b :: r), rfl⟩
  | a :: b :: l, r => by
    obtain ⟨t, ht⟩ := joined_app (b :: l) r
    refine ⟨t, ?_⟩
    show a ++ 10 :: Tre.joined (b :: l ++ r) = (a ++ 10 :: Tre.joined (b :: l)) ++ t
    rw [ht]; simp
theorem joined_take_le (ls : List (List UInt8)) (k : Nat) : (Tre.joined (ls.take k)).length ≤ (Tre.joined ls).length := by
  obtain ⟨t, ht⟩ := joined_app (ls.take k) (ls.drop k)
  rw [List.take_append_drop] at ht
  rw [ht]; simp
theorem joined_snoc : ∀ (l : List (List UInt8)) (a : List UInt8), l ≠ [] → Tre.joined (l ++ [a]) = Tre.joined l ++ 10 :: a
  | [], _, h => absurd rfl h
  | [x], a, _ => rfl
  | x :: y :: l, a, _ => by
    show x ++ 10 :: Tre.joined (y :: l ++ [a]) = (x ++ 10 :: Tre.joined (y :: l)) ++ 10 :: a
    rw [joined_snoc (y :: l) a (by simp)]; simp
set_option maxHeartbeats 4000000 in
set_option maxRecDepth 100000 in
theorem qJoin_any (A : Option Addr) (c : Nat) (ls : List (List UInt8)) (w : World) (hA : CellsAt w w.heap.size A (strs ls)) (hl : ls.length ≤ 1000000) (hL : ∀ l ∈ ls, l.length ≤ 1000000000) (hcap : ls.length ≤ c) :
    Calls Tryz.prog 24 #[.slice A ls.length c] w fun x w' => x = .returned (joinV ls) ∧ Below w.heap.size w w' := by
  have HV := Lib.hid (joinV_def ls)
  generalize joinV ls = v at *
  by_cases h0 : ls = []
  · have HT := Lib.hid (show v = .tuple #[.string ⟨#[]⟩, .int .i64 1] by rw [HV.out, join_def, if_pos (.inl h0)]; rfl)
    subst h0
    clear HV
    go_enter Tryz.func24, Tryz.ntmps24
    go_wp2_with fail
    go_ret2
    exact ⟨by rw [HT.out]; rfl, Below.refl _ _⟩
  have hpos : 1 ≤ ls.length := List.length_pos_iff.2 h0
  have n0 : ((ls.length : Int) == 0) = false := by rw [beq_eq_false_iff_ne]; omega
  have n0n : (ls.length == 0) = false := by rw [beq_eq_false_iff_ne]; omega
  have HJL := Lib.hid (Tre.joined_len ls h0)
  have H0 := Lib.hid h0
  clear h0
  go_enter Tryz.func24, Tryz.ntmps24
  go_wp2_with fail
  go_loopw [4, 18] (fun s i wr => ∃ (k n : Nat), k ≤ ls.length ∧ i = .int .i64 k ∧ s = .int .i64 n ∧ n + 1 = ls.length + ((ls.take k).map (·.length)).sum ∧ ((ls.take k).map (·.length)).sum ≤ 1000000000 * k ∧ ((ls.take k).any fun s => s.contains 10) = false ∧ Below w.heap.size w wr) (fun _ i _ => ls.length - (intOf i).toNat)
  case atStart => exact ⟨0, ls.length - 1, by omega, rfl, by rw [Value.int.injEq]; exact ⟨rfl, by omega⟩, by simp; omega, by simp, by simp, Below.refl _ _⟩
  case round =>
    obtain ⟨k, n, hk, rfl, rfl, hn, hsl, hno, hb⟩ := hrel
    have HNO := Lib.hid hno
    have HN := Lib.hid hn
    have hn2 : n ≤ 1000001000000000 := by omega
    clear hno hn
    by_cases hlt : k < ls.length
    · have b1 : decide ((k : Int) < ls.length) = true := by simp; omega
      have b1n : decide (k < ls.length) = true := by simp; omega
      obtain ⟨g, o, rfl, hg, hc0⟩ := hA k (by rw [strs_len]; exact hlt)
      have hd0 := (hb.cell (p := ⟨g, o + k, none⟩) hg).trans hc0
      rw [strs_get ls k hlt] at hd0
      have hll := hL ls[k] (List.getElem_mem hlt)
      have HLT := Lib.hid (lens_take ls k hlt)
      have HAS := Lib.hid (any_snocL (fun s => s.contains 10) ls k hlt)
      have HST := Lib.hid (fun hp : ls[k].contains 10 = true => (show (ls.any fun s => s.contains 10) = true from List.any_eq_true.2 ⟨ls[k], List.getElem_mem hlt, hp⟩))
      have hcall := qSplit_any (str ls[k]) 10 wr (by rw [str_size]; exact hll)
      rw [str_data, show ((10 : UInt8).toNat : Int) = 10 from rfl] at hcall
      have HCI := Lib.hid (Tre.contains_iff ls[k] 10)
      have HNE := Lib.hid (show 1 ≤ (Tre.split 10 ls[k]).length from List.length_pos_iff.2 (Tre.split_ne 10 ls[k]))
      generalize Tre.split 10 ls[k] = P at *
      clear hc0
      have hsz : (str ls[k]).size ≤ 1000000000 := by rw [str_size]; exact hll
      have HSZ := Lib.hid (str_size ls[k])
      clear hll
      generalize ls[k] = l at *
      cases hc : l.contains 10 with
      | true =>
        have HT := Lib.hid (show v = .tuple #[.string ⟨#[]⟩, .int .i64 1] by rw [HV.out, join_def, if_pos (.inr (HST.out hc))]; rfl)
        have hp : P.length ≠ 1 := by
          have h := HCI.out
          rw [hc] at h
          have := of_decide_eq_true h.symm
          omega
        have q1 : ((P.length : Int) != 1) = true := by rw [bne_iff_ne]; omega
        clear hc hp
        go_wp2_with fail
        with_reducible refine hcall.mono ?_
        clear hcall
        rintro e w2 ⟨v1, rfl, hown, hb2⟩
        obtain ⟨A1, c1, rfl, _⟩ := owns_cells hown
        clear hown
        go_wp2_with fail
        go_ret2
        exact ⟨by rw [HT.out]; rfl, hb.trans (hb2.mono hb.size)⟩
      | false =>
        have HA2 := Lib.hid (show ((ls.take (k + 1)).any fun s => s.contains 10) = false by rw [HAS.out, HNO.out, hc]; rfl)
        have hp : P.length = 1 := by
          have h := HCI.out
          rw [hc] at h
          have := of_decide_eq_false h.symm
          have := HNE.out
          omega
        have q1 : ((P.length : Int) != 1) = false := by simp; omega
        clear hc hp
        go_wp2_with fail
        with_reducible refine hcall.mono ?_
        clear hcall
        rintro e w2 ⟨v1, rfl, hown, hb2⟩
        obtain ⟨A1, c1, rfl, _⟩ := owns_cells hown
        replace hb := hb.trans (hb2.mono hb.size)
        clear hown hb2
        go_wp2_with fail
        go_roundw
        case rel => exact ⟨k + 1, n + (str l).size, by omega, by go_num, by go_num, by have := HN.out; have := HLT.out; have := HSZ.out; omega, by have := HLT.out; have := HSZ.out; omega, HA2.out, hb⟩
        case measure => simp [intOf]; omega
    · have b1 : decide ((k : Int) < ls.length) = false := by simp; omega
      have b1n : decide (k < ls.length) = false := by simp; omega
      have hke : k = ls.length := by omega
      have HAL := Lib.hid (show (ls.any fun s => s.contains 10) = false by
        have h := HNO.out
        rw [hke, List.take_length] at h
        exact h)
      have HNL := Lib.hid (show n = (Tre.joined ls).length by
        have h := HN.out
        rw [hke, List.take_length] at h
        have := HJL.out
        omega)
      have HV1 := Lib.hid (show Tre.join ls = if 65536 < (Tre.joined ls).length ∨ 1024 < ls.length then ([], 10) else (Tre.joined ls, 0) by
        rw [join_def, if_neg (by rw [HAL.out]; simp [H0.out])])
      clear HNO HN hke
      by_cases hb1 : 65536 < n
      · have b2 : decide ((65536 : Int) < n) = true := by simp; omega
        have b2n : decide (65536 < n) = true := by simp; omega
        have HT := Lib.hid (show v = .tuple #[.string ⟨#[]⟩, .int .i64 10] by rw [HV.out, HV1.out, if_pos (.inl (by rw [← HNL.out]; exact hb1))]; rfl)
        clear hb1
        rcases Nat.lt_or_ge 1024 ls.length with q | q
        · have b3 : decide ((1024 : Int) < ls.length) = true := by simp; omega
          have b3n : decide (1024 < ls.length) = true := by simp; omega
          go_wp2_with fail
          go_ret2
          exact ⟨by rw [HT.out]; rfl, hb⟩
        · have b3 : decide ((1024 : Int) < ls.length) = false := by simp; omega
          have b3n : decide (1024 < ls.length) = false := by simp; omega
          go_wp2_with fail
          go_ret2
          exact ⟨by rw [HT.out]; rfl, hb⟩
      have b2 : decide ((65536 : Int) < n) = false := by simp; omega
      have b2n : decide (65536 < n) = false := by simp; omega
      by_cases hb2 : 1024 < ls.length
      · have b3 : decide ((1024 : Int) < ls.length) = true := by simp; omega
        have b3n : decide (1024 < ls.length) = true := by simp; omega
        have HT := Lib.hid (show v = .tuple #[.string ⟨#[]⟩, .int .i64 10] by rw [HV.out, HV1.out, if_pos (.inr hb2)]; rfl)
        clear hb1 hb2
        go_wp2_with fail
        go_ret2
        exact ⟨by rw [HT.out]; rfl, hb⟩
      have b3 : decide ((1024 : Int) < ls.length) = false := by simp; omega
      have b3n : decide (1024 < ls.length) = false := by simp; omega
      have hjl : (Tre.joined ls).length ≤ 65536 := by rw [← HNL.out]; omega
      have HT := Lib.hid (show v = .tuple #[.string (str (Tre.joined ls)), .int .i64 0] by rw [HV.out, HV1.out, if_neg (by omega)])
      obtain ⟨g, o, rfl, hg, hx0⟩ := hA 0 (by rw [strs_len]; omega)
      rw [strs_get ls 0 (by omega), Nat.add_zero] at hx0
      have hd0 := (hb.cell (p := ⟨g, o, none⟩) hg).trans hx0
      have HF := Lib.hid (show Tre.joined (ls.take 1) = ls[0] by rw [show ls.take 1 = [ls[0]] by rw [List.take_succ_eq_append_getElem (show 0 < ls.length by omega)]; rfl]; rfl)
      clear hx0
      have hsl1 : (1 : Int) ≤ (ls.length : Int) := by omega
      have hsl2 : (ls.length : Int) ≤ (c : Int) := by omega
      rcases Classical.em (c = 1) with hc1 | hc1
      · have hone : ls.length ≤ 1 := by omega
        subst hc1
        go_wp2_with fail
        go_loopw [7, 44] (fun s i wx => ∃ m : Nat, m + 1 ≤ ls.length ∧ i = .int .i64 m ∧ s = .string (str (Tre.joined (ls.take (m + 1)))) ∧ Below w.heap.size w wx) (fun _ i _ => ls.length - (intOf i).toNat)
        case atStart => exact ⟨0, by omega, rfl, by rw [HF.out], hb⟩
        case round =>
          clear hb hd0
          obtain ⟨m, hm, rfl, rfl, hb⟩ := hrel
          have c1 : decide ((m : Int) < (ls.length : Int) - 1) = false := decide_eq_false (by omega)
          have c1n : decide (m < ls.length - 1) = false := decide_eq_false (by omega)
          have HE := Lib.hid (show Tre.joined (ls.take (m + 1)) = Tre.joined ls by rw [List.take_of_length_le (by omega)])
          go_wp2_with fail
          go_ret2
          exact ⟨by rw [HT.out, ← HE.out]; rfl, hb⟩
      · have hc2 : ¬ (c : Int) = 1 := by omega
        have hc3 : ¬ (1 : Int) = (c : Int) := by omega
        have hc4 : ¬ (c : Int) - 1 = 0 := by omega
        go_wp2_with fail
        go_loopw [7, 44] (fun s i wx => ∃ m : Nat, m + 1 ≤ ls.length ∧ i = .int .i64 m ∧ s = .string (str (Tre.joined (ls.take (m + 1)))) ∧ Below w.heap.size w wx) (fun _ i _ => ls.length - (intOf i).toNat)
        case atStart => exact ⟨0, by omega, rfl, by rw [HF.out], hb⟩
        case round =>
          clear hb hd0
          obtain ⟨m, hm, rfl, rfl, hb⟩ := hrel
          by_cases hlt2 : m + 1 < ls.length
          · have c1 : decide ((m : Int) < (ls.length : Int) - 1) = true := decide_eq_true (by omega)
            have c1n : decide (m < ls.length - 1) = true := decide_eq_true (by omega)
            obtain ⟨g', o', hAe, hg', hc0⟩ := hA (m + 1) (by rw [strs_len]; exact hlt2)
            injection hAe with hAe
            injection hAe with e1 e2
            subst e1 e2
            rw [strs_get ls (m + 1) hlt2] at hc0
            have hd1 := (hb.cell (p := ⟨g, o + (m + 1), none⟩) hg).trans hc0
            have hd2 : wr.cell? ⟨g, o + 1 + m, none⟩ = some (.string (str ls[m + 1])) := by rw [show o + 1 + m = o + (m + 1) by omega]; exact hd1
            have HJ := Lib.hid (joined_snoc (ls.take (m + 1)) ls[m + 1] (by intro e; have := congrArg List.length e; rw [List.length_take, List.length_nil] at this; omega))
            have hle := joined_take_le ls (m + 2)
            rw [List.take_succ_eq_append_getElem hlt2, HJ.out] at hle
            have HTS := Lib.hid (List.take_succ_eq_append_getElem hlt2)
            have hz1 : (str (Tre.joined (ls.take (m + 1)))).size ≤ 65536 := by rw [str_size]; simp at hle; omega
            have hz2 : (str ls[m + 1]).size ≤ 65536 := by rw [str_size]; simp at hle; omega
            have hz3 : (str (Tre.joined (ls.take (m + 1))) ++ ⟨#[10]⟩).size ≤ 65537 := by rw [ByteArray.size_append]; show _ + 1 ≤ _; omega
            have HEQ := Lib.hid (show str (Tre.joined (ls.take (m + 1))) ++ ⟨#[10]⟩ ++ str ls[m + 1] = str (Tre.joined (ls.take (m + 1 + 1))) by
              rw [show (⟨#[10]⟩ : ByteArray) = str [10] from rfl, str_app, str_app, HTS.out, HJ.out]; simp)
            clear hc0 hd1 hle hg'
            go_wp2_with fail
            go_roundw
            case rel => exact ⟨m + 1, by omega, by go_num, by rw [← HEQ.out], hb⟩
            case measure => simp [intOf]; omega
          · have c1 : decide ((m : Int) < (ls.length : Int) - 1) = false := decide_eq_false (by omega)
            have c1n : decide (m < ls.length - 1) = false := decide_eq_false (by omega)
            have HE := Lib.hid (show Tre.joined (ls.take (m + 1)) = Tre.joined ls by rw [List.take_of_length_le (by omega)])
            go_wp2_with fail
            go_ret2
            exact ⟨by rw [HT.out, ← HE.out]; rfl, hb⟩
end Go.Proofs.YtmmdldicafbjdaaGreatDoor.Tr
end
section
namespace Go.Proofs.YtmmdldicafbjdaaGreatDoor
open Go.RowKit Go.Deep Tr

namespace Pc
theorem join_len {l : List (List UInt8)} (h : (Tre.join l).2 = 0) : l.length ≤ 1024 := by
  unfold Tre.join at h
  split at h
  · cases h
  · split at h
    · cases h
    · omega
theorem valid_len {p : Pa} (h : valid p = true) : p.hs.length ≤ 1024 ∧ (bodyL p.hs).length ≤ 1024 := by
  have h1 := h
  unfold valid at h1
  simp only [Bool.and_eq_true, decide_eq_true_eq] at h1
  have h2 := join_len h1.2
  have h3 := body_len p.hs
  unfold printL at h2
  rw [List.length_append] at h2
  omega
/-- The kind of the hunk in front of one. -/
def prevK (hs : List Hk) (k : Nat) : Int := if k = 0 then 0 else (hs.getD (k - 1) default).kind
theorem prevK_zero (hs : List Hk) : prevK hs 0 = 0 := rfl
theorem prevK_succ (hs : List Hk) (k : Nat) (h : k < hs.length) : prevK hs (k + 1) = hs[k].kind := by
  unfold prevK
  rw [if_neg (by omega), Nat.add_sub_cancel, List.getD_eq_getElem?_getD, List.getElem?_eq_getElem h]; rfl
theorem isHunk_bad (h : Hk) (hf : isHunk h = false) : h.kind < 1 ∨ 3 < h.kind ∨ h.n < 1 ∨ 1024 < h.n ∨ (h.kind = 3 ∧ (h.ls.length : Int) ≠ h.n) ∨ (h.kind ≠ 3 ∧ (h.ls.length : Int) ≠ 0) := by
  unfold isHunk at hf
  by_cases a : h.kind = 1 ∨ h.kind = 2
  · rw [if_pos a, Bool.and_eq_false_iff, decide_eq_false_iff_not] at hf
    rcases hf with hf | hf
    · have := (Bool.eq_false_iff.1 hf)
      rw [ne_eq, isNum_iff] at this
      omega
    · omega
  · rw [if_neg a] at hf
    by_cases b : h.kind = 3
    · rw [if_pos b, Bool.and_eq_false_iff, decide_eq_false_iff_not] at hf
      rcases hf with hf | hf
      · have := (Bool.eq_false_iff.1 hf)
        rw [ne_eq, isNum_iff] at this
        omega
      · omega
    · omega
end Pc
/-- What Valid looks at. -/
theorem valid_split (p : Pc.Pa) : Pc.valid p = (Pc.inOrder 0 p.hs && (Pc.isNum (Pc.cnt 1 p.hs + Pc.cnt 2 p.hs) && (Pc.isNum (Pc.cnt 1 p.hs + Pc.cnt 3 p.hs) && (Pc.baseOk p.base && decide ((Tre.join (Pc.printL p)).2 = 0))))) := by
  rw [valid_def, shape_def]; simp only [Bool.and_assoc]
set_option maxHeartbeats 16000000 in
set_option maxRecDepth 100000 in
theorem qValid_any (p : Pc.Pa) (A : Option Addr) (c : Nat) (w : World) (hP : PaOk w p A) :
    Calls Tryz.prog 23 #[paV p A c] w fun e w' => e = .returned (.bool (Pc.valid p)) ∧ Below w.heap.size w w' := by
  have HV := Lib.hid (valid_split p)
  have HL := Lib.hid (fun h : Pc.valid p = true => Pc.valid_len h)
  generalize Pc.valid p = V at *
  have hb0 : Below w.heap.size w (w.alloc (.cells #[.string (str p.base), .slice A p.hs.length c] 24)) := (Below.refl _ _).alloc (Nat.le_refl _) _
  have bx0 : Bp (w.alloc (.cells #[.string (str p.base), .slice A p.hs.length c] 24)) w.heap.size p A c := heap_alloc_new w _
  have HW := Lib.hid (show ∀ w', Below (w.alloc (.cells #[.string (str p.base), .slice A p.hs.length c] 24)).heap.size (w.alloc (.cells #[.string (str p.base), .slice A p.hs.length c] 24)) w' → Below w.heap.size w w' ∧ PaOk w' p A ∧ Bp w' w.heap.size p A c from fun w' h => ⟨hb0.trans (h.mono hb0.size), hP.next (hb0.trans (h.mono hb0.size)), bx0.next h⟩)
  have hbb0 := Below.refl (w.alloc (.cells #[.string (str p.base), .slice A p.hs.length c] 24)).heap.size (w.alloc (.cells #[.string (str p.base), .slice A p.hs.length c] 24))
  have HPW := Lib.hid (HW.out _ hbb0).2.1
  rw [paV_def]
  obtain ⟨base, hs⟩ := p
  dsimp only at *
  have hbl := hP.base
  have hll := hP.len
  have HEA := Lib.hid hP.each
  dsimp only at hbl hll
  have hbs : (str base).size = base.length := str_size base
  obtain ⟨k0, k1⟩ := (HW.out _ hbb0).2.2.cells
  clear hb0 bx0 hP
  go_enter Tryz.func23, Tryz.ntmps23
  by_cases hc1 : (¬ base = [] ∧ ¬ base.length = 32)
  · have HT := Lib.hid (show V = false by
      rw [HV.out]
      have : Pc.baseOk base = false := by unfold Pc.baseOk; simp [hc1.1, hc1.2]
      rw [this]; simp)
    have q1 : ((str base).toList != []) = true := by rw [str_list, bne_iff_ne]; exact hc1.1
    have q1b : (!(str base).toList.isEmpty) = true := by rw [str_list]; cases hq : base with | nil => exact absurd hq hc1.1 | cons _ _ => rfl
    have q2 : (((str base).size : Int) != 32) = true := by rw [bne_iff_ne]; have := hc1.2; omega
    have q2b : ¬ (str base).size = 32 := by have := hc1.2; omega
    clear hc1
    go_wp2_with fail
    go_ret
    exact ⟨by rw [HT.out]; rfl, (HW.out _ hbb0).1⟩
  have HBO := Lib.hid (show Pc.baseOk base = true by
    unfold Pc.baseOk
    simp only [Bool.or_eq_true, decide_eq_true_eq]
    by_cases e : base = []
    · exact .inl e
    · exact .inr (Classical.byContradiction fun e2 => hc1 ⟨e, e2⟩))
  have hq : ∃ x y, (!(str base).toList.isEmpty) = x ∧ (((str base).size : Int) != 32) = y ∧ (x && y) = false := by
    refine ⟨_, _, rfl, rfl, ?_⟩
    rw [str_list]
    by_cases e : base = []
    · rw [e]; rfl
    · have : base.length = 32 := Classical.byContradiction fun e2 => hc1 ⟨e, e2⟩
      have : (((str base).size : Int) != 32) = false := by rw [bne_eq_false_iff_eq]; omega
      rw [this, Bool.and_false]
  obtain ⟨x, y, q1, q2, q3⟩ := hq
  clear hc1 hbs
  have hxy : x = false ∨ (x = true ∧ y = false) := by cases x <;> cases y <;> simp_all
  clear q3
  have hLL : 1024 < hs.length → V = false := fun h => by
    rw [Bool.eq_false_iff]
    intro h2
    have := (HL.out h2).1
    omega
  have HLL := Lib.hid hLL
  have HIO := Lib.hid (show Pc.inOrder 0 hs = Pc.inOrder (Pc.prevK hs 0) (hs.drop 0) from rfl)
  generalize hio : Pc.inOrder 0 hs = io at *
  have HOI := Lib.hid hio
  clear hio HL hLL
  rcases hxy with rfl | ⟨rfl, rfl⟩
  all_goals
    by_cases hc2 : 1024 < hs.length
    · have HT := Lib.hid (HLL.out hc2)
      have q4 : decide ((1024 : Int) < hs.length) = true := decide_eq_true (by omega)
      have q4n : decide (1024 < hs.length) = true := decide_eq_true hc2
      have hres := (HW.out _ hbb0).1
      clear hc2
      go_wp2_with fail
      go_ret
      exact ⟨by rw [HT.out]; rfl, hres⟩
    have q4 : decide ((1024 : Int) < hs.length) = false := decide_eq_false (by omega)
    have q4n : decide (1024 < hs.length) = false := decide_eq_false hc2
    have hl24 : hs.length ≤ 1024 := by omega
    clear HLL hc2
    go_wp2_with fail
    generalize w.alloc (.cells #[.string (str base), .slice A hs.length c] 24) = W at *
    clear q1 q2 q4 q4n k0 k1
    go_loopw [28] (fun i wr => ∃ k : Nat, k ≤ hs.length ∧ i = .int .i64 k ∧ io = Pc.inOrder (Pc.prevK hs k) (hs.drop k) ∧ Below W.heap.size W wr) (fun i _ => hs.length - (intOf i).toNat)
    case atStart => exact ⟨0, by omega, rfl, HIO.out, hbb0⟩
    case round =>
      clear HIO hbb0
      obtain ⟨k, hk, rfl, hio, hb⟩ := hrel
      have HR := Lib.hid hio
      clear hio
      obtain ⟨hbw, hPk, bxk⟩ := HW.out _ hb
      by_cases hlt : k < hs.length
      · have b1 : decide ((k : Int) < hs.length) = true := by simp; omega
        have b1n : decide (k < hs.length) = true := by simp; omega
        obtain ⟨g, o, Ak, ck, rfl, hg, h0, h1, h2, _⟩ := hPk.at_ k hlt
        have HS := Lib.hid (HR.out.trans (Pc.inOrder_at hs k (Pc.prevK hs k) hlt))
        have HPS := Lib.hid (Pc.prevK_succ hs k hlt)
        have hpv : ∀ j, k = j + 1 → wr.cell? ⟨g, o + j * 3, none⟩ = some (.int .i64 (Pc.prevK hs k)) := fun j hj => by
          subst hj
          obtain ⟨g', o', _, _, e, _, h0', _⟩ := hPk.at_ j (show j < hs.length by omega)
          injection e with e
          injection e with e1 e2
          subst e1 e2
          rw [Pc.prevK_succ hs j (by omega)]
          exact h0'
        have hp0 : k = 0 → Pc.prevK hs k = 0 := fun h => by rw [h]; rfl
        clear HR hPk
        generalize Pc.prevK hs k = bf at *
        generalize hs[k] = h at *
        obtain ⟨kd, n, ls⟩ := h
        go_upto_region 6 with (fail)
        have hbq : Below wr.heap.size wr (wr.alloc (.cells #[.int .i64 kd, .int .i64 n, .slice Ak ls.length ck] 47)) := (Below.refl _ _).alloc (Nat.le_refl _) _
        have hnew := heap_alloc_new wr (.cells #[.int .i64 kd, .int .i64 n, .slice Ak ls.length ck] 47)
        have e0 : (wr.alloc (.cells #[.int .i64 kd, .int .i64 n, .slice Ak ls.length ck] 47)).cell? ⟨wr.heap.size, 0, none⟩ = some (.int .i64 kd) := by rw [cell_of_row _ _ _ _ _ _ hnew]; rfl
        have e1 : (wr.alloc (.cells #[.int .i64 kd, .int .i64 n, .slice Ak ls.length ck] 47)).cell? ⟨wr.heap.size, 1, none⟩ = some (.int .i64 n) := by rw [cell_of_row _ _ _ _ _ _ hnew]; rfl
        have e2 : (wr.alloc (.cells #[.int .i64 kd, .int .i64 n, .slice Ak ls.length ck] 47)).cell? ⟨wr.heap.size, 2, none⟩ = some (.slice Ak ls.length ck) := by rw [cell_of_row _ _ _ _ _ _ hnew]; rfl
        have hb3 := hb.trans (hbq.mono hb.size)
        have bx3 := bxk.next hbq
        have HPV := Lib.hid (fun j hj => (hbq.cell (p := ⟨g, o + j * 3, none⟩) hg).trans (hpv j hj))
        have HBR := Lib.hid (HW.out _ hb3).1
        clear hnew hbq h0 h1 h2 hb bxk hpv hg hbw
        generalize wr.alloc (.cells #[.int .i64 kd, .int .i64 n, .slice Ak ls.length ck] 47) = w3 at *
        generalize wr.heap.size = q at *
        have HBES := Lib.hid (show Pc.beside bf ⟨kd, n, ls⟩ = false → V = false from fun hb => by rw [HV.out, HS.out, hb]; rfl)
        have HBH := Lib.hid (show Pc.isHunk ⟨kd, n, ls⟩ = false → V = false from fun hb => HBES.out (by unfold Pc.beside; rw [hb]; rfl))
        have HGO := Lib.hid (show Pc.beside bf ⟨kd, n, ls⟩ = true → io = Pc.inOrder (Pc.prevK hs (k + 1)) (hs.drop (k + 1)) from fun hb => by rw [HS.out, hb, HPS.out]; rfl)
        clear HS HPS
        have hnot : ∀ (P : Prop), (Pc.isHunk ⟨kd, n, ls⟩ = true → ¬ P) → P → Pc.isHunk ⟨kd, n, ls⟩ = false := fun P h1 h2 => Bool.eq_false_iff.2 fun h => h1 h h2
        by_cases a1 : kd < 1
        · have HT := Lib.hid (HBH.out (hnot (kd < 1) (fun h => by have := (Pc.isHunk_num h).2.1; dsimp only at this; omega) a1))
          have t1 : decide (kd < 1) = true := decide_eq_true a1
          clear a1 hnot
          go_wp2_with fail
          go_ret
          exact ⟨by rw [HT.out]; rfl, HBR.out⟩
        have t1 : decide (kd < 1) = false := decide_eq_false a1
        by_cases a2 : 3 < kd
        · have HT := Lib.hid (HBH.out (hnot (3 < kd) (fun h => by have := (Pc.isHunk_num h).2.1; dsimp only at this; omega) a2))
          have t2 : decide ((3 : Int) < kd) = true := decide_eq_true a2
          clear a1 a2 hnot
          go_wp2_with fail
          go_ret
          exact ⟨by rw [HT.out]; rfl, HBR.out⟩
        have t2 : decide ((3 : Int) < kd) = false := decide_eq_false a2
        by_cases a3 : n < 1
        · have HT := Lib.hid (HBH.out (hnot (n < 1) (fun h => by have := (Pc.isHunk_num h).1; dsimp only at this; omega) a3))
          have t3 : decide (n < 1) = true := decide_eq_true a3
          clear a1 a2 a3 hnot
          go_wp2_with fail
          go_ret
          exact ⟨by rw [HT.out]; rfl, HBR.out⟩
        have t3 : decide (n < 1) = false := decide_eq_false a3
        by_cases a4 : 1024 < n
        · have HT := Lib.hid (HBH.out (hnot (1024 < n) (fun h => by have := (Pc.isHunk_num h).1; dsimp only at this; omega) a4))
          have t4 : decide ((1024 : Int) < n) = true := decide_eq_true a4
          clear a1 a2 a3 a4 hnot
          go_wp2_with fail
          go_ret
          exact ⟨by rw [HT.out]; rfl, HBR.out⟩
        have t4 : decide ((1024 : Int) < n) = false := decide_eq_false a4
        by_cases a5 : kd = 3
        · have t5 : (kd == 3) = true := beq_iff_eq.2 a5
          have t7 : (kd != 3) = false := by simp [a5]
          by_cases a6 : (ls.length : Int) = n
          · have t6 : ((ls.length : Int) != n) = false := by simp [a6]
            have hh : Pc.isHunk ⟨kd, n, ls⟩ = true := by
              unfold Pc.isHunk
              dsimp only
              rw [if_neg (by omega), if_pos a5, Bool.and_eq_true, Pc.isNum_iff, decide_eq_true_eq]
              omega
            by_cases a0 : k = 0
            · have hbf := hp0 a0
              have d0 : decide ((0 : Int) < (k : Int)) = false := decide_eq_false (by omega)
              have d0n : decide (0 < k) = false := decide_eq_false (by omega)
              have HG := Lib.hid (HGO.out (by
                unfold Pc.beside
                rw [hh, hbf]
                have : (kd == 0) = false := beq_eq_false_iff_ne.2 (by omega)
                dsimp only
                rw [this]; simp))
              clear a0 a1 a2 a3 a4 a5 hnot hbf hh
              go_upto_region 10 with (fail)
              go_quiet (fail)
              have hb4 := below_drewN hb3 nq
              clear hb3
              go_wp2_with fail
              go_roundw
              case rel => exact ⟨k + 1, by omega, by go_num, HG.out, hb4⟩
              case measure => simp [intOf]; omega
            · obtain ⟨j, hj⟩ : ∃ j, k = j + 1 := ⟨k - 1, by omega⟩
              have d0 : decide ((0 : Int) < (k : Int)) = true := decide_eq_true (by omega)
              have d0n : decide (0 < k) = true := decide_eq_true (by omega)
              have m1 := HPV.out j hj
              have j1 : IntKind.i64.wrap ((k : Int) - 1) = (j : Int) := by rw [IntWalk.i64_in _ (by omega)]; omega
              have j2 : (k : Int) - 1 = (j : Int) := by omega
              have j3 : (j : Int) < hs.length := by omega
              obtain ⟨x0, x1⟩ := bx3.cells
              dsimp only at x0 x1
              clear hj a0
              by_cases g1 : bf = kd
              · have t9 : (bf == kd) = true := beq_iff_eq.2 g1
                have HT := Lib.hid (HBES.out (by unfold Pc.beside; rw [← g1]; simp))
                clear a1 a2 a3 a4 a5 hnot hh g1
                go_upto_region 10 with (fail)
                go_quiet (fail)
                go_wp2_with fail
                go_ret
                exact ⟨by rw [HT.out]; rfl, below_drewN HBR.out nq⟩
              have t9 : (bf == kd) = false := beq_eq_false_iff_ne.2 g1
              by_cases g2 : bf = 3
              · have t10 : (bf == 3) = true := beq_iff_eq.2 g2
                by_cases g3 : kd = 2
                · have t11 : (kd == 2) = true := beq_iff_eq.2 g3
                  have HT := Lib.hid (HBES.out (by unfold Pc.beside; rw [g2, g3]; simp))
                  clear a1 a2 a3 a4 a5 hnot hh g1 g2 g3
                  go_upto_region 10 with (fail)
                  go_quiet (fail)
                  go_wp2_with fail
                  go_ret
                  exact ⟨by rw [HT.out]; rfl, below_drewN HBR.out nq⟩
                · have t11 : (kd == 2) = false := beq_eq_false_iff_ne.2 g3
                  have HG := Lib.hid (HGO.out (by unfold Pc.beside; dsimp only; rw [hh, t11, show (kd == bf) = false from beq_eq_false_iff_ne.2 fun e => g1 e.symm]; rfl))
                  clear a1 a2 a3 a4 a5 hnot hh g1 g2 g3
                  go_upto_region 10 with (fail)
                  go_quiet (fail)
                  have hb4 := below_drewN hb3 nq
                  clear hb3
                  go_wp2_with fail
                  go_roundw
                  case rel => exact ⟨k + 1, by omega, by go_num, HG.out, hb4⟩
                  case measure => simp [intOf]; omega
              · have t10 : (bf == 3) = false := beq_eq_false_iff_ne.2 g2
                have HG := Lib.hid (HGO.out (by unfold Pc.beside; dsimp only; rw [hh, t10, show (kd == bf) = false from beq_eq_false_iff_ne.2 fun e => g1 e.symm]; simp))
                clear a1 a2 a3 a4 a5 hnot hh g1 g2
                go_upto_region 10 with (fail)
                go_quiet (fail)
                have hb4 := below_drewN hb3 nq
                clear hb3
                go_wp2_with fail
                go_roundw
                case rel => exact ⟨k + 1, by omega, by go_num, HG.out, hb4⟩
                case measure => simp [intOf]; omega
          · have t6 : ((ls.length : Int) != n) = true := bne_iff_ne.2 a6
            have HT := Lib.hid (HBH.out (hnot ((ls.length : Int) ≠ n) (fun h => by have := (isHunk_ls h).1 a5; dsimp only at this; omega) a6))
            clear a1 a2 a3 a4 a5 a6 hnot
            go_wp2_with fail
            go_ret
            exact ⟨by rw [HT.out]; rfl, HBR.out⟩
        · have t5 : (kd == 3) = false := beq_eq_false_iff_ne.2 a5
          have t7 : (kd != 3) = true := bne_iff_ne.2 a5
          by_cases a8 : (ls.length : Int) = 0
          · have t8 : ((ls.length : Int) != 0) = false := by simp [a8]
            have hh : Pc.isHunk ⟨kd, n, ls⟩ = true := by
              unfold Pc.isHunk
              dsimp only
              rw [if_pos (by omega), Bool.and_eq_true, Pc.isNum_iff, decide_eq_true_eq]
              omega
            by_cases a0 : k = 0
            · have hbf := hp0 a0
              have d0 : decide ((0 : Int) < (k : Int)) = false := decide_eq_false (by omega)
              have d0n : decide (0 < k) = false := decide_eq_false (by omega)
              have HG := Lib.hid (HGO.out (by
                unfold Pc.beside
                rw [hh, hbf]
                have : (kd == 0) = false := beq_eq_false_iff_ne.2 (by omega)
                dsimp only
                rw [this]; simp))
              clear a0 a1 a2 a3 a4 a5 hnot hbf hh
              go_upto_region 10 with (fail)
              go_quiet (fail)
              have hb4 := below_drewN hb3 nq
              clear hb3
              go_wp2_with fail
              go_roundw
              case rel => exact ⟨k + 1, by omega, by go_num, HG.out, hb4⟩
              case measure => simp [intOf]; omega
            · obtain ⟨j, hj⟩ : ∃ j, k = j + 1 := ⟨k - 1, by omega⟩
              have d0 : decide ((0 : Int) < (k : Int)) = true := decide_eq_true (by omega)
              have d0n : decide (0 < k) = true := decide_eq_true (by omega)
              have m1 := HPV.out j hj
              have j1 : IntKind.i64.wrap ((k : Int) - 1) = (j : Int) := by rw [IntWalk.i64_in _ (by omega)]; omega
              have j2 : (k : Int) - 1 = (j : Int) := by omega
              have j3 : (j : Int) < hs.length := by omega
              obtain ⟨x0, x1⟩ := bx3.cells
              dsimp only at x0 x1
              clear hj a0
              by_cases g1 : bf = kd
              · have t9 : (bf == kd) = true := beq_iff_eq.2 g1
                have HT := Lib.hid (HBES.out (by unfold Pc.beside; rw [← g1]; simp))
                clear a1 a2 a3 a4 a5 hnot hh g1
                go_upto_region 10 with (fail)
                go_quiet (fail)
                go_wp2_with fail
                go_ret
                exact ⟨by rw [HT.out]; rfl, below_drewN HBR.out nq⟩
              have t9 : (bf == kd) = false := beq_eq_false_iff_ne.2 g1
              by_cases g2 : bf = 3
              · have t10 : (bf == 3) = true := beq_iff_eq.2 g2
                by_cases g3 : kd = 2
                · have t11 : (kd == 2) = true := beq_iff_eq.2 g3
                  have HT := Lib.hid (HBES.out (by unfold Pc.beside; rw [g2, g3]; simp))
                  clear a1 a2 a3 a4 a5 hnot hh g1 g2 g3
                  go_upto_region 10 with (fail)
                  go_quiet (fail)
                  go_wp2_with fail
                  go_ret
                  exact ⟨by rw [HT.out]; rfl, below_drewN HBR.out nq⟩
                · have t11 : (kd == 2) = false := beq_eq_false_iff_ne.2 g3
                  have HG := Lib.hid (HGO.out (by unfold Pc.beside; dsimp only; rw [hh, t11, show (kd == bf) = false from beq_eq_false_iff_ne.2 fun e => g1 e.symm]; rfl))
                  clear a1 a2 a3 a4 a5 hnot hh g1 g2 g3
                  go_upto_region 10 with (fail)
                  go_quiet (fail)
                  have hb4 := below_drewN hb3 nq
                  clear hb3
                  go_wp2_with fail
                  go_roundw
                  case rel => exact ⟨k + 1, by omega, by go_num, HG.out, hb4⟩
                  case measure => simp [intOf]; omega
              · have t10 : (bf == 3) = false := beq_eq_false_iff_ne.2 g2
                have HG := Lib.hid (HGO.out (by unfold Pc.beside; dsimp only; rw [hh, t10, show (kd == bf) = false from beq_eq_false_iff_ne.2 fun e => g1 e.symm]; simp))
                clear a1 a2 a3 a4 a5 hnot hh g1 g2
                go_upto_region 10 with (fail)
                go_quiet (fail)
                have hb4 := below_drewN hb3 nq
                clear hb3
                go_wp2_with fail
                go_roundw
                case rel => exact ⟨k + 1, by omega, by go_num, HG.out, hb4⟩
                case measure => simp [intOf]; omega
          · have t8 : ((ls.length : Int) != 0) = true := bne_iff_ne.2 a8
            have HT := Lib.hid (HBH.out (hnot ((ls.length : Int) ≠ 0) (fun h => by have := (isHunk_ls h).2 a5; dsimp only at this; rw [this]; simp) a8))
            clear a1 a2 a3 a4 a5 a8 hnot
            go_wp2_with fail
            go_ret
            exact ⟨by rw [HT.out]; rfl, HBR.out⟩
      · have b1 : decide ((k : Int) < hs.length) = false := by simp; omega
        have b1n : decide (k < hs.length) = false := by simp; omega
        have hio : io = true := by rw [HR.out, List.drop_of_length_le (by omega)]; rfl
        have hall := Pc.inOrder_all 0 hs (by rw [HOI.out, hio])
        have hnn : ∀ h ∈ hs, 0 ≤ h.n ∧ h.n ≤ 1024 := fun h hm => by have := (Pc.isHunk_num (hall h hm)).1; omega
        have HV2 := Lib.hid (show V = (Pc.isNum (Pc.cnt 1 hs + Pc.cnt 2 hs) && (Pc.isNum (Pc.cnt 1 hs + Pc.cnt 3 hs) && (Pc.baseOk base && decide ((Tre.join (Pc.printL ⟨base, hs⟩)).2 = 0)))) by rw [HV.out, hio]; rfl)
        have HSH := Lib.hid (show Pc.isNum (Pc.cnt 1 hs + Pc.cnt 2 hs) = true → Pc.isNum (Pc.cnt 1 hs + Pc.cnt 3 hs) = true → (Pc.bodyL hs).length ≤ 4096 from fun h1 h2 => (Pc.shape_len (hs := hs) (by unfold Pc.shape; rw [HOI.out, hio, h1, h2]; rfl)).2.1)
        obtain ⟨c1a, c1b⟩ := Pc.cnt_le 1 hs hnn
        obtain ⟨c2a, c2b⟩ := Pc.cnt_le 2 hs hnn
        obtain ⟨c3a, c3b⟩ := Pc.cnt_le 3 hs hnn
        have cc := qCounts_any ⟨base, hs⟩ A c wr hPk.at_ (by show hs.length ≤ _; omega) hall
        rw [paV_def] at cc
        dsimp only at cc
        have d1 : Pc.cnt 1 hs ≤ 10000000 := by omega
        have d2 : Pc.cnt 2 hs ≤ 10000000 := by omega
        have d3 : Pc.cnt 3 hs ≤ 10000000 := by omega
        have HAL := Lib.hid hall
        obtain ⟨k0, k1⟩ := bxk.cells
        have HB := Lib.hid hb
        clear HV HR HOI hio hall hnn c1b c2b c3b hPk bxk hbw hb
        generalize Pc.cnt 1 hs = x1 at *
        generalize Pc.cnt 2 hs = x2 at *
        generalize Pc.cnt 3 hs = x3 at *
        go_wp2_with fail
        with_reducible refine cc.mono ?_
        clear cc k0 k1
        rintro e w4 ⟨rfl, hb4⟩
        have hb04 := HB.out.trans (hb4.mono HB.out.size)
        obtain ⟨hbw4, hP4, bx4⟩ := HW.out _ hb04
        have HBR := Lib.hid hbw4
        clear hb4 hbw4 HB
        by_cases u1 : x1 + x2 < 1
        · have HT := Lib.hid (show V = false by rw [HV2.out]; have : Pc.isNum (x1 + x2) = false := (by rw [Bool.eq_false_iff, ne_eq, Pc.isNum_iff]; omega); rw [this]; rfl)
          have v1 : decide (x1 + x2 < 1) = true := decide_eq_true u1
          clear u1
          go_wp2_with fail
          go_ret
          exact ⟨by rw [HT.out]; rfl, HBR.out⟩
        have v1 : decide (x1 + x2 < 1) = false := decide_eq_false u1
        by_cases u2 : 1024 < x1 + x2
        · have HT := Lib.hid (show V = false by rw [HV2.out]; have : Pc.isNum (x1 + x2) = false := (by rw [Bool.eq_false_iff, ne_eq, Pc.isNum_iff]; omega); rw [this]; rfl)
          have v2 : decide ((1024 : Int) < x1 + x2) = true := decide_eq_true u2
          clear u1 u2
          go_wp2_with fail
          go_ret
          exact ⟨by rw [HT.out]; rfl, HBR.out⟩
        have v2 : decide ((1024 : Int) < x1 + x2) = false := decide_eq_false u2
        by_cases u3 : x1 + x3 < 1
        · have HT := Lib.hid (show V = false by rw [HV2.out]; have : Pc.isNum (x1 + x3) = false := (by rw [Bool.eq_false_iff, ne_eq, Pc.isNum_iff]; omega); rw [this]; cases Pc.isNum (x1 + x2) <;> rfl)
          have v3 : decide (x1 + x3 < 1) = true := decide_eq_true u3
          clear u1 u2 u3
          go_wp2_with fail
          go_ret
          exact ⟨by rw [HT.out]; rfl, HBR.out⟩
        have v3 : decide (x1 + x3 < 1) = false := decide_eq_false u3
        by_cases u4 : 1024 < x1 + x3
        · have HT := Lib.hid (show V = false by rw [HV2.out]; have : Pc.isNum (x1 + x3) = false := (by rw [Bool.eq_false_iff, ne_eq, Pc.isNum_iff]; omega); rw [this]; cases Pc.isNum (x1 + x2) <;> rfl)
          have v4 : decide ((1024 : Int) < x1 + x3) = true := decide_eq_true u4
          clear u1 u2 u3 u4
          go_wp2_with fail
          go_ret
          exact ⟨by rw [HT.out]; rfl, HBR.out⟩
        have v4 : decide ((1024 : Int) < x1 + x3) = false := decide_eq_false u4
        have i1 : Pc.isNum (x1 + x2) = true := (Pc.isNum_iff _).2 (by omega)
        have i2 : Pc.isNum (x1 + x3) = true := (Pc.isNum_iff _).2 (by omega)
        have hsum := HSH.out i1 i2
        have HT := Lib.hid (show V = decide ((Tre.join (Pc.printL ⟨base, hs⟩)).2 = 0) by rw [HV2.out, i1, i2, HBO.out]; rfl)
        have cc := qlines_any ⟨base, hs⟩ A c w4 hP4 HAL.out (by show hs.length ≤ _; omega) hsum HBO.out
        rw [paV_def] at cc
        dsimp only at cc
        have hpl : (Pc.printL ⟨base, hs⟩).length ≤ 4097 := by
          unfold Pc.printL
          rw [List.length_append]
          dsimp only
          split <;> simp <;> omega
        have hpe : ∀ l ∈ Pc.printL ⟨base, hs⟩, l.length ≤ 1000000000 := fun l hl => by
          unfold Pc.printL at hl
          rcases List.mem_append.1 hl with hl | hl
          · split at hl
            · simp at hl
            · rw [List.mem_singleton.1 hl, List.length_append, hex_len]; decide
          · rcases bodyL_mem hs l hl with ⟨h, hh, rfl⟩ | ⟨h, hh, hl⟩
            · have hn := (Pc.isHunk_num (HAL.out h hh)).1
              have := Cd.dec_len h.n.toNat (by omega)
              have := word_len h.kind
              rw [headL_def, List.length_append]; omega
            · have := HEA.out h hh l hl; omega
        have HPE := Lib.hid hpe
        obtain ⟨k0, k1⟩ := bx4.cells
        have HB4 := Lib.hid hb04
        clear u1 u2 u3 u4 i1 i2 HV2 HSH HAL hP4 bx4 hpe hb04 HBR
        generalize Pc.printL ⟨base, hs⟩ = PL at *
        go_wp2_with fail
        with_reducible refine cc.mono ?_
        clear cc k0 k1
        rintro e w5 ⟨v5, rfl, ho5, hb5⟩
        obtain ⟨A5, c5, rfl, hA5⟩ := owns_cells ho5
        obtain ⟨hc5, _⟩ := own_capS ho5
        have cj := qJoin_any A5 c5 PL w5 hA5 (by omega) HPE.out hc5
        rw [joinV_def] at cj
        have hb05 := HB4.out.trans (hb5.mono HB4.out.size)
        have HB5 := Lib.hid hb05
        clear ho5 hA5 hc5 hb5 hb05 HPE HB4
        generalize Tre.join PL = J at *
        go_wp2_with fail
        with_reducible refine cj.mono ?_
        clear cj
        rintro e w6 ⟨rfl, hb6⟩
        have hb06 := HB5.out.trans (hb6.mono HB5.out.size)
        have HBR := Lib.hid (HW.out _ hb06).1
        clear hb6 hb06
        go_wp2_with fail
        go_ret
        exact ⟨by rw [HT.out]; first | rfl | (congr 2; done) | (simp; done), HBR.out⟩
end Go.Proofs.YtmmdldicafbjdaaGreatDoor
end
section
namespace Go.Proofs.YtmmdldicafbjdaaGreatDoor
open Go.RowKit Go.Deep Tr

theorem printL_small {p : Pc.Pa} {w : World} {A : Option Addr} (hP : PaOk w p A) (hv : Pc.valid p = true) : (Pc.printL p).length ≤ 4097 ∧ ∀ l ∈ Pc.printL p, l.length ≤ 1000000000 := by
  obtain ⟨v1, v2, _⟩ := valid_all hv
  have hsum := (Pc.valid_len hv).2
  refine ⟨?_, fun l hl => ?_⟩
  · unfold Pc.printL
    rw [List.length_append]
    split <;> simp <;> omega
  · unfold Pc.printL at hl
    rcases List.mem_append.1 hl with hl | hl
    · split at hl
      · simp at hl
      · rw [List.mem_singleton.1 hl, List.length_append, hex_len]; decide
    · rcases bodyL_mem p.hs l hl with ⟨h, hh, rfl⟩ | ⟨h, hh, hl⟩
      · have hn := (Pc.isHunk_num (v2 h hh)).1
        have := Cd.dec_len h.n.toNat (by omega)
        have := word_len h.kind
        rw [headL_def, List.length_append]; omega
      · have := hP.each h hh l hl; omega
theorem valid_base {p : Pc.Pa} (h : Pc.valid p = true) : Pc.baseOk p.base = true ∧ Tre.join (Pc.printL p) = (Tre.joined (Pc.printL p), 0) := by
  obtain ⟨_, hba, hjo⟩ := Pc.valid_parts h
  refine ⟨hba, ?_⟩
  unfold Tre.join at hjo ⊢
  split
  · rename_i h1; rw [if_pos h1] at hjo; cases hjo
  · rename_i h1; rw [if_neg h1] at hjo
    split
    · rename_i h2; rw [if_pos h2] at hjo; cases hjo
    · rfl
set_option maxHeartbeats 16000000 in
set_option maxRecDepth 100000 in
theorem qPrint_any (p : Pc.Pa) (A : Option Addr) (c : Nat) (w : World) (hP : PaOk w p A) :
    Calls Tryz.prog 7 #[paV p A c] w fun e w' => e = .returned (.tuple #[.string (str (Pc.print p).1), .int .i64 (Pc.print p).2]) ∧ Below w.heap.size w w' := by
  have hb0 : Below w.heap.size w (w.alloc (.cells #[.string (str p.base), .slice A p.hs.length c] 24)) := (Below.refl _ _).alloc (Nat.le_refl _) _
  have bx0 : Bp (w.alloc (.cells #[.string (str p.base), .slice A p.hs.length c] 24)) w.heap.size p A c := heap_alloc_new w _
  have hcall := qValid_any p A c _ (hP.next hb0)
  have HPO := Lib.hid (hP.next hb0)
  have HPD := Lib.hid (print_def p)
  have HSM := Lib.hid (fun h => printL_small hP h)
  rw [paV_def] at hcall ⊢
  clear hP
  obtain ⟨k0, k1⟩ := bx0.cells
  cases hv : Pc.valid p with
  | false =>
    rw [hv] at hcall
    have HT := Lib.hid (HPD.out.trans (if_neg (by rw [hv]; simp)))
    clear HPD hv HSM HPO bx0
    generalize Pc.print p = R at *
    go_enter Tryz.func7, Tryz.ntmps7
    go_wp2_with fail
    with_reducible refine hcall.mono ?_
    clear hcall
    rintro x w1 ⟨rfl, hb1⟩
    go_wp2_with fail
    go_ret2
    rw [HT.out]
    exact ⟨rfl, hb0.trans (hb1.mono hb0.size)⟩
  | true =>
    rw [hv] at hcall
    have HT := Lib.hid (HPD.out.trans (if_pos hv))
    obtain ⟨v1, v2, _⟩ := valid_all hv
    have hsum := (Pc.valid_len hv).2
    obtain ⟨hbo, hjn⟩ := valid_base hv
    obtain ⟨hpl, hpe⟩ := HSM.out hv
    have HPE := Lib.hid hpe
    have HJN := Lib.hid hjn
    have HV2 := Lib.hid v2
    have HBO := Lib.hid hbo
    clear HPD hv HSM hpe hjn v2 hbo
    generalize Pc.print p = R at *
    go_enter Tryz.func7, Tryz.ntmps7
    go_wp2_with fail
    with_reducible refine hcall.mono ?_
    clear hcall k0 k1
    rintro x w1 ⟨rfl, hb1⟩
    have hB1 := hb0.trans (hb1.mono hb0.size)
    have bx1 := bx0.next hb1
    obtain ⟨k0, k1⟩ := bx1.cells
    have cc := qlines_any p A c w1 (HPO.out.next hb1) HV2.out (by omega) (by omega) HBO.out
    rw [paV_def] at cc
    clear hb0 hb1 bx0 HPO HV2 HBO
    generalize Pc.printL p = PL at *
    go_wp2_with fail
    with_reducible refine cc.mono ?_
    clear cc k0 k1
    rintro e w5 ⟨v5, rfl, ho5, hb5⟩
    obtain ⟨A5, c5, rfl, hA5⟩ := owns_cells ho5
    obtain ⟨hc5, _⟩ := own_capS ho5
    have cj := qJoin_any A5 c5 PL w5 hA5 (by omega) HPE.out hc5
    rw [joinV_def, HJN.out] at cj
    have HB := Lib.hid (hB1.trans (hb5.mono hB1.size))
    clear ho5 hA5 hc5 hb5 hB1 bx1
    go_wp2_with fail
    with_reducible refine cj.mono ?_
    clear cj
    rintro e w6 ⟨rfl, hb6⟩
    go_wp2_with fail
    go_ret2
    rw [HT.out]
    exact ⟨rfl, HB.out.trans (hb6.mono HB.out.size)⟩
set_option maxHeartbeats 16000000 in
set_option maxRecDepth 100000 in
theorem qCost_any (p : Pc.Pa) (A : Option Addr) (c : Nat) (w : World) (hP : PaOk w p A) :
    Calls Tryz.prog 9 #[paV p A c] w fun e w' => e = .returned (.tuple #[.int .i64 (Pc.cost p).1, .int .i64 (Pc.cost p).2]) ∧ Below w.heap.size w w' := by
  have hb0 : Below w.heap.size w (w.alloc (.cells #[.string (str p.base), .slice A p.hs.length c] 24)) := (Below.refl _ _).alloc (Nat.le_refl _) _
  have bx0 : Bp (w.alloc (.cells #[.string (str p.base), .slice A p.hs.length c] 24)) w.heap.size p A c := heap_alloc_new w _
  have hcall := qValid_any p A c _ (hP.next hb0)
  have HPO := Lib.hid (hP.next hb0)
  have HCD := Lib.hid (cost_def p)
  have hl := hP.len
  rw [paV_def] at hcall ⊢
  clear hP
  obtain ⟨k0, k1⟩ := bx0.cells
  cases hv : Pc.valid p with
  | false =>
    rw [hv] at hcall
    have HT := Lib.hid (HCD.out.trans (if_neg (by rw [hv]; simp)))
    clear HCD hv HPO bx0
    generalize Pc.cost p = R at *
    go_enter Tryz.func9, Tryz.ntmps9
    go_wp2_with fail
    with_reducible refine hcall.mono ?_
    clear hcall
    rintro x w1 ⟨rfl, hb1⟩
    go_wp2_with fail
    go_ret2
    rw [HT.out]
    exact ⟨rfl, hb0.trans (hb1.mono hb0.size)⟩
  | true =>
    rw [hv] at hcall
    have HT := Lib.hid (HCD.out.trans (if_pos hv))
    obtain ⟨v1, v2, v3, v4, v5, v6, v7, v8⟩ := valid_all hv
    clear HCD hv
    generalize Pc.cost p = R at *
    go_enter Tryz.func9, Tryz.ntmps9
    go_wp2_with fail
    with_reducible refine hcall.mono ?_
    clear hcall k0 k1
    rintro x w1 ⟨rfl, hb1⟩
    have hB1 := hb0.trans (hb1.mono hb0.size)
    have bx1 := bx0.next hb1
    obtain ⟨k0, k1⟩ := bx1.cells
    have cc := qCounts_any p A c w1 (HPO.out.next hb1).at_ (by omega) v2
    rw [paV_def] at cc
    clear v2 v3 HPO hb0 hb1 bx0 bx1
    generalize Pc.cnt 1 p.hs = x1 at *
    generalize Pc.cnt 2 p.hs = x2 at *
    generalize Pc.cnt 3 p.hs = x3 at *
    go_wp2_with fail
    with_reducible refine cc.mono ?_
    clear cc
    rintro x w2 ⟨rfl, hb2⟩
    go_wp2_with fail
    go_ret2
    rw [HT.out]
    exact ⟨by first | rfl | go_num, hB1.trans (hb2.mono hB1.size)⟩
end Go.Proofs.YtmmdldicafbjdaaGreatDoor
end
