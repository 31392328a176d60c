/- Few of the reference and few of the law: what is true behind them. No condition but the lengths. -/
import Derived.Test.YtlfgnecfabdkmaaGreatDoorAwp
namespace Go.Proofs.YtlfgnecfabdkmaaGreatDoor
open Go.RowKit Go.Deep Tr

/-- A patch as it comes in. -/
structure PaRaw (w : World) (p : Pc.Pa) (A : Option Addr) : Prop where
  at_ : HsAt w w.heap.size A p.hs
  len : p.hs.length ≤ 140737488351232
  each : ∀ h ∈ p.hs, h.ls.length ≤ 140737488351232
theorem PaRaw.next {w w' : World} {p : Pc.Pa} {A : Option Addr} (h : PaRaw w p A) (hb : Below w.heap.size w w') : PaRaw w' p A := ⟨h.at_.next hb, h.len, h.each⟩
def Small (p : Pc.Pa) : Prop := p.hs.length ≤ 40 ∧ p.base.length ≤ 100 ∧ ∀ h ∈ p.hs, h.ls.length ≤ 60 ∧ ∀ l ∈ h.ls, l.length ≤ 100
theorem PaRaw.ok {w : World} {p : Pc.Pa} {A : Option Addr} (h : PaRaw w p A) (hs : Small p) : PaOk w p A := ⟨h.at_, by have := hs.1; omega, by have := hs.2.1; omega, fun x hx l hl => by have := (hs.2.2 x hx).2 l hl; omega⟩
theorem take_all {α : Type} {P : α → Prop} (l : List α) (k : Nat) (h : k < l.length) (h0 : ∀ x ∈ l.take k, P x) (h1 : P l[k]) : ∀ x ∈ l.take (k + 1), P x := by
  intro x hx
  rw [List.take_succ_eq_append_getElem h] at hx
  rcases List.mem_append.1 hx with hx | hx
  · exact h0 x hx
  · rw [List.mem_singleton.1 hx]; exact h1
def GotF (w : World) (P : Prop) : Ending → World → Prop := fun e w' => ∃ b, e = .returned (.bool b) ∧ (b = true → P) ∧ Below w.heap.size w w'
set_option maxHeartbeats 4000000 in
set_option maxRecDepth 100000 in
theorem few_any (A : Option Addr) (c : Nat) (ls : List (List UInt8)) (w : World) (hA : CellsAt w w.heap.size A (strs ls)) (hl : ls.length ≤ 1000) :
    Calls Tryz.prog 19 #[.slice A ls.length c] w (GotF w (∀ l ∈ ls, l.length ≤ 500)) := by
  go_enter Tryz.func19, Tryz.ntmps19
  go_wp2_with fail
  go_loopw [7] (fun v wr => ∃ k : Nat, k ≤ ls.length ∧ v = .int .i64 k ∧ (∀ l ∈ ls.take k, l.length ≤ 500) ∧ wr = w) (fun v _ => ls.length - (intOf v).toNat)
  case atStart => exact ⟨0, by omega, rfl, fun l h => by simp at h, rfl⟩
  case round =>
    obtain ⟨k, hk, rfl, hall, rfl⟩ := hrel
    by_cases hlt : k < ls.length
    · have hki : (k : Int) < (ls.length : Int) := by omega
      obtain ⟨g, o, rfl, hg, hc⟩ := hA k (by rw [strs_len]; exact hlt)
      rw [strs_get _ k hlt] at hc
      have hz := str_size ls[k]
      have HT := Lib.hid (fun h => take_all (P := fun l : List UInt8 => l.length ≤ 500) ls k hlt hall h)
      generalize ls[k] = l at *
      clear hall
      by_cases h5 : l.length ≤ 500
      · have g1 : decide ((500 : Int) < ((str l).size : Int)) = false := decide_eq_false (by omega)
        have g1n : decide (500 < (str l).size) = false := decide_eq_false (by omega)
        go_wp2_with fail
        go_roundw
        case rel => exact ⟨k + 1, by omega, by go_num, HT.out h5, by first | rfl | trivial⟩
        case measure => simp [intOf]; omega
      · have g1 : decide ((500 : Int) < ((str l).size : Int)) = true := decide_eq_true (by omega)
        have g1n : decide (500 < (str l).size) = true := decide_eq_true (by omega)
        go_wp2_with fail
        first | go_ret2 | go_ret
        exact ⟨false, rfl, fun h => (by cases h), Below.refl _ _⟩
    · have hki : decide ((k : Int) < (ls.length : Int)) = false := by simp; omega
      obtain rfl : k = ls.length := by omega
      rw [List.take_length] at hall
      have HT := Lib.hid hall
      clear hall
      go_wp2_with fail
      first | go_ret2 | go_ret
      exact ⟨true, rfl, fun _ => HT.out, Below.refl _ _⟩
set_option maxHeartbeats 4000000 in
set_option maxRecDepth 100000 in
theorem qFew_any (p : Pc.Pa) (A : Option Addr) (c : Nat) (w : World) (hP : PaRaw w p A) :
    Calls Tryz.prog 11 #[paV p A c] w (GotF w (Small p)) := by
  rw [paV_def]
  have hb0 : Below w.heap.size w (w.alloc (.cells #[.string (str p.base), .slice A p.hs.length c] 24)) := (Below.refl _ _).alloc (Nat.le_refl _) _
  have hN0 := heap_alloc_new w (.cells #[.string (str p.base), .slice A p.hs.length c] 24)
  have HW := Lib.hid (show ∀ w', Below (w.alloc (.cells #[.string (str p.base), .slice A p.hs.length c] 24)).heap.size (w.alloc (.cells #[.string (str p.base), .slice A p.hs.length c] 24)) w' → w'.cell? ⟨w.heap.size, 0, none⟩ = some (.string (str p.base)) ∧ w'.cell? ⟨w.heap.size, 1, none⟩ = some (.slice A p.hs.length c) from fun w' h => by
    have hN := (h.block w.heap.size (blk_lt hN0)).trans hN0
    exact ⟨by rw [cell_of_row _ _ _ _ _ _ hN]; rfl, by rw [cell_of_row _ _ _ _ _ _ hN]; rfl⟩)
  have hA := hP.at_.next hb0
  have hl := hP.len
  have HE := Lib.hid hP.each
  have hbz := str_size p.base
  have HS := Lib.hid (show ∀ (_ : p.hs.length ≤ 40) (_ : p.base.length ≤ 100) (_ : ∀ h ∈ p.hs, h.ls.length ≤ 60 ∧ ∀ l ∈ h.ls, l.length ≤ 100), Small p from fun a b d => ⟨a, b, d⟩)
  have HB0 := Lib.hid hb0
  clear hP hb0 hN0
  obtain ⟨base, hs⟩ := p
  dsimp only at *
  generalize str base = bs at *
  go_enter Tryz.func11, Tryz.ntmps11
  go_wp2_with fail
  generalize w.alloc (.cells #[.string bs, .slice A hs.length c] 24) = W at *
  have hB0 := HB0.out
  go_loopw [3, 11] (fun s3 s11 wo => ∃ (k n : Nat), k ≤ hs.length ∧ s11 = .int .i64 k ∧ s3 = .int .i64 n ∧ n ≤ 60 ∧ (∀ h ∈ hs.take k, h.ls.length ≤ 60 ∧ ∀ l ∈ h.ls, l.length ≤ 100) ∧ Below W.heap.size W wo) (fun _ s11 _ => hs.length - (intOf s11).toNat)
  case atStart => exact ⟨0, 0, by omega, rfl, rfl, by omega, fun h hh => by simp at hh, Below.refl _ _⟩
  case round =>
    obtain ⟨k, n, hk, rfl, rfl, hn, hall, hb⟩ := hrel
    obtain ⟨p0, p1⟩ := HW.out _ hb
    by_cases hlt : k < hs.length
    · have hki : (k : Int) < (hs.length : Int) := by omega
      obtain ⟨g, o, Ak, ck, rfl, hg, h0, h1, h2, hck, h4, h5⟩ := hA k hlt
      have hd0 := (hb.cell (p := ⟨g, o + k * 3, none⟩) hg).trans h0
      have hd1 := (hb.cell (p := ⟨g, o + k * 3 + 1, none⟩) hg).trans h1
      have hd2 := (hb.cell (p := ⟨g, o + k * 3 + 2, none⟩) hg).trans h2
      have hle := HE.out hs[k] (List.getElem_mem hlt)
      have HT := Lib.hid (fun h => take_all (P := fun h : Pc.Hk => h.ls.length ≤ 60 ∧ ∀ l ∈ h.ls, l.length ≤ 100) hs k hlt hall h)
      clear h0 h1 h2 hall
      generalize hs[k] = h at *
      obtain ⟨kd, m, ls⟩ := h
      dsimp only at *
      have hbW := hb.alloc hb.size (.cells #[.int .i64 kd, .int .i64 m, .slice Ak ls.length ck] 54)
      have hcW : CellsAt (wr.alloc (.cells #[.int .i64 kd, .int .i64 m, .slice Ak ls.length ck] 54)) W.heap.size Ak (strs ls) := hck.below hbW (Nat.le_refl _)
      have n0 : Go.IntKind.i64.wrap ((n : Int) + (ls.length : Int)) = ((n + ls.length : Nat) : Int) := by rw [IntWalk.i64_in _ (by omega)]; omega
      by_cases h6 : n + ls.length ≤ 60
      · have g6 : decide ((60 : Int) < ((n + ls.length : Nat) : Int)) = false := decide_eq_false (by omega)
        have g6n : decide (60 < n + ls.length) = false := decide_eq_false (by omega)
        have hbb := HB0.out.trans (hbW.mono HB0.out.size)
        go_wp2_with fail
        generalize wr.alloc (.cells #[.int .i64 kd, .int .i64 m, .slice Ak ls.length ck] 54) = wo at *
        have hln : ls.length ≤ 60 := by omega
        clear hd0 hd1 hd2 hle hb p0 p1 g6 g6n n0 hki
        go_loopw [25] (fun s25 wi => ∃ j : Nat, j ≤ ls.length ∧ s25 = .int .i64 j ∧ (∀ l ∈ ls.take j, l.length ≤ 100) ∧ wi = wo) (fun s25 _ => ls.length - (intOf s25).toNat)
        case atStart => exact ⟨0, by omega, rfl, fun l h => by simp at h, rfl⟩
        case round =>
          obtain ⟨j, hj, rfl, hal, rfl⟩ := hrel
          by_cases hjl : j < ls.length
          · have hki : (j : Int) < (ls.length : Int) := by omega
            obtain ⟨g', o', rfl, hg', hc⟩ := hcW j (by rw [strs_len]; exact hjl)
            rw [strs_get _ j hjl] at hc
            have hz := str_size ls[j]
            have HT2 := Lib.hid (fun h => take_all (P := fun l : List UInt8 => l.length ≤ 100) ls j hjl hal h)
            generalize ls[j] = l at *
            clear hal
            by_cases h5 : l.length ≤ 100
            · have g1 : decide ((100 : Int) < (l.length : Int)) = false := decide_eq_false (by omega)
              have g1n : decide (100 < l.length) = false := decide_eq_false (by omega)
              go_wp2_with fail
              go_roundw
              case rel => exact ⟨j + 1, by omega, by go_num, HT2.out h5, by first | rfl | trivial⟩
              case measure => simp [intOf]; omega
            · have g1 : decide ((100 : Int) < (l.length : Int)) = true := decide_eq_true (by omega)
              have g1n : decide (100 < l.length) = true := decide_eq_true (by omega)
              go_wp2_with fail
              first | go_ret2 | go_ret
              exact ⟨false, rfl, fun h => (by cases h), hbb⟩
          · have hki : decide ((j : Int) < (ls.length : Int)) = false := by simp; omega
            obtain rfl : j = ls.length := by omega
            rw [List.take_length] at hal
            have HT2 := Lib.hid hal
            clear hal
            go_wp2_with fail
            go_roundw
            case rel => exact ⟨k + 1, n + ls.length, by omega, by go_num, by first | rfl | (simp; done), by omega, HT.out ⟨hln, HT2.out⟩, hbW⟩
            case measure => simp [intOf]; omega
      · have g6 : decide ((60 : Int) < ((n + ls.length : Nat) : Int)) = true := decide_eq_true (by omega)
        have g6n : decide (60 < n + ls.length) = true := decide_eq_true (by omega)
        have hbb := HB0.out.trans (hbW.mono HB0.out.size)
        go_wp2_with fail
        first | go_ret2 | go_ret
        exact ⟨false, rfl, fun h => (by cases h), hbb⟩
    · have hki : decide ((k : Int) < (hs.length : Int)) = false := by simp; omega
      obtain rfl : k = hs.length := by omega
      rw [List.take_length] at hall
      have HT := Lib.hid hall
      clear hall
      have hbb := HB0.out.trans (hb.mono HB0.out.size)
      by_cases h40 : hs.length ≤ 40
      · have g4 : decide ((hs.length : Int) ≤ 40) = true := decide_eq_true (by omega)
        have g4n : decide (hs.length ≤ 40) = true := decide_eq_true (by omega)
        by_cases h100 : base.length ≤ 100
        · have g5 : decide ((base.length : Int) ≤ 100) = true := decide_eq_true (by omega)
          have g5n : decide (base.length ≤ 100) = true := decide_eq_true (by omega)
          go_wp2_with fail
          first | go_ret2 | go_ret
          exact ⟨true, rfl, fun _ => HS.out h40 h100 HT.out, hbb⟩
        · have g5 : decide ((base.length : Int) ≤ 100) = false := decide_eq_false (by omega)
          have g5n : decide (base.length ≤ 100) = false := decide_eq_false (by omega)
          go_wp2_with fail
          first | go_ret2 | go_ret
          exact ⟨false, rfl, fun h => (by cases h), hbb⟩
      · have g4 : decide ((hs.length : Int) ≤ 40) = false := decide_eq_false (by omega)
        have g4n : decide (hs.length ≤ 40) = false := decide_eq_false (by omega)
        go_wp2_with fail
        first | go_ret2 | go_ret
        exact ⟨false, rfl, fun h => (by cases h), hbb⟩
end Go.Proofs.YtlfgnecfabdkmaaGreatDoor
