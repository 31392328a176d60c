/- Few: if true, a record is small, or has too many steps. -/
import Derived.Test.YtjemffgidhgfjaaGreatDoorRkChk
namespace Go.Proofs.YtjemffgidhgfjaaGreatDoor.Rk
open Go.RowKit Go.Deep Tr

def SmS (s : Dn) : Prop := s.rds.length ≤ 12 ∧ ∀ t ∈ s.rds ++ [s.wr], t.pth.length ≤ 200 ∧ t.dig.length ≤ 200
/-- What Few leaves through. -/
def FewP (r : List Dn) : Prop := 1024 < r.length ∨ (r.length ≤ 12 ∧ ∀ s ∈ r, SmS s)
theorem FewP.sht {r : List Dn} (h : FewP r) : r.length ≤ 1024 → Sht r := fun hl => by
  rcases h with h | ⟨_, h⟩
  · omega
  · exact ⟨fun s hs t ht => by have := ((h s hs).2 t ht).1; omega, fun s hs t ht => by have := ((h s hs).2 t ht).2; omega⟩
set_option maxHeartbeats 8000000 in
set_option maxRecDepth 100000 in
theorem few_any (r : List Dn) (A : Option Addr) (c : Nat) (w : World) (hA : RcAt w A r) :
    Calls Tryz.prog 7 #[.slice A r.length c] w fun e w' => (∃ b, e = .returned (.bool b) ∧ (b = true → FewP r)) ∧ Below w.heap.size w w' := by
  have HA := Lib.hid hA
  have hrl := hA.rl
  clear hA
  by_cases h1 : 1024 < r.length
  · have b1 : decide ((1024 : Int) < (r.length : Int)) = true := decide_eq_true (by omega)
    have b1n : decide (1024 < r.length) = true := decide_eq_true h1
    have HT := Lib.hid (show FewP r from .inl h1)
    clear h1
    go_enter Tryz.func7, Tryz.ntmps7
    go_wp2_with fail
    first | go_ret3 | go_ret2 | go_ret
    exact ⟨⟨_, rfl, fun _ => HT.out⟩, Below.refl _ _⟩
  have b1 : decide ((1024 : Int) < (r.length : Int)) = false := decide_eq_false (by omega)
  have b1n : decide (1024 < r.length) = false := decide_eq_false h1
  by_cases h2 : 12 < r.length
  · have b2 : decide ((12 : Int) < (r.length : Int)) = true := decide_eq_true (by omega)
    have b2n : decide (12 < r.length) = true := decide_eq_true h2
    clear h1 h2
    go_enter Tryz.func7, Tryz.ntmps7
    go_wp2_with fail
    first | go_ret3 | go_ret2 | go_ret
    exact ⟨⟨_, rfl, fun h => (by cases h)⟩, Below.refl _ _⟩
  have b2 : decide ((12 : Int) < (r.length : Int)) = false := decide_eq_false (by omega)
  have b2n : decide (12 < r.length) = false := decide_eq_false h2
  have hL : r.length ≤ 12 := by omega
  clear h1 h2
  go_enter Tryz.func7, Tryz.ntmps7
  go_wp2_with fail
  go_loopw [3] (fun s3 wr => ∃ k : Nat, s3 = .int .i64 k ∧ k ≤ r.length ∧ (∀ j (h : j < r.length), j < k → SmS r[j]) ∧ Below w.heap.size w wr) (fun s3 _ => r.length - (intOf s3).toNat)
  case atStart => exact ⟨0, rfl, Nat.zero_le _, fun j _ h => (by omega), Below.refl _ _⟩
  case round =>
    obtain ⟨k, rfl, hk, hall, hb⟩ := hrel
    have HAL := Lib.hid hall
    have HB := Lib.hid hb
    clear hall
    by_cases hlt : k < r.length
    · have c1 : decide ((k : Int) < (r.length : Int)) = true := decide_eq_true (by omega)
      have c1n : decide (k < r.length) = true := decide_eq_true hlt
      have y1 : (k : Int) < (r.length : Int) := by omega
      obtain ⟨g0, o, rfl, hg, hc⟩ := HA.out.st k hlt
      have HC := Lib.hid hc
      have hd3 := (hb.cell (p := ⟨g0, o + k * 6 + 3, none⟩) hg).trans (hc 3 _ rfl)
      have hd4 := (hb.cell (p := ⟨g0, o + k * 6 + 4, none⟩) hg).trans (hc 4 _ rfl)
      have hd5 := (hb.cell (p := ⟨g0, o + k * 6 + 5, none⟩) hg).trans (hc 5 _ rfl)
      have HRD := Lib.hid (HA.out.rd r[k] (List.getElem_mem hlt))
      have HTK := Lib.hid (fun (h : SmS r[k]) j (hj : j < r.length) (hjk : j < k + 1) => show SmS r[j] by
        by_cases e : j = k
        · subst e; exact h
        · exact HAL.out j hj (by omega))
      clear hc
      generalize r[k] = x at *
      have hz4 := str_size x.wr.pth
      have hz5 := str_size x.wr.dig
      by_cases h1 : 12 < x.rds.length
      · have d1 : decide ((12 : Int) < (x.rds.length : Int)) = true := decide_eq_true (by omega)
        have d1n : decide (12 < x.rds.length) = true := decide_eq_true h1
        clear h1 hz4 hz5 hb
        go_wp2_with fail
        first | go_ret3 | go_ret2 | go_ret
        exact ⟨⟨_, rfl, fun h => (by cases h)⟩, HB.out⟩
      have d1 : decide ((12 : Int) < (x.rds.length : Int)) = false := decide_eq_false (by omega)
      have d1n : decide (12 < x.rds.length) = false := decide_eq_false h1
      have hx12 : x.rds.length ≤ 12 := by omega
      clear h1
      by_cases h2 : 200 < x.wr.pth.length
      · have d2 : decide ((200 : Int) < ((str x.wr.pth).size : Int)) = true := decide_eq_true (by omega)
        have d2n : decide (200 < (str x.wr.pth).size) = true := decide_eq_true (by omega)
        have d2m : decide (200 < x.wr.pth.length) = true := decide_eq_true h2
        have d2k : decide ((200 : Int) < (x.wr.pth.length : Int)) = true := decide_eq_true (by omega)
        clear h2 hb
        go_wp2_with fail
        first | go_ret3 | go_ret2 | go_ret
        exact ⟨⟨_, rfl, fun h => (by cases h)⟩, HB.out⟩
      have d2 : decide ((200 : Int) < ((str x.wr.pth).size : Int)) = false := decide_eq_false (by omega)
      have d2n : decide (200 < (str x.wr.pth).size) = false := decide_eq_false (by omega)
      have d2m : decide (200 < x.wr.pth.length) = false := decide_eq_false h2
      have d2k : decide ((200 : Int) < (x.wr.pth.length : Int)) = false := decide_eq_false (by omega)
      have HP2 := Lib.hid h2
      clear h2
      by_cases h3 : 200 < x.wr.dig.length
      · have d3 : decide ((200 : Int) < ((str x.wr.dig).size : Int)) = true := decide_eq_true (by omega)
        have d3n : decide (200 < (str x.wr.dig).size) = true := decide_eq_true (by omega)
        have d3m : decide (200 < x.wr.dig.length) = true := decide_eq_true h3
        have d3k : decide ((200 : Int) < (x.wr.dig.length : Int)) = true := decide_eq_true (by omega)
        clear h3 hb
        go_wp2_with fail
        first | go_ret3 | go_ret2 | go_ret
        exact ⟨⟨_, rfl, fun h => (by cases h)⟩, HB.out⟩
      have d3 : decide ((200 : Int) < ((str x.wr.dig).size : Int)) = false := decide_eq_false (by omega)
      have d3n : decide (200 < (str x.wr.dig).size) = false := decide_eq_false (by omega)
      have d3m : decide (200 < x.wr.dig.length) = false := decide_eq_false h3
      have d3k : decide ((200 : Int) < (x.wr.dig.length : Int)) = false := decide_eq_false (by omega)
      have HP3 := Lib.hid h3
      clear h3
      go_wp2_with fail
      clear d1 d1n d2 d2n d2m d2k d3 d3n d3m d3k hd3 hd4 hd5 hz4 hz5
      obtain ⟨w00, hw00⟩ : ∃ x : World, x = wr := ⟨wr, rfl⟩
      subst hw00
      go_loopw [4] (fun s4 wr => ∃ j : Nat, s4 = .int .i64 j ∧ j ≤ x.rds.length ∧ (∀ t ∈ x.rds.take j, t.pth.length ≤ 200 ∧ t.dig.length ≤ 200) ∧ Below w.heap.size w wr) (fun s4 _ => x.rds.length - (intOf s4).toNat)
      case atStart => exact ⟨0, rfl, Nat.zero_le _, fun t ht => by simp at ht, HB.out⟩
      case round =>
        obtain ⟨j, rfl, hj, hts, hbj⟩ := hrel
        have HTS := Lib.hid hts
        have HBJ := Lib.hid hbj
        clear hts
        have hd3 := (hbj.cell (p := ⟨g0, o + k * 6 + 3, none⟩) hg).trans (HC.out 3 _ rfl)
        by_cases hlj : j < x.rds.length
        · have e1 : decide ((j : Int) < (x.rds.length : Int)) = true := decide_eq_true (by omega)
          have e1n : decide (j < x.rds.length) = true := decide_eq_true hlj
          have y3 : (j : Int) < (x.rds.length : Int) := by omega
          obtain ⟨g1, o1, hxA, hg1, hc1⟩ := HRD.out j hlj
          rw [hxA] at hd3
          have e0 := (hbj.cell (p := ⟨g1, o1 + j * 2 + 0, none⟩) hg1).trans (hc1 0 _ rfl)
          have e2 := (hbj.cell (p := ⟨g1, o1 + j * 2 + 1, none⟩) hg1).trans (hc1 1 _ rfl)
          rw [show o1 + j * 2 + 0 = o1 + j * 2 from rfl] at e0
          have HTJ := Lib.hid (show x.rds.take (j + 1) = x.rds.take j ++ [x.rds[j]] from List.take_succ_eq_append_getElem hlj)
          clear hxA hc1 hbj
          generalize x.rds[j] = t at *
          have hz4 := str_size t.pth
          have hz5 := str_size t.dig
          by_cases h2 : 200 < t.pth.length
          · have d2 : decide ((200 : Int) < ((str t.pth).size : Int)) = true := decide_eq_true (by omega)
            have d2n : decide (200 < (str t.pth).size) = true := decide_eq_true (by omega)
            have d2m : decide (200 < t.pth.length) = true := decide_eq_true h2
            have d2k : decide ((200 : Int) < (t.pth.length : Int)) = true := decide_eq_true (by omega)
            clear h2
            go_wp2_with fail
            first | go_ret3 | go_ret2 | go_ret
            exact ⟨⟨_, rfl, fun h => (by cases h)⟩, HBJ.out⟩
          have d2 : decide ((200 : Int) < ((str t.pth).size : Int)) = false := decide_eq_false (by omega)
          have d2n : decide (200 < (str t.pth).size) = false := decide_eq_false (by omega)
          have d2m : decide (200 < t.pth.length) = false := decide_eq_false h2
          have d2k : decide ((200 : Int) < (t.pth.length : Int)) = false := decide_eq_false (by omega)
          have HQ2 := Lib.hid h2
          clear h2
          by_cases h3 : 200 < t.dig.length
          · have d3 : decide ((200 : Int) < ((str t.dig).size : Int)) = true := decide_eq_true (by omega)
            have d3n : decide (200 < (str t.dig).size) = true := decide_eq_true (by omega)
            have d3m : decide (200 < t.dig.length) = true := decide_eq_true h3
            have d3k : decide ((200 : Int) < (t.dig.length : Int)) = true := decide_eq_true (by omega)
            clear h3
            go_wp2_with fail
            first | go_ret3 | go_ret2 | go_ret
            exact ⟨⟨_, rfl, fun h => (by cases h)⟩, HBJ.out⟩
          have d3 : decide ((200 : Int) < ((str t.dig).size : Int)) = false := decide_eq_false (by omega)
          have d3n : decide (200 < (str t.dig).size) = false := decide_eq_false (by omega)
          have d3m : decide (200 < t.dig.length) = false := decide_eq_false h3
          have d3k : decide ((200 : Int) < (t.dig.length : Int)) = false := decide_eq_false (by omega)
          have HN := Lib.hid (show ∀ u ∈ x.rds.take (j + 1), u.pth.length ≤ 200 ∧ u.dig.length ≤ 200 from fun u hu => by
            rw [HTJ.out] at hu
            rcases List.mem_append.1 hu with h | h
            · exact HTS.out u h
            · rw [List.mem_singleton.1 h]
              have := HQ2.out
              exact ⟨by omega, by omega⟩)
          clear h3
          go_wp2_with fail
          go_roundw
          case rel => exact ⟨j + 1, by go_num, by omega, HN.out, HBJ.out⟩
          case measure => simp [intOf]; omega
        · have e1 : decide ((j : Int) < (x.rds.length : Int)) = false := decide_eq_false (by omega)
          have e1n : decide (j < x.rds.length) = false := decide_eq_false hlj
          have HN := Lib.hid (HTK.out ⟨hx12, fun t ht => by
            have h2 := HP2.out
            have h3 := HP3.out
            rcases List.mem_append.1 ht with h | h
            · exact HTS.out t (by rw [List.take_of_length_le (by omega)]; exact h)
            · rw [List.mem_singleton.1 h]; exact ⟨by omega, by omega⟩⟩)
          clear hbj
          go_wp2_with fail
          go_roundw
          case rel => exact ⟨k + 1, by go_num, by omega, HN.out, HBJ.out⟩
          case measure => simp [intOf]; omega
    · have c1 : decide ((k : Int) < (r.length : Int)) = false := decide_eq_false (by omega)
      have c1n : decide (k < r.length) = false := decide_eq_false hlt
      have HT := Lib.hid (show FewP r from .inr ⟨hL, fun s hs => by
        obtain ⟨j, hj, e⟩ := List.mem_iff_getElem.1 hs
        rw [← e]; exact HAL.out j hj (by omega)⟩)
      clear hb
      go_wp2_with fail
      first | go_ret3 | go_ret2 | go_ret
      exact ⟨⟨_, rfl, fun _ => HT.out⟩, HB.out⟩
end Go.Proofs.YtjemffgidhgfjaaGreatDoor.Rk
