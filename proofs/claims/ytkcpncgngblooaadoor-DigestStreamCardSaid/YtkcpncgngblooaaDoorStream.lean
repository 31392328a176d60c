/- The law DigestStream returns true. Condition: the round constants lie in their variable. -/
import Derived.Test.YtkcpncgngblooaaDoorRefSum
import Derived.Test.YtkcpncgngblooaaDoorClones
namespace Go.Proofs.YtkcpncgngblooaaDoor
open Go.RowKit

/-- The slice value's cells are slices of these strings. -/
def RowsAt (w : World) (A : Option Addr) (vs : List (Option Addr × Nat × List ByteArray)) : Prop :=
  ∀ i (h : i < vs.length), ∃ g o, A = some ⟨g, o, none⟩ ∧ g < w.heap.size ∧ w.cell? ⟨g, o + i, none⟩ = some (.slice vs[i].1 vs[i].2.2.length vs[i].2.1) ∧
    ∀ j (hj : j < vs[i].2.2.length), ∃ g1 o1, vs[i].1 = some ⟨g1, o1, none⟩ ∧ g1 < w.heap.size ∧ w.cell? ⟨g1, o1 + j, none⟩ = some (.string vs[i].2.2[j])

theorem cat_len (ss : List ByteArray) (m : Nat) (h : m < ss.length) : (cat (ss.take (m + 1))).length = (cat (ss.take m)).length + ss[m].size := by
  rw [cat_snoc ss m h, List.length_append, size_list]
theorem app_cat (X : ByteArray) (l : List UInt8) (ss : List ByteArray) (m : Nat) (h : m < ss.length) (hX : X.data.toList = l ++ cat (ss.take m)) : (X ++ ss[m]).data.toList = l ++ cat (ss.take (m + 1)) := by
  rw [app_list, hX, cat_snoc ss m h, List.append_assoc]
theorem size_of_eq {X : ByteArray} {l : List UInt8} (h : X.data.toList = l) : X.size = l.length := by rw [← h]; rfl

set_option maxHeartbeats 8000000 in
set_option maxRecDepth 100000 in
theorem stream_law (A : Option Addr) (c : Nat) (vs : List (Option Addr × Nat × List ByteArray)) (w : World) (hC : Consts w) (hR : RowsAt w A vs) :
    Calls Tryd.prog 6 #[.slice A vs.length c] w fun e w' => e = .returned (.bool true) ∧ Below w.heap.size w w' := by
  by_cases h20 : 20 < vs.length
  · have d : decide ((20 : Int) < vs.length) = true := by simp; omega
    clear h20
    go_enter Tryd.func6, Tryd.ntmps6
    go_wp2_with fail
    refine (awake_any _ hC).mono ?_
    rintro e w1 ⟨rfl, hb1⟩
    go_wp2_with fail
    go_ret
    exact ⟨rfl, hb1⟩
  · have d : decide ((20 : Int) < vs.length) = false := by simp; omega
    go_enter Tryd.func6, Tryd.ntmps6
    go_wp2_with fail
    refine (awake_any _ hC).mono ?_
    rintro e w1 ⟨rfl, hb1⟩
    go_wp2_with fail
    refine (holds_new _).mono ?_
    rintro e w2 ⟨rfl, hS, hb2⟩
    have hsz := hb1.size
    have hpos := hC.1
    obtain ⟨b, hb⟩ : ∃ b, b = w1.heap.size := ⟨_, rfl⟩
    rw [← hb] at hS
    rw [← hb]
    have hwb : w.heap.size ≤ b := by omega
    replace hb1 := hb1.trans (hb2.mono hb1.size)
    clear hb2 hb hsz
    go_wp2_with fail
    go_loopw [20, 4] (fun i a wr => ∃ (k : Nat) (l : List UInt8) (X : ByteArray), k ≤ vs.length ∧ i = .int .i64 k ∧ a = .string X ∧ X.data.toList = l ∧ l.length ≤ 1200 * k ∧ Holds wr b l ∧ Below w.heap.size w wr) (fun i _ _ => vs.length - (intOf i).toNat)
    case atStart => exact ⟨0, [], ⟨#[]⟩, by omega, rfl, rfl, rfl, by simp, hS, hb1⟩
    case round =>
      clear hS hb1
      obtain ⟨k, l, X, hk, rfl, rfl, hX, hl, hS, hb1⟩ := hrel
      have HX := Lib.hid hX
      clear hX
      by_cases hlt : k < vs.length
      · have b21 : decide ((k : Int) < (vs.length : Int)) = true := by simp; omega
        obtain ⟨g, o, rfl, hg, hc0, hss⟩ := hR k hlt
        have hc : wr.cell? ⟨g, o + k, none⟩ = some (.slice vs[k].1 vs[k].2.2.length vs[k].2.1) := (hb1.cell (p := ⟨g, o + k, none⟩) hg).trans hc0
        clear hc0 hg
        generalize vs[k] = q at *
        obtain ⟨A1, c1, ss⟩ := q
        simp only at hc hss
        by_cases h6 : 6 < ss.length
        · have d6 : decide ((6 : Int) < ss.length) = true := by simp; omega
          clear h6
          go_wp2_with fail
          go_ret
          exact ⟨rfl, hb1⟩
        · have d6 : decide ((6 : Int) < ss.length) = false := by simp; omega
          go_wp2_with fail
          go_loop [29, 4] (fun j a => ∃ (m : Nat) (Y : ByteArray), m ≤ ss.length ∧ j = .int .i64 m ∧ a = .string Y ∧ Y.data.toList = l ++ cat (ss.take m) ∧ (cat (ss.take m)).length ≤ 200 * m) (fun j _ => ss.length - (intOf j).toNat)
          case atStart => exact ⟨0, X, by omega, rfl, rfl, by rw [HX.out]; simp [cat], by simp [cat]⟩
          case round =>
            obtain ⟨m, Y, hm, rfl, rfl, hY, hcl⟩ := hrel
            have HY := Lib.hid hY
            clear hY
            by_cases hmt : m < ss.length
            · obtain ⟨g1, o1, rfl, hg1, hc0⟩ := hss m hmt
              have hc1 : wr.cell? ⟨g1, o1 + m, none⟩ = some (.string ss[m]) := (hb1.cell (p := ⟨g1, o1 + m, none⟩) hg1).trans hc0
              clear hc0
              by_cases h200 : 200 < ss[m].size
              · have d2 : decide ((200 : Int) < ss[m].size) = true := by simp; omega
                go_wp2_with fail
                go_ret
                exact ⟨rfl, hb1⟩
              · have d2 : decide ((200 : Int) < ss[m].size) = false := by simp; omega
                have hcn := cat_len ss m hmt
                have hYs : Y.size ≤ 40000 := by rw [size_of_eq HY.out, List.length_append]; omega
                have hms : ss[m].size ≤ 200 := by omega
                have HY2 := Lib.hid (app_cat Y l ss m hmt HY.out)
                have hcn2 : (cat (ss.take (m + 1))).length ≤ 200 * (m + 1) := by omega
                clear hcn
                go_wp2_with fail
                go_round
                case rel => exact ⟨m + 1, Y ++ ss[m], by omega, by go_num, rfl, HY2.out, hcn2⟩
                case measure => simp [intOf]; omega
            · obtain ⟨n, hn⟩ : ∃ n, n = ss.length := ⟨_, rfl⟩
              have hmn : m = n := by omega
              have hY : Y.data.toList = l ++ cat ss := by have := HY.out; rwa [hmn, hn, List.take_length] at this
              rw [hmn, hn, List.take_length] at hcl
              have hA : StrsAt wr b A1 ss := fun j hj => by
                obtain ⟨g1, o1, e1, hg1, hc1⟩ := hss j hj
                have := hb1.size
                exact ⟨g1, o1, e1, by omega, by omega, (hb1.cell (p := ⟨g1, o1 + j, none⟩) hg1).trans hc1⟩
              have e1 : ((l.length + (cat ss).length : Nat) : Int) = (Y.size : Int) := by rw [size_of_eq hY, List.length_append]
              have hlen : (cat ss).length ≤ 1200 := by omega
              have hYs : Y.size ≤ 1200 * (k + 1) := by rw [size_of_eq hY, List.length_append]; omega
              have hdig := digS_L Y _ hY
              have HD := Lib.hid hdig
              have HE := Lib.hid e1
              have HY3 := Lib.hid hY
              clear hY hdig e1 hmn hn
              go_wp2_with fail
              refine (holds_write l b A1 c1 ss _ (hC.below hb1) (by omega) hS hA (by omega) (by omega)).mono ?_
              rintro e w3 ⟨rfl, hS3, hg3⟩
              rw [HE.out]
              replace hb1 := hb1.trans (below_of_grown hg3 (by omega) hb1.size)
              clear hg3 hA hS
              go_wp2_with fail
              refine (holds_sum _ b _ (hC.below hb1) hS3 (by simp; omega)).mono ?_
              rintro e w4 ⟨rfl, hb2⟩
              replace hS3 := hS3.below hb2
              replace hb1 := hb1.trans (hb2.mono hb1.size)
              clear hb2
              go_wp2_with fail
              refine (sum_any Y _ (hC.below hb1) (by omega)).mono ?_
              rw [HD.out]
              rintro e w5 ⟨rfl, hb2⟩
              replace hS3 := hS3.below hb2
              replace hb1 := hb1.trans (hb2.mono hb1.size)
              clear hb2
              go_wp2_with fail
              refine (holds_sum _ b _ (hC.below hb1) hS3 (by simp; omega)).mono ?_
              rintro e w6 ⟨rfl, hb2⟩
              replace hS3 := hS3.below hb2
              replace hb1 := hb1.trans (hb2.mono hb1.size)
              clear hb2
              go_wp2_with fail
              refine (refSum_any Y _ (by omega)).mono ?_
              rw [HD.out]
              rintro e w7 ⟨rfl, hb2⟩
              replace hS3 := hS3.below hb2
              replace hb1 := hb1.trans (hb2.mono hb1.size)
              clear hb2
              go_wp2_with fail
              go_roundw
              case rel => exact ⟨k + 1, l ++ cat ss, Y, by omega, by go_num, rfl, HY3.out, by rw [List.length_append]; omega, hS3, hb1⟩
              case measure => simp [intOf]; omega
      · have hdig := digS_L X _ HX.out
        have HD := Lib.hid hdig
        have hXs := size_of_eq HX.out
        have HXs : X.size ≤ 24000 := by omega
        clear hdig hXs
        go_wp2_with fail
        refine (holds_sum _ b _ (hC.below hb1) hS (by omega)).mono ?_
        rintro e w4 ⟨rfl, hb2⟩
        replace hb1 := hb1.trans (hb2.mono hb1.size)
        clear hb2 hS
        go_wp2_with fail
        refine (sum_any X _ (hC.below hb1) (by omega)).mono ?_
        rw [HD.out]
        rintro e w5 ⟨rfl, hb2⟩
        replace hb1 := hb1.trans (hb2.mono hb1.size)
        clear hb2
        go_wp2_with fail
        go_ret
        exact ⟨rfl, hb1⟩
end Go.Proofs.YtkcpncgngblooaaDoor
