/- The examples of the chapter hold. Condition: the library's error of ranges lies in its variable. -/
import Derived.Test.YtlbddfaebmcckaaDoorSam
namespace Go.Proofs.YtlbddfaebmcckaaDoor
open Go.RowKit

/-- What an owned slice's cells are. -/
theorem owns_tks {w : World} {B : Nat} {v : Value} {ts : List Tok.Tk} (h : w.ownsRow B 39 2 v ts.length (tksOf ts)) : ∃ A c, v = .slice A ts.length c ∧ TksAt w w.heap.size A ts := by
  rcases h.2 with ⟨rfl, h0⟩ | ⟨g, cap, cur, rfl, hb, hg, hn, hc, hs, ht⟩
  · have h0' : ts = [] := List.eq_nil_of_length_eq_zero h0
    subst h0'
    exact ⟨none, 0, rfl, fun i hi => by simp at hi⟩
  · refine ⟨_, cap, rfl, fun i hi => ⟨g, 0, rfl, (Array.getElem?_eq_some_iff.1 hg).1, ?_⟩⟩
    have hl : (tksOf ts).length = ts.length * 2 := h.1
    have key : ∀ j, j < ts.length * 2 → w.cell? ⟨g, j, none⟩ = (tksOf ts)[j]? := fun j hj => by
      rw [cell_of_row w g j cur 39 (0, 0) hg]
      have h1 := congrArg (fun x => x[j]?) ht
      simp only [List.getElem?_take, if_pos hj] at h1
      rw [← Array.getElem?_toList, h1]
    have hget : ∀ (us : List Tok.Tk) (i : Nat) (h : i < us.length), (tksOf us)[i * 2]? = some (.int .i64 us[i].kind) ∧ (tksOf us)[i * 2 + 1]? = some (.string (str us[i].text)) := by
      intro us
      induction us with
      | nil => intro i h; simp at h
      | cons u us ih =>
        intro i h
        cases i with
        | zero => exact ⟨rfl, rfl⟩
        | succ i =>
          have h2 := ih i (by simpa using h)
          rw [show (i + 1) * 2 = i * 2 + 2 by omega]
          simpa [tksOf, tkOf] using h2
    rw [Nat.zero_add, key _ (by omega), key _ (by omega)]
    exact hget ts i hi
theorem ex_a : Tok.tokens [108, 101, 116, 32, 120, 49, 61, 121, 60, 60, 50] = ([⟨1, [108, 101, 116]⟩, ⟨1, [120, 49]⟩, ⟨3, [61]⟩, ⟨1, [121]⟩, ⟨3, [60, 60]⟩, ⟨2, [50]⟩], 0) := by decide +kernel
theorem ex_b : Tok.tokens [97, 60, 61, 45, 49] = ([⟨1, [97]⟩, ⟨3, [60, 61]⟩, ⟨3, [45]⟩, ⟨2, [49]⟩], 0) := by decide +kernel
theorem ex_s : Tok.printed [⟨1, [97]⟩, ⟨3, [60, 61]⟩, ⟨3, [45]⟩, ⟨2, [49]⟩] = ([97, 32, 60, 61, 32, 45, 32, 49], 0) := by decide +kernel
theorem ex_t : blankL [⟨1, [108, 101, 116]⟩, ⟨1, [120, 49]⟩, ⟨3, [61]⟩, ⟨1, [121]⟩, ⟨3, [60, 60]⟩, ⟨2, [50]⟩] = [108, 101, 116, 32, 120, 49, 32, 61, 32, 121, 32, 60, 60, 32, 50, 32] := by decide +kernel
theorem ex_h : Tok.tokens [48, 49] = ([], 4) := by decide +kernel
theorem ex_i : Tok.tokens [52, 50, 57, 52, 57, 54, 55, 50, 57, 54] = ([], 3) := by decide +kernel
theorem ex_j : Tok.tokens [50, 120] = ([], 4) := by decide +kernel
theorem ex_n : Tok.number [52, 50, 57, 52, 57, 54, 55, 50, 57, 53] = (4294967295, 0) := by decide +kernel
theorem ex_idx : idOk [120] = true := by decide +kernel
theorem ex_idl : idOk [108, 101, 116] = false := by decide +kernel
theorem ex_id2 : idOk [50] = false := by decide +kernel

theorem TksAt.next {w w' : World} {A : Option Addr} {ts : List Tok.Tk} (h : TksAt w w.heap.size A ts) (hb : Below w.heap.size w w') : TksAt w' w'.heap.size A ts := fun i hi => by
  obtain ⟨g, o, e, hg, hc⟩ := h.below hb (Nat.le_refl _) i hi
  exact ⟨g, o, e, Nat.lt_of_lt_of_le hg hb.size, hc⟩
theorem len_of (ts : List Tok.Tk) (h : ts.all (fun t => decide (t.text.length ≤ 3000)) = true) : ∀ k (h : k < ts.length), ts[k].text.length ≤ 3000 := fun k hk => by
  have := List.all_eq_true.1 h ts[k] (List.getElem_mem hk)
  simpa using this
set_option maxHeartbeats 4000000 in
set_option maxRecDepth 100000 in
theorem awake_any (w : World) (hE : Errs w) :
    Calls Tryd.prog 10 #[] w fun e w' => e = .returned (.bool true) ∧ Below w.heap.size w w' := by
  have t1 := fun w h => tokens_any ⟨#[108, 101, 116, 32, 120, 49, 61, 121, 60, 60, 50]⟩ w (by decide) h
  have t2 := fun w h => tokens_any ⟨#[97, 60, 61, 45, 49]⟩ w (by decide) h
  have t3 := fun w h => tokens_any ⟨#[48, 49]⟩ w (by decide) h
  have t4 := fun w h => tokens_any ⟨#[52, 50, 57, 52, 57, 54, 55, 50, 57, 54]⟩ w (by decide) h
  have t5 := fun w h => tokens_any ⟨#[50, 120]⟩ w (by decide) h
  have n1 := fun w h => number_any ⟨#[52, 50, 57, 52, 57, 54, 55, 50, 57, 53]⟩ w (by decide) h
  have d1 := fun w => name_any ⟨#[120]⟩ w (by decide)
  have d2 := fun w => name_any ⟨#[108, 101, 116]⟩ w (by decide)
  have d3 := fun w => name_any ⟨#[50]⟩ w (by decide)
  simp only at t1 t2 t3 t4 t5 n1 d1 d2 d3
  rw [ex_a] at t1
  rw [ex_b] at t2
  rw [ex_h] at t3
  rw [ex_i] at t4
  rw [ex_j] at t5
  unfold numV at n1
  rw [ex_n] at n1
  rw [ex_idx] at d1
  rw [ex_idl] at d2
  rw [ex_id2] at d3
  go_enter Tryd.func10, Tryd.ntmps10
  go_wp2_with fail
  with_reducible refine (t1 w hE).mono ?_
  rintro e w1 ⟨va, rfl, ha, hb⟩
  obtain ⟨Aa, ca, rfl, hA⟩ := owns_tks ha
  clear t1 ha
  go_wp2_with fail
  with_reducible refine (t2 w1 (hE.below hb)).mono ?_
  rintro e w2 ⟨vb, rfl, hbb, hb2⟩
  obtain ⟨Ab, cb, rfl, hB⟩ := owns_tks hbb
  replace hA := hA.next hb2
  replace hb := hb.trans (hb2.mono hb.size)
  clear t2 hbb hb2
  go_wp2_with fail
  have hcall : Calls Tryd.prog 15 #[.slice Ab 4 cb] w2 _ := print_any Ab cb [⟨1, [97]⟩, ⟨3, [60, 61]⟩, ⟨3, [45]⟩, ⟨2, [49]⟩] w2 hB (len_of _ (by decide)) (hE.below hb)
  unfold prnV at hcall
  rw [ex_s] at hcall
  simp only [show str [97, 32, 60, 61, 32, 45, 32, 49] = (⟨#[97, 32, 60, 61, 32, 45, 32, 49]⟩ : ByteArray) from rfl] at hcall
  with_reducible refine hcall.mono ?_
  clear hcall hB
  rintro e w3 ⟨rfl, hb2⟩
  replace hA := hA.next hb2
  replace hb := hb.trans (hb2.mono hb.size)
  clear hb2
  go_wp2_with fail
  with_reducible refine (t3 w3 (hE.below hb)).mono ?_
  rintro e w4 ⟨v3, rfl, _, hb2⟩
  replace hA := hA.next hb2
  replace hb := hb.trans (hb2.mono hb.size)
  clear t3 hb2
  go_wp2_with fail
  with_reducible refine (t4 w4 (hE.below hb)).mono ?_
  rintro e w5 ⟨v4, rfl, _, hb2⟩
  replace hA := hA.next hb2
  replace hb := hb.trans (hb2.mono hb.size)
  clear t4 hb2
  go_wp2_with fail
  with_reducible refine (t5 w5 (hE.below hb)).mono ?_
  rintro e w6 ⟨v5, rfl, _, hb2⟩
  replace hA := hA.next hb2
  replace hb := hb.trans (hb2.mono hb.size)
  clear t5 hb2
  go_wp2_with fail
  with_reducible refine (n1 w6 (hE.below hb)).mono ?_
  rintro e w7 ⟨rfl, hb2⟩
  replace hA := hA.next hb2
  replace hb := hb.trans (hb2.mono hb.size)
  clear n1 hb2
  go_wp2_with fail
  have hcall : Calls Tryd.prog 23 #[.slice Aa 6 ca] w7 _ := text_any Aa ca [⟨1, [108, 101, 116]⟩, ⟨1, [120, 49]⟩, ⟨3, [61]⟩, ⟨1, [121]⟩, ⟨3, [60, 60]⟩, ⟨2, [50]⟩] w7 hA (by decide) (len_of _ (by decide))
  rw [ex_t] at hcall
  simp only [show str [108, 101, 116, 32, 120, 49, 32, 61, 32, 121, 32, 60, 60, 32, 50, 32] = (⟨#[108, 101, 116, 32, 120, 49, 32, 61, 32, 121, 32, 60, 60, 32, 50, 32]⟩ : ByteArray) from rfl] at hcall
  with_reducible refine hcall.mono ?_
  clear hcall hA
  rintro e w8 ⟨rfl, hb2⟩
  replace hb := hb.trans (hb2.mono hb.size)
  clear hb2
  go_wp2_with fail
  with_reducible refine (d1 w8).mono ?_
  rintro e w8 ⟨rfl, rfl⟩
  go_wp2_with fail
  with_reducible refine (d2 _).mono ?_
  rintro e w8 ⟨rfl, rfl⟩
  go_wp2_with fail
  with_reducible refine (d3 _).mono ?_
  rintro e w8 ⟨rfl, rfl⟩
  go_wp2_with fail
  go_ret
  exact ⟨rfl, hb⟩
end Go.Proofs.YtlbddfaebmcckaaDoor
