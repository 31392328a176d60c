/- Whether trees are small, the laws of TreePaths and TreeIDs. Condition: the tables of digest, codec and the library lie. -/
import Derived.Test.YtinkpbobkeppiaaGreatDoorAwk
import Derived.Test.YtinkpbobkeppiaaGreatDoorSme
namespace Go.Proofs.YtinkpbobkeppiaaGreatDoor
open Go.RowKit Go.Deep

/-- A tree where it lies. -/
structure Tr where
  A : Option Addr
  c : Nat
  ts : List Tre.Fl
def Tr.v (t : Tr) : Value := .slice t.A t.ts.length t.c
theorem Tr.v_def (t : Tr) : t.v = .slice t.A t.ts.length t.c := rfl
structure TrOk (w : World) (t : Tr) : Prop where
  at_ : FlsAt w w.heap.size t.A t.ts
  len : t.ts.length ≤ 200000000000000
  each : ∀ f ∈ t.ts, f.data.length ≤ 200000000000000
set_option maxHeartbeats 4000000 in
set_option maxRecDepth 100000 in
theorem few_all (q c : Nat) (L : List Tr) (w : World) (hq : q < w.heap.size) (hc : ∀ i (h : i < L.length), w.cell? ⟨q, i, none⟩ = some L[i].v) (hL : ∀ t ∈ L, TrOk w t) (hl : L.length ≤ 1000) :
    Calls Tryz.prog 12 #[.slice (some ⟨q, 0, none⟩) L.length c] w fun x w' => (∃ b, x = .returned (.bool b) ∧ (b = true → ∀ t ∈ L, FewOk 70 3000 t.ts)) ∧ Below w.heap.size w w' := by
  go_enter Tryz.func12, Tryz.ntmps12
  go_wp2_with fail
  go_loopw [7] (fun i wr => ∃ k : Nat, k ≤ L.length ∧ i = .int .i64 k ∧ (∀ t ∈ L.take k, FewOk 70 3000 t.ts) ∧ Below w.heap.size w wr) (fun i _ => L.length - (intOf i).toNat)
  case atStart => exact ⟨0, by omega, rfl, by simp, Below.refl _ _⟩
  case round =>
    obtain ⟨k, hk, rfl, hall, hb⟩ := hrel
    have HA := Lib.hid hall
    clear hall
    by_cases hlt : k < L.length
    · have b1 : decide ((k : Int) < L.length) = true := by simp; omega
      have b1n : decide (k < L.length) = true := by simp; omega
      have hcell := (hb.cell (p := ⟨q, k, none⟩) hq).trans (hc k hlt)
      have hok := hL L[k] (List.getElem_mem hlt)
      have HTK := Lib.hid (show ∀ t ∈ L.take (k + 1), t ∈ L.take k ∨ t = L[k] from fun t ht => by
        rw [List.take_succ_eq_append_getElem hlt] at ht
        exact (List.mem_append.1 ht).imp_right List.mem_singleton.1)
      have hcall := few_any 70 3000 (by omega) (by omega) L[k].A L[k].c L[k].ts wr (hok.at_.next hb) hok.len hok.each
      clear hok
      generalize L[k] = t at *
      rw [Tr.v_def] at hcell
      change Calls Tryz.prog 43 #[.slice t.A t.ts.length t.c, .int .i64 70, .int .i64 3000] wr _ at hcall
      generalize t.ts.length = n at *
      go_wp2_with fail
      with_reducible refine hcall.mono ?_
      clear hcall hcell
      rintro x w2 ⟨⟨b, rfl, hfw⟩, hb2⟩
      have hb02 := hb.trans (hb2.mono hb.size)
      clear hb hb2
      cases b with
      | false =>
        clear hfw
        go_wp2_with fail
        go_ret
        exact ⟨⟨false, rfl, fun h => by cases h⟩, hb02⟩
      | true =>
        have HF := Lib.hid (hfw rfl)
        clear hfw
        go_wp2_with fail
        go_roundw
        case rel => exact ⟨k + 1, by omega, by go_num, fun t2 h2 => (HTK.out t2 h2).elim (HA.out t2) (fun e => by rw [e]; exact HF.out), hb02⟩
        case measure => simp [intOf]; omega
    · have b1 : decide ((k : Int) < L.length) = false := by simp; omega
      have b1n : decide (k < L.length) = false := by simp; omega
      have HT := Lib.hid (show ∀ t ∈ L, FewOk 70 3000 t.ts from fun t ht => HA.out t (by rw [List.take_of_length_le (by omega)]; exact ht))
      clear HA
      go_wp2_with fail
      go_ret
      exact ⟨⟨true, rfl, fun _ => HT.out⟩, hb⟩
theorem le_sum : ∀ (l : List Nat) (x : Nat), x ∈ l → x ≤ l.sum
  | a :: l, x, h => by
    rw [List.sum_cons]
    rcases List.mem_cons.1 h with rfl | h
    · omega
    · have := le_sum l x h; omega
theorem few_lens {ts : List Tre.Fl} (h : FewOk 70 3000 ts) : FlsLen ts ∧ ts.length ≤ 70 := by
  obtain ⟨h1, h2, h3⟩ := h
  refine ⟨fun f hf => ⟨by have := h2 f hf; omega, ?_⟩, h1⟩
  have h4 : f.data.length ≤ (ts.map fun f => f.data.length).sum := le_sum _ _ (List.mem_map.2 ⟨f, hf, rfl⟩)
  omega
/-- Few of one tree. -/
theorem few_one (t : Tr) (w : World) (hok : TrOk w t) :
    Calls Tryz.prog 12 #[.slice (some ⟨w.heap.size, 0, none⟩) 1 1] (w.alloc (.cells #[.slice t.A t.ts.length t.c] 23)) fun x w' => (∃ b, x = .returned (.bool b) ∧ (b = true → FlsLen t.ts ∧ t.ts.length ≤ 70)) ∧ Below w.heap.size w w' := by
  have hb : Below w.heap.size w (w.alloc (.cells #[.slice t.A t.ts.length t.c] 23)) := (Below.refl _ _).alloc (Nat.le_refl _) _
  have h := few_all w.heap.size 1 [t] (w.alloc (.cells #[.slice t.A t.ts.length t.c] 23)) (by simp)
    (fun i h => by
      rw [cell_of_row _ _ _ _ _ _ (heap_alloc_new w _)]
      match i, h with
      | 0, _ => rfl)
    (fun p hp => by
      rw [List.mem_singleton.1 hp]
      exact ⟨hok.at_.next hb, hok.len, hok.each⟩) (by simp)
  exact h.mono fun x w' ⟨⟨b, e, h1⟩, h2⟩ => ⟨⟨b, e, fun hb => few_lens (h1 hb t (by simp))⟩, hb.trans (h2.mono hb.size)⟩
set_option maxHeartbeats 4000000 in
set_option maxRecDepth 100000 in
theorem paths_law (s : ByteArray) (t : Tr) (w : World) (hI : IdAt w) (ht : TrOk w t) (hcap : t.ts.length ≤ t.c) (hcap2 : t.c ≤ maxLen) (hs : s.size ≤ 9223372036854775807) :
    Calls Tryz.prog 3 #[.string s, .slice t.A t.ts.length t.c] w fun e w' => e = .returned (.bool true) ∧ Below w.heap.size w w' := by
  have haw := awake_any w hI
  go_enter Tryz.func3, Tryz.ntmps3
  go_wp2_with fail
  with_reducible refine haw.mono ?_
  clear haw
  rintro x w1 ⟨rfl, hb1⟩
  have hI1 := hI.below hb1
  have ht1 : TrOk w1 t := ⟨ht.at_.next hb1, ht.len, ht.each⟩
  clear hI ht
  by_cases hp : 300 < s.size
  · have b1 : decide ((300 : Int) < (s.size : Int)) = true := by simp; omega
    have b1n : decide (300 < s.size) = true := by simp; omega
    go_wp2_with fail
    go_ret
    exact ⟨rfl, hb1⟩
  · have b1 : decide ((300 : Int) < (s.size : Int)) = false := by simp; omega
    have b1n : decide (300 < s.size) = false := by simp; omega
    have hfew := few_one t w1 ht1
    go_wp2_with fail
    with_reducible refine hfew.mono ?_
    clear hfew
    rintro x w2 ⟨⟨b, rfl, hfw⟩, hb2⟩
    have hb02 := hb1.trans (hb2.mono hb1.size)
    have hI2 := hI1.below hb2
    have hA2 := ht1.at_.next hb2
    clear hI1 ht1 hb1 hb2
    cases b with
    | false =>
      clear hfw
      go_wp2_with fail
      go_ret
      exact ⟨rfl, hb02⟩
    | true =>
      obtain ⟨hL, hn⟩ := hfw rfl
      clear hfw
      have hp1 := path_any s w2 (by omega) hI2.max
      have hp2 := fun w' => qPath_any s w' (by omega)
      have hc1 := fun w' (h : Below w2.heap.size w2 w') => check_any t.A t.c t.ts w' (hA2.next h) (by omega) hL (hI2.max.below h) hcap hcap2
      have hc2 := fun w' (h : Below w2.heap.size w2 w') => qCheck_any t.A t.c t.ts w' (hA2.next h) (by omega) hL hcap hcap2
      clear hA2 hI2
      generalize Tre.path s.data.toList = P at *
      generalize Tre.check t.ts = C at *
      generalize t.ts.length = n at *
      have e1 : decide (P = P) = true := decide_eq_true rfl
      have e2 : decide (C = C) = true := decide_eq_true rfl
      go_wp2_with fail
      with_reducible refine hp1.mono ?_
      clear hp1
      rintro x w3 ⟨rfl, hb3⟩
      have hq := hp2 w3
      clear hp2
      go_wp2_with fail
      with_reducible refine hq.mono ?_
      clear hq
      rintro x w4 ⟨rfl, hb4⟩
      have hb24 := hb3.trans (hb4.mono hb3.size)
      have hq := hc1 w4 hb24
      clear hc1 hb3 hb4
      go_wp2_with fail
      with_reducible refine hq.mono ?_
      clear hq
      rintro x w5 ⟨rfl, hb5⟩
      have hb25 := hb24.trans (hb5.mono hb24.size)
      have hq := hc2 w5 hb25
      clear hc2 hb24 hb5
      go_wp2_with fail
      with_reducible refine hq.mono ?_
      clear hq
      rintro x w6 ⟨rfl, hb6⟩
      have hb26 := hb25.trans (hb6.mono hb25.size)
      clear hb25 hb6
      go_wp2_with fail
      go_ret
      exact ⟨by first | rfl | simp, hb02.trans (hb26.mono hb02.size)⟩
set_option maxHeartbeats 4000000 in
set_option maxRecDepth 100000 in
theorem ids_law (t : Tr) (w : World) (hI : IdAt w) (ht : TrOk w t) (hcap : t.ts.length ≤ t.c) (hcap2 : t.c ≤ maxLen) :
    Calls Tryz.prog 5 #[.slice t.A t.ts.length t.c] w fun e w' => e = .returned (.bool true) ∧ Below w.heap.size w w' := by
  have haw := awake_any w hI
  go_enter Tryz.func5, Tryz.ntmps5
  go_wp2_with fail
  with_reducible refine haw.mono ?_
  clear haw
  rintro x w1 ⟨rfl, hb1⟩
  have hI1 := hI.below hb1
  have ht1 : TrOk w1 t := ⟨ht.at_.next hb1, ht.len, ht.each⟩
  clear hI ht
  have hfew := few_one t w1 ht1
  go_wp2_with fail
  with_reducible refine hfew.mono ?_
  clear hfew
  rintro x w2 ⟨⟨b, rfl, hfw⟩, hb2⟩
  have hb02 := hb1.trans (hb2.mono hb1.size)
  have hI2 := hI1.below hb2
  have hA2 := ht1.at_.next hb2
  clear hI1 ht1 hb1 hb2
  cases b with
  | false =>
    clear hfw
    go_wp2_with fail
    go_ret
    exact ⟨rfl, hb02⟩
  | true =>
    obtain ⟨hL, hn⟩ := hfw rfl
    clear hfw
    have hc1 := id_any t.A t.c t.ts w2 hA2 (by omega) hL hI2 hcap hcap2
    have hc2 := fun w' (h : Below w2.heap.size w2 w') => qID_any t.A t.c t.ts w' (hA2.next h) (by omega) hL hcap hcap2
    clear hA2 hI2
    unfold idV at hc1 hc2
    generalize Tre.idR t.ts = R at *
    generalize t.ts.length = n at *
    generalize str R.1 = r at *
    have e1 : (r.toList == r.toList) = true := by simp
    have e2 : decide (R.2 = R.2) = true := decide_eq_true rfl
    go_wp2_with fail
    with_reducible refine hc1.mono ?_
    clear hc1
    rintro x w3 ⟨rfl, hb3⟩
    have hq := hc2 w3 hb3
    clear hc2
    go_wp2_with fail
    with_reducible refine hq.mono ?_
    clear hq
    rintro x w4 ⟨rfl, hb4⟩
    have hb24 := hb3.trans (hb4.mono hb3.size)
    clear hb3 hb4
    go_wp2_with fail
    go_ret
    exact ⟨by first | rfl | simp, hb02.trans (hb24.mono hb02.size)⟩
end Go.Proofs.YtinkpbobkeppiaaGreatDoor
