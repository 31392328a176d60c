/- Two equal lists of files are found equal; whether lists of files are few. No condition but the lengths. -/
import Derived.Test.YtinkpbobkeppiaaGreatDoorDrp
namespace Go.Proofs.YtinkpbobkeppiaaGreatDoor
open Go.RowKit

set_option maxHeartbeats 2000000 in
set_option maxRecDepth 100000 in
theorem same_true (A A' : Option Addr) (c c' : Nat) (ts : List Tre.Fl) (w : World) (hA : FlsAt w w.heap.size A ts) (hA' : FlsAt w w.heap.size A' ts) (hl : ts.length ≤ 1000000000) :
    Calls Tryz.prog 25 #[.slice A ts.length c, .slice A' ts.length c'] w fun x w' => x = .returned (.bool true) ∧ Below w.heap.size w w' := by
  go_enter Tryz.func25, Tryz.ntmps25
  go_wp2_with fail
  go_loopw [13] (fun v wr => ∃ k : Nat, k ≤ ts.length ∧ v = .int .i64 k ∧ Below w.heap.size w wr) (fun v _ => ts.length - (intOf v).toNat)
  case atStart => exact ⟨0, by omega, rfl, Below.refl _ _⟩
  case round =>
    obtain ⟨k, hk, rfl, hb⟩ := hrel
    by_cases hlt : k < ts.length
    · obtain ⟨g, o, rfl, hg, hc0, hc1⟩ := hA k hlt
      obtain ⟨g', o', rfl, hg', hc0', hc1'⟩ := hA' k hlt
      have hd0 := (hb.cell (p := ⟨g, o + k * 2, none⟩) hg).trans hc0
      have hd1 := (hb.cell (p := ⟨g, o + k * 2 + 1, none⟩) hg).trans hc1
      have hd0' := (hb.cell (p := ⟨g', o' + k * 2, none⟩) hg').trans hc0'
      have hd1' := (hb.cell (p := ⟨g', o' + k * 2 + 1, none⟩) hg').trans hc1'
      clear hc0 hc1 hc0' hc1' hA hA'
      have hki : (k : Int) < (ts.length : Int) := by omega
      go_upto_region 6 with (fail)
      generalize ts[k] = t at *
      go_quiet (fail)
      have hb2 := below_drewN hb nq
      generalize wr.drewN nq = w2 at *
      clear hd0 hd1 hd0' hd1' hb
      go_wp2_with fail
      go_roundw
      case rel => exact ⟨k + 1, by omega, by go_num, hb2⟩
      case measure => simp [intOf]; omega
    · have hki : decide ((k : Int) < (ts.length : Int)) = false := by simp; omega
      go_wp2_with fail
      go_ret
      exact ⟨rfl, hb⟩
/-- Few files, with few bytes. -/
def FewOk (N S : Nat) (ts : List Tre.Fl) : Prop := ts.length ≤ N ∧ (∀ f ∈ ts, f.path.length ≤ 300) ∧ (ts.map fun f => f.data.length).sum ≤ S
theorem sum_take (ts : List Tre.Fl) (k : Nat) (h : k < ts.length) : ((ts.take (k + 1)).map fun f => f.data.length).sum = ((ts.take k).map fun f => f.data.length).sum + ts[k].data.length := by
  rw [List.take_succ_eq_append_getElem h, List.map_append, List.sum_append]; simp
theorem mem_take_succ {ts : List Tre.Fl} {k : Nat} (h : k < ts.length) {P : Tre.Fl → Prop} (h1 : ∀ f ∈ ts.take k, P f) (h2 : P ts[k]) : ∀ f ∈ ts.take (k + 1), P f := fun f hf => by
  rw [List.take_succ_eq_append_getElem h] at hf
  rcases List.mem_append.1 hf with hf | hf
  · exact h1 f hf
  · rw [List.mem_singleton.1 hf]; exact h2
set_option maxHeartbeats 4000000 in
set_option maxRecDepth 100000 in
theorem few_any (N S : Nat) (hN : N ≤ 1000000) (hS : S ≤ 1000000) (A : Option Addr) (c : Nat) (ts : List Tre.Fl) (w : World) (hA : FlsAt w w.heap.size A ts) (hl : ts.length ≤ 200000000000000) (hL : ∀ f ∈ ts, f.data.length ≤ 200000000000000) :
    Calls Tryz.prog 43 #[.slice A ts.length c, .int .i64 N, .int .i64 S] w fun x w' => (∃ b, x = .returned (.bool b) ∧ (b = true → FewOk N S ts)) ∧ Below w.heap.size w w' := by
  by_cases h64 : N < ts.length
  · have b0 : decide ((N : Int) < ts.length) = true := by simp; omega
    have b0n : decide (N < ts.length) = true := by simp; omega
    go_enter Tryz.func43, Tryz.ntmps43
    go_wp2_with fail
    go_ret
    exact ⟨⟨false, rfl, fun h => by cases h⟩, Below.refl _ _⟩
  have b0 : decide ((N : Int) < ts.length) = false := by simp; omega
  have b0n : decide (N < ts.length) = false := by simp; omega
  go_enter Tryz.func43, Tryz.ntmps43
  go_wp2_with fail
  go_loopw [7, 16] (fun s i wr => ∃ k : Nat, k ≤ ts.length ∧ i = .int .i64 k ∧ s = .int .i64 (((ts.take k).map fun f => f.data.length).sum : Nat) ∧ ((ts.take k).map fun f => f.data.length).sum ≤ S ∧ (∀ f ∈ ts.take k, f.path.length ≤ 300) ∧ Below w.heap.size w wr) (fun _ i _ => ts.length - (intOf i).toNat)
  case atStart => exact ⟨0, by omega, rfl, by simp, by simp, by simp, Below.refl _ _⟩
  case round =>
    obtain ⟨k, hk, rfl, rfl, hsum, hpl, hb⟩ := hrel
    have HPL := Lib.hid hpl
    clear hpl
    by_cases hlt : k < ts.length
    · have b1 : decide ((k : Int) < ts.length) = true := by simp; omega
      have b1n : decide (k < ts.length) = true := by simp; omega
      obtain ⟨g, o, rfl, hg, hc0, hc1⟩ := hA k hlt
      have hd0 := (hb.cell (p := ⟨g, o + k * 2, none⟩) hg).trans hc0
      have hd1 := (hb.cell (p := ⟨g, o + k * 2 + 1, none⟩) hg).trans hc1
      have hdl := hL ts[k] (List.getElem_mem hlt)
      have hst := sum_take ts k hlt
      have HMT := Lib.hid (mem_take_succ (P := fun f => f.path.length ≤ 300) hlt HPL.out)
      clear hc0 hc1 HPL
      generalize ts[k] = f at *
      generalize ((ts.take k).map fun f => f.data.length).sum = s0 at *
      generalize hs1 : ((ts.take (k + 1)).map fun f => f.data.length).sum = s1 at *
      have HS1 := Lib.hid hs1
      clear hs1
      have hbw : Below w.heap.size w (wr.alloc (.cells #[.string (str f.path), .string (str f.data)] 31)) := hb.alloc hb.size _
      have HZ := Lib.hid (str_size f.data)
      have HZP := Lib.hid (str_size f.path)
      have HST := Lib.hid hst
      have hdl2 : (str f.data).size ≤ 200000000000000 := by rw [str_size]; exact hdl
      clear hst hdl
      by_cases hp : 300 < f.path.length
      · have b2 : decide ((300 : Int) < ((str f.path).size : Int)) = true := by rw [HZP.out]; simp; omega
        have b2n : decide (300 < (str f.path).size) = true := by rw [HZP.out]; simp; omega
        clear HMT hp
        go_wp2_with fail
        go_ret
        exact ⟨⟨_, rfl, fun h => by cases h⟩, hbw⟩
      · have b2 : decide ((300 : Int) < ((str f.path).size : Int)) = false := by rw [HZP.out]; simp; omega
        have b2n : decide (300 < (str f.path).size) = false := by rw [HZP.out]; simp; omega
        have HM := Lib.hid (HMT.out (by omega))
        clear HMT hp
        by_cases hbig : S < s1
        · have b3 : decide ((S : Int) < (s0 : Int) + ((str f.data).size : Int)) = true := decide_eq_true (by have := HZ.out; have := HST.out; omega)
          have b3n : decide (S < s0 + (str f.data).size) = true := decide_eq_true (by have := HZ.out; have := HST.out; omega)
          clear hbig
          go_wp2_with fail
          go_ret
          exact ⟨⟨_, rfl, fun h => by cases h⟩, hbw⟩
        · have b3 : decide ((S : Int) < (s0 : Int) + ((str f.data).size : Int)) = false := decide_eq_false (by have := HZ.out; have := HST.out; omega)
          have b3n : decide (S < s0 + (str f.data).size) = false := decide_eq_false (by have := HZ.out; have := HST.out; omega)
          have hs1S : s1 ≤ S := by omega
          clear hbig
          go_wp2_with fail
          go_roundw
          case rel => exact ⟨k + 1, by omega, by go_num, by rw [HS1.out, Value.int.injEq]; exact ⟨rfl, by have := HZ.out; have := HST.out; omega⟩, by rw [HS1.out]; exact hs1S, HM.out, hbw⟩
          case measure => simp [intOf]; omega
    · have b1 : decide ((k : Int) < ts.length) = false := by simp; omega
      have b1n : decide (k < ts.length) = false := by simp; omega
      have HT := Lib.hid (show FewOk N S ts by
        have h := HPL.out
        rw [show k = ts.length by omega, List.take_length] at h hsum
        exact ⟨by omega, h, hsum⟩)
      clear HPL
      generalize ((ts.take k).map fun f => f.data.length).sum = s0 at *
      go_wp2_with fail
      go_ret
      exact ⟨⟨true, rfl, fun _ => HT.out⟩, hb⟩
end Go.Proofs.YtinkpbobkeppiaaGreatDoor
