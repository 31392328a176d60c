/- Value of a formula. No condition but the lengths. -/
import Derived.Test.YtndehkoglgakpaaGreatDoorFol
namespace Go.Proofs.YtndehkoglgakpaaGreatDoor
open Go.RowKit Go.Deep

theorem Ex.fold1_len (acc : List Ex.Op) (o : Ex.Op) (m : Int) (hn : 0 ≤ o.n) (ht : (Ex.opr o).1 ≤ m) (hm : m ≤ acc.length) : m + (1 - (Ex.opr o).1) ≤ ((Ex.fold1 acc o).length : Int) := by
  have hlo := Ex.opr_lo hn
  by_cases h6 : o.kind = 6
  · rw [Ex.opr_un h6] at ht ⊢
    unfold Ex.fold1
    split
    · simp; omega
    · split
      · rename_i _ h7; rw [h6] at h7; exact absurd h7.1 (by decide)
      · simp; omega
  by_cases h7 : o.kind = 7
  · rw [Ex.opr_bi h7] at ht ⊢
    unfold Ex.fold1
    split
    · rename_i h; exact absurd h.1 h6
    · split
      · simp; omega
      · simp; omega
  rw [Ex.fold1_no acc o h6 h7]
  simp; omega
theorem Ex.foldl_pos (f : List Ex.Op) : ∀ (acc : List Ex.Op) (m : Int), (∀ o ∈ f, 0 ≤ o.n) → Ex.chk m f = 0 → m ≤ acc.length → 1 ≤ (f.foldl Ex.fold1 acc).length := by
  induction f with
  | nil =>
    intro acc m _ hc hm
    simp only [Ex.chk] at hc
    split at hc
    · rename_i h; simp; omega
    · cases hc
  | cons o f ih =>
    intro acc m hn hc hm
    rw [Ex.chk_cons] at hc
    split at hc
    · rename_i h
      rw [List.foldl_cons]
      exact ih _ _ (fun u hu => hn u (List.mem_cons_of_mem _ hu)) hc (Ex.fold1_len acc o m (hn o (by simp)) h.2 hm)
    · cases hc
theorem Ex.fold_pos (f : List Ex.Op) (hn : ∀ o ∈ f, 0 ≤ o.n) (h : (Ex.fold f).2 = 0) : 1 ≤ (Ex.fold f).1.length := by
  rw [fold_def] at h ⊢
  split
  · rename_i hc; rw [if_pos hc] at h; exact absurd h hc
  · rename_i hc
    have hc0 : Ex.check f = 0 := by simpa using hc
    rw [check_def] at hc0
    split at hc0
    · cases hc0
    · exact Ex.foldl_pos f [] 0 hn hc0 (by simp)
theorem Ex.fold_len (f : List Ex.Op) : (Ex.fold f).1.length ≤ f.length := by
  have key : ∀ (f acc : List Ex.Op), (f.foldl Ex.fold1 acc).length ≤ acc.length + f.length := by
    intro f
    induction f with
    | nil => intro acc; simp
    | cons o f ih =>
      intro acc
      rw [List.foldl_cons]
      have h1 := ih (Ex.fold1 acc o)
      have h2 : (Ex.fold1 acc o).length ≤ acc.length + 1 := by
        unfold Ex.fold1
        split
        · simp
        · split
          · simp
          · simp
      simp; omega
  rw [fold_def]
  split
  · simp
  · have := key f []; simpa using this
def valV (p : Int × Bool) : Value := .tuple #[.int .u32 p.1, .bool p.2]
theorem value_def (f : List Ex.Op) : Ex.value f = if (Ex.fold f).2 ≠ 0 ∨ (Ex.fold f).1.all Ex.isNum = false then (0, false) else (((Ex.fold f).1.getD 0 default).n, true) := rfl
set_option maxHeartbeats 4000000 in
set_option maxRecDepth 100000 in
theorem value_any (A : Option Addr) (c : Nat) (f : List Ex.Op) (w : World) (hA : OpsAt w w.heap.size A f) (hl : f.length ≤ 1000000000) (hL : OpsLen f) :
    Calls Tryz.prog 19 #[.slice A f.length c] w fun x w' => x = .returned (valV (Ex.value f)) ∧ Below w.heap.size w w' := by
  have HV := Lib.hid (value_def f)
  have HP := Lib.hid (Ex.fold_pos f (fun o ho => (hL o ho).2.1))
  have HLn := Lib.hid (Ex.fold_len f)
  have hfo := fold_any A c f w hA hl hL
  unfold GotF at hfo
  unfold valV
  generalize Ex.value f = R at *
  generalize Ex.fold f = F at *
  obtain ⟨G, e⟩ := F
  go_enter Tryz.func19, Tryz.ntmps19
  go_wp2_with fail
  with_reducible refine hfo.mono ?_
  clear hfo
  rintro x w2 ⟨v, rfl, hown, hb⟩
  obtain ⟨A2, c2, rfl, hA2, hcc1, hcc2⟩ := owns_ops hown
  have hGl := HLn.out
  by_cases he : e = 0
  · have q1 : (e != 0) = false := by rw [he]; rfl
    have hnum := areNumbers_any A2 c2 G w2 hA2 (by omega)
    have hpos := HP.out he
    cases hG : G.all Ex.isNum with
    | false =>
      have HT := Lib.hid (HV.out.trans (if_pos (Or.inr hG)))
      rw [hG] at hnum
      clear HV HP HLn hG
      go_wp2_with fail
      with_reducible refine hnum.mono ?_
      clear hnum
      rintro x w3 ⟨rfl, hb2⟩
      go_wp2_with fail
      go_ret2
      exact ⟨by rw [HT.out]; rfl, hb.trans (hb2.mono hb.size)⟩
    | true =>
      have HT := Lib.hid (HV.out.trans (if_neg (fun h => h.elim (fun h => h he) (fun h => by rw [hG] at h; cases h))))
      rw [hG] at hnum
      obtain ⟨g, o, rfl, hg, hc0, hc1, hc2⟩ := hA2 0 hpos
      have HG := Lib.hid (show G.getD 0 default = G[0] from by simp [List.getD, List.getElem?_eq_getElem hpos])
      have b1 : decide ((0 : Int) < G.length) = true := by simp; omega
      clear HV HP HLn hG
      go_wp2_with fail
      with_reducible refine hnum.mono ?_
      clear hnum
      rintro x w3 ⟨rfl, hb2⟩
      have hd2 := (hb2.cell (p := ⟨g, o + 0 * 3 + 2, none⟩) hg).trans hc2
      go_wp2_with fail
      go_ret2
      exact ⟨by rw [HT.out, HG.out]; rfl, hb.trans (hb2.mono hb.size)⟩
  · have q1 : (e != 0) = true := by rw [bne_iff_ne]; exact he
    have HT := Lib.hid (HV.out.trans (if_pos (Or.inl he)))
    clear HV HP HLn
    go_wp2_with fail
    go_ret2
    exact ⟨by rw [HT.out]; rfl, hb⟩
end Go.Proofs.YtndehkoglgakpaaGreatDoor
