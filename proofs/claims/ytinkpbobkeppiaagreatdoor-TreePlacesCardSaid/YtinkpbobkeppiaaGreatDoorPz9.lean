/- What mounting does to a tree, plain. No condition.
Mount on the program's side. Condition: bytealg's MaxLen lies in its variable. -/
import Derived.Test.YtinkpbobkeppiaaGreatDoorPz8
section
namespace Go.Proofs.YtinkpbobkeppiaaGreatDoor

theorem less_pre (c a b : List UInt8) : Op.bytesLess (c ++ a) (c ++ b) = Op.bytesLess a b := by
  induction c with
  | nil => rfl
  | cons x c ih => simp [Op.bytesLess, ih]
theorem below_mount (d a b : List UInt8) : Tre.below (d ++ 47 :: a) (d ++ 47 :: b) = Tre.below a b := by
  have e : ∀ x : List UInt8, d ++ 47 :: x = (d ++ [47]) ++ x := fun x => by simp
  rw [e a, e b]
  generalize d ++ [47] = q
  rw [Bool.eq_iff_iff, below_pre, below_pre]
  unfold Lib.hasPrefix
  simp only [Bool.and_eq_true, List.isPrefixOf_iff_prefix, List.prefix_append_right_inj]
  rw [List.length_append, List.drop_append, List.drop_of_length_le (show q.length ≤ q.length + b.length by omega), List.nil_append, show q.length + b.length - q.length = b.length by omega]
theorem eq_mount (d a b : List UInt8) : ((d ++ 47 :: a) == (d ++ 47 :: b)) = (a == b) := by
  rw [Bool.eq_iff_iff]; simp
theorem check_mount (d : List UInt8) (ts seen : List Tre.Fl) (h : Tre.checkAt seen ts = 0) :
    Tre.checkAt (seen.map (mountF d)) (ts.map (mountF d)) = if (ts.all fun f => Tre.pathOk (mountF d f).path) = true then 0 else 2 := by
  induction ts generalizing seen with
  | nil => rfl
  | cons f t ih =>
    rw [Tre.checkAt_cons] at h
    split at h
    · cases h
    · split at h
      · cases h
      · split at h
        · cases h
        · split at h
          · cases h
          · rename_i h1 h2 h3 h4
            rw [List.map_cons, Tre.checkAt_cons, List.all_cons]
            cases hp : Tre.pathOk (mountF d f).path with
            | false => simp
            | true =>
              have h2' : ¬ 65536 < (mountF d f).data.length := h2
              have h3' : ¬ ((seen.map (mountF d)).getLast?.any fun g => Op.bytesLess (mountF d f).path g.path || (mountF d f).path == g.path) = true := by
                rw [List.getLast?_map]
                intro e
                apply h3
                cases hg : seen.getLast? with
                | none => rw [hg] at e; cases e
                | some g =>
                  rw [hg] at e
                  simp only [Option.map_some, Option.any_some, mountF, less_pre, eq_mount] at e ⊢
                  have e2 : Op.bytesLess (47 :: f.path) (47 :: g.path) = Op.bytesLess f.path g.path := less_pre [47] _ _
                  rw [e2] at e
                  exact e
              have h4' : ¬ ((seen.map (mountF d)).any fun g => Tre.below (mountF d f).path g.path) = true := by
                rw [List.any_map]
                intro e
                apply h4
                rw [← e]
                congr 1
                funext g
                exact (below_mount d f.path g.path).symm
              rw [if_neg (by decide), if_neg h2', if_neg h3', if_neg h4', Bool.true_and]
              have := ih (seen ++ [f]) h
              rw [List.map_append] at this
              exact this
end Go.Proofs.YtinkpbobkeppiaaGreatDoor
end
section
namespace Go.Proofs.YtinkpbobkeppiaaGreatDoor
open Go.RowKit

def mountR (ts : List Tre.Fl) (d : List UInt8) : List Tre.Fl × Int := if Tre.check ts ≠ 0 then ([], 1) else if Tre.pathOk d = false then ([], 2) else if (ts.all fun f => Tre.pathOk (mountF d f).path) = true then (ts.map (mountF d), 0) else ([], 2)
theorem mountR_def (ts : List Tre.Fl) (d : List UInt8) : mountR ts d = if Tre.check ts ≠ 0 then ([], 1) else if Tre.pathOk d = false then ([], 2) else if (ts.all fun f => Tre.pathOk (mountF d f).path) = true then (ts.map (mountF d), 0) else ([], 2) := rfl
theorem mount_len {ts : List Tre.Fl} {d : List UInt8} (hL : ∀ f ∈ ts, f.path.length ≤ 400000000 ∧ f.data.length ≤ 1000000000) (hd : d.length ≤ 400000000) : FlsLen (ts.map (mountF d)) := fun f hf => by
  obtain ⟨g, hg, rfl⟩ := List.mem_map.1 hf
  have := hL g hg
  simp only [mountF, List.length_append, List.length_cons]
  omega
theorem check_small {ts : List Tre.Fl} (h : Tre.check ts = 0) : ts.length ≤ 64 := by
  rw [check_def] at h
  split at h
  · cases h
  · omega
theorem check_map {ts : List Tre.Fl} (d : List UInt8) (h : Tre.check ts = 0) : Tre.check (ts.map (mountF d)) = if (ts.all fun f => Tre.pathOk (mountF d f).path) = true then 0 else 2 := by
  have hs := check_small h
  rw [check_def, if_neg (by omega)] at h
  rw [check_def, if_neg (by rw [List.length_map]; omega)]
  exact check_mount d ts [] h
theorem filter_all (ts : List Tre.Fl) (F : Tre.Fl → Tre.Fl) : (ts.filter (fun _ => true)).map F = ts.map F := by rw [List.filter_eq_self.2 (fun _ _ => rfl)]
theorem own_cap {w : World} {B size n c : Nat} {e : TypeId} {A : Option Addr} {xs : List Value} (h : w.ownsRow B e size (.slice A n c) n xs) : n ≤ c ∧ c ≤ maxLen := by
  rcases h.2 with ⟨h1, h2⟩ | ⟨g, cap, cur, h1, _, _, hn, hc, _⟩
  · injection h1 with h3 h4 h5
    subst h5
    exact ⟨by omega, by unfold maxLen; omega⟩
  · injection h1 with h3 h4 h5
    subst h5
    exact ⟨hn, hc⟩
set_option maxHeartbeats 4000000 in
set_option maxRecDepth 100000 in
theorem mount_any (A : Option Addr) (c : Nat) (ts : List Tre.Fl) (p : ByteArray) (w : World) (hA : FlsAt w w.heap.size A ts) (hl : ts.length ≤ 1000000) (hL : ∀ f ∈ ts, f.path.length ≤ 400000000 ∧ f.data.length ≤ 1000000000) (hp : p.size ≤ 400000000) (hM : MaxAt w) (hcap : ts.length ≤ c) (hcap2 : c ≤ maxLen) :
    Calls Tryz.prog 23 #[.slice A ts.length c, .string p] w (GotE w (mountR ts p.data.toList)) := by
  have HV := Lib.hid (mountR_def ts p.data.toList)
  generalize mountR ts p.data.toList = R at *
  have hL1 : FlsLen ts := fun f hf => ⟨by have := (hL f hf).1; omega, (hL f hf).2⟩
  have hb0 : Below w.heap.size w (w.alloc (.cells #[.string p] 9)) := (Below.refl _ _).alloc (Nat.le_refl _) _
  have k0 : (w.alloc (.cells #[.string p] 9)).cell? ⟨w.heap.size, 0, none⟩ = some (.string p) := by rw [cell_of_row _ _ _ _ _ _ (heap_alloc_new w _)]; rfl
  have hbs : w.heap.size < (w.alloc (.cells #[.string p] 9)).heap.size := by simp
  have hc1 := check_any A c ts _ (hA.next hb0) (by omega) hL1 (hM.below hb0) hcap hcap2
  have hwb : w.heap.size ≤ w.heap.size := Nat.le_refl _
  go_enter Tryz.func23, Tryz.ntmps23
  go_wp2_with fail
  generalize w.alloc (.cells #[.string p] 9) = W at *
  generalize hbb : w.heap.size = b at *
  have HBB := Lib.hid hbb
  clear hbb
  have hcases : Tre.check ts ≠ 0 ∨ Tre.check ts = 0 := (Classical.em _).symm
  rcases hcases with h0 | h0
  · have n0 : (Tre.check ts != 0) = true := by rw [bne_iff_ne]; exact h0
    have HT := Lib.hid (show R = ([], 1) by rw [HV.out, if_pos h0])
    clear HV h0 hL hL1
    generalize Tre.check ts = e at *
    with_reducible refine hc1.mono ?_
    clear hc1
    rintro x w2 ⟨rfl, hb2⟩
    have hb := hb0.trans (hb2.mono (Nat.le_of_lt hbs))
    go_wp2_with fail
    go_ret2
    rw [HT.out]
    exact ⟨_, rfl, World.ownsRow_nil _ _ _ _, by rw [HBB.out]; exact hb⟩
  · have HV1 := Lib.hid (HV.out.trans (if_neg (by rw [h0]; decide)))
    have HCM := Lib.hid (check_map p.data.toList h0)
    rw [h0] at hc1
    clear HV h0
    with_reducible refine hc1.mono ?_
    clear hc1
    rintro x w2 ⟨rfl, hb2⟩
    have hb := hb0.trans (hb2.mono (Nat.le_of_lt hbs))
    have k2 := (hb2.cell (p := ⟨b, 0, none⟩) hbs).trans k0
    have hbs2 : b < w2.heap.size := Nat.lt_of_lt_of_le hbs hb2.size
    clear hb2 k0 hbs hb0
    have hbw : ∀ {w' : World}, Below w2.heap.size w2 w' → Below b w w' := fun h => hb.trans (h.mono (Nat.le_of_lt hbs2))
    have hA2 : FlsAt w2 w2.heap.size A ts := by
      have hb' := hb
      rw [← HBB.out] at hb' hA
      exact hA.next hb'
    have hM2 : MaxAt w2 := by
      have hb' := hb
      rw [← HBB.out] at hb'
      exact hM.below hb'
    have hcall := path_any p w2 (by omega) hM2
    rw [path_val] at hcall
    cases hpo : Tre.pathOk p.data.toList with
    | false =>
      rw [hpo] at hcall
      have HT := Lib.hid (show R = ([], 2) by rw [HV1.out, if_pos hpo])
      clear HV1 hpo
      go_wp2_with fail
      with_reducible refine hcall.mono ?_
      clear hcall
      rintro x w3 ⟨rfl, hb3⟩
      have hbn := hbw hb3
      go_wp2_with fail
      go_ret2
      rw [HT.out]
      exact ⟨_, rfl, World.ownsRow_nil _ _ _ _, by rw [HBB.out]; exact hbn⟩
    | true =>
      rw [hpo] at hcall
      have HV2 := Lib.hid (HV1.out.trans (if_neg (by rw [hpo]; decide)))
      clear HV1 hpo
      go_wp2_with fail
      with_reducible refine hcall.mono ?_
      clear hcall
      rintro x w3 ⟨rfl, hb3⟩
      have hbn := hbw hb3
      have k3 := (hb3.cell (p := ⟨b, 0, none⟩) hbs2).trans k2
      have hbs3 : b < w3.heap.size := Nat.lt_of_lt_of_le hbs2 hb3.size
      have hcall := walkMount b A c ts p w3 (hA2.next hb3) hl hL1 (by omega) k3
      rw [filter_all] at hcall
      have hM3 := hM2.below hb3
      clear k2 hA2 hb3
      go_wp2_with fail
      with_reducible refine hcall.mono ?_
      clear hcall
      rintro x w4 ⟨v, rfl, hown, hb4⟩
      have hbn4 := hbn.trans (hb4.mono (Nat.le_of_lt hbs3))
      have hbs4 : b ≤ w4.heap.size := Nat.le_trans (Nat.le_of_lt hbs3) hb4.size
      obtain ⟨A4, c4, rfl, hA4⟩ := owns_fls hown
      obtain ⟨hc4, hc5⟩ := own_cap hown
      have hchk := check_any A4 c4 (ts.map (mountF p.data.toList)) w4 hA4 (by rw [List.length_map]; omega) (mount_len hL (by rw [size_data]; exact hp)) (hM3.below hb4) hc4 hc5
      rw [HCM.out] at hchk
      have hown4 := hown.mono (Nat.le_of_lt hbs3)
      clear hown hA4 hM3 hM2 hb4
      generalize hmm : ts.map (mountF p.data.toList) = ms at *
      have HMM := Lib.hid hmm
      clear hmm HCM
      cases hal : ts.all fun f => Tre.pathOk (mountF p.data.toList f).path with
      | true =>
        rw [hal] at hchk
        have HT := Lib.hid (show R = (ms, 0) by rw [HV2.out, if_pos hal])
        clear HV2 hal
        go_wp2_with fail
        with_reducible refine hchk.mono ?_
        clear hchk
        rintro x w5 ⟨rfl, hb5⟩
        have hown5 := owns_below hown4 hb5
        have hbn5 := hbn4.trans (hb5.mono hbs4)
        go_wp2_with fail
        go_ret2
        rw [HT.out]
        exact ⟨_, rfl, by rw [HBB.out]; exact hown5, by rw [HBB.out]; exact hbn5⟩
      | false =>
        rw [hal] at hchk
        have HT := Lib.hid (show R = ([], 2) by rw [HV2.out, if_neg (by rw [hal]; decide)])
        clear HV2 hal
        go_wp2_with fail
        with_reducible refine hchk.mono ?_
        clear hchk
        rintro x w5 ⟨rfl, hb5⟩
        have hbn5 := hbn4.trans (hb5.mono hbs4)
        go_wp2_with fail
        go_ret2
        rw [HT.out]
        exact ⟨_, rfl, World.ownsRow_nil _ _ _ _, by rw [HBB.out]; exact hbn5⟩
end Go.Proofs.YtinkpbobkeppiaaGreatDoor
end
