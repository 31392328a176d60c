/- The reference's ID. Condition: the listed variables lie as the text lays them. -/
import Derived.Test.YtjgjkbkpdpacnaaGreatDoorQid
namespace Go.Proofs.YtjgjkbkpdpacnaaGreatDoor
open Go.RowKit Go.Deep

theorem qid_any : ∀ (k : Nat) (A : Option Addr) (c : Nat) (ts : List Tre.Fl) (_ : Tre.Good ts) (_ : ∀ f ∈ ts, Tre.dep f.path ≤ k + 1) (w : World) (_ : FlsAt w w.heap.size A ts) (_ : ts.length ≤ c) (_ : c ≤ maxLen),
    Calls Tryz.prog 63 #[.slice A ts.length c] w fun e w' => e = .returned (.string (str (Tre.pid (k + 1) ts))) ∧ Below w.heap.size w w' := by
  intro k
  induction k with
  | zero =>
    intro A c ts g hd w hA h1 h2
    refine qid_step 0 A c ts g w hA h1 h2 fun n A' c' w' hn hf hA' _ _ => ?_
    have hne := (Tre.find_none hf).1
    obtain ⟨f3, r, e3⟩ := List.exists_cons_of_ne_nil (name_len g hn).2
    have h1 := Tre.group_dep hne hd f3 (by rw [e3]; simp)
    have h2 := Tre.dep_pos f3.path
    omega
  | succ k ih =>
    intro A c ts g hd w hA h1 h2
    refine qid_step (k + 1) A c ts g w hA h1 h2 fun n A' c' w' hn hf hA' h3 h4 => ?_
    have hne := (Tre.find_none hf).1
    exact ih A' c' (Tre.group ts n) (g.group hne) (Tre.group_dep hne hd) w' hA' h3 h4
theorem qID_any (A : Option Addr) (c : Nat) (ts : List Tre.Fl) (w : World) (hA : FlsAt w w.heap.size A ts) (hl : ts.length ≤ 1000000000) (hL : FlsLen ts) (hcap : ts.length ≤ c) (hcap2 : c ≤ maxLen) :
    Calls Tryz.prog 29 #[.slice A ts.length c] w fun e w' => e = .returned (idV ts) ∧ Below w.heap.size w w' := by
  have hck := qCheck_any A c ts w hA hl hL hcap hcap2
  by_cases h0 : Tre.check ts = 0
  · have g := (Tre.good_iff ts).1 h0
    have HV := Lib.hid (show idV ts = .tuple #[.string (str (Tre.pid 9 ts)), .int .i64 0] by unfold idV Tre.idR; rw [if_neg (fun h => h h0)])
    rw [h0] at hck
    have hd := fun w' hb => qid_any 8 A c ts g (fun f hf => by have := Tre.ok_dep (g.ok f hf); omega) w' (hA.next hb) hcap hcap2
    generalize Tre.pid (8 + 1) ts = P at *
    generalize idV ts = R at *
    go_enter Tryz.func29, Tryz.ntmps29
    go_wp2_with fail
    with_reducible refine hck.mono ?_
    clear hck
    rintro x w1 ⟨rfl, hb1⟩
    have hcall := hd w1 hb1
    go_wp2_with fail
    with_reducible refine hcall.mono ?_
    clear hcall
    rintro x w2 ⟨rfl, hb2⟩
    go_wp2_with fail
    go_ret2
    exact ⟨HV.out ▸ rfl, hb1.trans (hb2.mono hb1.size)⟩
  · have q1 : (Tre.check ts != 0) = true := by rw [bne_iff_ne]; exact h0
    have HV := Lib.hid (show idV ts = .tuple #[.string ⟨#[]⟩, .int .i64 1] by unfold idV Tre.idR; rw [if_pos h0]; rfl)
    generalize Tre.check ts = e at *
    generalize idV ts = R at *
    clear h0
    go_enter Tryz.func29, Tryz.ntmps29
    go_wp2_with fail
    with_reducible refine hck.mono ?_
    clear hck
    rintro x w1 ⟨rfl, hb1⟩
    go_wp2_with fail
    go_ret2
    exact ⟨HV.out ▸ rfl, hb1⟩
end Go.Proofs.YtjgjkbkpdpacnaaGreatDoor
