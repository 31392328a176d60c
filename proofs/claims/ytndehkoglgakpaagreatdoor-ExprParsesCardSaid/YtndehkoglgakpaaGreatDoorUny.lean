/- The parser's unary operations, and all its levels. Condition: the library's error of ranges lies in its variable. -/
import Derived.Test.YtndehkoglgakpaaGreatDoorPri
import Derived.Test.YtndehkoglgakpaaGreatDoorBin
namespace Go.Proofs.YtndehkoglgakpaaGreatDoor
open Go.RowKit Go.Deep

theorem cf33 (args : Array Value) (w : World) : (callFunc 25 args).run Tryz.prog w = .ok (.enter 25 args) w := run_enter Tryz.func25 (by kernel_rfl) (by kernel_rfl) args w
theorem cf32 (args : Array Value) (w : World) : (callFunc 24 args).run Tryz.prog w = .ok (.enter 24 args) w := run_enter Tryz.func24 (by kernel_rfl) (by kernel_rfl) args w
set_option maxHeartbeats 4000000 in
set_option maxRecDepth 100000 in
theorem unary_no (b : Nat) (A : Option Addr) (c : Nat) (l : List Tok.Tk) (d i s : Nat) (out : List Ex.Op) (w : World) (hP : PA w b A c l d i s out) (r : Ex.Rs) (hun : Ex.unL (Ex.nxt l i) = false)
    (hC : ∀ w' : World, PA w' b A c l d i s out → Calls Tryz.prog 52 #[.pointer (some ⟨b, 0, none⟩)] w' (Got w' b A c l d s r)) :
    Calls Tryz.prog 25 #[.pointer (some ⟨b, 0, none⟩)] w (Got w b A c l d s r) := by
  have hlt := hP.lt
  have hn := next_any b A c l d i s out w hP
  have hu := fun w => isUnary_any (str (Ex.nxt l i)) w
  rw [str_list, hun] at hu
  generalize Ex.nxt l i = t at *
  clear hun
  go_enter Tryz.func25, Tryz.ntmps25
  go_wp2_with fail
  with_reducible refine hn.mono ?_
  clear hn
  rintro x w2 ⟨rfl, hb1⟩
  have hcall := hC w2 (hP.below hb1)
  have hF : Fr b b w w2 := Fr.of hb1 hlt
  clear hC hP hb1
  go_wp2_with (go_at_call 51; (with_reducible refine (hu _).mono ?_); rintro e w' ⟨rfl, rfl⟩)
  with_reducible refine hcall.mono ?_
  clear hcall
  rintro x w9 ⟨rfl, hP9, hF9⟩
  go_wp2_with fail
  go_ret
  exact ⟨rfl, hP9, hF.trans hF9⟩
set_option maxHeartbeats 4000000 in
set_option maxRecDepth 100000 in
theorem unary_yes (b : Nat) (A : Option Addr) (c : Nat) (l : List Tok.Tk) (d i s : Nat) (out : List Ex.Op) (w : World) (hP : PA w b A c l d i s out) (hl : l.length ≤ 1000000) (hd : d ≤ 25) (p : Ex.Pr) (hun : Ex.unL (Ex.nxt l i) = true)
    (hU : ∀ (s' : Nat) (out' : List Ex.Op) (w' : World), d ≤ 24 → PA w' b A c l (d + 1) (i + 1) s' out' → Calls Tryz.prog 25 #[.pointer (some ⟨b, 0, none⟩)] w' (Got w' b A c l (d + 1) s' (p (d + 1) (i + 1) out'))) :
    Calls Tryz.prog 25 #[.pointer (some ⟨b, 0, none⟩)] w (Got w b A c l d s (Ex.then_ (Ex.nest p d i out) ⟨6, Ex.nxt l i, 0⟩)) := by
  have hlt := hP.lt
  have hn := next_any b A c l d i s out w hP
  have hu := fun w => isUnary_any (str (Ex.nxt l i)) w
  rw [str_list, hun] at hu
  have hi := nxt_lt (l := l) (i := i) (fun e => by rw [e] at hun; cases hun)
  generalize Ex.nxt l i = t at *
  have hth := fun w' (h : PA w' b A c l d (Ex.nest p d i out).i (sl (Ex.nest p d i out).e (s + 1)) (Ex.nest p d i out).out) => then_any b A c l d s (Ex.nest p d i out) ⟨6, t, 0⟩ ⟨6, t, 0⟩ (fun _ => rfl) w' h hl
  dsimp only at hth
  clear hun
  by_cases h24 : 24 < d
  · have HN : Ex.nest p d i out = ⟨11, i, out⟩ := if_pos h24
    rw [HN] at hth ⊢
    clear HN hU
    generalize Ex.then_ ⟨11, i, out⟩ ⟨6, t, 0⟩ = r2 at *
    go_enter Tryz.func25, Tryz.ntmps25
    go_wp2_with fail
    with_reducible refine hn.mono ?_
    clear hn
    rintro x w2 ⟨rfl, hb1⟩
    have hP2 := hP.below hb1
    have hF : Fr b b w w2 := Fr.of hb1 hlt
    have hcall := nest_deep b A c l d i s out w2 hP2 (by omega) h24 (.func (Fn.func 25) #[.pointer (some ⟨b, 0, none⟩)] #[])
    have hcall2 := hth w2 (hP2.weak (Nat.zero_le _))
    clear hP hb1 h24 hth hP2
    go_wp2_with (go_at_call 51; (with_reducible refine (hu _).mono ?_); rintro e w' ⟨rfl, rfl⟩)
    with_reducible refine hcall.mono ?_
    clear hcall
    rintro x w3 ⟨rfl, rfl⟩
    go_wp2_with fail
    with_reducible refine hcall2.mono ?_
    clear hcall2
    rintro x w9 ⟨rfl, hP9, hF9⟩
    go_wp2_with fail
    go_ret
    exact ⟨rfl, hP9, hF.trans hF9⟩
  · have HN : Ex.nest p d i out = p (d + 1) (i + 1) out := if_neg h24
    rw [HN] at hth ⊢
    have hd2 : d ≤ 24 := by omega
    have hU2 := fun w' (h : PA w' b A c l (d + 1) (i + 1) (s + 1) out) => hU (s + 1) out w' hd2 h
    clear HN hU h24
    generalize p (d + 1) (i + 1) out = r at *
    generalize Ex.then_ r ⟨6, t, 0⟩ = r2 at *
    go_enter Tryz.func25, Tryz.ntmps25
    go_wp2_with fail
    with_reducible refine hn.mono ?_
    clear hn
    rintro x w2 ⟨rfl, hb1⟩
    have hP2 := hP.below hb1
    have hF : Fr b b w w2 := Fr.of hb1 hlt
    have hcall := nest_ok b A c l d i s out w2 hP2 hl hd2 hi (s + 1) (by have := hP2.room; omega) 25 (.pointer (some ⟨b, 0, none⟩)) (cf33 _) r (fun w1 h1 _ => hU2 w1 h1)
    clear hP hb1 hP2 hU2
    go_wp2_with (go_at_call 51; (with_reducible refine (hu _).mono ?_); rintro e w' ⟨rfl, rfl⟩)
    with_reducible refine hcall.mono ?_
    clear hcall
    rintro x w3 ⟨rfl, hP3, hF3⟩
    have hcall2 := hth w3 hP3
    replace hF := hF.trans hF3
    clear hth hP3 hF3
    go_wp2_with fail
    with_reducible refine hcall2.mono ?_
    clear hcall2
    rintro x w9 ⟨rfl, hP9, hF9⟩
    go_wp2_with fail
    go_ret
    exact ⟨rfl, hP9, hF.trans hF9⟩
def levF (n : Nat) : Nat := if n < 11 then 24 else 25
def levA (b n : Nat) : Array Value := if n < 11 then #[.agg #[.pointer (some ⟨b, 0, none⟩), .int .i64 (n : Int)]] else #[.pointer (some ⟨b, 0, none⟩)]
theorem lev_succ (l : List Tok.Tk) (k n d i : Nat) (out : List Ex.Op) : Ex.lev l (k + 1) n d i out = if n < 11 then Ex.bins l n (Ex.lev l k (n + 1)) d (l.length + 1) (Ex.lev l k (n + 1) d i out) else if Ex.unL (Ex.nxt l i) = true then Ex.then_ (Ex.nest (Ex.lev l k 11) d i out) ⟨6, Ex.nxt l i, 0⟩ else Ex.prim l (Ex.lev l k 1) d i out := rfl
theorem lev_any (b : Nat) (A : Option Addr) (c : Nat) (l : List Tok.Tk) (hl : l.length ≤ 1000000) (hlen : ∀ k (h : k < l.length), l[k].text.length ≤ 3000) : ∀ (k n d i s : Nat) (out : List Ex.Op) (w : World), 1 ≤ n → n ≤ 11 → d ≤ 25 → (l.length - i) * 12 + (12 - n) ≤ k → PA w b A c l d i s out →
    Calls Tryz.prog (levF n) (levA b n) w (Got w b A c l d s (Ex.lev l k n d i out)) := by
  intro k
  induction k with
  | zero => intro n d i s out w _ _ _ hk _; omega
  | succ k ih =>
    intro n d i s out w h1 h2 hd hk hP
    rw [lev_succ]
    by_cases hn : n < 11
    · rw [if_pos hn, levF, levA, if_pos hn, if_pos hn]
      by_cases h10 : n = 10
      · subst h10
        refine binary_any b A c l d i s out w hP hl 10 (by decide) (by decide) 25 (.pointer (some ⟨b, 0, none⟩)) (cf33 _) rfl (Ex.lev l k 11) (Ex.lev_fwd l k 11) fun i' s' out' w' hi' hP' => ?_
        exact ih 11 d i' s' out' w' (by decide) (by decide) hd (by omega) hP'
      · have hn2 : n + 1 < 11 := by omega
        refine binary_any b A c l d i s out w hP hl n h1 (by omega) 24 (.agg #[.pointer (some ⟨b, 0, none⟩), .int .i64 ((n + 1 : Nat) : Int)]) (cf32 _) (if_pos hn2) (Ex.lev l k (n + 1)) (Ex.lev_fwd l k (n + 1)) fun i' s' out' w' hi' hP' => ?_
        have := ih (n + 1) d i' s' out' w' (by omega) (by omega) hd (by omega) hP'
        rwa [levF, levA, if_pos hn2, if_pos hn2] at this
    · have h11 : n = 11 := by omega
      subst h11
      rw [if_neg hn]
      show Calls Tryz.prog 25 #[.pointer (some ⟨b, 0, none⟩)] w _
      cases hun : Ex.unL (Ex.nxt l i) with
      | true =>
        rw [if_pos rfl]
        have hi := nxt_lt (l := l) (i := i) (fun e => by rw [e] at hun; cases hun)
        exact unary_yes b A c l d i s out w hP hl hd (Ex.lev l k 11) hun fun s' out' w' hd' hP' => ih 11 (d + 1) (i + 1) s' out' w' (by decide) (by decide) (by omega) (by omega) hP'
      | false =>
        rw [if_neg (by decide)]
        refine unary_no b A c l d i s out w hP _ hun fun w' hP' => primary_any b A c l d i s out w' hP' hl hd hlen (Ex.lev l k 1) (fun i' s' out' w2 hd' hi' hP2 => ?_) (Ex.lev_fwd l k 1)
        have hi := hP2.here
        exact expression_any b A c l (d + 1) i' s' out' w2 hP2 _ (ih 1 (d + 1) i' s' out' w2 (by decide) (by decide) (by omega) (by omega) hP2)
end Go.Proofs.YtndehkoglgakpaaGreatDoor
