/- What the parser reads between operations. Condition: the library's error of ranges lies in its variable. -/
import Derived.Test.YtndehkoglgakpaaGreatDoorNmd
namespace Go.Proofs.YtndehkoglgakpaaGreatDoor
open Go.RowKit Go.Deep

theorem cf34 (args : Array Value) (w : World) : (callFunc 26 args).run Tryz.prog w = .ok (.enter 26 args) w := run_enter Tryz.func26 (by kernel_rfl) (by kernel_rfl) args w
theorem cf68 (args : Array Value) (w : World) : (callFunc 76 args).run Tryz.prog w = .ok (.enter 76 args) w := run_enter Tryz.func76 (by kernel_rfl) (by kernel_rfl) args w
theorem prim_def (l : List Tok.Tk) (p : Ex.Pr) (d i : Nat) (out : List Ex.Op) : Ex.prim l p d i out = if Ex.nxt l i = [40] then Ex.inPar l p d i out else if Ex.nxt l i = [108, 111, 97, 100] then Ex.then_ (Ex.inPar l p d (i + 1) out) ⟨4, [], 0⟩ else if Ex.nxt l i = [105, 110] then Ex.then_ (Ex.inPar l (fun _ i out => ⟨0, i, out⟩) d (i + 1) out) ⟨5, [], 0⟩ else if Ex.idB (Ex.nxt l i) = true then Ex.named l p (Ex.nxt l i) d (i + 1) out else if (Tok.number (Ex.nxt l i)).2 = 0 then ⟨0, i + 1, out ++ [⟨1, [], (Tok.number (Ex.nxt l i)).1⟩]⟩ else ⟨4, i, out⟩ := rfl
set_option maxHeartbeats 1000000 in
set_option maxRecDepth 100000 in
theorem nothing_any (b : Nat) (A : Option Addr) (c : Nat) (l : List Tok.Tk) (d i s : Nat) (out : List Ex.Op) (w : World) (hP : PA w b A c l d i s out) :
    Calls Tryz.prog 76 #[.pointer (some ⟨b, 0, none⟩)] w (Got w b A c l d s ⟨0, i, out⟩) := by
  go_enter Tryz.func76, Tryz.ntmps76
  go_wp2_with fail
  go_ret
  exact ⟨rfl, hP, Fr.refl b b w⟩
theorem nxt_len {l : List Tok.Tk} (hlen : ∀ k (h : k < l.length), l[k].text.length ≤ 3000) (i : Nat) : (Ex.nxt l i).length ≤ 3000 := by
  unfold Ex.nxt
  split
  · exact hlen i ‹_›
  · simp
theorem num_zero (t : List UInt8) (h : (Tok.number t).2 = 0) : t ≠ [] := fun e => by subst e; cases h
set_option maxHeartbeats 4000000 in
set_option maxRecDepth 100000 in
theorem prim_par (b : Nat) (A : Option Addr) (c : Nat) (l : List Tok.Tk) (d i s : Nat) (out : List Ex.Op) (w : World) (hP : PA w b A c l d i s out) (hl : l.length ≤ 1000000) (hd : d ≤ 25) (hlen : ∀ k (h : k < l.length), l[k].text.length ≤ 3000) (p : Ex.Pr)
    (hX : ∀ (i' s' : Nat) (out' : List Ex.Op) (w' : World), d ≤ 24 → i < i' → PA w' b A c l (d + 1) i' s' out' → Calls Tryz.prog 26 #[.pointer (some ⟨b, 0, none⟩)] w' (Got w' b A c l (d + 1) s' (p (d + 1) i' out'))) (hp : Ex.Fwd p) (h40 : Ex.nxt l i = [40]) :
    Calls Tryz.prog 52 #[.pointer (some ⟨b, 0, none⟩)] w (Got w b A c l d s (Ex.prim l p d i out)) := by
  have _u := And.intro hp (And.intro hlen (And.intro hd (And.intro hl hX)))
  clear _u
  have HV0 := Lib.hid (prim_def l p d i out)
  have hlt := hP.lt
  have hn := next_any b A c l d i s out w hP
  have htl := nxt_len hlen i
  generalize Ex.prim l p d i out = R at *
  have HR := Lib.hid (HV0.out.trans (if_pos h40))
  have hi := nxt_lt (l := l) (i := i) (by rw [h40]; decide)
  have q40 := str_eq h40
  rw [h40] at q40 hn
  clear HV0
  go_enter Tryz.func52, Tryz.ntmps52
  go_wp2_with fail
  with_reducible refine hn.mono ?_
  clear hn
  rintro x w2 ⟨rfl, hb1⟩
  have hP2 := hP.below hb1
  have hF2 : Fr b b w w2 := Fr.of hb1 hlt
  clear hb1
  have hcall := inPar_any b A c l d i s out w2 hP2 hl (by omega) s (by have := hP2.room; omega) 26 (.pointer (some ⟨b, 0, none⟩)) (cf34 _) p (fun h1 _ w1 h3 _ => hX (i + 1) s out w1 h1 (by omega) h3)
  generalize Ex.inPar l p d i out = r at *
  clear hX hP hP2 h40
  go_wp2_with fail
  with_reducible refine hcall.mono ?_
  clear hcall
  rintro x w9 ⟨rfl, hP9, hF9⟩
  go_wp2_with fail
  go_ret
  rw [HR.out]
  exact ⟨rfl, hP9, hF2.trans hF9⟩
set_option maxHeartbeats 4000000 in
set_option maxRecDepth 100000 in
theorem prim_load (b : Nat) (A : Option Addr) (c : Nat) (l : List Tok.Tk) (d i s : Nat) (out : List Ex.Op) (w : World) (hP : PA w b A c l d i s out) (hl : l.length ≤ 1000000) (hd : d ≤ 25) (hlen : ∀ k (h : k < l.length), l[k].text.length ≤ 3000) (p : Ex.Pr)
    (hX : ∀ (i' s' : Nat) (out' : List Ex.Op) (w' : World), d ≤ 24 → i < i' → PA w' b A c l (d + 1) i' s' out' → Calls Tryz.prog 26 #[.pointer (some ⟨b, 0, none⟩)] w' (Got w' b A c l (d + 1) s' (p (d + 1) i' out'))) (hp : Ex.Fwd p) (n40 : Ex.nxt l i ≠ [40]) (hld : Ex.nxt l i = [108, 111, 97, 100]) :
    Calls Tryz.prog 52 #[.pointer (some ⟨b, 0, none⟩)] w (Got w b A c l d s (Ex.prim l p d i out)) := by
  have _u := And.intro hp (And.intro hlen (And.intro hd (And.intro hl hX)))
  clear _u
  have HV0 := Lib.hid (prim_def l p d i out)
  have hlt := hP.lt
  have hn := next_any b A c l d i s out w hP
  have htl := nxt_len hlen i
  generalize Ex.prim l p d i out = R at *
  have HV1 := Lib.hid (HV0.out.trans (if_neg n40))
  have q40 := str_ne n40
  have HR := Lib.hid (HV1.out.trans (if_pos hld))
  have hi := nxt_lt (l := l) (i := i) (by rw [hld]; decide)
  have qld := str_eq hld
  rw [hld] at q40 qld hn
  clear HV0 HV1 hld n40
  go_enter Tryz.func52, Tryz.ntmps52
  go_wp2_with fail
  with_reducible refine hn.mono ?_
  clear hn
  rintro x w2 ⟨rfl, hb1⟩
  have hP2 := hP.below hb1
  have hF2 : Fr b b w w2 := Fr.of hb1 hlt
  clear hb1
  have c1 := hP2.at_
  have f1 := hP2.frz 1
  have hP3 := hP2.setAt ((i : Int) + 1) (i + 1) (s + 1) (by omega) (by omega) (by have := hP2.room; omega)
  have hF3 : Fr b b w (w2.setCell ⟨b, 1, none⟩ (.int .i64 ((i : Int) + 1))) := hF2.trans (Fr.set hP2 1 _)
  have h67 := inPar_any b A c l d (i + 1) (s + 1) out _ hP3 hl (by omega) (s + 1) (by have := hP3.room; omega) 26 (.pointer (some ⟨b, 0, none⟩)) (cf34 _) p (fun h1 _ w1 h3 _ => hX (i + 1 + 1) (s + 1) out w1 h1 (by omega) h3)
  go_upto_region 6 with (fail)
  generalize w2.setCell ⟨b, 1, none⟩ (.int .i64 ((i : Int) + 1)) = w3 at *
  generalize Ex.inPar l p d (i + 1) out = r at *
  clear hX hP hP2 hP3 hF2 c1 f1
  go_wp2_with fail
  with_reducible refine h67.mono ?_
  clear h67
  rintro x w4 ⟨rfl, hP4, hF4⟩
  have hcall := then_any b A c l d s r ⟨4, [], 0⟩ ⟨4, [], 0⟩ (fun _ => rfl) w4 hP4 hl
  dsimp only at hcall
  rw [show str [] = ⟨#[]⟩ from rfl] at hcall
  generalize Ex.then_ r ⟨4, [], 0⟩ = r2 at *
  have hF := hF3.trans hF4
  clear hF3 hF4 hP4
  go_wp2_with fail
  with_reducible refine hcall.mono ?_
  clear hcall
  rintro x w9 ⟨rfl, hP9, hF9⟩
  go_wp2_with fail
  go_ret
  rw [HR.out]
  exact ⟨rfl, hP9, hF.trans hF9⟩
set_option maxHeartbeats 4000000 in
set_option maxRecDepth 100000 in
theorem prim_in (b : Nat) (A : Option Addr) (c : Nat) (l : List Tok.Tk) (d i s : Nat) (out : List Ex.Op) (w : World) (hP : PA w b A c l d i s out) (hl : l.length ≤ 1000000) (hd : d ≤ 25) (hlen : ∀ k (h : k < l.length), l[k].text.length ≤ 3000) (p : Ex.Pr)
    (hX : ∀ (i' s' : Nat) (out' : List Ex.Op) (w' : World), d ≤ 24 → i < i' → PA w' b A c l (d + 1) i' s' out' → Calls Tryz.prog 26 #[.pointer (some ⟨b, 0, none⟩)] w' (Got w' b A c l (d + 1) s' (p (d + 1) i' out'))) (hp : Ex.Fwd p) (n40 : Ex.nxt l i ≠ [40]) (nld : Ex.nxt l i ≠ [108, 111, 97, 100]) (hin : Ex.nxt l i = [105, 110]) :
    Calls Tryz.prog 52 #[.pointer (some ⟨b, 0, none⟩)] w (Got w b A c l d s (Ex.prim l p d i out)) := by
  have _u := And.intro hp (And.intro hlen (And.intro hd (And.intro hl hX)))
  clear _u
  have HV0 := Lib.hid (prim_def l p d i out)
  have hlt := hP.lt
  have hn := next_any b A c l d i s out w hP
  have htl := nxt_len hlen i
  generalize Ex.prim l p d i out = R at *
  have HV1 := Lib.hid (HV0.out.trans (if_neg n40))
  have q40 := str_ne n40
  have HV2 := Lib.hid (HV1.out.trans (if_neg nld))
  have qld := str_ne nld
  have HR := Lib.hid (HV2.out.trans (if_pos hin))
  have hi := nxt_lt (l := l) (i := i) (by rw [hin]; decide)
  have qin := str_eq hin
  rw [hin] at q40 qld qin hn
  clear HV0 HV1 HV2 hin n40 nld
  go_enter Tryz.func52, Tryz.ntmps52
  go_wp2_with fail
  with_reducible refine hn.mono ?_
  clear hn
  rintro x w2 ⟨rfl, hb1⟩
  have hP2 := hP.below hb1
  have hF2 : Fr b b w w2 := Fr.of hb1 hlt
  clear hb1
  have c1 := hP2.at_
  have f1 := hP2.frz 1
  have hP3 := hP2.setAt ((i : Int) + 1) (i + 1) (s + 1) (by omega) (by omega) (by have := hP2.room; omega)
  have hF3 : Fr b b w (w2.setCell ⟨b, 1, none⟩ (.int .i64 ((i : Int) + 1))) := hF2.trans (Fr.set hP2 1 _)
  have h67 := inPar_any b A c l d (i + 1) (s + 1) out _ hP3 hl (by omega) (s + 1) (by have := hP3.room; omega) 76 (.pointer (some ⟨b, 0, none⟩)) (cf68 _) (fun _ i out => ⟨0, i, out⟩) (fun _ _ w1 h3 _ => nothing_any b A c l (d + 1) (i + 1 + 1) (s + 1) out w1 h3)
  go_upto_region 9 with (fail)
  generalize w2.setCell ⟨b, 1, none⟩ (.int .i64 ((i : Int) + 1)) = w3 at *
  generalize Ex.inPar l (fun _ i out => ⟨0, i, out⟩) d (i + 1) out = r at *
  clear hX hP hP2 hP3 hF2 c1 f1
  go_wp2_with fail
  with_reducible refine h67.mono ?_
  clear h67
  rintro x w4 ⟨rfl, hP4, hF4⟩
  have hcall := then_any b A c l d s r ⟨5, [], 0⟩ ⟨5, [], 0⟩ (fun _ => rfl) w4 hP4 hl
  dsimp only at hcall
  rw [show str [] = ⟨#[]⟩ from rfl] at hcall
  generalize Ex.then_ r ⟨5, [], 0⟩ = r2 at *
  have hF := hF3.trans hF4
  clear hF3 hF4 hP4
  go_wp2_with fail
  with_reducible refine hcall.mono ?_
  clear hcall
  rintro x w9 ⟨rfl, hP9, hF9⟩
  go_wp2_with fail
  go_ret
  rw [HR.out]
  exact ⟨rfl, hP9, hF.trans hF9⟩
set_option maxHeartbeats 4000000 in
set_option maxRecDepth 100000 in
theorem prim_name (b : Nat) (A : Option Addr) (c : Nat) (l : List Tok.Tk) (d i s : Nat) (out : List Ex.Op) (w : World) (hP : PA w b A c l d i s out) (hl : l.length ≤ 1000000) (hd : d ≤ 25) (hlen : ∀ k (h : k < l.length), l[k].text.length ≤ 3000) (p : Ex.Pr)
    (hX : ∀ (i' s' : Nat) (out' : List Ex.Op) (w' : World), d ≤ 24 → i < i' → PA w' b A c l (d + 1) i' s' out' → Calls Tryz.prog 26 #[.pointer (some ⟨b, 0, none⟩)] w' (Got w' b A c l (d + 1) s' (p (d + 1) i' out'))) (hp : Ex.Fwd p) (n40 : Ex.nxt l i ≠ [40]) (nld : Ex.nxt l i ≠ [108, 111, 97, 100]) (nin : Ex.nxt l i ≠ [105, 110]) (hid : Ex.idB (Ex.nxt l i) = true) :
    Calls Tryz.prog 52 #[.pointer (some ⟨b, 0, none⟩)] w (Got w b A c l d s (Ex.prim l p d i out)) := by
  have _u := And.intro hp (And.intro hlen (And.intro hd (And.intro hl hX)))
  clear _u
  have HV0 := Lib.hid (prim_def l p d i out)
  have hlt := hP.lt
  have hn := next_any b A c l d i s out w hP
  have htl := nxt_len hlen i
  generalize Ex.prim l p d i out = R at *
  have HV1 := Lib.hid (HV0.out.trans (if_neg n40))
  have q40 := str_ne n40
  have HV2 := Lib.hid (HV1.out.trans (if_neg nld))
  have qld := str_ne nld
  have HV3 := Lib.hid (HV2.out.trans (if_neg nin))
  have qin := str_ne nin
  have HR := Lib.hid (HV3.out.trans (if_pos hid))
  have hi := nxt_lt (l := l) (i := i) (fun e => by rw [e] at hid; cases hid)
  generalize Ex.nxt l i = t at *
  have hnm := fun w => name_any (str t) w (by rw [str_size]; omega)
  rw [str_data, show idOk t = true from hid] at hnm
  clear HV0 HV1 HV2 HV3 n40 nld nin hid
  go_enter Tryz.func52, Tryz.ntmps52
  go_wp2_with fail
  with_reducible refine hn.mono ?_
  clear hn
  rintro x w2 ⟨rfl, hb1⟩
  have hP2 := hP.below hb1
  have hF2 : Fr b b w w2 := Fr.of hb1 hlt
  clear hb1
  have c1 := hP2.at_
  have f1 := hP2.frz 1
  have hP3 := hP2.setAt ((i : Int) + 1) (i + 1) (s + 1) (by omega) (by omega) (by have := hP2.room; omega)
  have hF3 : Fr b b w (w2.setCell ⟨b, 1, none⟩ (.int .i64 ((i : Int) + 1))) := hF2.trans (Fr.set hP2 1 _)
  have hcall := named_any b A c l d (i + 1) s out t _ hP3 hl hd p (fun h1 _ w1 h3 => arguments_any b A c l (d + 1) (i + 1 + 1) (s + 1) out w1 h3 hl p hp (fun i' out' w' h4 h5 => hX i' (s + 1) out' w' h1 (by omega) h5))
  go_upto_region 12 with (go_at_call 56; (with_reducible refine (hnm _).mono ?_); rintro e w' ⟨rfl, rfl⟩)
  generalize w2.setCell ⟨b, 1, none⟩ (.int .i64 ((i : Int) + 1)) = w3 at *
  generalize Ex.named l p t d (i + 1) out = r at *
  clear hX hP hP2 hP3 hF2 c1 f1 hnm
  go_wp2_with fail
  with_reducible refine hcall.mono ?_
  clear hcall
  rintro x w9 ⟨rfl, hP9, hF9⟩
  go_wp2_with fail
  go_ret
  rw [HR.out]
  exact ⟨rfl, hP9, hF3.trans hF9⟩
set_option maxHeartbeats 4000000 in
set_option maxRecDepth 100000 in
theorem prim_num (b : Nat) (A : Option Addr) (c : Nat) (l : List Tok.Tk) (d i s : Nat) (out : List Ex.Op) (w : World) (hP : PA w b A c l d i s out) (hl : l.length ≤ 1000000) (hd : d ≤ 25) (hlen : ∀ k (h : k < l.length), l[k].text.length ≤ 3000) (p : Ex.Pr)
    (hX : ∀ (i' s' : Nat) (out' : List Ex.Op) (w' : World), d ≤ 24 → i < i' → PA w' b A c l (d + 1) i' s' out' → Calls Tryz.prog 26 #[.pointer (some ⟨b, 0, none⟩)] w' (Got w' b A c l (d + 1) s' (p (d + 1) i' out'))) (hp : Ex.Fwd p) (n40 : Ex.nxt l i ≠ [40]) (nld : Ex.nxt l i ≠ [108, 111, 97, 100]) (nin : Ex.nxt l i ≠ [105, 110]) (hid : Ex.idB (Ex.nxt l i) = false) (hz : (Tok.number (Ex.nxt l i)).2 = 0) :
    Calls Tryz.prog 52 #[.pointer (some ⟨b, 0, none⟩)] w (Got w b A c l d s (Ex.prim l p d i out)) := by
  have _u := And.intro hp (And.intro hlen (And.intro hd (And.intro hl hX)))
  clear _u
  have HV0 := Lib.hid (prim_def l p d i out)
  have hlt := hP.lt
  have hn := next_any b A c l d i s out w hP
  have htl := nxt_len hlen i
  generalize Ex.prim l p d i out = R at *
  have HV1 := Lib.hid (HV0.out.trans (if_neg n40))
  have q40 := str_ne n40
  have HV2 := Lib.hid (HV1.out.trans (if_neg nld))
  have qld := str_ne nld
  have HV3 := Lib.hid (HV2.out.trans (if_neg nin))
  have qin := str_ne nin
  have HR := Lib.hid (HV3.out.trans ((if_neg (by rw [hid]; decide)).trans (if_pos hz)))
  have hi := nxt_lt (l := l) (i := i) (num_zero _ hz)
  generalize Ex.nxt l i = t at *
  have hnm := fun w => name_any (str t) w (by rw [str_size]; omega)
  rw [str_data, show idOk t = false from hid] at hnm
  have hnu := fun w (hE : Errs w) => number_any (str t) w (by rw [str_size]; omega) hE
  rw [str_data] at hnu
  unfold numV at hnu
  rw [hz] at hnu
  generalize (Tok.number t).1 = v at *
  clear HV0 HV1 HV2 HV3 n40 nld nin hid hz
  go_enter Tryz.func52, Tryz.ntmps52
  go_wp2_with fail
  with_reducible refine hn.mono ?_
  clear hn
  rintro x w2 ⟨rfl, hb1⟩
  have hP2 := hP.below hb1
  have hF2 : Fr b b w w2 := Fr.of hb1 hlt
  clear hb1
  have hnu2 := hnu w2 (hP2.errs)
  clear hnu
  go_wp2_with (go_at_call 56; (with_reducible refine (hnm _).mono ?_); rintro e w' ⟨rfl, rfl⟩)
  with_reducible refine hnu2.mono ?_
  clear hnu2
  rintro x w3 ⟨rfl, hb3⟩
  replace hF2 := hF2.trans (Fr.of hb3 hP2.lt)
  replace hP2 := hP2.below hb3
  clear hb3
  have c1 := hP2.at_
  have f1 := hP2.frz 1
  have hP3 := hP2.setAt ((i : Int) + 1) (i + 1) (s + 1) (by omega) (by omega) (by have := hP2.room; omega)
  have hF3 : Fr b b w (w3.setCell ⟨b, 1, none⟩ (.int .i64 ((i : Int) + 1))) := hF2.trans (Fr.set hP2 1 _)
  have hcall := then_ok b A c l d (i + 1) s out ⟨1, [], (v : Int)⟩ _ hP3 hl
  dsimp only at hcall
  rw [show str [] = ⟨#[]⟩ from rfl] at hcall
  go_upto_region 17 with (fail)
  generalize w3.setCell ⟨b, 1, none⟩ (.int .i64 ((i : Int) + 1)) = w4 at *
  clear hX hP hP2 hP3 hF2 c1 f1 hnm
  go_wp2_with fail
  with_reducible refine hcall.mono ?_
  clear hcall
  rintro x w9 ⟨rfl, hP9, hF9⟩
  go_wp2_with fail
  go_ret
  rw [HR.out]
  exact ⟨rfl, hP9, hF3.trans hF9⟩
set_option maxHeartbeats 4000000 in
set_option maxRecDepth 100000 in
theorem prim_bad (b : Nat) (A : Option Addr) (c : Nat) (l : List Tok.Tk) (d i s : Nat) (out : List Ex.Op) (w : World) (hP : PA w b A c l d i s out) (hl : l.length ≤ 1000000) (hd : d ≤ 25) (hlen : ∀ k (h : k < l.length), l[k].text.length ≤ 3000) (p : Ex.Pr)
    (hX : ∀ (i' s' : Nat) (out' : List Ex.Op) (w' : World), d ≤ 24 → i < i' → PA w' b A c l (d + 1) i' s' out' → Calls Tryz.prog 26 #[.pointer (some ⟨b, 0, none⟩)] w' (Got w' b A c l (d + 1) s' (p (d + 1) i' out'))) (hp : Ex.Fwd p) (n40 : Ex.nxt l i ≠ [40]) (nld : Ex.nxt l i ≠ [108, 111, 97, 100]) (nin : Ex.nxt l i ≠ [105, 110]) (hid : Ex.idB (Ex.nxt l i) = false) (hz : (Tok.number (Ex.nxt l i)).2 ≠ 0) :
    Calls Tryz.prog 52 #[.pointer (some ⟨b, 0, none⟩)] w (Got w b A c l d s (Ex.prim l p d i out)) := by
  have _u := And.intro hp (And.intro hlen (And.intro hd (And.intro hl hX)))
  clear _u
  have HV0 := Lib.hid (prim_def l p d i out)
  have hlt := hP.lt
  have hn := next_any b A c l d i s out w hP
  have htl := nxt_len hlen i
  generalize Ex.prim l p d i out = R at *
  have HV1 := Lib.hid (HV0.out.trans (if_neg n40))
  have q40 := str_ne n40
  have HV2 := Lib.hid (HV1.out.trans (if_neg nld))
  have qld := str_ne nld
  have HV3 := Lib.hid (HV2.out.trans (if_neg nin))
  have qin := str_ne nin
  have HR := Lib.hid (HV3.out.trans ((if_neg (by rw [hid]; decide)).trans (if_neg hz)))
  generalize Ex.nxt l i = t at *
  have hnm := fun w => name_any (str t) w (by rw [str_size]; omega)
  rw [str_data, show idOk t = false from hid] at hnm
  have hnu := fun w (hE : Errs w) => number_any (str t) w (by rw [str_size]; omega) hE
  rw [str_data] at hnu
  unfold numV at hnu
  have q9 : ((Tok.number t).2 != 0) = true := by rw [bne_iff_ne]; exact hz
  generalize (Tok.number t).1 = v at *
  generalize (Tok.number t).2 = ev at *
  clear HV0 HV1 HV2 HV3 n40 nld nin hid hz
  go_enter Tryz.func52, Tryz.ntmps52
  go_wp2_with fail
  with_reducible refine hn.mono ?_
  clear hn
  rintro x w2 ⟨rfl, hb1⟩
  have hP2 := hP.below hb1
  have hF2 : Fr b b w w2 := Fr.of hb1 hlt
  clear hb1
  have hnu2 := hnu w2 (hP2.errs)
  clear hnu hX
  go_wp2_with (go_at_call 56; (with_reducible refine (hnm _).mono ?_); rintro e w' ⟨rfl, rfl⟩)
  with_reducible refine hnu2.mono ?_
  clear hnu2
  rintro x w3 ⟨rfl, hb3⟩
  go_wp2_with fail
  go_ret
  rw [HR.out]
  exact ⟨rfl, (hP2.below hb3).weak (Nat.zero_le _), hF2.trans (Fr.of hb3 hP2.lt)⟩
theorem primary_any (b : Nat) (A : Option Addr) (c : Nat) (l : List Tok.Tk) (d i s : Nat) (out : List Ex.Op) (w : World) (hP : PA w b A c l d i s out) (hl : l.length ≤ 1000000) (hd : d ≤ 25) (hlen : ∀ k (h : k < l.length), l[k].text.length ≤ 3000) (p : Ex.Pr)
    (hX : ∀ (i' s' : Nat) (out' : List Ex.Op) (w' : World), d ≤ 24 → i < i' → PA w' b A c l (d + 1) i' s' out' → Calls Tryz.prog 26 #[.pointer (some ⟨b, 0, none⟩)] w' (Got w' b A c l (d + 1) s' (p (d + 1) i' out'))) (hp : Ex.Fwd p) :
    Calls Tryz.prog 52 #[.pointer (some ⟨b, 0, none⟩)] w (Got w b A c l d s (Ex.prim l p d i out)) := by
  by_cases h1 : Ex.nxt l i = [40]
  · exact prim_par b A c l d i s out w hP hl hd hlen p hX hp h1
  · by_cases h2 : Ex.nxt l i = [108, 111, 97, 100]
    · exact prim_load b A c l d i s out w hP hl hd hlen p hX hp h1 h2
    · by_cases h3 : Ex.nxt l i = [105, 110]
      · exact prim_in b A c l d i s out w hP hl hd hlen p hX hp h1 h2 h3
      · cases h4 : Ex.idB (Ex.nxt l i) with
        | true => exact prim_name b A c l d i s out w hP hl hd hlen p hX hp h1 h2 h3 h4
        | false =>
          by_cases h5 : (Tok.number (Ex.nxt l i)).2 = 0
          · exact prim_num b A c l d i s out w hP hl hd hlen p hX hp h1 h2 h3 h4 h5
          · exact prim_bad b A c l d i s out w hP hl hd hlen p hX hp h1 h2 h3 h4 h5
end Go.Proofs.YtndehkoglgakpaaGreatDoor
