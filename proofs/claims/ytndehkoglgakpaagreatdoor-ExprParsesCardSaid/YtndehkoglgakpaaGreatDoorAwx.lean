/- The examples of the chapter hold. Condition: the library's error of ranges lies in its variable. -/
import Derived.Test.YtndehkoglgakpaaGreatDoorPnt
import Derived.Test.YtndehkoglgakpaaGreatDoorRefT
namespace Go.Proofs.YtndehkoglgakpaaGreatDoor
open Go.RowKit Go.Deep

theorem TksAt.next {w w' : World} {A : Option Addr} {ts : List Tok.Tk} (h : TksAt w w.heap.size A ts) (hb : Below w.heap.size w w') : TksAt w' w'.heap.size A ts := fun i hi => by
  obtain ⟨g, o, e, hg, hc⟩ := h.below hb (Nat.le_refl _) i hi
  exact ⟨g, o, e, Nat.lt_of_lt_of_le hg hb.size, hc⟩
theorem tksOf_get (us : List Tok.Tk) : ∀ (i : Nat) (h : i < us.length), (tksOf us)[i * 2]? = some (.int .i64 us[i].kind) ∧ (tksOf us)[i * 2 + 1]? = some (.string (str us[i].text)) := by
  induction us with
  | nil => intro i h; simp at h
  | cons u us ih =>
    intro i h
    cases i with
    | zero => exact ⟨rfl, rfl⟩
    | succ i =>
      have h2 := ih i (by simpa using h)
      rw [show (i + 1) * 2 = i * 2 + 2 by omega]
      simpa [tksOf, tkOf] using h2
theorem owns_tks {w : World} {B : Nat} {v : Value} {ts : List Tok.Tk} (h : w.ownsRow B 45 2 v ts.length (tksOf ts)) : ∃ A c, v = .slice A ts.length c ∧ TksAt w w.heap.size A ts := by
  rcases h.2 with ⟨rfl, h0⟩ | ⟨g, cap, cur, rfl, hb, hg, hn, hc, hs, ht⟩
  · have h0' : ts = [] := List.eq_nil_of_length_eq_zero h0
    subst h0'
    exact ⟨none, 0, rfl, fun i hi => by simp at hi⟩
  · refine ⟨_, cap, rfl, fun i hi => ⟨g, 0, rfl, (Array.getElem?_eq_some_iff.1 hg).1, ?_⟩⟩
    rw [Nat.zero_add, h.cellAt _ (by omega), h.cellAt _ (by omega)]
    exact tksOf_get ts i hi
theorem pt_tks {w : World} {p : Pt} (h : PtOk w p) : TksAt w w.heap.size (some ⟨p.g, p.o, none⟩) p.ts := fun i hi =>
  ⟨p.g, p.o, rfl, h.lt, by have := h.at_ (i * 2) _ (tksOf_get p.ts i hi).1; simpa using this, by have := h.at_ (i * 2 + 1) _ (tksOf_get p.ts i hi).2; simpa [Nat.add_assoc] using this⟩
/-- What a text is as a formula. -/
def exF (l : List UInt8) (F : List Ex.Op) : Prop := (Tok.tokens l).2 = 0 ∧ Ex.parse (Tok.tokens l).1 = (F, 0) ∧ (Tok.tokens l).1.length ≤ 1000000 ∧ ((Tok.tokens l).1.all (fun t => decide (t.text.length ≤ 3000))) = true
theorem len_of (ts : List Tok.Tk) (h : ts.all (fun t => decide (t.text.length ≤ 3000)) = true) : ∀ k (h : k < ts.length), ts[k].text.length ≤ 3000 := fun k hk => by
  have := List.all_eq_true.1 h ts[k] (List.getElem_mem hk)
  simpa using this
set_option maxHeartbeats 4000000 in
set_option maxRecDepth 100000 in
theorem formula_at (l : List UInt8) (F : List Ex.Op) (h : exF l F) (hl : l.length ≤ 1000000000) (w : World) (hE : Errs w) :
    Calls Tryz.prog 21 #[.string (str l)] w fun e w' => ∃ v, e = .returned v ∧ w'.ownsRow w.heap.size 42 3 v F.length (opsOf F) ∧ Below w.heap.size w w' := by
  obtain ⟨h0, hp, hn, ha⟩ := h
  have ht := qTokens_any (str l) w (by rw [str_size]; exact hl)
  rw [str_data] at ht
  have hlen := Lib.hid (len_of _ ha)
  have HP := Lib.hid hp
  unfold GotT at ht
  rw [h0] at ht
  clear hp ha h0
  generalize (Tok.tokens l).1 = ts at *
  go_enter Tryz.func21, Tryz.ntmps21
  go_wp2_with fail
  with_reducible refine ht.mono ?_
  clear ht
  rintro e w1 ⟨v, rfl, hown, hb⟩
  obtain ⟨A, c, rfl, hA⟩ := owns_tks hown
  have hpar := parse_any A c ts w1 hA hn hlen.out (hE.below hb)
  rw [HP.out] at hpar
  unfold GotF at hpar
  go_wp2_with fail
  with_reducible refine hpar.mono ?_
  clear hpar
  rintro e w2 ⟨v2, rfl, hown2, hb2⟩
  go_wp2_with fail
  go_ret
  exact ⟨v2, rfl, hown2.mono hb.size, hb.trans (hb2.mono hb.size)⟩
set_option maxHeartbeats 4000000 in
set_option maxRecDepth 100000 in
theorem printed_at (A : Option Addr) (c : Nat) (F : List Ex.Op) (w : World) (hA : OpsAt w w.heap.size A F) (hL : OpsLen F) (hS : Ex.Simple F) (h0 : Ex.check F = 0) (hfin : (Ex.prt F).length ≤ 256) (ha : (Ex.prt F).all (fun t => decide (t.text.length ≤ 3000)) = true) :
    Calls Tryz.prog 22 #[.slice A F.length c] w fun e w' => e = .returned (.string (str (Tok.textOf (Ex.prt F)))) ∧ Below w.heap.size w w' := by
  have hpr := print_simple A c F w hA hL hS h0 hfin
  have hlen := Lib.hid (len_of _ ha)
  clear ha
  go_enter Tryz.func22, Tryz.ntmps22
  go_wp2_with fail
  with_reducible refine hpr.mono ?_
  clear hpr
  rintro e w1 ⟨p, rfl, ht, hk, hb⟩
  have HT := Lib.hid ht
  rw [← ht] at hlen hfin
  have htx := qText_any _ p.c p.ts w1 (pt_tks hk) hfin hlen.out
  clear ht
  rw [Pt.v_def p]
  go_wp2_with fail
  with_reducible refine htx.mono ?_
  clear htx
  rintro e w2 ⟨rfl, hb2⟩
  go_wp2_with fail
  go_ret
  exact ⟨by rw [← HT.out]; rfl, hb.trans (hb2.mono hb.size)⟩
def F1 : List Ex.Op := [⟨2, [97], 0⟩, ⟨2, [98], 0⟩, ⟨1, [], 2⟩, ⟨6, [45], 0⟩, ⟨7, [42], 0⟩, ⟨7, [43], 0⟩]
def F2 : List Ex.Op := [⟨2, [120], 0⟩, ⟨5, [], 0⟩, ⟨3, [102], 2⟩]
def F3 : List Ex.Op := [⟨1, [], 2⟩, ⟨1, [], 3⟩, ⟨7, [42], 0⟩, ⟨2, [97], 0⟩, ⟨7, [43], 0⟩]
def F4 : List Ex.Op := [⟨2, [97], 0⟩, ⟨1, [], 2⟩, ⟨1, [], 3⟩, ⟨7, [42], 0⟩, ⟨7, [43], 0⟩]
def F5 : List Ex.Op := [⟨1, [], 7⟩, ⟨6, [45], 0⟩, ⟨1, [], 2⟩, ⟨7, [47], 0⟩]
def F6 : List Ex.Op := [⟨1, [], 7⟩, ⟨6, [45], 0⟩, ⟨1, [], 2⟩, ⟨7, [37], 0⟩]
def F7 : List Ex.Op := [⟨1, [], 1⟩, ⟨1, [], 2⟩, ⟨7, [43], 0⟩, ⟨2, [97], 0⟩, ⟨1, [], 3⟩, ⟨7, [45], 0⟩, ⟨7, [42], 0⟩]
def F8 : List Ex.Op := [⟨1, [], 1⟩, ⟨1, [], 2⟩, ⟨7, [42], 0⟩, ⟨2, [97], 0⟩, ⟨7, [43], 0⟩]
def F9 : List Ex.Op := [⟨2, [97], 0⟩, ⟨2, [98], 0⟩, ⟨2, [99], 0⟩, ⟨7, [45], 0⟩, ⟨7, [45], 0⟩]
theorem x1 : exF [97, 32, 43, 32, 98, 32, 42, 32, 45, 50] F1 := ⟨by kernel_rfl, by kernel_rfl, by decide +kernel, by kernel_rfl⟩
theorem x2 : exF [102, 40, 120, 44, 32, 105, 110, 40, 41, 41] F2 := ⟨by kernel_rfl, by kernel_rfl, by decide +kernel, by kernel_rfl⟩
theorem x3 : exF [50, 32, 42, 32, 51, 32, 43, 32, 97] F3 := ⟨by kernel_rfl, by kernel_rfl, by decide +kernel, by kernel_rfl⟩
theorem x4 : exF [97, 32, 43, 32, 50, 32, 42, 32, 51] F4 := ⟨by kernel_rfl, by kernel_rfl, by decide +kernel, by kernel_rfl⟩
theorem x5 : exF [45, 55, 32, 47, 32, 50] F5 := ⟨by kernel_rfl, by kernel_rfl, by decide +kernel, by kernel_rfl⟩
theorem x6 : exF [45, 55, 32, 37, 32, 50] F6 := ⟨by kernel_rfl, by kernel_rfl, by decide +kernel, by kernel_rfl⟩
theorem x7 : exF [40, 49, 32, 43, 32, 50, 41, 32, 42, 32, 40, 97, 32, 45, 32, 51, 41] F7 := ⟨by kernel_rfl, by kernel_rfl, by decide +kernel, by kernel_rfl⟩
theorem x8 : exF [40, 49, 32, 42, 32, 50, 41, 32, 43, 32, 97] F8 := ⟨by kernel_rfl, by kernel_rfl, by decide +kernel, by kernel_rfl⟩
theorem x9 : exF [97, 32, 45, 32, 40, 98, 32, 45, 32, 99, 41] F9 := ⟨by kernel_rfl, by kernel_rfl, by decide +kernel, by kernel_rfl⟩
def G3 : List Ex.Op := [⟨1, [], 6⟩, ⟨2, [97], 0⟩, ⟨7, [43], 0⟩]
def G4 : List Ex.Op := [⟨2, [97], 0⟩, ⟨1, [], 6⟩, ⟨7, [43], 0⟩]
theorem y3 : Ex.fold F3 = (G3, 0) := by kernel_rfl
theorem y4 : Ex.fold F4 = (G4, 0) := by kernel_rfl
theorem y5 : Ex.value F5 = (4294967293, true) := by kernel_rfl
theorem y6 : Ex.value F6 = (4294967295, true) := by kernel_rfl
theorem z3 : Tok.textOf (Ex.prt G3) = [54, 32, 43, 32, 97] := by kernel_rfl
theorem z4 : Tok.textOf (Ex.prt G4) = [97, 32, 43, 32, 54] := by kernel_rfl
theorem z7 : Tok.textOf (Ex.prt F7) = [40, 32, 49, 32, 43, 32, 50, 32, 41, 32, 42, 32, 40, 32, 97, 32, 45, 32, 51, 32, 41] := by kernel_rfl
theorem z8 : Tok.textOf (Ex.prt F8) = [49, 32, 42, 32, 50, 32, 43, 32, 97] := by kernel_rfl
theorem z9 : Tok.textOf (Ex.prt F9) = [97, 32, 45, 32, 40, 32, 98, 32, 45, 32, 99, 32, 41] := by kernel_rfl
end Go.Proofs.YtndehkoglgakpaaGreatDoor
