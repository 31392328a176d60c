/- writers, Writer.
Plain: the steps that are needed for a path.
slices.Reverse of numbers of the call's own.
needed, Needed. -/
import Derived.Test.YtjemffgidhgfjaaGreatDoorRkChk
import Derived.Test.YtjemffgidhgfjaaGreatDoorShelf
import Derived.Laws.IdiomCopy
import Derived.Shelf.SlSortFuncK.RowK2
import Derived.Deep.DeepAppendWide
section
namespace Go.Proofs.YtjemffgidhgfjaaGreatDoor.Rk
open Go.RowKit Go.Deep Go.Maps Tr

namespace Rc
/-- The step that writes a path, of the first k. -/
def wrtN (r : List Dn) : Nat → List UInt8 → Option Nat
  | 0, _ => none
  | k + 1, p => match r[k]? with | some s => if p = s.wr.pth then some k else wrtN r k p | none => wrtN r k p
def wr0 (r : List Dn) (p : List UInt8) : Option Nat := if chk r = 0 then wrtN r r.length p else none
def wrI (r : List Dn) (p : List UInt8) : Int := match wr0 r p with | some i => (i : Int) | none => -1
theorem wrtN_succ {r : List Dn} {k : Nat} {s : Dn} (h : r[k]? = some s) : wrtN r (k + 1) = fun p => if p = s.wr.pth then some k else wrtN r k p := funext fun p => by
  show (match r[k]? with | some s => if p = s.wr.pth then some k else wrtN r k p | none => wrtN r k p) = _
  rw [h]
theorem wrtN_some {r : List Dn} : ∀ {k : Nat} {p : List UInt8} {i : Nat}, wrtN r k p = some i → i < k ∧ ∃ s, r[i]? = some s ∧ s.wr.pth = p
  | k + 1, p, i, h => by
    unfold wrtN at h
    cases hs : r[k]? with
    | none =>
      rw [hs] at h
      obtain ⟨h1, h2⟩ := wrtN_some (k := k) h
      exact ⟨by omega, h2⟩
    | some s =>
      rw [hs] at h
      by_cases hp : p = s.wr.pth
      · simp only [if_pos hp] at h
        cases h
        exact ⟨by omega, s, hs, hp.symm⟩
      · simp only [if_neg hp] at h
        obtain ⟨h1, h2⟩ := wrtN_some (k := k) h
        exact ⟨by omega, h2⟩
theorem wrtN_none {r : List Dn} : ∀ {k : Nat} {p : List UInt8}, wrtN r k p = none → ∀ i s, i < k → r[i]? = some s → s.wr.pth ≠ p
  | k + 1, p, h, i, s, hi, hs => by
    unfold wrtN at h
    cases ht : r[k]? with
    | none =>
      rw [ht] at h
      by_cases e : i = k
      · subst e; rw [hs] at ht; cases ht
      · exact wrtN_none h i s (by omega) hs
    | some t =>
      rw [ht] at h
      by_cases hp : p = t.wr.pth
      · simp only [if_pos hp] at h; cases h
      · simp only [if_neg hp] at h
        by_cases e : i = k
        · subst e; rw [hs] at ht; cases ht; exact fun e => hp e.symm
        · exact wrtN_none h i s (by omega) hs
theorem wr0_some {r : List Dn} {p : List UInt8} {i : Nat} (h : wr0 r p = some i) : chk r = 0 ∧ i < r.length ∧ ∃ s, r[i]? = some s ∧ s.wr.pth = p := by
  unfold wr0 at h
  by_cases hc : chk r = 0
  · rw [if_pos hc] at h
    exact ⟨hc, wrtN_some h⟩
  · rw [if_neg hc] at h; cases h
end Rc
theorem zInt (w : World) : (zeroValue 3).run Tryz.prog w = .ok (.int .i64 0) w := by kernel_rfl
/-- A map of numbers, at whatever comes. -/
def MapV (w : World) (v : Value) (G : List UInt8 → Option Nat) : Prop := ∀ w', Below w.heap.size w w' → ∀ p : List UInt8, p.length ≤ maxLen → (Instr.lookup 60 v (.string (str p)) true).run Tryz.prog w' = .ok (.tuple #[.int .i64 (((G p).getD 0 : Nat) : Int), .bool (G p).isSome]) w'
theorem MapV.next {w w' : World} {v : Value} {G : List UInt8 → Option Nat} (h : MapV w v G) (hb : Below w.heap.size w w') : MapV w' v G := fun w2 hb2 p hp => h w2 (hb.trans (hb2.mono hb.size)) p hp
theorem MapV.of_mp {w : World} {b n : Nat} {G : List UInt8 → Option Nat} (h : Mp w b n fun p => (G p).map fun i => .int .i64 (i : Int)) : MapV w (.map (some b)) G := fun w' hb p hp => by
  rw [(h.next hb).look Tryz.underlying60 (zInt _) p hp]
  cases G p <;> rfl
theorem MapV.nil (w : World) : MapV w (.map none) fun _ => none := fun _ _ p hp => nil_look Tryz.underlying60 (zInt _) p hp
set_option maxHeartbeats 8000000 in
set_option maxRecDepth 100000 in
theorem writers_any (r : List Dn) (A : Option Addr) (c : Nat) (w : World) (hA : RcAt w A r) (hS : r.length ≤ 1024 → Sht r) (hM : MaxAt w) :
    Calls Tryz.prog 58 #[.slice A r.length c] w fun e w' => ∃ v, e = .returned v ∧ MapV w' v (Rc.wr0 r) ∧ Below w.heap.size w w' := by
  have HA := Lib.hid hA
  have cc := check_any r A c w hA hS hM
  by_cases hz : Rc.chk r = 0
  · rw [hz] at cc
    have HS := Lib.hid (hS (Rc.zero_chk hz).1)
    have hL := (Rc.zero_chk hz).1
    have HW := Lib.hid (show Rc.wr0 r = Rc.wrtN r r.length from funext fun p => by unfold Rc.wr0; rw [if_pos hz])
    have hmm := @run_makeMap Tryz.prog
    clear hA hS hM hz
    go_enter Tryz.func58, Tryz.ntmps58
    go_wp2_with fail
    with_reducible refine cc.mono ?_
    clear cc
    rintro e w1 ⟨rfl, hb1⟩
    go_wp2_with fail
    obtain ⟨b, hb⟩ : ∃ b, b = w1.heap.size := ⟨_, rfl⟩
    obtain ⟨W, hW⟩ : ∃ W, W = w1.alloc (.map #[] 0) := ⟨_, rfl⟩
    have hm0 := Mp.made w1
    have hbW : Below w.heap.size w (w1.alloc (.map #[] 0)) := hb1.alloc hb1.size _
    have HBb := Lib.hid (show w.heap.size ≤ b by rw [hb]; exact hb1.size)
    have hbs : b < (w1.alloc (.map #[] 0)).heap.size := by rw [hb]; simp
    rw [← hW] at hm0 hbW hbs
    rw [← hW]
    rw [← hb] at hm0
    rw [← hb]
    clear hW hb hb1
    have HBW := Lib.hid hbW
    have HBS := Lib.hid hbs
    clear hbW hbs
    go_loopw [12] (fun s11 wr => ∃ k : Nat, s11 = .int .i64 k ∧ k ≤ r.length ∧ Mp wr b k (fun p => (Rc.wrtN r k p).map fun i => .int .i64 (i : Int)) ∧ Kp b W wr) (fun s11 _ => r.length - (intOf s11).toNat)
    case atStart => exact ⟨0, rfl, Nat.zero_le _, hm0, Kp.refl _ _⟩
    case round =>
      obtain ⟨k, rfl, hk, hmp, hkp⟩ := hrel
      have hbw : Below w.heap.size w wr := HBW.out.trans (hkp.below HBb.out HBW.out.size)
      by_cases hlt : k < r.length
      · have c1 : decide ((k : Int) < (r.length : Int)) = true := decide_eq_true (by omega)
        have c1n : decide (k < r.length) = true := decide_eq_true hlt
        have y2 : (k : Int) < (r.length : Int) := by omega
        obtain ⟨g0, o, rfl, hg, hc⟩ := (HA.out.next hbw).st k hlt
        have hd0 := hc 0 _ rfl
        have hd1 := hc 1 _ rfl
        have hd2 := hc 2 _ rfl
        have hd3 := hc 3 _ rfl
        have hd4 := hc 4 _ rfl
        have hd5 := hc 5 _ rfl
        rw [show o + k * 6 + 0 = o + k * 6 from rfl] at hd0
        clear hc
        have HP := Lib.hid (HS.out.p r[k] (List.getElem_mem hlt) r[k].wr (List.mem_append_right _ (List.mem_singleton.2 rfl)))
        have HN := Lib.hid (Rc.wrtN_succ (r := r) (k := k) (List.getElem?_eq_getElem hlt))
        generalize r[k] = x at *
        have hbx : Below wr.heap.size wr (wr.alloc (dnO x)) := (Below.refl _ _).alloc (Nat.le_refl _) _
        obtain ⟨w3, hrun, hMp, hg3⟩ := (hmp.next hbx).store Tryz.underlying60 (by unfold maxLen; omega) x.wr.pth (by have := HP.out; unfold maxLen; omega) (.int .i64 (k : Int))
        have HMp := Lib.hid (show Mp w3 b (k + 1) fun p => (Rc.wrtN r (k + 1) p).map fun i => .int .i64 (i : Int) by
          rw [HN.out]
          have : (fun p => (if p = x.wr.pth then some k else Rc.wrtN r k p).map fun i => Value.int .i64 (i : Int)) = fun q => if q = x.wr.pth then some (Value.int .i64 (k : Int)) else (Rc.wrtN r k q).map fun i => .int .i64 (i : Int) := funext fun q => by
            by_cases h : q = x.wr.pth
            · rw [if_pos h, if_pos h]; rfl
            · rw [if_neg h, if_neg h]
          rw [this]; exact hMp)
        have HK3 := Lib.hid (hkp.trans ((Kp.of_below (b := b) hbx).trans (Kp.of_grown hg3)))
        clear hMp hg3 hmp hkp hbx hbw
        go_wp2_with fail
        go_roundw
        case rel => exact ⟨k + 1, by go_num, by omega, HMp.out, HK3.out⟩
        case measure => simp [intOf]; omega
      · have c1 : decide ((k : Int) < (r.length : Int)) = false := decide_eq_false (by omega)
        have c1n : decide (k < r.length) = false := decide_eq_false hlt
        have hkk : k = r.length := by omega
        subst hkk
        have HV := Lib.hid (show MapV wr (.map (some b)) (Rc.wr0 r) by rw [HW.out]; exact MapV.of_mp hmp)
        have HB := Lib.hid hbw
        clear hmp hkp hbw
        go_wp2_with fail
        go_ret
        exact ⟨_, rfl, HV.out, HB.out⟩
  · generalize hce : Rc.chk r = ce at *
    have z1 : (ce != 0) = true := by rw [bne_iff_ne]; exact hz
    have z2 : (ce == 0) = false := by rw [beq_eq_false_iff_ne]; exact hz
    have HW := Lib.hid (show Rc.wr0 r = fun _ => none from funext fun p => by unfold Rc.wr0; rw [hce, if_neg hz])
    clear hA hS hM hz hce
    go_enter Tryz.func58, Tryz.ntmps58
    go_wp2_with fail
    with_reducible refine cc.mono ?_
    clear cc
    rintro e w1 ⟨rfl, hb1⟩
    have HB := Lib.hid hb1
    clear hb1
    go_wp2_with fail
    go_ret
    exact ⟨_, rfl, by rw [HW.out]; exact MapV.nil _, HB.out⟩
set_option maxHeartbeats 2000000 in
set_option maxRecDepth 100000 in
theorem writer_any (r : List Dn) (p : List UInt8) (A : Option Addr) (c : Nat) (w : World) (hA : RcAt w A r) (hS : r.length ≤ 1024 → Sht r) (hM : MaxAt w) (hp : p.length ≤ maxLen) :
    Calls Tryz.prog 20 #[.slice A r.length c, .string (str p)] w fun e w' => e = .returned (.int .i64 (Rc.wrI r p)) ∧ Below w.heap.size w w' := by
  have HV := Lib.hid (show Rc.wrI r p = match Rc.wr0 r p with | some i => (i : Int) | none => -1 from rfl)
  generalize Rc.wrI r p = V at *
  have cc := writers_any r A c w hA hS hM
  go_enter Tryz.func20, Tryz.ntmps20
  go_wp2_with fail
  with_reducible refine cc.mono ?_
  clear cc
  rintro e w1 ⟨v, rfl, hv, hb1⟩
  have hl := hv w1 (Below.refl _ _) p hp
  have HB := Lib.hid hb1
  clear hv hb1 hA hS hM
  cases hq : Rc.wr0 r p with
  | none =>
    rw [hq] at hl
    rw [show ((Option.getD (none : Option Nat) 0 : Nat) : Int) = 0 from rfl, show (none : Option Nat).isSome = false from rfl] at hl
    have HT := Lib.hid (show V = -1 by rw [HV.out, hq])
    clear hq HV
    go_wp2_with fail
    go_ret
    exact ⟨by rw [HT.out]; rfl, HB.out⟩
  | some i =>
    rw [hq] at hl
    rw [show ((Option.getD (some i : Option Nat) 0 : Nat) : Int) = (i : Int) from rfl, show (some i).isSome = true from rfl] at hl
    have HT := Lib.hid (show V = (i : Int) by rw [HV.out, hq])
    clear hq HV
    go_wp2_with fail
    go_ret
    exact ⟨by rw [HT.out]; rfl, HB.out⟩
end Go.Proofs.YtjemffgidhgfjaaGreatDoor.Rk
end
section
namespace Go.Proofs.YtjemffgidhgfjaaGreatDoor.Rk
open Tr

namespace Rc
inductive Ned (r : List Dn) (p : List UInt8) : Nat → Prop
  | base {i : Nat} : wr0 r p = some i → Ned r p i
  | step {i j : Nat} {s : Dn} {t : Tch} : Ned r p j → r[j]? = some s → t ∈ s.rds → wr0 r t.pth = some i → Ned r p i
/-- What is read was written before. -/
theorem rd_lt {r : List Dn} {j i : Nat} {s : Dn} {t : Tch} (hs : r[j]? = some s) (ht : t ∈ s.rds) (hw : wr0 r t.pth = some i) : i < j := by
  obtain ⟨hc, hi, s', hs', hp⟩ := wr0_some hw
  refine Classical.byContradiction fun hn => ?_
  obtain ⟨_, hst⟩ := zero_chk hc
  have hz := hst i hi
  have e1 : r[i] = s' := by rw [List.getElem?_eq_getElem hi] at hs'; exact Option.some.inj hs'
  rw [e1] at hz
  have hk : s'.rds.length < (tcs s').length := by rw [tcs_len]; omega
  have h2 := (zero_step hz).2 s'.rds.length hk
  have hget : (tcs s')[s'.rds.length]'hk = s'.wr := by unfold tcs; exact List.getElem_concat_length rfl _
  rw [hget] at h2
  have hcond : (among s'.rds s'.rds.length s'.wr.pth || (decide (s'.rds.length = s'.rds.length) && (touched r i s'.wr.pth).isSome)) = true := by
    rw [Bool.or_eq_true]
    by_cases hji : j = i
    · subst hji
      rw [hs] at hs'
      cases hs'
      left
      unfold among
      rw [List.take_length, List.any_eq_true]
      exact ⟨t, ht, by rw [hp]; simp⟩
    · right
      rw [decide_eq_true rfl, Bool.true_and]
      unfold touched
      rw [Option.isSome_map, List.find?_isSome]
      obtain ⟨hjl, e2⟩ := List.getElem?_eq_some_iff.1 hs
      refine ⟨t, List.mem_flatMap.2 ⟨s, List.mem_take_iff_getElem.2 ⟨j, by omega, e2⟩, ?_⟩, by rw [hp]; simp⟩
      unfold tcs
      exact List.mem_append_left _ ht
  unfold tchE at h2
  by_cases c1 : (!Tre.pathOk s'.wr.pth) = true
  · rw [if_pos c1] at h2; cases h2
  · rw [if_neg c1] at h2
    by_cases c2 : s'.wr.dig.length ≠ 32
    · rw [if_pos c2] at h2; cases h2
    · rw [if_neg c2, if_pos hcond] at h2; cases h2
theorem ned_le {r : List Dn} {p : List UInt8} {last : Nat} (h0 : wr0 r p = some last) {i : Nat} (h : Ned r p i) : i ≤ last := by
  induction h with
  | base h => rw [h0] at h; cases h; exact Nat.le_refl _
  | step _ hs ht hw ih => have := rd_lt hs ht hw; omega
theorem ned_none {r : List Dn} {p : List UInt8} (h0 : wr0 r p = none) {i : Nat} (h : Ned r p i) : False := by
  induction h with
  | base h => rw [h0] at h; cases h
  | step _ _ _ _ ih => exact ih
/-- The marks when the steps from k on were looked at. -/
def Mk (r : List Dn) (last : Nat) (nb : Nat → Bool) (k : Nat) (M : Nat → Bool) : Prop := ∀ m, m ≤ last → (M m = true ↔ (m = last ∨ ∃ j s t, k ≤ j ∧ j ≤ last ∧ nb j = true ∧ r[j]? = some s ∧ t ∈ s.rds ∧ wr0 r t.pth = some m))
theorem Mk.init (r : List Dn) (last : Nat) (nb : Nat → Bool) : Mk r last nb (last + 1) fun m => decide (m = last) := fun m _ => by
  rw [decide_eq_true_eq]
  exact ⟨.inl, fun h => h.elim id fun ⟨j, _, _, h1, h2, _⟩ => by omega⟩
theorem Mk.at {r : List Dn} {p : List UInt8} {last : Nat} {nb : Nat → Bool} {i : Nat} {M : Nat → Bool} (h0 : wr0 r p = some last) (hnb : ∀ j, nb j = true ↔ Ned r p j) (h : Mk r last nb (i + 1) M) (hi : i ≤ last) : M i = nb i := by
  rw [Bool.eq_iff_iff, h i hi, hnb i]
  constructor
  · rintro (rfl | ⟨j, s, t, _, _, hj, hs, ht, hw⟩)
    · exact .base h0
    · exact .step ((hnb j).1 hj) hs ht hw
  · intro hn
    cases hn with
    | base h => rw [h0] at h; cases h; exact .inl rfl
    | step hj hs ht hw => exact .inr ⟨_, _, _, rd_lt hs ht hw, ned_le h0 hj, (hnb _).2 hj, hs, ht, hw⟩
theorem Mk.skip {r : List Dn} {last : Nat} {nb : Nat → Bool} {i : Nat} {M : Nat → Bool} (h : Mk r last nb (i + 1) M) (hn : nb i = false) : Mk r last nb i M := fun m hm => by
  rw [h m hm]
  refine or_congr Iff.rfl ⟨fun ⟨j, s, t, h1, h2⟩ => ⟨j, s, t, by omega, h2⟩, fun ⟨j, s, t, h1, h2, h3, h4⟩ => ⟨j, s, t, ?_, h2, h3, h4⟩⟩
  by_cases e : j = i
  · subst e; rw [hn] at h3; cases h3
  · omega
theorem Mk.take {r : List Dn} {last : Nat} {nb : Nat → Bool} {i : Nat} {M M' : Nat → Bool} {s : Dn} (h : Mk r last nb (i + 1) M) (hi : i ≤ last) (hs : r[i]? = some s) (hn : nb i = true) (hM : ∀ m, M' m = true ↔ (M m = true ∨ ∃ t ∈ s.rds, wr0 r t.pth = some m)) : Mk r last nb i M' := fun m hm => by
  rw [hM m, h m hm]
  constructor
  · rintro ((rfl | ⟨j, s, t, h1, h2⟩) | ⟨t, ht, hw⟩)
    · exact .inl rfl
    · exact .inr ⟨j, s, t, by omega, h2⟩
    · exact .inr ⟨i, s, t, Nat.le_refl _, hi, hn, hs, ht, hw⟩
  · rintro (rfl | ⟨j, s2, t, h1, h2, h3, h4, h5, h6⟩)
    · exact .inl (.inl rfl)
    · by_cases e : j = i
      · subst e; rw [hs] at h4; cases h4; exact .inr ⟨t, h5, h6⟩
      · exact .inl (.inr ⟨j, s2, t, by omega, h2, h3, h4, h5, h6⟩)
/-- The marked ones from k on. -/
def nds (nb : Nat → Bool) (k n : Nat) : List Nat := (List.range' k n).filter nb
theorem nds_cons (nb : Nat → Bool) (k n : Nat) : nds nb k (n + 1) = if nb k = true then k :: nds nb (k + 1) n else nds nb (k + 1) n := by
  unfold nds
  rw [List.range'_succ, List.filter_cons]
theorem nds_len (nb : Nat → Bool) (k n : Nat) : (nds nb k n).length ≤ n := by
  unfold nds
  have := List.length_filter_le nb (List.range' k n)
  rwa [List.length_range'] at this
theorem nds_mem {nb : Nat → Bool} {k n i : Nat} : i ∈ nds nb k n ↔ (k ≤ i ∧ i < k + n ∧ nb i = true) := by
  unfold nds
  rw [List.mem_filter, List.mem_range'_1, and_assoc]
theorem nds_asc (nb : Nat → Bool) (k n : Nat) : (nds nb k n).Pairwise (· < ·) := List.Pairwise.filter _ List.pairwise_lt_range'
def nats (l : List Nat) : List Int := l.map fun (n : Nat) => (n : Int)
theorem nats_len (l : List Nat) : (nats l).length = l.length := by unfold nats; simp
theorem nats_app (a b : List Nat) : nats (a ++ b) = nats a ++ nats b := List.map_append
/-- The needed steps, in order. -/
def NdL (r : List Dn) (p : List UInt8) (L : List Nat) : Prop := L.Pairwise (· < ·) ∧ ∀ i, i ∈ L ↔ Ned r p i
theorem NdL.none {r : List Dn} {p : List UInt8} (h0 : wr0 r p = none) : NdL r p [] := ⟨List.Pairwise.nil, fun i => ⟨fun h => (by cases h), fun h => (ned_none h0 h).elim⟩⟩
theorem NdL.of {r : List Dn} {p : List UInt8} {last : Nat} {nb : Nat → Bool} (h0 : wr0 r p = some last) (hnb : ∀ j, nb j = true ↔ Ned r p j) : NdL r p (nds nb 0 (last + 1)) := ⟨nds_asc _ _ _, fun i => by
  rw [nds_mem, hnb i]
  exact ⟨fun h => h.2.2, fun h => ⟨Nat.zero_le _, by have := ned_le h0 h; omega, h⟩⟩⟩
end Rc
end Go.Proofs.YtjemffgidhgfjaaGreatDoor.Rk
end
section
namespace Go.Proofs.YtjemffgidhgfjaaGreatDoor.Rk
open Go.RowKit Go.Deep Tr

theorem in_of {w : World} {B g o : Nat} {l : List Int} (hg : g < B) (h : ∀ j (hj : j < l.length), w.cell? ⟨g, o + j, none⟩ = some (.int .i64 l[j])) : Rc.InAt w B (some ⟨g, o, none⟩) l := fun j hj => ⟨g, o, rfl, hg, fun i u hu => by
  cases i with
  | succ i => simp [Rc.inV] at hu
  | zero =>
    have e : u = .int .i64 l[j] := by simpa [Rc.inV] using hu.symm
    rw [e, Nat.mul_one, Nat.add_zero]
    exact h j hj⟩
theorem in_cell {w : World} {B : Nat} {A : Option Addr} {l : List Int} (h : Rc.InAt w B A l) {k : Nat} (hk : k < l.length) : ∃ g o, A = some ⟨g, o, none⟩ ∧ g < B ∧ w.cell? ⟨g, o + k, none⟩ = some (.int .i64 l[k]) := by
  obtain ⟨g, o, e, hg, hc⟩ := h k hk
  have := hc 0 _ rfl
  rw [Nat.mul_one] at this
  exact ⟨g, o, e, hg, this⟩
theorem below_sets {B : Nat} {a : World} (b : Nat) (hb : B ≤ b) : ∀ (vs : List Value) (o : Nat) {w : World}, Below B a w → Below B a (w.setCells b o vs)
  | [], _, _, h => h
  | v :: r, o, _, h => below_sets b hb r (o + 1) (h.setCell (p := ⟨b, o, none⟩) hb v)
theorem reverse_any (L : List Int) (v : Value) (B : Nat) (w : World) (h : w.ownsRow B 3 1 v L.length (Rc.insV L)) (hl : L.length ≤ 100000) :
    Calls Tryz.prog 93 #[v] w fun e w' => e = .returned (.tuple #[]) ∧ (∃ A c, v = .slice A L.length c ∧ Rc.InAt w' w'.heap.size A L.reverse) ∧ Below B w w' := by
  rcases h.2 with ⟨rfl, h0⟩ | ⟨g, cap, cur, rfl, hb, hg, h1, h2, h3, h4⟩
  · have hL : L = [] := List.length_eq_zero_iff.1 h0
    subst hL
    refine (Tryz.slices_Reverse_int_empty none 0 w).mono ?_
    rintro e w' ⟨rfl, rfl⟩
    exact ⟨rfl, ⟨none, 0, rfl, Rc.ElAt.nil _ _ _ _ _⟩, Below.refl _ _⟩
  · have hrow : w.rowIs g 3 (cap * 1) (fun i => (cur[i]?).getD default) := ⟨cur, hg, h3, fun i hi => by
      show cur[i]? = some ((cur[i]?).getD default)
      rw [Array.getElem?_eq_getElem (show i < cur.size by omega)]; rfl⟩
    have hcell : ∀ j, j < L.length → w.cell? ⟨g, 0 + j, none⟩ = some (.int .i64 (L.getD j 0)) := fun j hj => by
      have h5 := h.cellAt j (by omega)
      rw [Nat.zero_add, h5, Rc.insV_map, List.getElem?_map, List.getElem?_eq_getElem hj, List.getD_eq_getElem?_getD, List.getElem?_eq_getElem hj]
      rfl
    refine (Tryz.slices_Reverse_int_cells g 0 L.length cap L w (Nat.le_refl _) (by omega) hcell (fun j hj => by rw [Nat.zero_add]; exact hrow.frozen j)).mono ?_
    rintro e w' ⟨rfl, q, rfl⟩
    rw [List.take_length]
    have hbq : Below B w (w.drewN q) := below_drewN (Below.refl _ _) q
    refine ⟨rfl, ⟨_, _, rfl, in_of (by rw [Go.Sort.size_setCells]; exact blk_lt hg) fun j hj => ?_⟩, below_sets g hb _ 0 hbq⟩
    rw [World.cell?_setCells_in g ((L.reverse).map (Value.int .i64)) 0 (w.drewN q) (fun j hj => by
      rw [List.length_map, List.length_reverse] at hj
      have : (w.drewN q).cell? ⟨g, 0 + j, none⟩ = w.cell? ⟨g, 0 + j, none⟩ := rfl
      rw [this, hcell j hj]; rfl) j (by simpa using hj)]
    rw [List.getElem_map]
end Go.Proofs.YtjemffgidhgfjaaGreatDoor.Rk
end
section
namespace Go.Proofs.YtjemffgidhgfjaaGreatDoor.Rk
open Go.RowKit Go.Deep Go.Maps Tr

/-- A list of numbers comes back. -/
def GotN (w : World) (P : List Nat → Prop) (e : Ending) (w' : World) : Prop := ∃ (L : List Nat) (A : Option Addr) (c : Nat), e = .returned (.slice A L.length c) ∧ P L ∧ L.length ≤ 1024 ∧ Rc.InAt w' w'.heap.size A (Rc.nats L) ∧ Below w.heap.size w w'
theorem infoBl : (Tryz.prog.info? 4).map (fun i => (i.zero, i.size, i.bytes)) = some (some (.bool false), 1, 1) := by kernel_rfl
set_option maxHeartbeats 8000000 in
set_option maxRecDepth 100000 in
theorem needed_any (r : List Dn) (p : List UInt8) (A : Option Addr) (c : Nat) (v : Value) (w : World) (hA : RcAt w A r) (hS : r.length ≤ 1024 → Sht r) (hp : p.length ≤ maxLen) (hv : MapV w v (Rc.wr0 r)) :
    Calls Tryz.prog 59 #[.slice A r.length c, v, .string (str p)] w (GotN w (Rc.NdL r p)) := by
  have hl := hv w (Below.refl _ _) p hp
  cases hq : Rc.wr0 r p with
  | none =>
    rw [hq] at hl
    rw [show ((Option.getD (none : Option Nat) 0 : Nat) : Int) = 0 from rfl, show (none : Option Nat).isSome = false from rfl] at hl
    have HT := Lib.hid (Rc.NdL.none hq)
    clear hq hA hS hv
    go_enter Tryz.func59, Tryz.ntmps59
    go_wp2_with fail
    go_ret
    exact ⟨[], none, 0, rfl, HT.out, by simp, Rc.ElAt.nil _ _ _ _ _, Below.refl _ _⟩
  | some last =>
    rw [hq] at hl
    rw [show ((Option.getD (some last : Option Nat) 0 : Nat) : Int) = (last : Int) from rfl, show (some last).isSome = true from rfl] at hl
    obtain ⟨hch, hlast, _⟩ := Rc.wr0_some hq
    have hL := (Rc.zero_chk hch).1
    have HS := Lib.hid (hS hL)
    obtain ⟨nb, hnb⟩ : ∃ nb : Nat → Bool, ∀ j, nb j = true ↔ Rc.Ned r p j := ⟨fun j => @decide (Rc.Ned r p j) (Classical.propDecidable _), fun j => by rw [@decide_eq_true_iff _ (Classical.propDecidable _)]⟩
    have HNB := Lib.hid hnb
    have HQ := Lib.hid hq
    have HA := Lib.hid hA
    have HV := Lib.hid hv
    obtain ⟨g0, o, rfl, hg, hcr⟩ := hA.st.row (by omega)
    have HCR := Lib.hid hcr
    have HZ := Lib.hid (show ∀ i (h : i < r.length), 0 < r[i].rds.length ∧ r[i].rds.length ≤ 1024 from fun i h => Rc.head_len (Rc.zero_step ((Rc.zero_chk hch).2 i h)).1)
    clear hcr
    obtain ⟨i0, hi0, hz0, hz1, hz2⟩ := info_parts infoBl
    obtain ⟨i1, hj0, hx0, hx1, hx2⟩ := info_parts infoIn
    have wj : IntKind.i64.wrap ((last : Int) + 1) = ((last + 1 : Nat) : Int) := (IntWalk.i64_in _ (by omega)).trans (by omega)
    have hmk : (Instr.makeSlice 129 (.int .i64 ((last + 1 : Nat) : Int)) (.int .i64 ((last + 1 : Nat) : Int))).run Tryz.prog w = .ok (.slice (some ⟨w.heap.size, 0, none⟩) (last + 1) (last + 1)) (w.alloc (.cells (madeCells #[.bool false] (last + 1)) 4)) :=
      run_make_row (P := Tryz.prog) 129 4 i0 (.bool false) Tryz.underlying129 hi0 hz0 hz1 rfl .i64 .i64 (last + 1) (by rw [hz2]; omega) (by omega) w
    rw [show ((last + 1 : Nat) : Int) = (last : Int) + 1 from rfl] at hmk wj
    have hr0 := World.rowIs_made w (.bool false) (last + 1) 4
    have hr1 := (hr0.set last (.bool true)).congr (g := fun m => .bool (decide (m = last))) fun i _ => by
      by_cases e : i = last
      · rw [if_pos e, decide_eq_true e]
      · rw [if_neg e, decide_eq_false e]
    have f0 := hr0.frozen last
    have e0 := hr0.cell (show last < last + 1 by omega)
    have y0 : (last : Int) < (last : Int) + 1 := by omega
    clear hq hnb hA hS hv hch
    go_enter Tryz.func59, Tryz.ntmps59
    go_wp2_with fail
    have hb1 : Below w.heap.size w (w.alloc (.cells ((madeCells #[.bool false] (last + 1)).setIfInBounds last (.bool true)) 4)) := (Below.refl _ _).alloc (Nat.le_refl _) _
    have hs1 : (w.alloc (.cells ((madeCells #[.bool false] (last + 1)).setIfInBounds last (.bool true)) 4)).heap.size = w.heap.size + 1 := by simp
    have hr2 : (w.alloc (.cells ((madeCells #[.bool false] (last + 1)).setIfInBounds last (.bool true)) 4)).rowIs w.heap.size 4 (last + 1) (fun m => .bool (decide (m = last))) := by
      have hsz1 : (madeCells #[Value.bool false] (last + 1)).size = last + 1 := by simp [madeCells]
      have h1 := World.rowIs_alloc w ((madeCells #[.bool false] (last + 1)).setIfInBounds last (.bool true)) 4 (fun m => .bool (decide (m = last))) (fun i hi => by
        rw [Array.size_setIfInBounds, hsz1] at hi
        rw [Array.getElem?_setIfInBounds]
        by_cases e : last = i
        · rw [if_pos e, if_pos (by rw [hsz1]; omega), decide_eq_true e.symm]
        · rw [if_neg e, decide_eq_false (fun h => e h.symm)]
          simp [madeCells, hi, Nat.mod_one])
      rw [Array.size_setIfInBounds, hsz1] at h1
      exact h1
    clear hr0 hr1 f0 e0 hmk y0 hl
    generalize w.alloc (.cells ((madeCells #[.bool false] (last + 1)).setIfInBounds last (.bool true)) 4) = W at *
    obtain ⟨gn, hgn⟩ : ∃ gn, gn = w.heap.size := ⟨_, rfl⟩
    rw [← hgn] at hr2
    rw [← hgn]
    have HG := Lib.hid hgn
    obtain ⟨Bc, hBc⟩ : ∃ Bc, Bc = gn + 1 := ⟨_, rfl⟩
    have HBc := Lib.hid hBc
    have hBW : Bc ≤ W.heap.size := by omega
    clear hgn hBc hs1
    go_loopw [10, 11] (fun s10 s11 wr => ∃ (k : Nat) (M : Nat → Bool), s11 = .int .i64 ((k : Int) - 1) ∧ k ≤ last + 1 ∧ wr.rowIs gn 4 (last + 1) (fun m => .bool (M m)) ∧ Rc.Mk r last nb k M ∧ wr.ownsRow Bc 3 1 s10 (Rc.nds nb k (last + 1 - k)).length (Rc.insV (Rc.nats (Rc.nds nb k (last + 1 - k)).reverse)) ∧ Below w.heap.size w wr ∧ Bc ≤ wr.heap.size) (fun _ s11 _ => (intOf s11 + 1).toNat)
    case atStart =>
      refine ⟨last + 1, _, by go_num, Nat.le_refl _, hr2, Rc.Mk.init r last nb, ?_, hb1, hBW⟩
      rw [Nat.sub_self]
      exact World.ownsRow_nil _ _ _ _
    case round =>
      clear hr2 hb1 hBW
      obtain ⟨k, M, hs11, hk, hrow, hmk, hown, hb, hsz⟩ := hrel
      cases k with
      | zero =>
        subst hs11
        have q1 : decide ((0 : Int) ≤ ((0 : Nat) : Int) - 1) = false := by decide
        have HM := Lib.hid (Rc.NdL.of HQ.out HNB.out)
        have HO := Lib.hid hown
        have HB := Lib.hid hb
        have HLn := Lib.hid (Rc.nds_len nb 0 (last + 1))
        clear hrow hmk
        rw [show last + 1 - 0 = last + 1 from rfl] at hown
        have hlr : (Rc.nats (Rc.nds nb 0 (last + 1)).reverse).length = (Rc.nds nb 0 (last + 1)).length := by rw [Rc.nats_len, List.length_reverse]
        rw [← hlr] at hown
        have cr := reverse_any _ _ _ _ hown (by rw [hlr]; have := HLn.out; omega)
        rw [hlr] at cr
        clear hown hb HO
        go_wp2_with fail
        with_reducible refine cr.mono ?_
        clear cr
        rintro e w5 ⟨rfl, ⟨A5, c5, rfl, hin⟩, hb5⟩
        have HI := Lib.hid (show Rc.InAt w5 w5.heap.size A5 (Rc.nats (Rc.nds nb 0 (last + 1))) by
          have : (Rc.nats (Rc.nds nb 0 (last + 1)).reverse).reverse = Rc.nats (Rc.nds nb 0 (last + 1)) := by unfold Rc.nats; rw [List.map_reverse, List.reverse_reverse]
          rw [this] at hin; exact hin)
        have HB5 := Lib.hid (HB.out.trans (hb5.mono (by rw [HBc.out, HG.out]; omega)))
        clear hin hb5
        go_wp2_with fail
        go_ret
        exact ⟨_, A5, c5, rfl, HM.out, by have := HLn.out; omega, HI.out, HB5.out⟩
      | succ i =>
        rw [show (((i + 1 : Nat) : Int) - 1) = (i : Int) by omega] at hs11
        subst hs11
        have hil : i ≤ last := by omega
        have hMi := hmk.at HQ.out HNB.out hil
        have e1 := hrow.cell (show i < last + 1 by omega)
        rw [hMi] at e1
        have y1 : (i : Int) < (last : Int) + 1 := by omega
        have wi : IntKind.i64.wrap ((i : Int) - 1) = (i : Int) - 1 := IntWalk.i64_in _ (by omega)
        have HO := Lib.hid hown
        have HR := Lib.hid hrow
        have HB := Lib.hid hb
        have HK := Lib.hid hmk
        have hnc := Rc.nds_cons nb i (last - i)
        rw [show last - i + 1 = last + 1 - i by omega, show last - i = last + 1 - (i + 1) by omega] at hnc
        clear hown hrow hb hmk hMi
        cases hn : nb i with
        | false =>
          rw [hn] at e1
          rw [hn, if_neg (by decide)] at hnc
          have HK2 := Lib.hid (HK.out.skip hn)
          have HNC := Lib.hid hnc
          clear hnc hn
          go_wp2_with fail
          go_roundw
          case rel => exact ⟨i, M, rfl, by omega, HR.out, HK2.out, by rw [HNC.out]; exact HO.out, HB.out, hsz⟩
          case measure => simp [intOf]
        | true =>
          rw [hn] at e1
          rw [hn, if_pos rfl] at hnc
          have HNC := Lib.hid hnc
          have HNT := Lib.hid hn
          have hir : i < r.length := by omega
          have y2 : (i : Int) < (r.length : Int) := by omega
          have hxz := HZ.out i hir
          obtain ⟨g1, o1, hxA, hg1, hc1⟩ := (HA.out.rd r[i] (List.getElem_mem hir)).row hxz.1
          have HC1 := Lib.hid hc1
          have hd3 := HCR.out i hir 3 _ rfl
          rw [hxA] at hd3
          have HX := Lib.hid (show r[i]? = some r[i] from List.getElem?_eq_getElem hir)
          have HSP := Lib.hid (show ∀ t ∈ r[i].rds, t.pth.length ≤ 100000000 from fun t ht => HS.out.p r[i] (List.getElem_mem hir) t (List.mem_append_left _ ht))
          clear hxA hc1
          generalize r[i] = x at *
          have hLn := Rc.nds_len nb (i + 1) (last + 1 - (i + 1))
          have hsa : Bc ≤ (wr.alloc (.cells #[.int .i64 i] 3)).heap.size := by simp; omega
          have HOA := Lib.hid (HO.out.alloc (.cells #[.int .i64 (i : Int)] 3))
          have HRA := Lib.hid (HR.out.alloc (.cells #[.int .i64 (i : Int)] 3))
          have HBA := Lib.hid (HB.out.alloc HB.out.size (.cells #[.int .i64 (i : Int)] 3))
          clear hnc hn
          go_wp2_with (at_builtin; refine wpList_append_own_wide _ (by rfl) _ _ 38 (by rfl) Bc 3 i1 _ 1 8 Tryz.underlying38 hj0 hx0 hx1 hx2 rfl (by omega) _ (Rc.nds nb (i + 1) (last + 1 - (i + 1))).length _ (by rfl) HOA.out ⟨wr.heap.size, 0, none⟩ 1 1 [_] (by rfl) (by rfl) (World.news_of_block (cs := #[_]) (t := 3) (fr := (0, 0)) (heap_alloc_new wr _)) (by simp [Value.oneCell']) (by unfold maxLen; omega) (by omega) hsa ?_; intro v7 w7 hown7 hgrow7 _; have HB7 := Lib.hid (below_grown HBA.out HBA.out.size (own_mono HOA.out (show w.heap.size ≤ Bc by rw [HBc.out, HG.out]; omega)) hgrow7); have HR7 := Lib.hid (HRA.out.of_block (hgrow7.block gn HRA.out.lt (fun e => by have := (HOA.out.lt gn e.symm).1; have := HBc.out; omega))); have HS7 := Lib.hid (Nat.le_trans hsa hgrow7.size); have HO7 := Lib.hid hown7; have d3 := (HB7.out.cell (p := ⟨g0, o + i * 6 + 3, none⟩) hg).trans hd3; clear hgrow7 hown7)
          clear hd3 d3 hsa hsz e1
          obtain ⟨wo7, rfl⟩ : ∃ x : World, x = w7 := ⟨_, rfl⟩
          go_loopw [50] (fun s50 wr => ∃ (j : Nat) (M' : Nat → Bool), s50 = .int .i64 j ∧ j ≤ x.rds.length ∧ wr.rowIs gn 4 (last + 1) (fun m => .bool (M' m)) ∧ (∀ m, M' m = true ↔ (M m = true ∨ ∃ t ∈ x.rds.take j, Rc.wr0 r t.pth = some m)) ∧ wr.ownsRow Bc 3 1 v7 ((Rc.nds nb (i + 1) (last + 1 - (i + 1))).length + 1) (Rc.insV (Rc.nats (Rc.nds nb (i + 1) (last + 1 - (i + 1))).reverse) ++ [.int .i64 (i : Int)]) ∧ Below w.heap.size w wr ∧ Bc ≤ wr.heap.size) (fun s50 _ => x.rds.length - (intOf s50).toNat)
          case atStart => exact ⟨0, M, rfl, Nat.zero_le _, HR7.out, fun m => by simp, HO7.out, HB7.out, HS7.out⟩
          case round =>
            obtain ⟨j, M', rfl, hj, hrow, hM', hown, hb, hsz⟩ := hrel
            have HMM := Lib.hid hM'
            clear hM'
            by_cases hlj : j < x.rds.length
            · have b3 : decide ((j : Int) < (x.rds.length : Int)) = true := decide_eq_true (by omega)
              have b3n : decide (j < x.rds.length) = true := decide_eq_true hlj
              have y4 : (j : Int) < (x.rds.length : Int) := by omega
              have hd0 := (hb.cell (p := ⟨g1, o1 + j * 2 + 0, none⟩) hg1).trans (HC1.out j hlj 0 _ rfl)
              have hd1 := (hb.cell (p := ⟨g1, o1 + j * 2 + 1, none⟩) hg1).trans (HC1.out j hlj 1 _ rfl)
              rw [show o1 + j * 2 + 0 = o1 + j * 2 from rfl] at hd0
              have hPt := HSP.out x.rds[j] (List.getElem_mem hlj)
              have HTJ := Lib.hid (show x.rds.take (j + 1) = x.rds.take j ++ [x.rds[j]] from List.take_succ_eq_append_getElem hlj)
              have HLT := Lib.hid (fun m (h : Rc.wr0 r x.rds[j].pth = some m) => Rc.rd_lt HX.out (List.getElem_mem hlj) h)
              generalize x.rds[j] = t at *
              have hba : Below w.heap.size w (wr.alloc (tcO t)) := hb.alloc hb.size _
              have hl := HV.out (wr.alloc (tcO t)) hba t.pth (Nat.le_trans hPt (by unfold maxLen; omega))
              have HRA := Lib.hid (hrow.alloc (tcO t))
              have HOA := Lib.hid (hown.alloc (tcO t))
              have HBA := Lib.hid hba
              have HZA := Lib.hid (show Bc ≤ (wr.alloc (tcO t)).heap.size by simp; omega)
              clear hrow hown hb hba hsz
              cases hq : Rc.wr0 r t.pth with
              | none =>
                rw [hq] at hl
                rw [show ((Option.getD (none : Option Nat) 0 : Nat) : Int) = 0 from rfl, show (none : Option Nat).isSome = false from rfl] at hl
                have HM2 := Lib.hid (show ∀ m, M' m = true ↔ (M m = true ∨ ∃ t ∈ x.rds.take (j + 1), Rc.wr0 r t.pth = some m) from fun m => by
                  rw [HMM.out m, HTJ.out]
                  refine or_congr Iff.rfl ⟨fun ⟨u, hu, h⟩ => ⟨u, List.mem_append_left _ hu, h⟩, fun ⟨u, hu, h⟩ => ?_⟩
                  rcases List.mem_append.1 hu with h1 | h1
                  · exact ⟨u, h1, h⟩
                  · rw [List.mem_singleton.1 h1, hq] at h; cases h)
                clear hq HLT
                go_wp2_with fail
                go_roundw
                case rel => exact ⟨j + 1, M', by go_num, by omega, HRA.out, HM2.out, HOA.out, HBA.out, HZA.out⟩
                case measure => simp [intOf]; omega
              | some n =>
                rw [hq] at hl
                rw [show ((Option.getD (some n : Option Nat) 0 : Nat) : Int) = (n : Int) from rfl, show (some n).isSome = true from rfl] at hl
                have hni := HLT.out n hq
                have hnl : n < last + 1 := by omega
                have y6 : (n : Int) < (last : Int) + 1 := by omega
                have e8 := HRA.out.cell hnl
                have f8 := HRA.out.frozen n
                have HM2 := Lib.hid (show ∀ m, (if m = n then true else M' m) = true ↔ (M m = true ∨ ∃ t ∈ x.rds.take (j + 1), Rc.wr0 r t.pth = some m) from fun m => by
                  rw [HTJ.out]
                  by_cases hmn : m = n
                  · subst hmn
                    rw [if_pos rfl]
                    exact ⟨fun _ => .inr ⟨t, List.mem_append_right _ (List.mem_singleton.2 rfl), hq⟩, fun _ => rfl⟩
                  · rw [if_neg hmn, HMM.out m]
                    refine or_congr Iff.rfl ⟨fun ⟨u, hu, h⟩ => ⟨u, List.mem_append_left _ hu, h⟩, fun ⟨u, hu, h⟩ => ?_⟩
                    rcases List.mem_append.1 hu with h1 | h1
                    · exact ⟨u, h1, h⟩
                    · rw [List.mem_singleton.1 h1, hq] at h; cases h; exact absurd rfl hmn)
                have HS := Lib.hid ((HRA.out.set n (.bool true)).congr (g := fun m => .bool (if m = n then true else M' m)) fun m _ => by
                  by_cases e : m = n
                  · rw [if_pos e, if_pos e]
                  · rw [if_neg e, if_neg e])
                have HO := Lib.hid (show ((wr.alloc (tcO t)).setCell ⟨gn, n, none⟩ (.bool true)).ownsRow Bc 3 1 v7 _ _ from own_same HOA.out fun q hq => heap_setCell_other (wr.alloc (tcO t)) ⟨gn, n, none⟩ q _ (show q ≠ gn by have := (HOA.out.lt q hq).1; have := HBc.out; omega))
                have HB := Lib.hid (HBA.out.setCell (p := ⟨gn, n, none⟩) (show w.heap.size ≤ gn by rw [HG.out]; exact Nat.le_refl _) (.bool true))
                have HZ2 := Lib.hid (show Bc ≤ ((wr.alloc (tcO t)).setCell ⟨gn, n, none⟩ (.bool true)).heap.size by have := HZA.out; simpa using this)
                clear hq HLT hni
                go_wp2_with fail
                go_roundw
                case rel => exact ⟨j + 1, _, by go_num, by omega, HS.out, HM2.out, HO.out, HB.out, HZ2.out⟩
                case measure => simp [intOf]; omega
            · have b3 : decide ((j : Int) < (x.rds.length : Int)) = false := decide_eq_false (by omega)
              have b3n : decide (j < x.rds.length) = false := decide_eq_false hlj
              have HK2 := Lib.hid (HK.out.take (M' := M') hil HX.out HNT.out (fun m => by rw [HMM.out m, List.take_of_length_le (by omega)]))
              have HO2 := Lib.hid (show wr.ownsRow Bc 3 1 v7 (Rc.nds nb i (last + 1 - i)).length (Rc.insV (Rc.nats (Rc.nds nb i (last + 1 - i)).reverse)) by
                rw [HNC.out, List.length_cons, List.reverse_cons, Rc.nats_app, Rc.insV_app]; exact hown)
              have HR2 := Lib.hid hrow
              have HB2 := Lib.hid hb
              have HZ2 := Lib.hid hsz
              clear hrow hown hb hsz
              go_wp2_with fail
              go_roundw
              case rel => exact ⟨i, M', rfl, by omega, HR2.out, HK2.out, HO2.out, HB2.out, HZ2.out⟩
              case measure => simp [intOf]
end Go.Proofs.YtjemffgidhgfjaaGreatDoor.Rk
end
