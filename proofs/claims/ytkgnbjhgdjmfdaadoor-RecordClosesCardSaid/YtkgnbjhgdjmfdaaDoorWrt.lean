/- writers, Writer. -/
import Derived.Test.YtkgnbjhgdjmfdaaDoorChk
namespace Go.Proofs.YtkgnbjhgdjmfdaaDoor
open Go.RowKit Go.Deep Go.Maps Tr

namespace Rc
/-- The step that writes a path, of the first k. -/
def wrtN (r : List Dn) : Nat → List UInt8 → Option Nat
  | 0, _ => none
  | k + 1, p => match r[k]? with | some s => if p = s.wr.pth then some k else wrtN r k p | none => wrtN r k p
def wr0 (r : List Dn) (p : List UInt8) : Option Nat := if chk r = 0 then wrtN r r.length p else none
def wrI (r : List Dn) (p : List UInt8) : Int := match wr0 r p with | some i => (i : Int) | none => -1
theorem wrtN_succ {r : List Dn} {k : Nat} {s : Dn} (h : r[k]? = some s) : wrtN r (k + 1) = fun p => if p = s.wr.pth then some k else wrtN r k p := funext fun p => by
  show (match r[k]? with | some s => if p = s.wr.pth then some k else wrtN r k p | none => wrtN r k p) = _
  rw [h]
theorem wrtN_some {r : List Dn} : ∀ {k : Nat} {p : List UInt8} {i : Nat}, wrtN r k p = some i → i < k ∧ ∃ s, r[i]? = some s ∧ s.wr.pth = p
  | k + 1, p, i, h => by
    unfold wrtN at h
    cases hs : r[k]? with
    | none =>
      rw [hs] at h
      obtain ⟨h1, h2⟩ := wrtN_some (k := k) h
      exact ⟨by omega, h2⟩
    | some s =>
      rw [hs] at h
      by_cases hp : p = s.wr.pth
      · simp only [if_pos hp] at h
        cases h
        exact ⟨by omega, s, hs, hp.symm⟩
      · simp only [if_neg hp] at h
        obtain ⟨h1, h2⟩ := wrtN_some (k := k) h
        exact ⟨by omega, h2⟩
theorem wrtN_none {r : List Dn} : ∀ {k : Nat} {p : List UInt8}, wrtN r k p = none → ∀ i s, i < k → r[i]? = some s → s.wr.pth ≠ p
  | k + 1, p, h, i, s, hi, hs => by
    unfold wrtN at h
    cases ht : r[k]? with
    | none =>
      rw [ht] at h
      by_cases e : i = k
      · subst e; rw [hs] at ht; cases ht
      · exact wrtN_none h i s (by omega) hs
    | some t =>
      rw [ht] at h
      by_cases hp : p = t.wr.pth
      · simp only [if_pos hp] at h; cases h
      · simp only [if_neg hp] at h
        by_cases e : i = k
        · subst e; rw [hs] at ht; cases ht; exact fun e => hp e.symm
        · exact wrtN_none h i s (by omega) hs
theorem wr0_some {r : List Dn} {p : List UInt8} {i : Nat} (h : wr0 r p = some i) : chk r = 0 ∧ i < r.length ∧ ∃ s, r[i]? = some s ∧ s.wr.pth = p := by
  unfold wr0 at h
  by_cases hc : chk r = 0
  · rw [if_pos hc] at h
    exact ⟨hc, wrtN_some h⟩
  · rw [if_neg hc] at h; cases h
end Rc
theorem zInt (w : World) : (zeroValue 3).run Tryd.prog w = .ok (.int .i64 0) w := by kernel_rfl
/-- A map of numbers, at whatever comes. -/
def MapV (w : World) (v : Value) (G : List UInt8 → Option Nat) : Prop := ∀ w', Below w.heap.size w w' → ∀ p : List UInt8, p.length ≤ maxLen → (Instr.lookup 56 v (.string (str p)) true).run Tryd.prog w' = .ok (.tuple #[.int .i64 (((G p).getD 0 : Nat) : Int), .bool (G p).isSome]) w'
theorem MapV.next {w w' : World} {v : Value} {G : List UInt8 → Option Nat} (h : MapV w v G) (hb : Below w.heap.size w w') : MapV w' v G := fun w2 hb2 p hp => h w2 (hb.trans (hb2.mono hb.size)) p hp
theorem MapV.of_mp {w : World} {b n : Nat} {G : List UInt8 → Option Nat} (h : Mp w b n fun p => (G p).map fun i => .int .i64 (i : Int)) : MapV w (.map (some b)) G := fun w' hb p hp => by
  rw [(h.next hb).look Tryd.underlying56 (zInt _) p hp]
  cases G p <;> rfl
theorem MapV.nil (w : World) : MapV w (.map none) fun _ => none := fun _ _ p hp => nil_look Tryd.underlying56 (zInt _) p hp
set_option maxHeartbeats 8000000 in
set_option maxRecDepth 100000 in
theorem writers_any (r : List Dn) (A : Option Addr) (c : Nat) (w : World) (hA : RcAt w A r) (hS : r.length ≤ 1024 → Sht r) (hM : MaxAt w) :
    Calls Tryd.prog 31 #[.slice A r.length c] w fun e w' => ∃ v, e = .returned v ∧ MapV w' v (Rc.wr0 r) ∧ Below w.heap.size w w' := by
  have HA := Lib.hid hA
  have cc := check_any r A c w hA hS hM
  by_cases hz : Rc.chk r = 0
  · rw [hz] at cc
    have HS := Lib.hid (hS (Rc.zero_chk hz).1)
    have hL := (Rc.zero_chk hz).1
    have HW := Lib.hid (show Rc.wr0 r = Rc.wrtN r r.length from funext fun p => by unfold Rc.wr0; rw [if_pos hz])
    have hmm := @run_makeMap Tryd.prog
    clear hA hS hM hz
    go_enter Tryd.func31, Tryd.ntmps31
    go_wp2_with fail
    with_reducible refine cc.mono ?_
    clear cc
    rintro e w1 ⟨rfl, hb1⟩
    go_wp2_with fail
    obtain ⟨b, hb⟩ : ∃ b, b = w1.heap.size := ⟨_, rfl⟩
    obtain ⟨W, hW⟩ : ∃ W, W = w1.alloc (.map #[] 0) := ⟨_, rfl⟩
    have hm0 := Mp.made w1
    have hbW : Below w.heap.size w (w1.alloc (.map #[] 0)) := hb1.alloc hb1.size _
    have HBb := Lib.hid (show w.heap.size ≤ b by rw [hb]; exact hb1.size)
    have hbs : b < (w1.alloc (.map #[] 0)).heap.size := by rw [hb]; simp
    rw [← hW] at hm0 hbW hbs
    rw [← hW]
    rw [← hb] at hm0
    rw [← hb]
    clear hW hb hb1
    have HBW := Lib.hid hbW
    have HBS := Lib.hid hbs
    clear hbW hbs
    go_loopw [12] (fun s11 wr => ∃ k : Nat, s11 = .int .i64 k ∧ k ≤ r.length ∧ Mp wr b k (fun p => (Rc.wrtN r k p).map fun i => .int .i64 (i : Int)) ∧ Kp b W wr) (fun s11 _ => r.length - (intOf s11).toNat)
    case atStart => exact ⟨0, rfl, Nat.zero_le _, hm0, Kp.refl _ _⟩
    case round =>
      obtain ⟨k, rfl, hk, hmp, hkp⟩ := hrel
      have hbw : Below w.heap.size w wr := HBW.out.trans (hkp.below HBb.out HBW.out.size)
      by_cases hlt : k < r.length
      · have c1 : decide ((k : Int) < (r.length : Int)) = true := decide_eq_true (by omega)
        have c1n : decide (k < r.length) = true := decide_eq_true hlt
        have y2 : (k : Int) < (r.length : Int) := by omega
        obtain ⟨g0, o, rfl, hg, hc⟩ := (HA.out.next hbw).st k hlt
        have hd0 := hc 0 _ rfl
        have hd1 := hc 1 _ rfl
        have hd2 := hc 2 _ rfl
        have hd3 := hc 3 _ rfl
        have hd4 := hc 4 _ rfl
        have hd5 := hc 5 _ rfl
        rw [show o + k * 6 + 0 = o + k * 6 from rfl] at hd0
        clear hc
        have HP := Lib.hid (HS.out.p r[k] (List.getElem_mem hlt) r[k].wr (List.mem_append_right _ (List.mem_singleton.2 rfl)))
        have HN := Lib.hid (Rc.wrtN_succ (r := r) (k := k) (List.getElem?_eq_getElem hlt))
        generalize r[k] = x at *
        have hbx : Below wr.heap.size wr (wr.alloc (dnO x)) := (Below.refl _ _).alloc (Nat.le_refl _) _
        obtain ⟨w3, hrun, hMp, hg3⟩ := (hmp.next hbx).store Tryd.underlying56 (by unfold maxLen; omega) x.wr.pth (by have := HP.out; unfold maxLen; omega) (.int .i64 (k : Int))
        have HMp := Lib.hid (show Mp w3 b (k + 1) fun p => (Rc.wrtN r (k + 1) p).map fun i => .int .i64 (i : Int) by
          rw [HN.out]
          have : (fun p => (if p = x.wr.pth then some k else Rc.wrtN r k p).map fun i => Value.int .i64 (i : Int)) = fun q => if q = x.wr.pth then some (Value.int .i64 (k : Int)) else (Rc.wrtN r k q).map fun i => .int .i64 (i : Int) := funext fun q => by
            by_cases h : q = x.wr.pth
            · rw [if_pos h, if_pos h]; rfl
            · rw [if_neg h, if_neg h]
          rw [this]; exact hMp)
        have HK3 := Lib.hid (hkp.trans ((Kp.of_below (b := b) hbx).trans (Kp.of_grown hg3)))
        clear hMp hg3 hmp hkp hbx hbw
        go_wp2_with fail
        go_roundw
        case rel => exact ⟨k + 1, by go_num, by omega, HMp.out, HK3.out⟩
        case measure => simp [intOf]; omega
      · have c1 : decide ((k : Int) < (r.length : Int)) = false := decide_eq_false (by omega)
        have c1n : decide (k < r.length) = false := decide_eq_false hlt
        have hkk : k = r.length := by omega
        subst hkk
        have HV := Lib.hid (show MapV wr (.map (some b)) (Rc.wr0 r) by rw [HW.out]; exact MapV.of_mp hmp)
        have HB := Lib.hid hbw
        clear hmp hkp hbw
        go_wp2_with fail
        go_ret
        exact ⟨_, rfl, HV.out, HB.out⟩
  · generalize hce : Rc.chk r = ce at *
    have z1 : (ce != 0) = true := by rw [bne_iff_ne]; exact hz
    have z2 : (ce == 0) = false := by rw [beq_eq_false_iff_ne]; exact hz
    have HW := Lib.hid (show Rc.wr0 r = fun _ => none from funext fun p => by unfold Rc.wr0; rw [hce, if_neg hz])
    clear hA hS hM hz hce
    go_enter Tryd.func31, Tryd.ntmps31
    go_wp2_with fail
    with_reducible refine cc.mono ?_
    clear cc
    rintro e w1 ⟨rfl, hb1⟩
    have HB := Lib.hid hb1
    clear hb1
    go_wp2_with fail
    go_ret
    exact ⟨_, rfl, by rw [HW.out]; exact MapV.nil _, HB.out⟩
set_option maxHeartbeats 2000000 in
set_option maxRecDepth 100000 in
theorem writer_any (r : List Dn) (p : List UInt8) (A : Option Addr) (c : Nat) (w : World) (hA : RcAt w A r) (hS : r.length ≤ 1024 → Sht r) (hM : MaxAt w) (hp : p.length ≤ maxLen) :
    Calls Tryd.prog 11 #[.slice A r.length c, .string (str p)] w fun e w' => e = .returned (.int .i64 (Rc.wrI r p)) ∧ Below w.heap.size w w' := by
  have HV := Lib.hid (show Rc.wrI r p = match Rc.wr0 r p with | some i => (i : Int) | none => -1 from rfl)
  generalize Rc.wrI r p = V at *
  have cc := writers_any r A c w hA hS hM
  go_enter Tryd.func11, Tryd.ntmps11
  go_wp2_with fail
  with_reducible refine cc.mono ?_
  clear cc
  rintro e w1 ⟨v, rfl, hv, hb1⟩
  have hl := hv w1 (Below.refl _ _) p hp
  have HB := Lib.hid hb1
  clear hv hb1 hA hS hM
  cases hq : Rc.wr0 r p with
  | none =>
    rw [hq] at hl
    rw [show ((Option.getD (none : Option Nat) 0 : Nat) : Int) = 0 from rfl, show (none : Option Nat).isSome = false from rfl] at hl
    have HT := Lib.hid (show V = -1 by rw [HV.out, hq])
    clear hq HV
    go_wp2_with fail
    go_ret
    exact ⟨by rw [HT.out]; rfl, HB.out⟩
  | some i =>
    rw [hq] at hl
    rw [show ((Option.getD (some i : Option Nat) 0 : Nat) : Int) = (i : Int) from rfl, show (some i).isSome = true from rfl] at hl
    have HT := Lib.hid (show V = (i : Int) by rw [HV.out, hq])
    clear hq HV
    go_wp2_with fail
    go_ret
    exact ⟨by rw [HT.out]; rfl, HB.out⟩
end Go.Proofs.YtkgnbjhgdjmfdaaDoor
