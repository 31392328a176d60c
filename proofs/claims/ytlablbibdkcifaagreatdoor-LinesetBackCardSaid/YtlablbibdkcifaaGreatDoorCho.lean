/- choose: the set of the lines that a function chooses. No condition but the lengths. -/
import Derived.Test.YtlablbibdkcifaaGreatDoorSor
import Derived.StillTailTactics
import Derived.Deep.Upon
import Derived.Lib.AppendZeros
namespace Go.Proofs.YtlablbibdkcifaaGreatDoor
open Go.RowKit Go.Deep Tr

theorem own_capE {w : World} {B size n c : Nat} {e : TypeId} {A : Option Addr} {xs : List Value} (h : w.ownsRow B e size (.slice A n c) n xs) : n ≤ c ∧ c ≤ maxLen := by
  rcases h.2 with ⟨e1, rfl⟩ | ⟨g, cap, cur, e1, _, _, h1, h2, _⟩
  · injection e1 with _ _ e3; subst e3; exact ⟨Nat.le_refl _, Nat.zero_le _⟩
  · injection e1 with _ _ e3; subst e3; exact ⟨h1, h2⟩
theorem src_noneE {P : Program} {size : Nat} {tx e' : TypeId} (w : World) (hk : P.underlying tx = some (.slice e')) (A : Option Addr) (c : Nat) : Src P size tx (.slice A 0 c) 0 [] w := by
  cases A with
  | none => exact Src.ofNil w hk c
  | some a => exact Src.ofSlice w hk a 0 c [] (by simp) (fun j u h => by simp at h) (by simp)
theorem app_eds (ty : TypeId) (w : World) (B : Nat) (v : Value) (xs ys : List Ls.Ed) (hown : w.ownsRow B 85 4 v xs.length (Ls.edsV xs)) (A : Option Addr) (c : Nat) (hA : Ls.EdAt w w.heap.size A ys) (hB : B ≤ w.heap.size) (hlen : xs.length + ys.length ≤ 100000000) :
    ∃ v' w', (Builtin.append_ #[81, 81] ty #[v, .slice A ys.length c]).run Tryz.prog w = .ok v' w' ∧ w'.ownsRow B 85 4 v' (xs ++ ys).length (Ls.edsV (xs ++ ys)) ∧ w.grownBy w' v.ownBlock := by
  obtain ⟨i0, hi0, hz0, hz1, hz2⟩ := info_parts infoEd
  by_cases h0 : ys.length = 0
  · have e : ys = [] := List.length_eq_zero_iff.1 h0
    subst e
    obtain ⟨A0, c0, rfl, _, _, _⟩ := Ls.own_el Ls.edV 4 Ls.edV_len hown
    obtain ⟨hcc, _⟩ := own_capE hown
    refine ⟨_, w, run_append_nothing w 81 81 ty 85 i0 Tryz.underlying81 hi0 A0 _ c0 hcc _ (src_noneE w Tryz.underlying81 A c), by rw [List.append_nil]; exact hown, ⟨rfl, rfl, rfl, Nat.le_refl _, fun _ _ _ => rfl⟩⟩
  · obtain ⟨g, o, rfl, hg, hc⟩ := Ls.ElAt.flat (by decide) Ls.edV_len hA (by omega)
    obtain ⟨gg, cap, w3, hrun, hown3, hgrow, hat, _⟩ := run_append_lies (P := Tryz.prog) w 81 ty B 85 i0 _ 4 40 Tryz.underlying81 hi0 hz0 hz1 hz2 rfl (by omega) v xs.length _ hown ⟨g, o, none⟩ ys.length c (Ls.edsV ys) (by rw [Ls.edsV_len]) (fun j u hj => by rw [addr_addS]; exact hc j u hj) (Ls.edsV_ones ys) (by omega) (by unfold maxLen; omega) (by omega) hB w.heap.size rfl
    exact ⟨_, w3, hrun, by rw [Ls.edsV_app, List.length_append]; exact hown3, hgrow⟩
namespace Ls
theorem net_bound (sd : Int) : ∀ l : List Ed, (∀ e ∈ l, e.ent = 1 ∨ e.ent = -1) → -(l.length : Int) ≤ net sd l ∧ net sd l ≤ (l.length : Int)
  | [], _ => by simp [net]
  | e :: t, h => by
    have ih := net_bound sd t fun x hx => h x (List.mem_cons_of_mem _ hx)
    have he := h e (by simp)
    simp only [net, List.length_cons]
    split <;> omega
theorem ext_len (l : List Sp) (s : Sp) : (ext l s).length ≤ l.length + 1 := by
  unfold ext
  split
  · omega
  · split
    · rename_i t ht
      split
      · rw [List.length_append, List.length_dropLast]; simp only [List.length_singleton]; omega
      · simp
    · simp
theorem upd_zero (o : Int × Int) (p : LN) (n e : Int) : upd o ⟨p, n, 0, e⟩ = (o.1 + e, o.2) := rfl
theorem upd_one (o : Int × Int) (p : LN) (n e : Int) : upd o ⟨p, n, 1, e⟩ = (o.1, o.2 + e) := rfl
theorem nxt_off {f : Bool → Bool → Bool} {x : Ed} {o : Int × Int} {out : List Sp} {r : List Ed} (h : on f o = false) : nxt f x o out r = out := by
  cases r with
  | nil => rfl
  | cons y t => exact if_neg (by rw [h]; decide)
theorem nxt_on {f : Bool → Bool → Bool} {x : Ed} {o : Int × Int} {out : List Sp} {d : List Ed} {k : Nat} (hk : k < d.length) (h : on f o = true) : nxt f x o out (d.drop k) = ext out ⟨x.path, x.n, d[k].n⟩ := by
  rw [List.drop_eq_getElem_cons hk]
  exact if_pos h
theorem on_def (f : Bool → Bool → Bool) (u : Int × Int) : on f u = f (decide (0 < u.1)) (decide (0 < u.2)) := rfl
end Ls
theorem own_base {w : World} {B B' e size n : Nat} {v : Value} {xs : List Value} (h : w.ownsRow B' e size v n xs) (hB : B ≤ B') : w.ownsRow B e size v n xs := by
  rcases h with ⟨h1, ⟨rfl, h2⟩ | ⟨g, cap, cur, rfl, h2, h3, h4⟩⟩
  · exact ⟨h1, .inl ⟨rfl, h2⟩⟩
  · exact ⟨h1, .inr ⟨g, cap, cur, rfl, Nat.le_trans hB h2, h3, h4⟩⟩
/-- The spans that are left, for lines of a and b. -/
def GotCh (w : World) (f : Bool → Bool → Bool) (a b : List Ls.Sp) : Ending → World → Prop := fun e w' => ∃ out v, e = .returned v ∧ Ls.Valid out ∧ (∀ p m, Ls.has out p m = f (Ls.has a p m) (Ls.has b p m)) ∧ out.length ≤ 2 * a.length + 2 * b.length ∧ w'.ownsRow w.heap.size 32 3 v out.length (Ls.spsV out) ∧ Below w.heap.size w w'
set_option maxHeartbeats 16000000 in
set_option maxRecDepth 100000 in
theorem choose_any (f : Bool → Bool → Bool) (hf : f false false = false) (F : Nat) (hen : ∀ (x y : Bool) (w : World), (callFunc F #[.bool x, .bool y]).run Tryz.prog w = .ok (.enter F #[.bool x, .bool y]) w) (hF : ∀ (x y : Bool) (w : World), Calls Tryz.prog F #[.bool x, .bool y] w fun e w' => e = .returned (.bool (f x y)) ∧ w = w')
    (a b : List Ls.Sp) (A A' : Option Addr) (c c' : Nat) (w : World) (hA : Ls.SpAt w w.heap.size A a) (hB : Ls.SpAt w w.heap.size A' b) (ha : a.length ≤ 100000) (hb : b.length ≤ 100000) (hV : ∀ s, s ∈ a ∨ s ∈ b → Tre.pathOk s.path = true ∧ 0 ≤ s.lo ∧ s.hi ≤ 1024 ∧ s.lo < s.hi) :
    Calls Tryz.prog 49 #[.slice A a.length c, .slice A' b.length c', .func (.func F) #[] #[]] w (GotCh w f a b) := by
  have HV := Lib.hid hV
  have HF := Lib.hid hF
  clear hV hF
  have h1 := edges_any a 0 A c w hA (by omega)
  go_enter Tryz.func49, Tryz.ntmps49
  go_wp2_with fail
  with_reducible refine h1.mono ?_
  clear h1
  rintro e w1 ⟨va, rfl, ho1, hb1⟩
  have h2 := edges_any b 1 A' c' w1 (hB.next hb1) (by omega)
  go_wp2_with fail
  with_reducible refine h2.mono ?_
  clear h2
  rintro e w2 ⟨vb, rfl, ho2, hb2⟩
  have ho12 := own_below ho1 hb2
  obtain ⟨Ab, cb, rfl, _, _, hEb⟩ := Ls.own_el Ls.edV 4 Ls.edV_len ho2
  have hB2 : Below w.heap.size w w2 := hb1.trans (hb2.mono hb1.size)
  have hl0 := Ls.edges_len 0 a
  have hl1 := Ls.edges_len 1 b
  obtain ⟨Aa, ca, rfl, _, _, _⟩ := Ls.own_el Ls.edV 4 Ls.edV_len ho12
  obtain ⟨v7, w3, hrun, ho3, hg3⟩ := app_eds 81 w2 w.heap.size _ (Ls.edges 0 a) (Ls.edges 1 b) ho12 Ab cb hEb hB2.size (by omega)
  have hB3 : Below w.heap.size w w3 := below_grown hB2 hB2.size ho12 hg3
  have h4 := sort_any (Ls.edges 0 a ++ Ls.edges 1 b) w.heap.size v7 w3 ho3 (by rw [List.length_append]; omega)
  have HLN := Lib.hid (show (Ls.edges 0 a ++ Ls.edges 1 b).length = 2 * a.length + 2 * b.length by rw [List.length_append]; omega)
  clear ho1 hb1 ho2 hb2 ho12 hEb hB2 hg3 ho3 hl0 hl1 hA hB
  generalize hEE : Ls.edges 0 a ++ Ls.edges 1 b = E at *
  have HEE := Lib.hid hEE
  clear hEE
  go_wp2_with (at_builtin; refine Lib.wpList_append_run _ rfl _ _ _ _ rfl _ _ rfl rfl _ _ hrun ?_)
  with_reducible refine h4.mono ?_
  clear h4 hrun
  rintro e w4 ⟨rfl, d, hperm, hrise, hdl, ho4, hb4⟩
  have hB4 := hB3.trans hb4
  have HT := Lib.hid (show Ls.Two a b d 1024 from ⟨fun s hs => (HV.out s (.inl hs)).2.2.2, fun s hs => (HV.out s (.inr hs)).2.2.2, fun s hs => (HV.out s (.inl hs)).2.2.1, fun s hs => (HV.out s (.inr hs)).2.2.1, by rw [HEE.out]; exact hperm, hrise⟩)
  have hdn : d.length ≤ 2 * a.length + 2 * b.length := by have := HLN.out; omega
  obtain ⟨A7, c7, rfl, _, _, hEd⟩ := Ls.own_el Ls.edV 4 Ls.edV_len ho4
  have HED := Lib.hid hEd
  clear hperm hrise hdl ho4 hb4 hB3 hEd HLN HEE
  have hq5 : Below w4.heap.size w4 (w4.alloc (.cells #[.int .i64 0, .int .i64 0] 89)) := (Below.refl _ _).alloc (Nat.le_refl _) _
  have hN5 := heap_alloc_new w4 (.cells #[.int .i64 0, .int .i64 0] 89)
  have HI0 := Lib.hid (Ls.inv_start f hf HT.out)
  go_upto_region 5 with (fail)
  generalize w4.alloc (.cells #[.int .i64 0, .int .i64 0] 89) = w5 at *
  go_wp2_with fail
  go_loopw [9, 21] (fun s9 s21 wr => ∃ (k : Nat) (o : Int × Int) (out : List Ls.Sp), s21 = .int .i64 k ∧ k ≤ d.length ∧ Ls.Inv f a b (d.take k) (d.drop k) o out ∧ wr.heap[w4.heap.size]? = some (.cells #[.int .i64 o.1, .int .i64 o.2] 89 (0, 0)) ∧ wr.ownsRow (w4.heap.size + 1) 32 3 s9 out.length (Ls.spsV out) ∧ out.length ≤ k ∧ Below w4.heap.size w4 wr) (fun _ s21 _ => d.length - (intOf s21).toNat)
  case atStart => exact ⟨0, (0, 0), [], rfl, by omega, HI0.out, hN5, World.ownsRow_nil _ _ _ _, by simp, hq5⟩
  case round =>
    clear hq5 hN5 HI0
    obtain ⟨k, o, out, rfl, hk, hinv, hq, hown, hol, hbr⟩ := hrel
    by_cases hlt : k < d.length
    · have b1 : decide ((k : Int) < (d.length : Int)) = true := decide_eq_true (by omega)
      have b1n : decide (k < d.length) = true := decide_eq_true hlt
      obtain ⟨g, o7, rfl, hg, hrow⟩ := HED.out.row (by omega)
      have hc := hrow k hlt
      have hdk := List.drop_eq_getElem_cons hlt
      rw [hdk] at hinv
      have hst := hinv.step hf HT.out (by rw [← hdk]; exact (List.take_append_drop k d).symm)
      rw [show d.take k ++ [d[k]] = d.take (k + 1) from by rw [List.take_succ_eq_append_getElem hlt]] at hst
      obtain ⟨st1, _, st3⟩ := hst
      have hsd := HT.out.side d[k] (List.getElem_mem hlt)
      have hen1 := (HT.out.sides d[k] (List.getElem_mem hlt)).2
      have hop := hinv.op
      have hents : ∀ e ∈ d.take k, e.ent = 1 ∨ e.ent = -1 := fun e he => (HT.out.sides e (List.mem_of_mem_take he)).2
      have hn0 := Ls.net_bound 0 (d.take k) hents
      have hn1 := Ls.net_bound 1 (d.take k) hents
      have htl : (d.take k).length ≤ 400000 := by rw [List.length_take]; omega
      obtain ⟨o1, o2⟩ := o
      have ho1 : -400000 ≤ o1 ∧ o1 ≤ 400000 := by injection hop with e1 e2; omega
      have ho2 : -400000 ≤ o2 ∧ o2 ≤ 400000 := by injection hop with e1 e2; omega
      have S1 := Lib.hid st1
      have S3 := Lib.hid st3
      have HRW := Lib.hid hrow
      have hd0 := (hbr.cell (p := ⟨g, o7 + k * 4, none⟩) hg).trans (hc 0 _ rfl)
      have hd1 := (hbr.cell (p := ⟨g, o7 + k * 4 + 1, none⟩) hg).trans (hc 1 _ rfl)
      have hd2 := (hbr.cell (p := ⟨g, o7 + k * 4 + 2, none⟩) hg).trans (hc 2 _ rfl)
      have hd3 := (hbr.cell (p := ⟨g, o7 + k * 4 + 3, none⟩) hg).trans (hc 3 _ rfl)
      clear hdk hop hents hn0 hn1 htl hinv st1 st3 hrow hc
      generalize d[k] = x at *
      obtain ⟨xp, xn, xs, xe⟩ := x
      dsimp only at hsd hen1 hd0 hd1 hd2 hd3
      have hN6 := heap_alloc_new wr (.cells #[.string (str xp), .int .i64 xn, .int .i64 xs, .int .i64 xe] 85)
      have hb6 : Below w4.heap.size w4 (wr.alloc (.cells #[.string (str xp), .int .i64 xn, .int .i64 xs, .int .i64 xe] 85)) := hbr.alloc hbr.size _
      have hq6 : (wr.alloc (.cells #[.string (str xp), .int .i64 xn, .int .i64 xs, .int .i64 xe] 85)).heap[w4.heap.size]? = some (.cells #[.int .i64 o1, .int .i64 o2] 89 (0, 0)) := (blk_alloc_lt _ _ _ (blk_lt hq)).trans hq
      have ho6 := hown.alloc (.cells #[.string (str xp), .int .i64 xn, .int .i64 xs, .int .i64 xe] 85)
      have hne6 : w4.heap.size ≠ wr.heap.size := by have := blk_lt hq; omega
      go_upto_region 9 with (fail)
      clear hd0 hd1 hd2 hd3 hown hq hbr
      generalize wr.alloc (.cells #[.string (str xp), .int .i64 xn, .int .i64 xs, .int .i64 xe] 85) = X at *
      generalize wr.heap.size = q at *
      have hqX := blk_lt hN6
      go_cut [21] from 21 to 57 (fun s21 wx => s21 = .int .i64 (k : Int) ∧ wx.heap[w4.heap.size]? = some (.cells #[.int .i64 (Ls.upd (o1, o2) ⟨xp, xn, xs, xe⟩).1, .int .i64 (Ls.upd (o1, o2) ⟨xp, xn, xs, xe⟩).2] 89 (0, 0)) ∧ wx.heap[q]? = some (.cells #[.string (str xp), .int .i64 xn, .int .i64 xs, .int .i64 xe] 85 (0, 0)) ∧ wx.ownsRow (w4.heap.size + 1) 32 3 u9 out.length (Ls.spsV out) ∧ Below w4.heap.size w4 wx)
      case first =>
        have e2 : X.cell? ⟨q, 2, none⟩ = some (.int .i64 xs) := by rw [cell_of_row _ _ _ _ _ _ hN6]; rfl
        have e3 : X.cell? ⟨q, 3, none⟩ = some (.int .i64 xe) := by rw [cell_of_row _ _ _ _ _ _ hN6]; rfl
        have c0 : X.cell? ⟨w4.heap.size, 0, none⟩ = some (.int .i64 o1) := by rw [cell_of_row _ _ _ _ _ _ hq6]; rfl
        have c1 : X.cell? ⟨w4.heap.size, 1, none⟩ = some (.int .i64 o2) := by rw [cell_of_row _ _ _ _ _ _ hq6]; rfl
        have f0 := frozen_of_row X w4.heap.size 0 _ _ hq6
        have f1 := frozen_of_row X w4.heap.size 1 _ _ hq6
        have w1 : IntKind.i64.wrap (o1 + xe) = o1 + xe := IntWalk.i64_in _ (by omega)
        have w2 : IntKind.i64.wrap (o2 + xe) = o2 + xe := IntWalk.i64_in _ (by omega)
        have key : ∀ (i : Nat) (u : Value) (cs : Array Value), (#[.int .i64 o1, .int .i64 o2] : Array Value).setIfInBounds i u = cs → (X.drew.setCell ⟨w4.heap.size, i, none⟩ u).heap[w4.heap.size]? = some (.cells cs 89 (0, 0)) ∧ (X.drew.setCell ⟨w4.heap.size, i, none⟩ u).heap[q]? = some (.cells #[.string (str xp), .int .i64 xn, .int .i64 xs, .int .i64 xe] 85 (0, 0)) ∧ (X.drew.setCell ⟨w4.heap.size, i, none⟩ u).ownsRow (w4.heap.size + 1) 32 3 u9 out.length (Ls.spsV out) ∧ Below w4.heap.size w4 (X.drew.setCell ⟨w4.heap.size, i, none⟩ u) := fun i u cs hcs => by
          have hqd : X.drew.heap[w4.heap.size]? = some (.cells #[.int .i64 o1, .int .i64 o2] 89 (0, 0)) := hq6
          have h1 := heap_setCell_same X.drew w4.heap.size i _ _ u hqd
          rw [hcs] at h1
          refine ⟨h1, (heap_setCell_other X.drew ⟨w4.heap.size, i, none⟩ q u (fun e => hne6 e.symm)).trans hN6, ?_, hb6.drew.setCell (p := ⟨w4.heap.size, i, none⟩) (Nat.le_refl _) _⟩
          refine ho6.drew.kept (row := some w4.heap.size) ⟨rfl, rfl, rfl, by simp, fun k' _ hk' => heap_setCell_other X.drew ⟨w4.heap.size, i, none⟩ k' u (fun e => hk' (by rw [e]))⟩ (.inr ?_)
          intro he
          have := (ho6.lt _ he).1
          omega
        have KEY := Lib.hid key
        clear key hq6 hN6 ho6 hb6
        rcases hsd with rfl | rfl
        · go_region
          go_wp2_with fail
          go_meet
          exact ⟨rfl, by rw [Ls.upd_zero]; exact KEY.out 0 _ _ rfl⟩
        · go_region
          go_wp2_with fail
          go_meet
          exact ⟨rfl, by rw [Ls.upd_one]; exact KEY.out 1 _ _ rfl⟩
      case rest =>
      obtain ⟨rfl, hq7, hN7, ho7', hb7⟩ := hcut
      clear hq6 hN6 ho6 hb6 hqX
      generalize hu : Ls.upd (o1, o2) ⟨xp, xn, xs, xe⟩ = u at *
      obtain ⟨u1, u2⟩ := u
      clear hu hsd hen1 ho1 ho2
      dsimp only at hq7
      have c0 : wc.cell? ⟨w4.heap.size, 0, none⟩ = some (.int .i64 u1) := by rw [cell_of_row _ _ _ _ _ _ hq7]; rfl
      have c1 : wc.cell? ⟨w4.heap.size, 1, none⟩ = some (.int .i64 u2) := by rw [cell_of_row _ _ _ _ _ _ hq7]; rfl
      have hcall := HF.out (decide (0 < u1)) (decide (0 < u2)) wc
      have HON := Lib.hid (Ls.on_def f (u1, u2))
      go_wp2_with fail
      with_reducible refine hcall.mono ?_
      clear hcall
      rintro e w8 ⟨rfl, rfl⟩
      rw [show Ls.on f (u1, u2) = f (decide (0 < u1)) (decide (0 < u2)) from rfl] at S1
      cases hch : f (decide (0 < u1)) (decide (0 < u2)) with
      | false =>
        have HN := Lib.hid (Ls.nxt_off (f := f) (x := ⟨xp, xn, xs, xe⟩) (out := out) (r := d.drop (k + 1)) (HON.out.trans hch))
        clear hch HON S1 c0 c1
        go_wp2_with fail
        go_roundw
        case rel => exact ⟨k + 1, (u1, u2), out, by go_num, by omega, by rw [← HN.out]; exact S3.out, hq7, ho7', by omega, hb7⟩
        case measure => simp [intOf]; omega
      | true =>
        have hlt2 : k + 1 < d.length := by
          rcases Nat.lt_or_ge (k + 1) d.length with h | h
          · exact h
          · have := S1.out (List.drop_eq_nil_of_le h)
            rw [hch] at this; cases this
        have HN := Lib.hid (Ls.nxt_on (f := f) (x := ⟨xp, xn, xs, xe⟩) (out := out) (d := d) (k := k + 1) hlt2 (HON.out.trans hch))
        have hyn := (hb7.cell (p := ⟨g, o7 + (k + 1) * 4 + 1, none⟩) hg).trans (HRW.out (k + 1) hlt2 1 _ rfl)
        clear hch HON S1 c0 c1
        generalize d[k + 1].n = yn at *
        have hsz7 := hb7.size
        have hql := blk_lt hq7
        have hext := extend_any out ⟨xp, xn, yn⟩ u9 (w4.heap.size + 1) wc.drew ho7'.drew (by show w4.heap.size + 1 ≤ wc.heap.size; omega) (by omega)
        rw [spA_def] at hext
        dsimp only at hext
        have e0 : wc.cell? ⟨q, 0, none⟩ = some (.string (str xp)) := by rw [cell_of_row _ _ _ _ _ _ hN7]; rfl
        have e1 : wc.cell? ⟨q, 1, none⟩ = some (.int .i64 xn) := by rw [cell_of_row _ _ _ _ _ _ hN7]; rfl
        have y1 : (0 : Int) ≤ (k : Int) + 1 := by omega
        have y2 : (k : Int) + 1 < (d.length : Int) := by omega
        have yw : IntKind.i64.wrap ((k : Int) + 1) = (k : Int) + 1 := IntWalk.i64_in _ (by omega)
        have yt : ((k : Int) + 1).toNat = k + 1 := by omega
        go_upto_region 11 with (fail)
        refine wp_region_still_tail 12 (by kernel_rfl) (by kernel_rfl) ?_
        change wpStill _ _ wc.drew _ _ _
        simp only [List.take_succ_cons, List.take_zero, List.drop_succ_cons, List.drop_zero]
        repeat still_step
        refine wpStill_nil ?_
        change wpList _ _ _ _ _ wc.drew
        go_wp2_with fail
        with_reducible refine hext.mono ?_
        clear hext
        rintro e w9 ⟨v9, rfl, ho9, hb9⟩
        have hb9' : Below w4.heap.size w4 w9 := (hb7.drew).trans (hb9.mono (by omega))
        have hq9 : w9.heap[w4.heap.size]? = some (.cells #[.int .i64 u1, .int .i64 u2] 89 (0, 0)) := (hb9.block _ (by omega)).trans hq7
        have hle := Ls.ext_len out ⟨xp, xn, yn⟩
        clear e0 e1 hyn yw y1 y2
        go_wp2_with fail
        go_roundw
        case rel => exact ⟨k + 1, (u1, u2), _, by go_num, by omega, by rw [← HN.out]; exact S3.out, hq9, ho9, by omega, hb9'⟩
        case measure => simp [intOf]; omega
    · have b1 : decide ((k : Int) < (d.length : Int)) = false := decide_eq_false (by omega)
      have b1n : decide (k < d.length) = false := decide_eq_false hlt
      obtain rfl : k = d.length := by omega
      rw [List.take_length, List.drop_length] at hinv
      obtain ⟨r1, r2, r3⟩ := Ls.inv_end hinv
      have R1 := Lib.hid (Ls.valid_of (a := a) (b := b) (d := d) HV.out (fun e he => (HT.out.sides e he).1) r1 r3)
      have R2 := Lib.hid r2
      have R4 := Lib.hid (own_base hown (show w.heap.size ≤ w4.heap.size + 1 by have := hB4.size; omega))
      have R5 := Lib.hid (hB4.trans (hbr.mono hB4.size))
      clear r1 r2 r3 hinv hown hbr hq
      go_wp2_with fail
      go_ret
      exact ⟨out, _, rfl, R1.out, R2.out, by omega, R4.out, R5.out⟩
end Go.Proofs.YtlablbibdkcifaaGreatDoor
