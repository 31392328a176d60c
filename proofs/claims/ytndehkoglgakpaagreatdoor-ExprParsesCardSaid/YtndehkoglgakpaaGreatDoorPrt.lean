/- Printing a part of an expression. No condition but the lengths. -/
import Derived.Test.YtndehkoglgakpaaGreatDoorCat
import Derived.Deep.RegionHeld3
namespace Go.Proofs.YtndehkoglgakpaaGreatDoor
open Go.RowKit Go.Deep

set_option maxRecDepth 100000 in
theorem name_tok (t : List UInt8) (w : World) : Calls Tryz.prog 58 #[.string (str t)] w fun e w' => e = .returned (.agg #[.int .i64 1, .string (str t)]) ∧ Below w.heap.size w w' ∧ w.heap.size ≤ w'.heap.size := by
  have hb0 : Below w.heap.size w (w.alloc (.cells #[.int .i64 0, .string ⟨#[]⟩] 45)) := (Below.refl _ _).alloc (Nat.le_refl _) _
  go_enter Tryz.func58, Tryz.ntmps58
  go_wp2_with fail
  exact bodyPost_ret (v := .agg #[.int .i64 1, .string (str t)]) (by simp [results, Tryz.results58, go_sem]) rfl ⟨rfl, by first | exact (Below.refl _ _).alloc (Nat.le_refl _) _ | exact (hb0.setCell (by simp) _).setCell (by simp) _, by simp⟩
set_option maxRecDepth 100000 in
theorem sym_tok (t : List UInt8) (w : World) : Calls Tryz.prog 61 #[.string (str t)] w fun e w' => e = .returned (.agg #[.int .i64 3, .string (str t)]) ∧ Below w.heap.size w w' ∧ w.heap.size ≤ w'.heap.size := by
  have hb0 : Below w.heap.size w (w.alloc (.cells #[.int .i64 0, .string ⟨#[]⟩] 45)) := (Below.refl _ _).alloc (Nat.le_refl _) _
  go_enter Tryz.func61, Tryz.ntmps61
  go_wp2_with fail
  exact bodyPost_ret (v := .agg #[.int .i64 3, .string (str t)]) (by simp [results, Tryz.results61, go_sem]) rfl ⟨rfl, by first | exact (Below.refl _ _).alloc (Nat.le_refl _) _ | exact (hb0.setCell (by simp) _).setCell (by simp) _, by simp⟩
theorem own_pt {w : World} {B : Nat} {v : Value} {ts : List Tok.Tk} (h : w.ownsRow B 45 2 v ts.length (tksOf ts)) (hp : 0 < ts.length) : ∃ p : Pt, v = p.v ∧ p.ts = ts ∧ PtOk w p ∧ B ≤ p.g := by
  obtain ⟨g, cap, rfl, hb, hg, _, _, hcs⟩ := own_pos h hp
  refine ⟨⟨g, 0, cap, ts⟩, rfl, rfl, ⟨hp, hg, fun j u hj => ?_⟩, hb⟩
  have hlt : j < (tksOf ts).length := (List.getElem?_eq_some_iff.1 hj).1
  rw [tksOf_len] at hlt
  show w.cell? ⟨g, 0 + j, none⟩ = some u
  rw [Nat.zero_add, hcs j hlt]
  exact hj
/-- A slice of one token, new. -/
theorem pt_new (w : World) (t : Tok.Tk) : PtOk (w.alloc (.cells #[.int .i64 t.kind, .string (str t.text)] 45)) ⟨w.heap.size, 0, 1, [t]⟩ :=
  ⟨Nat.one_pos, by simp, fun j u hj => by
    show (w.alloc _).cell? ⟨w.heap.size, 0 + j, none⟩ = some u
    rw [Nat.zero_add, cell_of_row _ _ _ _ _ _ (heap_alloc_new w _)]
    rw [show tksOf [t] = [.int .i64 t.kind, .string (str t.text)] from rfl] at hj
    simpa using hj⟩
namespace Ex
def asL (ts : List Tok.Tk) (lv n : Int) : List Tok.Tk := if n ≤ lv then ts else [⟨3, [40]⟩] ++ ts ++ [⟨3, [41]⟩]
end Ex
theorem cell_alloc {w : World} {g j : Nat} {v : Value} (o : Obj) (hp : g < w.heap.size) (h : w.cell? ⟨g, j, none⟩ = some v) : (w.alloc o).cell? ⟨g, j, none⟩ = some v :=
  ((((Below.refl _ w).alloc (Nat.le_refl _) o).cell (p := ⟨g, j, none⟩) hp)).trans h
theorem cell_below {w w' : World} {g j : Nat} {v : Value} (hb : Below w.heap.size w w') (hp : g < w.heap.size) (h : w.cell? ⟨g, j, none⟩ = some v) : w'.cell? ⟨g, j, none⟩ = some v :=
  (hb.cell (p := ⟨g, j, none⟩) hp).trans h
theorem pt_alloc {w : World} {p : Pt} (o : Obj) (h : PtOk w p) : PtOk (w.alloc o) p := h.next ((Below.refl _ w).alloc (Nat.le_refl _) o)
theorem lt_alloc {w : World} {k : Nat} (o : Obj) (h : k < w.heap.size) : k < (w.alloc o).heap.size := by simp; omega
theorem lt_below {w w' : World} {k : Nat} (hb : Below w.heap.size w w') (h : k < w.heap.size) : k < w'.heap.size := Nat.lt_of_lt_of_le h hb.size
theorem be_alloc {w w' : World} {B : Nat} (o : Obj) (h : Below B w w') (hB : B ≤ w'.heap.size) : Below B w (w'.alloc o) := h.alloc hB o
theorem be_below {w w' w2 : World} {B : Nat} (hb : Below w'.heap.size w' w2) (h : Below B w w') (hB : B ≤ w'.heap.size) : Below B w w2 := h.trans (hb.mono hB)
theorem new_cell (w : World) (cs : Array Value) (t : TypeId) (j : Nat) (v : Value) (h : cs[j]? = some v) : (w.alloc (.cells cs t)).cell? ⟨w.heap.size, j, none⟩ = some v := by
  rw [cell_of_row _ _ _ _ _ _ (heap_alloc_new w _)]; exact h
theorem new_cell2 {w : World} {cs : Array Value} {t : TypeId} {q j : Nat} {v : Value} (hq : q = w.heap.size) (h : cs[j]? = some v) : (w.alloc (.cells cs t)).cell? ⟨q, j, none⟩ = some v := by
  rw [hq]; exact new_cell w cs t j v h
theorem nc0 {w : World} {a b c : Value} {t : TypeId} {q : Nat} (hq : q = w.heap.size) : (w.alloc (.cells #[a, b, c] t)).cell? ⟨q, 0, none⟩ = some a := new_cell2 hq rfl
theorem nc1 {w : World} {a b c : Value} {t : TypeId} {q : Nat} (hq : q = w.heap.size) : (w.alloc (.cells #[a, b, c] t)).cell? ⟨q, 1, none⟩ = some b := new_cell2 hq rfl
theorem nc2 {w : World} {a b c : Value} {t : TypeId} {q : Nat} (hq : q = w.heap.size) : (w.alloc (.cells #[a, b, c] t)).cell? ⟨q, 2, none⟩ = some c := new_cell2 hq rfl
def PtAt (w : World) (q j : Nat) (ts : List Tok.Tk) : Prop := ∃ P : Pt, w.cell? ⟨q, j, none⟩ = some P.v ∧ P.ts = ts ∧ PtOk w P
theorem concat3 (q c : Nat) (t1 t2 t3 : List Tok.Tk) (w : World) (hq : q < w.heap.size) (h1 : PtAt w q 0 t1) (h2 : PtAt w q 1 t2) (h3 : PtAt w q 2 t3) (l1 : t1.length ≤ 20000000) (l2 : t2.length ≤ 20000000) (l3 : t3.length ≤ 20000000) :
    Calls Tryz.prog 60 #[.slice (some ⟨q, 0, none⟩) 3 c] w fun e w' => ∃ p2 : Pt, e = .returned p2.v ∧ p2.ts = t1 ++ t2 ++ t3 ∧ PtOk w' p2 ∧ Below w.heap.size w w' ∧ w.heap.size ≤ p2.g := by
  obtain ⟨P1, h0, rfl, k1⟩ := h1
  obtain ⟨P2, h1, rfl, k2⟩ := h2
  obtain ⟨P3, h2, rfl, k3⟩ := h3
  have hts : catL [P1, P2, P3] = P1.ts ++ P2.ts ++ P3.ts := by simp [catL]
  refine (concat_any q c [P1, P2, P3] w hq ?_ ?_ (by simp) (by simp) ?_).mono ?_
  · intro i hi
    match i, hi with
    | 0, _ => exact h0
    | 1, _ => exact h1
    | 2, _ => exact h2
    | i + 3, hi => simp at hi; omega
  · intro p hp
    simp at hp
    rcases hp with rfl | rfl | rfl
    · exact k1
    · exact k2
    · exact k3
  · rw [hts]; simp; omega
  · rintro e w' ⟨v, rfl, hown, hb⟩
    rw [hts] at hown
    obtain ⟨p2, rfl, ht, hk, hg⟩ := own_pt hown (by have := k1.pos; simp; omega)
    exact ⟨p2, rfl, ht, hk, hb, hg⟩
set_option maxHeartbeats 4000000 in
set_option maxRecDepth 100000 in
theorem as_any (p : Pt) (lv n : Int) (w : World) (hp : PtOk w p) (hl : p.ts.length ≤ 10000000) :
    Calls Tryz.prog 62 #[.agg #[p.v, .int .i64 lv], .int .i64 n] w fun e w' => ∃ p2 : Pt, e = .returned p2.v ∧ p2.ts = Ex.asL p.ts lv n ∧ PtOk w' p2 ∧ Below w.heap.size w w' ∧ w.heap.size ≤ w'.heap.size := by
  have hb0 : Below w.heap.size w (w.alloc (.cells #[p.v, .int .i64 lv] 63)) := (Below.refl _ _).alloc (Nat.le_refl _) _
  by_cases hle : n ≤ lv
  · have q1 : decide (n ≤ lv) = true := by simp; omega
    rw [Pt.v_def] at hb0 ⊢
    go_enter Tryz.func62, Tryz.ntmps62
    go_wp2_with fail
    go_ret
    exact ⟨p, rfl, by unfold Ex.asL; rw [if_pos hle], hp.next hb0, hb0, hb0.size⟩
  · have q1 : decide (n ≤ lv) = false := by simp; omega
    rw [Pt.v_def] at hb0 ⊢
    go_enter Tryz.func62, Tryz.ntmps62
    go_upto_region 3 with fail
    have hp1 := hp.next hb0
    have e1 : (w.alloc (.cells #[.slice (some ⟨p.g, p.o, none⟩) p.ts.length p.c, .int .i64 lv] 63)).cell? ⟨w.heap.size, 0, none⟩ = some (.slice (some ⟨p.g, p.o, none⟩) p.ts.length p.c) := new_cell _ _ _ _ _ rfl
    have hs0 : w.heap.size < (w.alloc (.cells #[.slice (some ⟨p.g, p.o, none⟩) p.ts.length p.c, .int .i64 lv] 63)).heap.size := by simp
    clear hp
    generalize w.alloc (.cells #[.slice (some ⟨p.g, p.o, none⟩) p.ts.length p.c, .int .i64 lv] 63) = w0 at *
    have e2 : w0.drew.cell? ⟨w.heap.size, 0, none⟩ = some (.slice (some ⟨p.g, p.o, none⟩) p.ts.length p.c) := e1
    have hs1 : w.heap.size < w0.drew.heap.size := hs0
    have hp2 : PtOk w0.drew p := ⟨hp1.pos, hp1.lt, hp1.at_⟩
    have hb1 : Below w.heap.size w w0.drew := hb0.drew
    have hc40 : ∀ w, Calls Tryz.prog 61 #[.string ⟨#[40]⟩] w fun e w' => e = .returned (.agg #[.int .i64 3, .string ⟨#[40]⟩]) ∧ Below w.heap.size w w' ∧ w.heap.size ≤ w'.heap.size := sym_tok [40]
    have hc41 : ∀ w, Calls Tryz.prog 61 #[.string ⟨#[41]⟩] w fun e w' => e = .returned (.agg #[.int .i64 3, .string ⟨#[41]⟩]) ∧ Below w.heap.size w w' ∧ w.heap.size ≤ w'.heap.size := sym_tok [41]
    have hn1 : ∀ (w : World) (q : Nat), q = w.heap.size → PtOk (w.alloc (.cells #[.int .i64 3, .string ⟨#[40]⟩] 45)) ⟨q, 0, 1, [⟨3, [40]⟩]⟩ := fun w q h => h ▸ pt_new w ⟨3, [40]⟩
    have hn2 : ∀ (w : World) (q : Nat), q = w.heap.size → PtOk (w.alloc (.cells #[.int .i64 3, .string ⟨#[41]⟩] 45)) ⟨q, 0, 1, [⟨3, [41]⟩]⟩ := fun w q h => h ▸ pt_new w ⟨3, [41]⟩
    clear hp1 hb0 e1 hs0
    go_region_held3 (fun w' => w'.cell? ⟨w.heap.size, 0, none⟩ = some (.slice (some ⟨p.g, p.o, none⟩) p.ts.length p.c)) (with_reducible (repeat' (first | assumption | (exact hn1 _ _ (by simp)) | (exact hn2 _ _ (by simp)) | (refine cell_alloc _ ?_ ?_) | (refine cell_below (by assumption) ?_ ?_) | (refine pt_alloc _ ?_) | (refine PtOk.next ?_ (by assumption)) | (refine lt_alloc _ ?_) | (refine lt_below (by assumption) ?_) | (refine be_alloc _ ?_ ?_) | (refine be_below (by assumption) ?_ ?_) | (refine Nat.le_of_lt ?_)))) (first | (go_at_call 61; (with_reducible (first | refine (hc40 _).mono ?_ | refine (hc41 _).mono ?_)); rintro e w5 ⟨rfl, hb5, hs5⟩) | (go_at_call 60; (refine (concat3 _ _ [⟨3, [40]⟩] p.ts [⟨3, [41]⟩] _ (by simp) ⟨⟨_, 0, 1, [⟨3, [40]⟩]⟩, Eq.trans (nc0 (by simp)) (congrArg some rfl), rfl, by (with_reducible (repeat' (first | assumption | (exact hn1 _ _ (by simp)) | (exact hn2 _ _ (by simp)) | (refine cell_alloc _ ?_ ?_) | (refine cell_below (by assumption) ?_ ?_) | (refine pt_alloc _ ?_) | (refine PtOk.next ?_ (by assumption)) | (refine lt_alloc _ ?_) | (refine lt_below (by assumption) ?_) | (refine be_alloc _ ?_ ?_) | (refine be_below (by assumption) ?_ ?_) | (refine Nat.le_of_lt ?_))))⟩ ⟨p, Eq.trans (nc1 (by simp)) (congrArg some rfl), rfl, by (with_reducible (repeat' (first | assumption | (exact hn1 _ _ (by simp)) | (exact hn2 _ _ (by simp)) | (refine cell_alloc _ ?_ ?_) | (refine cell_below (by assumption) ?_ ?_) | (refine pt_alloc _ ?_) | (refine PtOk.next ?_ (by assumption)) | (refine lt_alloc _ ?_) | (refine lt_below (by assumption) ?_) | (refine be_alloc _ ?_ ?_) | (refine be_below (by assumption) ?_ ?_) | (refine Nat.le_of_lt ?_))))⟩ ⟨⟨_, 0, 1, [⟨3, [41]⟩]⟩, Eq.trans (nc2 (by simp)) (congrArg some rfl), rfl, by (with_reducible (repeat' (first | assumption | (exact hn1 _ _ (by simp)) | (exact hn2 _ _ (by simp)) | (refine cell_alloc _ ?_ ?_) | (refine cell_below (by assumption) ?_ ?_) | (refine pt_alloc _ ?_) | (refine PtOk.next ?_ (by assumption)) | (refine lt_alloc _ ?_) | (refine lt_below (by assumption) ?_) | (refine be_alloc _ ?_ ?_) | (refine be_below (by assumption) ?_ ?_) | (refine Nat.le_of_lt ?_))))⟩ (by simp) (by omega) (by simp)).mono ?_); rintro e w7 ⟨p2, rfl, ht, hk, hb7, hs7⟩))
    all_goals go_wp2_with fail
    all_goals go_ret
    all_goals refine ⟨p2, rfl, by rw [ht]; unfold Ex.asL; rw [if_neg (by omega)], hk, ?_, ?_⟩
    all_goals (with_reducible (repeat' (first | assumption | (exact hn1 _ _ (by simp)) | (exact hn2 _ _ (by simp)) | (refine cell_alloc _ ?_ ?_) | (refine cell_below (by assumption) ?_ ?_) | (refine pt_alloc _ ?_) | (refine PtOk.next ?_ (by assumption)) | (refine lt_alloc _ ?_) | (refine lt_below (by assumption) ?_) | (refine be_alloc _ ?_ ?_) | (refine be_below (by assumption) ?_ ?_) | (refine Nat.le_of_lt ?_))))
end Go.Proofs.YtndehkoglgakpaaGreatDoor
