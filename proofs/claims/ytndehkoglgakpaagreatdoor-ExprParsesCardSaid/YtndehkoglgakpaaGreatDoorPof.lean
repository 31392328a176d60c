/- The part of an operation that is a small number, a name or binary. No condition but the lengths. -/
import Derived.Test.YtndehkoglgakpaaGreatDoorPrt
namespace Go.Proofs.YtndehkoglgakpaaGreatDoor
open Go.RowKit Go.Deep

theorem pt_set {w : World} {p : Pt} (q j : Nat) (v : Value) (h : PtOk w p) (hne : q ≠ p.g) : PtOk (w.setCell ⟨q, j, none⟩ v) p :=
  ⟨h.pos, by rw [World.size_setCell]; exact h.lt, fun i u hi => by rw [World.cell?_setCell_far _ _ _ _ (by exact hne)]; exact h.at_ i u hi⟩
theorem cell_set {w : World} {q i g j : Nat} {x v : Value} (hne : q ≠ g) (h : w.cell? ⟨g, j, none⟩ = some v) : (w.setCell ⟨q, i, none⟩ x).cell? ⟨g, j, none⟩ = some v := by
  rw [World.cell?_setCell_far _ _ _ _ (by exact hne)]; exact h
theorem fz_alloc {w : World} {g j : Nat} (o : Obj) (hp : g < w.heap.size) (h : w.frozen? ⟨g, j, none⟩ = false) : (w.alloc o).frozen? ⟨g, j, none⟩ = false :=
  (((Below.refl _ w).alloc (Nat.le_refl _) o).frozen (p := ⟨g, j, none⟩) hp).trans h
theorem fz_below {w w' : World} {g j : Nat} (hb : Below w.heap.size w w') (hp : g < w.heap.size) (h : w.frozen? ⟨g, j, none⟩ = false) : w'.frozen? ⟨g, j, none⟩ = false :=
  (hb.frozen (p := ⟨g, j, none⟩) hp).trans h
theorem keepP {w w2 : World} {a b c v0 v1 : Value} {T1 T2 : TypeId} (hb : Below ((w.alloc (.cells #[a, b, c] T1)).alloc (.cells #[v0, v1] T2)).heap.size ((w.alloc (.cells #[a, b, c] T1)).alloc (.cells #[v0, v1] T2)) w2) :
    w2.cell? ⟨w.heap.size + 1, 0, none⟩ = some v0 ∧ w2.cell? ⟨w.heap.size + 1, 1, none⟩ = some v1 ∧ w2.frozen? ⟨w.heap.size + 1, 0, none⟩ = false ∧ w2.frozen? ⟨w.heap.size + 1, 1, none⟩ = false ∧ w.heap.size + 1 < w2.heap.size := by
  have h := keep2 hb; rw [World.size_alloc] at h; exact h
theorem pt_new2 {w : World} {q : Nat} (k : Int) (t : List UInt8) (h : q = w.heap.size) : PtOk (w.alloc (.cells #[.int .i64 k, .string (str t)] 45)) ⟨q, 0, 1, [⟨k, t⟩]⟩ := h ▸ pt_new w ⟨k, t⟩
theorem boxed {w : World} {q : Nat} {v0 v1 : Value} (x y : Value) (c0 : w.cell? ⟨q, 0, none⟩ = some v0) (c1 : w.cell? ⟨q, 1, none⟩ = some v1) :
    ((w.setCell ⟨q, 0, none⟩ x).setCell ⟨q, 1, none⟩ y).cell? ⟨q, 0, none⟩ = some x ∧ ((w.setCell ⟨q, 0, none⟩ x).setCell ⟨q, 1, none⟩ y).cell? ⟨q, 1, none⟩ = some y := by
  have h1 : (w.setCell ⟨q, 0, none⟩ x).cell? ⟨q, 1, none⟩ = some v1 := by rw [World.cell?_setCell_other _ _ _ _ (by simp)]; exact c1
  refine ⟨?_, World.cell?_setCell_same _ _ _ h1⟩
  rw [World.cell?_setCell_other _ _ _ _ (by simp)]
  exact World.cell?_setCell_same _ _ _ c0
theorem le_ite {c : Prop} [Decidable c] {a b n : Nat} (h1 : a ≤ n) (h2 : b ≤ n) : (if c then a else b) ≤ n := by split <;> assumption
theorem Ex.levL_le (t : List UInt8) : Ex.levL t ≤ 10 := by
  unfold Ex.levL
  repeat' (refine le_ite ?_ ?_)
  all_goals decide
theorem Ex.asL_len (ts : List Tok.Tk) (a b : Int) : (Ex.asL ts a b).length ≤ ts.length + 2 := by
  unfold Ex.asL; split <;> simp
/-- The digits of a number below 100. -/
def digs (n : Nat) : List UInt8 := Lib.decDigits n
set_option maxRecDepth 100000 in
theorem fmt_small (n : Nat) (hn : n < 100) (w : World) : Calls Tryz.prog 57 #[.int .u64 n, .int .i64 10] w fun e w' => e = .returned (.string (str (digs n))) ∧ w' = w := by
  have h0 := Tryz.internal_strconv_small n hn
  have h1 : ∀ w, Calls Tryz.prog 87 #[.int .u64 n, .int .i64 10] w fun e w' => e = .returned (.string (str (digs n))) ∧ w' = w := by
    intro w
    have b1 : decide ((n : Int) < 100) = true := by simp; omega
    go_enter Tryz.func87, Tryz.ntmps87
    go_wp2_with (go_at_call 102; refine (h0 _).mono ?_; rintro e w' ⟨rfl, rfl⟩)
    go_ret
    exact ⟨rfl, rfl⟩
  go_enter Tryz.func57, Tryz.ntmps57
  go_wp2_with (go_at_call 87; refine (h1 _).mono ?_; rintro e w' ⟨rfl, rfl⟩)
  go_ret
  exact ⟨rfl, rfl⟩
/-- The part that a call returns. -/
def GotP (w : World) (ts : List Tok.Tk) (lv : Int) : Ending → World → Prop := fun e w' => ∃ p : Pt, e = .returned (.agg #[p.v, .int .i64 lv]) ∧ p.ts = ts ∧ PtOk w' p ∧ w.heap.size ≤ p.g ∧ Below w.heap.size w w'
set_option maxHeartbeats 4000000 in
set_option maxRecDepth 100000 in
theorem part_num (n : Nat) (hn : n < 100) (t : List UInt8) (A : Option Addr) (l c : Nat) (w : World) :
    Calls Tryz.prog 31 #[.agg #[.int .i64 1, .string (str t), .int .u32 n], .slice A l c] w (GotP w [⟨2, digs n⟩] 11) := by
  go_enter Tryz.func31, Tryz.ntmps31
  go_wp2_with (go_at_call 57; refine (fmt_small n hn _).mono ?_; rintro e w' ⟨rfl, rfl⟩)
  have hb0 : Below w.heap.size w ((w.alloc (.cells #[.int .i64 1, .string (str t), .int .u32 n] 42)).alloc (.cells #[.slice none 0 0, .int .i64 0] 63)) := ((Below.refl _ _).alloc (Nat.le_refl _) _).alloc (by simp) _
  exact bodyPost_ret (v := .agg #[.slice (some ⟨w.heap.size + 2, 0, none⟩) 1 1, .int .i64 11]) (by simp [results, Tryz.results31, go_sem]) rfl ⟨⟨w.heap.size + 2, 0, 1, [⟨2, digs n⟩]⟩, rfl, rfl, pt_new2 2 (digs n) (by simp), by simp, (((Below.refl _ _).alloc (Nat.le_refl _) _).alloc (by simp) _).alloc (by simp; omega) _⟩
set_option maxHeartbeats 4000000 in
set_option maxRecDepth 100000 in
theorem part_name (n : Int) (t : List UInt8) (A : Option Addr) (l c : Nat) (w : World) :
    Calls Tryz.prog 31 #[.agg #[.int .i64 2, .string (str t), .int .u32 n], .slice A l c] w (GotP w [⟨1, t⟩] 11) := by
  go_enter Tryz.func31, Tryz.ntmps31
  go_wp2_with (go_at_call 58; refine (name_tok t _).mono ?_; rintro e w2 ⟨rfl, hb, hs⟩; obtain ⟨c0, c1, f0, f1, hs2⟩ := keepP hb)
  have hbx := boxed (.slice (some ⟨w2.heap.size, 0, none⟩) 1 1) (.int .i64 11) c0 c1
  have hb2 : Below w.heap.size w w2 := (((Below.refl w.heap.size w).alloc (Nat.le_refl _) (.cells #[.int .i64 2, .string (str t), .int .u32 n] 42)).alloc (by simp) (.cells #[.slice none 0 0, .int .i64 0] 63)).trans (hb.mono (by simp; omega))
  have hb3 := ((hb2.setCell (p := ⟨w.heap.size + 1, 0, none⟩) (by simp) (.slice (some ⟨w2.heap.size, 0, none⟩) 1 1)).setCell (p := ⟨w.heap.size + 1, 1, none⟩) (by simp) (.int .i64 11))
  have hpt := pt_new2 (w := (w2.setCell ⟨w.heap.size + 1, 0, none⟩ (.slice (some ⟨w2.heap.size, 0, none⟩) 1 1)).setCell ⟨w.heap.size + 1, 1, none⟩ (.int .i64 11)) (q := w2.heap.size) 1 t (by simp only [World.size_setCell])
  have hsz : ((w2.setCell ⟨w.heap.size + 1, 0, none⟩ (.slice (some ⟨w2.heap.size, 0, none⟩) 1 1)).setCell ⟨w.heap.size + 1, 1, none⟩ (.int .i64 11)).heap.size = w2.heap.size := by simp only [World.size_setCell]
  generalize (w2.setCell ⟨w.heap.size + 1, 0, none⟩ (.slice (some ⟨w2.heap.size, 0, none⟩) 1 1)).setCell ⟨w.heap.size + 1, 1, none⟩ (.int .i64 11) = w4 at *
  have r0 := cell_alloc (.cells #[.int .i64 1, .string (str t)] 45) (by omega) hbx.1
  have r1 := cell_alloc (.cells #[.int .i64 1, .string (str t)] 45) (by omega) hbx.2
  exact bodyPost_ret (v := .agg #[.slice (some ⟨w2.heap.size, 0, none⟩) 1 1, .int .i64 11]) (by simp [results, Tryz.results31, go_sem, r0, r1]) rfl ⟨⟨w2.heap.size, 0, 1, [⟨1, t⟩]⟩, rfl, rfl, hpt, by show w.heap.size ≤ w2.heap.size; omega, hb3.alloc (by omega) _⟩
set_option maxHeartbeats 4000000 in
set_option maxRecDepth 100000 in
theorem part_bin (n : Int) (t : List UInt8) (g o c : Nat) (a b : Pt) (la lb : Int) (w : World) (ha : PtOk w a) (hb : PtOk w b)
    (ca : w.cell? ⟨g, o, none⟩ = some a.v) (ca1 : w.cell? ⟨g, o + 1, none⟩ = some (.int .i64 la)) (cb : w.cell? ⟨g, o + 2, none⟩ = some b.v) (cb1 : w.cell? ⟨g, o + 3, none⟩ = some (.int .i64 lb))
    (hg : g < w.heap.size) (h1 : a.ts.length ≤ 10000000) (h2 : b.ts.length ≤ 10000000) :
    Calls Tryz.prog 31 #[.agg #[.int .i64 7, .string (str t), .int .u32 n], .slice (some ⟨g, o, none⟩) 2 c] w (GotP w (Ex.asL a.ts la (Ex.levL t : Nat) ++ [⟨3, t⟩] ++ Ex.asL b.ts lb ((Ex.levL t : Nat) + 1)) (Ex.levL t : Nat)) := by
  have hlev := levQ2 t
  have hlev2 := Ex.levL_le t
  generalize Ex.levL t = L at *
  go_enter Tryz.func31, Tryz.ntmps31
  go_upto_region 16 with (go_at_call 48; refine (hlev _).mono ?_; rintro e w2 ⟨rfl, rfl⟩)
  have hle1 := Ex.asL_len a.ts la L
  have hle3 := Ex.asL_len b.ts lb (L + 1)
  have hw1 : IntKind.i64.wrap ((L : Int) + 1) = (L : Int) + 1 := by rw [IntKind.wrap_i64]; omega
  have hb0 : Below w.heap.size w ((w.alloc (.cells #[.int .i64 7, .string (str t), .int .u32 n] 42)).alloc (.cells #[.slice none 0 0, .int .i64 0] 63)) := ((Below.refl _ _).alloc (Nat.le_refl _) _).alloc (by simp) _
  obtain ⟨c0, c1, f0, f1, hs0⟩ := keepP (w := w) (a := .int .i64 7) (b := .string (str t)) (c := .int .u32 n) (v0 := .slice none 0 0) (v1 := .int .i64 0) (T1 := 42) (T2 := 63) (Below.refl _ _)
  have e1 : ((w.alloc (.cells #[.int .i64 7, .string (str t), .int .u32 n] 42)).alloc (.cells #[.slice none 0 0, .int .i64 0] 63)).cell? ⟨w.heap.size, 1, none⟩ = some (.string (str t)) := cell_alloc _ (by simp) (nc1 rfl)
  have ha1 := ha.next hb0
  have hb1 := hb.next hb0
  have ea := (hb0.cell (p := ⟨g, o, none⟩) hg).trans ca
  have ea1 := (hb0.cell (p := ⟨g, o + 1, none⟩) hg).trans ca1
  have eb := (hb0.cell (p := ⟨g, o + 2, none⟩) hg).trans cb
  have eb1 := (hb0.cell (p := ⟨g, o + 3, none⟩) hg).trans cb1
  clear ha hb ca ca1 cb cb1
  generalize (w.alloc (.cells #[.int .i64 7, .string (str t), .int .u32 n] 42)).alloc (.cells #[.slice none 0 0, .int .i64 0] 63) = w0 at *
  replace c0 : w0.drew.cell? ⟨w.heap.size + 1, 0, none⟩ = some (.slice none 0 0) := c0
  replace c1 : w0.drew.cell? ⟨w.heap.size + 1, 1, none⟩ = some (.int .i64 0) := c1
  replace f0 : w0.drew.frozen? ⟨w.heap.size + 1, 0, none⟩ = false := f0
  replace f1 : w0.drew.frozen? ⟨w.heap.size + 1, 1, none⟩ = false := f1
  replace e1 : w0.drew.cell? ⟨w.heap.size, 1, none⟩ = some (.string (str t)) := e1
  replace ea : w0.drew.cell? ⟨g, o, none⟩ = some a.v := ea
  replace ea1 : w0.drew.cell? ⟨g, o + 1, none⟩ = some (.int .i64 la) := ea1
  replace eb : w0.drew.cell? ⟨g, o + 2, none⟩ = some b.v := eb
  replace eb1 : w0.drew.cell? ⟨g, o + 3, none⟩ = some (.int .i64 lb) := eb1
  replace ha1 : PtOk w0.drew a := ⟨ha1.pos, ha1.lt, ha1.at_⟩
  have hbp : PtOk w0.drew b := ⟨hb1.pos, hb1.lt, hb1.at_⟩
  have hs1 : w.heap.size + 1 < w0.drew.heap.size := hs0
  have hs2 : w.heap.size < w0.drew.heap.size := by omega
  have hg2 : g < w0.drew.heap.size := by omega
  have hb9 : Below w.heap.size w w0.drew := hb0.drew
  have n1 : w.heap.size + 1 ≠ w.heap.size := by omega
  have n2 : w.heap.size + 1 ≠ g := by omega
  have hsy := sym_tok t
  have hn1 : ∀ (w : World) (q : Nat), q = w.heap.size → PtOk (w.alloc (.cells #[.int .i64 3, .string (str t)] 45)) ⟨q, 0, 1, [⟨3, t⟩]⟩ := fun w q h => h ▸ pt_new w ⟨3, t⟩
  have hn2 := hn1
  have hA := fun w h => as_any a la L w h h1
  have hB := fun w h => as_any b lb (L + 1) w h h2
  clear hb1 hb0 hs0
  go_region_held3 (fun w' => w'.cell? ⟨w.heap.size, 1, none⟩ = some (.string (str t)) ∧ w'.cell? ⟨g, o, none⟩ = some a.v ∧ w'.cell? ⟨g, o + 1, none⟩ = some (.int .i64 la) ∧ w'.cell? ⟨g, o + 2, none⟩ = some b.v ∧ w'.cell? ⟨g, o + 3, none⟩ = some (.int .i64 lb)) (first | exact ⟨s1, s2, s3, s4, s5⟩ | exact ⟨cell_set n1 (cell_set n1 s1), cell_set n2 (cell_set n2 s2), cell_set n2 (cell_set n2 s3), cell_set n2 (cell_set n2 s4), cell_set n2 (cell_set n2 s5)⟩ | (refine ⟨?_, ?_, ?_, ?_, ?_⟩ <;> (with_reducible (repeat' (first | assumption | (exact hn1 _ _ (by simp)) | (exact hn2 _ _ (by simp)) | (refine cell_alloc _ ?_ ?_) | (refine cell_below (by assumption) ?_ ?_) | (refine pt_alloc _ ?_) | (refine PtOk.next ?_ (by assumption)) | (refine lt_alloc _ ?_) | (refine lt_below (by assumption) ?_) | (refine be_alloc _ ?_ ?_) | (refine be_below (by assumption) ?_ ?_) | (refine cell_set ?_ ?_) | (refine fz_alloc _ ?_ ?_) | (refine fz_below (by assumption) ?_ ?_) | (refine Nat.le_of_lt ?_)))))) (first
    | (go_at_call 62; with_reducible refine (hA _ ?_).mono ?_; (with_reducible (repeat' (first | assumption | (exact hn1 _ _ (by simp)) | (exact hn2 _ _ (by simp)) | (refine cell_alloc _ ?_ ?_) | (refine cell_below (by assumption) ?_ ?_) | (refine pt_alloc _ ?_) | (refine PtOk.next ?_ (by assumption)) | (refine lt_alloc _ ?_) | (refine lt_below (by assumption) ?_) | (refine be_alloc _ ?_ ?_) | (refine be_below (by assumption) ?_ ?_) | (refine cell_set ?_ ?_) | (refine fz_alloc _ ?_ ?_) | (refine fz_below (by assumption) ?_ ?_) | (refine Nat.le_of_lt ?_)))); rintro e w3 ⟨P1, rfl, hu1, hk1, hb3, hs3⟩; rw [Pt.v_def P1]; have ht1 := Lib.hid hu1; clear hu1)
    | (go_at_call 62; with_reducible refine (hB _ ?_).mono ?_; (with_reducible (repeat' (first | assumption | (exact hn1 _ _ (by simp)) | (exact hn2 _ _ (by simp)) | (refine cell_alloc _ ?_ ?_) | (refine cell_below (by assumption) ?_ ?_) | (refine pt_alloc _ ?_) | (refine PtOk.next ?_ (by assumption)) | (refine lt_alloc _ ?_) | (refine lt_below (by assumption) ?_) | (refine be_alloc _ ?_ ?_) | (refine be_below (by assumption) ?_ ?_) | (refine cell_set ?_ ?_) | (refine fz_alloc _ ?_ ?_) | (refine fz_below (by assumption) ?_ ?_) | (refine Nat.le_of_lt ?_)))); rintro e w4 ⟨P3, rfl, hu3, hk3, hb4, hs4⟩; rw [Pt.v_def P3]; have ht3 := Lib.hid hu3; clear hu3)
    | (go_at_call 61; with_reducible refine (hsy _).mono ?_; rintro e w5 ⟨rfl, hb5, hs5⟩)
    | (go_at_call 60; (refine (concat3 _ _ _ [⟨3, t⟩] P3.ts _ (by simp) ⟨P1, Eq.trans (nc0 (by simp)) (congrArg some rfl), rfl, by (with_reducible (repeat' (first | assumption | (exact hn1 _ _ (by simp)) | (exact hn2 _ _ (by simp)) | (refine cell_alloc _ ?_ ?_) | (refine cell_below (by assumption) ?_ ?_) | (refine pt_alloc _ ?_) | (refine PtOk.next ?_ (by assumption)) | (refine lt_alloc _ ?_) | (refine lt_below (by assumption) ?_) | (refine be_alloc _ ?_ ?_) | (refine be_below (by assumption) ?_ ?_) | (refine cell_set ?_ ?_) | (refine fz_alloc _ ?_ ?_) | (refine fz_below (by assumption) ?_ ?_) | (refine Nat.le_of_lt ?_))))⟩ ⟨⟨_, 0, 1, [⟨3, t⟩]⟩, Eq.trans (nc1 (by simp)) (congrArg some rfl), rfl, by (with_reducible (repeat' (first | assumption | (exact hn1 _ _ (by simp)) | (exact hn2 _ _ (by simp)) | (refine cell_alloc _ ?_ ?_) | (refine cell_below (by assumption) ?_ ?_) | (refine pt_alloc _ ?_) | (refine PtOk.next ?_ (by assumption)) | (refine lt_alloc _ ?_) | (refine lt_below (by assumption) ?_) | (refine be_alloc _ ?_ ?_) | (refine be_below (by assumption) ?_ ?_) | (refine cell_set ?_ ?_) | (refine fz_alloc _ ?_ ?_) | (refine fz_below (by assumption) ?_ ?_) | (refine Nat.le_of_lt ?_))))⟩ ⟨P3, Eq.trans (nc2 (by simp)) (congrArg some rfl), rfl, by (with_reducible (repeat' (first | assumption | (exact hn1 _ _ (by simp)) | (exact hn2 _ _ (by simp)) | (refine cell_alloc _ ?_ ?_) | (refine cell_below (by assumption) ?_ ?_) | (refine pt_alloc _ ?_) | (refine PtOk.next ?_ (by assumption)) | (refine lt_alloc _ ?_) | (refine lt_below (by assumption) ?_) | (refine be_alloc _ ?_ ?_) | (refine be_below (by assumption) ?_ ?_) | (refine cell_set ?_ ?_) | (refine fz_alloc _ ?_ ?_) | (refine fz_below (by assumption) ?_ ?_) | (refine Nat.le_of_lt ?_))))⟩ (by rw [ht1.out]; omega) (by simp) (by rw [ht3.out]; omega)).mono ?_); rintro e w7 ⟨p2, rfl, hu, hk, hb7, hs7⟩; have ht := Lib.hid hu; clear hu; have hq7 : w.heap.size + 1 < p2.g := (by refine Nat.lt_of_lt_of_le ?_ hs7; (with_reducible (repeat' (first | assumption | (exact hn1 _ _ (by simp)) | (exact hn2 _ _ (by simp)) | (refine cell_alloc _ ?_ ?_) | (refine cell_below (by assumption) ?_ ?_) | (refine pt_alloc _ ?_) | (refine PtOk.next ?_ (by assumption)) | (refine lt_alloc _ ?_) | (refine lt_below (by assumption) ?_) | (refine be_alloc _ ?_ ?_) | (refine be_below (by assumption) ?_ ?_) | (refine cell_set ?_ ?_) | (refine fz_alloc _ ?_ ?_) | (refine fz_below (by assumption) ?_ ?_) | (refine Nat.le_of_lt ?_))))); have c7 : w7.cell? ⟨w.heap.size + 1, 0, none⟩ = some (.slice none 0 0) := (by (with_reducible (repeat' (first | assumption | (exact hn1 _ _ (by simp)) | (exact hn2 _ _ (by simp)) | (refine cell_alloc _ ?_ ?_) | (refine cell_below (by assumption) ?_ ?_) | (refine pt_alloc _ ?_) | (refine PtOk.next ?_ (by assumption)) | (refine lt_alloc _ ?_) | (refine lt_below (by assumption) ?_) | (refine be_alloc _ ?_ ?_) | (refine be_below (by assumption) ?_ ?_) | (refine cell_set ?_ ?_) | (refine fz_alloc _ ?_ ?_) | (refine fz_below (by assumption) ?_ ?_) | (refine Nat.le_of_lt ?_))))); have d7 : w7.cell? ⟨w.heap.size + 1, 1, none⟩ = some (.int .i64 0) := (by (with_reducible (repeat' (first | assumption | (exact hn1 _ _ (by simp)) | (exact hn2 _ _ (by simp)) | (refine cell_alloc _ ?_ ?_) | (refine cell_below (by assumption) ?_ ?_) | (refine pt_alloc _ ?_) | (refine PtOk.next ?_ (by assumption)) | (refine lt_alloc _ ?_) | (refine lt_below (by assumption) ?_) | (refine be_alloc _ ?_ ?_) | (refine be_below (by assumption) ?_ ?_) | (refine cell_set ?_ ?_) | (refine fz_alloc _ ?_ ?_) | (refine fz_below (by assumption) ?_ ?_) | (refine Nat.le_of_lt ?_))))); have f7 : w7.frozen? ⟨w.heap.size + 1, 0, none⟩ = false := (by (with_reducible (repeat' (first | assumption | (exact hn1 _ _ (by simp)) | (exact hn2 _ _ (by simp)) | (refine cell_alloc _ ?_ ?_) | (refine cell_below (by assumption) ?_ ?_) | (refine pt_alloc _ ?_) | (refine PtOk.next ?_ (by assumption)) | (refine lt_alloc _ ?_) | (refine lt_below (by assumption) ?_) | (refine be_alloc _ ?_ ?_) | (refine be_below (by assumption) ?_ ?_) | (refine cell_set ?_ ?_) | (refine fz_alloc _ ?_ ?_) | (refine fz_below (by assumption) ?_ ?_) | (refine Nat.le_of_lt ?_))))); have g7 : w7.frozen? ⟨w.heap.size + 1, 1, none⟩ = false := (by (with_reducible (repeat' (first | assumption | (exact hn1 _ _ (by simp)) | (exact hn2 _ _ (by simp)) | (refine cell_alloc _ ?_ ?_) | (refine cell_below (by assumption) ?_ ?_) | (refine pt_alloc _ ?_) | (refine PtOk.next ?_ (by assumption)) | (refine lt_alloc _ ?_) | (refine lt_below (by assumption) ?_) | (refine be_alloc _ ?_ ?_) | (refine be_below (by assumption) ?_ ?_) | (refine cell_set ?_ ?_) | (refine fz_alloc _ ?_ ?_) | (refine fz_below (by assumption) ?_ ?_) | (refine Nat.le_of_lt ?_))))); have s1 : w7.cell? ⟨w.heap.size, 1, none⟩ = some (.string (str t)) := (by (with_reducible (repeat' (first | assumption | (exact hn1 _ _ (by simp)) | (exact hn2 _ _ (by simp)) | (refine cell_alloc _ ?_ ?_) | (refine cell_below (by assumption) ?_ ?_) | (refine pt_alloc _ ?_) | (refine PtOk.next ?_ (by assumption)) | (refine lt_alloc _ ?_) | (refine lt_below (by assumption) ?_) | (refine be_alloc _ ?_ ?_) | (refine be_below (by assumption) ?_ ?_) | (refine cell_set ?_ ?_) | (refine fz_alloc _ ?_ ?_) | (refine fz_below (by assumption) ?_ ?_) | (refine Nat.le_of_lt ?_))))); have s2 : w7.cell? ⟨g, o, none⟩ = some a.v := (by (with_reducible (repeat' (first | assumption | (exact hn1 _ _ (by simp)) | (exact hn2 _ _ (by simp)) | (refine cell_alloc _ ?_ ?_) | (refine cell_below (by assumption) ?_ ?_) | (refine pt_alloc _ ?_) | (refine PtOk.next ?_ (by assumption)) | (refine lt_alloc _ ?_) | (refine lt_below (by assumption) ?_) | (refine be_alloc _ ?_ ?_) | (refine be_below (by assumption) ?_ ?_) | (refine cell_set ?_ ?_) | (refine fz_alloc _ ?_ ?_) | (refine fz_below (by assumption) ?_ ?_) | (refine Nat.le_of_lt ?_))))); have s3 : w7.cell? ⟨g, o + 1, none⟩ = some (.int .i64 la) := (by (with_reducible (repeat' (first | assumption | (exact hn1 _ _ (by simp)) | (exact hn2 _ _ (by simp)) | (refine cell_alloc _ ?_ ?_) | (refine cell_below (by assumption) ?_ ?_) | (refine pt_alloc _ ?_) | (refine PtOk.next ?_ (by assumption)) | (refine lt_alloc _ ?_) | (refine lt_below (by assumption) ?_) | (refine be_alloc _ ?_ ?_) | (refine be_below (by assumption) ?_ ?_) | (refine cell_set ?_ ?_) | (refine fz_alloc _ ?_ ?_) | (refine fz_below (by assumption) ?_ ?_) | (refine Nat.le_of_lt ?_))))); have s4 : w7.cell? ⟨g, o + 2, none⟩ = some b.v := (by (with_reducible (repeat' (first | assumption | (exact hn1 _ _ (by simp)) | (exact hn2 _ _ (by simp)) | (refine cell_alloc _ ?_ ?_) | (refine cell_below (by assumption) ?_ ?_) | (refine pt_alloc _ ?_) | (refine PtOk.next ?_ (by assumption)) | (refine lt_alloc _ ?_) | (refine lt_below (by assumption) ?_) | (refine be_alloc _ ?_ ?_) | (refine be_below (by assumption) ?_ ?_) | (refine cell_set ?_ ?_) | (refine fz_alloc _ ?_ ?_) | (refine fz_below (by assumption) ?_ ?_) | (refine Nat.le_of_lt ?_))))); have s5 : w7.cell? ⟨g, o + 3, none⟩ = some (.int .i64 lb) := (by (with_reducible (repeat' (first | assumption | (exact hn1 _ _ (by simp)) | (exact hn2 _ _ (by simp)) | (refine cell_alloc _ ?_ ?_) | (refine cell_below (by assumption) ?_ ?_) | (refine pt_alloc _ ?_) | (refine PtOk.next ?_ (by assumption)) | (refine lt_alloc _ ?_) | (refine lt_below (by assumption) ?_) | (refine be_alloc _ ?_ ?_) | (refine be_below (by assumption) ?_ ?_) | (refine cell_set ?_ ?_) | (refine fz_alloc _ ?_ ?_) | (refine fz_below (by assumption) ?_ ?_) | (refine Nat.le_of_lt ?_))))); have hbw : Below w.heap.size w w7 := (by (with_reducible (repeat' (first | assumption | (exact hn1 _ _ (by simp)) | (exact hn2 _ _ (by simp)) | (refine cell_alloc _ ?_ ?_) | (refine cell_below (by assumption) ?_ ?_) | (refine pt_alloc _ ?_) | (refine PtOk.next ?_ (by assumption)) | (refine lt_alloc _ ?_) | (refine lt_below (by assumption) ?_) | (refine be_alloc _ ?_ ?_) | (refine be_below (by assumption) ?_ ?_) | (refine cell_set ?_ ?_) | (refine fz_alloc _ ?_ ?_) | (refine fz_below (by assumption) ?_ ?_) | (refine Nat.le_of_lt ?_))))); rw [Pt.v_def p2]))
  all_goals (
    have hbx := boxed (.slice (some ⟨p2.g, p2.o, none⟩) p2.ts.length p2.c) (.int .i64 L) c7 d7
    have hne : w.heap.size + 1 ≠ p2.g := by omega
    have hk2 := pt_set (w.heap.size + 1) 1 (.int .i64 L) (pt_set (w.heap.size + 1) 0 (.slice (some ⟨p2.g, p2.o, none⟩) p2.ts.length p2.c) hk hne) hne
    go_wp2_with fail
    exact bodyPost_ret (v := .agg #[.slice (some ⟨p2.g, p2.o, none⟩) p2.ts.length p2.c, .int .i64 L]) (by simp [results, Tryz.results31, go_sem, hbx.1, hbx.2]) rfl ⟨p2, rfl, by rw [ht.out, ht1.out, ht3.out], hk2, by omega, (hbw.setCell (by simp) _).setCell (by simp) _⟩)
end Go.Proofs.YtndehkoglgakpaaGreatDoor
