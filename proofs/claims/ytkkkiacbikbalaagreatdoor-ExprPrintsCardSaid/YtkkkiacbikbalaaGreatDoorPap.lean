/- The part of any operation. Condition: the lengths, and the library's table of powers of ten. -/
import Derived.Test.YtkkkiacbikbalaaGreatDoorCal
namespace Go.Proofs.YtkkkiacbikbalaaGreatDoor
open Go.RowKit Go.Deep

theorem inP_asL (ts : List Tok.Tk) (a b : Int) : Ex.asL ts a b = Ex.inP ts a b := rfl
theorem nd0 {w : World} {a b : Value} {t : TypeId} {q : Nat} (hq : q = w.heap.size) : (w.alloc (.cells #[a, b] t)).cell? ⟨q, 0, none⟩ = some a := new_cell2 hq rfl
theorem nd1 {w : World} {a b : Value} {t : TypeId} {q : Nat} (hq : q = w.heap.size) : (w.alloc (.cells #[a, b] t)).cell? ⟨q, 1, none⟩ = some b := new_cell2 hq rfl
theorem concat2 (q c : Nat) (t1 t2 : List Tok.Tk) (w : World) (hq : q < w.heap.size) (h1 : PtAt w q 0 t1) (h2 : PtAt w q 1 t2) (l1 : t1.length ≤ 20000000) (l2 : t2.length ≤ 20000000) :
    Calls Tryz.prog 60 #[.slice (some ⟨q, 0, none⟩) 2 c] w fun e w' => ∃ p2 : Pt, e = .returned p2.v ∧ p2.ts = t1 ++ t2 ∧ PtOk w' p2 ∧ Below w.heap.size w w' ∧ w.heap.size ≤ p2.g := by
  obtain ⟨P1, h0, rfl, k1⟩ := h1
  obtain ⟨P2, h1, rfl, k2⟩ := h2
  have hts : catL [P1, P2] = P1.ts ++ P2.ts := by simp [catL]
  refine (concat_any q c [P1, P2] w hq ?_ ?_ (by simp) (by simp) ?_).mono ?_
  · intro i hi
    match i, hi with
    | 0, _ => exact h0
    | 1, _ => exact h1
    | i + 2, hi => simp at hi; omega
  · intro p hp
    simp at hp
    rcases hp with rfl | rfl
    · exact k1
    · exact k2
  · rw [hts]; simp; omega
  · rintro e w' ⟨v, rfl, hown, hb⟩
    rw [hts] at hown
    obtain ⟨p2, rfl, ht, hk, hg⟩ := own_pt hown (by have := k1.pos; simp; omega)
    exact ⟨p2, rfl, ht, hk, hb, hg⟩
set_option maxHeartbeats 4000000 in
set_option maxRecDepth 100000 in
theorem part_call (n : Int) (t : List UInt8) (A : Option Addr) (c : Nat) (L : List Pl) (w : World) (hA : VAt w w.heap.size A L) (hl : L.length ≤ 300) (hlen : ∀ p ∈ L, p.1.ts.length ≤ 100000) :
    Calls Tryz.prog 31 #[.agg #[.int .i64 3, .string (str t), .int .u32 n], .slice A L.length c] w (GotP w (Ex.callT t (L.map (fun p => p.1.ts))) 11) := by
  have hb0 : Below w.heap.size w ((w.alloc (.cells #[.int .i64 3, .string (str t), .int .u32 n] 42)).alloc (.cells #[.slice none 0 0, .int .i64 0] 63)) := ((Below.refl _ _).alloc (Nat.le_refl _) _).alloc (by simp) _
  have hcall := call_any A c t L ((w.alloc (.cells #[.int .i64 3, .string (str t), .int .u32 n] 42)).alloc (.cells #[.slice none 0 0, .int .i64 0] 63)) (hA.next hb0) hl hlen
  generalize Ex.callT t (L.map (fun p => p.1.ts)) = R at *
  unfold GotP at hcall
  clear hA hlen
  go_enter Tryz.func31, Tryz.ntmps31
  go_wp2_with fail
  with_reducible refine hcall.mono ?_
  clear hcall
  rintro e w2 ⟨p, rfl, hu, hk, hg, hb⟩
  have HU := Lib.hid hu
  clear hu
  obtain ⟨c0, c1, f0, f1, hs2⟩ := keepP hb
  have hb2 : Below w.heap.size w w2 := hb0.trans (hb.mono (by simp; omega))
  rw [Pt.v_def p]
  have hbx := boxed (.slice (some ⟨p.g, p.o, none⟩) p.ts.length p.c) (.int .i64 11) c0 c1
  have hne : w.heap.size + 1 ≠ p.g := by simp at hg; omega
  have hk2 := pt_set (w.heap.size + 1) 1 (.int .i64 11) (pt_set (w.heap.size + 1) 0 (.slice (some ⟨p.g, p.o, none⟩) p.ts.length p.c) hk hne) hne
  have hgw : w.heap.size ≤ p.g := by simp at hg; omega
  clear hb hb0 hg hk
  go_wp2_with fail
  exact bodyPost_ret (v := .agg #[.slice (some ⟨p.g, p.o, none⟩) p.ts.length p.c, .int .i64 11]) (by simp [results, Tryz.results31, go_sem, hbx.1, hbx.2]) rfl ⟨p, rfl, HU.out, hk2, hgw, (hb2.setCell (by simp) _).setCell (by simp) _⟩
set_option maxHeartbeats 4000000 in
set_option maxRecDepth 100000 in
theorem part_load (n : Int) (t : List UInt8) (A : Option Addr) (c : Nat) (L : List Pl) (w : World) (hA : VAt w w.heap.size A L) (hl : L.length ≤ 300) (hlen : ∀ p ∈ L, p.1.ts.length ≤ 100000) :
    Calls Tryz.prog 31 #[.agg #[.int .i64 4, .string (str t), .int .u32 n], .slice A L.length c] w (GotP w (Ex.callT [108, 111, 97, 100] (L.map (fun p => p.1.ts))) 11) := by
  have hb0 : Below w.heap.size w ((w.alloc (.cells #[.int .i64 4, .string (str t), .int .u32 n] 42)).alloc (.cells #[.slice none 0 0, .int .i64 0] 63)) := ((Below.refl _ _).alloc (Nat.le_refl _) _).alloc (by simp) _
  have hcall := call_any A c [108, 111, 97, 100] L ((w.alloc (.cells #[.int .i64 4, .string (str t), .int .u32 n] 42)).alloc (.cells #[.slice none 0 0, .int .i64 0] 63)) (hA.next hb0) hl hlen
  generalize Ex.callT [108, 111, 97, 100] (L.map (fun p => p.1.ts)) = R at *
  unfold GotP at hcall
  rw [show str [108, 111, 97, 100] = (⟨#[108, 111, 97, 100]⟩ : ByteArray) from rfl] at hcall
  clear hA hlen
  go_enter Tryz.func31, Tryz.ntmps31
  go_wp2_with fail
  with_reducible refine hcall.mono ?_
  clear hcall
  rintro e w2 ⟨p, rfl, hu, hk, hg, hb⟩
  have HU := Lib.hid hu
  clear hu
  obtain ⟨c0, c1, f0, f1, hs2⟩ := keepP hb
  have hb2 : Below w.heap.size w w2 := hb0.trans (hb.mono (by simp; omega))
  rw [Pt.v_def p]
  have hbx := boxed (.slice (some ⟨p.g, p.o, none⟩) p.ts.length p.c) (.int .i64 11) c0 c1
  have hne : w.heap.size + 1 ≠ p.g := by simp at hg; omega
  have hk2 := pt_set (w.heap.size + 1) 1 (.int .i64 11) (pt_set (w.heap.size + 1) 0 (.slice (some ⟨p.g, p.o, none⟩) p.ts.length p.c) hk hne) hne
  have hgw : w.heap.size ≤ p.g := by simp at hg; omega
  clear hb hb0 hg hk
  go_wp2_with fail
  exact bodyPost_ret (v := .agg #[.slice (some ⟨p.g, p.o, none⟩) p.ts.length p.c, .int .i64 11]) (by simp [results, Tryz.results31, go_sem, hbx.1, hbx.2]) rfl ⟨p, rfl, HU.out, hk2, hgw, (hb2.setCell (by simp) _).setCell (by simp) _⟩
set_option maxHeartbeats 4000000 in
set_option maxRecDepth 100000 in
theorem part_inn (n : Int) (t : List UInt8) (A : Option Addr) (c : Nat) (L : List Pl) (w : World) (hA : VAt w w.heap.size A L) (hl : L.length ≤ 300) (hlen : ∀ p ∈ L, p.1.ts.length ≤ 100000) :
    Calls Tryz.prog 31 #[.agg #[.int .i64 5, .string (str t), .int .u32 n], .slice A L.length c] w (GotP w (Ex.callT [105, 110] (L.map (fun p => p.1.ts))) 11) := by
  have hb0 : Below w.heap.size w ((w.alloc (.cells #[.int .i64 5, .string (str t), .int .u32 n] 42)).alloc (.cells #[.slice none 0 0, .int .i64 0] 63)) := ((Below.refl _ _).alloc (Nat.le_refl _) _).alloc (by simp) _
  have hcall := call_any A c [105, 110] L ((w.alloc (.cells #[.int .i64 5, .string (str t), .int .u32 n] 42)).alloc (.cells #[.slice none 0 0, .int .i64 0] 63)) (hA.next hb0) hl hlen
  generalize Ex.callT [105, 110] (L.map (fun p => p.1.ts)) = R at *
  unfold GotP at hcall
  rw [show str [105, 110] = (⟨#[105, 110]⟩ : ByteArray) from rfl] at hcall
  clear hA hlen
  go_enter Tryz.func31, Tryz.ntmps31
  go_wp2_with fail
  with_reducible refine hcall.mono ?_
  clear hcall
  rintro e w2 ⟨p, rfl, hu, hk, hg, hb⟩
  have HU := Lib.hid hu
  clear hu
  obtain ⟨c0, c1, f0, f1, hs2⟩ := keepP hb
  have hb2 : Below w.heap.size w w2 := hb0.trans (hb.mono (by simp; omega))
  rw [Pt.v_def p]
  have hbx := boxed (.slice (some ⟨p.g, p.o, none⟩) p.ts.length p.c) (.int .i64 11) c0 c1
  have hne : w.heap.size + 1 ≠ p.g := by simp at hg; omega
  have hk2 := pt_set (w.heap.size + 1) 1 (.int .i64 11) (pt_set (w.heap.size + 1) 0 (.slice (some ⟨p.g, p.o, none⟩) p.ts.length p.c) hk hne) hne
  have hgw : w.heap.size ≤ p.g := by simp at hg; omega
  clear hb hb0 hg hk
  go_wp2_with fail
  exact bodyPost_ret (v := .agg #[.slice (some ⟨p.g, p.o, none⟩) p.ts.length p.c, .int .i64 11]) (by simp [results, Tryz.results31, go_sem, hbx.1, hbx.2]) rfl ⟨p, rfl, HU.out, hk2, hgw, (hb2.setCell (by simp) _).setCell (by simp) _⟩
set_option maxHeartbeats 4000000 in
set_option maxRecDepth 100000 in
theorem part_un (n : Int) (t : List UInt8) (g o c : Nat) (a : Pt) (la : Int) (w : World) (ha : PtOk w a)
    (ca : w.cell? ⟨g, o, none⟩ = some a.v) (ca1 : w.cell? ⟨g, o + 1, none⟩ = some (.int .i64 la))
    (hg : g < w.heap.size) (h1 : a.ts.length ≤ 10000000) :
    Calls Tryz.prog 31 #[.agg #[.int .i64 6, .string (str t), .int .u32 n], .slice (some ⟨g, o, none⟩) 1 c] w (GotP w ([⟨3, t⟩] ++ Ex.asL a.ts la 11) 11) := by
  go_enter Tryz.func31, Tryz.ntmps31
  go_upto_region 14 with fail
  have hle1 := Ex.asL_len a.ts la 11
  have hb0 : Below w.heap.size w ((w.alloc (.cells #[.int .i64 6, .string (str t), .int .u32 n] 42)).alloc (.cells #[.slice none 0 0, .int .i64 0] 63)) := ((Below.refl _ _).alloc (Nat.le_refl _) _).alloc (by simp) _
  obtain ⟨c0, c1, f0, f1, hs0⟩ := keepP (w := w) (a := .int .i64 6) (b := .string (str t)) (c := .int .u32 n) (v0 := .slice none 0 0) (v1 := .int .i64 0) (T1 := 42) (T2 := 63) (Below.refl _ _)
  have e1 : ((w.alloc (.cells #[.int .i64 6, .string (str t), .int .u32 n] 42)).alloc (.cells #[.slice none 0 0, .int .i64 0] 63)).cell? ⟨w.heap.size, 1, none⟩ = some (.string (str t)) := cell_alloc _ (by simp) (nc1 rfl)
  have ha1 := ha.next hb0
  have ea := (hb0.cell (p := ⟨g, o, none⟩) hg).trans ca
  have ea1 := (hb0.cell (p := ⟨g, o + 1, none⟩) hg).trans ca1
  clear ha ca ca1
  generalize (w.alloc (.cells #[.int .i64 6, .string (str t), .int .u32 n] 42)).alloc (.cells #[.slice none 0 0, .int .i64 0] 63) = w0 at *
  replace c0 : w0.drew.cell? ⟨w.heap.size + 1, 0, none⟩ = some (.slice none 0 0) := c0
  replace c1 : w0.drew.cell? ⟨w.heap.size + 1, 1, none⟩ = some (.int .i64 0) := c1
  replace f0 : w0.drew.frozen? ⟨w.heap.size + 1, 0, none⟩ = false := f0
  replace f1 : w0.drew.frozen? ⟨w.heap.size + 1, 1, none⟩ = false := f1
  replace e1 : w0.drew.cell? ⟨w.heap.size, 1, none⟩ = some (.string (str t)) := e1
  replace ea : w0.drew.cell? ⟨g, o, none⟩ = some a.v := ea
  replace ea1 : w0.drew.cell? ⟨g, o + 1, none⟩ = some (.int .i64 la) := ea1
  replace ha1 : PtOk w0.drew a := ⟨ha1.pos, ha1.lt, ha1.at_⟩
  have hs1 : w.heap.size + 1 < w0.drew.heap.size := hs0
  have hs2 : w.heap.size < w0.drew.heap.size := by omega
  have hg2 : g < w0.drew.heap.size := by omega
  have hb9 : Below w.heap.size w w0.drew := hb0.drew
  have n1 : w.heap.size + 1 ≠ w.heap.size := by omega
  have n2 : w.heap.size + 1 ≠ g := by omega
  have hsy := sym_tok t
  have hn1 : ∀ (w : World) (q : Nat), q = w.heap.size → PtOk (w.alloc (.cells #[.int .i64 3, .string (str t)] 45)) ⟨q, 0, 1, [⟨3, t⟩]⟩ := fun w q h => h ▸ pt_new w ⟨3, t⟩
  have hA := fun w h => as_any a la 11 w h h1
  clear hb0 hs0
  go_region_held3 (fun w' => w'.cell? ⟨w.heap.size, 1, none⟩ = some (.string (str t)) ∧ w'.cell? ⟨g, o, none⟩ = some a.v ∧ w'.cell? ⟨g, o + 1, none⟩ = some (.int .i64 la)) (first | exact ⟨s1, s2, s3⟩ | exact ⟨cell_set n1 (cell_set n1 s1), cell_set n2 (cell_set n2 s2), cell_set n2 (cell_set n2 s3)⟩ | (refine ⟨?_, ?_, ?_⟩ <;> (with_reducible (repeat' (first | assumption | (exact hn1 _ _ (by simp)) | (refine cell_alloc _ ?_ ?_) | (refine cell_below (by assumption) ?_ ?_) | (refine pt_alloc _ ?_) | (refine PtOk.next ?_ (by assumption)) | (refine lt_alloc _ ?_) | (refine lt_below (by assumption) ?_) | (refine be_alloc _ ?_ ?_) | (refine be_below (by assumption) ?_ ?_) | (refine cell_set ?_ ?_) | (refine fz_alloc _ ?_ ?_) | (refine fz_below (by assumption) ?_ ?_) | (refine Nat.le_of_lt ?_)))))) (first
    | (go_at_call 62; with_reducible refine (hA _ ?_).mono ?_; (with_reducible (repeat' (first | assumption | (exact hn1 _ _ (by simp)) | (refine cell_alloc _ ?_ ?_) | (refine cell_below (by assumption) ?_ ?_) | (refine pt_alloc _ ?_) | (refine PtOk.next ?_ (by assumption)) | (refine lt_alloc _ ?_) | (refine lt_below (by assumption) ?_) | (refine be_alloc _ ?_ ?_) | (refine be_below (by assumption) ?_ ?_) | (refine cell_set ?_ ?_) | (refine fz_alloc _ ?_ ?_) | (refine fz_below (by assumption) ?_ ?_) | (refine Nat.le_of_lt ?_)))); rintro e w3 ⟨P1, rfl, hu1, hk1, hb3, hs3⟩; rw [Pt.v_def P1]; have ht1 := Lib.hid hu1; clear hu1)
    | (go_at_call 61; with_reducible refine (hsy _).mono ?_; rintro e w5 ⟨rfl, hb5, hs5⟩)
    | (go_at_call 60; (refine (concat2 _ _ [⟨3, t⟩] P1.ts _ (by simp) ⟨⟨_, 0, 1, [⟨3, t⟩]⟩, Eq.trans (nd0 (by simp)) (congrArg some rfl), rfl, by (with_reducible (repeat' (first | assumption | (exact hn1 _ _ (by simp)) | (refine cell_alloc _ ?_ ?_) | (refine cell_below (by assumption) ?_ ?_) | (refine pt_alloc _ ?_) | (refine PtOk.next ?_ (by assumption)) | (refine lt_alloc _ ?_) | (refine lt_below (by assumption) ?_) | (refine be_alloc _ ?_ ?_) | (refine be_below (by assumption) ?_ ?_) | (refine cell_set ?_ ?_) | (refine fz_alloc _ ?_ ?_) | (refine fz_below (by assumption) ?_ ?_) | (refine Nat.le_of_lt ?_))))⟩ ⟨P1, Eq.trans (nd1 (by simp)) (congrArg some rfl), rfl, by (with_reducible (repeat' (first | assumption | (exact hn1 _ _ (by simp)) | (refine cell_alloc _ ?_ ?_) | (refine cell_below (by assumption) ?_ ?_) | (refine pt_alloc _ ?_) | (refine PtOk.next ?_ (by assumption)) | (refine lt_alloc _ ?_) | (refine lt_below (by assumption) ?_) | (refine be_alloc _ ?_ ?_) | (refine be_below (by assumption) ?_ ?_) | (refine cell_set ?_ ?_) | (refine fz_alloc _ ?_ ?_) | (refine fz_below (by assumption) ?_ ?_) | (refine Nat.le_of_lt ?_))))⟩ (by simp) (by rw [ht1.out]; omega)).mono ?_); rintro e w7 ⟨p2, rfl, hu, hk, hb7, hs7⟩; have ht := Lib.hid hu; clear hu; have hq7 : w.heap.size + 1 < p2.g := (by refine Nat.lt_of_lt_of_le ?_ hs7; (with_reducible (repeat' (first | assumption | (exact hn1 _ _ (by simp)) | (refine cell_alloc _ ?_ ?_) | (refine cell_below (by assumption) ?_ ?_) | (refine pt_alloc _ ?_) | (refine PtOk.next ?_ (by assumption)) | (refine lt_alloc _ ?_) | (refine lt_below (by assumption) ?_) | (refine be_alloc _ ?_ ?_) | (refine be_below (by assumption) ?_ ?_) | (refine cell_set ?_ ?_) | (refine fz_alloc _ ?_ ?_) | (refine fz_below (by assumption) ?_ ?_) | (refine Nat.le_of_lt ?_))))); have c7 : w7.cell? ⟨w.heap.size + 1, 0, none⟩ = some (.slice none 0 0) := (by (with_reducible (repeat' (first | assumption | (exact hn1 _ _ (by simp)) | (refine cell_alloc _ ?_ ?_) | (refine cell_below (by assumption) ?_ ?_) | (refine pt_alloc _ ?_) | (refine PtOk.next ?_ (by assumption)) | (refine lt_alloc _ ?_) | (refine lt_below (by assumption) ?_) | (refine be_alloc _ ?_ ?_) | (refine be_below (by assumption) ?_ ?_) | (refine cell_set ?_ ?_) | (refine fz_alloc _ ?_ ?_) | (refine fz_below (by assumption) ?_ ?_) | (refine Nat.le_of_lt ?_))))); have d7 : w7.cell? ⟨w.heap.size + 1, 1, none⟩ = some (.int .i64 0) := (by (with_reducible (repeat' (first | assumption | (exact hn1 _ _ (by simp)) | (refine cell_alloc _ ?_ ?_) | (refine cell_below (by assumption) ?_ ?_) | (refine pt_alloc _ ?_) | (refine PtOk.next ?_ (by assumption)) | (refine lt_alloc _ ?_) | (refine lt_below (by assumption) ?_) | (refine be_alloc _ ?_ ?_) | (refine be_below (by assumption) ?_ ?_) | (refine cell_set ?_ ?_) | (refine fz_alloc _ ?_ ?_) | (refine fz_below (by assumption) ?_ ?_) | (refine Nat.le_of_lt ?_))))); have f7 : w7.frozen? ⟨w.heap.size + 1, 0, none⟩ = false := (by (with_reducible (repeat' (first | assumption | (exact hn1 _ _ (by simp)) | (refine cell_alloc _ ?_ ?_) | (refine cell_below (by assumption) ?_ ?_) | (refine pt_alloc _ ?_) | (refine PtOk.next ?_ (by assumption)) | (refine lt_alloc _ ?_) | (refine lt_below (by assumption) ?_) | (refine be_alloc _ ?_ ?_) | (refine be_below (by assumption) ?_ ?_) | (refine cell_set ?_ ?_) | (refine fz_alloc _ ?_ ?_) | (refine fz_below (by assumption) ?_ ?_) | (refine Nat.le_of_lt ?_))))); have g7 : w7.frozen? ⟨w.heap.size + 1, 1, none⟩ = false := (by (with_reducible (repeat' (first | assumption | (exact hn1 _ _ (by simp)) | (refine cell_alloc _ ?_ ?_) | (refine cell_below (by assumption) ?_ ?_) | (refine pt_alloc _ ?_) | (refine PtOk.next ?_ (by assumption)) | (refine lt_alloc _ ?_) | (refine lt_below (by assumption) ?_) | (refine be_alloc _ ?_ ?_) | (refine be_below (by assumption) ?_ ?_) | (refine cell_set ?_ ?_) | (refine fz_alloc _ ?_ ?_) | (refine fz_below (by assumption) ?_ ?_) | (refine Nat.le_of_lt ?_))))); have s1 : w7.cell? ⟨w.heap.size, 1, none⟩ = some (.string (str t)) := (by (with_reducible (repeat' (first | assumption | (exact hn1 _ _ (by simp)) | (refine cell_alloc _ ?_ ?_) | (refine cell_below (by assumption) ?_ ?_) | (refine pt_alloc _ ?_) | (refine PtOk.next ?_ (by assumption)) | (refine lt_alloc _ ?_) | (refine lt_below (by assumption) ?_) | (refine be_alloc _ ?_ ?_) | (refine be_below (by assumption) ?_ ?_) | (refine cell_set ?_ ?_) | (refine fz_alloc _ ?_ ?_) | (refine fz_below (by assumption) ?_ ?_) | (refine Nat.le_of_lt ?_))))); have s2 : w7.cell? ⟨g, o, none⟩ = some a.v := (by (with_reducible (repeat' (first | assumption | (exact hn1 _ _ (by simp)) | (refine cell_alloc _ ?_ ?_) | (refine cell_below (by assumption) ?_ ?_) | (refine pt_alloc _ ?_) | (refine PtOk.next ?_ (by assumption)) | (refine lt_alloc _ ?_) | (refine lt_below (by assumption) ?_) | (refine be_alloc _ ?_ ?_) | (refine be_below (by assumption) ?_ ?_) | (refine cell_set ?_ ?_) | (refine fz_alloc _ ?_ ?_) | (refine fz_below (by assumption) ?_ ?_) | (refine Nat.le_of_lt ?_))))); have s3 : w7.cell? ⟨g, o + 1, none⟩ = some (.int .i64 la) := (by (with_reducible (repeat' (first | assumption | (exact hn1 _ _ (by simp)) | (refine cell_alloc _ ?_ ?_) | (refine cell_below (by assumption) ?_ ?_) | (refine pt_alloc _ ?_) | (refine PtOk.next ?_ (by assumption)) | (refine lt_alloc _ ?_) | (refine lt_below (by assumption) ?_) | (refine be_alloc _ ?_ ?_) | (refine be_below (by assumption) ?_ ?_) | (refine cell_set ?_ ?_) | (refine fz_alloc _ ?_ ?_) | (refine fz_below (by assumption) ?_ ?_) | (refine Nat.le_of_lt ?_))))); have hbw : Below w.heap.size w w7 := (by (with_reducible (repeat' (first | assumption | (exact hn1 _ _ (by simp)) | (refine cell_alloc _ ?_ ?_) | (refine cell_below (by assumption) ?_ ?_) | (refine pt_alloc _ ?_) | (refine PtOk.next ?_ (by assumption)) | (refine lt_alloc _ ?_) | (refine lt_below (by assumption) ?_) | (refine be_alloc _ ?_ ?_) | (refine be_below (by assumption) ?_ ?_) | (refine cell_set ?_ ?_) | (refine fz_alloc _ ?_ ?_) | (refine fz_below (by assumption) ?_ ?_) | (refine Nat.le_of_lt ?_))))); rw [Pt.v_def p2]))
  all_goals (
    have hbx := boxed (.slice (some ⟨p2.g, p2.o, none⟩) p2.ts.length p2.c) (.int .i64 11) c7 d7
    have hne : w.heap.size + 1 ≠ p2.g := by omega
    have hk2 := pt_set (w.heap.size + 1) 1 (.int .i64 11) (pt_set (w.heap.size + 1) 0 (.slice (some ⟨p2.g, p2.o, none⟩) p2.ts.length p2.c) hk hne) hne
    go_wp2_with fail
    exact bodyPost_ret (v := .agg #[.slice (some ⟨p2.g, p2.o, none⟩) p2.ts.length p2.c, .int .i64 11]) (by simp [results, Tryz.results31, go_sem, hbx.1, hbx.2]) rfl ⟨p2, rfl, by rw [ht.out, ht1.out]; rfl, hk2, by omega, (hbw.setCell (by simp) _).setCell (by simp) _⟩)
set_option maxHeartbeats 4000000 in
set_option maxRecDepth 100000 in
theorem part_big (n : Nat) (hn : n ≤ 4294967295) (t : List UInt8) (A : Option Addr) (l c : Nat) (w : World) (hT : Tabs w) :
    Calls Tryz.prog 31 #[.agg #[.int .i64 1, .string (str t), .int .u32 n], .slice A l c] w (GotP w [⟨2, digs n⟩] 11) := by
  have hb0 : Below w.heap.size w ((w.alloc (.cells #[.int .i64 1, .string (str t), .int .u32 n] 42)).alloc (.cells #[.slice none 0 0, .int .i64 0] 63)) := ((Below.refl _ _).alloc (Nat.le_refl _) _).alloc (by simp) _
  have hcall := fmt_any n hn _ (hT.below hb0)
  go_enter Tryz.func31, Tryz.ntmps31
  go_wp2_with fail
  with_reducible refine hcall.mono ?_
  clear hcall
  rintro e w2 ⟨rfl, hb⟩
  obtain ⟨c0, c1, f0, f1, hs2⟩ := keepP hb
  have hb2 : Below w.heap.size w w2 := hb0.trans (hb.mono (by simp; omega))
  clear hb hb0
  go_wp2_with fail
  have hbx := boxed (.slice (some ⟨w2.heap.size, 0, none⟩) 1 1) (.int .i64 11) c0 c1
  have hb3 := ((hb2.setCell (p := ⟨w.heap.size + 1, 0, none⟩) (by simp) (.slice (some ⟨w2.heap.size, 0, none⟩) 1 1)).setCell (p := ⟨w.heap.size + 1, 1, none⟩) (by simp) (.int .i64 11))
  have hpt := pt_new2 (w := (w2.setCell ⟨w.heap.size + 1, 0, none⟩ (.slice (some ⟨w2.heap.size, 0, none⟩) 1 1)).setCell ⟨w.heap.size + 1, 1, none⟩ (.int .i64 11)) (q := w2.heap.size) 2 (digs n) (by simp only [World.size_setCell])
  have hsz : ((w2.setCell ⟨w.heap.size + 1, 0, none⟩ (.slice (some ⟨w2.heap.size, 0, none⟩) 1 1)).setCell ⟨w.heap.size + 1, 1, none⟩ (.int .i64 11)).heap.size = w2.heap.size := by simp only [World.size_setCell]
  generalize (w2.setCell ⟨w.heap.size + 1, 0, none⟩ (.slice (some ⟨w2.heap.size, 0, none⟩) 1 1)).setCell ⟨w.heap.size + 1, 1, none⟩ (.int .i64 11) = w4 at *
  have r0 := cell_alloc (.cells #[.int .i64 2, .string (str (digs n))] 45) (by omega) hbx.1
  have r1 := cell_alloc (.cells #[.int .i64 2, .string (str (digs n))] 45) (by omega) hbx.2
  exact bodyPost_ret (v := .agg #[.slice (some ⟨w2.heap.size, 0, none⟩) 1 1, .int .i64 11]) (by simp [results, Tryz.results31, go_sem, r0, r1]) rfl ⟨⟨w2.heap.size, 0, 1, [⟨2, digs n⟩]⟩, rfl, rfl, hpt, by show w.heap.size ≤ w2.heap.size; omega, hb3.alloc (by omega) _⟩
end Go.Proofs.YtkkkiacbikbalaaGreatDoor
