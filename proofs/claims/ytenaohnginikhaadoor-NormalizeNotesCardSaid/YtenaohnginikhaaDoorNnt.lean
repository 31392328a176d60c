/- note of the program and of the reference; the words of lines. Condition: the table of powers and strconv's errors lie in their variables. -/
import Derived.Test.YtenaohnginikhaaDoorNsp
import Derived.Test.YtenaohnginikhaaDoorSsq
namespace Go.Proofs.YtenaohnginikhaaDoor
open Go.RowKit Go.Deep Tr
namespace Nm
/-- How many lines belong to a note, if these are the words of one. -/
def nte : List (List UInt8) → Option Nat
  | [a, b] => if a = [110, 111, 116, 101] then Ls.numC b else none
  | _ => none
theorem nte_len {l : List (List UInt8)} (h : l.length ≠ 2) : nte l = none := by
  match l, h with
  | [], _ => rfl
  | [_], _ => rfl
  | [_, _], h => exact absurd rfl h
  | _ :: _ :: _ :: _, _ => rfl
set_option maxHeartbeats 4000000 in
set_option maxRecDepth 100000 in
theorem note_any (l : List (List UInt8)) (A : Option Addr) (c : Nat) (w : World) (hA : Ls.StAt w w.heap.size A l) (hl : l.length ≤ 1000000) (hx : ∀ x ∈ l, x.length ≤ 1000000) (hE : ErrAt w) (hT : Cd.Tabs w) :
    Calls Tryd.prog 29 #[.slice A l.length c] w (GotDc w (nte l)) := by
  by_cases h2 : l.length = 2
  case neg =>
    have HN := Lib.hid (nte_len h2)
    have b1 : ((l.length : Int) == 2) = false := by rw [beq_eq_false_iff_ne]; omega
    have b1n : (l.length == 2) = false := by rw [beq_eq_false_iff_ne]; exact h2
    have b2 : ((l.length : Int) != 2) = true := by rw [bne_iff_ne]; omega
    have b2n : (l.length != 2) = true := by rw [bne_iff_ne]; exact h2
    clear h2 hA hx
    go_enter Tryd.func29, Tryd.ntmps29
    go_wp2_with fail
    first | go_ret3 | go_ret2 | go_ret
    exact ⟨.inr ⟨HN.out, rfl⟩, Below.refl _ _⟩
  match l, h2, hA, hx with
  | [a, b], _, hA, hx =>
    obtain ⟨g, o, rfl, hg, hc⟩ := hA 0 (by simp)
    obtain ⟨g', o', e', _, hc'⟩ := hA 1 (by simp)
    cases e'
    have d0 : w.cell? ⟨g, o, none⟩ = some (.string (str a)) := by simpa using hc 0 _ rfl
    have d1 : w.cell? ⟨g, o + 1, none⟩ = some (.string (str b)) := by simpa using hc' 0 _ rfl
    have hb : b.length ≤ 1000000000 := by have := hx b (by simp); omega
    have cn : Calls Tryd.prog 53 #[.string (str b), .int .i64 4] w (GotDc w (Ls.numC b)) := decimal_any b hb w hE hT
    clear hA hx hc hc' hb
    rw [show ([a, b] : List (List UInt8)).length = 2 from rfl]
    by_cases ha : a = [110, 111, 116, 101]
    · subst ha
      have HN := Lib.hid (show nte [[110, 111, 116, 101], b] = Ls.numC b by rw [nte, if_pos rfl])
      have q1 : ((str [110, 111, 116, 101]).toList == ([110, 111, 116, 101] : List UInt8)) = true := by rw [strL]; rfl
      have q2 : ((str [110, 111, 116, 101]).toList != ([110, 111, 116, 101] : List UInt8)) = false := by rw [strL]; rfl
      go_enter Tryd.func29, Tryd.ntmps29
      go_wp2_with fail
      with_reducible refine cn.mono ?_
      clear cn
      rintro e w3 ⟨hor, hb3⟩
      have HB3 := Lib.hid hb3
      clear hb3
      rcases hor with ⟨n, hn, hn9, rfl⟩ | ⟨hn, rfl⟩
      · have HX := Lib.hid hn
        have H9 := Lib.hid hn9
        clear hn hn9
        go_wp2_with fail
        first | go_ret3 | go_ret2 | go_ret
        exact ⟨.inl ⟨n, HN.out.trans HX.out, H9.out, rfl⟩, HB3.out⟩
      · have HX := Lib.hid hn
        clear hn
        go_wp2_with fail
        first | go_ret3 | go_ret2 | go_ret
        exact ⟨.inr ⟨HN.out.trans HX.out, rfl⟩, HB3.out⟩
    · have HN := Lib.hid (show nte [a, b] = none by rw [nte, if_neg ha])
      have q1 : ((str a).toList == ([110, 111, 116, 101] : List UInt8)) = false := by rw [strL, beq_eq_false_iff_ne]; exact ha
      have q2 : ((str a).toList != ([110, 111, 116, 101] : List UInt8)) = true := by rw [strL, bne_iff_ne]; exact ha
      clear ha
      go_enter Tryd.func29, Tryd.ntmps29
      go_wp2_with fail
      first | go_ret3 | go_ret2 | go_ret
      exact ⟨.inr ⟨HN.out, rfl⟩, Below.refl _ _⟩
set_option maxHeartbeats 4000000 in
set_option maxRecDepth 100000 in
theorem qnote_any (l : List (List UInt8)) (A : Option Addr) (c : Nat) (w : World) (hA : Ls.StAt w w.heap.size A l) (hl : l.length ≤ 1000000) (hx : ∀ x ∈ l, x.length ≤ 1000000) :
    Calls Tryd.prog 34 #[.slice A l.length c] w (GotDc w (nte l)) := by
  by_cases h2 : l.length = 2
  case neg =>
    have HN := Lib.hid (nte_len h2)
    have b1 : ((l.length : Int) == 2) = false := by rw [beq_eq_false_iff_ne]; omega
    have b1n : (l.length == 2) = false := by rw [beq_eq_false_iff_ne]; exact h2
    have b2 : ((l.length : Int) != 2) = true := by rw [bne_iff_ne]; omega
    have b2n : (l.length != 2) = true := by rw [bne_iff_ne]; exact h2
    clear h2 hA hx
    go_enter Tryd.func34, Tryd.ntmps34
    go_wp2_with fail
    first | go_ret3 | go_ret2 | go_ret
    exact ⟨.inr ⟨HN.out, rfl⟩, Below.refl _ _⟩
  match l, h2, hA, hx with
  | [a, b], _, hA, hx =>
    obtain ⟨g, o, rfl, hg, hc⟩ := hA 0 (by simp)
    obtain ⟨g', o', e', _, hc'⟩ := hA 1 (by simp)
    cases e'
    have d0 : w.cell? ⟨g, o, none⟩ = some (.string (str a)) := by simpa using hc 0 _ rfl
    have d1 : w.cell? ⟨g, o + 1, none⟩ = some (.string (str b)) := by simpa using hc' 0 _ rfl
    have hb : (str b).size ≤ 1000000 := by rw [str_size]; exact hx b (by simp)
    have cn : Calls Tryd.prog 57 #[.string (str b), .int .i64 4] w (GotDc w (Ls.numC b)) := qnumber_any (str b) w hb
    clear hA hx hc hc' hb
    rw [show ([a, b] : List (List UInt8)).length = 2 from rfl]
    by_cases ha : a = [110, 111, 116, 101]
    · subst ha
      have HN := Lib.hid (show nte [[110, 111, 116, 101], b] = Ls.numC b by rw [nte, if_pos rfl])
      have q1 : ((str [110, 111, 116, 101]).toList == ([110, 111, 116, 101] : List UInt8)) = true := by rw [strL]; rfl
      have q2 : ((str [110, 111, 116, 101]).toList != ([110, 111, 116, 101] : List UInt8)) = false := by rw [strL]; rfl
      go_enter Tryd.func34, Tryd.ntmps34
      go_wp2_with fail
      with_reducible refine cn.mono ?_
      clear cn
      rintro e w3 ⟨hor, hb3⟩
      have HB3 := Lib.hid hb3
      clear hb3
      rcases hor with ⟨n, hn, hn9, rfl⟩ | ⟨hn, rfl⟩
      · have HX := Lib.hid hn
        have H9 := Lib.hid hn9
        clear hn hn9
        go_wp2_with fail
        first | go_ret3 | go_ret2 | go_ret
        exact ⟨.inl ⟨n, HN.out.trans HX.out, H9.out, rfl⟩, HB3.out⟩
      · have HX := Lib.hid hn
        clear hn
        go_wp2_with fail
        first | go_ret3 | go_ret2 | go_ret
        exact ⟨.inr ⟨HN.out.trans HX.out, rfl⟩, HB3.out⟩
    · have HN := Lib.hid (show nte [a, b] = none by rw [nte, if_neg ha])
      have q1 : ((str a).toList == ([110, 111, 116, 101] : List UInt8)) = false := by rw [strL, beq_eq_false_iff_ne]; exact ha
      have q2 : ((str a).toList != ([110, 111, 116, 101] : List UInt8)) = true := by rw [strL, bne_iff_ne]; exact ha
      clear ha
      go_enter Tryd.func34, Tryd.ntmps34
      go_wp2_with fail
      first | go_ret3 | go_ret2 | go_ret
      exact ⟨.inr ⟨HN.out, rfl⟩, Below.refl _ _⟩
/-- The words of the lines from line i on, k of which are part of a note. -/
def wl (a b : Bool) : Nat → Nat → List (List UInt8) → List Lx
  | _, _, [] => []
  | i, k + 1, _ :: t => wl a b (i + 1) k t
  | i, 0, l :: t => match nte (div l) with
    | some k => wl a b (i + 1) k t
    | none => (div l).map (fun x => ⟨cls a b x, (i : Int)⟩) ++ wl a b (i + 1) 0 t
theorem wl_nil (a b : Bool) (i k : Nat) : wl a b i k [] = [] := by cases k <;> rfl
theorem wl_in (a b : Bool) (i k : Nat) (l : List UInt8) (t : List (List UInt8)) : wl a b i (k + 1) (l :: t) = wl a b (i + 1) k t := rfl
theorem wl_note (a b : Bool) (i : Nat) {k : Nat} {l : List UInt8} (t : List (List UInt8)) (h : nte (div l) = some k) : wl a b i 0 (l :: t) = wl a b (i + 1) k t := by rw [wl, h]
theorem wl_line (a b : Bool) (i : Nat) {l : List UInt8} (t : List (List UInt8)) (h : nte (div l) = none) : wl a b i 0 (l :: t) = (div l).map (fun x => ⟨cls a b x, (i : Int)⟩) ++ wl a b (i + 1) 0 t := by rw [wl, h]
theorem wl_skip (a b : Bool) : ∀ (k i : Nat) (L : List (List UInt8)), wl a b i k L = wl a b (i + k) 0 (L.drop k) := by
  intro k
  induction k with
  | zero => intro i L; rw [Nat.add_zero, List.drop_zero]
  | succ k ih =>
    intro i L
    cases L with
    | nil => rw [wl_nil, List.drop_nil, wl_nil]
    | cons l t => rw [wl_in, ih, List.drop_succ_cons, show i + 1 + k = i + (k + 1) by omega]
/-- How many bytes are in lines. -/
def byt (L : List (List UInt8)) : Nat := (L.map List.length).sum
theorem byt_cons (l : List UInt8) (t : List (List UInt8)) : byt (l :: t) = l.length + byt t := by unfold byt; rw [List.map_cons, List.sum_cons]
theorem wl_len (a b : Bool) : ∀ (L : List (List UInt8)) (i k : Nat), (wl a b i k L).length ≤ byt L := by
  intro L
  induction L with
  | nil => intro i k; rw [wl_nil]; exact Nat.zero_le _
  | cons l t ih =>
    intro i k
    rw [byt_cons]
    cases k with
    | succ k => rw [wl_in]; have := ih (i + 1) k; omega
    | zero =>
      cases h : nte (div l) with
      | some k => rw [wl_note a b i t h]; have := ih (i + 1) k; omega
      | none => rw [wl_line a b i t h, List.length_append, List.length_map]; have := ih (i + 1) 0; have := div_len l; omega
theorem cls_len (a b : Bool) (s : List UInt8) : (cls a b s).length ≤ max 2 s.length := by
  unfold cls; split
  · simp; omega
  · split
    · simp; omega
    · omega
theorem byt_mem {L : List (List UInt8)} {l : List UInt8} (h : l ∈ L) : l.length ≤ byt L := by
  induction L with
  | nil => cases h
  | cons x t ih =>
    rw [byt_cons]
    rcases List.mem_cons.1 h with rfl | h
    · omega
    · have := ih h; omega
theorem wl_sht (a b : Bool) : ∀ (L : List (List UInt8)) (i k : Nat), byt L ≤ 1000000 → ∀ x ∈ wl a b i k L, x.tx.length ≤ 1000000 := by
  intro L
  induction L with
  | nil => intro i k _ x hx; rw [wl_nil] at hx; cases hx
  | cons l t ih =>
    intro i k hb x hx
    rw [byt_cons] at hb
    cases k with
    | succ k => rw [wl_in] at hx; exact ih _ _ (by omega) x hx
    | zero =>
      cases h : nte (div l) with
      | some k => rw [wl_note a b i t h] at hx; exact ih _ _ (by omega) x hx
      | none =>
        rw [wl_line a b i t h] at hx
        rcases List.mem_append.1 hx with hx | hx
        · obtain ⟨y, hy, rfl⟩ := List.mem_map.1 hx
          have h1 := (div_ok l y hy).2
          have h2 := cls_len a b y
          dsimp only
          omega
        · exact ih _ _ (by omega) x hx
theorem split_byt : ∀ (n : Nat) (l : List UInt8), l.length ≤ n → byt (Tre.split 10 l) + (Tre.split 10 l).length = l.length + 1 := by
  intro n
  induction n with
  | zero =>
    intro l h
    have : l = [] := List.length_eq_zero_iff.1 (by omega)
    subst this
    rfl
  | succ n ih =>
    intro l h
    rcases line_cut l with ⟨_, e⟩ | ⟨k, _, hk, e⟩
    · rw [e]; unfold byt; simp
    · have := ih (l.drop (k + 1)) (by rw [List.length_drop]; omega)
      rw [List.length_drop] at this
      rw [e, byt_cons, List.length_cons, List.length_take]
      omega
theorem lines_byt (l : List UInt8) : byt (Tre.split 10 l) ≤ l.length := by
  have := split_byt l.length l (Nat.le_refl _)
  have := List.length_pos_iff.2 (Tre.split_ne 10 l)
  omega
theorem lines_len (l : List UInt8) : (Tre.split 10 l).length ≤ l.length + 1 := by
  have := split_byt l.length l (Nat.le_refl _)
  omega
/-- The words of a text. -/
def wrd (a b : Bool) (d : List UInt8) : List Lx := wl a b 0 0 (Tre.split 10 d)
theorem wrd_len (a b : Bool) (d : List UInt8) : (wrd a b d).length ≤ d.length := Nat.le_trans (wl_len a b _ 0 0) (lines_byt d)
/-- What Words returns. -/
def wrE (p : List UInt8) (a b : Bool) (d : List UInt8) : Int := if Tre.path p = 0 then (if (Tre.lines d).2 = 0 then (if 8192 < (wrd a b d).length then 10 else 0) else (Tre.lines d).2) else 2
def wrT (p : List UInt8) (a b : Bool) (d : List UInt8) : Txt := if wrE p a b d = 0 then ⟨p, wrd a b d⟩ else ⟨[], []⟩
end Nm
end Go.Proofs.YtenaohnginikhaaDoor
