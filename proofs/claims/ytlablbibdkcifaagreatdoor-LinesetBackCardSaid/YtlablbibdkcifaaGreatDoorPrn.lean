/- Print and Under of the program. Condition: bytealg's MaxLen and the table of powers lie in their variables. -/
import Derived.Test.YtlablbibdkcifaaGreatDoorOfp
import Derived.Test.YtlablbibdkcifaaGreatDoorTkBld
import Derived.Deep.RegionHeld3
namespace Go.Proofs.YtlablbibdkcifaaGreatDoor.Tk
open Go.RowKit Tr

set_option maxHeartbeats 2000000 in
set_option maxRecDepth 100000 in
theorem writeStrK_any (B b : Nat) (p : Value) (hp : p = .pointer none ∨ p = .pointer (some ⟨b, 0, none⟩)) (l : List UInt8) (s : ByteArray) (w : World) (h : Bld w B b p l) (hlen : l.length + s.size ≤ 1000000000) (hBw : B ≤ w.heap.size) :
    Calls Tryz.prog 38 #[.pointer (some ⟨b, 0, none⟩), .string s] w fun e w' => e = .returned (.tuple #[.int .i64 s.size, .nilIface]) ∧ Bld w' B b (.pointer (some ⟨b, 0, none⟩)) (l ++ s.data.toList) ∧ Below B w w' ∧ KeptOthers w w' := by
  obtain ⟨i0, hi, hz0, hz1, hz2⟩ := info_parts info8
  have hL := Lib.byteCells_length l
  go_enter Tryz.func38, Tryz.ntmps38
  go_wp2_with fail
  refine (check_any B b p hp l _ h).mono ?_
  rintro e w1 ⟨rfl, h1, hb1, hk1⟩
  have HK1 := Lib.hid hk1
  clear hk1
  obtain ⟨hB, v, hbk, hown, hne⟩ := h1
  have c1 : w1.cell? ⟨b, 1, none⟩ = some v := by rw [Lib.cell_of_heap hbk]; rfl
  go_wp2_with (at_builtin; refine Lib.wpList_append_own_string _ rfl _ _ 55 9 rfl B 5 i0 Tryz.underlying55 Tryz.underlying9 hi hz0 hz1 hz2 _ _ _ rfl hown s rfl ?c3 ?c4 ?c5 ?_)
  case c3 => unfold maxLen; omega
  case c4 => omega
  case c5 => have := hb1.size; omega
  intro v' w2 hown' hgrow _
  have hlt : b < w1.heap.size := (Array.getElem?_eq_some_iff.1 hbk).1
  have hb2 : w2.heap[b]? = some (.cells #[.pointer (some ⟨b, 0, none⟩), v] 57 (0, 0)) := by
    rw [hgrow.block b hlt (fun e => hne e.symm)]
    exact hbk
  have d1 : w2.cell? ⟨b, 1, none⟩ = some v := by rw [Lib.cell_of_heap hb2]; rfl
  have f1 : w2.frozen? ⟨b, 1, none⟩ = false := Lib.frozen_of_heap hb2 1
  obtain ⟨ao, n', cap, rfl⟩ : ∃ ao n' cap, v' = .slice ao n' cap := by
    rcases hown'.2 with ⟨hv, _⟩ | ⟨g, cap, cur, hv, _⟩
    · exact ⟨_, _, _, hv⟩
    · exact ⟨_, _, _, hv⟩
  clear hL
  go_wp2_with fail
  go_ret2
  refine ⟨rfl, ?_, (hb1.grown hgrow (by have := hb1.size; omega) (fun k hk => (hown.lt k hk).1)).setCell (p := ⟨b, 1, none⟩) hB _, ?_⟩
  rotate_left
  · intro q cs T fr hq h8 hBd
    have hqb : q ≠ b := by
      rintro rfl
      have hx := h.2
      obtain ⟨_, hx, _⟩ := hx
      rw [hq] at hx
      simp only [Option.some.injEq, Obj.cells.injEq] at hx
      exact hBd hx.2.1
    have hq1 : w1.heap[q]? = some (.cells cs T fr) := (HK1.out q hqb).trans hq
    have hql : q < w1.heap.size := (Array.getElem?_eq_some_iff.1 hq1).1
    rw [heap_setCell_other w2 ⟨b, 1, none⟩ q _ hqb, hgrow.block q hql (fun hx => by
      obtain ⟨c', fz, hx2⟩ := Lib.ownsRow_kind hown q hx.symm
      rw [hq1] at hx2
      simp only [Option.some.injEq, Obj.cells.injEq] at hx2
      exact h8 hx2.2.1)]
    exact hq1
  unfold Bld
  rw [Lib.byteCells_append]
  exact Lib.BuilderAt.put (T := 57) (e := 5) hB hb2 (bs' := Lib.byteCells l ++ Lib.strCells s) (by simpa [Lib.strCells_length, Lib.byteCells_length] using hown') (by decide)
end Go.Proofs.YtlablbibdkcifaaGreatDoor.Tk
namespace Go.Proofs.YtlablbibdkcifaaGreatDoor
open Go.RowKit Go.Deep Tr

namespace Ls
/-- The line of a span. -/
def spT (s : Sp) : LN := s.path ++ [32] ++ Lib.decDigits s.lo.toNat ++ [32] ++ Lib.decDigits s.hi.toNat ++ [10]
def prt (l : List Sp) : LN := l.flatMap spT
theorem prt_take (l : List Sp) (k : Nat) (h : k < l.length) : prt (l.take (k + 1)) = prt (l.take k) ++ spT l[k] := by
  unfold prt
  rw [List.take_succ_eq_append_getElem h, List.flatMap_append]
  simp
theorem spT_len (s : Sp) (h : s.path.length ≤ 128) (h1 : s.lo ≤ 1024) (h2 : s.hi ≤ 1024) : (spT s).length ≤ 173 := by
  have a := Cd.dec_len s.lo.toNat (by omega)
  have b := Cd.dec_len s.hi.toNat (by omega)
  unfold spT
  simp only [List.length_append, List.length_cons, List.length_nil]
  omega
theorem prt_len (l : List Sp) (h : ∀ s ∈ l, (spT s).length ≤ 173) : (prt l).length ≤ 173 * l.length := by
  induction l with
  | nil => simp [prt]
  | cons s t ih =>
    have h1 := h s (by simp)
    have h2 := ih fun x hx => h x (List.mem_cons_of_mem _ hx)
    unfold prt at h2 ⊢
    rw [List.flatMap_cons, List.length_append, List.length_cons]
    omega
theorem pathOk_len {p : LN} (h : Tre.pathOk p = true) : p.length ≤ 128 := by
  unfold Tre.pathOk at h
  simp only [Bool.and_eq_true, decide_eq_true_eq] at h
  exact h.1.1
end Ls
theorem str_appL (a b : List UInt8) : str a ++ str b = str (a ++ b) := by
  apply ByteArray.ext
  simp [str]
set_option maxHeartbeats 8000000 in
set_option maxRecDepth 100000 in
theorem lprint_any (l : List Ls.Sp) (A : Option Addr) (c : Nat) (w : World) (hA : SetAt w A l) (hv : Ls.vld l = true) (hM : MaxAt w) (hT : Cd.Tabs w) :
    Calls Tryz.prog 17 #[.slice A l.length c] w fun e w' => e = .returned (.tuple #[.string (str (Ls.prt l)), .int .i64 0]) ∧ Below w.heap.size w w' := by
  have hva := valid_any l A c w hA.at_ (by have := hA.len; omega) hA.path hM
  rw [hv] at hva
  have HAA := Lib.hid hA.at_
  have hll := hA.len
  have HTT := Lib.hid hT
  have HVV := Lib.hid ((Ls.vld_iff l).1 hv)
  have HSL := Lib.hid (show ∀ s ∈ l, (Ls.spT s).length ≤ 173 from fun s hs => by
    have h1 := HVV.out.each s hs
    have h2 := HVV.out.apart.ne s hs
    exact Ls.spT_len s (Ls.pathOk_len h1.1) (by omega) (by omega))
  clear hA hM hT hv
  go_enter Tryz.func17, Tryz.ntmps17
  go_wp2_with fail
  with_reducible refine hva.mono ?_
  clear hva
  rintro e w1 ⟨rfl, hb1⟩
  have hBN := Tk.bld_new w1
  have hb2 : Below w1.heap.size w1 (w1.alloc (.cells #[.pointer none, .slice none 0 0] 57)) := (Below.refl _ _).alloc (Nat.le_refl _) _
  have HBN := Lib.hid hBN
  have HB2 := Lib.hid hb2
  clear hBN hb2
  go_wp2_with fail
  go_loopw [12] (fun s12 wr => ∃ (k : Nat) (p : Value), s12 = .int .i64 k ∧ k ≤ l.length ∧ (p = .pointer none ∨ p = .pointer (some ⟨w1.heap.size, 0, none⟩)) ∧ Tk.Bld wr w1.heap.size w1.heap.size p (Ls.prt (l.take k)) ∧ Below w1.heap.size w1 wr) (fun s12 _ => l.length - (intOf s12).toNat)
  case atStart => exact ⟨0, _, rfl, by omega, .inl rfl, HBN.out, HB2.out⟩
  case round =>
    clear HBN HB2
    obtain ⟨k, p, rfl, hk, hp, hB, hb⟩ := hrel
    by_cases hlt : k < l.length
    · have b1 : decide ((k : Int) < (l.length : Int)) = true := decide_eq_true (by omega)
      have b1n : decide (k < l.length) = true := decide_eq_true hlt
      obtain ⟨g, o, rfl, hg, hc⟩ := HAA.out k hlt
      have HPT := Lib.hid (Ls.prt_take l k hlt)
      have hpl := Ls.prt_len (l.take k) fun s hs => HSL.out s (List.mem_of_mem_take hs)
      rw [List.length_take] at hpl
      have hsl := HSL.out l[k] (List.getElem_mem hlt)
      have hse := HVV.out.each l[k] (List.getElem_mem hlt)
      have hsn := HVV.out.apart.ne l[k] (List.getElem_mem hlt)
      have hbw := hb1.trans (hb.mono hb1.size)
      have hd0 := (hbw.cell (p := ⟨g, o + k * 3, none⟩) hg).trans (hc 0 _ rfl)
      have hd1 := (hbw.cell (p := ⟨g, o + k * 3 + 1, none⟩) hg).trans (hc 1 _ rfl)
      have hd2 := (hbw.cell (p := ⟨g, o + k * 3 + 2, none⟩) hg).trans (hc 2 _ rfl)
      clear hc
      generalize l[k] = s at *
      generalize Ls.prt (l.take k) = T at *
      have hTl : T.length ≤ 17300000 := by omega
      clear hpl
      obtain ⟨sp, lo, hi⟩ := s
      dsimp only at hse hsn hd0 hd1 hd2
      obtain ⟨a, rfl⟩ : ∃ a : Nat, lo = (a : Int) := ⟨lo.toNat, by omega⟩
      obtain ⟨b, rfl⟩ : ∃ b : Nat, hi = (b : Int) := ⟨hi.toNat, by omega⟩
      have hab : a ≤ 1024 ∧ b ≤ 1024 := by omega
      have HTX := Lib.hid (show Ls.spT ⟨sp, (a : Int), (b : Int)⟩ = sp ++ [32] ++ Lib.decDigits a ++ [32] ++ Lib.decDigits b ++ [10] from rfl)
      have hspl := Ls.pathOk_len hse.1
      have hal := Cd.dec_len a (by omega)
      have hbl := Cd.dec_len b (by omega)
      have hN := heap_alloc_new wr (.cells #[.string (str sp), .int .i64 (a : Int), .int .i64 (b : Int)] 32)
      have hbX : Below w1.heap.size w1 (wr.alloc (.cells #[.string (str sp), .int .i64 (a : Int), .int .i64 (b : Int)] 32)) := hb.alloc hb.size _
      have hBX := hB.below ((Below.refl wr.heap.size wr).alloc (Nat.le_refl _) (.cells #[.string (str sp), .int .i64 (a : Int), .int .i64 (b : Int)] 32))
      go_upto_region 7 with (fail)
      clear hd0 hd1 hd2 hb hB hbw hse hsn hsl
      generalize wr.alloc (.cells #[.string (str sp), .int .i64 (a : Int), .int .i64 (b : Int)] 32) = X at *
      generalize wr.heap.size = q at *
      have e0 : X.cell? ⟨q, 0, none⟩ = some (.string (str sp)) := by rw [cell_of_row _ _ _ _ _ _ hN]; rfl
      have e1 : X.cell? ⟨q, 1, none⟩ = some (.int .i64 (a : Int)) := by rw [cell_of_row _ _ _ _ _ _ hN]; rfl
      have e2 : X.cell? ⟨q, 2, none⟩ = some (.int .i64 (b : Int)) := by rw [cell_of_row _ _ _ _ _ _ hN]; rfl
      have hit : ∀ (n : Nat), n ≤ 1024 → ∀ w, Cd.Tabs w → Calls Tryz.prog 39 #[.int .i64 (n : Int)] w fun e w' => e = .returned (.string (str (Lib.decDigits n))) ∧ Below w.heap.size w w' := fun n hn w hT => Cd.itoa_any n (by omega) w hT
      have hXw := hb1.trans (hbX.mono hb1.size)
      have HTd := Lib.hid (show Cd.Tabs X.drew from (HTT.out.below hXw.drew))
      have hA1 := hit a hab.1 X.drew HTd.out
      have HB1 := Lib.hid (show ∀ w, Cd.Tabs w → Calls Tryz.prog 39 #[.int .i64 (b : Int)] w fun e w' => e = .returned (.string (str (Lib.decDigits b))) ∧ Below w.heap.size w w' from hit b hab.2)
      have HQ := Lib.hid (show q < X.drew.heap.size from blk_lt hN)
      have HND := Lib.hid (show X.drew.heap[q]? = some (.cells #[.string (str sp), .int .i64 (a : Int), .int .i64 (b : Int)] 32 (0, 0)) from hN)
      have HBD := Lib.hid (show Tk.Bld X.drew w1.heap.size w1.heap.size p T from hBX)
      have HXB := Lib.hid (show Below w1.heap.size w1 X.drew from hbX.drew)
      have g1 : (str sp).size ≤ 128 := by rw [str_size]; exact hspl
      have g2 : (str (Lib.decDigits a)).size ≤ 21 := by rw [str_size]; exact hal
      have g3 : (str (Lib.decDigits b)).size ≤ 21 := by rw [str_size]; exact hbl
      have HP5 := Lib.hid (show ((((str sp ++ ⟨#[32]⟩) ++ str (Lib.decDigits a)) ++ ⟨#[32]⟩) ++ str (Lib.decDigits b)) ++ ⟨#[10]⟩ = str (Ls.spT ⟨sp, (a : Int), (b : Int)⟩) by
        rw [HTX.out, show (⟨#[32]⟩ : ByteArray) = str [32] from rfl, show (⟨#[10]⟩ : ByteArray) = str [10] from rfl, str_appL, str_appL, str_appL, str_appL, str_appL])
      have hc : ∀ (x y : ByteArray), (x ++ y).size = x.size + y.size := fun x y => ByteArray.size_append
      have k1 : (str sp ++ (⟨#[32]⟩ : ByteArray)).size ≤ 200 := by rw [hc]; show _ + 1 ≤ _; omega
      have k2 : ((str sp ++ (⟨#[32]⟩ : ByteArray)) ++ str (Lib.decDigits a)).size ≤ 200 := by rw [hc, hc]; show _ + 1 + _ ≤ _; omega
      have k3 : (((str sp ++ (⟨#[32]⟩ : ByteArray)) ++ str (Lib.decDigits a)) ++ (⟨#[32]⟩ : ByteArray)).size ≤ 200 := by rw [hc, hc, hc]; show _ + 1 + _ + 1 ≤ _; omega
      have k4 : ((((str sp ++ (⟨#[32]⟩ : ByteArray)) ++ str (Lib.decDigits a)) ++ (⟨#[32]⟩ : ByteArray)) ++ str (Lib.decDigits b)).size ≤ 200 := by rw [hc, hc, hc, hc]; show _ + 1 + _ + 1 + _ ≤ _; omega
      have k5 : (((((str sp ++ (⟨#[32]⟩ : ByteArray)) ++ str (Lib.decDigits a)) ++ (⟨#[32]⟩ : ByteArray)) ++ str (Lib.decDigits b)) ++ (⟨#[10]⟩ : ByteArray)).size ≤ 200 := by rw [hc, hc, hc, hc, hc]; show _ + 1 + _ + 1 + _ + 1 ≤ _; omega
      have K5 := Lib.hid k5
      have n1 : ¬ 9223372036854775807 < (str sp).size + 1 := by omega
      have n2 : ¬ 9223372036854775807 < (str sp).size + 1 + (str (Lib.decDigits a)).size := by omega
      have n3 : ¬ 9223372036854775807 < (str sp).size + 1 + (str (Lib.decDigits a)).size + 1 := by omega
      have n4 : ¬ 9223372036854775807 < (str sp).size + 1 + (str (Lib.decDigits a)).size + 1 + (str (Lib.decDigits b)).size := by omega
      have n5 : ¬ 9223372036854775807 < (str sp).size + 1 + (str (Lib.decDigits a)).size + 1 + (str (Lib.decDigits b)).size + 1 := by omega
      have HAL := Lib.hid hab
      have HW1 := Lib.hid (show w1.heap.size ≤ X.drew.heap.size from HXB.out.size)
      clear hit hc hN hBX hbX hXw hab hal hbl hspl
      go_region_held3 (fun w' => w'.cell? ⟨q, 0, none⟩ = some (.string (str sp)) ∧ w'.cell? ⟨q, 1, none⟩ = some (.int .i64 (a : Int)) ∧ w'.cell? ⟨q, 2, none⟩ = some (.int .i64 (b : Int))) (first | exact ⟨e0, e1, e2⟩ | exact s012 | exact t012 | exact u012) (first | (go_at_call 39; (with_reducible refine hA1.mono ?_); rintro e w5 ⟨rfl, hb5⟩; have s012 : w5.cell? ⟨q, 0, none⟩ = some (.string (str sp)) ∧ w5.cell? ⟨q, 1, none⟩ = some (.int .i64 (a : Int)) ∧ w5.cell? ⟨q, 2, none⟩ = some (.int .i64 (b : Int)) := ⟨(hb5.cell (p := ⟨q, 0, none⟩) HQ.out).trans e0, (hb5.cell (p := ⟨q, 1, none⟩) HQ.out).trans e1, (hb5.cell (p := ⟨q, 2, none⟩) HQ.out).trans e2⟩; have hB1 := HB1.out w5 (HTd.out.below hb5)) | (go_at_call 39; (with_reducible refine hB1.mono ?_); rintro e w6 ⟨rfl, hb6⟩; have hb56 := hb5.trans (hb6.mono hb5.size); have t012 : w6.cell? ⟨q, 0, none⟩ = some (.string (str sp)) ∧ w6.cell? ⟨q, 1, none⟩ = some (.int .i64 (a : Int)) ∧ w6.cell? ⟨q, 2, none⟩ = some (.int .i64 (b : Int)) := ⟨(hb56.cell (p := ⟨q, 0, none⟩) HQ.out).trans e0, (hb56.cell (p := ⟨q, 1, none⟩) HQ.out).trans e1, (hb56.cell (p := ⟨q, 2, none⟩) HQ.out).trans e2⟩; have hN6 := (hb56.block q HQ.out).trans HND.out; have hW := Tk.writeStrK_any w1.heap.size w1.heap.size p hp T (((((str sp ++ (⟨#[32]⟩ : ByteArray)) ++ str (Lib.decDigits a)) ++ (⟨#[32]⟩ : ByteArray)) ++ str (Lib.decDigits b)) ++ (⟨#[10]⟩ : ByteArray)) w6 (HBD.out.below hb56) (by have := K5.out; omega) (Nat.le_trans HW1.out hb56.size)) | (go_at_call 38; (with_reducible refine hW.mono ?_); rintro e w7 ⟨rfl, hB7, hb7, hk7⟩; have hN7 := hk7 q _ _ _ hN6 (by decide) (by decide); have u012 : w7.cell? ⟨q, 0, none⟩ = some (.string (str sp)) ∧ w7.cell? ⟨q, 1, none⟩ = some (.int .i64 (a : Int)) ∧ w7.cell? ⟨q, 2, none⟩ = some (.int .i64 (b : Int)) := ⟨by rw [cell_of_row _ _ _ _ _ _ hN7]; rfl, by rw [cell_of_row _ _ _ _ _ _ hN7]; rfl, by rw [cell_of_row _ _ _ _ _ _ hN7]; rfl⟩))
      all_goals
        have hB9 := hB7
        rw [HP5.out, show (str (Ls.spT ⟨sp, (a : Int), (b : Int)⟩)).data.toList = Ls.spT ⟨sp, (a : Int), (b : Int)⟩ from rfl, ← HPT.out] at hB9
        have H9 := Lib.hid hB9
        have H8 := Lib.hid (HXB.out.trans ((hb56.mono HW1.out).trans hb7))
        clear hB9 hB7 hp e0 e1 e2 g1 g2 g3 k1 k2 k3 k4 k5 hA1
        go_wp2_with fail
        go_roundw
        case rel => exact ⟨k + 1, _, by go_num, by omega, .inr rfl, H9.out, H8.out⟩
        case measure => simp [intOf]; omega
    · have b1 : decide ((k : Int) < (l.length : Int)) = false := decide_eq_false (by omega)
      have b1n : decide (k < l.length) = false := decide_eq_false hlt
      have hB2 : Tk.Bld wr w1.heap.size w1.heap.size p (Ls.prt l) := by rw [List.take_of_length_le (by omega)] at hB; exact hB
      have hs := Tk.string_any w1.heap.size w1.heap.size p hp (Ls.prt l) wr hB2 hb.size
      have hbw := hb1.trans (hb.mono hb1.size)
      have HB := Lib.hid hb
      clear hB hB2 hb
      go_wp2_with fail
      with_reducible refine hs.mono ?_
      clear hs
      rintro e w3 ⟨rfl, hb3⟩
      have HB3 := Lib.hid (hb1.trans ((HB.out.trans hb3).mono hb1.size))
      clear hb3 hbw
      go_wp2_with fail
      first | go_ret2 | go_ret
      exact ⟨rfl, HB3.out⟩
end Go.Proofs.YtlablbibdkcifaaGreatDoor
