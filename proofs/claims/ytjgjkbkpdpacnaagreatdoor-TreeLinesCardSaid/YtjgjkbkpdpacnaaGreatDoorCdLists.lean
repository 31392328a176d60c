/- Lists of numbers and of texts return their bytes, or the error. Condition: the library's table of powers of ten lies in its variable. -/
import Derived.Test.YtjgjkbkpdpacnaaGreatDoorCdList
namespace Go.Proofs.YtjgjkbkpdpacnaaGreatDoor.Cd
open Go.RowKit

/-- The slice value's cells are these values; they lie below block B. -/
def CellsAt (w : World) (B : Nat) (A : Option Addr) (vs : List Value) : Prop := ∀ i (h : i < vs.length), ∃ g o, A = some ⟨g, o, none⟩ ∧ g < B ∧ w.cell? ⟨g, o + i, none⟩ = some vs[i]
theorem CellsAt.below {w w' : World} {B B' : Nat} {A : Option Addr} {vs : List Value} (h : CellsAt w B A vs) (hb : Below B' w w') (hB : B ≤ B') : CellsAt w' B A vs := fun i hi => by
  obtain ⟨g, o, e, hg, hc⟩ := h i hi
  exact ⟨g, o, e, hg, (hb.cell (p := ⟨g, o + i, none⟩) (by show g < B'; omega)).trans hc⟩
theorem Bld.below {w w' : World} {B b : Nat} {p : Value} {l : List UInt8} (h : Bld w B b p l) (hb : Below w.heap.size w w') : Bld w' B b p l := by
  obtain ⟨hB, v, hbk, hown, hne⟩ := h
  exact ⟨hB, v, (hb.block b (Array.getElem?_eq_some_iff.1 hbk).1).trans hbk, hown.kept (row := none) ⟨hb.os, hb.tape, hb.output, hb.size, fun k hk _ => hb.block k hk⟩ (by cases hv : v.ownBlock <;> simp), hne⟩
theorem all_snoc {α : Type} (p : α → Bool) (zs : List α) (k : Nat) (h : k < zs.length) : (zs.take (k + 1)).all p = ((zs.take k).all p && p zs[k]) := by
  rw [List.take_succ_eq_append_getElem h, List.all_append]; simp
def intsOf (zs : List Int) : List Value := zs.map (Value.int .i64)
def strsOf (ss : List ByteArray) : List Value := ss.map Value.string
def okN (n : Int) : Bool := decide (0 ≤ n ∧ n ≤ 281474976710656)
def okS (s : ByteArray) : Bool := decide (s.size ≤ 65536)
def encN (n : Int) : List UInt8 := Cod.num n.toNat
def encS (s : ByteArray) : List UInt8 := Cod.txt s.data.toList
theorem numV_ok (n : Int) (h : okN n = true) : numV n = .tuple #[.string (str (encN n)), .int .i64 0] := by
  have : 0 ≤ n ∧ n ≤ 281474976710656 := by simpa [okN] using h
  exact if_neg (by omega)
theorem numV_bad (n : Int) (h : okN n = false) : numV n = .tuple #[.string ⟨#[]⟩, .int .i64 3] := by
  have : ¬ (0 ≤ n ∧ n ≤ 281474976710656) := by simpa [okN] using h
  exact if_pos (by omega)
theorem txtV_ok (s : ByteArray) (h : okS s = true) : txtV s = .tuple #[.string (str (encS s)), .int .i64 0] := by
  have : s.size ≤ 65536 := by simpa [okS] using h
  exact if_neg (by omega)
theorem txtV_bad (s : ByteArray) (h : okS s = false) : txtV s = .tuple #[.string ⟨#[]⟩, .int .i64 10] := by
  have : ¬ s.size ≤ 65536 := by simpa [okS] using h
  exact if_pos (by omega)
theorem encN_len (n : Int) (h : okN n = true) : (encN n).length ≤ 70000 := by
  have : 0 ≤ n ∧ n ≤ 281474976710656 := by simpa [okN] using h
  have := num_len n.toNat (by omega)
  unfold encN; omega
theorem encS_len (s : ByteArray) (h : okS s = true) : (encS s).length ≤ 70000 := txt_len s (by simpa [okS] using h)
theorem flat_snoc {α : Type} (f : α → List UInt8) (zs : List α) (k : Nat) (h : k < zs.length) : (zs.take (k + 1)).flatMap f = (zs.take k).flatMap f ++ f zs[k] := by
  rw [List.take_succ_eq_append_getElem h, List.flatMap_append]; simp

/-- What Numbers returns. -/
def numsV (zs : List Int) : Value := if 1024 < zs.length then .tuple #[.string ⟨#[]⟩, .int .i64 10] else if zs.all okN = true then .tuple #[.string (str (Cod.num zs.length ++ zs.flatMap encN)), .int .i64 0] else .tuple #[.string ⟨#[]⟩, .int .i64 3]
/-- What Texts returns. -/
def txtsV (zs : List ByteArray) : Value := if 1024 < zs.length then .tuple #[.string ⟨#[]⟩, .int .i64 10] else if zs.all okS = true then .tuple #[.string (str (Cod.num zs.length ++ zs.flatMap encS)), .int .i64 0] else .tuple #[.string ⟨#[]⟩, .int .i64 10]
set_option maxHeartbeats 4000000 in
set_option maxRecDepth 100000 in
theorem txtList_short (A : Option Addr) (c : Nat) (zs : List ByteArray) (hl : zs.length ≤ 1024) (w : World) (hT : Tabs w) (hA : CellsAt w w.heap.size A (strsOf zs)) :
    Calls Tryz.prog 103 #[.slice A zs.length c, .func (Fn.func 104) #[] #[]] w fun e w' => e = .returned (txtsV zs) ∧ Below w.heap.size w w' := by
  have d : decide ((1024 : Int) < zs.length) = false := by simp; omega
  have hb0 : Below w.heap.size w (w.alloc (.cells #[.pointer none, .slice none 0 0] 98)) := (Below.refl _ _).alloc (Nat.le_refl _) _
  have hB0 := bld_new w
  have hlen0 := num_len zs.length (by omega)
  have hlend := dec_len zs.length (by omega)
  rw [← str_size] at hlend
  have HS0 := Lib.hid (show str (Lib.decDigits zs.length) ++ ⟨#[59]⟩ = str (Cod.num zs.length) from str_app _ [59])
  go_enter Tryz.func103, Tryz.ntmps103
  go_wp2_with fail
  refine (itoa_any zs.length (by omega) _ (hT.below hb0)).mono ?_
  rintro e w1 ⟨rfl, hb1⟩
  replace hB0 := hB0.below hb1
  replace hb0 := hb0.trans (hb1.mono hb0.size)
  clear hb1
  go_wp2_with fail
  rw [HS0.out]
  refine (writeString_any w.heap.size w.heap.size _ (.inl rfl) [] (str (Cod.num zs.length)) _ hB0 (by rw [str_size]; simp; omega) hb0.size).mono ?_
  rintro e w2 ⟨rfl, hB1, hb1⟩
  rw [str_data, List.nil_append] at hB1
  replace hb0 := hb0.trans hb1
  clear hb1 hB0
  obtain ⟨b, hb⟩ : ∃ b, b = w.heap.size := ⟨_, rfl⟩
  rw [← hb] at hB1
  rw [← hb]
  have HB := Lib.hid hb
  clear hb
  go_wp2_with fail
  go_loopw [21] (fun v wr => ∃ k : Nat, k ≤ zs.length ∧ v = .int .i64 k ∧ (zs.take k).all okS = true ∧ ((zs.take k).flatMap encS).length ≤ 70000 * k ∧ Bld wr b b (.pointer (some ⟨b, 0, none⟩)) (Cod.num zs.length ++ (zs.take k).flatMap encS) ∧ Below w.heap.size w wr) (fun v _ => zs.length - (intOf v).toNat)
  case atStart => exact ⟨0, by omega, rfl, by simp, by simp, by simpa using hB1, hb0⟩
  case round =>
    clear hB1 hb0
    obtain ⟨k, hk, rfl, hall, hfl, hB, hb0⟩ := hrel
    have HALL := Lib.hid hall
    clear hall
    by_cases hlt : k < zs.length
    · obtain ⟨g, o, rfl, hg, hc0⟩ := hA k (by simp [strsOf]; exact hlt)
      have hc : wr.cell? ⟨g, o + k, none⟩ = some (Value.string zs[k]) := by
        have := (hb0.cell (p := ⟨g, o + k, none⟩) hg).trans hc0
        simpa [strsOf] using this
      have HSN := Lib.hid (all_snoc okS zs k hlt)
      have HFL := Lib.hid (flat_snoc encS zs k hlt)
      clear hc0
      cases hz : okS zs[k] with
      | true =>
        have hv := Lib.hid (txtV_ok zs[k] hz)
        have hle := encS_len zs[k] hz
        have hall2 : (zs.take (k + 1)).all okS = true := by rw [HSN.out, HALL.out, hz]; rfl
        have HALL2 := Lib.hid hall2
        have hfl2 : ((zs.take (k + 1)).flatMap encS).length ≤ 70000 * (k + 1) := by rw [HFL.out, List.length_append]; omega
        clear hz hall2
        go_wp2_with fail
        have hcall := text_any zs[k] wr (hT.below hb0)
        with_reducible refine hcall.mono ?_
        clear hcall
        rw [hv.out]
        rintro e w3 ⟨rfl, hb3⟩
        replace hB := hB.below hb3
        replace hb0 := hb0.trans (hb3.mono hb0.size)
        clear hb3
        go_wp2_with fail
        have hbs : b ≤ w3.heap.size := by rw [HB.out]; exact hb0.size
        have hcall := writeString_any b b _ (.inr rfl) _ (str (encS zs[k])) w3 hB (by rw [str_size, List.length_append]; omega) hbs
        with_reducible refine hcall.mono ?_
        clear hcall
        rintro e w4 ⟨rfl, hB4, hb4⟩
        rw [str_data, List.append_assoc, ← HFL.out] at hB4
        rw [HB.out] at hb4
        replace hb0 := hb0.trans hb4
        clear hb4 hB
        go_wp2_with fail
        go_roundw
        case rel => exact ⟨k + 1, by omega, by go_num, HALL2.out, hfl2, hB4, hb0⟩
        case measure => simp [intOf]; omega
      | false =>
        have hv := Lib.hid (txtV_bad zs[k] hz)
        have hbad : zs.all okS = false := by
          rw [List.all_eq_false]
          exact ⟨zs[k], List.getElem_mem hlt, by simp [hz]⟩
        have HV := Lib.hid (show txtsV zs = .tuple #[.string ⟨#[]⟩, .int .i64 10] by unfold txtsV; rw [if_neg (by omega), if_neg (by rw [hbad]; decide)])
        clear hz hbad
        go_wp2_with fail
        have hcall := text_any zs[k] wr (hT.below hb0)
        with_reducible refine hcall.mono ?_
        clear hcall
        rw [hv.out]
        rintro e w3 ⟨rfl, hb3⟩
        replace hb0 := hb0.trans (hb3.mono hb0.size)
        clear hb3
        go_wp2_with fail
        go_ret2
        exact ⟨by rw [HV.out]; rfl, hb0⟩
    · obtain ⟨n, hn⟩ : ∃ n, n = zs.length := ⟨_, rfl⟩
      have hkn : k = n := by omega
      have hall := HALL.out
      rw [hkn, hn, List.take_length] at hall
      rw [hkn, hn, List.take_length] at hB
      have HV := Lib.hid (show txtsV zs = .tuple #[.string (str (Cod.num zs.length ++ zs.flatMap encS)), .int .i64 0] by unfold txtsV; rw [if_neg (by omega), if_pos hall])
      have hbs : b ≤ wr.heap.size := by rw [HB.out]; exact hb0.size
      clear hall hn hkn hfl
      go_wp2_with fail
      have hcall := string_any b b _ (.inr rfl) _ wr hB hbs
      with_reducible refine hcall.mono ?_
      clear hcall
      rintro e w3 ⟨rfl, hb3⟩
      rw [HB.out] at hb3
      replace hb0 := hb0.trans hb3
      clear hb3
      go_wp2_with fail
      go_ret2
      exact ⟨by rw [HV.out]; rfl, hb0⟩
set_option maxHeartbeats 1000000 in
set_option maxRecDepth 100000 in
theorem txtList_any (A : Option Addr) (c : Nat) (zs : List ByteArray) (w : World) (hT : Tabs w) (hA : CellsAt w w.heap.size A (strsOf zs)) :
    Calls Tryz.prog 103 #[.slice A zs.length c, .func (Fn.func 104) #[] #[]] w fun e w' => e = .returned (txtsV zs) ∧ Below w.heap.size w w' := by
  by_cases h : 1024 < zs.length
  · have d : decide ((1024 : Int) < zs.length) = true := by simp; omega
    have HV := Lib.hid (show txtsV zs = .tuple #[.string ⟨#[]⟩, .int .i64 10] from if_pos h)
    clear h
    go_enter Tryz.func103, Tryz.ntmps103
    go_wp2_with fail
    go_ret2
    exact ⟨by rw [HV.out]; rfl, Below.refl _ _⟩
  · exact txtList_short A c zs (by omega) w hT hA
set_option maxHeartbeats 1000000 in
set_option maxRecDepth 100000 in
theorem txts_any (A : Option Addr) (c : Nat) (zs : List ByteArray) (w : World) (hT : Tabs w) (hA : CellsAt w w.heap.size A (strsOf zs)) :
    Calls Tryz.prog 85 #[.slice A zs.length c] w fun e w' => e = .returned (txtsV zs) ∧ Below w.heap.size w w' := by
  obtain ⟨x, y, hxy⟩ : ∃ x y, txtsV zs = .tuple #[.string x, .int .i64 y] := by
    unfold txtsV
    split
    · exact ⟨_, _, rfl⟩
    · split <;> exact ⟨_, _, rfl⟩
  have HXY := Lib.hid hxy
  clear hxy
  go_enter Tryz.func85, Tryz.ntmps85
  go_wp2_with fail
  refine (txtList_any A c zs _ hT hA).mono ?_
  rw [HXY.out]
  rintro e w1 ⟨rfl, hb1⟩
  go_wp2_with fail
  go_ret2
  exact ⟨by rw [HXY.out]; rfl, hb1⟩
end Go.Proofs.YtjgjkbkpdpacnaaGreatDoor.Cd
