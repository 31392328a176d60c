/- Sum of a sponge returns the digest of what was taken in. Condition: the round constants lie in their variable. -/
import Derived.Test.YtmmdldicafbjdaaGreatDoorDgTake
import Derived.Laws.BytesArg
namespace Go.Proofs.YtmmdldicafbjdaaGreatDoor.Dg
open Go.RowKit

/-- Block b is an array of n bytes. -/
def IsBy (w : World) (b : Nat) (t : TypeId) (n : Nat) (f : Nat → Int) : Prop := w.rowIs b t n (fun i => .int .u8 (f i))
theorem IsBy.cell {w : World} {b n : Nat} {t : TypeId} {f : Nat → Int} (h : IsBy w b t n f) (i : Nat) (hi : i < n) : w.cell? ⟨b, i, none⟩ = some (.int .u8 (f i)) := World.rowIs.cell h hi
theorem IsBy.frozen {w : World} {b n : Nat} {t : TypeId} {f : Nat → Int} (h : IsBy w b t n f) (i : Nat) : w.frozen? ⟨b, i, none⟩ = false := World.rowIs.frozen h i
theorem IsBy.set_ {w : World} {b n : Nat} {t : TypeId} {f : Nat → Int} (h : IsBy w b t n f) (i : Nat) (x : Int) : IsBy (w.setCell ⟨b, i, none⟩ (.int .u8 x)) b t n (fun j => if j = i then x else f j) :=
  World.rowIs.congr (World.rowIs.set h i _) fun j _ => by dsimp only; split <;> rfl
theorem IsBy.congr {w : World} {b n : Nat} {t : TypeId} {f g : Nat → Int} (h : IsBy w b t n f) (e : ∀ i, i < n → f i = g i) : IsBy w b t n g := World.rowIs.congr h fun i hi => by rw [e i hi]
theorem IsBy.str {w : World} {b n : Nat} {t : TypeId} {f : Nat → Int} (h : IsBy w b t n f) (src e dst : TypeId) (hs : Tryz.prog.underlying src = some (.slice e)) (he : Tryz.prog.underlying e = some (.int .u8)) (hd : Tryz.prog.underlying dst = some .string) :
    (convert src dst (Value.slice (some ⟨b, 0, none⟩) n n)).run Tryz.prog w = .ok (.string (strOfNums ((List.range n).map f))) w :=
  run_convert_bytes_arg w src e hs he b 0 n n ((List.range n).map f) (by simp) (fun i hi => by rw [Nat.zero_add, h.cell i hi]; simp [hi]) dst hd

/-- The lowest byte of a word. -/
def W8 (x : BitVec 64) : Int := ((x.toNat % 256 : Nat) : Int)
@[go_sem] theorem wrap_W8 (x : BitVec 64) : IntKind.u8.wrap (U x) = W8 x := by
  rw [IntKind.wrap_u8']; unfold U W8; omega
@[go_sem] theorem xor_top (x : BitVec 64) : bits .xor .u64 (U x) 9223372036854775808 = U (x ^^^ Spo.top) := by
  have h : U Spo.top = 9223372036854775808 := by decide +kernel
  rw [← h]; exact xor_U _ _
theorem U_b6 : U (Spo.b64 6) = 6 := by decide +kernel

/-- A sponge that is kept, and the copy of its state. -/
structure SmAt (w w' : World) (b1 : Nat) (S : Kec.St) : Prop where
  s : IsSt w' b1 S
  k : Below w.heap.size w w'
theorem SmAt.drew {w w' : World} {b1 : Nat} {S : Kec.St} (h : SmAt w w' b1 S) : SmAt w w'.drew b1 S := ⟨h.s, h.k.drew⟩
theorem SmAt.put_ {w w' : World} {b1 : Nat} {S : Kec.St} (h : SmAt w w' b1 S) (hb : w.heap.size ≤ b1) (i : Nat) (x : BitVec 64) : SmAt w (w'.setCell ⟨b1, i, none⟩ (.int .u64 (U x))) b1 (Spo.upd S i x) :=
  ⟨h.s.set_ i x, h.k.setCell (p := ⟨b1, i, none⟩) (by simpa using hb) _⟩
theorem SmAt.below {w w' w'' : World} {b1 : Nat} {S : Kec.St} (h : SmAt w w' b1 S) (hb : Below w'.heap.size w' w'') : SmAt w w'' b1 S :=
  ⟨World.rowIs.of_block h.s (hb.block _ (World.rowIs.lt h.s)), h.k.trans (hb.mono h.k.size)⟩
theorem SmAt.setRow {w w' : World} {b1 : Nat} {S : Kec.St} (h : SmAt w w' b1 S) (hb : w.heap.size ≤ b1) (T : Kec.St) : SmAt w (w'.setRow b1 (arr T)) b1 T :=
  ⟨.of_row (setRow_heap _ b1 _ _ _ _ h.s.row), h.k.trans ⟨rfl, rfl, rfl, by simp, fun k hk => setRow_other _ _ _ _ (by omega)⟩⟩
structure Sm2 (w w' : World) (b1 b2 : Nat) (P : Kec.St) (f : Nat → Int) : Prop where
  s : IsSt w' b1 P
  q : IsBy w' b2 83 32 f
  k : Below w.heap.size w w'
theorem Sm2.drew {w w' : World} {b1 b2 : Nat} {P : Kec.St} {f : Nat → Int} (h : Sm2 w w' b1 b2 P f) : Sm2 w w'.drew b1 b2 P f := ⟨h.s, h.q, h.k.drew⟩
theorem Sm2.put_ {w w' : World} {b1 b2 : Nat} {P : Kec.St} {f : Nat → Int} (h : Sm2 w w' b1 b2 P f) (hb : w.heap.size ≤ b1) (h12 : b1 < b2) (i : Nat) (x : Int) : Sm2 w (w'.setCell ⟨b2, i, none⟩ (.int .u8 x)) b1 b2 P (fun j => if j = i then x else f j) :=
  ⟨World.rowIs.setOther h.s (a := ⟨b2, i, none⟩) (by simp; omega) _, h.q.set_ i x, h.k.setCell (p := ⟨b2, i, none⟩) (by simp; omega) _⟩
def byt (P : Kec.St) (i : Nat) : Int := W8 (P (i / 8) >>> (8 * (i % 8)))
def mixB (P : Kec.St) (k : Nat) : Nat → Int := fun i => if i < k then byt P i else 0
theorem str_sq (P : Kec.St) : strOfNums ((List.range 32).map (mixB P 32)) = ⟨(Spo.sq P).toArray⟩ := by
  unfold strOfNums Spo.sq
  rw [List.map_map]
  congr 2

set_option maxHeartbeats 4000000 in
set_option maxRecDepth 100000 in
theorem spSum_any (S : Kec.St) (n b : Nat) (w : World) (hC : Consts w) (hS : IsSp w b S n) (hn : n ≤ 4611686018427387904) :
    Calls Tryz.prog 59 #[.pointer (some ⟨b, 0, none⟩)] w fun e w' => e = .returned (.string ⟨(Spo.sq (Spo.fin (S, n % 136))).toArray⟩) ∧ Below w.heap.size w w' := by
  have hk : n % 136 < 136 := Nat.mod_lt _ (by decide)
  have cn := hS.count
  generalize hkk : n % 136 = k at *
  have HKK := Lib.hid hkk
  clear hkk
  go_enter Tryz.func59, Tryz.ntmps59
  go_upto_region 1 with (fail)
  have hb := World.rowIs.lt hS
  go_upto_region 2 with (first | (refine wpList_load_mid rfl 94 _ rfl b 0 rfl (cells S) _ hS.range Tryz.underlying94 rfl (by rw [cells_len]; exact info26) ?_) | (refine wpList_store_row rfl 94 _ _ rfl w.heap.size (arr S) rfl rfl 94 #[Value.int .u64 0, Value.int .u64 0, Value.int .u64 0, Value.int .u64 0, Value.int .u64 0, Value.int .u64 0, Value.int .u64 0, Value.int .u64 0, Value.int .u64 0, Value.int .u64 0, Value.int .u64 0, Value.int .u64 0, Value.int .u64 0, Value.int .u64 0, Value.int .u64 0, Value.int .u64 0, Value.int .u64 0, Value.int .u64 0, Value.int .u64 0, Value.int .u64 0, Value.int .u64 0, Value.int .u64 0, Value.int .u64 0, Value.int .u64 0, Value.int .u64 0] (heap_alloc_new w _) (by rw [arr_size]; exact info26) (by rw [arr_size]; rfl) (arr_one _) ?_))
  have H : SmAt w ((w.alloc (.cells #[Value.int .u64 0, Value.int .u64 0, Value.int .u64 0, Value.int .u64 0, Value.int .u64 0, Value.int .u64 0, Value.int .u64 0, Value.int .u64 0, Value.int .u64 0, Value.int .u64 0, Value.int .u64 0, Value.int .u64 0, Value.int .u64 0, Value.int .u64 0, Value.int .u64 0, Value.int .u64 0, Value.int .u64 0, Value.int .u64 0, Value.int .u64 0, Value.int .u64 0, Value.int .u64 0, Value.int .u64 0, Value.int .u64 0, Value.int .u64 0, Value.int .u64 0] 94)).setRow w.heap.size (arr S)) w.heap.size S := by
    rw [← arr_Z]
    have H0 : SmAt w (w.alloc (.cells (arr Z) 94)) w.heap.size Z := ⟨.of_row (heap_alloc_new w _), (Below.refl _ _).alloc (Nat.le_refl _) _⟩
    exact H0.setRow (Nat.le_refl _) S
  obtain ⟨b1, hb1⟩ : ∃ b, b = w.heap.size := ⟨_, rfl⟩
  rw [← hb1] at H
  rw [← hb1]
  refine wp_gen (fun w' => SmAt w w' b1 S) H ?_
  clear H
  intro w1 H
  have h1 : w.heap.size ≤ b1 := by omega
  clear hb1
  have c25 : w1.cell? ⟨b, 25, none⟩ = some (.int .i64 n) := (H.k.cell (p := ⟨b, 25, none⟩) hb).trans cn
  clear cn
  have e1 : (n : Int) % 136 = (k : Int) := by have := HKK.out; omega
  go_upto_region 3 with (fail)
  clear c25 e1
  obtain ⟨q, hq⟩ : ∃ q, q = k / 8 := ⟨_, rfl⟩
  obtain ⟨r, hr⟩ : ∃ r, r = k % 8 := ⟨_, rfl⟩
  have hq25 : q < 25 := by omega
  have hr8 : r < 8 := by omega
  refine region_tail 10 (fun w' => SmAt w w' b1 S) (by kernel_rfl) (by kernel_rfl) H.drew ?_
  clear H
  intro w2 H
  have c := H.s.cell q hq25
  have f := H.s.frozen q
  have i3 : ((n : Int) % 136).tdiv 8 = (q : Int) := by have := HKK.out; rw [Int.tdiv_eq_ediv_of_nonneg (by omega)]; omega
  have i6 : ((n : Int) % 136).tmod 8 = (r : Int) := by have := HKK.out; rw [Int.tmod_eq_emod_of_nonneg (by omega)]; omega
  have i2 : (q : Int) < 25 := by omega
  have i4 : IntKind.i64.wrap (q : Int) = (q : Int) := IntWalk.i64_in _ (by omega)
  have i5 : 0 ≤ (q : Int) := by omega
  have i7 : IntKind.i64.wrap (r : Int) = (r : Int) := IntWalk.i64_in _ (by omega)
  have i8 : IntKind.i64.wrap (8 * (r : Int)) = 8 * (r : Int) := IntWalk.i64_in _ (by omega)
  have i9 : 0 ≤ 8 * (r : Int) := by omega
  have i10 : 8 * (r : Int) ≤ 64 := by omega
  have j1 : (8 * (r : Int)).toNat = 8 * r := by omega
  have j2 : min (8 * r) 64 = 8 * r := by omega
  have j4 : IntKind.u64.wrap (6 * 2 ^ (8 * r)) = U (Spo.b64 6 <<< (8 * r)) := by have := shl_U (Spo.b64 6) (8 * r); rwa [U_b6] at this
  have HQ := Lib.hid hq
  have HR := Lib.hid hr
  clear hq hr
  simp only [List.take_succ_cons, List.take_zero, List.drop_succ_cons, List.drop_zero]
  repeat still_step
  refine wpStill_nil ?_
  clear i2 i3 i4 i5 i6 i7 i8 i9 i10 j1 j2 j4
  go_upto_region 4 with (fail)
  clear c f
  refine wp_gen (fun w' => SmAt w w' b1 (Spo.put S k 6)) (by have := H.put_ h1 q (S q ^^^ Spo.b64 6 <<< (8 * r)); unfold Spo.put; rw [← HQ.out, ← HR.out]; exact this) ?_
  clear H HQ HR hq25 hr8 hk
  intro w3 H
  have c := H.s.cell 16 (by decide)
  have f := H.s.frozen 16
  go_upto_region 5 with (fail)
  clear c f
  refine wp_gen (fun w' => SmAt w w' b1 (Spo.upd (Spo.put S k 6) 16 (Spo.put S k 6 16 ^^^ Spo.top))) (H.put_ h1 16 _) ?_
  clear H
  intro w4 H
  have hP : Kec.perm (Spo.upd (Spo.put S k 6) 16 (Spo.put S k 6 16 ^^^ Spo.top)) = Spo.fin (S, k) := rfl
  generalize Spo.upd (Spo.put S k 6) 16 (Spo.put S k 6 16 ^^^ Spo.top) = T at *
  have HP := Lib.hid hP
  clear hP
  have hC4 := hC.below H.k
  go_wp2_with (refine wpList_load_row rfl 94 _ rfl b1 rfl 94 _ (0, 0) _ H.s.row Tryz.underlying94 rfl (by rw [arr_size]; exact info26) ?_)
  refine (permute_any T _ hC4).mono ?_
  rintro e w5 ⟨rfl, hb5⟩
  replace H := H.below hb5
  clear hb5 hC4
  go_upto_region 6 with (refine wpList_store_row rfl 94 _ _ rfl b1 (arr (Kec.perm T)) rfl rfl 94 _ H.s.row (by rw [arr_size]; exact info26) (by rw [arr_size, arr_size]) (arr_one _) ?_)
  have H6 := H.setRow h1 (Kec.perm T)
  refine wp_gen (fun w' => SmAt w w' b1 (Kec.perm T)) H6 ?_
  clear H H6
  intro w6 H
  generalize Kec.perm T = P at *
  clear HKK
  obtain ⟨b2, hb2⟩ : ∃ b, b = w6.heap.size := ⟨_, rfl⟩
  have h12 : b1 < b2 := by rw [hb2]; exact World.rowIs.lt H.s
  have H7 : Sm2 w (w6.alloc (.cells #[Value.int .u8 0, Value.int .u8 0, Value.int .u8 0, Value.int .u8 0, Value.int .u8 0, Value.int .u8 0, Value.int .u8 0, Value.int .u8 0, Value.int .u8 0, Value.int .u8 0, Value.int .u8 0, Value.int .u8 0, Value.int .u8 0, Value.int .u8 0, Value.int .u8 0, Value.int .u8 0, Value.int .u8 0, Value.int .u8 0, Value.int .u8 0, Value.int .u8 0, Value.int .u8 0, Value.int .u8 0, Value.int .u8 0, Value.int .u8 0, Value.int .u8 0, Value.int .u8 0, Value.int .u8 0, Value.int .u8 0, Value.int .u8 0, Value.int .u8 0, Value.int .u8 0, Value.int .u8 0] 83)) b1 b2 P (mixB P 0) := by
    refine ⟨World.rowIs.alloc H.s _, ?_, H.k.alloc H.k.size _⟩
    rw [hb2]
    exact World.rowIs_alloc w6 #[Value.int .u8 0, Value.int .u8 0, Value.int .u8 0, Value.int .u8 0, Value.int .u8 0, Value.int .u8 0, Value.int .u8 0, Value.int .u8 0, Value.int .u8 0, Value.int .u8 0, Value.int .u8 0, Value.int .u8 0, Value.int .u8 0, Value.int .u8 0, Value.int .u8 0, Value.int .u8 0, Value.int .u8 0, Value.int .u8 0, Value.int .u8 0, Value.int .u8 0, Value.int .u8 0, Value.int .u8 0, Value.int .u8 0, Value.int .u8 0, Value.int .u8 0, Value.int .u8 0, Value.int .u8 0, Value.int .u8 0, Value.int .u8 0, Value.int .u8 0, Value.int .u8 0, Value.int .u8 0] 83 _ (fun i hi => by
      have hi32 : i < 32 := hi
      have : (mixB P 0 i) = 0 := by unfold mixB; rw [if_neg (by omega)]
      rw [this]
      rw [show (#[Value.int .u8 0, Value.int .u8 0, Value.int .u8 0, Value.int .u8 0, Value.int .u8 0, Value.int .u8 0, Value.int .u8 0, Value.int .u8 0, Value.int .u8 0, Value.int .u8 0, Value.int .u8 0, Value.int .u8 0, Value.int .u8 0, Value.int .u8 0, Value.int .u8 0, Value.int .u8 0, Value.int .u8 0, Value.int .u8 0, Value.int .u8 0, Value.int .u8 0, Value.int .u8 0, Value.int .u8 0, Value.int .u8 0, Value.int .u8 0, Value.int .u8 0, Value.int .u8 0, Value.int .u8 0, Value.int .u8 0, Value.int .u8 0, Value.int .u8 0, Value.int .u8 0, Value.int .u8 0] : Array Value) = (List.replicate 32 (Value.int .u8 0)).toArray from rfl]
      rw [List.getElem?_toArray, List.getElem?_replicate, if_pos hi32])
  go_upto_region 7 with (fail)
  rw [← hb2]
  refine wp_gen (fun w' => Sm2 w w' b1 b2 P (mixB P 0)) H7 ?_
  clear H H7 hb2
  intro w7 H
  go_wp2_with fail
  go_loopw [32] (fun v wr => ∃ k : Nat, k ≤ 32 ∧ v = .int .i64 k ∧ Sm2 w wr b1 b2 P (mixB P k)) (fun v _ => 32 - (intOf v).toNat)
  case atStart => exact ⟨0, by omega, rfl, H⟩
  case round =>
    clear H
    obtain ⟨k, hk, rfl, H⟩ := hrel
    by_cases hlt : k < 32
    · obtain ⟨q, hq⟩ : ∃ q, q = k / 8 := ⟨_, rfl⟩
      obtain ⟨r, hr⟩ : ∃ r, r = k % 8 := ⟨_, rfl⟩
      have hq25 : q < 25 := by omega
      have hr8 : r < 8 := by omega
      have c := H.s.cell q hq25
      have d := H.q.cell k hlt
      have f := H.q.frozen k
      have i1 : (k : Int) / 8 = (q : Int) := by omega
      have i2 : (k : Int) % 8 = (r : Int) := by omega
      have i3 : (q : Int) < 25 := by omega
      have i9 : 0 ≤ 8 * (r : Int) := by omega
      have i10 : 8 * (r : Int) ≤ 64 := by omega
      have j1 : (8 * (r : Int)).toNat = 8 * r := by omega
      have j2 : min (8 * r) 64 = 8 * r := by omega
      have j4 := shr_U (P q) (8 * r)
      have HQ := Lib.hid hq
      have HR := Lib.hid hr
      clear hq hr
      go_upto_region 11 with (fail)
      clear c d f i1 i2 i3 i9 i10 j1 j2 j4
      have hv : W8 (P q >>> (8 * r)) = byt P k := by unfold byt; rw [← HQ.out, ← HR.out]
      refine wp_gen (fun w' => Sm2 w w' b1 b2 P (mixB P (k + 1))) ?_ ?_
      · have h5 := H.put_ h1 h12 k (W8 (P q >>> (8 * r)))
        refine ⟨h5.s, h5.q.congr fun i _ => ?_, h5.k⟩
        rw [hv]
        unfold mixB
        by_cases hi : i = k
        · rw [if_pos hi, if_pos (by omega), hi]
        · rw [if_neg hi]
          by_cases hj : i < k
          · rw [if_pos hj, if_pos (by omega)]
          · rw [if_neg hj, if_neg (by omega)]
      · clear H hv
        intro w8 H
        go_wp2_with fail
        go_roundw
        case rel => exact ⟨k + 1, by omega, by go_num, H⟩
        case measure => simp [intOf]; omega
    · obtain rfl : k = 32 := by omega
      have hcv := H.q.str 76 5 9 Tryz.underlying76 Tryz.underlying5 Tryz.underlying9
      rw [str_sq] at hcv
      go_wp2_with fail
      go_ret
      exact ⟨by rw [HP.out]; rfl, H.k⟩

theorem below_of_grown {a w' : World} {b B : Nat} (hg : a.grownBy w' (some b)) (hB : B ≤ b) (hs : B ≤ a.heap.size) : Below B a w' :=
  ⟨hg.os, hg.tape, hg.output, hg.size, fun k hk => hg.block k (by omega) (by simp; omega)⟩

/-- The digest of a string, as a string. -/
def digS (s : ByteArray) : ByteArray := ⟨(Spo.dig s.data.toList).toArray⟩
theorem spo_zero : Spo.zero = Z := rfl
theorem IsSp.new (w : World) : IsSp (w.alloc (.cells #[Value.int .u64 0, Value.int .u64 0, Value.int .u64 0, Value.int .u64 0, Value.int .u64 0, Value.int .u64 0, Value.int .u64 0, Value.int .u64 0, Value.int .u64 0, Value.int .u64 0, Value.int .u64 0, Value.int .u64 0, Value.int .u64 0, Value.int .u64 0, Value.int .u64 0, Value.int .u64 0, Value.int .u64 0, Value.int .u64 0, Value.int .u64 0, Value.int .u64 0, Value.int .u64 0, Value.int .u64 0, Value.int .u64 0, Value.int .u64 0, Value.int .u64 0, Value.int .i64 0] 96)) w.heap.size Z 0 := by
  have h := World.rowIs_alloc w #[Value.int .u64 0, Value.int .u64 0, Value.int .u64 0, Value.int .u64 0, Value.int .u64 0, Value.int .u64 0, Value.int .u64 0, Value.int .u64 0, Value.int .u64 0, Value.int .u64 0, Value.int .u64 0, Value.int .u64 0, Value.int .u64 0, Value.int .u64 0, Value.int .u64 0, Value.int .u64 0, Value.int .u64 0, Value.int .u64 0, Value.int .u64 0, Value.int .u64 0, Value.int .u64 0, Value.int .u64 0, Value.int .u64 0, Value.int .u64 0, Value.int .u64 0, Value.int .i64 0] 96 (fun i => if i < 25 then .int .u64 (U (Z i)) else .int .i64 (0 : Nat)) (fun i hi => by
    have hi26 : i < 26 := hi
    have hc : i = 0 ∨ i = 1 ∨ i = 2 ∨ i = 3 ∨ i = 4 ∨ i = 5 ∨ i = 6 ∨ i = 7 ∨ i = 8 ∨ i = 9 ∨ i = 10 ∨ i = 11 ∨ i = 12 ∨ i = 13 ∨ i = 14 ∨ i = 15 ∨ i = 16 ∨ i = 17 ∨ i = 18 ∨ i = 19 ∨ i = 20 ∨ i = 21 ∨ i = 22 ∨ i = 23 ∨ i = 24 ∨ i = 25 := by omega
    rcases hc with rfl | rfl | rfl | rfl | rfl | rfl | rfl | rfl | rfl | rfl | rfl | rfl | rfl | rfl | rfl | rfl | rfl | rfl | rfl | rfl | rfl | rfl | rfl | rfl | rfl | rfl <;> rfl)
  exact h

set_option maxHeartbeats 1000000 in
set_option maxRecDepth 100000 in
theorem sum_any (s : ByteArray) (w : World) (hC : Consts w) (hn : s.size ≤ 4611686018427387904) :
    Calls Tryz.prog 38 #[.string s] w fun e w' => e = .returned (.string (digS s)) ∧ Below w.heap.size w w' := by
  have hsp := IsSp.new w
  have hb : Below w.heap.size w (w.alloc (.cells #[Value.int .u64 0, Value.int .u64 0, Value.int .u64 0, Value.int .u64 0, Value.int .u64 0, Value.int .u64 0, Value.int .u64 0, Value.int .u64 0, Value.int .u64 0, Value.int .u64 0, Value.int .u64 0, Value.int .u64 0, Value.int .u64 0, Value.int .u64 0, Value.int .u64 0, Value.int .u64 0, Value.int .u64 0, Value.int .u64 0, Value.int .u64 0, Value.int .u64 0, Value.int .u64 0, Value.int .u64 0, Value.int .u64 0, Value.int .u64 0, Value.int .u64 0, Value.int .i64 0] 96)) := (Below.refl _ _).alloc (Nat.le_refl _) _
  have hpos := hC.1
  go_enter Tryz.func38, Tryz.ntmps38
  go_wp2_with fail
  refine (take_any Z 0 w.heap.size s _ (hC.below hb) hpos hsp (by omega)).mono ?_
  rintro e w2 ⟨rfl, hat⟩
  go_wp2_with fail
  refine (spSum_any _ _ _ _ ((hC.below hb).grown hpos hat.g) hat.s (by omega)).mono ?_
  rintro e w3 ⟨rfl, hb3⟩
  go_wp2_with fail
  go_ret
  refine ⟨?_, ?_⟩
  · have h := Spo.ab_at s.data.toList (Spo.zero, 0) (by decide)
    have hl : s.data.toList.length = s.size := rfl
    unfold digS Spo.dig
    rw [show s.size % 136 = (Spo.ab (Spo.zero, 0) s.data.toList).2 from by rw [h, hl]; simp]
    rfl
  · exact hb.trans ((below_of_grown hat.g (Nat.le_refl _) (by simp)).trans (hb3.mono (by have := hat.g.size; simp at this; omega)))
end Go.Proofs.YtmmdldicafbjdaaGreatDoor.Dg
