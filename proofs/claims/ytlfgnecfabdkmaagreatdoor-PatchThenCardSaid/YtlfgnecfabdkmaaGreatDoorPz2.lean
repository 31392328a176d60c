/- take absorbs a string. Condition: the round constants lie in their variable.
Sum of a sponge returns the digest of what was taken in. Condition: the round constants lie in their variable.
Hex returns the text of a digest, or the error. No condition.
Parse returns the digest with a text, or the error. No condition. -/
import Derived.Test.YtlfgnecfabdkmaaGreatDoorPz1
import Derived.Deep.MidRow
import Derived.StillTailTactics
import Derived.Deep.RegionWith
import Derived.Lib.LazyBuf
import Derived.Laws.BytesArg
import Derived.Lib.Bytealg
section
namespace Go.Proofs.YtlfgnecfabdkmaaGreatDoor.Dg
open Go.RowKit

theorem U_b64 (c : UInt8) : IntKind.u64.wrap (c.toNat : Int) = U (Spo.b64 c) := by
  rw [IntKind.wrap_u64]; unfold U Spo.b64
  rw [BitVec.toNat_ofNat]
  have := c.toNat_lt
  omega
theorem word_val (c0 c1 c2 c3 c4 c5 c6 c7 : UInt8) : bits BinOp.or IntKind.u64 (bits BinOp.or IntKind.u64 (bits BinOp.or IntKind.u64 (bits BinOp.or IntKind.u64 (bits BinOp.or IntKind.u64 (bits BinOp.or IntKind.u64 (bits BinOp.or IntKind.u64 (IntKind.u64.wrap (c0.toNat : Int))
    (IntKind.u64.wrap (IntKind.u64.wrap (c1.toNat : Int) * 256))) (IntKind.u64.wrap (IntKind.u64.wrap (c2.toNat : Int) * 65536))) (IntKind.u64.wrap (IntKind.u64.wrap (c3.toNat : Int) * 16777216))) (IntKind.u64.wrap (IntKind.u64.wrap (c4.toNat : Int) * 4294967296)))
    (IntKind.u64.wrap (IntKind.u64.wrap (c5.toNat : Int) * 1099511627776))) (IntKind.u64.wrap (IntKind.u64.wrap (c6.toNat : Int) * 281474976710656))) (IntKind.u64.wrap (IntKind.u64.wrap (c7.toNat : Int) * 72057594037927936)) = U (Spo.word c0 c1 c2 c3 c4 c5 c6 c7) := by
  have h8 := fun x => shl_U x 8
  have h16 := fun x => shl_U x 16
  have h24 := fun x => shl_U x 24
  have h32 := fun x => shl_U x 32
  have h40 := fun x => shl_U x 40
  have h48 := fun x => shl_U x 48
  have h56 := fun x => shl_U x 56
  rw [show (2 : Int) ^ 8 = 256 from rfl] at h8
  rw [show (2 : Int) ^ 16 = 65536 from rfl] at h16
  rw [show (2 : Int) ^ 24 = 16777216 from rfl] at h24
  rw [show (2 : Int) ^ 32 = 4294967296 from rfl] at h32
  rw [show (2 : Int) ^ 40 = 1099511627776 from rfl] at h40
  rw [show (2 : Int) ^ 48 = 281474976710656 from rfl] at h48
  rw [show (2 : Int) ^ 56 = 72057594037927936 from rfl] at h56
  rw [U_b64, U_b64, U_b64, U_b64, U_b64, U_b64, U_b64, U_b64, h8, h16, h24, h32, h40, h48, h56, or_U, or_U, or_U, or_U, or_U, or_U, or_U]
  rfl
theorem ext_get (s : ByteArray) (i : Nat) (hi : i < 8) (hs : 8 ≤ s.size) (h : i < (s.extract 0 8).size) : (s.extract 0 8)[i] = s[i] := by
  simp [ByteArray.getElem_extract]

set_option maxHeartbeats 1000000 in
set_option maxRecDepth 100000 in
theorem word_any (s : ByteArray) (hs : 8 ≤ s.size) (hm : s.size ≤ maxLen) (w : World) :
    Calls Tryz.prog 91 #[.string s] w fun e w' => e = .returned (.int .u64 (U (Spo.word s[0] s[1] s[2] s[3] s[4] s[5] s[6] s[7]))) ∧ ∃ n, w' = w.drewN n := by
  unfold maxLen at hm
  go_enter Tryz.func91, Tryz.ntmps91
  go_wp2_with fail
  go_quiet (fail)
  go_wp2_with fail
  go_ret
  refine ⟨congrArg Ending.returned (congrArg (Value.int .u64) ?_), _, rfl⟩
  rw [ext_get s 0 (by decide) hs, ext_get s 1 (by decide) hs, ext_get s 2 (by decide) hs, ext_get s 3 (by decide) hs, ext_get s 4 (by decide) hs, ext_get s 5 (by decide) hs, ext_get s 6 (by decide) hs, ext_get s 7 (by decide) hs]
  exact word_val _ _ _ _ _ _ _ _

/-- Block b holds a sponge: the state and how many bytes were taken in. -/
def IsSp (w : World) (b : Nat) (S : Kec.St) (n : Nat) : Prop := w.rowIs b 107 26 (fun i => if i < 25 then .int .u64 (U (S i)) else .int .i64 n)
theorem IsSp.word {w : World} {b n : Nat} {S : Kec.St} (h : IsSp w b S n) (i : Nat) (hi : i < 25) : w.cell? ⟨b, i, none⟩ = some (.int .u64 (U (S i))) := by
  have := World.rowIs.cell h (show i < 26 by omega); rwa [if_pos hi] at this
theorem IsSp.count {w : World} {b n : Nat} {S : Kec.St} (h : IsSp w b S n) : w.cell? ⟨b, 25, none⟩ = some (.int .i64 n) := World.rowIs.cell h (show 25 < 26 by decide)
theorem IsSp.frozen {w : World} {b n : Nat} {S : Kec.St} (h : IsSp w b S n) (i : Nat) : w.frozen? ⟨b, i, none⟩ = false := World.rowIs.frozen h i
theorem IsSp.put_ {w : World} {b n : Nat} {S : Kec.St} (h : IsSp w b S n) (i : Nat) (hi : i < 25) (x : BitVec 64) : IsSp (w.setCell ⟨b, i, none⟩ (.int .u64 (U x))) b (Spo.upd S i x) n :=
  World.rowIs.congr (World.rowIs.set h i _) fun j _ => by
    show (if j = i then Value.int .u64 (U x) else (if j < 25 then Value.int .u64 (U (S j)) else .int .i64 n)) = (if j < 25 then Value.int .u64 (U (if j = i then x else S j)) else .int .i64 n)
    by_cases hj : j = i
    · subst hj; rw [if_pos rfl, if_pos hi, if_pos rfl]
    · rw [if_neg hj, if_neg hj]
theorem IsSp.add_ {w : World} {b n : Nat} {S : Kec.St} (h : IsSp w b S n) (m : Nat) : IsSp (w.setCell ⟨b, 25, none⟩ (.int .i64 m)) b S m :=
  World.rowIs.congr (World.rowIs.set h 25 _) fun j hj => by
    show (if j = 25 then Value.int .i64 (m : Int) else (if j < 25 then Value.int .u64 (U (S j)) else .int .i64 n)) = (if j < 25 then Value.int .u64 (U (S j)) else .int .i64 m)
    by_cases e : j = 25
    · subst e; rfl
    · rw [if_neg e, if_pos (by omega), if_pos (by omega)]

/-- From the world w on, block b alone has turned, and holds a sponge. -/
structure SpAt (w w' : World) (b : Nat) (S : Kec.St) (n : Nat) : Prop where
  s : IsSp w' b S n
  g : w.grownBy w' (some b)
theorem SpAt.put_ {w w' : World} {b n : Nat} {S : Kec.St} (h : SpAt w w' b S n) (i : Nat) (hi : i < 25) (x : BitVec 64) : SpAt w (w'.setCell ⟨b, i, none⟩ (.int .u64 (U x))) b (Spo.upd S i x) n :=
  ⟨h.s.put_ i hi x, only_setCell h.g (.inl rfl) _⟩
theorem SpAt.add_ {w w' : World} {b n : Nat} {S : Kec.St} (h : SpAt w w' b S n) (m : Nat) : SpAt w (w'.setCell ⟨b, 25, none⟩ (.int .i64 m)) b S m :=
  ⟨h.s.add_ m, only_setCell h.g (.inl rfl) _⟩
theorem SpAt.drewN {w w' : World} {b n : Nat} {S : Kec.St} (h : SpAt w w' b S n) (k : Nat) : SpAt w (w'.drewN k) b S n := ⟨h.s, only_drewN h.g k⟩
theorem SpAt.drew {w w' : World} {b n : Nat} {S : Kec.St} (h : SpAt w w' b S n) : SpAt w w'.drew b S n := ⟨h.s, only_drew h.g⟩
theorem SpAt.below {w w' w'' : World} {b n : Nat} {S : Kec.St} (h : SpAt w w' b S n) (hb : Below w'.heap.size w' w'') : SpAt w w'' b S n :=
  ⟨World.rowIs.of_block h.s (hb.block _ (World.rowIs.lt h.s)), ⟨hb.os.trans h.g.os, hb.tape.trans h.g.tape, hb.output.trans h.g.output, Nat.le_trans h.g.size hb.size, fun i hi hne => (hb.block i (Nat.lt_of_lt_of_le hi h.g.size)).trans (h.g.block i hi hne)⟩⟩
theorem Consts.grown {w w' : World} {b : Nat} (h : Consts w) (hb : 1 < b) (hg : w.grownBy w' (some b)) : Consts w' :=
  ⟨Nat.lt_of_lt_of_le h.1 hg.size, fun i hi => by
    rw [World.cell?_of_block (w := w) (hg.block 1 h.1 (by simp; omega))]; exact h.2 i hi⟩

theorem only_setCells {a : World} {b : Nat} : ∀ (vs : List Value) (o : Nat) (w : World), a.grownBy w (some b) → a.grownBy (w.setCells b o vs) (some b)
  | [], _, _, h => h
  | v :: r, o, _, h => only_setCells r (o + 1) _ (only_setCell h (.inl rfl) v)
def cells (S : Kec.St) : List Value := (List.range 25).map fun i => Value.int .u64 (U (S i))
theorem cells_len (S : Kec.St) : (cells S).length = 25 := by unfold cells; simp
theorem cells_get (S : Kec.St) (i : Nat) (hi : i < 25) : (cells S)[i]? = some (.int .u64 (U (S i))) := by unfold cells; simp [hi]
theorem cells_arr (S : Kec.St) : (cells S).toArray = arr S := rfl
theorem IsSp.range {w : World} {b n : Nat} {S : Kec.St} (h : IsSp w b S n) : w.rangeAt b 0 (cells S) := fun j v hv => by
  by_cases hj : j < 25
  · rw [cells_get S j hj] at hv
    rw [Nat.zero_add, h.word j hj, hv]
  · rw [List.getElem?_eq_none (by rw [cells_len]; omega)] at hv; cases hv
theorem IsSp.there {w : World} {b n : Nat} {S : Kec.St} (h : IsSp w b S n) : w.there b 0 25 := fun j hj => by
  rw [Nat.zero_add]; exact ⟨by rw [h.word j hj]; rfl, h.frozen j⟩
theorem SpAt.all_ {w w' : World} {b n : Nat} {S : Kec.St} (h : SpAt w w' b S n) (T : Kec.St) : SpAt w (w'.setCells b 0 (arr T).toList) b T n := by
  refine ⟨World.rowIs.congr (rowIs_setCells (arr T).toList 0 _ _ h.s) fun j _ => ?_, only_setCells _ _ _ h.g⟩
  have e : (arr T).toList = cells T := rfl
  rw [e, cells_len]
  by_cases hj : j < 25
  · rw [if_pos (by omega), if_pos hj, Nat.sub_zero, cells_get T j hj]; rfl
  · rw [if_neg (by omega), if_neg hj, if_neg hj]

/-- The length of a string. -/
def strLen : Value → Nat
  | .string t => t.size
  | _ => 0
theorem drop_ext (t : ByteArray) (n : Nat) : (t.extract n t.size).data.toList = t.data.toList.drop n := by
  rw [ByteArray.data_extract, Array.toList_extract, List.extract_eq_take_drop]
  exact List.take_of_length_le (by rw [List.length_drop]; exact Nat.le_refl _)
theorem get_list (t : ByteArray) (i : Nat) (hi : i < t.size) : t[i] = t.data.toList[i]'(by simpa using hi) := by simp [ByteArray.getElem_eq_getElem_data]
theorem eightL (l : List UInt8) (h : 8 ≤ l.length) : l = [l[0], l[1], l[2], l[3], l[4], l[5], l[6], l[7]] ++ l.drop 8 := by
  match l, h with
  | a :: b :: c :: d :: e :: f :: g :: h :: r, _ => rfl
theorem oneL (l : List UInt8) (h : 1 ≤ l.length) : l = [l[0]] ++ l.drop 1 := by
  match l, h with
  | a :: r, _ => rfl
theorem eight (t : ByteArray) (h : 8 ≤ t.size) : t.data.toList = [t[0], t[1], t[2], t[3], t[4], t[5], t[6], t[7]] ++ (t.extract 8 t.size).data.toList := by
  rw [drop_ext, get_list t 0, get_list t 1, get_list t 2, get_list t 3, get_list t 4, get_list t 5, get_list t 6, get_list t 7]
  exact eightL _ (by simpa using h)
theorem one (t : ByteArray) (h : 1 ≤ t.size) : t.data.toList = [t[0]] ++ (t.extract 1 t.size).data.toList := by
  rw [drop_ext, get_list t 0]
  exact oneL _ (by simpa using h)

set_option maxHeartbeats 4000000 in
set_option maxRecDepth 100000 in
theorem take_any (S : Kec.St) (n b : Nat) (s : ByteArray) (w : World) (hC : Consts w) (hb : 1 < b) (hS : IsSp w b S n) (hn : n + s.size ≤ 4611686018427387904) :
    Calls Tryz.prog 74 #[.pointer (some ⟨b, 0, none⟩), .string s] w fun e w' => e = .returned (.tuple #[]) ∧ SpAt w w' b (Spo.ab (S, n % 136) s.data.toList).1 (n + s.size) := by
  have H : SpAt w w b S n := ⟨hS, ⟨rfl, rfl, rfl, Nat.le_refl _, fun _ _ _ => rfl⟩⟩
  have c := H.s.count
  have f := H.s.frozen 25
  clear hS
  go_enter Tryz.func74, Tryz.ntmps74
  have h136 : decide (0 < (136 : Int)) = true := by decide
  go_wp2_with fail
  clear c f h136
  refine wp_gen (fun w' => SpAt w w' b S (n + s.size)) (by have := H.add_ (n + s.size); simpa using this) ?_
  clear H
  intro w1 H
  have hk0 : n % 136 < 136 := Nat.mod_lt _ (by decide)
  go_loopw [1, 4] (fun d a wr => ∃ (t : ByteArray) (T : Kec.St) (k : Nat), t.size ≤ s.size ∧ k < 136 ∧ d = .string t ∧ a = .int .i64 k ∧ Hid (Spo.ab (S, n % 136) s.data.toList = Spo.ab (T, k) t.data.toList) ∧ SpAt w wr b T (n + s.size)) (fun d _ _ => strLen d)
  case atStart => exact ⟨s, S, n % 136, Nat.le_refl _, hk0, rfl, by go_num, rfl, H⟩
  case round =>
    clear H hk0
    obtain ⟨t, T, k, ht, hk, rfl, rfl, hE, H⟩ := hrel
    by_cases hlt : 0 < t.size
    · by_cases hA : k % 8 = 0 ∧ 8 ≤ t.size
      · obtain ⟨hk8, h8⟩ := hA
        have b1 : ((k : Int) % 8 == 0) = true := beq_iff_eq.2 (by omega)
        obtain ⟨q, hq⟩ : ∃ q, q = k / 8 := ⟨_, rfl⟩
        have hq25 : q < 25 := by omega
        have i1 : (k : Int) / 8 = (q : Int) := by omega
        have HK8 := Lib.hid hk8
        have HQ := Lib.hid hq
        clear hk8 hq
        go_upto_region 6 with (fail)
        have c := H.s.word q hq25
        have f := H.s.frozen q
        have i2 : (q : Int) < 25 := by omega
        have i3 : ((k : Int)).tdiv 8 = (q : Int) := by rw [Int.tdiv_eq_ediv_of_nonneg (by omega)]; exact i1
        have i4 : IntKind.i64.wrap (q : Int) = (q : Int) := IntWalk.i64_in _ (by omega)
        have i5 : 0 ≤ (q : Int) := by omega
        have hmx : t.size ≤ maxLen := by unfold maxLen; omega
        have hwc := fun W => word_any t h8 hmx W
        generalize hv : Spo.word t[0] t[1] t[2] t[3] t[4] t[5] t[6] t[7] = v at hwc
        have HV := Lib.hid hv
        have HWC := Lib.hid hwc
        clear hv hmx hwc
        go_region_with ((go_at_call 91; refine (HWC.out _).mono ?_; rintro e wx ⟨rfl, nq, rfl⟩))
        all_goals
          clear c f i1 i2 i3 i4 i5
          have hW : Spo.ab (T, k) t.data.toList = Spo.ab (if k + 8 = 136 then (Kec.perm (Spo.upd T q (T q ^^^ v)), 0) else (Spo.upd T q (T q ^^^ v), k + 8)) (t.extract 8 t.size).data.toList := by
            rw [eight t h8, Spo.ab_append, Spo.ab_word T k _ _ _ _ _ _ _ _ HK8.out (by have := HK8.out; omega), HV.out, HQ.out]
          have HW := Lib.hid hW
          clear hW
          go_upto_region 8 with (fail)
          refine wp_gen (fun w' => SpAt w w' b (Spo.upd T q (T q ^^^ v)) (n + s.size)) ((H.drewN _).put_ q hq25 (T q ^^^ v)) ?_
          clear H
          intro w5 H
          have hEE := hE.out
          rw [HW.out] at hEE
          by_cases hend : k + 8 = 136
          · have b2 : ((k : Int) + 8 == 136) = true := beq_iff_eq.2 (by omega)
            rw [if_pos hend] at hEE
            have HE := Lib.hid hEE
            clear hEE hend
            have hC5 := hC.grown hb H.g
            go_upto_region 11 with (fail)
            go_wp2_with (refine wpList_load_mid rfl 105 _ rfl b 0 rfl (cells (Spo.upd T q (T q ^^^ v))) _ H.s.range Tryz.underlying105 rfl (by rw [cells_len]; exact info26) ?_)
            refine (permute_any (Spo.upd T q (T q ^^^ v)) _ hC5).mono ?_
            rintro e w6 ⟨rfl, hb6⟩
            replace H := H.below hb6
            go_wp2_with (refine wpList_store_mid rfl 105 _ _ rfl b 0 (arr (Kec.perm (Spo.upd T q (T q ^^^ v)))) rfl rfl (by rw [arr_size]; exact H.s.there) (by rw [arr_size]; exact info26) (arr_one _) ?_)
            go_roundw
            case rel => exact ⟨t.extract 8 t.size, Kec.perm (Spo.upd T q (T q ^^^ v)), 0, by simp; omega, by omega, rfl, rfl, HE.out, H.all_ _⟩
            case measure => simp [strLen]; omega
          · have b2 : ((k : Int) + 8 == 136) = false := beq_eq_false_iff_ne.2 (by omega)
            rw [if_neg hend] at hEE
            have HE := Lib.hid hEE
            clear hEE
            have hlt' : k + 8 < 136 := by have := HK8.out; omega
            clear hend
            go_wp2_with fail
            go_roundw
            case rel => exact ⟨t.extract 8 t.size, (Spo.upd T q (T q ^^^ v)), k + 8, by simp; omega, hlt', rfl, by go_num, HE.out, H⟩
            case measure => simp [strLen]; omega
      · by_cases hk8 : k % 8 = 0
        · have h8 : t.size < 8 := by omega
          obtain ⟨q, hq⟩ : ∃ q, q = k / 8 := ⟨_, rfl⟩
          obtain ⟨r, hr⟩ : ∃ r, r = k % 8 := ⟨_, rfl⟩
          have hq25 : q < 25 := by omega
          have hr8 : r < 8 := by omega
          have hW : Spo.ab (T, k) t.data.toList = Spo.ab (if k + 1 = 136 then (Kec.perm (Spo.upd T q (T q ^^^ Spo.b64 t[0] <<< (8 * r))), 0) else (Spo.upd T q (T q ^^^ Spo.b64 t[0] <<< (8 * r)), k + 1)) (t.extract 1 t.size).data.toList := by
            rw [one t hlt, List.singleton_append, Spo.ab_cons]
            unfold Spo.ab1 Spo.put
            rw [← hq, ← hr]
          have HW := Lib.hid hW
          clear hW
          have HQ := Lib.hid hq
          have HR := Lib.hid hr
          clear hq hr
          have b1 : ((k : Int) % 8 == 0) = true := beq_iff_eq.2 (by omega)
          clear hk8 hA
          go_upto_region 7 with (fail)
          refine region_tail 18 (fun w' => SpAt w w' b T (n + s.size)) (by kernel_rfl) (by kernel_rfl) H.drew ?_
          clear H
          intro w4 H
          have c := H.s.word q hq25
          have f := H.s.frozen q
          have i3 : ((k : Int)).tdiv 8 = (q : Int) := by have := HQ.out; rw [Int.tdiv_eq_ediv_of_nonneg (by omega)]; omega
          have i6 : ((k : Int)).tmod 8 = (r : Int) := by have := HR.out; rw [Int.tmod_eq_emod_of_nonneg (by omega)]; omega
          have i2 : (q : Int) < 25 := by omega
          have i4 : IntKind.i64.wrap (q : Int) = (q : Int) := IntWalk.i64_in _ (by omega)
          have i5 : 0 ≤ (q : Int) := by omega
          have i7 : IntKind.i64.wrap (r : Int) = (r : Int) := IntWalk.i64_in _ (by omega)
          have i8 : IntKind.i64.wrap (8 * (r : Int)) = 8 * (r : Int) := IntWalk.i64_in _ (by omega)
          have i9 : 0 ≤ 8 * (r : Int) := by omega
          have i10 : 8 * (r : Int) ≤ 64 := by omega
          have j1 : (8 * (r : Int)).toNat = 8 * r := by omega
          have j2 : min (8 * r) 64 = 8 * r := by omega
          have j3 : IntKind.u64.wrap (t[0].toNat : Int) = U (Spo.b64 t[0]) := U_b64 _
          have j4 := shl_U (Spo.b64 t[0]) (8 * r)
          have j5 : 0 < t.size := hlt
          simp only [List.take_succ_cons, List.take_zero, List.drop_succ_cons, List.drop_zero]
          repeat still_step
          refine wpStill_nil ?_
          clear i2 i3 i4 i5 i6 i7 i8 i9 i10 j1 j2 j3 j4 j5
          go_upto_region 8 with (fail)
          clear c f
          refine wp_gen (fun w' => SpAt w w' b (Spo.upd T q (T q ^^^ Spo.b64 t[0] <<< (8 * r))) (n + s.size)) (H.put_ q hq25 (T q ^^^ Spo.b64 t[0] <<< (8 * r))) ?_
          clear H
          intro w5 H
          have hEE := hE.out
          rw [HW.out] at hEE
          by_cases hend : k + 1 = 136
          · have b2 : ((k : Int) + 1 == 136) = true := beq_iff_eq.2 (by omega)
            rw [if_pos hend] at hEE
            have HE := Lib.hid hEE
            clear hEE hend
            have hC5 := hC.grown hb H.g
            go_upto_region 11 with (fail)
            go_wp2_with (refine wpList_load_mid rfl 105 _ rfl b 0 rfl (cells (Spo.upd T q (T q ^^^ Spo.b64 t[0] <<< (8 * r)))) _ H.s.range Tryz.underlying105 rfl (by rw [cells_len]; exact info26) ?_)
            refine (permute_any (Spo.upd T q (T q ^^^ Spo.b64 t[0] <<< (8 * r))) _ hC5).mono ?_
            rintro e w6 ⟨rfl, hb6⟩
            replace H := H.below hb6
            go_wp2_with (refine wpList_store_mid rfl 105 _ _ rfl b 0 (arr (Kec.perm (Spo.upd T q (T q ^^^ Spo.b64 t[0] <<< (8 * r))))) rfl rfl (by rw [arr_size]; exact H.s.there) (by rw [arr_size]; exact info26) (arr_one _) ?_)
            go_roundw
            case rel => exact ⟨t.extract 1 t.size, Kec.perm (Spo.upd T q (T q ^^^ Spo.b64 t[0] <<< (8 * r))), 0, by simp; omega, by omega, rfl, rfl, HE.out, H.all_ _⟩
            case measure => simp [strLen]; omega
          · have b2 : ((k : Int) + 1 == 136) = false := beq_eq_false_iff_ne.2 (by omega)
            rw [if_neg hend] at hEE
            have HE := Lib.hid hEE
            clear hEE
            have hlt' : k + 1 < 136 := by omega
            clear hend
            go_wp2_with fail
            go_roundw
            case rel => exact ⟨t.extract 1 t.size, (Spo.upd T q (T q ^^^ Spo.b64 t[0] <<< (8 * r))), k + 1, by simp; omega, hlt', rfl, by go_num, HE.out, H⟩
            case measure => simp [strLen]; omega
        · clear hA
          obtain ⟨q, hq⟩ : ∃ q, q = k / 8 := ⟨_, rfl⟩
          obtain ⟨r, hr⟩ : ∃ r, r = k % 8 := ⟨_, rfl⟩
          have hq25 : q < 25 := by omega
          have hr8 : r < 8 := by omega
          have hW : Spo.ab (T, k) t.data.toList = Spo.ab (if k + 1 = 136 then (Kec.perm (Spo.upd T q (T q ^^^ Spo.b64 t[0] <<< (8 * r))), 0) else (Spo.upd T q (T q ^^^ Spo.b64 t[0] <<< (8 * r)), k + 1)) (t.extract 1 t.size).data.toList := by
            rw [one t hlt, List.singleton_append, Spo.ab_cons]
            unfold Spo.ab1 Spo.put
            rw [← hq, ← hr]
          have HW := Lib.hid hW
          clear hW
          have HQ := Lib.hid hq
          have HR := Lib.hid hr
          clear hq hr
          have b1 : ((k : Int) % 8 == 0) = false := beq_eq_false_iff_ne.2 (by omega)
          clear hk8
          go_upto_region 7 with (fail)
          refine region_tail 18 (fun w' => SpAt w w' b T (n + s.size)) (by kernel_rfl) (by kernel_rfl) H.drew ?_
          clear H
          intro w4 H
          have c := H.s.word q hq25
          have f := H.s.frozen q
          have i3 : ((k : Int)).tdiv 8 = (q : Int) := by have := HQ.out; rw [Int.tdiv_eq_ediv_of_nonneg (by omega)]; omega
          have i6 : ((k : Int)).tmod 8 = (r : Int) := by have := HR.out; rw [Int.tmod_eq_emod_of_nonneg (by omega)]; omega
          have i2 : (q : Int) < 25 := by omega
          have i4 : IntKind.i64.wrap (q : Int) = (q : Int) := IntWalk.i64_in _ (by omega)
          have i5 : 0 ≤ (q : Int) := by omega
          have i7 : IntKind.i64.wrap (r : Int) = (r : Int) := IntWalk.i64_in _ (by omega)
          have i8 : IntKind.i64.wrap (8 * (r : Int)) = 8 * (r : Int) := IntWalk.i64_in _ (by omega)
          have i9 : 0 ≤ 8 * (r : Int) := by omega
          have i10 : 8 * (r : Int) ≤ 64 := by omega
          have j1 : (8 * (r : Int)).toNat = 8 * r := by omega
          have j2 : min (8 * r) 64 = 8 * r := by omega
          have j3 : IntKind.u64.wrap (t[0].toNat : Int) = U (Spo.b64 t[0]) := U_b64 _
          have j4 := shl_U (Spo.b64 t[0]) (8 * r)
          have j5 : 0 < t.size := hlt
          simp only [List.take_succ_cons, List.take_zero, List.drop_succ_cons, List.drop_zero]
          repeat still_step
          refine wpStill_nil ?_
          clear i2 i3 i4 i5 i6 i7 i8 i9 i10 j1 j2 j3 j4 j5
          go_upto_region 8 with (fail)
          clear c f
          refine wp_gen (fun w' => SpAt w w' b (Spo.upd T q (T q ^^^ Spo.b64 t[0] <<< (8 * r))) (n + s.size)) (H.put_ q hq25 (T q ^^^ Spo.b64 t[0] <<< (8 * r))) ?_
          clear H
          intro w5 H
          have hEE := hE.out
          rw [HW.out] at hEE
          by_cases hend : k + 1 = 136
          · have b2 : ((k : Int) + 1 == 136) = true := beq_iff_eq.2 (by omega)
            rw [if_pos hend] at hEE
            have HE := Lib.hid hEE
            clear hEE hend
            have hC5 := hC.grown hb H.g
            go_upto_region 11 with (fail)
            go_wp2_with (refine wpList_load_mid rfl 105 _ rfl b 0 rfl (cells (Spo.upd T q (T q ^^^ Spo.b64 t[0] <<< (8 * r)))) _ H.s.range Tryz.underlying105 rfl (by rw [cells_len]; exact info26) ?_)
            refine (permute_any (Spo.upd T q (T q ^^^ Spo.b64 t[0] <<< (8 * r))) _ hC5).mono ?_
            rintro e w6 ⟨rfl, hb6⟩
            replace H := H.below hb6
            go_wp2_with (refine wpList_store_mid rfl 105 _ _ rfl b 0 (arr (Kec.perm (Spo.upd T q (T q ^^^ Spo.b64 t[0] <<< (8 * r))))) rfl rfl (by rw [arr_size]; exact H.s.there) (by rw [arr_size]; exact info26) (arr_one _) ?_)
            go_roundw
            case rel => exact ⟨t.extract 1 t.size, Kec.perm (Spo.upd T q (T q ^^^ Spo.b64 t[0] <<< (8 * r))), 0, by simp; omega, by omega, rfl, rfl, HE.out, H.all_ _⟩
            case measure => simp [strLen]; omega
          · have b2 : ((k : Int) + 1 == 136) = false := beq_eq_false_iff_ne.2 (by omega)
            rw [if_neg hend] at hEE
            have HE := Lib.hid hEE
            clear hEE
            have hlt' : k + 1 < 136 := by omega
            clear hend
            go_wp2_with fail
            go_roundw
            case rel => exact ⟨t.extract 1 t.size, (Spo.upd T q (T q ^^^ Spo.b64 t[0] <<< (8 * r))), k + 1, by simp; omega, hlt', rfl, by go_num, HE.out, H⟩
            case measure => simp [strLen]; omega
    · have h0 : t.data.toList = [] := List.eq_nil_of_length_eq_zero (by have : t.data.toList.length = t.size := rfl; omega)
      have hEE := hE.out
      rw [h0] at hEE
      have HE := Lib.hid hEE
      clear hEE h0
      go_wp2
      go_end0
      exact ⟨rfl, by rw [HE.out]; exact H⟩
end Go.Proofs.YtlfgnecfabdkmaaGreatDoor.Dg
end
section
namespace Go.Proofs.YtlfgnecfabdkmaaGreatDoor.Dg
open Go.RowKit

/-- Block b is an array of n bytes. -/
def IsBy (w : World) (b : Nat) (t : TypeId) (n : Nat) (f : Nat → Int) : Prop := w.rowIs b t n (fun i => .int .u8 (f i))
theorem IsBy.cell {w : World} {b n : Nat} {t : TypeId} {f : Nat → Int} (h : IsBy w b t n f) (i : Nat) (hi : i < n) : w.cell? ⟨b, i, none⟩ = some (.int .u8 (f i)) := World.rowIs.cell h hi
theorem IsBy.frozen {w : World} {b n : Nat} {t : TypeId} {f : Nat → Int} (h : IsBy w b t n f) (i : Nat) : w.frozen? ⟨b, i, none⟩ = false := World.rowIs.frozen h i
theorem IsBy.set_ {w : World} {b n : Nat} {t : TypeId} {f : Nat → Int} (h : IsBy w b t n f) (i : Nat) (x : Int) : IsBy (w.setCell ⟨b, i, none⟩ (.int .u8 x)) b t n (fun j => if j = i then x else f j) :=
  World.rowIs.congr (World.rowIs.set h i _) fun j _ => by dsimp only; split <;> rfl
theorem IsBy.congr {w : World} {b n : Nat} {t : TypeId} {f g : Nat → Int} (h : IsBy w b t n f) (e : ∀ i, i < n → f i = g i) : IsBy w b t n g := World.rowIs.congr h fun i hi => by rw [e i hi]
theorem IsBy.str {w : World} {b n : Nat} {t : TypeId} {f : Nat → Int} (h : IsBy w b t n f) (src e dst : TypeId) (hs : Tryz.prog.underlying src = some (.slice e)) (he : Tryz.prog.underlying e = some (.int .u8)) (hd : Tryz.prog.underlying dst = some .string) :
    (convert src dst (Value.slice (some ⟨b, 0, none⟩) n n)).run Tryz.prog w = .ok (.string (strOfNums ((List.range n).map f))) w :=
  run_convert_bytes_arg w src e hs he b 0 n n ((List.range n).map f) (by simp) (fun i hi => by rw [Nat.zero_add, h.cell i hi]; simp [hi]) dst hd

/-- The lowest byte of a word. -/
def W8 (x : BitVec 64) : Int := ((x.toNat % 256 : Nat) : Int)
@[go_sem] theorem wrap_W8 (x : BitVec 64) : IntKind.u8.wrap (U x) = W8 x := by
  rw [IntKind.wrap_u8']; unfold U W8; omega
@[go_sem] theorem xor_top (x : BitVec 64) : bits .xor .u64 (U x) 9223372036854775808 = U (x ^^^ Spo.top) := by
  have h : U Spo.top = 9223372036854775808 := by decide +kernel
  rw [← h]; exact xor_U _ _
theorem U_b6 : U (Spo.b64 6) = 6 := by decide +kernel

/-- A sponge that is kept, and the copy of its state. -/
structure SmAt (w w' : World) (b1 : Nat) (S : Kec.St) : Prop where
  s : IsSt w' b1 S
  k : Below w.heap.size w w'
theorem SmAt.drew {w w' : World} {b1 : Nat} {S : Kec.St} (h : SmAt w w' b1 S) : SmAt w w'.drew b1 S := ⟨h.s, h.k.drew⟩
theorem SmAt.put_ {w w' : World} {b1 : Nat} {S : Kec.St} (h : SmAt w w' b1 S) (hb : w.heap.size ≤ b1) (i : Nat) (x : BitVec 64) : SmAt w (w'.setCell ⟨b1, i, none⟩ (.int .u64 (U x))) b1 (Spo.upd S i x) :=
  ⟨h.s.set_ i x, h.k.setCell (p := ⟨b1, i, none⟩) (by simpa using hb) _⟩
theorem SmAt.below {w w' w'' : World} {b1 : Nat} {S : Kec.St} (h : SmAt w w' b1 S) (hb : Below w'.heap.size w' w'') : SmAt w w'' b1 S :=
  ⟨World.rowIs.of_block h.s (hb.block _ (World.rowIs.lt h.s)), h.k.trans (hb.mono h.k.size)⟩
theorem SmAt.setRow {w w' : World} {b1 : Nat} {S : Kec.St} (h : SmAt w w' b1 S) (hb : w.heap.size ≤ b1) (T : Kec.St) : SmAt w (w'.setRow b1 (arr T)) b1 T :=
  ⟨.of_row (setRow_heap _ b1 _ _ _ _ h.s.row), h.k.trans ⟨rfl, rfl, rfl, by simp, fun k hk => setRow_other _ _ _ _ (by omega)⟩⟩
structure Sm2 (w w' : World) (b1 b2 : Nat) (P : Kec.St) (f : Nat → Int) : Prop where
  s : IsSt w' b1 P
  q : IsBy w' b2 94 32 f
  k : Below w.heap.size w w'
theorem Sm2.drew {w w' : World} {b1 b2 : Nat} {P : Kec.St} {f : Nat → Int} (h : Sm2 w w' b1 b2 P f) : Sm2 w w'.drew b1 b2 P f := ⟨h.s, h.q, h.k.drew⟩
theorem Sm2.put_ {w w' : World} {b1 b2 : Nat} {P : Kec.St} {f : Nat → Int} (h : Sm2 w w' b1 b2 P f) (hb : w.heap.size ≤ b1) (h12 : b1 < b2) (i : Nat) (x : Int) : Sm2 w (w'.setCell ⟨b2, i, none⟩ (.int .u8 x)) b1 b2 P (fun j => if j = i then x else f j) :=
  ⟨World.rowIs.setOther h.s (a := ⟨b2, i, none⟩) (by simp; omega) _, h.q.set_ i x, h.k.setCell (p := ⟨b2, i, none⟩) (by simp; omega) _⟩
def byt (P : Kec.St) (i : Nat) : Int := W8 (P (i / 8) >>> (8 * (i % 8)))
def mixB (P : Kec.St) (k : Nat) : Nat → Int := fun i => if i < k then byt P i else 0
theorem str_sq (P : Kec.St) : strOfNums ((List.range 32).map (mixB P 32)) = ⟨(Spo.sq P).toArray⟩ := by
  unfold strOfNums Spo.sq
  rw [List.map_map]
  congr 2

set_option maxHeartbeats 4000000 in
set_option maxRecDepth 100000 in
theorem spSum_any (S : Kec.St) (n b : Nat) (w : World) (hC : Consts w) (hS : IsSp w b S n) (hn : n ≤ 4611686018427387904) :
    Calls Tryz.prog 75 #[.pointer (some ⟨b, 0, none⟩)] w fun e w' => e = .returned (.string ⟨(Spo.sq (Spo.fin (S, n % 136))).toArray⟩) ∧ Below w.heap.size w w' := by
  have hk : n % 136 < 136 := Nat.mod_lt _ (by decide)
  have cn := hS.count
  generalize hkk : n % 136 = k at *
  have HKK := Lib.hid hkk
  clear hkk
  go_enter Tryz.func75, Tryz.ntmps75
  go_upto_region 1 with (fail)
  have hb := World.rowIs.lt hS
  go_upto_region 2 with (first | (refine wpList_load_mid rfl 105 _ rfl b 0 rfl (cells S) _ hS.range Tryz.underlying105 rfl (by rw [cells_len]; exact info26) ?_) | (refine wpList_store_row rfl 105 _ _ rfl w.heap.size (arr S) rfl rfl 105 #[Value.int .u64 0, Value.int .u64 0, Value.int .u64 0, Value.int .u64 0, Value.int .u64 0, Value.int .u64 0, Value.int .u64 0, Value.int .u64 0, Value.int .u64 0, Value.int .u64 0, Value.int .u64 0, Value.int .u64 0, Value.int .u64 0, Value.int .u64 0, Value.int .u64 0, Value.int .u64 0, Value.int .u64 0, Value.int .u64 0, Value.int .u64 0, Value.int .u64 0, Value.int .u64 0, Value.int .u64 0, Value.int .u64 0, Value.int .u64 0, Value.int .u64 0] (heap_alloc_new w _) (by rw [arr_size]; exact info26) (by rw [arr_size]; rfl) (arr_one _) ?_))
  have H : SmAt w ((w.alloc (.cells #[Value.int .u64 0, Value.int .u64 0, Value.int .u64 0, Value.int .u64 0, Value.int .u64 0, Value.int .u64 0, Value.int .u64 0, Value.int .u64 0, Value.int .u64 0, Value.int .u64 0, Value.int .u64 0, Value.int .u64 0, Value.int .u64 0, Value.int .u64 0, Value.int .u64 0, Value.int .u64 0, Value.int .u64 0, Value.int .u64 0, Value.int .u64 0, Value.int .u64 0, Value.int .u64 0, Value.int .u64 0, Value.int .u64 0, Value.int .u64 0, Value.int .u64 0] 105)).setRow w.heap.size (arr S)) w.heap.size S := by
    rw [← arr_Z]
    have H0 : SmAt w (w.alloc (.cells (arr Z) 105)) w.heap.size Z := ⟨.of_row (heap_alloc_new w _), (Below.refl _ _).alloc (Nat.le_refl _) _⟩
    exact H0.setRow (Nat.le_refl _) S
  obtain ⟨b1, hb1⟩ : ∃ b, b = w.heap.size := ⟨_, rfl⟩
  rw [← hb1] at H
  rw [← hb1]
  refine wp_gen (fun w' => SmAt w w' b1 S) H ?_
  clear H
  intro w1 H
  have h1 : w.heap.size ≤ b1 := by omega
  clear hb1
  have c25 : w1.cell? ⟨b, 25, none⟩ = some (.int .i64 n) := (H.k.cell (p := ⟨b, 25, none⟩) hb).trans cn
  clear cn
  have e1 : (n : Int) % 136 = (k : Int) := by have := HKK.out; omega
  go_upto_region 3 with (fail)
  clear c25 e1
  obtain ⟨q, hq⟩ : ∃ q, q = k / 8 := ⟨_, rfl⟩
  obtain ⟨r, hr⟩ : ∃ r, r = k % 8 := ⟨_, rfl⟩
  have hq25 : q < 25 := by omega
  have hr8 : r < 8 := by omega
  refine region_tail 10 (fun w' => SmAt w w' b1 S) (by kernel_rfl) (by kernel_rfl) H.drew ?_
  clear H
  intro w2 H
  have c := H.s.cell q hq25
  have f := H.s.frozen q
  have i3 : ((n : Int) % 136).tdiv 8 = (q : Int) := by have := HKK.out; rw [Int.tdiv_eq_ediv_of_nonneg (by omega)]; omega
  have i6 : ((n : Int) % 136).tmod 8 = (r : Int) := by have := HKK.out; rw [Int.tmod_eq_emod_of_nonneg (by omega)]; omega
  have i2 : (q : Int) < 25 := by omega
  have i4 : IntKind.i64.wrap (q : Int) = (q : Int) := IntWalk.i64_in _ (by omega)
  have i5 : 0 ≤ (q : Int) := by omega
  have i7 : IntKind.i64.wrap (r : Int) = (r : Int) := IntWalk.i64_in _ (by omega)
  have i8 : IntKind.i64.wrap (8 * (r : Int)) = 8 * (r : Int) := IntWalk.i64_in _ (by omega)
  have i9 : 0 ≤ 8 * (r : Int) := by omega
  have i10 : 8 * (r : Int) ≤ 64 := by omega
  have j1 : (8 * (r : Int)).toNat = 8 * r := by omega
  have j2 : min (8 * r) 64 = 8 * r := by omega
  have j4 : IntKind.u64.wrap (6 * 2 ^ (8 * r)) = U (Spo.b64 6 <<< (8 * r)) := by have := shl_U (Spo.b64 6) (8 * r); rwa [U_b6] at this
  have HQ := Lib.hid hq
  have HR := Lib.hid hr
  clear hq hr
  simp only [List.take_succ_cons, List.take_zero, List.drop_succ_cons, List.drop_zero]
  repeat still_step
  refine wpStill_nil ?_
  clear i2 i3 i4 i5 i6 i7 i8 i9 i10 j1 j2 j4
  go_upto_region 4 with (fail)
  clear c f
  refine wp_gen (fun w' => SmAt w w' b1 (Spo.put S k 6)) (by have := H.put_ h1 q (S q ^^^ Spo.b64 6 <<< (8 * r)); unfold Spo.put; rw [← HQ.out, ← HR.out]; exact this) ?_
  clear H HQ HR hq25 hr8 hk
  intro w3 H
  have c := H.s.cell 16 (by decide)
  have f := H.s.frozen 16
  go_upto_region 5 with (fail)
  clear c f
  refine wp_gen (fun w' => SmAt w w' b1 (Spo.upd (Spo.put S k 6) 16 (Spo.put S k 6 16 ^^^ Spo.top))) (H.put_ h1 16 _) ?_
  clear H
  intro w4 H
  have hP : Kec.perm (Spo.upd (Spo.put S k 6) 16 (Spo.put S k 6 16 ^^^ Spo.top)) = Spo.fin (S, k) := rfl
  generalize Spo.upd (Spo.put S k 6) 16 (Spo.put S k 6 16 ^^^ Spo.top) = T at *
  have HP := Lib.hid hP
  clear hP
  have hC4 := hC.below H.k
  go_wp2_with (refine wpList_load_row rfl 105 _ rfl b1 rfl 105 _ (0, 0) _ H.s.row Tryz.underlying105 rfl (by rw [arr_size]; exact info26) ?_)
  refine (permute_any T _ hC4).mono ?_
  rintro e w5 ⟨rfl, hb5⟩
  replace H := H.below hb5
  clear hb5 hC4
  go_upto_region 6 with (refine wpList_store_row rfl 105 _ _ rfl b1 (arr (Kec.perm T)) rfl rfl 105 _ H.s.row (by rw [arr_size]; exact info26) (by rw [arr_size, arr_size]) (arr_one _) ?_)
  have H6 := H.setRow h1 (Kec.perm T)
  refine wp_gen (fun w' => SmAt w w' b1 (Kec.perm T)) H6 ?_
  clear H H6
  intro w6 H
  generalize Kec.perm T = P at *
  clear HKK
  obtain ⟨b2, hb2⟩ : ∃ b, b = w6.heap.size := ⟨_, rfl⟩
  have h12 : b1 < b2 := by rw [hb2]; exact World.rowIs.lt H.s
  have H7 : Sm2 w (w6.alloc (.cells #[Value.int .u8 0, Value.int .u8 0, Value.int .u8 0, Value.int .u8 0, Value.int .u8 0, Value.int .u8 0, Value.int .u8 0, Value.int .u8 0, Value.int .u8 0, Value.int .u8 0, Value.int .u8 0, Value.int .u8 0, Value.int .u8 0, Value.int .u8 0, Value.int .u8 0, Value.int .u8 0, Value.int .u8 0, Value.int .u8 0, Value.int .u8 0, Value.int .u8 0, Value.int .u8 0, Value.int .u8 0, Value.int .u8 0, Value.int .u8 0, Value.int .u8 0, Value.int .u8 0, Value.int .u8 0, Value.int .u8 0, Value.int .u8 0, Value.int .u8 0, Value.int .u8 0, Value.int .u8 0] 94)) b1 b2 P (mixB P 0) := by
    refine ⟨World.rowIs.alloc H.s _, ?_, H.k.alloc H.k.size _⟩
    rw [hb2]
    exact World.rowIs_alloc w6 #[Value.int .u8 0, Value.int .u8 0, Value.int .u8 0, Value.int .u8 0, Value.int .u8 0, Value.int .u8 0, Value.int .u8 0, Value.int .u8 0, Value.int .u8 0, Value.int .u8 0, Value.int .u8 0, Value.int .u8 0, Value.int .u8 0, Value.int .u8 0, Value.int .u8 0, Value.int .u8 0, Value.int .u8 0, Value.int .u8 0, Value.int .u8 0, Value.int .u8 0, Value.int .u8 0, Value.int .u8 0, Value.int .u8 0, Value.int .u8 0, Value.int .u8 0, Value.int .u8 0, Value.int .u8 0, Value.int .u8 0, Value.int .u8 0, Value.int .u8 0, Value.int .u8 0, Value.int .u8 0] 94 _ (fun i hi => by
      have hi32 : i < 32 := hi
      have : (mixB P 0 i) = 0 := by unfold mixB; rw [if_neg (by omega)]
      rw [this]
      rw [show (#[Value.int .u8 0, Value.int .u8 0, Value.int .u8 0, Value.int .u8 0, Value.int .u8 0, Value.int .u8 0, Value.int .u8 0, Value.int .u8 0, Value.int .u8 0, Value.int .u8 0, Value.int .u8 0, Value.int .u8 0, Value.int .u8 0, Value.int .u8 0, Value.int .u8 0, Value.int .u8 0, Value.int .u8 0, Value.int .u8 0, Value.int .u8 0, Value.int .u8 0, Value.int .u8 0, Value.int .u8 0, Value.int .u8 0, Value.int .u8 0, Value.int .u8 0, Value.int .u8 0, Value.int .u8 0, Value.int .u8 0, Value.int .u8 0, Value.int .u8 0, Value.int .u8 0, Value.int .u8 0] : Array Value) = (List.replicate 32 (Value.int .u8 0)).toArray from rfl]
      rw [List.getElem?_toArray, List.getElem?_replicate, if_pos hi32])
  go_upto_region 7 with (fail)
  rw [← hb2]
  refine wp_gen (fun w' => Sm2 w w' b1 b2 P (mixB P 0)) H7 ?_
  clear H H7 hb2
  intro w7 H
  go_wp2_with fail
  go_loopw [32] (fun v wr => ∃ k : Nat, k ≤ 32 ∧ v = .int .i64 k ∧ Sm2 w wr b1 b2 P (mixB P k)) (fun v _ => 32 - (intOf v).toNat)
  case atStart => exact ⟨0, by omega, rfl, H⟩
  case round =>
    clear H
    obtain ⟨k, hk, rfl, H⟩ := hrel
    by_cases hlt : k < 32
    · obtain ⟨q, hq⟩ : ∃ q, q = k / 8 := ⟨_, rfl⟩
      obtain ⟨r, hr⟩ : ∃ r, r = k % 8 := ⟨_, rfl⟩
      have hq25 : q < 25 := by omega
      have hr8 : r < 8 := by omega
      have c := H.s.cell q hq25
      have d := H.q.cell k hlt
      have f := H.q.frozen k
      have i1 : (k : Int) / 8 = (q : Int) := by omega
      have i2 : (k : Int) % 8 = (r : Int) := by omega
      have i3 : (q : Int) < 25 := by omega
      have i9 : 0 ≤ 8 * (r : Int) := by omega
      have i10 : 8 * (r : Int) ≤ 64 := by omega
      have j1 : (8 * (r : Int)).toNat = 8 * r := by omega
      have j2 : min (8 * r) 64 = 8 * r := by omega
      have j4 := shr_U (P q) (8 * r)
      have HQ := Lib.hid hq
      have HR := Lib.hid hr
      clear hq hr
      go_upto_region 11 with (fail)
      clear c d f i1 i2 i3 i9 i10 j1 j2 j4
      have hv : W8 (P q >>> (8 * r)) = byt P k := by unfold byt; rw [← HQ.out, ← HR.out]
      refine wp_gen (fun w' => Sm2 w w' b1 b2 P (mixB P (k + 1))) ?_ ?_
      · have h5 := H.put_ h1 h12 k (W8 (P q >>> (8 * r)))
        refine ⟨h5.s, h5.q.congr fun i _ => ?_, h5.k⟩
        rw [hv]
        unfold mixB
        by_cases hi : i = k
        · rw [if_pos hi, if_pos (by omega), hi]
        · rw [if_neg hi]
          by_cases hj : i < k
          · rw [if_pos hj, if_pos (by omega)]
          · rw [if_neg hj, if_neg (by omega)]
      · clear H hv
        intro w8 H
        go_wp2_with fail
        go_roundw
        case rel => exact ⟨k + 1, by omega, by go_num, H⟩
        case measure => simp [intOf]; omega
    · obtain rfl : k = 32 := by omega
      have hcv := H.q.str 89 5 9 Tryz.underlying89 Tryz.underlying5 Tryz.underlying9
      rw [str_sq] at hcv
      go_wp2_with fail
      go_ret
      exact ⟨by rw [HP.out]; rfl, H.k⟩

theorem below_of_grown {a w' : World} {b B : Nat} (hg : a.grownBy w' (some b)) (hB : B ≤ b) (hs : B ≤ a.heap.size) : Below B a w' :=
  ⟨hg.os, hg.tape, hg.output, hg.size, fun k hk => hg.block k (by omega) (by simp; omega)⟩

/-- The digest of a string, as a string. -/
def digS (s : ByteArray) : ByteArray := ⟨(Spo.dig s.data.toList).toArray⟩
theorem spo_zero : Spo.zero = Z := rfl
theorem IsSp.new (w : World) : IsSp (w.alloc (.cells #[Value.int .u64 0, Value.int .u64 0, Value.int .u64 0, Value.int .u64 0, Value.int .u64 0, Value.int .u64 0, Value.int .u64 0, Value.int .u64 0, Value.int .u64 0, Value.int .u64 0, Value.int .u64 0, Value.int .u64 0, Value.int .u64 0, Value.int .u64 0, Value.int .u64 0, Value.int .u64 0, Value.int .u64 0, Value.int .u64 0, Value.int .u64 0, Value.int .u64 0, Value.int .u64 0, Value.int .u64 0, Value.int .u64 0, Value.int .u64 0, Value.int .u64 0, Value.int .i64 0] 107)) w.heap.size Z 0 := by
  have h := World.rowIs_alloc w #[Value.int .u64 0, Value.int .u64 0, Value.int .u64 0, Value.int .u64 0, Value.int .u64 0, Value.int .u64 0, Value.int .u64 0, Value.int .u64 0, Value.int .u64 0, Value.int .u64 0, Value.int .u64 0, Value.int .u64 0, Value.int .u64 0, Value.int .u64 0, Value.int .u64 0, Value.int .u64 0, Value.int .u64 0, Value.int .u64 0, Value.int .u64 0, Value.int .u64 0, Value.int .u64 0, Value.int .u64 0, Value.int .u64 0, Value.int .u64 0, Value.int .u64 0, Value.int .i64 0] 107 (fun i => if i < 25 then .int .u64 (U (Z i)) else .int .i64 (0 : Nat)) (fun i hi => by
    have hi26 : i < 26 := hi
    have hc : i = 0 ∨ i = 1 ∨ i = 2 ∨ i = 3 ∨ i = 4 ∨ i = 5 ∨ i = 6 ∨ i = 7 ∨ i = 8 ∨ i = 9 ∨ i = 10 ∨ i = 11 ∨ i = 12 ∨ i = 13 ∨ i = 14 ∨ i = 15 ∨ i = 16 ∨ i = 17 ∨ i = 18 ∨ i = 19 ∨ i = 20 ∨ i = 21 ∨ i = 22 ∨ i = 23 ∨ i = 24 ∨ i = 25 := by omega
    rcases hc with rfl | rfl | rfl | rfl | rfl | rfl | rfl | rfl | rfl | rfl | rfl | rfl | rfl | rfl | rfl | rfl | rfl | rfl | rfl | rfl | rfl | rfl | rfl | rfl | rfl | rfl <;> rfl)
  exact h

set_option maxHeartbeats 1000000 in
set_option maxRecDepth 100000 in
theorem sum_any (s : ByteArray) (w : World) (hC : Consts w) (hn : s.size ≤ 4611686018427387904) :
    Calls Tryz.prog 51 #[.string s] w fun e w' => e = .returned (.string (digS s)) ∧ Below w.heap.size w w' := by
  have hsp := IsSp.new w
  have hb : Below w.heap.size w (w.alloc (.cells #[Value.int .u64 0, Value.int .u64 0, Value.int .u64 0, Value.int .u64 0, Value.int .u64 0, Value.int .u64 0, Value.int .u64 0, Value.int .u64 0, Value.int .u64 0, Value.int .u64 0, Value.int .u64 0, Value.int .u64 0, Value.int .u64 0, Value.int .u64 0, Value.int .u64 0, Value.int .u64 0, Value.int .u64 0, Value.int .u64 0, Value.int .u64 0, Value.int .u64 0, Value.int .u64 0, Value.int .u64 0, Value.int .u64 0, Value.int .u64 0, Value.int .u64 0, Value.int .i64 0] 107)) := (Below.refl _ _).alloc (Nat.le_refl _) _
  have hpos := hC.1
  go_enter Tryz.func51, Tryz.ntmps51
  go_wp2_with fail
  refine (take_any Z 0 w.heap.size s _ (hC.below hb) hpos hsp (by omega)).mono ?_
  rintro e w2 ⟨rfl, hat⟩
  go_wp2_with fail
  refine (spSum_any _ _ _ _ ((hC.below hb).grown hpos hat.g) hat.s (by omega)).mono ?_
  rintro e w3 ⟨rfl, hb3⟩
  go_wp2_with fail
  go_ret
  refine ⟨?_, ?_⟩
  · have h := Spo.ab_at s.data.toList (Spo.zero, 0) (by decide)
    have hl : s.data.toList.length = s.size := rfl
    unfold digS Spo.dig
    rw [show s.size % 136 = (Spo.ab (Spo.zero, 0) s.data.toList).2 from by rw [h, hl]; simp]
    rfl
  · exact hb.trans ((below_of_grown hat.g (Nat.le_refl _) (by simp)).trans (hb3.mono (by have := hat.g.size; simp at this; omega)))
end Go.Proofs.YtlfgnecfabdkmaaGreatDoor.Dg
end
section
namespace Go.Proofs.YtlfgnecfabdkmaaGreatDoor.Dg
open Go.RowKit

def hexL : List UInt8 := [48, 49, 50, 51, 52, 53, 54, 55, 56, 57, 97, 98, 99, 100, 101, 102]
/-- The hexadecimal digit of a number below 16. -/
def hdI (n : Nat) : Int := ((hexL.getD n 0).toNat : Int)
theorem hd_eq (i : Nat) (h : i < 16) (h' : i < (⟨#[48, 49, 50, 51, 52, 53, 54, 55, 56, 57, 97, 98, 99, 100, 101, 102]⟩ : ByteArray).size) : (((⟨#[48, 49, 50, 51, 52, 53, 54, 55, 56, 57, 97, 98, 99, 100, 101, 102]⟩ : ByteArray)[i]'h').toNat : Int) = hdI i := by
  have hc : i = 0 ∨ i = 1 ∨ i = 2 ∨ i = 3 ∨ i = 4 ∨ i = 5 ∨ i = 6 ∨ i = 7 ∨ i = 8 ∨ i = 9 ∨ i = 10 ∨ i = 11 ∨ i = 12 ∨ i = 13 ∨ i = 14 ∨ i = 15 := by omega
  rcases hc with rfl | rfl | rfl | rfl | rfl | rfl | rfl | rfl | rfl | rfl | rfl | rfl | rfl | rfl | rfl | rfl <;> rfl
def hexAt (l : List UInt8) (j : Nat) : Int := if j % 2 = 0 then hdI ((l.getD (j / 2) 0).toNat / 16) else hdI ((l.getD (j / 2) 0).toNat % 16)
def mixH (l : List UInt8) (k : Nat) : Nat → Int := fun j => if j < 2 * k then hexAt l j else 0
theorem mixH_lt (l : List UInt8) (k j : Nat) (h : j < 2 * k) : mixH l k j = hexAt l j := if_pos h
theorem mixH_ge (l : List UInt8) (k j : Nat) (h : ¬ j < 2 * k) : mixH l k j = 0 := if_neg h
theorem hexAt_even (l : List UInt8) (j : Nat) (h : j % 2 = 0) : hexAt l j = hdI ((l.getD (j / 2) 0).toNat / 16) := if_pos h
theorem hexAt_odd (l : List UInt8) (j : Nat) (h : ¬ j % 2 = 0) : hexAt l j = hdI ((l.getD (j / 2) 0).toNat % 16) := if_neg h
/-- The text of a digest. -/
def hexS (s : ByteArray) : ByteArray := strOfNums ((List.range 64).map (hexAt s.data.toList))
theorem get_D (s : ByteArray) (k : Nat) (h : k < s.size) : s.data.toList.getD k 0 = s[k] := by
  have hl : k < s.data.toList.length := by simpa using h
  rw [List.getD_eq_getElem?_getD, List.getElem?_eq_getElem hl]
  exact (get_list s k h).symm

set_option maxHeartbeats 1000000 in
set_option maxRecDepth 100000 in
theorem hex_bad (s : ByteArray) (hs : s.size ≠ 32) (w : World) :
    Calls Tryz.prog 33 #[.string s] w fun e w' => e = .returned (.tuple #[.string ⟨#[]⟩, .int .i64 1]) ∧ w = w' := by
  have h : ((s.size : Int) != 32) = true := by rw [bne_iff_ne]; omega
  go_enter Tryz.func33, Tryz.ntmps33
  go_wp2_with fail
  go_ret2
  exact ⟨rfl, rfl⟩

structure HxAt (w w' : World) (b n : Nat) (t : TypeId) (f : Nat → Int) : Prop where
  q : IsBy w' b t n f
  k : Below w.heap.size w w'
theorem HxAt.put_ {w w' : World} {b n : Nat} {t : TypeId} {f : Nat → Int} (h : HxAt w w' b n t f) (hb : w.heap.size ≤ b) (i : Nat) (x : Int) : HxAt w (w'.setCell ⟨b, i, none⟩ (.int .u8 x)) b n t (fun j => if j = i then x else f j) :=
  ⟨h.q.set_ i x, h.k.setCell (p := ⟨b, i, none⟩) (by simpa using hb) _⟩
theorem HxAt.congr {w w' : World} {b n : Nat} {t : TypeId} {f g : Nat → Int} (h : HxAt w w' b n t f) (e : ∀ i, i < n → f i = g i) : HxAt w w' b n t g := ⟨h.q.congr e, h.k⟩

set_option maxHeartbeats 1000000 in
set_option maxRecDepth 100000 in
theorem hex_good (s : ByteArray) (hs : s.size = 32) (w : World) :
    Calls Tryz.prog 33 #[.string s] w fun e w' => e = .returned (.tuple #[.string (hexS s), .int .i64 0]) ∧ Below w.heap.size w w' := by
  have h : ((s.size : Int) != 32) = false := by rw [bne_eq_false_iff_eq]; omega
  have hs1 : s.size ≤ 32 := by omega
  have hs2 : 32 ≤ s.size := by omega
  clear hs
  have H : HxAt w (w.alloc (.cells #[Value.int .u8 0, Value.int .u8 0, Value.int .u8 0, Value.int .u8 0, Value.int .u8 0, Value.int .u8 0, Value.int .u8 0, Value.int .u8 0, Value.int .u8 0, Value.int .u8 0, Value.int .u8 0, Value.int .u8 0, Value.int .u8 0, Value.int .u8 0, Value.int .u8 0, Value.int .u8 0, Value.int .u8 0, Value.int .u8 0, Value.int .u8 0, Value.int .u8 0, Value.int .u8 0, Value.int .u8 0, Value.int .u8 0, Value.int .u8 0, Value.int .u8 0, Value.int .u8 0, Value.int .u8 0, Value.int .u8 0, Value.int .u8 0, Value.int .u8 0, Value.int .u8 0, Value.int .u8 0, Value.int .u8 0, Value.int .u8 0, Value.int .u8 0, Value.int .u8 0, Value.int .u8 0, Value.int .u8 0, Value.int .u8 0, Value.int .u8 0, Value.int .u8 0, Value.int .u8 0, Value.int .u8 0, Value.int .u8 0, Value.int .u8 0, Value.int .u8 0, Value.int .u8 0, Value.int .u8 0, Value.int .u8 0, Value.int .u8 0, Value.int .u8 0, Value.int .u8 0, Value.int .u8 0, Value.int .u8 0, Value.int .u8 0, Value.int .u8 0, Value.int .u8 0, Value.int .u8 0, Value.int .u8 0, Value.int .u8 0, Value.int .u8 0, Value.int .u8 0, Value.int .u8 0, Value.int .u8 0] 87)) w.heap.size 64 87 (mixH s.data.toList 0) := by
    refine ⟨?_, (Below.refl _ _).alloc (Nat.le_refl _) _⟩
    exact World.rowIs_alloc w #[Value.int .u8 0, Value.int .u8 0, Value.int .u8 0, Value.int .u8 0, Value.int .u8 0, Value.int .u8 0, Value.int .u8 0, Value.int .u8 0, Value.int .u8 0, Value.int .u8 0, Value.int .u8 0, Value.int .u8 0, Value.int .u8 0, Value.int .u8 0, Value.int .u8 0, Value.int .u8 0, Value.int .u8 0, Value.int .u8 0, Value.int .u8 0, Value.int .u8 0, Value.int .u8 0, Value.int .u8 0, Value.int .u8 0, Value.int .u8 0, Value.int .u8 0, Value.int .u8 0, Value.int .u8 0, Value.int .u8 0, Value.int .u8 0, Value.int .u8 0, Value.int .u8 0, Value.int .u8 0, Value.int .u8 0, Value.int .u8 0, Value.int .u8 0, Value.int .u8 0, Value.int .u8 0, Value.int .u8 0, Value.int .u8 0, Value.int .u8 0, Value.int .u8 0, Value.int .u8 0, Value.int .u8 0, Value.int .u8 0, Value.int .u8 0, Value.int .u8 0, Value.int .u8 0, Value.int .u8 0, Value.int .u8 0, Value.int .u8 0, Value.int .u8 0, Value.int .u8 0, Value.int .u8 0, Value.int .u8 0, Value.int .u8 0, Value.int .u8 0, Value.int .u8 0, Value.int .u8 0, Value.int .u8 0, Value.int .u8 0, Value.int .u8 0, Value.int .u8 0, Value.int .u8 0, Value.int .u8 0] 87 _ (fun i hi => by
      have hi64 : i < 64 := hi
      have : (mixH s.data.toList 0 i) = 0 := by unfold mixH; rw [if_neg (by omega)]
      rw [this]
      rw [show (#[Value.int .u8 0, Value.int .u8 0, Value.int .u8 0, Value.int .u8 0, Value.int .u8 0, Value.int .u8 0, Value.int .u8 0, Value.int .u8 0, Value.int .u8 0, Value.int .u8 0, Value.int .u8 0, Value.int .u8 0, Value.int .u8 0, Value.int .u8 0, Value.int .u8 0, Value.int .u8 0, Value.int .u8 0, Value.int .u8 0, Value.int .u8 0, Value.int .u8 0, Value.int .u8 0, Value.int .u8 0, Value.int .u8 0, Value.int .u8 0, Value.int .u8 0, Value.int .u8 0, Value.int .u8 0, Value.int .u8 0, Value.int .u8 0, Value.int .u8 0, Value.int .u8 0, Value.int .u8 0, Value.int .u8 0, Value.int .u8 0, Value.int .u8 0, Value.int .u8 0, Value.int .u8 0, Value.int .u8 0, Value.int .u8 0, Value.int .u8 0, Value.int .u8 0, Value.int .u8 0, Value.int .u8 0, Value.int .u8 0, Value.int .u8 0, Value.int .u8 0, Value.int .u8 0, Value.int .u8 0, Value.int .u8 0, Value.int .u8 0, Value.int .u8 0, Value.int .u8 0, Value.int .u8 0, Value.int .u8 0, Value.int .u8 0, Value.int .u8 0, Value.int .u8 0, Value.int .u8 0, Value.int .u8 0, Value.int .u8 0, Value.int .u8 0, Value.int .u8 0, Value.int .u8 0, Value.int .u8 0] : Array Value) = (List.replicate 64 (Value.int .u8 0)).toArray from rfl]
      rw [List.getElem?_toArray, List.getElem?_replicate, if_pos hi64])
  go_enter Tryz.func33, Tryz.ntmps33
  go_upto_region 4 with (fail)
  obtain ⟨b, hb⟩ : ∃ b, b = w.heap.size := ⟨_, rfl⟩
  rw [← hb] at H
  rw [← hb]
  refine wp_gen (fun w' => HxAt w w' b 64 87 (mixH s.data.toList 0)) H ?_
  clear H
  intro w1 H
  have hwb : w.heap.size ≤ b := by omega
  clear hb
  go_wp2_with fail
  go_loopw [11] (fun v wr => ∃ k : Nat, k ≤ 32 ∧ v = .int .i64 k ∧ HxAt w wr b 64 87 (mixH s.data.toList k)) (fun v _ => 32 - (intOf v).toNat)
  case atStart => exact ⟨0, by omega, rfl, H⟩
  case round =>
    clear H
    obtain ⟨k, hk, rfl, H⟩ := hrel
    by_cases hlt : k < 32
    · have hks : k < s.size := by omega
      have c1 := H.q.cell (2 * k) (by omega)
      have c2 := H.q.cell (2 * k + 1) (by omega)
      have f1 := H.q.frozen (2 * k)
      have f2 := H.q.frozen (2 * k + 1)
      have hb : (s[k].toNat : Int) < 256 := by have := s[k].toNat_lt; omega
      have e15 : bits .and .u8 (s[k].toNat : Int) 15 = (s[k].toNat : Int) % 16 := u8_and15 _ (by omega) hb
      have x1 := hd_eq (s[k].toNat / 16) (by omega)
      have x2 := hd_eq (s[k].toNat % 16) (by omega)
      go_upto_region 9 with (fail)
      clear c1 c2 f1 f2 hb e15
      have X1 := Lib.hid x1
      have X2 := Lib.hid x2
      clear x1 x2
      refine wp_gen (fun w' => HxAt w w' b 64 87 (mixH s.data.toList (k + 1))) ?_ ?_
      · have h5 := (H.put_ hwb (2 * k) (hdI (s[k].toNat / 16))).put_ hwb (2 * k + 1) (hdI (s[k].toNat % 16))
        refine HxAt.congr (f := fun j => if j = 2 * k + 1 then hdI (s[k].toNat % 16) else if j = 2 * k then hdI (s[k].toNat / 16) else mixH s.data.toList k j) ?_ fun i _ => ?_
        · first | exact h5 | (simp only [X1.out, X2.out]; exact h5)
        · show (if i = 2 * k + 1 then hdI (s[k].toNat % 16) else if i = 2 * k then hdI (s[k].toNat / 16) else mixH s.data.toList k i) = mixH s.data.toList (k + 1) i
          by_cases hi : i = 2 * k + 1
          · rw [if_pos hi, mixH_lt _ _ _ (by omega), hexAt_odd _ _ (by omega), show i / 2 = k from by omega, get_D s k hks]
          · rw [if_neg hi]
            by_cases hj : i = 2 * k
            · rw [if_pos hj, mixH_lt _ _ _ (by omega), hexAt_even _ _ (by omega), show i / 2 = k from by omega, get_D s k hks]
            · rw [if_neg hj]
              by_cases hq : i < 2 * k
              · rw [mixH_lt _ _ _ hq, mixH_lt _ _ _ (by omega)]
              · rw [mixH_ge _ _ _ hq, mixH_ge _ _ _ (by omega)]
      · clear H X1 X2
        intro w8 H
        go_wp2_with fail
        go_roundw
        case rel => exact ⟨k + 1, by omega, by go_num, H⟩
        case measure => simp [intOf]; omega
    · obtain rfl : k = 32 := by omega
      have hcv := H.q.str 89 5 9 Tryz.underlying89 Tryz.underlying5 Tryz.underlying9
      rw [show (List.range 64).map (mixH s.data.toList 32) = (List.range 64).map (hexAt s.data.toList) from List.map_congr_left fun i hi => by
        have : i < 64 := by simpa using hi
        unfold mixH; rw [if_pos (by omega)]] at hcv
      rw [show strOfNums ((List.range 64).map (hexAt s.data.toList)) = hexS s from rfl] at hcv
      go_wp2_with fail
      go_ret2
      exact ⟨rfl, H.k⟩
end Go.Proofs.YtlfgnecfabdkmaaGreatDoor.Dg
end
section
namespace Go.Proofs.YtlfgnecfabdkmaaGreatDoor.Dg
open Go.RowKit

/-- The value of a hexadecimal digit, or -1. -/
def hv (c : UInt8) : Int := Lib.indexByte hexL c
theorem hv_lt' : ∀ n, n < 256 → hv (UInt8.ofNat n) < 16 ∧ -1 ≤ hv (UInt8.ofNat n) := by decide +kernel
theorem hv_lt (c : UInt8) : hv c < 16 ∧ -1 ≤ hv c := by
  have h := hv_lt' c.toNat c.toNat_lt
  rwa [UInt8.ofNat_toNat] at h

set_option maxHeartbeats 1000000 in
set_option maxRecDepth 100000 in
theorem slIndexByte_any (s : ByteArray) (c : Int) (w : World) :
    Calls Tryz.prog 88 #[.string s, .int .u8 c] w fun e w' => e = .returned (.int .i64 (Lib.indexByte s.data.toList c.toNat.toUInt8)) ∧ w = w' := by
  go_enter Tryz.func88, Tryz.ntmps88
  go_wp2
  rw [run_callFunc_extern Tryz.func104 (by kernel_rfl) (by kernel_rfl) (by kernel_rfl) (e := Extern.BytealgIndexByte.indexByte) (by kernel_rfl), Lib.run_indexByteString]
  simp only [Result.andThen]
  rw [Oper.upon_value]
  go_wp2
  go_ret
  exact ⟨rfl, rfl⟩
set_option maxHeartbeats 1000000 in
theorem strIndexByte_any (s : ByteArray) (c : Int) (w : World) :
    Calls Tryz.prog 70 #[.string s, .int .u8 c] w fun e w' => e = .returned (.int .i64 (Lib.indexByte s.data.toList c.toNat.toUInt8)) ∧ w = w' := by
  go_enter Tryz.func70, Tryz.ntmps70
  go_wp2_with (go_at_call 88; refine (slIndexByte_any _ _ _).mono ?_; rintro e w' ⟨rfl, rfl⟩)
  go_ret
  exact ⟨rfl, rfl⟩
theorem digit_any (c : UInt8) (w : World) :
    Calls Tryz.prog 70 #[.string ⟨#[48, 49, 50, 51, 52, 53, 54, 55, 56, 57, 97, 98, 99, 100, 101, 102]⟩, .int .u8 (c.toNat : Int)] w fun e w' => e = .returned (.int .i64 (hv c)) ∧ w = w' := by
  have h := strIndexByte_any ⟨#[48, 49, 50, 51, 52, 53, 54, 55, 56, 57, 97, 98, 99, 100, 101, 102]⟩ (c.toNat : Int) w
  rw [show ((c.toNat : Int).toNat.toUInt8) = c from by rw [Int.toNat_natCast]; simp] at h
  exact h

def AllHex (l : List UInt8) (k : Nat) : Prop := ∀ j, j < k → 0 ≤ hv (l.getD j 0)
instance (l : List UInt8) (k : Nat) : Decidable (AllHex l k) := by unfold AllHex; exact inferInstance
def parAt (l : List UInt8) (j : Nat) : Int := 16 * hv (l.getD (2 * j) 0) + hv (l.getD (2 * j + 1) 0)
def mixP (l : List UInt8) (i j : Nat) : Int := if 2 * j + 1 < i then parAt l j else if 2 * j < i then hv (l.getD (2 * j) 0) else 0
/-- The digest with a text. -/
def parS (t : ByteArray) : ByteArray := strOfNums ((List.range 32).map (parAt t.data.toList))
def parV (t : ByteArray) : Value := if t.size = 64 ∧ AllHex t.data.toList 64 then .tuple #[.string (parS t), .int .i64 0] else .tuple #[.string ⟨#[]⟩, .int .i64 4]
theorem or16 : ∀ a, a < 16 → ∀ b, b < 16 → bits .or .u8 ((a : Nat) * 16 : Int) (b : Nat) = (16 * a + b : Nat) := by decide +kernel

set_option maxHeartbeats 1000000 in
set_option maxRecDepth 100000 in
theorem parse_long (t : ByteArray) (hs : t.size ≠ 64) (w : World) :
    Calls Tryz.prog 45 #[.string t] w fun e w' => e = .returned (parV t) ∧ Below w.heap.size w w' := by
  have h : ((t.size : Int) != 64) = true := by rw [bne_iff_ne]; omega
  have hv := Lib.hid (show parV t = .tuple #[.string ⟨#[]⟩, .int .i64 4] from if_neg fun h => hs h.1)
  clear hs
  go_enter Tryz.func45, Tryz.ntmps45
  go_wp2_with fail
  go_ret2
  exact ⟨by rw [hv.out]; rfl, Below.refl _ _⟩

set_option maxHeartbeats 2000000 in
set_option maxRecDepth 100000 in
theorem parse_64 (t : ByteArray) (hs : t.size = 64) (w : World) :
    Calls Tryz.prog 45 #[.string t] w fun e w' => e = .returned (parV t) ∧ Below w.heap.size w w' := by
  have h : ((t.size : Int) != 64) = false := by rw [bne_eq_false_iff_eq]; omega
  have HS := Lib.hid hs
  have hs1 : t.size ≤ 64 := by omega
  have hs2 : 64 ≤ t.size := by omega
  clear hs
  have H : HxAt w (w.alloc (.cells #[Value.int .u8 0, Value.int .u8 0, Value.int .u8 0, Value.int .u8 0, Value.int .u8 0, Value.int .u8 0, Value.int .u8 0, Value.int .u8 0, Value.int .u8 0, Value.int .u8 0, Value.int .u8 0, Value.int .u8 0, Value.int .u8 0, Value.int .u8 0, Value.int .u8 0, Value.int .u8 0, Value.int .u8 0, Value.int .u8 0, Value.int .u8 0, Value.int .u8 0, Value.int .u8 0, Value.int .u8 0, Value.int .u8 0, Value.int .u8 0, Value.int .u8 0, Value.int .u8 0, Value.int .u8 0, Value.int .u8 0, Value.int .u8 0, Value.int .u8 0, Value.int .u8 0, Value.int .u8 0] 94)) w.heap.size 32 94 (mixP t.data.toList 0) := by
    refine ⟨?_, (Below.refl _ _).alloc (Nat.le_refl _) _⟩
    exact World.rowIs_alloc w #[Value.int .u8 0, Value.int .u8 0, Value.int .u8 0, Value.int .u8 0, Value.int .u8 0, Value.int .u8 0, Value.int .u8 0, Value.int .u8 0, Value.int .u8 0, Value.int .u8 0, Value.int .u8 0, Value.int .u8 0, Value.int .u8 0, Value.int .u8 0, Value.int .u8 0, Value.int .u8 0, Value.int .u8 0, Value.int .u8 0, Value.int .u8 0, Value.int .u8 0, Value.int .u8 0, Value.int .u8 0, Value.int .u8 0, Value.int .u8 0, Value.int .u8 0, Value.int .u8 0, Value.int .u8 0, Value.int .u8 0, Value.int .u8 0, Value.int .u8 0, Value.int .u8 0, Value.int .u8 0] 94 _ (fun i hi => by
      have hi32 : i < 32 := hi
      have : (mixP t.data.toList 0 i) = 0 := by unfold mixP; rw [if_neg (by omega), if_neg (by omega)]
      rw [this]
      rw [show (#[Value.int .u8 0, Value.int .u8 0, Value.int .u8 0, Value.int .u8 0, Value.int .u8 0, Value.int .u8 0, Value.int .u8 0, Value.int .u8 0, Value.int .u8 0, Value.int .u8 0, Value.int .u8 0, Value.int .u8 0, Value.int .u8 0, Value.int .u8 0, Value.int .u8 0, Value.int .u8 0, Value.int .u8 0, Value.int .u8 0, Value.int .u8 0, Value.int .u8 0, Value.int .u8 0, Value.int .u8 0, Value.int .u8 0, Value.int .u8 0, Value.int .u8 0, Value.int .u8 0, Value.int .u8 0, Value.int .u8 0, Value.int .u8 0, Value.int .u8 0, Value.int .u8 0, Value.int .u8 0] : Array Value) = (List.replicate 32 (Value.int .u8 0)).toArray from rfl]
      rw [List.getElem?_toArray, List.getElem?_replicate, if_pos hi32])
  go_enter Tryz.func45, Tryz.ntmps45
  go_upto_region 4 with (fail)
  obtain ⟨b, hb⟩ : ∃ b, b = w.heap.size := ⟨_, rfl⟩
  rw [← hb] at H
  rw [← hb]
  refine wp_gen (fun w' => HxAt w w' b 32 94 (mixP t.data.toList 0)) H ?_
  clear H
  intro w1 H
  have hwb : w.heap.size ≤ b := by omega
  clear hb
  go_wp2_with fail
  go_loopw [12] (fun v wr => ∃ k : Nat, k ≤ 64 ∧ v = .int .i64 k ∧ AllHex t.data.toList k ∧ HxAt w wr b 32 94 (mixP t.data.toList k)) (fun v _ => 64 - (intOf v).toNat)
  case atStart => exact ⟨0, by omega, rfl, fun j hj => by omega, H⟩
  case round =>
    clear H
    obtain ⟨k, hk, rfl, hA, H⟩ := hrel
    have HA := Lib.hid hA
    clear hA
    by_cases hlt : k < 64
    · have hks : k < t.size := by omega
      have hvl := hv_lt t[k]
      have hgd := get_D t k hks
      by_cases hg : 0 ≤ hv t[k]
      · obtain ⟨v, hv'⟩ := Int.eq_ofNat_of_zero_le hg
        have hv16 : v < 16 := by omega
        have HGD := Lib.hid hgd
        clear hgd hvl hg
        have HV := Lib.hid hv'
        clear hv'
        have ho : 0 ≤ mixP t.data.toList k (k / 2) ∧ mixP t.data.toList k (k / 2) < 16 := by
          unfold mixP
          rw [if_neg (by omega)]
          by_cases h2 : 2 * (k / 2) < k
          · rw [if_pos h2]; exact ⟨HA.out _ (by omega), (hv_lt _).1⟩
          · rw [if_neg h2]; omega
        obtain ⟨o, ho'⟩ := Int.eq_ofNat_of_zero_le ho.1
        have ho16 : o < 16 := by omega
        clear ho
        obtain ⟨q, hq⟩ : ∃ q, q = k / 2 := ⟨_, rfl⟩
        rw [← hq] at ho'
        have hq32 : q < 32 := by omega
        have c := H.q.cell q hq32
        rw [ho'] at c
        have f := H.q.frozen q
        have HO := Lib.hid ho'
        have HQ := Lib.hid hq
        have i1 : (k : Int) / 2 = (q : Int) := by omega
        clear ho' hq
        go_upto_region 8 with (go_at_call 70; refine (digit_any _ _).mono ?_; rintro e w' ⟨rfl, rfl⟩)
        rw [HV.out]
        go_upto_region 11 with (fail)
        clear c f i1
        refine wp_gen (fun w' => HxAt w w' b 32 94 (mixP t.data.toList (k + 1))) ?_ ?_
        · have h5 := H.put_ hwb q (bits BinOp.or IntKind.u8 ((o : Int) * 16) (v : Int))
          refine h5.congr fun i hi => ?_
          rw [or16 o ho16 v hv16]
          show (if i = q then ((16 * o + v : Nat) : Int) else mixP t.data.toList k i) = mixP t.data.toList (k + 1) i
          have hq := HQ.out
          have hval : hv (t.data.toList.getD k 0) = (v : Int) := by rw [HGD.out, HV.out]
          by_cases hiq : i = q
          · rw [if_pos hiq, hiq]
            have ho := HO.out
            unfold mixP at ho ⊢
            by_cases hodd : 2 * q + 1 < k + 1
            · rw [if_pos hodd]
              rw [if_neg (by omega), if_pos (by omega)] at ho
              unfold parAt
              rw [ho, show 2 * q + 1 = k from by omega, hval]
              omega
            · rw [if_neg hodd, if_pos (by omega)]
              rw [if_neg (by omega), if_neg (by omega)] at ho
              rw [show 2 * q = k from by omega, hval]
              omega
          · rw [if_neg hiq]
            unfold mixP
            by_cases h1 : 2 * i + 1 < k
            · rw [if_pos h1, if_pos (by omega)]
            · have h2 : ¬ 2 * i < k := by omega
              have h3 : ¬ 2 * i + 1 < k + 1 := by omega
              have h4 : ¬ 2 * i < k + 1 := by omega
              rw [if_neg h1, if_neg h2, if_neg h3, if_neg h4]
        · clear H
          intro w8 H
          go_wp2_with fail
          have hA2 : AllHex t.data.toList (k + 1) := fun j hj => by
            by_cases e : j = k
            · subst e; rw [HGD.out, HV.out]; omega
            · exact HA.out j (by omega)
          go_roundw
          case rel => exact ⟨k + 1, by omega, by go_num, hA2, H⟩
          case measure => simp [intOf]; omega
      · have hneg : hv t[k] < 0 := by omega
        have hbad : parV t = .tuple #[.string ⟨#[]⟩, .int .i64 4] := if_neg fun h => hg (by rw [← hgd]; exact h.2 k hlt)
        have HB := Lib.hid hbad
        clear hbad hgd hvl hg
        go_upto_region 8 with (go_at_call 70; refine (digit_any _ _).mono ?_; rintro e w' ⟨rfl, rfl⟩)
        generalize hv t[k] = v at *
        go_wp2_with fail
        go_ret2
        exact ⟨by rw [HB.out]; rfl, H.k⟩
    · obtain rfl : k = 64 := by omega
      have hcv := H.q.str 89 5 9 Tryz.underlying89 Tryz.underlying5 Tryz.underlying9
      rw [show (List.range 32).map (mixP t.data.toList 64) = (List.range 32).map (parAt t.data.toList) from List.map_congr_left fun i hi => by
        have : i < 32 := by simpa using hi
        unfold mixP; rw [if_pos (by omega)]] at hcv
      rw [show strOfNums ((List.range 32).map (parAt t.data.toList)) = parS t from rfl] at hcv
      have HP := Lib.hid (show parV t = .tuple #[.string (parS t), .int .i64 0] from if_pos ⟨HS.out, HA.out⟩)
      go_wp2_with fail
      go_ret2
      exact ⟨by rw [HP.out]; rfl, H.k⟩
theorem parse_any (t : ByteArray) (w : World) :
    Calls Tryz.prog 45 #[.string t] w fun e w' => e = .returned (parV t) ∧ Below w.heap.size w w' := by
  by_cases h : t.size = 64
  · exact parse_64 t h w
  · exact parse_long t h w
end Go.Proofs.YtlfgnecfabdkmaaGreatDoor.Dg
end
