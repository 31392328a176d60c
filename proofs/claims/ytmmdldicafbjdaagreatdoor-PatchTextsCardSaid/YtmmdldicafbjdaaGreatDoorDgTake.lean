/- take absorbs a string. Condition: the round constants lie in their variable. -/
import Derived.Test.YtmmdldicafbjdaaGreatDoorDgPerm
import Derived.Test.YtmmdldicafbjdaaGreatDoorDgSpo
import Derived.Deep.MidRow
import Derived.StillTailTactics
import Derived.Deep.RegionWith
import Derived.Lib.LazyBuf
namespace Go.Proofs.YtmmdldicafbjdaaGreatDoor.Dg
open Go.RowKit

theorem U_b64 (c : UInt8) : IntKind.u64.wrap (c.toNat : Int) = U (Spo.b64 c) := by
  rw [IntKind.wrap_u64]; unfold U Spo.b64
  rw [BitVec.toNat_ofNat]
  have := c.toNat_lt
  omega
theorem word_val (c0 c1 c2 c3 c4 c5 c6 c7 : UInt8) : bits BinOp.or IntKind.u64 (bits BinOp.or IntKind.u64 (bits BinOp.or IntKind.u64 (bits BinOp.or IntKind.u64 (bits BinOp.or IntKind.u64 (bits BinOp.or IntKind.u64 (bits BinOp.or IntKind.u64 (IntKind.u64.wrap (c0.toNat : Int))
    (IntKind.u64.wrap (IntKind.u64.wrap (c1.toNat : Int) * 256))) (IntKind.u64.wrap (IntKind.u64.wrap (c2.toNat : Int) * 65536))) (IntKind.u64.wrap (IntKind.u64.wrap (c3.toNat : Int) * 16777216))) (IntKind.u64.wrap (IntKind.u64.wrap (c4.toNat : Int) * 4294967296)))
    (IntKind.u64.wrap (IntKind.u64.wrap (c5.toNat : Int) * 1099511627776))) (IntKind.u64.wrap (IntKind.u64.wrap (c6.toNat : Int) * 281474976710656))) (IntKind.u64.wrap (IntKind.u64.wrap (c7.toNat : Int) * 72057594037927936)) = U (Spo.word c0 c1 c2 c3 c4 c5 c6 c7) := by
  have h8 := fun x => shl_U x 8
  have h16 := fun x => shl_U x 16
  have h24 := fun x => shl_U x 24
  have h32 := fun x => shl_U x 32
  have h40 := fun x => shl_U x 40
  have h48 := fun x => shl_U x 48
  have h56 := fun x => shl_U x 56
  rw [show (2 : Int) ^ 8 = 256 from rfl] at h8
  rw [show (2 : Int) ^ 16 = 65536 from rfl] at h16
  rw [show (2 : Int) ^ 24 = 16777216 from rfl] at h24
  rw [show (2 : Int) ^ 32 = 4294967296 from rfl] at h32
  rw [show (2 : Int) ^ 40 = 1099511627776 from rfl] at h40
  rw [show (2 : Int) ^ 48 = 281474976710656 from rfl] at h48
  rw [show (2 : Int) ^ 56 = 72057594037927936 from rfl] at h56
  rw [U_b64, U_b64, U_b64, U_b64, U_b64, U_b64, U_b64, U_b64, h8, h16, h24, h32, h40, h48, h56, or_U, or_U, or_U, or_U, or_U, or_U, or_U]
  rfl
theorem ext_get (s : ByteArray) (i : Nat) (hi : i < 8) (hs : 8 ≤ s.size) (h : i < (s.extract 0 8).size) : (s.extract 0 8)[i] = s[i] := by
  simp [ByteArray.getElem_extract]

set_option maxHeartbeats 1000000 in
set_option maxRecDepth 100000 in
theorem word_any (s : ByteArray) (hs : 8 ≤ s.size) (hm : s.size ≤ maxLen) (w : World) :
    Calls Tryz.prog 74 #[.string s] w fun e w' => e = .returned (.int .u64 (U (Spo.word s[0] s[1] s[2] s[3] s[4] s[5] s[6] s[7]))) ∧ ∃ n, w' = w.drewN n := by
  unfold maxLen at hm
  go_enter Tryz.func74, Tryz.ntmps74
  go_wp2_with fail
  go_quiet (fail)
  go_wp2_with fail
  go_ret
  refine ⟨congrArg Ending.returned (congrArg (Value.int .u64) ?_), _, rfl⟩
  rw [ext_get s 0 (by decide) hs, ext_get s 1 (by decide) hs, ext_get s 2 (by decide) hs, ext_get s 3 (by decide) hs, ext_get s 4 (by decide) hs, ext_get s 5 (by decide) hs, ext_get s 6 (by decide) hs, ext_get s 7 (by decide) hs]
  exact word_val _ _ _ _ _ _ _ _

/-- Block b holds a sponge: the state and how many bytes were taken in. -/
def IsSp (w : World) (b : Nat) (S : Kec.St) (n : Nat) : Prop := w.rowIs b 96 26 (fun i => if i < 25 then .int .u64 (U (S i)) else .int .i64 n)
theorem IsSp.word {w : World} {b n : Nat} {S : Kec.St} (h : IsSp w b S n) (i : Nat) (hi : i < 25) : w.cell? ⟨b, i, none⟩ = some (.int .u64 (U (S i))) := by
  have := World.rowIs.cell h (show i < 26 by omega); rwa [if_pos hi] at this
theorem IsSp.count {w : World} {b n : Nat} {S : Kec.St} (h : IsSp w b S n) : w.cell? ⟨b, 25, none⟩ = some (.int .i64 n) := World.rowIs.cell h (show 25 < 26 by decide)
theorem IsSp.frozen {w : World} {b n : Nat} {S : Kec.St} (h : IsSp w b S n) (i : Nat) : w.frozen? ⟨b, i, none⟩ = false := World.rowIs.frozen h i
theorem IsSp.put_ {w : World} {b n : Nat} {S : Kec.St} (h : IsSp w b S n) (i : Nat) (hi : i < 25) (x : BitVec 64) : IsSp (w.setCell ⟨b, i, none⟩ (.int .u64 (U x))) b (Spo.upd S i x) n :=
  World.rowIs.congr (World.rowIs.set h i _) fun j _ => by
    show (if j = i then Value.int .u64 (U x) else (if j < 25 then Value.int .u64 (U (S j)) else .int .i64 n)) = (if j < 25 then Value.int .u64 (U (if j = i then x else S j)) else .int .i64 n)
    by_cases hj : j = i
    · subst hj; rw [if_pos rfl, if_pos hi, if_pos rfl]
    · rw [if_neg hj, if_neg hj]
theorem IsSp.add_ {w : World} {b n : Nat} {S : Kec.St} (h : IsSp w b S n) (m : Nat) : IsSp (w.setCell ⟨b, 25, none⟩ (.int .i64 m)) b S m :=
  World.rowIs.congr (World.rowIs.set h 25 _) fun j hj => by
    show (if j = 25 then Value.int .i64 (m : Int) else (if j < 25 then Value.int .u64 (U (S j)) else .int .i64 n)) = (if j < 25 then Value.int .u64 (U (S j)) else .int .i64 m)
    by_cases e : j = 25
    · subst e; rfl
    · rw [if_neg e, if_pos (by omega), if_pos (by omega)]

/-- From the world w on, block b alone has turned, and holds a sponge. -/
structure SpAt (w w' : World) (b : Nat) (S : Kec.St) (n : Nat) : Prop where
  s : IsSp w' b S n
  g : w.grownBy w' (some b)
theorem SpAt.put_ {w w' : World} {b n : Nat} {S : Kec.St} (h : SpAt w w' b S n) (i : Nat) (hi : i < 25) (x : BitVec 64) : SpAt w (w'.setCell ⟨b, i, none⟩ (.int .u64 (U x))) b (Spo.upd S i x) n :=
  ⟨h.s.put_ i hi x, only_setCell h.g (.inl rfl) _⟩
theorem SpAt.add_ {w w' : World} {b n : Nat} {S : Kec.St} (h : SpAt w w' b S n) (m : Nat) : SpAt w (w'.setCell ⟨b, 25, none⟩ (.int .i64 m)) b S m :=
  ⟨h.s.add_ m, only_setCell h.g (.inl rfl) _⟩
theorem SpAt.drewN {w w' : World} {b n : Nat} {S : Kec.St} (h : SpAt w w' b S n) (k : Nat) : SpAt w (w'.drewN k) b S n := ⟨h.s, only_drewN h.g k⟩
theorem SpAt.drew {w w' : World} {b n : Nat} {S : Kec.St} (h : SpAt w w' b S n) : SpAt w w'.drew b S n := ⟨h.s, only_drew h.g⟩
theorem SpAt.below {w w' w'' : World} {b n : Nat} {S : Kec.St} (h : SpAt w w' b S n) (hb : Below w'.heap.size w' w'') : SpAt w w'' b S n :=
  ⟨World.rowIs.of_block h.s (hb.block _ (World.rowIs.lt h.s)), ⟨hb.os.trans h.g.os, hb.tape.trans h.g.tape, hb.output.trans h.g.output, Nat.le_trans h.g.size hb.size, fun i hi hne => (hb.block i (Nat.lt_of_lt_of_le hi h.g.size)).trans (h.g.block i hi hne)⟩⟩
theorem Consts.grown {w w' : World} {b : Nat} (h : Consts w) (hb : 1 < b) (hg : w.grownBy w' (some b)) : Consts w' :=
  ⟨Nat.lt_of_lt_of_le h.1 hg.size, fun i hi => by
    rw [World.cell?_of_block (w := w) (hg.block 1 h.1 (by simp; omega))]; exact h.2 i hi⟩

theorem only_setCells {a : World} {b : Nat} : ∀ (vs : List Value) (o : Nat) (w : World), a.grownBy w (some b) → a.grownBy (w.setCells b o vs) (some b)
  | [], _, _, h => h
  | v :: r, o, _, h => only_setCells r (o + 1) _ (only_setCell h (.inl rfl) v)
def cells (S : Kec.St) : List Value := (List.range 25).map fun i => Value.int .u64 (U (S i))
theorem cells_len (S : Kec.St) : (cells S).length = 25 := by unfold cells; simp
theorem cells_get (S : Kec.St) (i : Nat) (hi : i < 25) : (cells S)[i]? = some (.int .u64 (U (S i))) := by unfold cells; simp [hi]
theorem cells_arr (S : Kec.St) : (cells S).toArray = arr S := rfl
theorem IsSp.range {w : World} {b n : Nat} {S : Kec.St} (h : IsSp w b S n) : w.rangeAt b 0 (cells S) := fun j v hv => by
  by_cases hj : j < 25
  · rw [cells_get S j hj] at hv
    rw [Nat.zero_add, h.word j hj, hv]
  · rw [List.getElem?_eq_none (by rw [cells_len]; omega)] at hv; cases hv
theorem IsSp.there {w : World} {b n : Nat} {S : Kec.St} (h : IsSp w b S n) : w.there b 0 25 := fun j hj => by
  rw [Nat.zero_add]; exact ⟨by rw [h.word j hj]; rfl, h.frozen j⟩
theorem SpAt.all_ {w w' : World} {b n : Nat} {S : Kec.St} (h : SpAt w w' b S n) (T : Kec.St) : SpAt w (w'.setCells b 0 (arr T).toList) b T n := by
  refine ⟨World.rowIs.congr (rowIs_setCells (arr T).toList 0 _ _ h.s) fun j _ => ?_, only_setCells _ _ _ h.g⟩
  have e : (arr T).toList = cells T := rfl
  rw [e, cells_len]
  by_cases hj : j < 25
  · rw [if_pos (by omega), if_pos hj, Nat.sub_zero, cells_get T j hj]; rfl
  · rw [if_neg (by omega), if_neg hj, if_neg hj]

/-- The length of a string. -/
def strLen : Value → Nat
  | .string t => t.size
  | _ => 0
theorem drop_ext (t : ByteArray) (n : Nat) : (t.extract n t.size).data.toList = t.data.toList.drop n := by
  rw [ByteArray.data_extract, Array.toList_extract, List.extract_eq_take_drop]
  exact List.take_of_length_le (by rw [List.length_drop]; exact Nat.le_refl _)
theorem get_list (t : ByteArray) (i : Nat) (hi : i < t.size) : t[i] = t.data.toList[i]'(by simpa using hi) := by simp [ByteArray.getElem_eq_getElem_data]
theorem eightL (l : List UInt8) (h : 8 ≤ l.length) : l = [l[0], l[1], l[2], l[3], l[4], l[5], l[6], l[7]] ++ l.drop 8 := by
  match l, h with
  | a :: b :: c :: d :: e :: f :: g :: h :: r, _ => rfl
theorem oneL (l : List UInt8) (h : 1 ≤ l.length) : l = [l[0]] ++ l.drop 1 := by
  match l, h with
  | a :: r, _ => rfl
theorem eight (t : ByteArray) (h : 8 ≤ t.size) : t.data.toList = [t[0], t[1], t[2], t[3], t[4], t[5], t[6], t[7]] ++ (t.extract 8 t.size).data.toList := by
  rw [drop_ext, get_list t 0, get_list t 1, get_list t 2, get_list t 3, get_list t 4, get_list t 5, get_list t 6, get_list t 7]
  exact eightL _ (by simpa using h)
theorem one (t : ByteArray) (h : 1 ≤ t.size) : t.data.toList = [t[0]] ++ (t.extract 1 t.size).data.toList := by
  rw [drop_ext, get_list t 0]
  exact oneL _ (by simpa using h)

set_option maxHeartbeats 4000000 in
set_option maxRecDepth 100000 in
theorem take_any (S : Kec.St) (n b : Nat) (s : ByteArray) (w : World) (hC : Consts w) (hb : 1 < b) (hS : IsSp w b S n) (hn : n + s.size ≤ 4611686018427387904) :
    Calls Tryz.prog 58 #[.pointer (some ⟨b, 0, none⟩), .string s] w fun e w' => e = .returned (.tuple #[]) ∧ SpAt w w' b (Spo.ab (S, n % 136) s.data.toList).1 (n + s.size) := by
  have H : SpAt w w b S n := ⟨hS, ⟨rfl, rfl, rfl, Nat.le_refl _, fun _ _ _ => rfl⟩⟩
  have c := H.s.count
  have f := H.s.frozen 25
  clear hS
  go_enter Tryz.func58, Tryz.ntmps58
  have h136 : decide (0 < (136 : Int)) = true := by decide
  go_wp2_with fail
  clear c f h136
  refine wp_gen (fun w' => SpAt w w' b S (n + s.size)) (by have := H.add_ (n + s.size); simpa using this) ?_
  clear H
  intro w1 H
  have hk0 : n % 136 < 136 := Nat.mod_lt _ (by decide)
  go_loopw [1, 4] (fun d a wr => ∃ (t : ByteArray) (T : Kec.St) (k : Nat), t.size ≤ s.size ∧ k < 136 ∧ d = .string t ∧ a = .int .i64 k ∧ Hid (Spo.ab (S, n % 136) s.data.toList = Spo.ab (T, k) t.data.toList) ∧ SpAt w wr b T (n + s.size)) (fun d _ _ => strLen d)
  case atStart => exact ⟨s, S, n % 136, Nat.le_refl _, hk0, rfl, by go_num, rfl, H⟩
  case round =>
    clear H hk0
    obtain ⟨t, T, k, ht, hk, rfl, rfl, hE, H⟩ := hrel
    by_cases hlt : 0 < t.size
    · by_cases hA : k % 8 = 0 ∧ 8 ≤ t.size
      · obtain ⟨hk8, h8⟩ := hA
        have b1 : ((k : Int) % 8 == 0) = true := beq_iff_eq.2 (by omega)
        obtain ⟨q, hq⟩ : ∃ q, q = k / 8 := ⟨_, rfl⟩
        have hq25 : q < 25 := by omega
        have i1 : (k : Int) / 8 = (q : Int) := by omega
        have HK8 := Lib.hid hk8
        have HQ := Lib.hid hq
        clear hk8 hq
        go_upto_region 6 with (fail)
        have c := H.s.word q hq25
        have f := H.s.frozen q
        have i2 : (q : Int) < 25 := by omega
        have i3 : ((k : Int)).tdiv 8 = (q : Int) := by rw [Int.tdiv_eq_ediv_of_nonneg (by omega)]; exact i1
        have i4 : IntKind.i64.wrap (q : Int) = (q : Int) := IntWalk.i64_in _ (by omega)
        have i5 : 0 ≤ (q : Int) := by omega
        have hmx : t.size ≤ maxLen := by unfold maxLen; omega
        have hwc := fun W => word_any t h8 hmx W
        generalize hv : Spo.word t[0] t[1] t[2] t[3] t[4] t[5] t[6] t[7] = v at hwc
        have HV := Lib.hid hv
        have HWC := Lib.hid hwc
        clear hv hmx hwc
        go_region_with ((go_at_call 74; refine (HWC.out _).mono ?_; rintro e wx ⟨rfl, nq, rfl⟩))
        all_goals
          clear c f i1 i2 i3 i4 i5
          have hW : Spo.ab (T, k) t.data.toList = Spo.ab (if k + 8 = 136 then (Kec.perm (Spo.upd T q (T q ^^^ v)), 0) else (Spo.upd T q (T q ^^^ v), k + 8)) (t.extract 8 t.size).data.toList := by
            rw [eight t h8, Spo.ab_append, Spo.ab_word T k _ _ _ _ _ _ _ _ HK8.out (by have := HK8.out; omega), HV.out, HQ.out]
          have HW := Lib.hid hW
          clear hW
          go_upto_region 8 with (fail)
          refine wp_gen (fun w' => SpAt w w' b (Spo.upd T q (T q ^^^ v)) (n + s.size)) ((H.drewN _).put_ q hq25 (T q ^^^ v)) ?_
          clear H
          intro w5 H
          have hEE := hE.out
          rw [HW.out] at hEE
          by_cases hend : k + 8 = 136
          · have b2 : ((k : Int) + 8 == 136) = true := beq_iff_eq.2 (by omega)
            rw [if_pos hend] at hEE
            have HE := Lib.hid hEE
            clear hEE hend
            have hC5 := hC.grown hb H.g
            go_upto_region 11 with (fail)
            go_wp2_with (refine wpList_load_mid rfl 94 _ rfl b 0 rfl (cells (Spo.upd T q (T q ^^^ v))) _ H.s.range Tryz.underlying94 rfl (by rw [cells_len]; exact info26) ?_)
            refine (permute_any (Spo.upd T q (T q ^^^ v)) _ hC5).mono ?_
            rintro e w6 ⟨rfl, hb6⟩
            replace H := H.below hb6
            go_wp2_with (refine wpList_store_mid rfl 94 _ _ rfl b 0 (arr (Kec.perm (Spo.upd T q (T q ^^^ v)))) rfl rfl (by rw [arr_size]; exact H.s.there) (by rw [arr_size]; exact info26) (arr_one _) ?_)
            go_roundw
            case rel => exact ⟨t.extract 8 t.size, Kec.perm (Spo.upd T q (T q ^^^ v)), 0, by simp; omega, by omega, rfl, rfl, HE.out, H.all_ _⟩
            case measure => simp [strLen]; omega
          · have b2 : ((k : Int) + 8 == 136) = false := beq_eq_false_iff_ne.2 (by omega)
            rw [if_neg hend] at hEE
            have HE := Lib.hid hEE
            clear hEE
            have hlt' : k + 8 < 136 := by have := HK8.out; omega
            clear hend
            go_wp2_with fail
            go_roundw
            case rel => exact ⟨t.extract 8 t.size, (Spo.upd T q (T q ^^^ v)), k + 8, by simp; omega, hlt', rfl, by go_num, HE.out, H⟩
            case measure => simp [strLen]; omega
      · by_cases hk8 : k % 8 = 0
        · have h8 : t.size < 8 := by omega
          obtain ⟨q, hq⟩ : ∃ q, q = k / 8 := ⟨_, rfl⟩
          obtain ⟨r, hr⟩ : ∃ r, r = k % 8 := ⟨_, rfl⟩
          have hq25 : q < 25 := by omega
          have hr8 : r < 8 := by omega
          have hW : Spo.ab (T, k) t.data.toList = Spo.ab (if k + 1 = 136 then (Kec.perm (Spo.upd T q (T q ^^^ Spo.b64 t[0] <<< (8 * r))), 0) else (Spo.upd T q (T q ^^^ Spo.b64 t[0] <<< (8 * r)), k + 1)) (t.extract 1 t.size).data.toList := by
            rw [one t hlt, List.singleton_append, Spo.ab_cons]
            unfold Spo.ab1 Spo.put
            rw [← hq, ← hr]
          have HW := Lib.hid hW
          clear hW
          have HQ := Lib.hid hq
          have HR := Lib.hid hr
          clear hq hr
          have b1 : ((k : Int) % 8 == 0) = true := beq_iff_eq.2 (by omega)
          clear hk8 hA
          go_upto_region 7 with (fail)
          refine region_tail 18 (fun w' => SpAt w w' b T (n + s.size)) (by kernel_rfl) (by kernel_rfl) H.drew ?_
          clear H
          intro w4 H
          have c := H.s.word q hq25
          have f := H.s.frozen q
          have i3 : ((k : Int)).tdiv 8 = (q : Int) := by have := HQ.out; rw [Int.tdiv_eq_ediv_of_nonneg (by omega)]; omega
          have i6 : ((k : Int)).tmod 8 = (r : Int) := by have := HR.out; rw [Int.tmod_eq_emod_of_nonneg (by omega)]; omega
          have i2 : (q : Int) < 25 := by omega
          have i4 : IntKind.i64.wrap (q : Int) = (q : Int) := IntWalk.i64_in _ (by omega)
          have i5 : 0 ≤ (q : Int) := by omega
          have i7 : IntKind.i64.wrap (r : Int) = (r : Int) := IntWalk.i64_in _ (by omega)
          have i8 : IntKind.i64.wrap (8 * (r : Int)) = 8 * (r : Int) := IntWalk.i64_in _ (by omega)
          have i9 : 0 ≤ 8 * (r : Int) := by omega
          have i10 : 8 * (r : Int) ≤ 64 := by omega
          have j1 : (8 * (r : Int)).toNat = 8 * r := by omega
          have j2 : min (8 * r) 64 = 8 * r := by omega
          have j3 : IntKind.u64.wrap (t[0].toNat : Int) = U (Spo.b64 t[0]) := U_b64 _
          have j4 := shl_U (Spo.b64 t[0]) (8 * r)
          have j5 : 0 < t.size := hlt
          simp only [List.take_succ_cons, List.take_zero, List.drop_succ_cons, List.drop_zero]
          repeat still_step
          refine wpStill_nil ?_
          clear i2 i3 i4 i5 i6 i7 i8 i9 i10 j1 j2 j3 j4 j5
          go_upto_region 8 with (fail)
          clear c f
          refine wp_gen (fun w' => SpAt w w' b (Spo.upd T q (T q ^^^ Spo.b64 t[0] <<< (8 * r))) (n + s.size)) (H.put_ q hq25 (T q ^^^ Spo.b64 t[0] <<< (8 * r))) ?_
          clear H
          intro w5 H
          have hEE := hE.out
          rw [HW.out] at hEE
          by_cases hend : k + 1 = 136
          · have b2 : ((k : Int) + 1 == 136) = true := beq_iff_eq.2 (by omega)
            rw [if_pos hend] at hEE
            have HE := Lib.hid hEE
            clear hEE hend
            have hC5 := hC.grown hb H.g
            go_upto_region 11 with (fail)
            go_wp2_with (refine wpList_load_mid rfl 94 _ rfl b 0 rfl (cells (Spo.upd T q (T q ^^^ Spo.b64 t[0] <<< (8 * r)))) _ H.s.range Tryz.underlying94 rfl (by rw [cells_len]; exact info26) ?_)
            refine (permute_any (Spo.upd T q (T q ^^^ Spo.b64 t[0] <<< (8 * r))) _ hC5).mono ?_
            rintro e w6 ⟨rfl, hb6⟩
            replace H := H.below hb6
            go_wp2_with (refine wpList_store_mid rfl 94 _ _ rfl b 0 (arr (Kec.perm (Spo.upd T q (T q ^^^ Spo.b64 t[0] <<< (8 * r))))) rfl rfl (by rw [arr_size]; exact H.s.there) (by rw [arr_size]; exact info26) (arr_one _) ?_)
            go_roundw
            case rel => exact ⟨t.extract 1 t.size, Kec.perm (Spo.upd T q (T q ^^^ Spo.b64 t[0] <<< (8 * r))), 0, by simp; omega, by omega, rfl, rfl, HE.out, H.all_ _⟩
            case measure => simp [strLen]; omega
          · have b2 : ((k : Int) + 1 == 136) = false := beq_eq_false_iff_ne.2 (by omega)
            rw [if_neg hend] at hEE
            have HE := Lib.hid hEE
            clear hEE
            have hlt' : k + 1 < 136 := by omega
            clear hend
            go_wp2_with fail
            go_roundw
            case rel => exact ⟨t.extract 1 t.size, (Spo.upd T q (T q ^^^ Spo.b64 t[0] <<< (8 * r))), k + 1, by simp; omega, hlt', rfl, by go_num, HE.out, H⟩
            case measure => simp [strLen]; omega
        · clear hA
          obtain ⟨q, hq⟩ : ∃ q, q = k / 8 := ⟨_, rfl⟩
          obtain ⟨r, hr⟩ : ∃ r, r = k % 8 := ⟨_, rfl⟩
          have hq25 : q < 25 := by omega
          have hr8 : r < 8 := by omega
          have hW : Spo.ab (T, k) t.data.toList = Spo.ab (if k + 1 = 136 then (Kec.perm (Spo.upd T q (T q ^^^ Spo.b64 t[0] <<< (8 * r))), 0) else (Spo.upd T q (T q ^^^ Spo.b64 t[0] <<< (8 * r)), k + 1)) (t.extract 1 t.size).data.toList := by
            rw [one t hlt, List.singleton_append, Spo.ab_cons]
            unfold Spo.ab1 Spo.put
            rw [← hq, ← hr]
          have HW := Lib.hid hW
          clear hW
          have HQ := Lib.hid hq
          have HR := Lib.hid hr
          clear hq hr
          have b1 : ((k : Int) % 8 == 0) = false := beq_eq_false_iff_ne.2 (by omega)
          clear hk8
          go_upto_region 7 with (fail)
          refine region_tail 18 (fun w' => SpAt w w' b T (n + s.size)) (by kernel_rfl) (by kernel_rfl) H.drew ?_
          clear H
          intro w4 H
          have c := H.s.word q hq25
          have f := H.s.frozen q
          have i3 : ((k : Int)).tdiv 8 = (q : Int) := by have := HQ.out; rw [Int.tdiv_eq_ediv_of_nonneg (by omega)]; omega
          have i6 : ((k : Int)).tmod 8 = (r : Int) := by have := HR.out; rw [Int.tmod_eq_emod_of_nonneg (by omega)]; omega
          have i2 : (q : Int) < 25 := by omega
          have i4 : IntKind.i64.wrap (q : Int) = (q : Int) := IntWalk.i64_in _ (by omega)
          have i5 : 0 ≤ (q : Int) := by omega
          have i7 : IntKind.i64.wrap (r : Int) = (r : Int) := IntWalk.i64_in _ (by omega)
          have i8 : IntKind.i64.wrap (8 * (r : Int)) = 8 * (r : Int) := IntWalk.i64_in _ (by omega)
          have i9 : 0 ≤ 8 * (r : Int) := by omega
          have i10 : 8 * (r : Int) ≤ 64 := by omega
          have j1 : (8 * (r : Int)).toNat = 8 * r := by omega
          have j2 : min (8 * r) 64 = 8 * r := by omega
          have j3 : IntKind.u64.wrap (t[0].toNat : Int) = U (Spo.b64 t[0]) := U_b64 _
          have j4 := shl_U (Spo.b64 t[0]) (8 * r)
          have j5 : 0 < t.size := hlt
          simp only [List.take_succ_cons, List.take_zero, List.drop_succ_cons, List.drop_zero]
          repeat still_step
          refine wpStill_nil ?_
          clear i2 i3 i4 i5 i6 i7 i8 i9 i10 j1 j2 j3 j4 j5
          go_upto_region 8 with (fail)
          clear c f
          refine wp_gen (fun w' => SpAt w w' b (Spo.upd T q (T q ^^^ Spo.b64 t[0] <<< (8 * r))) (n + s.size)) (H.put_ q hq25 (T q ^^^ Spo.b64 t[0] <<< (8 * r))) ?_
          clear H
          intro w5 H
          have hEE := hE.out
          rw [HW.out] at hEE
          by_cases hend : k + 1 = 136
          · have b2 : ((k : Int) + 1 == 136) = true := beq_iff_eq.2 (by omega)
            rw [if_pos hend] at hEE
            have HE := Lib.hid hEE
            clear hEE hend
            have hC5 := hC.grown hb H.g
            go_upto_region 11 with (fail)
            go_wp2_with (refine wpList_load_mid rfl 94 _ rfl b 0 rfl (cells (Spo.upd T q (T q ^^^ Spo.b64 t[0] <<< (8 * r)))) _ H.s.range Tryz.underlying94 rfl (by rw [cells_len]; exact info26) ?_)
            refine (permute_any (Spo.upd T q (T q ^^^ Spo.b64 t[0] <<< (8 * r))) _ hC5).mono ?_
            rintro e w6 ⟨rfl, hb6⟩
            replace H := H.below hb6
            go_wp2_with (refine wpList_store_mid rfl 94 _ _ rfl b 0 (arr (Kec.perm (Spo.upd T q (T q ^^^ Spo.b64 t[0] <<< (8 * r))))) rfl rfl (by rw [arr_size]; exact H.s.there) (by rw [arr_size]; exact info26) (arr_one _) ?_)
            go_roundw
            case rel => exact ⟨t.extract 1 t.size, Kec.perm (Spo.upd T q (T q ^^^ Spo.b64 t[0] <<< (8 * r))), 0, by simp; omega, by omega, rfl, rfl, HE.out, H.all_ _⟩
            case measure => simp [strLen]; omega
          · have b2 : ((k : Int) + 1 == 136) = false := beq_eq_false_iff_ne.2 (by omega)
            rw [if_neg hend] at hEE
            have HE := Lib.hid hEE
            clear hEE
            have hlt' : k + 1 < 136 := by omega
            clear hend
            go_wp2_with fail
            go_roundw
            case rel => exact ⟨t.extract 1 t.size, (Spo.upd T q (T q ^^^ Spo.b64 t[0] <<< (8 * r))), k + 1, by simp; omega, hlt', rfl, by go_num, HE.out, H⟩
            case measure => simp [strLen]; omega
    · have h0 : t.data.toList = [] := List.eq_nil_of_length_eq_zero (by have : t.data.toList.length = t.size := rfl; omega)
      have hEE := hE.out
      rw [h0] at hEE
      have HE := Lib.hid hEE
      clear hEE h0
      go_wp2
      go_end0
      exact ⟨rfl, by rw [HE.out]; exact H⟩
end Go.Proofs.YtmmdldicafbjdaaGreatDoor.Dg
