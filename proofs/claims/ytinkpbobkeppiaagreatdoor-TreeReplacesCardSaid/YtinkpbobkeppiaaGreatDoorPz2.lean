/- take absorbs a string. Condition: the round constants lie in their variable.
Sum of a sponge returns the digest of what was taken in. Condition: the round constants lie in their variable.
New and Write of a sponge. Condition: the round constants lie in their variable.
A sponge in terms of the bytes that it has taken in. Condition: the round constants lie in their variable. -/
import Derived.Test.YtinkpbobkeppiaaGreatDoorPz1
import Derived.Deep.MidRow
import Derived.StillTailTactics
import Derived.Deep.RegionWith
import Derived.Lib.LazyBuf
import Derived.Laws.BytesArg
section
namespace Go.Proofs.YtinkpbobkeppiaaGreatDoor.Dg
open Go.RowKit

theorem U_b64 (c : UInt8) : IntKind.u64.wrap (c.toNat : Int) = U (Spo.b64 c) := by
  rw [IntKind.wrap_u64]; unfold U Spo.b64
  rw [BitVec.toNat_ofNat]
  have := c.toNat_lt
  omega
theorem word_val (c0 c1 c2 c3 c4 c5 c6 c7 : UInt8) : bits BinOp.or IntKind.u64 (bits BinOp.or IntKind.u64 (bits BinOp.or IntKind.u64 (bits BinOp.or IntKind.u64 (bits BinOp.or IntKind.u64 (bits BinOp.or IntKind.u64 (bits BinOp.or IntKind.u64 (IntKind.u64.wrap (c0.toNat : Int))
    (IntKind.u64.wrap (IntKind.u64.wrap (c1.toNat : Int) * 256))) (IntKind.u64.wrap (IntKind.u64.wrap (c2.toNat : Int) * 65536))) (IntKind.u64.wrap (IntKind.u64.wrap (c3.toNat : Int) * 16777216))) (IntKind.u64.wrap (IntKind.u64.wrap (c4.toNat : Int) * 4294967296)))
    (IntKind.u64.wrap (IntKind.u64.wrap (c5.toNat : Int) * 1099511627776))) (IntKind.u64.wrap (IntKind.u64.wrap (c6.toNat : Int) * 281474976710656))) (IntKind.u64.wrap (IntKind.u64.wrap (c7.toNat : Int) * 72057594037927936)) = U (Spo.word c0 c1 c2 c3 c4 c5 c6 c7) := by
  have h8 := fun x => shl_U x 8
  have h16 := fun x => shl_U x 16
  have h24 := fun x => shl_U x 24
  have h32 := fun x => shl_U x 32
  have h40 := fun x => shl_U x 40
  have h48 := fun x => shl_U x 48
  have h56 := fun x => shl_U x 56
  rw [show (2 : Int) ^ 8 = 256 from rfl] at h8
  rw [show (2 : Int) ^ 16 = 65536 from rfl] at h16
  rw [show (2 : Int) ^ 24 = 16777216 from rfl] at h24
  rw [show (2 : Int) ^ 32 = 4294967296 from rfl] at h32
  rw [show (2 : Int) ^ 40 = 1099511627776 from rfl] at h40
  rw [show (2 : Int) ^ 48 = 281474976710656 from rfl] at h48
  rw [show (2 : Int) ^ 56 = 72057594037927936 from rfl] at h56
  rw [U_b64, U_b64, U_b64, U_b64, U_b64, U_b64, U_b64, U_b64, h8, h16, h24, h32, h40, h48, h56, or_U, or_U, or_U, or_U, or_U, or_U, or_U]
  rfl
theorem ext_get (s : ByteArray) (i : Nat) (hi : i < 8) (hs : 8 ≤ s.size) (h : i < (s.extract 0 8).size) : (s.extract 0 8)[i] = s[i] := by
  simp [ByteArray.getElem_extract]

set_option maxHeartbeats 1000000 in
set_option maxRecDepth 100000 in
theorem word_any (s : ByteArray) (hs : 8 ≤ s.size) (hm : s.size ≤ maxLen) (w : World) :
    Calls Tryz.prog 134 #[.string s] w fun e w' => e = .returned (.int .u64 (U (Spo.word s[0] s[1] s[2] s[3] s[4] s[5] s[6] s[7]))) ∧ ∃ n, w' = w.drewN n := by
  unfold maxLen at hm
  go_enter Tryz.func134, Tryz.ntmps134
  go_wp2_with fail
  go_quiet (fail)
  go_wp2_with fail
  go_ret
  refine ⟨congrArg Ending.returned (congrArg (Value.int .u64) ?_), _, rfl⟩
  rw [ext_get s 0 (by decide) hs, ext_get s 1 (by decide) hs, ext_get s 2 (by decide) hs, ext_get s 3 (by decide) hs, ext_get s 4 (by decide) hs, ext_get s 5 (by decide) hs, ext_get s 6 (by decide) hs, ext_get s 7 (by decide) hs]
  exact word_val _ _ _ _ _ _ _ _

/-- Block b holds a sponge: the state and how many bytes were taken in. -/
def IsSp (w : World) (b : Nat) (S : Kec.St) (n : Nat) : Prop := w.rowIs b 117 26 (fun i => if i < 25 then .int .u64 (U (S i)) else .int .i64 n)
theorem IsSp.word {w : World} {b n : Nat} {S : Kec.St} (h : IsSp w b S n) (i : Nat) (hi : i < 25) : w.cell? ⟨b, i, none⟩ = some (.int .u64 (U (S i))) := by
  have := World.rowIs.cell h (show i < 26 by omega); rwa [if_pos hi] at this
theorem IsSp.count {w : World} {b n : Nat} {S : Kec.St} (h : IsSp w b S n) : w.cell? ⟨b, 25, none⟩ = some (.int .i64 n) := World.rowIs.cell h (show 25 < 26 by decide)
theorem IsSp.frozen {w : World} {b n : Nat} {S : Kec.St} (h : IsSp w b S n) (i : Nat) : w.frozen? ⟨b, i, none⟩ = false := World.rowIs.frozen h i
theorem IsSp.put_ {w : World} {b n : Nat} {S : Kec.St} (h : IsSp w b S n) (i : Nat) (hi : i < 25) (x : BitVec 64) : IsSp (w.setCell ⟨b, i, none⟩ (.int .u64 (U x))) b (Spo.upd S i x) n :=
  World.rowIs.congr (World.rowIs.set h i _) fun j _ => by
    show (if j = i then Value.int .u64 (U x) else (if j < 25 then Value.int .u64 (U (S j)) else .int .i64 n)) = (if j < 25 then Value.int .u64 (U (if j = i then x else S j)) else .int .i64 n)
    by_cases hj : j = i
    · subst hj; rw [if_pos rfl, if_pos hi, if_pos rfl]
    · rw [if_neg hj, if_neg hj]
theorem IsSp.add_ {w : World} {b n : Nat} {S : Kec.St} (h : IsSp w b S n) (m : Nat) : IsSp (w.setCell ⟨b, 25, none⟩ (.int .i64 m)) b S m :=
  World.rowIs.congr (World.rowIs.set h 25 _) fun j hj => by
    show (if j = 25 then Value.int .i64 (m : Int) else (if j < 25 then Value.int .u64 (U (S j)) else .int .i64 n)) = (if j < 25 then Value.int .u64 (U (S j)) else .int .i64 m)
    by_cases e : j = 25
    · subst e; rfl
    · rw [if_neg e, if_pos (by omega), if_pos (by omega)]

/-- From the world w on, block b alone has turned, and holds a sponge. -/
structure SpAt (w w' : World) (b : Nat) (S : Kec.St) (n : Nat) : Prop where
  s : IsSp w' b S n
  g : w.grownBy w' (some b)
theorem SpAt.put_ {w w' : World} {b n : Nat} {S : Kec.St} (h : SpAt w w' b S n) (i : Nat) (hi : i < 25) (x : BitVec 64) : SpAt w (w'.setCell ⟨b, i, none⟩ (.int .u64 (U x))) b (Spo.upd S i x) n :=
  ⟨h.s.put_ i hi x, only_setCell h.g (.inl rfl) _⟩
theorem SpAt.add_ {w w' : World} {b n : Nat} {S : Kec.St} (h : SpAt w w' b S n) (m : Nat) : SpAt w (w'.setCell ⟨b, 25, none⟩ (.int .i64 m)) b S m :=
  ⟨h.s.add_ m, only_setCell h.g (.inl rfl) _⟩
theorem SpAt.drewN {w w' : World} {b n : Nat} {S : Kec.St} (h : SpAt w w' b S n) (k : Nat) : SpAt w (w'.drewN k) b S n := ⟨h.s, only_drewN h.g k⟩
theorem SpAt.drew {w w' : World} {b n : Nat} {S : Kec.St} (h : SpAt w w' b S n) : SpAt w w'.drew b S n := ⟨h.s, only_drew h.g⟩
theorem SpAt.below {w w' w'' : World} {b n : Nat} {S : Kec.St} (h : SpAt w w' b S n) (hb : Below w'.heap.size w' w'') : SpAt w w'' b S n :=
  ⟨World.rowIs.of_block h.s (hb.block _ (World.rowIs.lt h.s)), ⟨hb.os.trans h.g.os, hb.tape.trans h.g.tape, hb.output.trans h.g.output, Nat.le_trans h.g.size hb.size, fun i hi hne => (hb.block i (Nat.lt_of_lt_of_le hi h.g.size)).trans (h.g.block i hi hne)⟩⟩
theorem Consts.grown {w w' : World} {b : Nat} (h : Consts w) (hb : 1 < b) (hg : w.grownBy w' (some b)) : Consts w' :=
  ⟨Nat.lt_of_lt_of_le h.1 hg.size, fun i hi => by
    rw [World.cell?_of_block (w := w) (hg.block 1 h.1 (by simp; omega))]; exact h.2 i hi⟩

theorem only_setCells {a : World} {b : Nat} : ∀ (vs : List Value) (o : Nat) (w : World), a.grownBy w (some b) → a.grownBy (w.setCells b o vs) (some b)
  | [], _, _, h => h
  | v :: r, o, _, h => only_setCells r (o + 1) _ (only_setCell h (.inl rfl) v)
def cells (S : Kec.St) : List Value := (List.range 25).map fun i => Value.int .u64 (U (S i))
theorem cells_len (S : Kec.St) : (cells S).length = 25 := by unfold cells; simp
theorem cells_get (S : Kec.St) (i : Nat) (hi : i < 25) : (cells S)[i]? = some (.int .u64 (U (S i))) := by unfold cells; simp [hi]
theorem cells_arr (S : Kec.St) : (cells S).toArray = arr S := rfl
theorem IsSp.range {w : World} {b n : Nat} {S : Kec.St} (h : IsSp w b S n) : w.rangeAt b 0 (cells S) := fun j v hv => by
  by_cases hj : j < 25
  · rw [cells_get S j hj] at hv
    rw [Nat.zero_add, h.word j hj, hv]
  · rw [List.getElem?_eq_none (by rw [cells_len]; omega)] at hv; cases hv
theorem IsSp.there {w : World} {b n : Nat} {S : Kec.St} (h : IsSp w b S n) : w.there b 0 25 := fun j hj => by
  rw [Nat.zero_add]; exact ⟨by rw [h.word j hj]; rfl, h.frozen j⟩
theorem SpAt.all_ {w w' : World} {b n : Nat} {S : Kec.St} (h : SpAt w w' b S n) (T : Kec.St) : SpAt w (w'.setCells b 0 (arr T).toList) b T n := by
  refine ⟨World.rowIs.congr (rowIs_setCells (arr T).toList 0 _ _ h.s) fun j _ => ?_, only_setCells _ _ _ h.g⟩
  have e : (arr T).toList = cells T := rfl
  rw [e, cells_len]
  by_cases hj : j < 25
  · rw [if_pos (by omega), if_pos hj, Nat.sub_zero, cells_get T j hj]; rfl
  · rw [if_neg (by omega), if_neg hj, if_neg hj]

/-- The length of a string. -/
def strLen : Value → Nat
  | .string t => t.size
  | _ => 0
theorem drop_ext (t : ByteArray) (n : Nat) : (t.extract n t.size).data.toList = t.data.toList.drop n := by
  rw [ByteArray.data_extract, Array.toList_extract, List.extract_eq_take_drop]
  exact List.take_of_length_le (by rw [List.length_drop]; exact Nat.le_refl _)
theorem get_list (t : ByteArray) (i : Nat) (hi : i < t.size) : t[i] = t.data.toList[i]'(by simpa using hi) := by simp [ByteArray.getElem_eq_getElem_data]
theorem eightL (l : List UInt8) (h : 8 ≤ l.length) : l = [l[0], l[1], l[2], l[3], l[4], l[5], l[6], l[7]] ++ l.drop 8 := by
  match l, h with
  | a :: b :: c :: d :: e :: f :: g :: h :: r, _ => rfl
theorem oneL (l : List UInt8) (h : 1 ≤ l.length) : l = [l[0]] ++ l.drop 1 := by
  match l, h with
  | a :: r, _ => rfl
theorem eight (t : ByteArray) (h : 8 ≤ t.size) : t.data.toList = [t[0], t[1], t[2], t[3], t[4], t[5], t[6], t[7]] ++ (t.extract 8 t.size).data.toList := by
  rw [drop_ext, get_list t 0, get_list t 1, get_list t 2, get_list t 3, get_list t 4, get_list t 5, get_list t 6, get_list t 7]
  exact eightL _ (by simpa using h)
theorem one (t : ByteArray) (h : 1 ≤ t.size) : t.data.toList = [t[0]] ++ (t.extract 1 t.size).data.toList := by
  rw [drop_ext, get_list t 0]
  exact oneL _ (by simpa using h)

set_option maxHeartbeats 4000000 in
set_option maxRecDepth 100000 in
theorem take_any (S : Kec.St) (n b : Nat) (s : ByteArray) (w : World) (hC : Consts w) (hb : 1 < b) (hS : IsSp w b S n) (hn : n + s.size ≤ 4611686018427387904) :
    Calls Tryz.prog 105 #[.pointer (some ⟨b, 0, none⟩), .string s] w fun e w' => e = .returned (.tuple #[]) ∧ SpAt w w' b (Spo.ab (S, n % 136) s.data.toList).1 (n + s.size) := by
  have H : SpAt w w b S n := ⟨hS, ⟨rfl, rfl, rfl, Nat.le_refl _, fun _ _ _ => rfl⟩⟩
  have c := H.s.count
  have f := H.s.frozen 25
  clear hS
  go_enter Tryz.func105, Tryz.ntmps105
  have h136 : decide (0 < (136 : Int)) = true := by decide
  go_wp2_with fail
  clear c f h136
  refine wp_gen (fun w' => SpAt w w' b S (n + s.size)) (by have := H.add_ (n + s.size); simpa using this) ?_
  clear H
  intro w1 H
  have hk0 : n % 136 < 136 := Nat.mod_lt _ (by decide)
  go_loopw [1, 4] (fun d a wr => ∃ (t : ByteArray) (T : Kec.St) (k : Nat), t.size ≤ s.size ∧ k < 136 ∧ d = .string t ∧ a = .int .i64 k ∧ Hid (Spo.ab (S, n % 136) s.data.toList = Spo.ab (T, k) t.data.toList) ∧ SpAt w wr b T (n + s.size)) (fun d _ _ => strLen d)
  case atStart => exact ⟨s, S, n % 136, Nat.le_refl _, hk0, rfl, by go_num, rfl, H⟩
  case round =>
    clear H hk0
    obtain ⟨t, T, k, ht, hk, rfl, rfl, hE, H⟩ := hrel
    by_cases hlt : 0 < t.size
    · by_cases hA : k % 8 = 0 ∧ 8 ≤ t.size
      · obtain ⟨hk8, h8⟩ := hA
        have b1 : ((k : Int) % 8 == 0) = true := beq_iff_eq.2 (by omega)
        obtain ⟨q, hq⟩ : ∃ q, q = k / 8 := ⟨_, rfl⟩
        have hq25 : q < 25 := by omega
        have i1 : (k : Int) / 8 = (q : Int) := by omega
        have HK8 := Lib.hid hk8
        have HQ := Lib.hid hq
        clear hk8 hq
        go_upto_region 6 with (fail)
        have c := H.s.word q hq25
        have f := H.s.frozen q
        have i2 : (q : Int) < 25 := by omega
        have i3 : ((k : Int)).tdiv 8 = (q : Int) := by rw [Int.tdiv_eq_ediv_of_nonneg (by omega)]; exact i1
        have i4 : IntKind.i64.wrap (q : Int) = (q : Int) := IntWalk.i64_in _ (by omega)
        have i5 : 0 ≤ (q : Int) := by omega
        have hmx : t.size ≤ maxLen := by unfold maxLen; omega
        have hwc := fun W => word_any t h8 hmx W
        generalize hv : Spo.word t[0] t[1] t[2] t[3] t[4] t[5] t[6] t[7] = v at hwc
        have HV := Lib.hid hv
        have HWC := Lib.hid hwc
        clear hv hmx hwc
        go_region_with ((go_at_call 134; refine (HWC.out _).mono ?_; rintro e wx ⟨rfl, nq, rfl⟩))
        all_goals
          clear c f i1 i2 i3 i4 i5
          have hW : Spo.ab (T, k) t.data.toList = Spo.ab (if k + 8 = 136 then (Kec.perm (Spo.upd T q (T q ^^^ v)), 0) else (Spo.upd T q (T q ^^^ v), k + 8)) (t.extract 8 t.size).data.toList := by
            rw [eight t h8, Spo.ab_append, Spo.ab_word T k _ _ _ _ _ _ _ _ HK8.out (by have := HK8.out; omega), HV.out, HQ.out]
          have HW := Lib.hid hW
          clear hW
          go_upto_region 8 with (fail)
          refine wp_gen (fun w' => SpAt w w' b (Spo.upd T q (T q ^^^ v)) (n + s.size)) ((H.drewN _).put_ q hq25 (T q ^^^ v)) ?_
          clear H
          intro w5 H
          have hEE := hE.out
          rw [HW.out] at hEE
          by_cases hend : k + 8 = 136
          · have b2 : ((k : Int) + 8 == 136) = true := beq_iff_eq.2 (by omega)
            rw [if_pos hend] at hEE
            have HE := Lib.hid hEE
            clear hEE hend
            have hC5 := hC.grown hb H.g
            go_upto_region 11 with (fail)
            go_wp2_with (refine wpList_load_mid rfl 115 _ rfl b 0 rfl (cells (Spo.upd T q (T q ^^^ v))) _ H.s.range Tryz.underlying115 rfl (by rw [cells_len]; exact info26) ?_)
            refine (permute_any (Spo.upd T q (T q ^^^ v)) _ hC5).mono ?_
            rintro e w6 ⟨rfl, hb6⟩
            replace H := H.below hb6
            go_wp2_with (refine wpList_store_mid rfl 115 _ _ rfl b 0 (arr (Kec.perm (Spo.upd T q (T q ^^^ v)))) rfl rfl (by rw [arr_size]; exact H.s.there) (by rw [arr_size]; exact info26) (arr_one _) ?_)
            go_roundw
            case rel => exact ⟨t.extract 8 t.size, Kec.perm (Spo.upd T q (T q ^^^ v)), 0, by simp; omega, by omega, rfl, rfl, HE.out, H.all_ _⟩
            case measure => simp [strLen]; omega
          · have b2 : ((k : Int) + 8 == 136) = false := beq_eq_false_iff_ne.2 (by omega)
            rw [if_neg hend] at hEE
            have HE := Lib.hid hEE
            clear hEE
            have hlt' : k + 8 < 136 := by have := HK8.out; omega
            clear hend
            go_wp2_with fail
            go_roundw
            case rel => exact ⟨t.extract 8 t.size, (Spo.upd T q (T q ^^^ v)), k + 8, by simp; omega, hlt', rfl, by go_num, HE.out, H⟩
            case measure => simp [strLen]; omega
      · by_cases hk8 : k % 8 = 0
        · have h8 : t.size < 8 := by omega
          obtain ⟨q, hq⟩ : ∃ q, q = k / 8 := ⟨_, rfl⟩
          obtain ⟨r, hr⟩ : ∃ r, r = k % 8 := ⟨_, rfl⟩
          have hq25 : q < 25 := by omega
          have hr8 : r < 8 := by omega
          have hW : Spo.ab (T, k) t.data.toList = Spo.ab (if k + 1 = 136 then (Kec.perm (Spo.upd T q (T q ^^^ Spo.b64 t[0] <<< (8 * r))), 0) else (Spo.upd T q (T q ^^^ Spo.b64 t[0] <<< (8 * r)), k + 1)) (t.extract 1 t.size).data.toList := by
            rw [one t hlt, List.singleton_append, Spo.ab_cons]
            unfold Spo.ab1 Spo.put
            rw [← hq, ← hr]
          have HW := Lib.hid hW
          clear hW
          have HQ := Lib.hid hq
          have HR := Lib.hid hr
          clear hq hr
          have b1 : ((k : Int) % 8 == 0) = true := beq_iff_eq.2 (by omega)
          clear hk8 hA
          go_upto_region 7 with (fail)
          refine region_tail 18 (fun w' => SpAt w w' b T (n + s.size)) (by kernel_rfl) (by kernel_rfl) H.drew ?_
          clear H
          intro w4 H
          have c := H.s.word q hq25
          have f := H.s.frozen q
          have i3 : ((k : Int)).tdiv 8 = (q : Int) := by have := HQ.out; rw [Int.tdiv_eq_ediv_of_nonneg (by omega)]; omega
          have i6 : ((k : Int)).tmod 8 = (r : Int) := by have := HR.out; rw [Int.tmod_eq_emod_of_nonneg (by omega)]; omega
          have i2 : (q : Int) < 25 := by omega
          have i4 : IntKind.i64.wrap (q : Int) = (q : Int) := IntWalk.i64_in _ (by omega)
          have i5 : 0 ≤ (q : Int) := by omega
          have i7 : IntKind.i64.wrap (r : Int) = (r : Int) := IntWalk.i64_in _ (by omega)
          have i8 : IntKind.i64.wrap (8 * (r : Int)) = 8 * (r : Int) := IntWalk.i64_in _ (by omega)
          have i9 : 0 ≤ 8 * (r : Int) := by omega
          have i10 : 8 * (r : Int) ≤ 64 := by omega
          have j1 : (8 * (r : Int)).toNat = 8 * r := by omega
          have j2 : min (8 * r) 64 = 8 * r := by omega
          have j3 : IntKind.u64.wrap (t[0].toNat : Int) = U (Spo.b64 t[0]) := U_b64 _
          have j4 := shl_U (Spo.b64 t[0]) (8 * r)
          have j5 : 0 < t.size := hlt
          simp only [List.take_succ_cons, List.take_zero, List.drop_succ_cons, List.drop_zero]
          repeat still_step
          refine wpStill_nil ?_
          clear i2 i3 i4 i5 i6 i7 i8 i9 i10 j1 j2 j3 j4 j5
          go_upto_region 8 with (fail)
          clear c f
          refine wp_gen (fun w' => SpAt w w' b (Spo.upd T q (T q ^^^ Spo.b64 t[0] <<< (8 * r))) (n + s.size)) (H.put_ q hq25 (T q ^^^ Spo.b64 t[0] <<< (8 * r))) ?_
          clear H
          intro w5 H
          have hEE := hE.out
          rw [HW.out] at hEE
          by_cases hend : k + 1 = 136
          · have b2 : ((k : Int) + 1 == 136) = true := beq_iff_eq.2 (by omega)
            rw [if_pos hend] at hEE
            have HE := Lib.hid hEE
            clear hEE hend
            have hC5 := hC.grown hb H.g
            go_upto_region 11 with (fail)
            go_wp2_with (refine wpList_load_mid rfl 115 _ rfl b 0 rfl (cells (Spo.upd T q (T q ^^^ Spo.b64 t[0] <<< (8 * r)))) _ H.s.range Tryz.underlying115 rfl (by rw [cells_len]; exact info26) ?_)
            refine (permute_any (Spo.upd T q (T q ^^^ Spo.b64 t[0] <<< (8 * r))) _ hC5).mono ?_
            rintro e w6 ⟨rfl, hb6⟩
            replace H := H.below hb6
            go_wp2_with (refine wpList_store_mid rfl 115 _ _ rfl b 0 (arr (Kec.perm (Spo.upd T q (T q ^^^ Spo.b64 t[0] <<< (8 * r))))) rfl rfl (by rw [arr_size]; exact H.s.there) (by rw [arr_size]; exact info26) (arr_one _) ?_)
            go_roundw
            case rel => exact ⟨t.extract 1 t.size, Kec.perm (Spo.upd T q (T q ^^^ Spo.b64 t[0] <<< (8 * r))), 0, by simp; omega, by omega, rfl, rfl, HE.out, H.all_ _⟩
            case measure => simp [strLen]; omega
          · have b2 : ((k : Int) + 1 == 136) = false := beq_eq_false_iff_ne.2 (by omega)
            rw [if_neg hend] at hEE
            have HE := Lib.hid hEE
            clear hEE
            have hlt' : k + 1 < 136 := by omega
            clear hend
            go_wp2_with fail
            go_roundw
            case rel => exact ⟨t.extract 1 t.size, (Spo.upd T q (T q ^^^ Spo.b64 t[0] <<< (8 * r))), k + 1, by simp; omega, hlt', rfl, by go_num, HE.out, H⟩
            case measure => simp [strLen]; omega
        · clear hA
          obtain ⟨q, hq⟩ : ∃ q, q = k / 8 := ⟨_, rfl⟩
          obtain ⟨r, hr⟩ : ∃ r, r = k % 8 := ⟨_, rfl⟩
          have hq25 : q < 25 := by omega
          have hr8 : r < 8 := by omega
          have hW : Spo.ab (T, k) t.data.toList = Spo.ab (if k + 1 = 136 then (Kec.perm (Spo.upd T q (T q ^^^ Spo.b64 t[0] <<< (8 * r))), 0) else (Spo.upd T q (T q ^^^ Spo.b64 t[0] <<< (8 * r)), k + 1)) (t.extract 1 t.size).data.toList := by
            rw [one t hlt, List.singleton_append, Spo.ab_cons]
            unfold Spo.ab1 Spo.put
            rw [← hq, ← hr]
          have HW := Lib.hid hW
          clear hW
          have HQ := Lib.hid hq
          have HR := Lib.hid hr
          clear hq hr
          have b1 : ((k : Int) % 8 == 0) = false := beq_eq_false_iff_ne.2 (by omega)
          clear hk8
          go_upto_region 7 with (fail)
          refine region_tail 18 (fun w' => SpAt w w' b T (n + s.size)) (by kernel_rfl) (by kernel_rfl) H.drew ?_
          clear H
          intro w4 H
          have c := H.s.word q hq25
          have f := H.s.frozen q
          have i3 : ((k : Int)).tdiv 8 = (q : Int) := by have := HQ.out; rw [Int.tdiv_eq_ediv_of_nonneg (by omega)]; omega
          have i6 : ((k : Int)).tmod 8 = (r : Int) := by have := HR.out; rw [Int.tmod_eq_emod_of_nonneg (by omega)]; omega
          have i2 : (q : Int) < 25 := by omega
          have i4 : IntKind.i64.wrap (q : Int) = (q : Int) := IntWalk.i64_in _ (by omega)
          have i5 : 0 ≤ (q : Int) := by omega
          have i7 : IntKind.i64.wrap (r : Int) = (r : Int) := IntWalk.i64_in _ (by omega)
          have i8 : IntKind.i64.wrap (8 * (r : Int)) = 8 * (r : Int) := IntWalk.i64_in _ (by omega)
          have i9 : 0 ≤ 8 * (r : Int) := by omega
          have i10 : 8 * (r : Int) ≤ 64 := by omega
          have j1 : (8 * (r : Int)).toNat = 8 * r := by omega
          have j2 : min (8 * r) 64 = 8 * r := by omega
          have j3 : IntKind.u64.wrap (t[0].toNat : Int) = U (Spo.b64 t[0]) := U_b64 _
          have j4 := shl_U (Spo.b64 t[0]) (8 * r)
          have j5 : 0 < t.size := hlt
          simp only [List.take_succ_cons, List.take_zero, List.drop_succ_cons, List.drop_zero]
          repeat still_step
          refine wpStill_nil ?_
          clear i2 i3 i4 i5 i6 i7 i8 i9 i10 j1 j2 j3 j4 j5
          go_upto_region 8 with (fail)
          clear c f
          refine wp_gen (fun w' => SpAt w w' b (Spo.upd T q (T q ^^^ Spo.b64 t[0] <<< (8 * r))) (n + s.size)) (H.put_ q hq25 (T q ^^^ Spo.b64 t[0] <<< (8 * r))) ?_
          clear H
          intro w5 H
          have hEE := hE.out
          rw [HW.out] at hEE
          by_cases hend : k + 1 = 136
          · have b2 : ((k : Int) + 1 == 136) = true := beq_iff_eq.2 (by omega)
            rw [if_pos hend] at hEE
            have HE := Lib.hid hEE
            clear hEE hend
            have hC5 := hC.grown hb H.g
            go_upto_region 11 with (fail)
            go_wp2_with (refine wpList_load_mid rfl 115 _ rfl b 0 rfl (cells (Spo.upd T q (T q ^^^ Spo.b64 t[0] <<< (8 * r)))) _ H.s.range Tryz.underlying115 rfl (by rw [cells_len]; exact info26) ?_)
            refine (permute_any (Spo.upd T q (T q ^^^ Spo.b64 t[0] <<< (8 * r))) _ hC5).mono ?_
            rintro e w6 ⟨rfl, hb6⟩
            replace H := H.below hb6
            go_wp2_with (refine wpList_store_mid rfl 115 _ _ rfl b 0 (arr (Kec.perm (Spo.upd T q (T q ^^^ Spo.b64 t[0] <<< (8 * r))))) rfl rfl (by rw [arr_size]; exact H.s.there) (by rw [arr_size]; exact info26) (arr_one _) ?_)
            go_roundw
            case rel => exact ⟨t.extract 1 t.size, Kec.perm (Spo.upd T q (T q ^^^ Spo.b64 t[0] <<< (8 * r))), 0, by simp; omega, by omega, rfl, rfl, HE.out, H.all_ _⟩
            case measure => simp [strLen]; omega
          · have b2 : ((k : Int) + 1 == 136) = false := beq_eq_false_iff_ne.2 (by omega)
            rw [if_neg hend] at hEE
            have HE := Lib.hid hEE
            clear hEE
            have hlt' : k + 1 < 136 := by omega
            clear hend
            go_wp2_with fail
            go_roundw
            case rel => exact ⟨t.extract 1 t.size, (Spo.upd T q (T q ^^^ Spo.b64 t[0] <<< (8 * r))), k + 1, by simp; omega, hlt', rfl, by go_num, HE.out, H⟩
            case measure => simp [strLen]; omega
    · have h0 : t.data.toList = [] := List.eq_nil_of_length_eq_zero (by have : t.data.toList.length = t.size := rfl; omega)
      have hEE := hE.out
      rw [h0] at hEE
      have HE := Lib.hid hEE
      clear hEE h0
      go_wp2
      go_end0
      exact ⟨rfl, by rw [HE.out]; exact H⟩
end Go.Proofs.YtinkpbobkeppiaaGreatDoor.Dg
end
section
namespace Go.Proofs.YtinkpbobkeppiaaGreatDoor.Dg
open Go.RowKit

/-- Block b is an array of n bytes. -/
def IsBy (w : World) (b : Nat) (t : TypeId) (n : Nat) (f : Nat → Int) : Prop := w.rowIs b t n (fun i => .int .u8 (f i))
theorem IsBy.cell {w : World} {b n : Nat} {t : TypeId} {f : Nat → Int} (h : IsBy w b t n f) (i : Nat) (hi : i < n) : w.cell? ⟨b, i, none⟩ = some (.int .u8 (f i)) := World.rowIs.cell h hi
theorem IsBy.frozen {w : World} {b n : Nat} {t : TypeId} {f : Nat → Int} (h : IsBy w b t n f) (i : Nat) : w.frozen? ⟨b, i, none⟩ = false := World.rowIs.frozen h i
theorem IsBy.set_ {w : World} {b n : Nat} {t : TypeId} {f : Nat → Int} (h : IsBy w b t n f) (i : Nat) (x : Int) : IsBy (w.setCell ⟨b, i, none⟩ (.int .u8 x)) b t n (fun j => if j = i then x else f j) :=
  World.rowIs.congr (World.rowIs.set h i _) fun j _ => by dsimp only; split <;> rfl
theorem IsBy.congr {w : World} {b n : Nat} {t : TypeId} {f g : Nat → Int} (h : IsBy w b t n f) (e : ∀ i, i < n → f i = g i) : IsBy w b t n g := World.rowIs.congr h fun i hi => by rw [e i hi]
theorem IsBy.str {w : World} {b n : Nat} {t : TypeId} {f : Nat → Int} (h : IsBy w b t n f) (src e dst : TypeId) (hs : Tryz.prog.underlying src = some (.slice e)) (he : Tryz.prog.underlying e = some (.int .u8)) (hd : Tryz.prog.underlying dst = some .string) :
    (convert src dst (Value.slice (some ⟨b, 0, none⟩) n n)).run Tryz.prog w = .ok (.string (strOfNums ((List.range n).map f))) w :=
  run_convert_bytes_arg w src e hs he b 0 n n ((List.range n).map f) (by simp) (fun i hi => by rw [Nat.zero_add, h.cell i hi]; simp [hi]) dst hd

/-- The lowest byte of a word. -/
def W8 (x : BitVec 64) : Int := ((x.toNat % 256 : Nat) : Int)
@[go_sem] theorem wrap_W8 (x : BitVec 64) : IntKind.u8.wrap (U x) = W8 x := by
  rw [IntKind.wrap_u8']; unfold U W8; omega
@[go_sem] theorem xor_top (x : BitVec 64) : bits .xor .u64 (U x) 9223372036854775808 = U (x ^^^ Spo.top) := by
  have h : U Spo.top = 9223372036854775808 := by decide +kernel
  rw [← h]; exact xor_U _ _
theorem U_b6 : U (Spo.b64 6) = 6 := by decide +kernel

/-- A sponge that is kept, and the copy of its state. -/
structure SmAt (w w' : World) (b1 : Nat) (S : Kec.St) : Prop where
  s : IsSt w' b1 S
  k : Below w.heap.size w w'
theorem SmAt.drew {w w' : World} {b1 : Nat} {S : Kec.St} (h : SmAt w w' b1 S) : SmAt w w'.drew b1 S := ⟨h.s, h.k.drew⟩
theorem SmAt.put_ {w w' : World} {b1 : Nat} {S : Kec.St} (h : SmAt w w' b1 S) (hb : w.heap.size ≤ b1) (i : Nat) (x : BitVec 64) : SmAt w (w'.setCell ⟨b1, i, none⟩ (.int .u64 (U x))) b1 (Spo.upd S i x) :=
  ⟨h.s.set_ i x, h.k.setCell (p := ⟨b1, i, none⟩) (by simpa using hb) _⟩
theorem SmAt.below {w w' w'' : World} {b1 : Nat} {S : Kec.St} (h : SmAt w w' b1 S) (hb : Below w'.heap.size w' w'') : SmAt w w'' b1 S :=
  ⟨World.rowIs.of_block h.s (hb.block _ (World.rowIs.lt h.s)), h.k.trans (hb.mono h.k.size)⟩
theorem SmAt.setRow {w w' : World} {b1 : Nat} {S : Kec.St} (h : SmAt w w' b1 S) (hb : w.heap.size ≤ b1) (T : Kec.St) : SmAt w (w'.setRow b1 (arr T)) b1 T :=
  ⟨.of_row (setRow_heap _ b1 _ _ _ _ h.s.row), h.k.trans ⟨rfl, rfl, rfl, by simp, fun k hk => setRow_other _ _ _ _ (by omega)⟩⟩
structure Sm2 (w w' : World) (b1 b2 : Nat) (P : Kec.St) (f : Nat → Int) : Prop where
  s : IsSt w' b1 P
  q : IsBy w' b2 140 32 f
  k : Below w.heap.size w w'
theorem Sm2.drew {w w' : World} {b1 b2 : Nat} {P : Kec.St} {f : Nat → Int} (h : Sm2 w w' b1 b2 P f) : Sm2 w w'.drew b1 b2 P f := ⟨h.s, h.q, h.k.drew⟩
theorem Sm2.put_ {w w' : World} {b1 b2 : Nat} {P : Kec.St} {f : Nat → Int} (h : Sm2 w w' b1 b2 P f) (hb : w.heap.size ≤ b1) (h12 : b1 < b2) (i : Nat) (x : Int) : Sm2 w (w'.setCell ⟨b2, i, none⟩ (.int .u8 x)) b1 b2 P (fun j => if j = i then x else f j) :=
  ⟨World.rowIs.setOther h.s (a := ⟨b2, i, none⟩) (by simp; omega) _, h.q.set_ i x, h.k.setCell (p := ⟨b2, i, none⟩) (by simp; omega) _⟩
def byt (P : Kec.St) (i : Nat) : Int := W8 (P (i / 8) >>> (8 * (i % 8)))
def mixB (P : Kec.St) (k : Nat) : Nat → Int := fun i => if i < k then byt P i else 0
theorem str_sq (P : Kec.St) : strOfNums ((List.range 32).map (mixB P 32)) = ⟨(Spo.sq P).toArray⟩ := by
  unfold strOfNums Spo.sq
  rw [List.map_map]
  congr 2

set_option maxHeartbeats 4000000 in
set_option maxRecDepth 100000 in
theorem spSum_any (S : Kec.St) (n b : Nat) (w : World) (hC : Consts w) (hS : IsSp w b S n) (hn : n ≤ 4611686018427387904) :
    Calls Tryz.prog 106 #[.pointer (some ⟨b, 0, none⟩)] w fun e w' => e = .returned (.string ⟨(Spo.sq (Spo.fin (S, n % 136))).toArray⟩) ∧ Below w.heap.size w w' := by
  have hk : n % 136 < 136 := Nat.mod_lt _ (by decide)
  have cn := hS.count
  generalize hkk : n % 136 = k at *
  have HKK := Lib.hid hkk
  clear hkk
  go_enter Tryz.func106, Tryz.ntmps106
  go_upto_region 1 with (fail)
  have hb := World.rowIs.lt hS
  go_upto_region 2 with (first | (refine wpList_load_mid rfl 115 _ rfl b 0 rfl (cells S) _ hS.range Tryz.underlying115 rfl (by rw [cells_len]; exact info26) ?_) | (refine wpList_store_row rfl 115 _ _ rfl w.heap.size (arr S) rfl rfl 115 #[Value.int .u64 0, Value.int .u64 0, Value.int .u64 0, Value.int .u64 0, Value.int .u64 0, Value.int .u64 0, Value.int .u64 0, Value.int .u64 0, Value.int .u64 0, Value.int .u64 0, Value.int .u64 0, Value.int .u64 0, Value.int .u64 0, Value.int .u64 0, Value.int .u64 0, Value.int .u64 0, Value.int .u64 0, Value.int .u64 0, Value.int .u64 0, Value.int .u64 0, Value.int .u64 0, Value.int .u64 0, Value.int .u64 0, Value.int .u64 0, Value.int .u64 0] (heap_alloc_new w _) (by rw [arr_size]; exact info26) (by rw [arr_size]; rfl) (arr_one _) ?_))
  have H : SmAt w ((w.alloc (.cells #[Value.int .u64 0, Value.int .u64 0, Value.int .u64 0, Value.int .u64 0, Value.int .u64 0, Value.int .u64 0, Value.int .u64 0, Value.int .u64 0, Value.int .u64 0, Value.int .u64 0, Value.int .u64 0, Value.int .u64 0, Value.int .u64 0, Value.int .u64 0, Value.int .u64 0, Value.int .u64 0, Value.int .u64 0, Value.int .u64 0, Value.int .u64 0, Value.int .u64 0, Value.int .u64 0, Value.int .u64 0, Value.int .u64 0, Value.int .u64 0, Value.int .u64 0] 115)).setRow w.heap.size (arr S)) w.heap.size S := by
    rw [← arr_Z]
    have H0 : SmAt w (w.alloc (.cells (arr Z) 115)) w.heap.size Z := ⟨.of_row (heap_alloc_new w _), (Below.refl _ _).alloc (Nat.le_refl _) _⟩
    exact H0.setRow (Nat.le_refl _) S
  obtain ⟨b1, hb1⟩ : ∃ b, b = w.heap.size := ⟨_, rfl⟩
  rw [← hb1] at H
  rw [← hb1]
  refine wp_gen (fun w' => SmAt w w' b1 S) H ?_
  clear H
  intro w1 H
  have h1 : w.heap.size ≤ b1 := by omega
  clear hb1
  have c25 : w1.cell? ⟨b, 25, none⟩ = some (.int .i64 n) := (H.k.cell (p := ⟨b, 25, none⟩) hb).trans cn
  clear cn
  have e1 : (n : Int) % 136 = (k : Int) := by have := HKK.out; omega
  go_upto_region 3 with (fail)
  clear c25 e1
  obtain ⟨q, hq⟩ : ∃ q, q = k / 8 := ⟨_, rfl⟩
  obtain ⟨r, hr⟩ : ∃ r, r = k % 8 := ⟨_, rfl⟩
  have hq25 : q < 25 := by omega
  have hr8 : r < 8 := by omega
  refine region_tail 10 (fun w' => SmAt w w' b1 S) (by kernel_rfl) (by kernel_rfl) H.drew ?_
  clear H
  intro w2 H
  have c := H.s.cell q hq25
  have f := H.s.frozen q
  have i3 : ((n : Int) % 136).tdiv 8 = (q : Int) := by have := HKK.out; rw [Int.tdiv_eq_ediv_of_nonneg (by omega)]; omega
  have i6 : ((n : Int) % 136).tmod 8 = (r : Int) := by have := HKK.out; rw [Int.tmod_eq_emod_of_nonneg (by omega)]; omega
  have i2 : (q : Int) < 25 := by omega
  have i4 : IntKind.i64.wrap (q : Int) = (q : Int) := IntWalk.i64_in _ (by omega)
  have i5 : 0 ≤ (q : Int) := by omega
  have i7 : IntKind.i64.wrap (r : Int) = (r : Int) := IntWalk.i64_in _ (by omega)
  have i8 : IntKind.i64.wrap (8 * (r : Int)) = 8 * (r : Int) := IntWalk.i64_in _ (by omega)
  have i9 : 0 ≤ 8 * (r : Int) := by omega
  have i10 : 8 * (r : Int) ≤ 64 := by omega
  have j1 : (8 * (r : Int)).toNat = 8 * r := by omega
  have j2 : min (8 * r) 64 = 8 * r := by omega
  have j4 : IntKind.u64.wrap (6 * 2 ^ (8 * r)) = U (Spo.b64 6 <<< (8 * r)) := by have := shl_U (Spo.b64 6) (8 * r); rwa [U_b6] at this
  have HQ := Lib.hid hq
  have HR := Lib.hid hr
  clear hq hr
  simp only [List.take_succ_cons, List.take_zero, List.drop_succ_cons, List.drop_zero]
  repeat still_step
  refine wpStill_nil ?_
  clear i2 i3 i4 i5 i6 i7 i8 i9 i10 j1 j2 j4
  go_upto_region 4 with (fail)
  clear c f
  refine wp_gen (fun w' => SmAt w w' b1 (Spo.put S k 6)) (by have := H.put_ h1 q (S q ^^^ Spo.b64 6 <<< (8 * r)); unfold Spo.put; rw [← HQ.out, ← HR.out]; exact this) ?_
  clear H HQ HR hq25 hr8 hk
  intro w3 H
  have c := H.s.cell 16 (by decide)
  have f := H.s.frozen 16
  go_upto_region 5 with (fail)
  clear c f
  refine wp_gen (fun w' => SmAt w w' b1 (Spo.upd (Spo.put S k 6) 16 (Spo.put S k 6 16 ^^^ Spo.top))) (H.put_ h1 16 _) ?_
  clear H
  intro w4 H
  have hP : Kec.perm (Spo.upd (Spo.put S k 6) 16 (Spo.put S k 6 16 ^^^ Spo.top)) = Spo.fin (S, k) := rfl
  generalize Spo.upd (Spo.put S k 6) 16 (Spo.put S k 6 16 ^^^ Spo.top) = T at *
  have HP := Lib.hid hP
  clear hP
  have hC4 := hC.below H.k
  go_wp2_with (refine wpList_load_row rfl 115 _ rfl b1 rfl 115 _ (0, 0) _ H.s.row Tryz.underlying115 rfl (by rw [arr_size]; exact info26) ?_)
  refine (permute_any T _ hC4).mono ?_
  rintro e w5 ⟨rfl, hb5⟩
  replace H := H.below hb5
  clear hb5 hC4
  go_upto_region 6 with (refine wpList_store_row rfl 115 _ _ rfl b1 (arr (Kec.perm T)) rfl rfl 115 _ H.s.row (by rw [arr_size]; exact info26) (by rw [arr_size, arr_size]) (arr_one _) ?_)
  have H6 := H.setRow h1 (Kec.perm T)
  refine wp_gen (fun w' => SmAt w w' b1 (Kec.perm T)) H6 ?_
  clear H H6
  intro w6 H
  generalize Kec.perm T = P at *
  clear HKK
  obtain ⟨b2, hb2⟩ : ∃ b, b = w6.heap.size := ⟨_, rfl⟩
  have h12 : b1 < b2 := by rw [hb2]; exact World.rowIs.lt H.s
  have H7 : Sm2 w (w6.alloc (.cells #[Value.int .u8 0, Value.int .u8 0, Value.int .u8 0, Value.int .u8 0, Value.int .u8 0, Value.int .u8 0, Value.int .u8 0, Value.int .u8 0, Value.int .u8 0, Value.int .u8 0, Value.int .u8 0, Value.int .u8 0, Value.int .u8 0, Value.int .u8 0, Value.int .u8 0, Value.int .u8 0, Value.int .u8 0, Value.int .u8 0, Value.int .u8 0, Value.int .u8 0, Value.int .u8 0, Value.int .u8 0, Value.int .u8 0, Value.int .u8 0, Value.int .u8 0, Value.int .u8 0, Value.int .u8 0, Value.int .u8 0, Value.int .u8 0, Value.int .u8 0, Value.int .u8 0, Value.int .u8 0] 140)) b1 b2 P (mixB P 0) := by
    refine ⟨World.rowIs.alloc H.s _, ?_, H.k.alloc H.k.size _⟩
    rw [hb2]
    exact World.rowIs_alloc w6 #[Value.int .u8 0, Value.int .u8 0, Value.int .u8 0, Value.int .u8 0, Value.int .u8 0, Value.int .u8 0, Value.int .u8 0, Value.int .u8 0, Value.int .u8 0, Value.int .u8 0, Value.int .u8 0, Value.int .u8 0, Value.int .u8 0, Value.int .u8 0, Value.int .u8 0, Value.int .u8 0, Value.int .u8 0, Value.int .u8 0, Value.int .u8 0, Value.int .u8 0, Value.int .u8 0, Value.int .u8 0, Value.int .u8 0, Value.int .u8 0, Value.int .u8 0, Value.int .u8 0, Value.int .u8 0, Value.int .u8 0, Value.int .u8 0, Value.int .u8 0, Value.int .u8 0, Value.int .u8 0] 140 _ (fun i hi => by
      have hi32 : i < 32 := hi
      have : (mixB P 0 i) = 0 := by unfold mixB; rw [if_neg (by omega)]
      rw [this]
      rw [show (#[Value.int .u8 0, Value.int .u8 0, Value.int .u8 0, Value.int .u8 0, Value.int .u8 0, Value.int .u8 0, Value.int .u8 0, Value.int .u8 0, Value.int .u8 0, Value.int .u8 0, Value.int .u8 0, Value.int .u8 0, Value.int .u8 0, Value.int .u8 0, Value.int .u8 0, Value.int .u8 0, Value.int .u8 0, Value.int .u8 0, Value.int .u8 0, Value.int .u8 0, Value.int .u8 0, Value.int .u8 0, Value.int .u8 0, Value.int .u8 0, Value.int .u8 0, Value.int .u8 0, Value.int .u8 0, Value.int .u8 0, Value.int .u8 0, Value.int .u8 0, Value.int .u8 0, Value.int .u8 0] : Array Value) = (List.replicate 32 (Value.int .u8 0)).toArray from rfl]
      rw [List.getElem?_toArray, List.getElem?_replicate, if_pos hi32])
  go_upto_region 7 with (fail)
  rw [← hb2]
  refine wp_gen (fun w' => Sm2 w w' b1 b2 P (mixB P 0)) H7 ?_
  clear H H7 hb2
  intro w7 H
  go_wp2_with fail
  go_loopw [32] (fun v wr => ∃ k : Nat, k ≤ 32 ∧ v = .int .i64 k ∧ Sm2 w wr b1 b2 P (mixB P k)) (fun v _ => 32 - (intOf v).toNat)
  case atStart => exact ⟨0, by omega, rfl, H⟩
  case round =>
    clear H
    obtain ⟨k, hk, rfl, H⟩ := hrel
    by_cases hlt : k < 32
    · obtain ⟨q, hq⟩ : ∃ q, q = k / 8 := ⟨_, rfl⟩
      obtain ⟨r, hr⟩ : ∃ r, r = k % 8 := ⟨_, rfl⟩
      have hq25 : q < 25 := by omega
      have hr8 : r < 8 := by omega
      have c := H.s.cell q hq25
      have d := H.q.cell k hlt
      have f := H.q.frozen k
      have i1 : (k : Int) / 8 = (q : Int) := by omega
      have i2 : (k : Int) % 8 = (r : Int) := by omega
      have i3 : (q : Int) < 25 := by omega
      have i9 : 0 ≤ 8 * (r : Int) := by omega
      have i10 : 8 * (r : Int) ≤ 64 := by omega
      have j1 : (8 * (r : Int)).toNat = 8 * r := by omega
      have j2 : min (8 * r) 64 = 8 * r := by omega
      have j4 := shr_U (P q) (8 * r)
      have HQ := Lib.hid hq
      have HR := Lib.hid hr
      clear hq hr
      go_upto_region 11 with (fail)
      clear c d f i1 i2 i3 i9 i10 j1 j2 j4
      have hv : W8 (P q >>> (8 * r)) = byt P k := by unfold byt; rw [← HQ.out, ← HR.out]
      refine wp_gen (fun w' => Sm2 w w' b1 b2 P (mixB P (k + 1))) ?_ ?_
      · have h5 := H.put_ h1 h12 k (W8 (P q >>> (8 * r)))
        refine ⟨h5.s, h5.q.congr fun i _ => ?_, h5.k⟩
        rw [hv]
        unfold mixB
        by_cases hi : i = k
        · rw [if_pos hi, if_pos (by omega), hi]
        · rw [if_neg hi]
          by_cases hj : i < k
          · rw [if_pos hj, if_pos (by omega)]
          · rw [if_neg hj, if_neg (by omega)]
      · clear H hv
        intro w8 H
        go_wp2_with fail
        go_roundw
        case rel => exact ⟨k + 1, by omega, by go_num, H⟩
        case measure => simp [intOf]; omega
    · obtain rfl : k = 32 := by omega
      have hcv := H.q.str 96 5 9 Tryz.underlying96 Tryz.underlying5 Tryz.underlying9
      rw [str_sq] at hcv
      go_wp2_with fail
      go_ret
      exact ⟨by rw [HP.out]; rfl, H.k⟩

theorem below_of_grown {a w' : World} {b B : Nat} (hg : a.grownBy w' (some b)) (hB : B ≤ b) (hs : B ≤ a.heap.size) : Below B a w' :=
  ⟨hg.os, hg.tape, hg.output, hg.size, fun k hk => hg.block k (by omega) (by simp; omega)⟩

/-- The digest of a string, as a string. -/
def digS (s : ByteArray) : ByteArray := ⟨(Spo.dig s.data.toList).toArray⟩
theorem spo_zero : Spo.zero = Z := rfl
theorem IsSp.new (w : World) : IsSp (w.alloc (.cells #[Value.int .u64 0, Value.int .u64 0, Value.int .u64 0, Value.int .u64 0, Value.int .u64 0, Value.int .u64 0, Value.int .u64 0, Value.int .u64 0, Value.int .u64 0, Value.int .u64 0, Value.int .u64 0, Value.int .u64 0, Value.int .u64 0, Value.int .u64 0, Value.int .u64 0, Value.int .u64 0, Value.int .u64 0, Value.int .u64 0, Value.int .u64 0, Value.int .u64 0, Value.int .u64 0, Value.int .u64 0, Value.int .u64 0, Value.int .u64 0, Value.int .u64 0, Value.int .i64 0] 117)) w.heap.size Z 0 := by
  have h := World.rowIs_alloc w #[Value.int .u64 0, Value.int .u64 0, Value.int .u64 0, Value.int .u64 0, Value.int .u64 0, Value.int .u64 0, Value.int .u64 0, Value.int .u64 0, Value.int .u64 0, Value.int .u64 0, Value.int .u64 0, Value.int .u64 0, Value.int .u64 0, Value.int .u64 0, Value.int .u64 0, Value.int .u64 0, Value.int .u64 0, Value.int .u64 0, Value.int .u64 0, Value.int .u64 0, Value.int .u64 0, Value.int .u64 0, Value.int .u64 0, Value.int .u64 0, Value.int .u64 0, Value.int .i64 0] 117 (fun i => if i < 25 then .int .u64 (U (Z i)) else .int .i64 (0 : Nat)) (fun i hi => by
    have hi26 : i < 26 := hi
    have hc : i = 0 ∨ i = 1 ∨ i = 2 ∨ i = 3 ∨ i = 4 ∨ i = 5 ∨ i = 6 ∨ i = 7 ∨ i = 8 ∨ i = 9 ∨ i = 10 ∨ i = 11 ∨ i = 12 ∨ i = 13 ∨ i = 14 ∨ i = 15 ∨ i = 16 ∨ i = 17 ∨ i = 18 ∨ i = 19 ∨ i = 20 ∨ i = 21 ∨ i = 22 ∨ i = 23 ∨ i = 24 ∨ i = 25 := by omega
    rcases hc with rfl | rfl | rfl | rfl | rfl | rfl | rfl | rfl | rfl | rfl | rfl | rfl | rfl | rfl | rfl | rfl | rfl | rfl | rfl | rfl | rfl | rfl | rfl | rfl | rfl | rfl <;> rfl)
  exact h

set_option maxHeartbeats 1000000 in
set_option maxRecDepth 100000 in
theorem sum_any (s : ByteArray) (w : World) (hC : Consts w) (hn : s.size ≤ 4611686018427387904) :
    Calls Tryz.prog 86 #[.string s] w fun e w' => e = .returned (.string (digS s)) ∧ Below w.heap.size w w' := by
  have hsp := IsSp.new w
  have hb : Below w.heap.size w (w.alloc (.cells #[Value.int .u64 0, Value.int .u64 0, Value.int .u64 0, Value.int .u64 0, Value.int .u64 0, Value.int .u64 0, Value.int .u64 0, Value.int .u64 0, Value.int .u64 0, Value.int .u64 0, Value.int .u64 0, Value.int .u64 0, Value.int .u64 0, Value.int .u64 0, Value.int .u64 0, Value.int .u64 0, Value.int .u64 0, Value.int .u64 0, Value.int .u64 0, Value.int .u64 0, Value.int .u64 0, Value.int .u64 0, Value.int .u64 0, Value.int .u64 0, Value.int .u64 0, Value.int .i64 0] 117)) := (Below.refl _ _).alloc (Nat.le_refl _) _
  have hpos := hC.1
  go_enter Tryz.func86, Tryz.ntmps86
  go_wp2_with fail
  refine (take_any Z 0 w.heap.size s _ (hC.below hb) hpos hsp (by omega)).mono ?_
  rintro e w2 ⟨rfl, hat⟩
  go_wp2_with fail
  refine (spSum_any _ _ _ _ ((hC.below hb).grown hpos hat.g) hat.s (by omega)).mono ?_
  rintro e w3 ⟨rfl, hb3⟩
  go_wp2_with fail
  go_ret
  refine ⟨?_, ?_⟩
  · have h := Spo.ab_at s.data.toList (Spo.zero, 0) (by decide)
    have hl : s.data.toList.length = s.size := rfl
    unfold digS Spo.dig
    rw [show s.size % 136 = (Spo.ab (Spo.zero, 0) s.data.toList).2 from by rw [h, hl]; simp]
    rfl
  · exact hb.trans ((below_of_grown hat.g (Nat.le_refl _) (by simp)).trans (hb3.mono (by have := hat.g.size; simp at this; omega)))
end Go.Proofs.YtinkpbobkeppiaaGreatDoor.Dg
end
section
namespace Go.Proofs.YtinkpbobkeppiaaGreatDoor.Dg
open Go.RowKit

set_option maxHeartbeats 1000000 in
set_option maxRecDepth 100000 in
theorem new_any (w : World) :
    Calls Tryz.prog 123 #[] w fun e w' => e = .returned (.pointer (some ⟨w.heap.size, 0, none⟩)) ∧ IsSp w' w.heap.size Z 0 ∧ Below w.heap.size w w' := by
  have h := IsSp.new w
  go_enter Tryz.func123, Tryz.ntmps123
  go_wp2_with fail
  go_ret
  exact ⟨rfl, h, (Below.refl _ _).alloc (Nat.le_refl _) _⟩

/-- The bytes of strings, one behind the other. -/
def cat (ss : List ByteArray) : List UInt8 := ss.flatMap (·.data.toList)
/-- The slice value's cells are these strings, apart from block b. -/
def StrsAt (w : World) (b : Nat) (A : Option Addr) (ss : List ByteArray) : Prop := ∀ i (h : i < ss.length), ∃ g o, A = some ⟨g, o, none⟩ ∧ g ≠ b ∧ g < w.heap.size ∧ w.cell? ⟨g, o + i, none⟩ = some (.string ss[i])
theorem StrsAt.grown {w w' : World} {b : Nat} {A : Option Addr} {ss : List ByteArray} (h : StrsAt w b A ss) (hg : w.grownBy w' (some b)) : StrsAt w' b A ss := fun i hi => by
  obtain ⟨g, o, e, hne, hlt, hc⟩ := h i hi
  exact ⟨g, o, e, hne, Nat.lt_of_lt_of_le hlt hg.size, (World.cell?_of_block (w := w) (hg.block g hlt (by simp; exact hne))).trans hc⟩
theorem SpAt.go {w w' w'' : World} {b n m : Nat} {S T : Kec.St} (h : SpAt w w' b S n) (k : SpAt w' w'' b T m) : SpAt w w'' b T m :=
  ⟨k.s, ⟨k.g.os.trans h.g.os, k.g.tape.trans h.g.tape, k.g.output.trans h.g.output, Nat.le_trans h.g.size k.g.size, fun i hi hne => (k.g.block i (Nat.lt_of_lt_of_le hi h.g.size) hne).trans (h.g.block i hi hne)⟩⟩
theorem cat_snoc (ss : List ByteArray) (k : Nat) (h : k < ss.length) : cat (ss.take (k + 1)) = cat (ss.take k) ++ ss[k].data.toList := by
  rw [List.take_succ_eq_append_getElem h]; unfold cat; rw [List.flatMap_append]; simp
theorem cat_le (ss : List ByteArray) (k : Nat) : (cat (ss.take k)).length ≤ (cat ss).length := by
  have h : ss = ss.take k ++ ss.drop k := (List.take_append_drop k ss).symm
  have e : cat ss = cat (ss.take k) ++ cat (ss.drop k) := by
    conv => lhs; rw [h]
    unfold cat; rw [List.flatMap_append]
  rw [e, List.length_append]; omega

set_option maxHeartbeats 2000000 in
set_option maxRecDepth 100000 in
theorem write_any (S : Kec.St) (n b : Nat) (A : Option Addr) (c : Nat) (ss : List ByteArray) (w : World) (hC : Consts w) (hb : 1 < b) (hS : IsSp w b S n) (hA : StrsAt w b A ss) (hl : ss.length ≤ 4611686018427387904) (hn : n + (cat ss).length ≤ 4611686018427387904) :
    Calls Tryz.prog 124 #[.pointer (some ⟨b, 0, none⟩), .slice A ss.length c] w fun e w' => e = .returned (.int .i64 ((n + (cat ss).length : Nat) : Int)) ∧ SpAt w w' b (Spo.ab (S, n % 136) (cat ss)).1 (n + (cat ss).length) := by
  have H : SpAt w w b S n := ⟨hS, ⟨rfl, rfl, rfl, Nat.le_refl _, fun _ _ _ => rfl⟩⟩
  clear hS
  go_enter Tryz.func124, Tryz.ntmps124
  go_wp2_with fail
  go_loopw [9] (fun v wr => ∃ k : Nat, k ≤ ss.length ∧ v = .int .i64 k ∧ SpAt w wr b (Spo.ab (S, n % 136) (cat (ss.take k))).1 (n + (cat (ss.take k)).length)) (fun v _ => ss.length - (intOf v).toNat)
  case atStart => exact ⟨0, by omega, rfl, H⟩
  case round =>
    clear H
    obtain ⟨k, hk, rfl, H⟩ := hrel
    by_cases hlt : k < ss.length
    · have hA' := hA.grown H.g
      obtain ⟨g, o, rfl, hne, hg, hc⟩ := hA' k hlt
      clear hA'
      have hlek := cat_le ss (k + 1)
      rw [cat_snoc ss k hlt, List.length_append] at hlek
      have hsz : ss[k].data.toList.length = ss[k].size := rfl
      have hat := Spo.ab_at (cat (ss.take k)) (S, n % 136) (Nat.mod_lt _ (by decide))
      have hCr := hC.grown hb H.g
      have htk := take_any (Spo.ab (S, n % 136) (cat (ss.take k))).1 (n + (cat (ss.take k)).length) b ss[k] wr hCr hb H.s (by omega)
      rw [show (n + (cat (ss.take k)).length) % 136 = (Spo.ab (S, n % 136) (cat (ss.take k))).2 from by rw [hat]; simp] at htk
      rw [show ((Spo.ab (S, n % 136) (cat (ss.take k))).1, (Spo.ab (S, n % 136) (cat (ss.take k))).2) = Spo.ab (S, n % 136) (cat (ss.take k)) from rfl, ← Spo.ab_append, ← cat_snoc ss k hlt] at htk
      rw [show n + (cat (ss.take k)).length + ss[k].size = n + (cat (ss.take (k + 1))).length from by rw [cat_snoc ss k hlt, List.length_append]; omega] at htk
      have HTK := Lib.hid htk
      clear htk hat hsz hlek hCr
      go_wp2_with fail
      refine HTK.out.mono ?_
      rintro e w2 ⟨rfl, hsp⟩
      go_wp2_with fail
      clear hc HTK
      have H2 := H.go hsp
      go_roundw
      case rel => exact ⟨k + 1, by omega, by go_num, H2⟩
      case measure => simp [intOf]; omega
    · have hkk : k = ss.length := by omega
      rw [hkk, List.take_length] at H
      have HK := Lib.hid hkk
      clear hkk
      have c25 := H.s.count
      go_wp2_with fail
      go_ret
      exact ⟨rfl, H⟩
end Go.Proofs.YtinkpbobkeppiaaGreatDoor.Dg
end
section
namespace Go.Proofs.YtinkpbobkeppiaaGreatDoor.Dg
open Go.RowKit

/-- Block b holds a sponge that has taken in these bytes. -/
def Holds (w : World) (b : Nat) (l : List UInt8) : Prop := IsSp w b (Spo.ab (Z, 0) l).1 l.length
/-- The digest of bytes, as a string. -/
def digL (l : List UInt8) : ByteArray := ⟨(Spo.dig l).toArray⟩
theorem ab_snd (l : List UInt8) : (Spo.ab (Z, 0) l).2 = l.length % 136 := by
  rw [Spo.ab_at l (Z, 0) (by show 0 < 136; decide)]; simp
theorem sp_dig (l : List UInt8) : Spo.sq (Spo.fin ((Spo.ab (Z, 0) l).1, l.length % 136)) = Spo.dig l := by
  rw [← ab_snd]; rfl
theorem holds_sum (l : List UInt8) (b : Nat) (w : World) (hC : Consts w) (h : Holds w b l) (hl : l.length ≤ 4611686018427387904) :
    Calls Tryz.prog 106 #[.pointer (some ⟨b, 0, none⟩)] w fun e w' => e = .returned (.string (digL l)) ∧ Below w.heap.size w w' :=
  (spSum_any _ _ _ w hC h hl).mono fun _ _ k => ⟨by rw [k.1, sp_dig]; rfl, k.2⟩
theorem holds_new (w : World) : Calls Tryz.prog 123 #[] w fun e w' => e = .returned (.pointer (some ⟨w.heap.size, 0, none⟩)) ∧ Holds w' w.heap.size [] ∧ Below w.heap.size w w' := new_any w
theorem holds_write (l : List UInt8) (b : Nat) (A : Option Addr) (c : Nat) (ss : List ByteArray) (w : World) (hC : Consts w) (hb : 1 < b) (h : Holds w b l) (hA : StrsAt w b A ss) (hl : ss.length ≤ 4611686018427387904) (hn : l.length + (cat ss).length ≤ 4611686018427387904) :
    Calls Tryz.prog 124 #[.pointer (some ⟨b, 0, none⟩), .slice A ss.length c] w fun e w' => e = .returned (.int .i64 ((l.length + (cat ss).length : Nat) : Int)) ∧ Holds w' b (l ++ cat ss) ∧ w.grownBy w' (some b) :=
  (write_any _ _ b A c ss w hC hb h hA hl hn).mono fun _ _ k => ⟨k.1, by
    have h1 := k.2.s
    rw [← ab_snd, show ((Spo.ab (Z, 0) l).1, (Spo.ab (Z, 0) l).2) = Spo.ab (Z, 0) l from rfl, ← Spo.ab_append] at h1
    unfold Holds
    rw [List.length_append]
    exact h1, k.2.g⟩
theorem Holds.below {w w' : World} {b : Nat} {l : List UInt8} (h : Holds w b l) (hb : Below w.heap.size w w') : Holds w' b l := World.rowIs.of_block h (hb.block _ (World.rowIs.lt h))
theorem Holds.far {w w' : World} {b c : Nat} {l : List UInt8} (h : Holds w b l) (hg : w.grownBy w' (some c)) (hne : b ≠ c) : Holds w' b l := World.rowIs.of_block h (hg.block b (World.rowIs.lt h) (by simp; exact hne))
theorem strs_new (w : World) (b : Nat) (ss : List ByteArray) (hb : b < w.heap.size) : StrsAt (w.alloc (.cells (ss.map Value.string).toArray 9)) b (some ⟨w.heap.size, 0, none⟩) ss := by
  intro i hi
  refine ⟨w.heap.size, 0, rfl, by omega, by simp, ?_⟩
  rw [cell_of_row _ _ _ _ _ _ (heap_alloc_new w _)]
  simp [hi]
theorem digS_L (s : ByteArray) (l : List UInt8) (h : s.data.toList = l) : digS s = digL l := by subst h; rfl
theorem app_list (a b : ByteArray) : (a ++ b).data.toList = a.data.toList ++ b.data.toList := by simp
end Go.Proofs.YtinkpbobkeppiaaGreatDoor.Dg
end
