/- The law DigestBlocks returns true. Condition: the round constants lie in their variable. -/
import Derived.Test.YtkcpncgngblooaaDoorRefSum
import Derived.Test.YtkcpncgngblooaaDoorAwake
namespace Go.Proofs.YtkcpncgngblooaaDoor
open Go.RowKit

theorem digS_size (s : ByteArray) : (digS s).size = 32 := by
  show (Spo.dig s.data.toList).toArray.size = 32
  unfold Spo.dig Spo.sq; simp
theorem sq_at (Q : Kec.St) (i : Nat) (h : i < 32) : (((Spo.sq Q).getD i 0).toNat : Int) = byt Q i := by
  unfold Spo.sq byt W8
  rw [List.getD_eq_getElem?_getD, List.getElem?_map, List.getElem?_range h]
  simp only [Option.map_some, Option.getD_some]
  have : (Q (i / 8) >>> (8 * (i % 8))).toNat % 256 < 256 := Nat.mod_lt _ (by decide)
  rw [UInt8.toNat_ofNat']
  omega
theorem ab_step (P : List UInt8) (i : Nat) (h : i < P.length) :
    (Spo.ab (Spo.zero, 0) (P.take (i + 1))).1 = if i % 136 = 135 then Kec.perm (Spo.put (Spo.ab (Spo.zero, 0) (P.take i)).1 (i % 136) (P.getD i 0)) else Spo.put (Spo.ab (Spo.zero, 0) (P.take i)).1 (i % 136) (P.getD i 0) := by
  have h2 : (Spo.ab (Spo.zero, 0) (P.take i)).2 = i % 136 := by
    rw [Spo.ab_at _ _ (by show 0 < 136; decide)]
    simp only [List.length_take]
    show (0 + min i P.length) % 136 = i % 136
    rw [Nat.min_eq_left (by omega), Nat.zero_add]
  rw [List.take_succ_eq_append_getElem h, Spo.ab_append]
  generalize Spo.ab (Spo.zero, 0) (P.take i) = p at *
  obtain ⟨S, k⟩ := p
  obtain rfl : k = i % 136 := h2
  have hg : P.getD i 0 = P[i] := by rw [List.getD_eq_getElem?_getD, List.getElem?_eq_getElem h]; rfl
  rw [hg]
  unfold Spo.ab
  simp only [List.foldl_cons, List.foldl_nil]
  unfold Spo.ab1
  by_cases hc : i % 136 = 135
  · rw [if_pos (by show i % 136 + 1 = 136; omega), if_pos hc]
  · rw [if_neg (by show ¬ i % 136 + 1 = 136; omega), if_neg hc]

theorem RsAt.drewN {w w' : World} {g cap b : Nat} {l : List UInt8} {S : Kec.St} (h : RsAt w w' g cap b l S) (n : Nat) : RsAt w (w'.drewN n) g cap b l S := ⟨h.s, h.p.of_block rfl, below_drewN h.k n⟩

set_option maxHeartbeats 8000000 in
set_option maxRecDepth 100000 in
theorem blocks_short (s : ByteArray) (w : World) (hC : Consts w) (hn : s.size ≤ 500) :
    Calls Tryd.prog 9 #[.string s] w fun e w' => e = .returned (.bool true) ∧ Below w.heap.size w w' := by
  have d : decide ((500 : Int) < s.size) = false := by simp; omega
  obtain ⟨i0, hi0, hz0, hz1, hz2⟩ := info_parts info8'
  have hcv := fun w' => run_bytes_of_string (P := Tryd.prog) w' 9 42 5 s Tryd.underlying9 Tryd.underlying42 Tryd.underlying5
  go_enter Tryd.func9, Tryd.ntmps9
  go_wp2_with fail
  refine (awake_any _ hC).mono ?_
  rintro e w1 ⟨rfl, hb1⟩
  go_upto_region 5 with (fail)
  have H := BytAt.new w1 s (by unfold maxLen; omega)
  have H1 : BkAt w (w1.drew.alloc (.cells (bytesRow s (grownCap w1 s.size 0 5)) 5 ((bytesRow s (grownCap w1 s.size 0 5)).size, (bytesRow s (grownCap w1 s.size 0 5)).size + 1))) w1.heap.size (grownCap w1 s.size 0 5) s.data.toList := ⟨H, (hb1.drew).alloc hb1.size _, hb1.size⟩
  clear H
  go_upto_region 6 with (at_builtin; refine wpList_append_byt (by rfl) _ _ 42 (by rfl) Tryd.underlying42 i0 hi0 hz0 hz1 hz2 w1.heap.size _ s.size _ (by rfl) (by first | exact H1.p.alloc _ | exact (H1.p.alloc _).drew | exact H1.p.drew.alloc _) rfl (w1.heap.size + 1) 1 (by rfl) 6 (by simp) (by omega) ?_; intro g2 cap2 w2 hp2 hgr hor)
  have H2 := (H1.alloc (.cells #[Value.int .u8 6] 5)).grown hp2 hgr hor
  clear hp2 hgr hor H1 hcv hb1
  go_wp2_with fail
  go_loopw [3] (fun v wr => ∃ k g cap n : Nat, k ≤ Spo.zs s.size ∧ n = s.size + 1 + k ∧ v = .slice (some ⟨g, 0, none⟩) n cap ∧ BkAt w wr g cap (s.data.toList ++ 6 :: List.replicate k 0)) (fun v _ => s.size + 137 - lenV v)
  case atStart => exact ⟨0, g2, cap2, s.size + 1, by omega, by omega, rfl, H2⟩
  case round =>
    clear H2
    obtain ⟨k, g, cap, n, hk, hnk, rfl, H⟩ := hrel
    have HZ : Spo.zs s.size = 135 - s.size % 136 := rfl
    by_cases hlt : k < Spo.zs s.size
    · have ht : (((n : Int) % 136) != 0) = true := by rw [bne_iff_ne]; omega
      have hll : (s.data.toList ++ 6 :: List.replicate k 0).length = n := by rw [List.length_append, List.length_cons, List.length_replicate, show s.data.toList.length = s.size from rfl]; omega
      have HN := Lib.hid hnk
      have hn2 : n ≤ 2000000 := by omega
      have hkn : n < s.size + 137 := by omega
      clear HZ hnk
      go_wp2_with (at_builtin; refine wpList_append_byt (by rfl) _ _ 42 (by rfl) Tryd.underlying42 i0 hi0 hz0 hz1 hz2 g cap n _ (by rfl) (H.p.alloc _) hll wr.heap.size 1 (by rfl) 0 (cell_new _ _ _) (by omega) ?_; intro g2 cap2 w2 hp2 hgr hor)
      have H2 := (H.alloc (.cells #[Value.int .u8 0] 5)).grown hp2 hgr hor
      have e : s.data.toList ++ 6 :: List.replicate k 0 ++ [0] = s.data.toList ++ 6 :: List.replicate (k + 1) 0 := by rw [List.replicate_succ']; simp
      rw [e] at H2
      clear e hp2 hgr hor H hll
      go_roundw
      case rel => exact ⟨k + 1, g2, cap2, n + 1, by omega, by have := HN.out; omega, rfl, H2⟩
      case measure => simp [lenV]; omega
    · have hkz : k = Spo.zs s.size := by omega
      rw [hkz] at H
      have hpad : s.data.toList ++ 6 :: List.replicate (Spo.zs s.size) 0 = Spo.pad0 s.data.toList := rfl
      rw [hpad] at H
      obtain ⟨m, hm⟩ : ∃ m, n = m + 1 := ⟨n - 1, by omega⟩
      have hpl : (Spo.pad0 s.data.toList).length = m + 1 := by rw [Spo.pad0_len, show s.data.toList.length = s.size from rfl]; omega
      subst hm
      have ht : (((m : Int) + 1) % 136 != 0) = false := by rw [bne_eq_false_iff_eq]; omega
      have hm2 : m ≤ 2000000 := by omega
      have HPL := Lib.hid hpl
      clear hkz hpad HZ hnk hpl hlt hk
      have c := H.p.cell m (by rw [HPL.out]; omega)
      have f := H.p.frozen m (by rw [HPL.out]; omega)
      obtain ⟨x0, hx0⟩ : ∃ x0, x0 = (Spo.pad0 s.data.toList).getD m 0 := ⟨_, rfl⟩
      rw [← hx0] at c
      have HX := Lib.hid hx0
      clear hx0
      have ho := or_top' x0
      go_upto_region 9 with (fail)
      have H5 : BkAt w (wr.setCell ⟨g, m, none⟩ (.int .u8 ((x0 ||| 128).toNat : Int))) g cap (Spo.pad s.data.toList) := by
        refine ⟨?_, H.k.setCell (p := ⟨g, m, none⟩) (by simpa using H.b) _, H.b⟩
        have h := H.p.set m (x0 ||| 128)
        have e : (Spo.pad0 s.data.toList).set m (x0 ||| 128) = Spo.pad s.data.toList := by
          unfold Spo.pad Spo.setTop
          rw [HPL.out, Nat.add_sub_cancel, ← HX.out]
        rwa [e] at h
      refine wp_gen (fun w' => BkAt w w' g cap (Spo.pad s.data.toList)) H5 ?_
      clear H H5 ho c f HX
      intro w5 H
      have hpl : (Spo.pad s.data.toList).length = m + 1 := by unfold Spo.pad Spo.setTop; rw [List.length_set]; exact HPL.out
      have HPL2 := Lib.hid hpl
      clear hpl HPL
      have hD : digS s = ⟨(Spo.sq (Spo.ab (Spo.zero, 0) (Spo.pad s.data.toList)).1).toArray⟩ := by unfold digS; rw [Spo.dig_pad]
      have HD := Lib.hid hD
      clear hD
      generalize Spo.pad s.data.toList = P at *
      obtain ⟨b, hb⟩ : ∃ b, b = w5.heap.size := ⟨_, rfl⟩
      have hne : g ≠ b := by have := H.p.lt; omega
      have hwb : w.heap.size ≤ b := by have := H.k.size; omega
      have H6 : RsAt w (w5.alloc (.cells #[Value.int .u64 0, Value.int .u64 0, Value.int .u64 0, Value.int .u64 0, Value.int .u64 0, Value.int .u64 0, Value.int .u64 0, Value.int .u64 0, Value.int .u64 0, Value.int .u64 0, Value.int .u64 0, Value.int .u64 0, Value.int .u64 0, Value.int .u64 0, Value.int .u64 0, Value.int .u64 0, Value.int .u64 0, Value.int .u64 0, Value.int .u64 0, Value.int .u64 0, Value.int .u64 0, Value.int .u64 0, Value.int .u64 0, Value.int .u64 0, Value.int .u64 0] 26)) g cap b P Z := by
        rw [← arr_Z, hb]
        exact ⟨.of_row (heap_alloc_new w5 _), H.p.alloc _, H.k.alloc H.k.size _⟩
      go_upto_region 10 with (fail)
      rw [← hb]
      refine wp_gen (fun w' => RsAt w w' g cap b P Z) H6 ?_
      clear H H6 hb
      intro w6 H
      go_wp2_with fail
      obtain ⟨wo, rfl⟩ : ∃ wo : World, wo = wr := ⟨_, rfl⟩
      go_loopw [36] (fun v wr => ∃ i : Nat, i ≤ m + 1 ∧ v = .int .i64 i ∧ RsAt w wr g cap b P (Spo.ab (Spo.zero, 0) (P.take i)).1) (fun v _ => m + 1 - (intOf v).toNat)
      case atStart => exact ⟨0, by omega, rfl, H⟩
      case round =>
        clear H
        obtain ⟨i, hi, rfl, H⟩ := hrel
        by_cases hil : i < m + 1
        · have hlt2 : decide ((i : Int) < (m : Int) + 1) = true := by simp; omega
          have hil2 : (i : Int) < (m : Int) + 1 := by omega
          have hstep := ab_step P i (by rw [HPL2.out]; omega)
          obtain ⟨S, hS⟩ : ∃ S, S = (Spo.ab (Spo.zero, 0) (P.take i)).1 := ⟨_, rfl⟩
          obtain ⟨x, hx⟩ : ∃ x, x = P.getD i 0 := ⟨_, rfl⟩
          rw [← hS] at H
          rw [← hS, ← hx] at hstep
          have HST := Lib.hid hstep
          clear hstep hS
          obtain ⟨q, hq⟩ : ∃ q, q = i % 136 / 8 := ⟨_, rfl⟩
          obtain ⟨r, hr⟩ : ∃ r, r = i % 136 % 8 := ⟨_, rfl⟩
          have hq25 : q < 25 := by omega
          have hr8 : r < 8 := by omega
          have d := H.p.cell i (by rw [HPL2.out]; omega)
          rw [← hx] at d
          have HX := Lib.hid hx
          clear hx
          go_upto_region 14 with (fail)
          clear d
          refine region_tail 12 (fun w' => RsAt w w' g cap b P S) (by kernel_rfl) (by kernel_rfl) H.drew ?_
          clear H
          intro w7 H
          have c := H.s.cell q hq25
          have f := H.s.frozen q
          have i3 : ((i : Int) % 136).tdiv 8 = (q : Int) := by rw [Int.tdiv_eq_ediv_of_nonneg (by omega)]; omega
          have i6 : ((i : Int) % 136).tmod 8 = (r : Int) := by rw [Int.tmod_eq_emod_of_nonneg (by omega)]; omega
          have i2 : (q : Int) < 25 := by omega
          have i4 : IntKind.i64.wrap (q : Int) = (q : Int) := IntWalk.i64_in _ (by omega)
          have i5 : 0 ≤ (q : Int) := by omega
          have i7 : IntKind.i64.wrap (r : Int) = (r : Int) := IntWalk.i64_in _ (by omega)
          have i8 : IntKind.i64.wrap (8 * (r : Int)) = 8 * (r : Int) := IntWalk.i64_in _ (by omega)
          have i9 : 0 ≤ 8 * (r : Int) := by omega
          have i10 : 8 * (r : Int) ≤ 64 := by omega
          have j1 : (8 * (r : Int)).toNat = 8 * r := by omega
          have j2 : min (8 * r) 64 = 8 * r := by omega
          have j3 : IntKind.u64.wrap (x.toNat : Int) = U (Spo.b64 x) := U_b64 _
          have j4 := shl_U (Spo.b64 x) (8 * r)
          have HQ := Lib.hid hq
          have HR := Lib.hid hr
          clear hq hr
          simp only [List.take_succ_cons, List.take_zero, List.drop_succ_cons, List.drop_zero]
          repeat still_step
          refine wpStill_nil ?_
          clear i2 i3 i4 i5 i6 i7 i8 i9 i10 j1 j2 j3 j4
          go_upto_region 15 with (fail)
          clear c f
          refine wp_gen (fun w' => RsAt w w' g cap b P (Spo.upd S q (S q ^^^ Spo.b64 x <<< (8 * r)))) (H.put_ hwb hne q (S q ^^^ Spo.b64 x <<< (8 * r))) ?_
          clear H
          intro w8 H
          have hst : Spo.upd S q (S q ^^^ Spo.b64 x <<< (8 * r)) = Spo.put S (i % 136) x := by
            unfold Spo.put
            rw [← HQ.out, ← HR.out]
          rw [hst] at H
          clear hst HQ HR
          generalize Spo.put S (i % 136) x = T at *
          by_cases hend : i % 136 = 135
          · have b2 : ((i : Int) % 136 == 135) = true := beq_iff_eq.2 (by omega)
            have hE := HST.out
            rw [if_pos hend] at hE
            have HE := Lib.hid hE
            clear hE hend HST
            go_wp2_with (refine wpList_load_row rfl 26 _ rfl b rfl 26 _ (0, 0) _ H.s.row Tryd.underlying26 rfl (by rw [arr_size]; exact info26) ?_)
            refine (permute_any T _ (hC.below H.k)).mono ?_
            rintro e w9 ⟨rfl, hb9⟩
            replace H := H.below hb9
            clear hb9
            go_upto_region 17 with (refine wpList_store_row rfl 26 _ _ rfl b (arr (Kec.perm T)) rfl rfl 26 _ H.s.row (by rw [arr_size]; exact info26) (by rw [arr_size, arr_size]) (arr_one _) ?_)
            have H9 := H.setRow hwb hne (Kec.perm T)
            refine wp_gen (fun w' => RsAt w w' g cap b P (Kec.perm T)) H9 ?_
            clear H H9
            intro w10 H
            rw [← HE.out] at H
            go_wp2_with fail
            go_roundw
            case rel => exact ⟨i + 1, by omega, by go_num, H⟩
            case measure => simp [intOf]; omega
          · have b2 : ((i : Int) % 136 == 135) = false := beq_eq_false_iff_ne.2 (by omega)
            have hE := HST.out
            rw [if_neg hend] at hE
            rw [← hE] at H
            clear hE hend HST
            go_wp2_with fail
            go_roundw
            case rel => exact ⟨i + 1, by omega, by go_num, H⟩
            case measure => simp [intOf]; omega
        · have him : i = m + 1 := by omega
          have hlt2 : decide ((i : Int) < (m : Int) + 1) = false := by simp; omega
          have htk : P.take i = P := List.take_of_length_le (by rw [HPL2.out]; omega)
          rw [htk] at H
          clear htk him
          generalize (Spo.ab (Spo.zero, 0) P).1 = Q at *
          have hXs := digS_size s
          go_wp2_with fail
          refine (sum_any s _ (hC.below H.k) (by omega)).mono ?_
          generalize digS s = X at *
          rintro e w9 ⟨rfl, hb9⟩
          replace H := H.below hb9
          clear hb9
          have x1 : ((X.size : Int) != 32) = false := by rw [bne_eq_false_iff_eq]; omega
          have HXs := Lib.hid hXs
          have x2 : X.size ≤ 32 := by omega
          have x3 : 32 ≤ X.size := by omega
          clear hXs
          go_wp2_with fail
          obtain ⟨wo3, rfl⟩ : ∃ wo : World, wo = wr := ⟨_, rfl⟩
          go_loopw [67] (fun v wr => ∃ k : Nat, k ≤ 32 ∧ v = .int .i64 k ∧ RsAt w wr g cap b P Q) (fun v _ => 32 - (intOf v).toNat)
          case atStart => exact ⟨0, by omega, rfl, H⟩
          case round =>
            clear H
            obtain ⟨k, hk, rfl, H⟩ := hrel
            by_cases hk32 : k < 32
            · have hkX : k < X.size := by omega
              have b3 : decide ((k : Int) < (X.size : Int)) = true := by simp; omega
              obtain ⟨q, hq⟩ : ∃ q, q = k / 8 := ⟨_, rfl⟩
              obtain ⟨r, hr⟩ : ∃ r, r = k % 8 := ⟨_, rfl⟩
              have hq25 : q < 25 := by omega
              have hr8 : r < 8 := by omega
              have e : (X[k].toNat : Int) = W8 (Q q >>> (8 * r)) := by
                rw [← get_D X k hkX, HD.out]
                have := sq_at Q k hk32
                unfold byt at this
                rw [← hq, ← hr] at this
                exact this
              have c := H.s.cell q hq25
              have i3 : ((k : Int)).tdiv 8 = (q : Int) := by rw [Int.tdiv_eq_ediv_of_nonneg (by omega)]; omega
              have i6 : ((k : Int)).tmod 8 = (r : Int) := by rw [Int.tmod_eq_emod_of_nonneg (by omega)]; omega
              have i2 : (q : Int) < 25 := by omega
              have i4 : IntKind.i64.wrap (q : Int) = (q : Int) := IntWalk.i64_in _ (by omega)
              have i5 : 0 ≤ (q : Int) := by omega
              have i7 : IntKind.i64.wrap (r : Int) = (r : Int) := IntWalk.i64_in _ (by omega)
              have i8 : IntKind.i64.wrap (8 * (r : Int)) = 8 * (r : Int) := IntWalk.i64_in _ (by omega)
              have i9 : 0 ≤ 8 * (r : Int) := by omega
              have i10 : 8 * (r : Int) ≤ 64 := by omega
              have j1 : (8 * (r : Int)).toNat = 8 * r := by omega
              have j2 : min (8 * r) 64 = 8 * r := by omega
              have j4 := shr_U (Q q) (8 * r)
              have j5 : (k : Int) < (X.size : Int) := by omega
              have n1 : (k : Int) / 8 = (q : Int) := by omega
              have n2 : (k : Int) % 8 = (r : Int) := by omega
              clear hq hr
              go_upto_region 24 with (fail)
              go_quiet (fail)
              clear c i2 i3 i4 i5 i6 i7 i8 i9 i10 j1 j2 j4 e n1 n2
              have HN := H.drewN nq
              generalize wr.drewN nq = w12 at *
              clear H
              go_wp2_with fail
              go_roundw
              case rel => exact ⟨k + 1, by omega, by go_num, HN⟩
              case measure => simp [intOf]; omega
            · have b3 : decide ((k : Int) < (X.size : Int)) = false := by simp; omega
              go_wp2_with fail
              go_ret
              exact ⟨rfl, H.k⟩

set_option maxHeartbeats 2000000 in
set_option maxRecDepth 100000 in
theorem blocks_law (s : ByteArray) (w : World) (hC : Consts w) :
    Calls Tryd.prog 9 #[.string s] w fun e w' => e = .returned (.bool true) ∧ Below w.heap.size w w' := by
  by_cases h : 500 < s.size
  · have d : decide ((500 : Int) < s.size) = true := by simp; omega
    clear h
    go_enter Tryd.func9, Tryd.ntmps9
    go_wp2_with fail
    refine (awake_any _ hC).mono ?_
    rintro e w1 ⟨rfl, hb1⟩
    go_wp2_with fail
    go_ret
    exact ⟨rfl, hb1⟩
  · exact blocks_short s w hC (by omega)
end Go.Proofs.YtkcpncgngblooaaDoor
