/- The reference's Sum returns the digest of a string. No condition but its length. -/
import Derived.Test.YtkcpncgngblooaaDoorRefPerm
import Derived.Test.YtkcpncgngblooaaDoorSum
import Derived.Test.YtkcpncgngblooaaDoorPad
import Derived.Test.YtkcpncgngblooaaDoorByt
namespace Go.Proofs.YtkcpncgngblooaaDoor
open Go.RowKit

theorem info8' : (Tryd.prog.info? 5).map (fun i => (i.zero, i.size, i.bytes)) = some (some (.int .u8 0), 1, 1) := by kernel_rfl
/-- The row of bytes, and what is kept. -/
structure BkAt (w w' : World) (g cap : Nat) (l : List UInt8) : Prop where
  p : BytAt w' g cap l
  k : Below w.heap.size w w'
  b : w.heap.size ≤ g
theorem BkAt.grown {w w' w'' : World} {g g' cap cap' : Nat} {l l' : List UInt8} (h : BkAt w w' g cap l) (p : BytAt w'' g' cap' l') (hg : w'.grownBy w'' (some g)) (hor : g' = g ∨ g' = w'.heap.size) : BkAt w w'' g' cap' l' :=
  ⟨p, h.k.trans (below_of_grown hg h.b h.k.size), by have := h.k.size; have := h.b; omega⟩
theorem BkAt.alloc {w w' : World} {g cap : Nat} {l : List UInt8} (h : BkAt w w' g cap l) (o : Obj) : BkAt w (w'.alloc o) g cap l := ⟨h.p.alloc o, h.k.alloc h.k.size o, h.b⟩
/-- A state beside the row of bytes. -/
structure RsAt (w w' : World) (g cap b : Nat) (l : List UInt8) (S : Kec.St) : Prop where
  s : IsSt w' b S
  p : BytAt w' g cap l
  k : Below w.heap.size w w'
theorem RsAt.drew {w w' : World} {g cap b : Nat} {l : List UInt8} {S : Kec.St} (h : RsAt w w' g cap b l S) : RsAt w w'.drew g cap b l S := ⟨h.s, h.p.drew, h.k.drew⟩
theorem RsAt.put_ {w w' : World} {g cap b : Nat} {l : List UInt8} {S : Kec.St} (h : RsAt w w' g cap b l S) (hb : w.heap.size ≤ b) (hne : g ≠ b) (i : Nat) (x : BitVec 64) : RsAt w (w'.setCell ⟨b, i, none⟩ (.int .u64 (U x))) g cap b l (Spo.upd S i x) :=
  ⟨h.s.set_ i x, h.p.setOther ⟨b, i, none⟩ hne _, h.k.setCell (p := ⟨b, i, none⟩) (by simpa using hb) _⟩
theorem RsAt.below {w w' w'' : World} {g cap b : Nat} {l : List UInt8} {S : Kec.St} (h : RsAt w w' g cap b l S) (hb : Below w'.heap.size w' w'') : RsAt w w'' g cap b l S :=
  ⟨World.rowIs.of_block h.s (hb.block _ (World.rowIs.lt h.s)), h.p.below hb, h.k.trans (hb.mono h.k.size)⟩
theorem RsAt.setRow {w w' : World} {g cap b : Nat} {l : List UInt8} {S : Kec.St} (h : RsAt w w' g cap b l S) (hb : w.heap.size ≤ b) (hne : g ≠ b) (T : Kec.St) : RsAt w (w'.setRow b (arr T)) g cap b l T :=
  ⟨.of_row (setRow_heap _ b _ _ _ _ h.s.row), h.p.of_block (setRow_other _ _ _ _ hne), h.k.trans ⟨rfl, rfl, rfl, by simp, fun k hk => setRow_other _ _ _ _ (by omega)⟩⟩
/-- A kept state, and the bytes of the digest. -/
structure OutAt (w w' : World) (b b2 : Nat) (Q : Kec.St) (f : Nat → Int) : Prop where
  s : IsSt w' b Q
  q : IsBy w' b2 5 32 f
  k : Below w.heap.size w w'
theorem OutAt.put_ {w w' : World} {b b2 : Nat} {Q : Kec.St} {f : Nat → Int} (h : OutAt w w' b b2 Q f) (hb : w.heap.size ≤ b) (h12 : b < b2) (i : Nat) (x : Int) : OutAt w (w'.setCell ⟨b2, i, none⟩ (.int .u8 x)) b b2 Q (fun j => if j = i then x else f j) :=
  ⟨World.rowIs.setOther h.s (a := ⟨b2, i, none⟩) (by simp; omega) _, h.q.set_ i x, h.k.setCell (p := ⟨b2, i, none⟩) (by simp; omega) _⟩

set_option maxHeartbeats 8000000 in
set_option maxRecDepth 100000 in
theorem refSum_any (s : ByteArray) (w : World) (hn : s.size ≤ 1000000) :
    Calls Tryd.prog 12 #[.string s] w fun e w' => e = .returned (.string (digS s)) ∧ Below w.heap.size w w' := by
  obtain ⟨i0, hi0, hz0, hz1, hz2⟩ := info_parts info8'
  have hcv := fun w' => run_bytes_of_string (P := Tryd.prog) w' 9 42 5 s Tryd.underlying9 Tryd.underlying42 Tryd.underlying5
  have H := BytAt.new w s (by unfold maxLen; omega)
  have hb : Below w.heap.size w (w.drew.alloc (.cells (bytesRow s (grownCap w s.size 0 5)) 5 ((bytesRow s (grownCap w s.size 0 5)).size, (bytesRow s (grownCap w s.size 0 5)).size + 1))) := ((Below.refl w.heap.size w).drew).alloc (Nat.le_refl _) _
  go_enter Tryd.func12, Tryd.ntmps12
  go_upto_region 2 with (fail)
  clear hcv
  obtain ⟨g, hg⟩ : ∃ g, g = w.heap.size := ⟨_, rfl⟩
  rw [← hg] at H
  rw [← hg]
  generalize grownCap w s.size 0 5 = cap at *
  have H1 : BkAt w (w.drew.alloc (.cells (bytesRow s cap) 5 ((bytesRow s cap).size, (bytesRow s cap).size + 1))) g cap s.data.toList := ⟨H, hb, by omega⟩
  refine wp_gen (fun w' => BkAt w w' g cap s.data.toList) H1 ?_
  clear H H1 hb hg
  intro w1 H
  go_upto_region 3 with (at_builtin; refine wpList_append_byt (by rfl) _ _ 42 (by rfl) Tryd.underlying42 i0 hi0 hz0 hz1 hz2 g cap s.size _ (by rfl) (H.p.alloc _) rfl w1.heap.size 1 (by rfl) 6 (cell_new _ _ _) (by omega) ?_; intro g2 cap2 w2 hp2 hgr hor)
  have H2 := (H.alloc (.cells #[Value.int .u8 6] 5)).grown hp2 hgr hor
  clear hp2 hgr hor H
  go_wp2_with fail
  go_loopw [3] (fun v wr => ∃ k g cap n : Nat, k ≤ Spo.zs s.size ∧ n = s.size + 1 + k ∧ v = .slice (some ⟨g, 0, none⟩) n cap ∧ BkAt w wr g cap (s.data.toList ++ 6 :: List.replicate k 0)) (fun v _ => s.size + 137 - lenV v)
  case atStart => exact ⟨0, g2, cap2, s.size + 1, by omega, by omega, rfl, H2⟩
  case round =>
    clear H2
    obtain ⟨k, g, cap, n, hk, hnk, rfl, H⟩ := hrel
    have HZ : Spo.zs s.size = 135 - s.size % 136 := rfl
    by_cases hlt : k < Spo.zs s.size
    · have ht : (((n : Int) % 136) != 0) = true := by rw [bne_iff_ne]; omega
      have hll : (s.data.toList ++ 6 :: List.replicate k 0).length = n := by rw [List.length_append, List.length_cons, List.length_replicate, show s.data.toList.length = s.size from rfl]; omega
      have HN := Lib.hid hnk
      have hn2 : n ≤ 2000000 := by omega
      have hkn : n < s.size + 137 := by omega
      clear HZ hnk
      go_wp2_with (at_builtin; refine wpList_append_byt (by rfl) _ _ 42 (by rfl) Tryd.underlying42 i0 hi0 hz0 hz1 hz2 g cap n _ (by rfl) (H.p.alloc _) hll wr.heap.size 1 (by rfl) 0 (cell_new _ _ _) (by omega) ?_; intro g2 cap2 w2 hp2 hgr hor)
      have H2 := (H.alloc (.cells #[Value.int .u8 0] 5)).grown hp2 hgr hor
      have e : s.data.toList ++ 6 :: List.replicate k 0 ++ [0] = s.data.toList ++ 6 :: List.replicate (k + 1) 0 := by rw [List.replicate_succ']; simp
      rw [e] at H2
      clear e hp2 hgr hor H hll
      go_roundw
      case rel => exact ⟨k + 1, g2, cap2, n + 1, by omega, by have := HN.out; omega, rfl, H2⟩
      case measure => simp [lenV]; omega
    · have hkz : k = Spo.zs s.size := by omega
      rw [hkz] at H
      have hpad : s.data.toList ++ 6 :: List.replicate (Spo.zs s.size) 0 = Spo.pad0 s.data.toList := rfl
      rw [hpad] at H
      obtain ⟨m, hm⟩ : ∃ m, n = m + 1 := ⟨n - 1, by omega⟩
      have hpl : (Spo.pad0 s.data.toList).length = m + 1 := by rw [Spo.pad0_len, show s.data.toList.length = s.size from rfl]; omega
      have hml : ∃ B, m + 1 = 136 * B := ⟨(m + 1) / 136, by omega⟩
      obtain ⟨B, hB⟩ := hml
      have hB2 : B ≤ 10000 := by omega
      subst hm
      have ht : (((m : Int) + 1) % 136 != 0) = false := by rw [bne_eq_false_iff_eq]; omega
      have hm2 : m ≤ 2000000 := by omega
      have HB := Lib.hid hB
      have HPL := Lib.hid hpl
      clear hkz hpad HZ hnk hpl hB hlt hk
      have c := H.p.cell m (by rw [HPL.out]; omega)
      have f := H.p.frozen m (by rw [HPL.out]; omega)
      obtain ⟨x0, hx0⟩ : ∃ x0, x0 = (Spo.pad0 s.data.toList).getD m 0 := ⟨_, rfl⟩
      rw [← hx0] at c
      have HX := Lib.hid hx0
      clear hx0
      have ho := or_top' x0
      go_upto_region 6 with (fail)
      have H5 : BkAt w (wr.setCell ⟨g, m, none⟩ (.int .u8 ((x0 ||| 128).toNat : Int))) g cap (Spo.pad s.data.toList) := by
        refine ⟨?_, H.k.setCell (p := ⟨g, m, none⟩) (by simpa using H.b) _, H.b⟩
        have h := H.p.set m (x0 ||| 128)
        have e : (Spo.pad0 s.data.toList).set m (x0 ||| 128) = Spo.pad s.data.toList := by
          unfold Spo.pad Spo.setTop
          rw [HPL.out, Nat.add_sub_cancel, ← HX.out]
        rwa [e] at h
      refine wp_gen (fun w' => BkAt w w' g cap (Spo.pad s.data.toList)) H5 ?_
      clear H H5 ho c f HX
      intro w5 H
      have hpl : (Spo.pad s.data.toList).length = m + 1 := by unfold Spo.pad Spo.setTop; rw [List.length_set]; exact HPL.out
      have HPL2 := Lib.hid hpl
      clear hpl HPL
      have hD : digS s = ⟨(Spo.sq (Spo.ab (Spo.zero, 0) (Spo.pad s.data.toList)).1).toArray⟩ := by unfold digS; rw [Spo.dig_pad]
      have HD := Lib.hid hD
      clear hD
      generalize Spo.pad s.data.toList = P at *
      obtain ⟨b, hb⟩ : ∃ b, b = w5.heap.size := ⟨_, rfl⟩
      have hne : g ≠ b := by have := H.p.lt; omega
      have hwb : w.heap.size ≤ b := by have := H.k.size; omega
      have H6 : RsAt w (w5.alloc (.cells #[Value.int .u64 0, Value.int .u64 0, Value.int .u64 0, Value.int .u64 0, Value.int .u64 0, Value.int .u64 0, Value.int .u64 0, Value.int .u64 0, Value.int .u64 0, Value.int .u64 0, Value.int .u64 0, Value.int .u64 0, Value.int .u64 0, Value.int .u64 0, Value.int .u64 0, Value.int .u64 0, Value.int .u64 0, Value.int .u64 0, Value.int .u64 0, Value.int .u64 0, Value.int .u64 0, Value.int .u64 0, Value.int .u64 0, Value.int .u64 0, Value.int .u64 0] 26)) g cap b P Z := by
        rw [← arr_Z, hb]
        exact ⟨.of_row (heap_alloc_new w5 _), H.p.alloc _, H.k.alloc H.k.size _⟩
      go_upto_region 7 with (fail)
      rw [← hb]
      refine wp_gen (fun w' => RsAt w w' g cap b P Z) H6 ?_
      clear H H6 hb
      intro w6 H
      go_wp2_with fail
      obtain ⟨wo, rfl⟩ : ∃ wo : World, wo = wr := ⟨_, rfl⟩
      go_loopw [5] (fun v wr => ∃ a j : Nat, j ≤ B ∧ a = 136 * j ∧ v = .int .i64 a ∧ RsAt w wr g cap b P (Spo.ab (Spo.zero, 0) (P.take (136 * j))).1) (fun v _ => m + 1 - (intOf v).toNat)
      case atStart => exact ⟨0, 0, by omega, rfl, rfl, H⟩
      case round =>
        clear H
        obtain ⟨a, j, hj, haj, rfl, H⟩ := hrel
        have HAJ := Lib.hid haj
        clear haj
        by_cases hlt : j < B
        · have ham : a + 136 ≤ m + 1 := by have := HAJ.out; have := HB.out; omega
          have hlt2 : decide ((a : Int) < (m : Int) + 1) = true := by simp; omega
          have hnext := Spo.ab_next P j (by rw [HPL2.out]; have := HAJ.out; omega)
          have HNX := Lib.hid hnext
          clear hnext
          obtain ⟨S0, hS0⟩ : ∃ S0, S0 = (Spo.ab (Spo.zero, 0) (P.take (136 * j))).1 := ⟨_, rfl⟩
          rw [← hS0] at H
          have HS0 := Lib.hid hS0
          clear hS0
          go_wp2_with fail
          obtain ⟨wo2, rfl⟩ : ∃ wo : World, wo = wr := ⟨_, rfl⟩
          go_loopw [6] (fun v wr => ∃ i : Nat, i ≤ 136 ∧ v = .int .i64 i ∧ RsAt w wr g cap b P (Spo.pb S0 (fun i => P.getD (136 * j + i) 0) i)) (fun v _ => 136 - (intOf v).toNat)
          case atStart => exact ⟨0, by omega, rfl, H⟩
          case round =>
            clear H
            obtain ⟨i, hi, rfl, H⟩ := hrel
            by_cases hil : i < 136
            · obtain ⟨q, hq⟩ : ∃ q, q = i / 8 := ⟨_, rfl⟩
              obtain ⟨r, hr⟩ : ∃ r, r = i % 8 := ⟨_, rfl⟩
              have hq25 : q < 25 := by omega
              have hr8 : r < 8 := by omega
              obtain ⟨S, hS⟩ : ∃ S, S = Spo.pb S0 (fun i => P.getD (136 * j + i) 0) i := ⟨_, rfl⟩
              rw [← hS] at H
              have HS := Lib.hid hS
              clear hS
              obtain ⟨x, hx⟩ : ∃ x, x = P.getD (a + i) 0 := ⟨_, rfl⟩
              have HX := Lib.hid hx
              clear hx
              go_upto_region 13 with (fail)
              refine region_tail 20 (fun w' => RsAt w w' g cap b P S) (by kernel_rfl) (by kernel_rfl) H.drew ?_
              clear H
              intro w7 H
              have c := H.s.cell q hq25
              have f := H.s.frozen q
              have d := H.p.cell (a + i) (by rw [HPL2.out]; omega)
              rw [← HX.out] at d
              have i3 : ((i : Int)).tdiv 8 = (q : Int) := by rw [Int.tdiv_eq_ediv_of_nonneg (by omega)]; omega
              have i6 : ((i : Int)).tmod 8 = (r : Int) := by rw [Int.tmod_eq_emod_of_nonneg (by omega)]; omega
              have i2 : (q : Int) < 25 := by omega
              have i4 : IntKind.i64.wrap (q : Int) = (q : Int) := IntWalk.i64_in _ (by omega)
              have i5 : 0 ≤ (q : Int) := by omega
              have i7 : IntKind.i64.wrap (r : Int) = (r : Int) := IntWalk.i64_in _ (by omega)
              have i8 : IntKind.i64.wrap (8 * (r : Int)) = 8 * (r : Int) := IntWalk.i64_in _ (by omega)
              have i9 : 0 ≤ 8 * (r : Int) := by omega
              have i10 : 8 * (r : Int) ≤ 64 := by omega
              have j1 : (8 * (r : Int)).toNat = 8 * r := by omega
              have j2 : min (8 * r) 64 = 8 * r := by omega
              have j3 : IntKind.u64.wrap (x.toNat : Int) = U (Spo.b64 x) := U_b64 _
              have j4 := shl_U (Spo.b64 x) (8 * r)
              have k1 : IntKind.i64.wrap ((a : Int) + (i : Int)) = (a : Int) + (i : Int) := IntWalk.i64_in _ (by omega)
              have k2 : 0 ≤ (a : Int) + (i : Int) := by omega
              have k3 : ((a : Int) + (i : Int)).toNat = a + i := by omega
              have k4 : (a : Int) + (i : Int) < (m : Int) + 1 := by omega
              have k5 : IntKind.u64.wrap (8 * (r : Int)) = 8 * (r : Int) := by rw [IntKind.wrap_u64]; omega
              have HQ := Lib.hid hq
              have HR := Lib.hid hr
              clear hq hr
              simp only [List.take_succ_cons, List.take_zero, List.drop_succ_cons, List.drop_zero]
              repeat still_step
              refine wpStill_nil ?_
              clear i2 i3 i4 i5 i6 i7 i8 i9 i10 j1 j2 j3 j4 k1 k2 k3 k4 k5 d
              go_upto_region 12 with (fail)
              clear c f
              refine wp_gen (fun w' => RsAt w w' g cap b P (Spo.upd S q (S q ^^^ Spo.b64 x <<< (8 * r)))) (H.put_ hwb hne q (S q ^^^ Spo.b64 x <<< (8 * r))) ?_
              clear H
              intro w8 H
              have hst : Spo.upd S q (S q ^^^ Spo.b64 x <<< (8 * r)) = Spo.pb S0 (fun i => P.getD (136 * j + i) 0) (i + 1) := by
                show _ = Spo.put (Spo.pb S0 (fun i => P.getD (136 * j + i) 0) i) i (P.getD (136 * j + i) 0)
                unfold Spo.put
                rw [← HS.out, ← HQ.out, ← HR.out, ← HAJ.out, ← HX.out]
              rw [hst] at H
              clear hst
              go_wp2_with fail
              go_roundw
              case rel => exact ⟨i + 1, by omega, by go_num, H⟩
              case measure => simp [intOf]; omega
            · have hi6 := Lib.hid (show i = 136 by omega)
              rw [hi6.out] at H
              generalize hT : Spo.pb S0 (fun i => P.getD (136 * j + i) 0) 136 = T at *
              have HT := Lib.hid hT
              clear hT
              go_wp2_with (refine wpList_load_row rfl 26 _ rfl b rfl 26 _ (0, 0) _ H.s.row Tryd.underlying26 rfl (by rw [arr_size]; exact info26) ?_)
              refine (refPermute_any T _).mono ?_
              rintro e w9 ⟨rfl, hb9⟩
              replace H := H.below hb9
              clear hb9
              go_upto_region 9 with (refine wpList_store_row rfl 26 _ _ rfl b (arr (Kec.perm T)) rfl rfl 26 _ H.s.row (by rw [arr_size]; exact info26) (by rw [arr_size, arr_size]) (arr_one _) ?_)
              have H9 := H.setRow hwb hne (Kec.perm T)
              refine wp_gen (fun w' => RsAt w w' g cap b P (Kec.perm T)) H9 ?_
              clear H H9
              intro w10 H
              have hst : Kec.perm T = (Spo.ab (Spo.zero, 0) (P.take (136 * (j + 1)))).1 := by
                rw [show 136 * (j + 1) = 136 * j + 136 by omega, HNX.out, ← HS0.out, HT.out]
              rw [hst] at H
              clear hst
              go_wp2_with fail
              go_roundw
              case rel => exact ⟨a + 136, j + 1, by omega, by have := HAJ.out; omega, by go_num, H⟩
              case measure => simp [intOf]; omega
        · have hjB : j = B := by omega
          have hlt2 : decide ((a : Int) < (m : Int) + 1) = false := by have := HAJ.out; have := HB.out; simp; omega
          have htk : P.take (136 * j) = P := List.take_of_length_le (by rw [HPL2.out, hjB]; have := HB.out; omega)
          rw [htk] at H
          clear htk hjB
          generalize (Spo.ab (Spo.zero, 0) P).1 = Q at *
          have hs := H.s
          have hk := H.k
          clear H hne
          have hmk : ∀ w' : World, (Instr.makeSlice 42 (.int .i64 32) (.int .i64 32)).run Tryd.prog w' = .ok (.slice (some ⟨w'.heap.size, 0, none⟩) 32 32) (w'.alloc (.cells (madeCells #[.int .u8 0] 32) 5)) :=
            fun w' => run_make_row (P := Tryd.prog) 42 5 i0 (.int .u8 0) Tryd.underlying42 hi0 hz0 hz1 rfl .i64 .i64 32 (by rw [hz2]; decide) (by decide) w'
          obtain ⟨b2, hb2⟩ : ∃ b2, b2 = wr.heap.size := ⟨_, rfl⟩
          have h12 : b < b2 := by rw [hb2]; exact World.rowIs.lt hs
          have H7 : OutAt w (wr.alloc (.cells (madeCells #[.int .u8 0] 32) 5)) b b2 Q (mixB Q 0) := by
            refine ⟨World.rowIs.alloc hs _, ?_, hk.alloc hk.size _⟩
            rw [hb2]
            exact World.rowIs.congr (World.rowIs_made wr (.int .u8 0) 32 5) fun i _ => by unfold mixB; rw [if_neg (by omega)]
          go_upto_region 16 with (fail)
          clear hmk hs hk
          rw [← hb2]
          refine wp_gen (fun w' => OutAt w w' b b2 Q (mixB Q 0)) H7 ?_
          clear H7 hb2
          intro w11 H
          go_wp2_with fail
          obtain ⟨wo3, rfl⟩ : ∃ wo : World, wo = wr := ⟨_, rfl⟩
          go_loopw [8] (fun v wr => ∃ k : Nat, k ≤ 32 ∧ v = .int .i64 k ∧ OutAt w wr b b2 Q (mixB Q k)) (fun v _ => 32 - (intOf v).toNat)
          case atStart => exact ⟨0, by omega, rfl, H⟩
          case round =>
            clear H
            obtain ⟨k, hk, rfl, H⟩ := hrel
            by_cases hk32 : k < 32
            · obtain ⟨q, hq⟩ : ∃ q, q = k / 8 := ⟨_, rfl⟩
              obtain ⟨r, hr⟩ : ∃ r, r = k % 8 := ⟨_, rfl⟩
              have hq25 : q < 25 := by omega
              have hr8 : r < 8 := by omega
              have c := H.s.cell q hq25
              have d := H.q.cell k hk32
              have f := H.q.frozen k
              have i1 : (k : Int) / 8 = (q : Int) := by omega
              have i2 : (k : Int) % 8 = (r : Int) := by omega
              have i3 : (q : Int) < 25 := by omega
              have i9 : 0 ≤ 8 * (r : Int) := by omega
              have i10 : 8 * (r : Int) ≤ 64 := by omega
              have j1 : (8 * (r : Int)).toNat = 8 * r := by omega
              have j2 : min (8 * r) 64 = 8 * r := by omega
              have j4 := shr_U (Q q) (8 * r)
              have k5 : IntKind.u64.wrap (8 * (r : Int)) = 8 * (r : Int) := by rw [IntKind.wrap_u64]; omega
              have HQ := Lib.hid hq
              have HR := Lib.hid hr
              clear hq hr
              go_upto_region 18 with (fail)
              clear c d f i1 i2 i3 i9 i10 j1 j2 j4 k5
              have hv : W8 (Q q >>> (8 * r)) = byt Q k := by unfold byt; rw [← HQ.out, ← HR.out]
              refine wp_gen (fun w' => OutAt w w' b b2 Q (mixB Q (k + 1))) ?_ ?_
              · have h5 := H.put_ hwb h12 k (W8 (Q q >>> (8 * r)))
                refine ⟨h5.s, h5.q.congr fun i _ => ?_, h5.k⟩
                rw [hv]
                unfold mixB
                by_cases hi : i = k
                · rw [if_pos hi, if_pos (by omega), hi]
                · rw [if_neg hi]
                  by_cases hj : i < k
                  · rw [if_pos hj, if_pos (by omega)]
                  · rw [if_neg hj, if_neg (by omega)]
              · clear H hv
                intro w12 H
                go_wp2_with fail
                go_roundw
                case rel => exact ⟨k + 1, by omega, by go_num, H⟩
                case measure => simp [intOf]; omega
            · obtain rfl : k = 32 := by omega
              have hcv := H.q.str 42 5 9 Tryd.underlying42 Tryd.underlying5 Tryd.underlying9
              rw [str_sq] at hcv
              go_wp2_with fail
              go_ret
              exact ⟨by rw [HD.out]; rfl, H.k⟩
end Go.Proofs.YtkcpncgngblooaaDoor
