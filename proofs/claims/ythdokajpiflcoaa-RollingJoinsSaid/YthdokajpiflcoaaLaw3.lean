/- The law of joined lists. No condition. -/
import Derived.Test.YthdokajpiflcoaaLaw2
namespace Go.Proofs.Ythdokajpiflcoaa
open Go.RowKit Go.Deep
namespace Rl
theorem txs_app (a b : List Lx) : txs (a ++ b) = txs a ++ txs b := List.map_append
theorem txs_len (l : List Lx) : (txs l).length = l.length := List.length_map _
theorem join_parts (l : List Lx) (i : Nat) (hi : i ≤ l.length) (hl : l.length ≤ 40) :
    joinI (hash (txs ((l.drop 0).take i)) : Int) (hash (txs ((l.drop i).take (l.length - i))) : Int) ((l.length : Int) - (i : Int)) = hash (txs l) ∧ joinE (hash (txs ((l.drop 0).take i)) : Int) (hash (txs ((l.drop i).take (l.length - i))) : Int) ((l.length : Int) - (i : Int)) = 0 := by
  have hok : isR (hash (txs ((l.drop 0).take i)) : Int) = true ∧ isR (hash (txs ((l.drop i).take (l.length - i))) : Int) = true ∧ 0 ≤ (l.length : Int) - (i : Int) ∧ (l.length : Int) - (i : Int) ≤ 8192 :=
    ⟨by rw [isR_nat]; exact decide_eq_true (hash_lt _), by rw [isR_nat]; exact decide_eq_true (hash_lt _), by omega, by omega⟩
  refine ⟨?_, if_pos hok⟩
  unfold joinI
  rw [if_pos hok]
  have h := join_ok (txs ((l.drop 0).take i)) (txs ((l.drop i).take (l.length - i)))
  have hd : (l.drop i).take (l.length - i) = l.drop i := List.take_of_length_le (by rw [List.length_drop]; exact Nat.le_refl _)
  rw [← txs_app, txs_len, part_len (by omega), hd, List.drop_zero, List.take_append_drop] at h
  rw [hd, List.drop_zero, show ((l.length : Int) - (i : Int)).toNat = l.length - i by omega, Int.toNat_natCast, Int.toNat_natCast]
  exact h
/-- The words of a part, with what its slice looks like. -/
def lxO (x : Lx) : Obj := .cells #[.string (str x.tx), .int .i64 x.ln] 41 (0, 0)
theorem one_at (w : World) (x : Lx) : LxAt (w.alloc (lxO x)) (w.alloc (lxO x)).heap.size (some ⟨w.heap.size, 0, none⟩) [x] := by
  have h := heap_alloc_new w (lxO x)
  intro j hj
  have hc : ∀ i, (w.alloc (lxO x)).cell? ⟨w.heap.size, i, none⟩ = (#[Value.string (str x.tx), .int .i64 x.ln] : Array Value)[i]? := fun i => cell_of_row _ _ _ _ _ _ h
  match j, hj with
  | 0, _ => exact ⟨_, _, rfl, blk_lt h, (hc 0).trans rfl, (hc 1).trans rfl⟩
theorem hash_single (x : Lx) (w : World) (hx : x.tx.length ≤ 1000000000) :
    Calls Try.prog 19 #[.slice (some ⟨w.heap.size, 0, none⟩) 1 1] (w.alloc (.cells #[.string (str x.tx), .int .i64 x.ln] 41 (0, 0))).drew fun e w' => e = .returned (.int .i64 ((code x.tx + 1) % P : Nat)) ∧ Below w.heap.size w w' := by
  have hbd : Below (w.alloc (lxO x)).heap.size (w.alloc (lxO x)) (w.alloc (lxO x)).drew := ⟨rfl, rfl, rfl, Nat.le_refl _, fun _ _ => rfl⟩
  have hba : Below w.heap.size w (w.alloc (lxO x)) := (Below.refl _ _).alloc (Nat.le_refl _) _
  have := hash_any [x] (some ⟨w.heap.size, 0, none⟩) 1 (w.alloc (lxO x)).drew ((one_at w x).next hbd) (by show 1 ≤ 100000; decide) (fun y hy => by rw [List.mem_singleton] at hy; rw [hy]; exact hx)
  rw [show hash (txs [x]) = (code x.tx + 1) % P from hash_one x.tx] at this
  exact this.mono fun e w' h => ⟨h.1, (hba.trans (hbd.mono hba.size)).trans (h.2.mono (hba.trans (hbd.mono hba.size)).size)⟩
/-- What the law asks of the two parts, whatever their slices look like. -/
def Parts (l : List Lx) (A : Option Addr) (c i : Nat) (w1 : World) : Prop :=
  ∀ W, Below w1.heap.size w1 W → Calls Try.prog 19 #[.slice A i c] W fun e w' => e = .returned (.int .i64 (hash (txs ((l.drop 0).take i)) : Int)) ∧ Below W.heap.size W w'
def PartsB (l : List Lx) (A : Option Addr) (c i : Nat) (w1 : World) : Prop :=
  ∀ W, Below w1.heap.size w1 W → Calls Try.prog 19 #[.slice A (l.length - i) c] W fun e w' => e = .returned (.int .i64 (hash (txs ((l.drop i).take (l.length - i))) : Int)) ∧ Below W.heap.size W w'
theorem parts_a {l : List Lx} {A : Option Addr} {c i : Nat} {w1 : World} (hA : LxAt w1 w1.heap.size A l) (hl : l.length ≤ 40) (hs : Sht l) (hi : i ≤ l.length) : Parts l A c i w1 := fun W hb => by
  refine hash_at ((l.drop 0).take i) A i c W (part_len (by omega)) ?_ (by omega) (sht_part hs 0 i)
  intro j hj
  rw [part_len (by omega)] at hj
  obtain ⟨g, o, e, h1, h2, h3⟩ := (hA.next hb) j (by omega)
  refine ⟨g, o, e, h1, ?_, ?_⟩
  · rw [List.getElem_take, List.getElem_drop]; simpa using h2
  · rw [List.getElem_take, List.getElem_drop]; simpa using h3
theorem parts_b {l : List Lx} {g o c i : Nat} {w1 : World} (hA : LxAt w1 w1.heap.size (some ⟨g, o, none⟩) l) (hl : l.length ≤ 40) (hs : Sht l) (hi : i ≤ l.length) : PartsB l (some ⟨g, o + i * 2, none⟩) c i w1 := fun W hb =>
  hash_at ((l.drop i).take (l.length - i)) _ (l.length - i) c W (part_len (by omega)) ((hA.next hb).part i _) (by omega) (sht_part hs i _)
theorem parts_e {l : List Lx} {A : Option Addr} {c i : Nat} {w1 : World} (hi : i = l.length) : PartsB l A c i w1 := fun W _ => by
  have e : (l.drop i).take (l.length - i) = [] := by rw [hi, Nat.sub_self, List.take_zero]
  rw [e]
  exact hash_at [] A (l.length - i) c W (by simp; omega) (LxAt.nil _ _ _) (by omega) (fun x hx => by cases hx)
set_option maxHeartbeats 8000000 in
set_option maxRecDepth 100000 in
/-- Behind the two parts: the rest of the law. -/
theorem joins_some (l : List Lx) (k : Nat) (A : Option Addr) (hsome : ∃ a, A = some a) (c : Nat) (w : World) (hA : LxAt w w.heap.size A l) (hl : l.length ≤ 5864062014634) (hc : l.length ≤ c) (hk : k ≤ 255) :
    Calls Try.prog 7 #[.slice A l.length c, .int .u8 (k : Int)] w fun e w' => e = .returned (.bool true) ∧ Below w.heap.size w w' := by
  have HAA := Lib.hid hA
  clear hA
  have u1 := wr_nat (n := k) (by omega)
  have u2 := wr64_nat (n := k) (by omega)
  have HHC := Lib.hid hc
  clear hk hc
  have c0 := awake_any w
  go_enter Try.func7, Try.ntmps7
  go_wp2_with fail
  (with_reducible refine c0.mono ?_); rintro e w1 ⟨rfl, hb⟩
  have HB := Lib.hid hb
  have hA1 := HAA.out.next hb
  have c1 := few_any l A c w1 hA1 (by omega)
  clear hb c0
  go_wp2_with fail
  (with_reducible refine c1.mono ?_); rintro e w' ⟨b, rfl, hfew, rfl⟩
  clear c1
  cases b with
  | false =>
    clear hfew
    go_wp2_with fail
    go_ret
    exact ⟨rfl, HB.out⟩
  | true =>
  obtain ⟨hl40, hx40⟩ := hfew rfl
  clear hfew
  have hsh := sht_of hx40
  clear hx40
  obtain ⟨i, hi⟩ : ∃ i, i = k % (l.length + 1) := ⟨_, rfl⟩
  have hil : i ≤ l.length := by have := Nat.mod_lt k (show 0 < l.length + 1 by omega); omega
  have t1 : IntKind.i64.wrap ((l.length : Int) + 1) = (l.length : Int) + 1 := by rw [IntKind.wrap_i64]; omega
  have r1 : (k : Int) % ((l.length : Int) + 1) = (i : Int) := by rw [hi]; rfl
  have r1t : ((k : Int)).tmod ((l.length : Int) + 1) = (i : Int) := by rw [Int.tmod_eq_emod_of_nonneg (by omega)]; exact r1
  have z1 : ((l.length : Int) + 1 == 0) = false := by rw [beq_eq_false_iff_ne]; omega
  have z1p : ¬ ((l.length : Int) + 1 = 0) := by omega
  have t2 : IntKind.i64.wrap ((l.length : Int) - (i : Int)) = (l.length : Int) - (i : Int) := by rw [IntKind.wrap_i64]; omega
  have y0 : (0 : Int) ≤ (i : Int) := by omega
  have HCC := Lib.hid HHC.out
  have y1 : (i : Int) ≤ (c : Int) := by have := HHC.out; omega
  have y1n : i ≤ c := by have := HHC.out; omega
  have y2 : (i : Int) ≤ (l.length : Int) := by omega
  obtain ⟨hj1, hj2⟩ := join_parts l i hil hl40
  have cj := fun w => join_any (hash (txs ((l.drop 0).take i)) : Int) (hash (txs ((l.drop i).take (l.length - i))) : Int) ((l.length : Int) - (i : Int)) w
  rw [hj1, hj2] at cj
  have ca : Parts l A c i w1 := parts_a hA1 hl40 hsh hil
  have HSH := Lib.hid hsh
  have HA1 := Lib.hid hA1
  have HIL := Lib.hid hil
  clear hsh hi hj1 hj2 hil
  have hcases : (¬ c = i ∧ ∃ a0 : Addr, A = some a0 ∧ PartsB l (some (a0.add (i * 2))) (c - i) i w1) ∨ (c = i ∧ PartsB l A 0 i w1) := by
    by_cases hci : c = i
    · exact .inr ⟨hci, parts_e (by have := HIL.out; have := HHC.out; omega)⟩
    · obtain ⟨a0, rfl⟩ := hsome
      refine .inl ⟨hci, a0, rfl, ?_⟩
      by_cases h0 : l.length = 0
      · exact parts_e (by have := HIL.out; omega)
      · obtain ⟨g, o, e, -, -, -⟩ := HA1.out 0 (by omega)
        cases e
        rw [addr_addS]
        exact parts_b HA1.out hl40 HSH.out HIL.out
  have hform : (l.length = 0) ∨ (0 < l.length ∧ ∃ g o, A = some ⟨g, o, none⟩) := by
    by_cases h0 : l.length = 0
    · exact .inl h0
    · obtain ⟨g, o, e, -, -, -⟩ := HA1.out 0 (by omega)
      exact .inr ⟨by omega, g, o, e⟩
  unfold Parts at ca
  unfold PartsB at hcases
  have hbd : Below w1.heap.size w1 w1.drew := ⟨rfl, rfl, rfl, Nat.le_refl _, fun _ _ => rfl⟩
  obtain ⟨ha, hha⟩ : ∃ ha, hash (txs ((l.drop 0).take i)) = ha := ⟨_, rfl⟩
  obtain ⟨hb0, hhb⟩ : ∃ hb0, hash (txs ((l.drop i).take (l.length - i))) = hb0 := ⟨_, rfl⟩
  rw [hha] at cj ca
  rw [hhb] at cj hcases
  clear hha hhb
  obtain ⟨hh, hhe⟩ : ∃ hh, hash (txs l) = hh := ⟨_, rfl⟩
  rw [hhe] at cj
  have HHE := Lib.hid hhe
  clear hhe hA1
  have rest : True := trivial
  rcases hform with h0 | ⟨h0, g, o, rfl⟩
  · have HH0 := Lib.hid h0
    clear h0
    rcases hcases with ⟨hci, a0, rfl, cb⟩ | ⟨hci, cb⟩
    · skip
      have CA := Lib.hid ca
      have CB := Lib.hid cb
      clear ca cb
      go_wp2_with fail
      go_region_held3 (fun _ => True) (trivial) (first | (go_at_call 19; (with_reducible refine (CA.out _ hbd).mono ?_); rintro e w5 ⟨rfl, hb5⟩; have hb15 := hbd.trans (hb5.mono hbd.size)) | (go_at_call 19; (with_reducible refine (CB.out _ hb15).mono ?_); rintro e w6 ⟨rfl, hb6⟩; have hb16 := hb15.trans (hb6.mono hb15.size)) | (go_at_call 22; (with_reducible refine (cj _).mono ?_); rintro e w7 ⟨rfl, rfl⟩))
      have HB6 := Lib.hid (HB.out.trans (hb16.mono HB.out.size))
      have HA6 := Lib.hid (HA1.out.next hb16)
      clear hb16 hb15 hb5 hb6 CA CB
      have c7 := hash_any l _ c w6 HA6.out (by omega) HSH.out
      rw [HHE.out] at c7
      go_wp2_with fail
      (with_reducible refine c7.mono ?_); rintro e w7 ⟨rfl, hb7⟩
      have HB7 := Lib.hid (HB6.out.trans (hb7.mono HB6.out.size))
      have HA7 := Lib.hid (HA6.out.next hb7)
      clear hb7 c7
      have c8 := hash_any [] none 0 w7 (LxAt.nil _ _ _) (by decide) (fun x hx => by cases hx)
      rw [show hash (txs []) = 0 from rfl, show ([] : List Lx).length = 0 from rfl] at c8
      go_wp2_with fail
      (with_reducible refine c8.mono ?_); rintro e w8 ⟨rfl, hb8⟩
      have HB8 := Lib.hid (HB7.out.trans (hb8.mono HB7.out.size))
      have HA8 := Lib.hid (HA7.out.next hb8)
      clear hb8 c8
      go_wp2_with fail
      go_loopw [51] (fun s51 wr => ∃ j : Nat, s51 = .int .i64 j ∧ j ≤ l.length ∧ Below w8.heap.size w8 wr) (fun s51 _ => l.length - (intOf s51).toNat)
      case atStart => exact ⟨0, rfl, by omega, Below.refl _ _⟩
      case round =>
        obtain ⟨j, rfl, hj, hb⟩ := hrel
        by_cases hlt : j < l.length
        · exact absurd hlt (by rw [HH0.out]; omega)
        · have b5 : decide ((j : Int) < (l.length : Int)) = false := decide_eq_false (by omega)
          have b5n : decide (j < l.length) = false := decide_eq_false hlt
          have HB9 := Lib.hid (HB8.out.trans (hb.mono HB8.out.size))
          clear hb
          go_wp2_with fail
          go_ret
          exact ⟨rfl, HB9.out⟩
    · obtain ⟨a0, rfl⟩ := hsome
      subst hci
      have y9 : c - c = 0 := Nat.sub_self c
      have CA := Lib.hid ca
      have CB := Lib.hid cb
      clear ca cb
      go_wp2_with fail
      go_region_held3 (fun _ => True) (trivial) (first | (go_at_call 19; (with_reducible refine (CA.out _ hbd).mono ?_); rintro e w5 ⟨rfl, hb5⟩; have hb15 := hbd.trans (hb5.mono hbd.size)) | (go_at_call 19; (with_reducible refine (CB.out _ hb15).mono ?_); rintro e w6 ⟨rfl, hb6⟩; have hb16 := hb15.trans (hb6.mono hb15.size)) | (go_at_call 22; (with_reducible refine (cj _).mono ?_); rintro e w7 ⟨rfl, rfl⟩))
      have HB6 := Lib.hid (HB.out.trans (hb16.mono HB.out.size))
      have HA6 := Lib.hid (HA1.out.next hb16)
      clear hb16 hb15 hb5 hb6 CA CB
      have c7 := hash_any l _ c w6 HA6.out (by omega) HSH.out
      rw [HHE.out] at c7
      go_wp2_with fail
      (with_reducible refine c7.mono ?_); rintro e w7 ⟨rfl, hb7⟩
      have HB7 := Lib.hid (HB6.out.trans (hb7.mono HB6.out.size))
      have HA7 := Lib.hid (HA6.out.next hb7)
      clear hb7 c7
      have c8 := hash_any [] none 0 w7 (LxAt.nil _ _ _) (by decide) (fun x hx => by cases hx)
      rw [show hash (txs []) = 0 from rfl, show ([] : List Lx).length = 0 from rfl] at c8
      go_wp2_with fail
      (with_reducible refine c8.mono ?_); rintro e w8 ⟨rfl, hb8⟩
      have HB8 := Lib.hid (HB7.out.trans (hb8.mono HB7.out.size))
      have HA8 := Lib.hid (HA7.out.next hb8)
      clear hb8 c8
      go_wp2_with fail
      go_loopw [51] (fun s51 wr => ∃ j : Nat, s51 = .int .i64 j ∧ j ≤ l.length ∧ Below w8.heap.size w8 wr) (fun s51 _ => l.length - (intOf s51).toNat)
      case atStart => exact ⟨0, rfl, by omega, Below.refl _ _⟩
      case round =>
        obtain ⟨j, rfl, hj, hb⟩ := hrel
        by_cases hlt : j < l.length
        · exact absurd hlt (by rw [HH0.out]; omega)
        · have b5 : decide ((j : Int) < (l.length : Int)) = false := decide_eq_false (by omega)
          have b5n : decide (j < l.length) = false := decide_eq_false hlt
          have HB9 := Lib.hid (HB8.out.trans (hb.mono HB8.out.size))
          clear hb
          go_wp2_with fail
          go_ret
          exact ⟨rfl, HB9.out⟩
  · rcases hcases with ⟨hci, a0, e0, cb⟩ | ⟨hci, cb⟩
    · cases e0
      rw [addr_addS] at cb
      have CA := Lib.hid ca
      have CB := Lib.hid cb
      clear ca cb
      go_wp2_with fail
      go_region_held3 (fun _ => True) (trivial) (first | (go_at_call 19; (with_reducible refine (CA.out _ hbd).mono ?_); rintro e w5 ⟨rfl, hb5⟩; have hb15 := hbd.trans (hb5.mono hbd.size)) | (go_at_call 19; (with_reducible refine (CB.out _ hb15).mono ?_); rintro e w6 ⟨rfl, hb6⟩; have hb16 := hb15.trans (hb6.mono hb15.size)) | (go_at_call 22; (with_reducible refine (cj _).mono ?_); rintro e w7 ⟨rfl, rfl⟩))
      have HB6 := Lib.hid (HB.out.trans (hb16.mono HB.out.size))
      have HA6 := Lib.hid (HA1.out.next hb16)
      clear hb16 hb15 hb5 hb6 CA CB
      have c7 := hash_any l _ c w6 HA6.out (by omega) HSH.out
      rw [HHE.out] at c7
      go_wp2_with fail
      (with_reducible refine c7.mono ?_); rintro e w7 ⟨rfl, hb7⟩
      have HB7 := Lib.hid (HB6.out.trans (hb7.mono HB6.out.size))
      have HA7 := Lib.hid (HA6.out.next hb7)
      clear hb7 c7
      have c8 := hash_any [] none 0 w7 (LxAt.nil _ _ _) (by decide) (fun x hx => by cases hx)
      rw [show hash (txs []) = 0 from rfl, show ([] : List Lx).length = 0 from rfl] at c8
      go_wp2_with fail
      (with_reducible refine c8.mono ?_); rintro e w8 ⟨rfl, hb8⟩
      have HB8 := Lib.hid (HB7.out.trans (hb8.mono HB7.out.size))
      have HA8 := Lib.hid (HA7.out.next hb8)
      clear hb8 c8
      go_wp2_with fail
      go_loopw [51] (fun s51 wr => ∃ j : Nat, s51 = .int .i64 j ∧ j ≤ l.length ∧ Below w8.heap.size w8 wr) (fun s51 _ => l.length - (intOf s51).toNat)
      case atStart => exact ⟨0, rfl, by omega, Below.refl _ _⟩
      case round =>
        obtain ⟨j, rfl, hj, hb⟩ := hrel
        by_cases hlt : j < l.length
        · have b5 : decide ((j : Int) < (l.length : Int)) = true := decide_eq_true (by omega)
          have b5n : decide (j < l.length) = true := decide_eq_true hlt
          have y7 : (j : Int) < (l.length : Int) := by omega
          obtain ⟨g', o', e1, hg1, hd0, hd1⟩ := (HA8.out.next hb) j hlt
          cases e1
          have hsx := HSH.out l[j] (List.getElem_mem hlt)
          generalize l[j] = x at *
          obtain ⟨tx, ln⟩ := x
          dsimp only [] at hd0 hd1 hsx
          obtain ⟨W, hW⟩ : ∃ W, W = wr.alloc (.cells #[.string (str tx), .int .i64 ln] 41 (0, 0)) := ⟨_, rfl⟩
          have hbW : Below w8.heap.size w8 W := by rw [hW]; exact hb.alloc hb.size _
          have hWn : W.heap[wr.heap.size]? = some (.cells #[.string (str tx), .int .i64 ln] 41 (0, 0)) := by rw [hW]; exact heap_alloc_new _ _
          have hcW : ∀ i, W.cell? ⟨wr.heap.size, i, none⟩ = (#[Value.string (str tx), .int .i64 ln] : Array Value)[i]? := fun i => cell_of_row _ _ _ _ _ _ hWn
          have k0 : W.cell? ⟨wr.heap.size, 0, none⟩ = some (.string (str tx)) := (hcW 0).trans rfl
          have k1 : W.cell? ⟨wr.heap.size, 1, none⟩ = some (.int .i64 ln) := (hcW 1).trans rfl
          have hqW : wr.heap.size < W.heap.size := blk_lt hWn
          have HBW := Lib.hid hbW
          have hcd := code_lt tx
          have cs := hash_single ⟨tx, ln⟩ W hsx
          have co := fun w => code_any (str tx) w (by rw [str_size]; exact hsx)
          rw [show code (str tx).data.toList = code tx from rfl] at co
          dsimp only [] at cs
          have z3 : ((code tx : Int) + 1) % 2305843009213693951 = (((code tx + 1) % P : Nat) : Int) ∧ ((code tx : Int) + 1).tmod 2305843009213693951 = (((code tx + 1) % P : Nat) : Int) := rem_nat (a := code tx) (b := 1) rfl
          obtain ⟨z3, z3t⟩ := z3
          have t9 : IntKind.i64.wrap ((code tx : Int) + 1) = (code tx : Int) + 1 := wr_res (a := code tx) (b := 1) hcd (by decide)
          generalize (code tx + 1) % P = h1 at *
          generalize code tx = cd at *
          clear hcW hWn hsx hcd hb hbW
          go_upto_region 12 with (fail)
          rw [← hW]
          clear hW hd0 hd1
          have bA : Below W.heap.size W (W.alloc (.cells #[.string (str tx), .int .i64 ln] 41 (0, 0))) := (Below.refl _ _).alloc (Nat.le_refl _) _
          have ka0 := (bA.cell (p := ⟨wr.heap.size, 0, none⟩) hqW).trans k0
          have ka1 := (bA.cell (p := ⟨wr.heap.size, 1, none⟩) hqW).trans k1
          go_region_held3 (fun w' => w'.cell? ⟨wr.heap.size, 0, none⟩ = some (.string (str tx)) ∧ w'.cell? ⟨wr.heap.size, 1, none⟩ = some (.int .i64 ln)) (first | exact ⟨k0, k1⟩ | exact ⟨ka0, ka1⟩ | exact s0) (first | (go_at_call 19; (with_reducible refine cs.mono ?_); rintro e w5 ⟨rfl, hb5⟩; have s0 := And.intro ((hb5.cell (p := ⟨wr.heap.size, 0, none⟩) hqW).trans k0) ((hb5.cell (p := ⟨wr.heap.size, 1, none⟩) hqW).trans k1)) | (go_at_call 10; (with_reducible refine (co _).mono ?_); rintro e w6 ⟨rfl, rfl⟩))
          all_goals
            have HB15 := Lib.hid (HBW.out.trans (hb5.mono HBW.out.size))
            clear hb5
            go_wp2_with fail
            go_roundw
            case rel => exact ⟨j + 1, by go_num, by omega, HB15.out⟩
            case measure => simp [intOf]; omega
        · have b5 : decide ((j : Int) < (l.length : Int)) = false := decide_eq_false (by omega)
          have b5n : decide (j < l.length) = false := decide_eq_false hlt
          have HB9 := Lib.hid (HB8.out.trans (hb.mono HB8.out.size))
          clear hb
          go_wp2_with fail
          go_ret
          exact ⟨rfl, HB9.out⟩
    · subst hci
      have y9 : c - c = 0 := Nat.sub_self c
      have CA := Lib.hid ca
      have CB := Lib.hid cb
      clear ca cb
      go_wp2_with fail
      go_region_held3 (fun _ => True) (trivial) (first | (go_at_call 19; (with_reducible refine (CA.out _ hbd).mono ?_); rintro e w5 ⟨rfl, hb5⟩; have hb15 := hbd.trans (hb5.mono hbd.size)) | (go_at_call 19; (with_reducible refine (CB.out _ hb15).mono ?_); rintro e w6 ⟨rfl, hb6⟩; have hb16 := hb15.trans (hb6.mono hb15.size)) | (go_at_call 22; (with_reducible refine (cj _).mono ?_); rintro e w7 ⟨rfl, rfl⟩))
      have HB6 := Lib.hid (HB.out.trans (hb16.mono HB.out.size))
      have HA6 := Lib.hid (HA1.out.next hb16)
      clear hb16 hb15 hb5 hb6 CA CB
      have c7 := hash_any l _ c w6 HA6.out (by omega) HSH.out
      rw [HHE.out] at c7
      go_wp2_with fail
      (with_reducible refine c7.mono ?_); rintro e w7 ⟨rfl, hb7⟩
      have HB7 := Lib.hid (HB6.out.trans (hb7.mono HB6.out.size))
      have HA7 := Lib.hid (HA6.out.next hb7)
      clear hb7 c7
      have c8 := hash_any [] none 0 w7 (LxAt.nil _ _ _) (by decide) (fun x hx => by cases hx)
      rw [show hash (txs []) = 0 from rfl, show ([] : List Lx).length = 0 from rfl] at c8
      go_wp2_with fail
      (with_reducible refine c8.mono ?_); rintro e w8 ⟨rfl, hb8⟩
      have HB8 := Lib.hid (HB7.out.trans (hb8.mono HB7.out.size))
      have HA8 := Lib.hid (HA7.out.next hb8)
      clear hb8 c8
      go_wp2_with fail
      go_loopw [51] (fun s51 wr => ∃ j : Nat, s51 = .int .i64 j ∧ j ≤ l.length ∧ Below w8.heap.size w8 wr) (fun s51 _ => l.length - (intOf s51).toNat)
      case atStart => exact ⟨0, rfl, by omega, Below.refl _ _⟩
      case round =>
        obtain ⟨j, rfl, hj, hb⟩ := hrel
        by_cases hlt : j < l.length
        · have b5 : decide ((j : Int) < (l.length : Int)) = true := decide_eq_true (by omega)
          have b5n : decide (j < l.length) = true := decide_eq_true hlt
          have y7 : (j : Int) < (l.length : Int) := by omega
          obtain ⟨g', o', e1, hg1, hd0, hd1⟩ := (HA8.out.next hb) j hlt
          cases e1
          have hsx := HSH.out l[j] (List.getElem_mem hlt)
          generalize l[j] = x at *
          obtain ⟨tx, ln⟩ := x
          dsimp only [] at hd0 hd1 hsx
          obtain ⟨W, hW⟩ : ∃ W, W = wr.alloc (.cells #[.string (str tx), .int .i64 ln] 41 (0, 0)) := ⟨_, rfl⟩
          have hbW : Below w8.heap.size w8 W := by rw [hW]; exact hb.alloc hb.size _
          have hWn : W.heap[wr.heap.size]? = some (.cells #[.string (str tx), .int .i64 ln] 41 (0, 0)) := by rw [hW]; exact heap_alloc_new _ _
          have hcW : ∀ i, W.cell? ⟨wr.heap.size, i, none⟩ = (#[Value.string (str tx), .int .i64 ln] : Array Value)[i]? := fun i => cell_of_row _ _ _ _ _ _ hWn
          have k0 : W.cell? ⟨wr.heap.size, 0, none⟩ = some (.string (str tx)) := (hcW 0).trans rfl
          have k1 : W.cell? ⟨wr.heap.size, 1, none⟩ = some (.int .i64 ln) := (hcW 1).trans rfl
          have hqW : wr.heap.size < W.heap.size := blk_lt hWn
          have HBW := Lib.hid hbW
          have hcd := code_lt tx
          have cs := hash_single ⟨tx, ln⟩ W hsx
          have co := fun w => code_any (str tx) w (by rw [str_size]; exact hsx)
          rw [show code (str tx).data.toList = code tx from rfl] at co
          dsimp only [] at cs
          have z3 : ((code tx : Int) + 1) % 2305843009213693951 = (((code tx + 1) % P : Nat) : Int) ∧ ((code tx : Int) + 1).tmod 2305843009213693951 = (((code tx + 1) % P : Nat) : Int) := rem_nat (a := code tx) (b := 1) rfl
          obtain ⟨z3, z3t⟩ := z3
          have t9 : IntKind.i64.wrap ((code tx : Int) + 1) = (code tx : Int) + 1 := wr_res (a := code tx) (b := 1) hcd (by decide)
          generalize (code tx + 1) % P = h1 at *
          generalize code tx = cd at *
          clear hcW hWn hsx hcd hb hbW
          go_upto_region 12 with (fail)
          rw [← hW]
          clear hW hd0 hd1
          have bA : Below W.heap.size W (W.alloc (.cells #[.string (str tx), .int .i64 ln] 41 (0, 0))) := (Below.refl _ _).alloc (Nat.le_refl _) _
          have ka0 := (bA.cell (p := ⟨wr.heap.size, 0, none⟩) hqW).trans k0
          have ka1 := (bA.cell (p := ⟨wr.heap.size, 1, none⟩) hqW).trans k1
          go_region_held3 (fun w' => w'.cell? ⟨wr.heap.size, 0, none⟩ = some (.string (str tx)) ∧ w'.cell? ⟨wr.heap.size, 1, none⟩ = some (.int .i64 ln)) (first | exact ⟨k0, k1⟩ | exact ⟨ka0, ka1⟩ | exact s0) (first | (go_at_call 19; (with_reducible refine cs.mono ?_); rintro e w5 ⟨rfl, hb5⟩; have s0 := And.intro ((hb5.cell (p := ⟨wr.heap.size, 0, none⟩) hqW).trans k0) ((hb5.cell (p := ⟨wr.heap.size, 1, none⟩) hqW).trans k1)) | (go_at_call 10; (with_reducible refine (co _).mono ?_); rintro e w6 ⟨rfl, rfl⟩))
          all_goals
            have HB15 := Lib.hid (HBW.out.trans (hb5.mono HBW.out.size))
            clear hb5
            go_wp2_with fail
            go_roundw
            case rel => exact ⟨j + 1, by go_num, by omega, HB15.out⟩
            case measure => simp [intOf]; omega
        · have b5 : decide ((j : Int) < (l.length : Int)) = false := decide_eq_false (by omega)
          have b5n : decide (j < l.length) = false := decide_eq_false hlt
          have HB9 := Lib.hid (HB8.out.trans (hb.mono HB8.out.size))
          clear hb
          go_wp2_with fail
          go_ret
          exact ⟨rfl, HB9.out⟩
set_option maxHeartbeats 8000000 in
set_option maxRecDepth 100000 in
theorem joins_nil (k : Nat) (w : World) (hk : k ≤ 255) :
    Calls Try.prog 7 #[.slice none 0 0, .int .u8 (k : Int)] w fun e w' => e = .returned (.bool true) ∧ Below w.heap.size w w' := by
  have u1 := wr_nat (n := k) (by omega)
  have u2 := wr64_nat (n := k) (by omega)
  clear hk
  have c0 := awake_any w
  have c1 := fun w => few_any [] none 0 w (LxAt.nil _ _ _) (by decide)
  have ch := fun w => hash_any [] none 0 w (LxAt.nil _ _ _) (by decide) (fun x hx => by cases hx)
  rw [show hash (txs []) = 0 from rfl] at ch
  rw [show ([] : List Lx).length = 0 from rfl] at c1 ch
  have cj : ∀ w, Calls Try.prog 22 #[.int .i64 0, .int .i64 0, .int .i64 (IntKind.i64.wrap 0)] w fun e w' => e = .returned (.tuple #[.int .i64 0, .int .i64 0]) ∧ w = w' := fun w => by
    rw [show IntKind.i64.wrap 0 = 0 by decide]
    have := join_any 0 0 0 w
    rw [show joinI 0 0 0 = 0 by decide +kernel, show joinE 0 0 0 = 0 by decide +kernel] at this
    exact this
  have r1 : (k : Int).tmod 1 = 0 := by rw [Int.tmod_eq_emod_of_nonneg (by omega)]; omega
  have r2 : (k : Int) % 1 = 0 := by omega
  go_enter Try.func7, Try.ntmps7
  go_wp2_with fail
  (with_reducible refine c0.mono ?_); rintro e w1 ⟨rfl, hb⟩
  have HB := Lib.hid hb
  clear hb c0
  go_wp2_with fail
  (with_reducible refine (c1 _).mono ?_); rintro e w' ⟨b, rfl, -, rfl⟩
  clear c1
  cases b with
  | false =>
    go_wp2_with fail
    go_ret
    exact ⟨rfl, HB.out⟩
  | true =>
  have CH := Lib.hid ch
  clear ch
  have hbd : Below w1.heap.size w1 w1.drew := ⟨rfl, rfl, rfl, Nat.le_refl _, fun _ _ => rfl⟩
  go_wp2_with fail
  go_region_held3 (fun _ => True) (trivial) (first | (go_at_call 19; (with_reducible refine (CH.out w1.drew).mono ?_); rintro e w5 ⟨rfl, hb5⟩; have hb15 := hbd.trans (hb5.mono hbd.size)) | (go_at_call 19; (with_reducible refine (CH.out _).mono ?_); rintro e w6 ⟨rfl, hb6⟩; have hb16 := hb15.trans (hb6.mono hb15.size)) | (go_at_call 22; (with_reducible refine (cj _).mono ?_); rintro e w7 ⟨rfl, rfl⟩))
  have HB6 := Lib.hid (HB.out.trans (hb16.mono HB.out.size))
  clear hb16 hb15 hb5 hb6
  go_wp2_with fail
  (with_reducible refine (CH.out _).mono ?_); rintro e w7 ⟨rfl, hb7⟩
  have HB7 := Lib.hid (HB6.out.trans (hb7.mono HB6.out.size))
  clear hb7
  go_wp2_with fail
  (with_reducible refine (CH.out _).mono ?_); rintro e w8 ⟨rfl, hb8⟩
  have HB8 := Lib.hid (HB7.out.trans (hb8.mono HB7.out.size))
  clear hb8
  go_wp2_with fail
  go_loopw [51] (fun s51 wr => s51 = .int .i64 0 ∧ wr = w8) (fun _ _ => 0)
  case atStart => exact ⟨rfl, rfl⟩
  case round =>
    obtain ⟨rfl, rfl⟩ := hrel
    go_wp2_with fail
    go_ret
    exact ⟨rfl, HB8.out⟩
theorem joins_law (l : List Lx) (k : Nat) (A : Option Addr) (c : Nat) (w : World) (hA : LxAt w w.heap.size A l) (hl : l.length ≤ 5864062014634) (hc : l.length ≤ c) (hk : k ≤ 255) (hn : A = none → c = 0 ∧ l = []) :
    Calls Try.prog 7 #[.slice A l.length c, .int .u8 (k : Int)] w fun e w' => e = .returned (.bool true) ∧ Below w.heap.size w w' := by
  cases A with
  | none =>
    obtain ⟨rfl, rfl⟩ := hn rfl
    exact joins_nil k w hk
  | some a => exact joins_some l k (some a) ⟨a, rfl⟩ c w hA hl hc hk
end Rl
end Go.Proofs.Ythdokajpiflcoaa
