/- The identifier of a directory. Condition: the listed variables lie as the text lays them. -/
import Derived.Test.YtinkpbobkeppiaaGreatDoorEnt
import Derived.Sort.OwnSorted
namespace Go.Proofs.YtinkpbobkeppiaaGreatDoor
open Go.RowKit Go.Maps Go.Sort

/-- slices.Sort of strings that a call has built. -/
theorem sort_own (v : Value) (B : Nat) (ss : List (List UInt8)) (w : World) (h : w.ownsRow B 9 1 v ss.length (strs ss)) (hl : ss.length ≤ 1000000) :
    Calls Tryz.prog 67 #[v] w fun e w' => e = .returned (.tuple #[]) ∧ w'.ownsRow B 9 1 v ss.length (strs (ss.mergeSort leB)) ∧ w.grownBy w' v.ownBlock := by
  rcases h.2 with ⟨rfl, h0⟩ | ⟨g, cap, cur, rfl, hB, hb, h1, h2, h3, h4⟩
  · have e : ss = [] := List.eq_nil_of_length_eq_zero h0
    subst e
    exact (Tryz.slices_Sort_string_none none 0 w).mono fun e w' hw => ⟨hw.1, by rw [hw.2, show List.mergeSort ([] : List (List UInt8)) leB = [] from by simp]; exact World.ownsRow_nil _ _ _ _, by rw [hw.2]; exact World.grownBy.refl _ _⟩
  · have hH : Holds encStr w g 0 ss.toArray := holds_of_block hb (by rw [Nat.mul_one] at h4; exact h4)
    refine (Tryz.slices_Sort_string g 0 cap ss w hH (Array.getElem?_eq_some_iff.1 hb).1 (by omega)).mono ?_
    rintro e w' ⟨rfl, n, os, rfl⟩
    exact ⟨rfl, ownsRow_sorted (by simp) hB hb h1 h2 h3, grownBy_sorted _⟩
set_option maxHeartbeats 2000000 in
set_option maxRecDepth 100000 in
theorem entry_any (A : Option Addr) (c : Nat) (fs : List Tre.Fl) (hne : fs ≠ []) (w : World) (hA : FlsAt w w.heap.size A fs) (hI : IdAt w) (hL : FlsLen fs) (k : Nat)
    (hX : (∀ f r, fs = f :: r → f.path ≠ []) → Calls Tryz.prog 62 #[.slice A fs.length c] w fun e w' => e = .returned (.string (str (Tre.pid k fs))) ∧ Below w.heap.size w w') :
    Calls Tryz.prog 84 #[.slice A fs.length c] w fun e w' => e = .returned (.string (str (Tre.ent k fs))) ∧ Below w.heap.size w w' := by
  obtain ⟨f, r, rfl⟩ : ∃ f r, fs = f :: r := List.exists_cons_of_ne_nil hne
  obtain ⟨g, o, rfl, hg, h0, h1⟩ := hA 0 (by simp)
  have e0 : w.cell? ⟨g, o, none⟩ = some (.string (str f.path)) := by simpa using h0
  have e1 : w.cell? ⟨g, o + 1, none⟩ = some (.string (str f.data)) := by simpa using h1
  have hlen : (0 : Int) < ((f :: r).length : Nat) := by show (0 : Int) < ((r.length + 1 : Nat) : Int); omega
  have hlen2 : 0 < (f :: r).length := by simp
  have hfl := hL f (by simp)
  generalize (f :: r).length = n at *
  clear h0 h1 hA
  by_cases hp : f.path = []
  · have HE := Lib.hid (show Tre.ent k (f :: r) = Tre.fid f.data from if_pos hp)
    have q1 : (str f.path).toList = [] := by rw [str_list, hp]
    have q2 : (str f.path).toList.isEmpty = true := by rw [q1]; rfl
    have hcall := fileID_any (str f.data) w hI.consts (by rw [str_size]; exact hfl.2)
    rw [show (str f.data).data.toList = f.data from by simp [str]] at hcall
    clear hX hp
    go_enter Tryz.func84, Tryz.ntmps84
    go_wp2_with fail
    with_reducible refine hcall.mono ?_
    clear hcall
    rintro x w1 ⟨rfl, hb1⟩
    go_wp2_with fail
    go_ret
    rw [HE.out]
    exact ⟨rfl, hb1⟩
  · have HE := Lib.hid (show Tre.ent k (f :: r) = Tre.pid k (f :: r) from if_neg hp)
    have q1 : ¬ (str f.path).toList = [] := by rw [str_list]; exact hp
    have q2 : (str f.path).toList.isEmpty = false := by rw [str_list]; cases hq : f.path with | nil => exact absurd hq hp | cons _ _ => rfl
    have hcall := hX fun f' r' e => by injection e with e1 e2; rw [← e1]; exact hp
    generalize Tre.pid k (f :: r) = R at *
    clear hX hp
    go_enter Tryz.func84, Tryz.ntmps84
    go_wp2_with fail
    with_reducible refine hcall.mono ?_
    clear hcall
    rintro x w1 ⟨rfl, hb1⟩
    go_wp2_with fail
    go_ret
    rw [HE.out]
    exact ⟨rfl, hb1⟩
theorem tx_len (l : List (List UInt8)) (h1 : l.length ≤ 1024) (h2 : ∀ x ∈ l, x.length ≤ 65536) : (Tre.tx l).length ≤ 100000000 := by
  have h3 : ∀ l : List (List UInt8), (∀ x ∈ l, x.length ≤ 65536) → (l.flatMap Cd.Cod.txt).length ≤ l.length * 70000 := by
    intro l
    induction l with
    | nil => intro _; simp
    | cons x l ih =>
      intro h
      have a := ih fun y hy => h y (by simp [hy])
      have b := Cd.txt_len (str x) (by rw [str_size]; exact h x (by simp))
      rw [show (str x).data.toList = x from by simp [str]] at b
      simp only [List.flatMap_cons, List.length_append, List.length_cons]
      omega
  have h4 := h3 l h2
  have h5 := Cd.num_len l.length (by omega)
  unfold Tre.tx
  rw [List.length_append]
  omega
/-- The list of names and identifiers of the first entries. -/
def idl (k : Nat) (ts : List Tre.Fl) (ns : List (List UInt8)) : List (List UInt8) := ns.flatMap fun n => [n, Tre.ent k (Tre.group ts n)]
theorem idl_len (k : Nat) (ts : List Tre.Fl) (ns : List (List UInt8)) : (idl k ts ns).length = ns.length * 2 := by
  unfold idl
  induction ns with
  | nil => rfl
  | cons n ns ih => simp only [List.flatMap_cons, List.length_append, ih, List.length_cons, List.length_nil]; omega
theorem idl_snoc (k : Nat) (ts : List Tre.Fl) (ns : List (List UInt8)) (n : List UInt8) : strs (idl k ts ns) ++ [.string (str n), .string (str (Tre.ent k (Tre.group ts n)))] = strs (idl k ts (ns ++ [n])) := by
  unfold idl strs; simp
theorem name_len {ts : List Tre.Fl} (g : Tre.Good ts) {n : List UInt8} (hn : n ∈ Tre.namesOf ts) : n.length ≤ 128 ∧ Tre.group ts n ≠ [] := by
  have h1 := ((Tre.names_spec ts).2 n).1 hn
  refine ⟨?_, Tre.group_ne.2 h1⟩
  obtain ⟨f, hf, rfl⟩ := List.mem_map.1 h1
  have h2 := Tre.ok_len (g.ok f hf)
  have h3 : (Tre.nameOf f.path).length ≤ f.path.length := (List.takeWhile_sublist _).length_le
  omega
theorem idl_each {k : Nat} {ts : List Tre.Fl} (g : Tre.Good ts) : ∀ x ∈ idl k ts (Tre.namesOf ts), x.length ≤ 65536 := fun x hx => by
  unfold idl at hx
  obtain ⟨n, hn, hx⟩ := List.mem_flatMap.1 hx
  simp only [List.mem_cons, List.not_mem_nil, or_false] at hx
  rcases hx with rfl | rfl
  · have := (name_len g hn).1; omega
  · have := Tre.ent_len k (Tre.group ts n); omega
theorem good_lens {ts : List Tre.Fl} (g : Tre.Good ts) : FlsLen ts := fun f hf => by
  have h1 := Tre.ok_len (g.ok f hf)
  have h2 := g.size f hf
  omega
theorem group_lens {ts : List Tre.Fl} (hL : FlsLen ts) (n : List UInt8) : FlsLen (Tre.group ts n) := fun f hf => by
  unfold Tre.group at hf
  obtain ⟨x, hx, rfl⟩ := List.mem_map.1 hf
  have := hL x (List.mem_filter.1 hx).1
  refine ⟨?_, this.2⟩
  have h1 : (Tre.restOf x.path).length ≤ x.path.length := by unfold Tre.restOf; rw [List.length_drop]; omega
  show (Tre.restOf x.path).length ≤ _
  omega
theorem invTok (v : Value) (y : DataW Value × List MemPlace) (_ : tokR v = some y) : ∃ c : Value, v = id c := ⟨v, rfl⟩
theorem invStr (key : Value) (kl : Lit) (h : keyOf Tryz.prog 9 key = some kl) : ∃ x : List UInt8, key = encStr x := by
  obtain ⟨x, hx, _⟩ := Maps.keyOf_str Tryz.underlying9 h; exact ⟨x, hx⟩
set_option maxHeartbeats 8000000 in
set_option maxRecDepth 100000 in
theorem dir_step (k : Nat) (A : Option Addr) (c : Nat) (ts : List Tre.Fl) (g : Tre.Good ts) (w : World) (hA : FlsAt w w.heap.size A ts) (hI : IdAt w)
    (hX : ∀ (n : List UInt8) (A' : Option Addr) (c' : Nat) (w' : World), n ∈ Tre.namesOf ts → (∀ f r, Tre.group ts n = f :: r → f.path ≠ []) → IdAt w' → FlsAt w' w'.heap.size A' (Tre.group ts n) →
      Calls Tryz.prog 62 #[.slice A' (Tre.group ts n).length c'] w' fun e w'' => e = .returned (.string (str (Tre.pid k (Tre.group ts n)))) ∧ Below w'.heap.size w' w'') :
    Calls Tryz.prog 62 #[.slice A ts.length c] w fun e w' => e = .returned (.string (str (Tre.pid (k + 1) ts))) ∧ Below w.heap.size w w' := by
  obtain ⟨i0, hi0, hz0, hz1, hz2⟩ := info_parts infoS
  have hL := good_lens g
  have hlen := g.len
  have hcall := entries_any A c ts w hA (by omega) hL hI.max
  have HP := Lib.hid (show str (Tre.pid (k + 1) ts) = Dg.digS (⟨#[100]⟩ ++ str (Tre.tx (idl k ts (Tre.namesOf ts)))) by
    rw [digS_str, cons_list, Tre.pid_succ, show (str (Tre.tx (idl k ts (Tre.namesOf ts)))).data.toList = Tre.tx (idl k ts (Tre.namesOf ts)) from by simp [str]]; rfl)
  have htx := tx_len (idl k ts (Tre.namesOf ts)) (by rw [idl_len]; have := Tre.names_len ts; omega) (idl_each g)
  have htxt := fun A c w hT hA => texts_any A c (idl k ts (Tre.namesOf ts)) w hT hA (by rw [idl_len]; have := Tre.names_len ts; omega) (idl_each g)
  generalize str (Tre.pid (k + 1) ts) = R at *
  clear hA
  go_enter Tryz.func62, Tryz.ntmps62
  go_wp2_with fail
  with_reducible refine hcall.mono ?_
  clear hcall
  rintro x w1 ⟨b, V, D, rfl, hbb, hG, hb1⟩
  have HG := Lib.hid hG
  have hbl := hG.lt
  clear hG
  go_wp2_with (first | (at_range; refine wpList_range_own _ rfl _ 93 rfl 9 23 kStr Tryz.underlying93 tokR b ts.length D rfl HG.out.own ?_; intro w0 hrg0 hg0 hs0))
  have hk0 : Below w1.heap.size w1 w0 := (Below.refl _ _).grown hg0 (Nat.le_refl _) (fun j hj => by cases hj)
  clear hs0 hg0
  go_frame
  go_loopw [4] (fun v wr => ∃ (left : Lit → Bool) (cnt : Nat) (ss : List (List UInt8)), wr.ranges Tryz.prog 9 tokR b w1.heap.size ts.length D left cnt ∧ Collected D left ss ∧ wr.ownsRow w1.heap.size 9 1 v ss.length (strs ss) ∧ Below w1.heap.size w1 wr) (fun _ wr => wr.rangeLeft b w1.heap.size)
  case atStart => exact ⟨_, _, [], hrg0, Collected.start D, World.ownsRow_nil _ _ _ _, hk0⟩
  case round =>
    clear hrg0 hk0
    obtain ⟨left, cnt, ss, hrg, hC, hrow, hk⟩ := hrel
    have hss := HG.out.count hC
    have HC := Lib.hid hC
    clear hC
    go_wp2_with (first
      | (at_next; refine wpList_next_ranges _ rfl _ rfl 9 kStr tokR encStr id invStr invTok b w1.heap.size ts.length D left cnt rfl hrg ?_ ?_))
    · intro hc0 hl0
      have HN := Lib.hid (HG.out.names HC.out hl0)
      have hsort := sort_own u4 w1.heap.size ss wr hrow (by omega)
      clear hrg hc0 hl0
      go_wp2_with fail
      with_reducible refine hsort.mono ?_
      clear hsort
      rintro x w2 ⟨rfl, hrow2, hg2⟩
      have hk2 := hk.grown hg2 hk.size (fun q hq => (hrow.lt q hq).1)
      have hnl : ss.length = (Tre.namesOf ts).length := by rw [← HN.out]; exact (List.length_mergeSort ss).symm
      rw [HN.out, hnl] at hrow2
      clear hrow hg2 hk HC hss HN hnl
      have HG2 := Lib.hid (HG.out.block (w' := w2) fun q _ hq => hk2.block q hq)
      have hb2 := hb1.trans (hk2.mono hb1.size)
      have hns := Tre.names_len ts
      have HNL := Lib.hid (fun n => name_len (n := n) g)
      generalize Tre.namesOf ts = ns at *
      obtain ⟨AN, cN, rfl, hNc⟩ := owns_cells hrow2
      clear hrow2 HG hbl
      go_wp2_with fail
      go_loopw [6, 27] (fun u i wr => ∃ j : Nat, j ≤ ns.length ∧ i = .int .i64 j ∧ wr.ownsRow w2.heap.size 9 1 u (idl k ts (ns.take j)).length (strs (idl k ts (ns.take j))) ∧ Below w2.heap.size w2 wr) (fun _ i _ => ns.length - (intOf i).toNat)
      case atStart => exact ⟨0, by omega, rfl, World.ownsRow_nil _ _ _ _, Below.refl _ _⟩
      case round =>
        obtain ⟨j, hj, rfl, hown, hkr⟩ := hrel
        by_cases hlt : j < ns.length
        · have b1 : decide ((j : Int) < ns.length) = true := by simp; omega
          have b1n : decide (j < ns.length) = true := by simp; omega
          obtain ⟨gN, oN, rfl, hgN, hcN⟩ := hNc j (by rw [strs_len]; exact hlt)
          rw [strs_get ns j hlt] at hcN
          have hdN := (hkr.cell (p := ⟨gN, oN + j, none⟩) hgN).trans hcN
          have HTK := Lib.hid (show ns.take (j + 1) = ns.take j ++ [ns[j]] from List.take_succ_eq_append_getElem hlt)
          have hmem : ns[j] ∈ ns := List.getElem_mem hlt
          have hil : (idl k ts (ns.take j)).length ≤ 200 := by rw [idl_len]; have : (ns.take j).length ≤ j := List.length_take_le _ _; omega
          generalize ns[j] = n at *
          obtain ⟨hn1, hn2⟩ := HNL.out n hmem
          have hGr := HG2.out.below hkr
          have hrun := hGr.run n (by unfold maxLen; omega) (zTree wr)
          have hgrow := hGr.rows n
          obtain ⟨Ag, cg, hVg, hAg⟩ := owns_fls hgrow
          rw [hVg] at hrun
          have hIr := hI.below (hb2.trans (hkr.mono hb2.size))
          have hcall := entry_any Ag cg (Tre.group ts n) hn2 wr hAg hIr (group_lens hL n) k (fun hp => hX n Ag cg wr hmem hp hIr hAg)
          have HSN := Lib.hid (idl_snoc k ts (ns.take j) n)
          generalize Tre.ent k (Tre.group ts n) = E at *
          clear hcN hgrow hVg hGr hAg hn2
          go_wp2_with fail
          with_reducible refine hcall.mono ?_
          clear hcall hrun hdN
          rintro x w3 ⟨rfl, hb3⟩
          have hown3 := owns_below hown hb3
          have hk3 := hkr.trans (hb3.mono hkr.size)
          have hrow3 := hown3.lt
          clear hown hkr hb3
          go_upto_region 13 with (at_builtin; refine wpList_append_lies _ (by rfl) _ _ 43 (by rfl) w2.heap.size 9 i0 _ 1 16 Tryz.underlying43 hi0 hz0 hz1 hz2 rfl (by omega) u6 (idl k ts (ns.take j)).length _ (by rfl) (hown3.alloc _) ⟨w3.heap.size, 0, none⟩ 2 2 [_, _] (by rfl) (by rfl) (World.news_of_block (cs := #[_, _]) (t := 9) (fr := (0, 0)) (heap_alloc_new w3 _)) (by simp [Value.oneCell']) (by omega) (by unfold maxLen; omega) (by omega) (by have := hk3.size; simp; omega) (w3.heap.size + 1) (by simp) ?_; intro gg cap w4 hown4 hgrow hat hlt4)
          have hk4 : Below w2.heap.size w2 w4 := grown_own0 (hk3.alloc hk3.size _) hgrow (fun q hq => (hrow3 q hq).1)
          rw [HSN.out, ← HTK.out] at hown4
          have hown5 : w4.ownsRow w2.heap.size 9 1 (.slice (some ⟨gg, 0, none⟩) ((idl k ts (ns.take j)).length + 2) cap) (idl k ts (ns.take (j + 1))).length (strs (idl k ts (ns.take (j + 1)))) := by
            have e : (idl k ts (ns.take (j + 1))).length = (idl k ts (ns.take j)).length + 2 := by rw [idl_len, idl_len, HTK.out, List.length_append, List.length_singleton]; omega
            rw [e]; exact hown4
          clear hown4 hown3 hgrow hat hlt4 hrow3 hk3 HSN
          go_wp2_with fail
          go_roundw
          case rel => exact ⟨j + 1, by omega, by go_num, hown5, hk4⟩
          case measure => simp [intOf]; omega
        · have b1 : decide ((j : Int) < ns.length) = false := by simp; omega
          have b1n : decide (j < ns.length) = false := by simp; omega
          rw [List.take_of_length_le (by omega)] at hown
          obtain ⟨AL, cL, rfl, hLc⟩ := owns_cells hown
          have hbr := hb2.trans (hkr.mono hb2.size)
          have hIr := hI.below hbr
          have hcall := htxt AL cL wr hIr.tabs hLc
          clear hown hLc htxt hkr
          generalize Tre.tx (idl k ts ns) = T at *
          generalize (idl k ts ns).length = z at *
          go_wp2_with fail
          with_reducible refine hcall.mono ?_
          clear hcall
          rintro x w3 ⟨rfl, hb3⟩
          have hb4 := hbr.trans (hb3.mono hbr.size)
          have hz : (⟨#[100]⟩ : ByteArray).size ≤ 1 := Nat.le_refl _
          have hTs : (str T).size ≤ 100000000 := by rw [str_size]; exact htx
          have hz3 : ((⟨#[100]⟩ : ByteArray) ++ str T).size ≤ 100000001 := by rw [ByteArray.size_append, one_size]; omega
          have hcall := Dg.sum_any ((⟨#[100]⟩ : ByteArray) ++ str T) w3 (hI.below hb4).consts (by omega)
          clear HG2 HNL hNc hX hns htx hbr hk2 hb3 b1 b1n
          generalize str T = sT at *
          generalize Dg.digS ((⟨#[100]⟩ : ByteArray) ++ sT) = dS at *
          go_wp2_with fail
          with_reducible refine hcall.mono ?_
          clear hcall
          rintro x w4 ⟨rfl, hb5⟩
          go_wp2_with fail
          go_ret
          exact ⟨by rw [HP.out]; rfl, hb4.trans (hb5.mono hb4.size)⟩
    · intro x cc kl yd yp w2 cnt2 hkey hlk hv hat hrg2 hlt2 hg2 hs2 hen
      obtain ⟨x', ex, rfl, hxl⟩ := Maps.keyOf_str Tryz.underlying9 hkey
      obtain rfl : x = x' := encStr_inj ex
      have HC2 := Lib.hid (HC.out.step hlk hat)
      have hrow2 := hrow.kept hg2 (Or.inr (row_ne_iter hrow hrg).symm)
      have hk2 := hk.grown hg2 hk.size (fun q hq => by cases hq; exact Nat.le_refl _)
      have HM := Lib.hid (show wr.rangeLeft b w1.heap.size = cnt from hrg.left_eq)
      have hbn : some b ≠ u4.ownBlock := fun e => by have := (hrow2.lt b e.symm).1; omega
      clear hs2 hlk hv hat hkey hrow hrg hg2 HC hk
      have hk2s := hk2.size
      go_wp2_with (at_builtin; refine wpList_append_lies _ (by rfl) _ _ 43 (by rfl) w1.heap.size 9 i0 _ 1 16 Tryz.underlying43 hi0 hz0 hz1 hz2 rfl (by omega) u4 ss.length _ (by rfl) (hrow2.alloc _) ⟨w2.heap.size, 0, none⟩ 1 1 [_] (by rfl) (by rfl) (World.news_of_block (cs := #[_]) (t := 9) (fr := (0, 0)) (heap_alloc_new w2 _)) (by simp [Value.oneCell', encStr]) (by omega) (by unfold maxLen; omega) (by omega) (by simp; omega) (w2.heap.size + 1) (by simp) ?_; intro gg cap w3 hown3 hgrow hat3 hlt3)
      have hrg3 := (hrg2.alloc _).kept hgrow hbn (row_ne_iter hrow2 hrg2)
      have hk3 : Below w1.heap.size w1 w3 := (hk2.alloc hk2s _).grown hgrow (by simp; omega) (fun q hq => (hrow2.lt q hq).1)
      have hown4 : w3.ownsRow w1.heap.size 9 1 (.slice (some ⟨gg, 0, none⟩) (ss.length + 1) cap) (ss ++ [x]).length (strs (ss ++ [x])) := by
        rw [← strs_snoc, List.length_append, List.length_singleton]; exact hown3
      clear hown3 hgrow hat3 hlt3 hrow2 hrg2 hk2
      go_roundw
      case rel => exact ⟨_, cnt2, ss ++ [x], hrg3, HC2.out, hown4, hk3⟩
      case measure => rw [hrg3.left_eq, HM.out]; exact hlt2
theorem dir_any : ∀ (k : Nat) (A : Option Addr) (c : Nat) (ts : List Tre.Fl) (_ : Tre.Good ts) (_ : ∀ f ∈ ts, Tre.dep f.path ≤ k + 1) (w : World) (_ : FlsAt w w.heap.size A ts) (_ : IdAt w),
    Calls Tryz.prog 62 #[.slice A ts.length c] w fun e w' => e = .returned (.string (str (Tre.pid (k + 1) ts))) ∧ Below w.heap.size w w' := by
  intro k
  induction k with
  | zero =>
    intro A c ts g hd w hA hI
    refine dir_step 0 A c ts g w hA hI fun n A' c' w' hn hp hI' hA' => ?_
    obtain ⟨f, hf, e⟩ := List.mem_map.1 (((Tre.names_spec ts).2 n).1 hn)
    by_cases hx : ∃ f ∈ ts, f.path = n
    · obtain ⟨f2, hf2, e2⟩ := hx
      have h1 := g.alone hf2 (fun x hx => by rw [e2, ← e] at hx; exact Tre.name_pure _ x hx)
      rw [e2] at h1
      exact absurd rfl (hp _ _ h1)
    · have hne : ∀ f ∈ ts, f.path ≠ n := fun f hf e => hx ⟨f, hf, e⟩
      obtain ⟨f3, r, e3⟩ := List.exists_cons_of_ne_nil (name_len g hn).2
      have h1 := Tre.group_dep hne hd f3 (by rw [e3]; simp)
      have h2 := Tre.dep_pos f3.path
      omega
  | succ k ih =>
    intro A c ts g hd w hA hI
    refine dir_step (k + 1) A c ts g w hA hI fun n A' c' w' hn hp hI' hA' => ?_
    obtain ⟨f, hf, e⟩ := List.mem_map.1 (((Tre.names_spec ts).2 n).1 hn)
    by_cases hx : ∃ f ∈ ts, f.path = n
    · obtain ⟨f2, hf2, e2⟩ := hx
      have h1 := g.alone hf2 (fun x hx => by rw [e2, ← e] at hx; exact Tre.name_pure _ x hx)
      rw [e2] at h1
      exact absurd rfl (hp _ _ h1)
    · have hne : ∀ f ∈ ts, f.path ≠ n := fun f hf e => hx ⟨f, hf, e⟩
      exact ih A' c' (Tre.group ts n) (g.group hne) (Tre.group_dep hne hd) w' hA' hI'
/-- What ID returns. -/
def idV (ts : List Tre.Fl) : Value := .tuple #[.string (str (Tre.idR ts).1), .int .i64 (Tre.idR ts).2]
theorem id_any (A : Option Addr) (c : Nat) (ts : List Tre.Fl) (w : World) (hA : FlsAt w w.heap.size A ts) (hl : ts.length ≤ 1000000000) (hL : FlsLen ts) (hI : IdAt w) (hcap : ts.length ≤ c) (hcap2 : c ≤ maxLen) :
    Calls Tryz.prog 28 #[.slice A ts.length c] w fun e w' => e = .returned (idV ts) ∧ Below w.heap.size w w' := by
  have hck := check_any A c ts w hA hl hL hI.max hcap hcap2
  by_cases h0 : Tre.check ts = 0
  · have g := (Tre.good_iff ts).1 h0
    have HV := Lib.hid (show idV ts = .tuple #[.string (str (Tre.pid 9 ts)), .int .i64 0] by unfold idV Tre.idR; rw [if_neg (fun h => h h0)])
    rw [h0] at hck
    have hd := fun w' hb => dir_any 8 A c ts g (fun f hf => by have := Tre.ok_dep (g.ok f hf); omega) w' (hA.next hb) (hI.below hb)
    generalize Tre.pid (8 + 1) ts = P at *
    generalize idV ts = R at *
    go_enter Tryz.func28, Tryz.ntmps28
    go_wp2_with fail
    with_reducible refine hck.mono ?_
    clear hck
    rintro x w1 ⟨rfl, hb1⟩
    have hcall := hd w1 hb1
    go_wp2_with fail
    with_reducible refine hcall.mono ?_
    clear hcall
    rintro x w2 ⟨rfl, hb2⟩
    go_wp2_with fail
    go_ret2
    exact ⟨HV.out ▸ rfl, hb1.trans (hb2.mono hb1.size)⟩
  · have q1 : (Tre.check ts != 0) = true := by rw [bne_iff_ne]; exact h0
    have HV := Lib.hid (show idV ts = .tuple #[.string ⟨#[]⟩, .int .i64 1] by unfold idV Tre.idR; rw [if_pos h0]; rfl)
    generalize Tre.check ts = e at *
    generalize idV ts = R at *
    clear h0
    go_enter Tryz.func28, Tryz.ntmps28
    go_wp2_with fail
    with_reducible refine hck.mono ?_
    clear hck
    rintro x w1 ⟨rfl, hb1⟩
    go_wp2_with fail
    go_ret2
    exact ⟨HV.out ▸ rfl, hb1⟩
end Go.Proofs.YtinkpbobkeppiaaGreatDoor
