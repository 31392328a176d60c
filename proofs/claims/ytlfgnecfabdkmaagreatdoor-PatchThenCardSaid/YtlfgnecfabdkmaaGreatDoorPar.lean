/- Parse of the program on the text of hunks with few lines. Condition: the variables that the program reads lie. -/
import Derived.Test.YtlfgnecfabdkmaaGreatDoorPhd
import Derived.Test.YtlfgnecfabdkmaaGreatDoorIn2
namespace Go.Proofs.YtlfgnecfabdkmaaGreatDoor
open Go.RowKit Go.Deep Tr

def slLen : Value → Nat
  | .slice _ n _ => n
  | _ => 0
/-- What Parse has by now. -/
structure Cp (w : World) (B pb : Nat) (l : List Hc) (v : Value) : Prop where
  pat : w.heap[pb]? = some (.cells #[.string ⟨#[]⟩, v] 24 (0, 0))
  row : w.ownsRow B 54 3 v l.length (hcsV l)
  lns : ∀ x ∈ l, LnS w x
  lop : B ≤ pb
theorem Cp.next {w w' : World} {B pb : Nat} {l : List Hc} {v : Value} (h : Cp w B pb l v) (hb : Below w.heap.size w w') : Cp w' B pb l v :=
  ⟨(hb.block _ (blk_lt h.pat)).trans h.pat, owns_below h.row hb, fun x hx => (h.lns x hx).keep (KeptS.of hb), h.lop⟩
theorem Cp.add {w W w6 : World} {B pb : Nat} {l : List Hc} (x : Hc) {v : Value} {gg cap : Nat} (h : Cp w B pb l v) (hb : Below w.heap.size w W) (hB : B ≤ w.heap.size)
    (h6 : w6.ownsRow B 54 3 (.slice (some ⟨gg, 0, none⟩) (l.length + 1) cap) (l.length + 1) (hcsV (l ++ [x]))) (hg : W.grownBy w6 v.ownBlock) (hx : LnS W x) :
    Cp (w6.setCell ⟨pb, 1, none⟩ (.slice (some ⟨gg, 0, none⟩) (l.length + 1) cap)) B pb (l ++ [x]) (.slice (some ⟨gg, 0, none⟩) (l.length + 1) cap) ∧ Below B w (w6.setCell ⟨pb, 1, none⟩ (.slice (some ⟨gg, 0, none⟩) (l.length + 1) cap)) ∧ w6.cell? ⟨pb, 1, none⟩ = some v ∧ w6.frozen? ⟨pb, 1, none⟩ = false := by
  have ho := owns_below h.row hb
  have hpW := (hb.block _ (blk_lt h.pat)).trans h.pat
  have p6 := blk_grown0 hpW hg (own_far ho hpW (by decide))
  have k1 : KeptS W w6 := KeptS.grown hg ho
  have k6 : KeptS w w6 := (KeptS.of hb).trans k1
  have k7 : KeptS w6 (w6.setCell ⟨pb, 1, none⟩ (.slice (some ⟨gg, 0, none⟩) (l.length + 1) cap)) := KeptS.set p6 (.inr rfl)
  have B6 : Below B w w6 := (hb.mono hB).trans ⟨hg.os, hg.tape, hg.output, hg.size, fun k hk => hg.block k (by have := hb.size; omega) (fun e => by have := (ho.lt k e.symm).1; omega)⟩
  refine ⟨⟨heap_setCell_same w6 pb 1 _ _ _ p6, ?_, fun z hz => ?_, h.lop⟩, B6.setCell (p := ⟨pb, 1, none⟩) h.lop _, by rw [cell_of_row _ _ _ _ _ _ p6]; rfl, frozen_of_row w6 pb 1 _ _ p6⟩
  · rw [List.length_append, List.length_singleton]
    refine h6.kept (row := some pb) ⟨rfl, rfl, rfl, by simp, fun k _ hk => heap_setCell_other w6 ⟨pb, 1, none⟩ k _ (fun e => hk (by rw [e]))⟩ (.inr ?_)
    exact own_far h6 p6 (by decide)
  · rcases List.mem_append.1 hz with hz | hz
    · exact (h.lns z hz).keep (k6.trans k7)
    · rw [List.mem_singleton.1 hz]
      exact hx.keep (k1.trans k7)
theorem Cp.hsT {w : World} {B pb : Nat} {l : List Hc} {v : Value} (h : Cp w B pb l v) : ∃ A c, v = .slice A (l.map (·.h)).length c ∧ HsT w A (l.map (·.h)) := by
  rcases h.row.2 with ⟨rfl, h0⟩ | ⟨g, cap, cur, rfl, hb, hg, h1, h2, _, ht⟩
  · have : l = [] := List.length_eq_zero_iff.1 h0
    subst this
    exact ⟨none, 0, rfl, fun k hk => by simp at hk⟩
  · refine ⟨some ⟨g, 0, none⟩, cap, by rw [List.length_map], fun k hk => ?_⟩
    have hk' : k < l.length := by simpa using hk
    refine ⟨g, 0, cur, (0, 0), l[k], rfl, hg, by rw [List.getElem_map], fun i u hu => ?_, h.lns l[k] (List.getElem_mem hk')⟩
    have hi : i < 3 := (List.getElem?_eq_some_iff.1 hu).1
    have e := hcsV_at l k i hk' hi
    rw [← ht, List.getElem?_take, if_pos (by omega), hu] at e
    rw [Nat.zero_add, ← Array.getElem?_toList]; exact e
theorem head_any (h : Pc.Hk) (hh : Pc.isHunk h = true) (h9 : h.n ≤ 9) (w : World) : Calls Tryz.prog 46 #[.string (str (Pc.headL h))] w fun e w' => e = .returned (.tuple #[.agg #[.int .i64 h.kind, .int .i64 h.n, .slice none 0 0], .bool true]) ∧ Below w.heap.size w w' := by
  obtain ⟨⟨n1, n2⟩, hk, _⟩ := Pc.isHunk_num hh
  rw [headL_def]
  obtain ⟨kd, n, ls⟩ := h
  dsimp only at *
  obtain ⟨m, rfl⟩ : ∃ m : Nat, n = m := ⟨n.toNat, by omega⟩
  rw [show ((m : Int)).toNat = m from rfl, dec_digit m (by omega)]
  rcases hk with rfl | rfl | rfl
  · exact head_1 m (by omega) (by omega) w
  · exact head_2 m (by omega) (by omega) w
  · exact head_3 m (by omega) (by omega) w
theorem head_noBase (h : Pc.Hk) : Pc.baseW.isPrefixOf (Pc.headL h) = false := by
  rw [headL_def, word_def]
  split
  · rfl
  · split <;> rfl
theorem isHunk_ls {h : Pc.Hk} (hh : Pc.isHunk h = true) : (h.kind = 3 → h.n = h.ls.length) ∧ (h.kind ≠ 3 → h.ls = []) := by
  unfold Pc.isHunk at hh
  split at hh
  · rename_i e
    have := (Bool.and_eq_true_iff.1 hh).2
    exact ⟨fun e3 => by omega, fun _ => List.length_eq_zero_iff.1 (by simpa using this)⟩
  · split at hh
    · rename_i e
      have := (Bool.and_eq_true_iff.1 hh).2
      exact ⟨fun _ => (by simpa using this : (h.ls.length : Int) = h.n).symm, fun e3 => absurd e e3⟩
    · exact absurd hh (by simp)
theorem body_len : ∀ hs : List Pc.Hk, hs.length ≤ (Pc.bodyL hs).length
  | [] => Nat.le_refl _
  | h :: t => by
    have := body_len t
    simp only [Pc.bodyL, List.length_cons, List.length_append] at *
    omega
theorem body_mem : ∀ (t : List Pc.Hk), ∀ h ∈ t, ∀ l ∈ h.ls, l ∈ Pc.bodyL t
  | [], h, hh, _, _ => by simp at hh
  | a :: b, h, hh, l, hl => by
    rcases List.mem_cons.1 hh with e | e
    · subst e; simp [Pc.bodyL, hl]
    · have := body_mem b h e l hl
      simp [Pc.bodyL, this]
/-- What Parse answers. -/
def parseR (hs : List Pc.Hk) : Pc.Pa × Int := if Pc.valid ⟨[], hs⟩ = true then (⟨[], hs⟩, 0) else (⟨[], []⟩, 4)
theorem parseR_def (hs : List Pc.Hk) : parseR hs = if Pc.valid ⟨[], hs⟩ = true then (⟨[], hs⟩, 0) else (⟨[], []⟩, 4) := rfl
set_option maxHeartbeats 8000000 in
set_option maxRecDepth 100000 in
theorem parse_any (hs : List Pc.Hk) (s : ByteArray) (w : World) (hI : IdAt w) (hss : s.size ≤ 1000000000) (hl : Tre.lines s.data.toList = (Pc.bodyL hs, 0)) (hH : ∀ h ∈ hs, Pc.isHunk h = true) (h9 : ∀ h ∈ hs, h.n ≤ 9) :
    Calls Tryz.prog 16 #[.string s] w (GotPa w (parseR hs)) := by
  have HD := Lib.hid (parseR_def hs)
  generalize parseR hs = R at *
  obtain ⟨i0, hi0, hz0, hz1, hz2⟩ := info_parts infoS
  obtain ⟨ih, hih, hzh0, hzh1, hzh2⟩ := info_parts infoH
  have hb0 : Below w.heap.size w (w.alloc (.cells #[.string ⟨#[]⟩, .slice none 0 0] 24)) := (Below.refl _ _).alloc (Nat.le_refl _) _
  have hk0 := heap_alloc_new w (.cells #[.string ⟨#[]⟩, .slice none 0 0] 24)
  have hl1 := lines_any s _ hss (hI.below hb0).max
  obtain ⟨hlen1, hlen2, hlen3⟩ : 1 ≤ (Pc.bodyL hs).length ∧ (Pc.bodyL hs).length ≤ 1024 ∧ ∀ x ∈ Pc.bodyL hs, x.length ≤ s.data.toList.length := by
    rcases lines_cases s.data.toList with ⟨he, _⟩ | ⟨l, h1, h2, h3, h4⟩
    · rw [hl] at he; exact absurd rfl he
    · rw [hl] at h1; injection h1 with h1; subst h1; exact ⟨h2, h3, h4⟩
  rw [size_data] at hlen3
  have hsz := text_len hl
  rw [size_data] at hsz
  have HSZ := Lib.hid hsz
  clear hsz
  have HL3 := Lib.hid hlen3
  have HHK := Lib.hid hH
  have H9 := Lib.hid h9
  clear hlen3 hH h9
  go_enter Tryz.func16, Tryz.ntmps16
  go_wp2_with fail
  with_reducible refine hl1.mono ?_
  clear hl1
  rintro x w1 ⟨v1, rfl, ho1, hb1⟩
  have hb01 := hb0.trans (hb1.mono hb0.size)
  have hk1 := (hb1.block _ (blk_lt hk0)).trans hk0
  have hI1 := hI.below hb01
  clear hb0 hk0 hb1 hI
  rw [hl] at ho1 ⊢
  dsimp only at ho1
  obtain ⟨ga, ca, rfl, _, hga, hca, hcam, _⟩ := own_pos ho1 (by omega)
  obtain ⟨A1, c1, he1, hA1⟩ := owns_cells ho1
  injection he1 with he1 _ he1c
  subst he1 he1c
  clear hl ho1
  obtain ⟨h0, ht, hs0⟩ : ∃ h0 ht, hs = h0 :: ht := by
    cases hs with
    | nil => simp [Pc.bodyL] at hlen1
    | cons a b => exact ⟨a, b, rfl⟩
  have hd0 : w1.cell? ⟨ga, 0, none⟩ = some (.string (str (Pc.headL h0))) := by
    obtain ⟨g', o', e, _, hc⟩ := hA1 0 (by rw [strs_len]; omega)
    injection e with e
    injection e with e1 e2
    subst e1 e2
    rw [strs_get _ 0 (by omega)] at hc
    rw [show (Pc.bodyL hs)[0] = Pc.headL h0 by simp [hs0, Pc.bodyL]] at hc
    exact hc
  have HS0 := Lib.hid hs0
  have hcp := fun w => cut_no (Pc.headL h0) Pc.baseW (head_noBase h0) w
  rw [← baseW_str] at hcp
  clear hs0
  generalize str (Pc.headL h0) = ln at *
  have HBL := Lib.hid (show Pc.bodyL hs = Pc.bodyL (hs.drop 0) from rfl)
  have hBW : Below w1.heap.size w1 (w1.alloc (.cells #[.string ⟨#[]⟩, .slice none 0 0] 24)) := (Below.refl _ _).alloc (Nat.le_refl _) _
  have HPB := Lib.hid (heap_alloc_new w1 (.cells #[.string ⟨#[]⟩, .slice none 0 0] 24))
  have hd1 := (hBW.cell (p := ⟨ga, 0, none⟩) hga).trans hd0
  have HLN := Lib.hid hlen2
  generalize Pc.bodyL hs = rest0 at *
  go_wp2_with (go_at_call 44; (with_reducible refine (hcp _).mono ?_); rintro e w' ⟨rfl, rfl⟩)
  go_loopw [4] (fun s4 wr => ∃ (k : Nat) (rest : List (List UInt8)) (A' : Option Addr) (c' : Nat) (l : List Hc) (v : Value), k ≤ hs.length ∧ s4 = .slice A' rest.length c' ∧ CellsAt w1 w1.heap.size A' (strs rest) ∧ rest.length ≤ c' ∧ c' ≤ maxLen ∧ rest.length ≤ 1024 ∧ rest = Pc.bodyL (hs.drop k) ∧ l.map (·.h) = hs.take k ∧ Cp wr w1.heap.size w1.heap.size l v ∧ Below w1.heap.size w1 wr) (fun s4 _ => slLen s4)
  case atStart => exact ⟨0, rest0, _, _, [], .slice none 0 0, by omega, rfl, hA1, hca, hcam, hlen2, HBL.out, rfl, ⟨HPB.out, World.ownsRow_nil _ _ _ _, fun x hx => by simp at hx, Nat.le_refl _⟩, hBW⟩
  case round =>
    clear HPB hBW hd0 hd1 hcp hA1 hca hcam hlen1 hlen2
    obtain ⟨k, rest, A', c', l, v, hk, rfl, hL, hc', hcm, hrl, hrest, hlm, hCp, hb⟩ := hrel
    have HLM := Lib.hid hlm
    have HRS := Lib.hid hrest
    have HC := Lib.hid hCp
    clear hlm hrest hCp
    by_cases hlt : k < hs.length
    · have hx := HRS.out
      rw [list_drop hs k hlt] at hx
      have hhk := HHK.out hs[k] (List.getElem_mem hlt)
      have h9 := H9.out hs[k] (List.getElem_mem hlt)
      have HT1 := Lib.hid (show hs.take (k + 1) = hs.take k ++ [hs[k]] by rw [List.take_succ_eq_append_getElem hlt])
      generalize hs[k] = h at *
      have hhd := fun w => head_any h hhk h9 w
      obtain ⟨hl3, hl0⟩ := isHunk_ls hhk
      obtain ⟨⟨n1, n2⟩, hkd, _⟩ := Pc.isHunk_num hhk
      clear hhk h9
      obtain ⟨rest1, hr1⟩ : ∃ rest1, rest1 = h.ls ++ Pc.bodyL (hs.drop (k + 1)) := ⟨_, rfl⟩
      have hx1 : rest = Pc.headL h :: rest1 := by rw [hx, hr1]; rfl
      have HR1 := Lib.hid hr1
      clear hx hr1 HRS
      subst hx1
      rw [List.length_cons] at hc' hrl
      obtain ⟨g', o', rfl, hg', hcell⟩ := cells_row hL (by simp [strs])
      have hd0 : wr.cell? ⟨g', o', none⟩ = some (.string (str (Pc.headL h))) := (hb.cell (p := ⟨g', o', none⟩) hg').trans (hcell 0 _ rfl)
      have HLD := Lib.hid (cells_drop hL 1)
      have g0 : decide ((0 : Int) < ((rest1.length + 1 : Nat) : Int)) = true := decide_eq_true (by omega)
      have g0n : decide (0 < rest1.length + 1) = true := decide_eq_true (by omega)
      rw [List.length_cons]
      rw [show (List.drop 1 (Pc.headL h :: rest1)) = rest1 from rfl] at HLD
      clear hL hcell
      have hhw := hhd wr
      generalize str (Pc.headL h) = ln at *
      go_upto_region 13 with (go_at_call 46; (with_reducible refine hhw.mono ?_); rintro e w3 ⟨rfl, hb3⟩)
      go_cut [4] from 39 to 86 (fun s4 wx => ∃ (A2 : Option Addr) (c2 : Nat), s4 = .slice A2 rest1.length c2 ∧ CellsAt w1 w1.heap.size A2 (strs rest1) ∧ rest1.length ≤ c2 ∧ c2 ≤ maxLen ∧ wx = w3.alloc (.cells #[.int .i64 h.kind, .int .i64 h.n, .slice none 0 0] 54))
      case first =>
        by_cases hc1 : c' = 1
        · subst hc1
          have hz : rest1.length = 0 := by omega
          go_wp2_with fail
          go_meet
          exact ⟨some ⟨g', o', none⟩, 0, by first | rfl | (simp; done) | (simp; omega), fun i hi => by rw [strs_len] at hi; omega, by omega, by unfold maxLen; omega, rfl⟩
        · go_wp2_with fail
          go_meet
          exact ⟨some ⟨g', o' + 1, none⟩, c' - 1, by first | rfl | (simp; done), HLD.out, by omega, by omega, rfl⟩
      case rest =>
      obtain ⟨A2, c2, rfl, hL2, hc2, hcm2, rfl⟩ := hcut
      clear hd0 g0 g0n hhw hhd HLD hcm hg' hc'
      obtain ⟨kd, n, xs⟩ := h
      dsimp only at *
      obtain ⟨m, rfl⟩ : ∃ m : Nat, n = m := ⟨n.toNat, by omega⟩
      have hbW : Below w1.heap.size w1 (w3.alloc (.cells #[.int .i64 kd, .int .i64 m, .slice none 0 0] 54)) := (hb.trans (hb3.mono hb.size)).alloc (hb.trans (hb3.mono hb.size)).size _
      have hCw := HC.out.next (show Below wr.heap.size wr (w3.alloc (.cells #[.int .i64 kd, .int .i64 m, .slice none 0 0] 54)) from hb3.alloc hb3.size _)
      have hblk := heap_alloc_new w3 (.cells #[.int .i64 kd, .int .i64 m, .slice none 0 0] 54)
      have hq : w1.heap.size ≤ w3.heap.size := (hb.trans (hb3.mono hb.size)).size
      have hll : l.length ≤ 1024 := by
        have h1 := HLN.out
        rw [show rest0 = Pc.bodyL hs from HBL.out] at h1
        have h2 := body_len hs
        have h3 := congrArg List.length HLM.out
        rw [List.length_map, List.length_take] at h3
        omega
      have hbrW : Below wr.heap.size wr (w3.alloc (.cells #[.int .i64 kd, .int .i64 m, .slice none 0 0] 54)) := hb3.alloc hb3.size _
      have hqr : wr.heap.size ≤ w3.heap.size := hb3.size
      clear hb hb3
      generalize w3.alloc (.cells #[.int .i64 kd, .int .i64 m, .slice none 0 0] 54) = W at *
      generalize w3.heap.size = q at *
      have hWs := hbW.size
      have p1 : W.cell? ⟨w1.heap.size, 1, none⟩ = some v := by rw [cell_of_row _ _ _ _ _ _ hCw.pat]; rfl
      rcases hkd with rfl | rfl | rfl
      · obtain rfl := hl0 (by decide)
        have e0 : W.cell? ⟨q, 0, none⟩ = some (.int .i64 1) := by rw [cell_of_row _ _ _ _ _ _ hblk]; rfl
        have e1 : W.cell? ⟨q, 1, none⟩ = some (.int .i64 m) := by rw [cell_of_row _ _ _ _ _ _ hblk]; rfl
        have e2 : W.cell? ⟨q, 2, none⟩ = some (.slice none 0 0) := by rw [cell_of_row _ _ _ _ _ _ hblk]; rfl
        clear hblk hl0 hl3
        go_wp2_with (at_builtin; refine wpList_append_lies _ (by rfl) _ _ 22 (by rfl) w1.heap.size 54 ih _ 3 40 Tryz.underlying22 hih hzh0 hzh1 hzh2 rfl (by omega) v l.length _ (by rfl) (hCw.row.alloc _) ⟨W.heap.size, 0, none⟩ 1 1 [_, _, _] (by rfl) (by rfl) (World.news_of_block (cs := #[_, _, _]) (t := 54) (fr := (0, 0)) (heap_alloc_new W _)) (by simp [Value.oneCell']) (by omega) (by unfold maxLen; omega) (by omega) (by simp; omega) (W.heap.size + 1) (by simp) ?_; intro gg cap w6 hown6 hgrow hat hlt6; obtain ⟨z1, z2, z3, z4⟩ := hCw.add (W := W.alloc _) ⟨⟨1, m, []⟩, none, 0⟩ ((Below.refl _ _).alloc (Nat.le_refl _) _) hbW.size (by rw [hcsV_app, hcsV_one]; exact hown6) hgrow ⟨Nat.le_refl _, Nat.zero_le _, .inl rfl⟩)
        go_roundw
        case rel => exact ⟨k + 1, rest1, A2, c2, _, _, by omega, rfl, hL2, hc2, hcm2, by omega, by rw [HR1.out]; rfl, by rw [List.map_append, HLM.out, HT1.out]; rfl, z1, hbW.trans z2⟩
        case measure => show rest1.length < rest1.length + 1; omega
      · obtain rfl := hl0 (by decide)
        have e0 : W.cell? ⟨q, 0, none⟩ = some (.int .i64 2) := by rw [cell_of_row _ _ _ _ _ _ hblk]; rfl
        have e1 : W.cell? ⟨q, 1, none⟩ = some (.int .i64 m) := by rw [cell_of_row _ _ _ _ _ _ hblk]; rfl
        have e2 : W.cell? ⟨q, 2, none⟩ = some (.slice none 0 0) := by rw [cell_of_row _ _ _ _ _ _ hblk]; rfl
        clear hblk hl0 hl3
        go_wp2_with (at_builtin; refine wpList_append_lies _ (by rfl) _ _ 22 (by rfl) w1.heap.size 54 ih _ 3 40 Tryz.underlying22 hih hzh0 hzh1 hzh2 rfl (by omega) v l.length _ (by rfl) (hCw.row.alloc _) ⟨W.heap.size, 0, none⟩ 1 1 [_, _, _] (by rfl) (by rfl) (World.news_of_block (cs := #[_, _, _]) (t := 54) (fr := (0, 0)) (heap_alloc_new W _)) (by simp [Value.oneCell']) (by omega) (by unfold maxLen; omega) (by omega) (by simp; omega) (W.heap.size + 1) (by simp) ?_; intro gg cap w6 hown6 hgrow hat hlt6; obtain ⟨z1, z2, z3, z4⟩ := hCw.add (W := W.alloc _) ⟨⟨2, m, []⟩, none, 0⟩ ((Below.refl _ _).alloc (Nat.le_refl _) _) hbW.size (by rw [hcsV_app, hcsV_one]; exact hown6) hgrow ⟨Nat.le_refl _, Nat.zero_le _, .inl rfl⟩)
        go_roundw
        case rel => exact ⟨k + 1, rest1, A2, c2, _, _, by omega, rfl, hL2, hc2, hcm2, by omega, by rw [HR1.out]; rfl, by rw [List.map_append, HLM.out, HT1.out]; rfl, z1, hbW.trans z2⟩
        case measure => show rest1.length < rest1.length + 1; omega
      · obtain rfl : m = xs.length := by have := hl3 rfl; omega
        clear hl3 hl0
        have hmr : xs.length ≤ rest1.length := by rw [HR1.out, List.length_append]; omega
        have hm1 : 1 ≤ xs.length := by omega
        have hmc : xs.length ≤ c2 := by omega
        have g3 : decide ((rest1.length : Int) < (xs.length : Int)) = false := decide_eq_false (by omega)
        have g3n : decide (rest1.length < xs.length) = false := decide_eq_false (by omega)
        have hLx : CellsAt w1 w1.heap.size A2 (strs xs) := by
          have := cells_take hL2 xs.length
          rw [HR1.out, List.take_left] at this
          exact this
        obtain ⟨g2, o2, rfl, hg2, hcell⟩ := cells_row hLx (by rw [strs_len]; omega)
        have hcw := fun j u h => (hbW.drew.cell (p := ⟨g2, o2 + j, none⟩) hg2).trans (hcell j u h)
        have e0 : W.cell? ⟨q, 0, none⟩ = some (.int .i64 3) := by rw [cell_of_row _ _ _ _ _ _ hblk]; rfl
        have e1 : W.cell? ⟨q, 1, none⟩ = some (.int .i64 xs.length) := by rw [cell_of_row _ _ _ _ _ _ hblk]; rfl
        have e2 : W.cell? ⟨q, 2, none⟩ = some (.slice none 0 0) := by rw [cell_of_row _ _ _ _ _ _ hblk]; rfl
        have HBK := Lib.hid hblk
        clear hblk hcell
        go_upto_region 17 with fail
        go_cut [] from 39 to 86 (fun wx => ∃ (A9 : Option Addr) (c9 : Nat), wx.heap[q]? = some (.cells #[.int .i64 3, .int .i64 xs.length, .slice A9 xs.length c9] 54 (0, 0)) ∧ LnS wx ⟨⟨3, xs.length, xs⟩, A9, c9⟩ ∧ Below wr.heap.size wr wx ∧ Below w1.heap.size w1 wx)
        case first =>
          go_region_law (refine step_append_lies _ (by rfl) _ _ _ (by rfl) W.heap.size 9 i0 _ 1 16 Tryz.underlying50 hi0 hz0 hz1 hz2 rfl (by omega) (.slice none 0 0) 0 _ (by rfl) (World.ownsRow_nil _ _ _ _) ⟨g2, o2, none⟩ xs.length c2 (strs xs) (by rfl) (by rw [strs_len, Nat.mul_one]) (fun j u hj => by rw [addr_addS]; exact hcw j u hj) (strs_one _) (by omega) (by unfold maxLen; omega) (by omega) (Nat.le_refl _) W.heap.size rfl ?_; intro gg cap w6 hown6 hgrow hat hlt6; have b6 := blk_grown0 (w := W.drew) (q := q) HBK.out hgrow (fun h => by cases h); have e26 : w6.cell? ⟨q, 2, none⟩ = some (.slice none 0 0) := (by rw [cell_of_row _ _ _ _ _ _ b6]; rfl); have f26 := frozen_of_row w6 q 2 _ _ b6)
          all_goals
            go_wp2_with fail
            go_meet
            rw [Nat.zero_add, List.nil_append] at hown6
            have hbD : Below W.heap.size W w6 := grown_own0 (Below.refl W.heap.size W).drew hgrow (fun k hk => by cases hk)
            have hbr6 : Below wr.heap.size wr w6 := hbrW.trans (hbD.mono hbrW.size)
            have hb16 : Below w1.heap.size w1 w6 := hbW.trans (hbD.mono hbW.size)
            obtain ⟨A9, c9, he9, hln9⟩ := own_lns hown6
            injection he9 with he9 _ he9c
            subst he9 he9c
            exact ⟨some ⟨gg, 0, none⟩, cap, by first | exact heap_setCell_same w6 q 2 _ _ _ b6 | simpa using heap_setCell_same w6 q 2 _ _ _ b6, by first | exact (hln9 _ _).keep (KeptS.set b6 (.inl rfl)) | simpa using (hln9 3 xs.length).keep (KeptS.set (i := 2) b6 (.inl rfl)), by first | exact hbr6.setCell (p := ⟨q, 2, none⟩) hqr _ | simpa using hbr6.setCell (p := ⟨q, 2, none⟩) hqr _, by first | exact hb16.setCell (p := ⟨q, 2, none⟩) hq _ | simpa using hb16.setCell (p := ⟨q, 2, none⟩) hq _⟩
        case rest =>
        obtain ⟨A9, c9, hblk9, hln9, hb9, hb19⟩ := hcut
        have hC9 := HC.out.next hb9
        have e0 : wc.cell? ⟨q, 0, none⟩ = some (.int .i64 3) := by rw [cell_of_row _ _ _ _ _ _ hblk9]; rfl
        have e1 : wc.cell? ⟨q, 1, none⟩ = some (.int .i64 xs.length) := by rw [cell_of_row _ _ _ _ _ _ hblk9]; rfl
        have e2 : wc.cell? ⟨q, 2, none⟩ = some (.slice A9 xs.length c9) := by rw [cell_of_row _ _ _ _ _ _ hblk9]; rfl
        have p1 : wc.cell? ⟨w1.heap.size, 1, none⟩ = some v := by rw [cell_of_row _ _ _ _ _ _ hC9.pat]; rfl
        have hWs := hb19.size
        have HDL := Lib.hid (cells_drop hL2 xs.length)
        clear hCw hbW hbrW hcw HBK hLx hblk9 hL2
        by_cases hcap : c2 = xs.length
        · subst hcap
          go_wp2_with (at_builtin; refine wpList_append_lies _ (by rfl) _ _ 22 (by rfl) w1.heap.size 54 ih _ 3 40 Tryz.underlying22 hih hzh0 hzh1 hzh2 rfl (by omega) v l.length _ (by rfl) (hC9.row.alloc _) ⟨wc.heap.size, 0, none⟩ 1 1 [_, _, _] (by rfl) (by rfl) (World.news_of_block (cs := #[_, _, _]) (t := 54) (fr := (0, 0)) (heap_alloc_new wc _)) (by simp [Value.oneCell']) (by omega) (by unfold maxLen; omega) (by omega) (by simp; omega) (wc.heap.size + 1) (by simp) ?_; intro gg cap w6 hown6 hgrow hat hlt6; obtain ⟨z1, z2, z3, z4⟩ := hC9.add (W := wc.alloc _) ⟨⟨3, xs.length, xs⟩, A9, c9⟩ ((Below.refl _ _).alloc (Nat.le_refl _) _) hb19.size (by rw [hcsV_app, hcsV_one]; exact hown6) hgrow (hln9.keep (KeptS.of ((Below.refl _ _).alloc (Nat.le_refl _) _))))
          go_roundw
          case rel => exact ⟨k + 1, rest1.drop xs.length, some ⟨g2, o2, none⟩, xs.length - xs.length, _, _, by omega, by first | rfl | (simp; done) | (simp; omega), fun i hi => by rw [strs_len, List.length_drop] at hi; omega, by rw [List.length_drop]; omega, by unfold maxLen at *; omega, by rw [List.length_drop]; omega, by rw [HR1.out, List.drop_left], by rw [List.map_append, HLM.out, HT1.out]; rfl, z1, hb19.trans z2⟩
          case measure => first | (show _ - _ < rest1.length + 1; omega) | (show 0 < rest1.length + 1; omega)
        ·
          go_wp2_with (at_builtin; refine wpList_append_lies _ (by rfl) _ _ 22 (by rfl) w1.heap.size 54 ih _ 3 40 Tryz.underlying22 hih hzh0 hzh1 hzh2 rfl (by omega) v l.length _ (by rfl) (hC9.row.alloc _) ⟨wc.heap.size, 0, none⟩ 1 1 [_, _, _] (by rfl) (by rfl) (World.news_of_block (cs := #[_, _, _]) (t := 54) (fr := (0, 0)) (heap_alloc_new wc _)) (by simp [Value.oneCell']) (by omega) (by unfold maxLen; omega) (by omega) (by simp; omega) (wc.heap.size + 1) (by simp) ?_; intro gg cap w6 hown6 hgrow hat hlt6; obtain ⟨z1, z2, z3, z4⟩ := hC9.add (W := wc.alloc _) ⟨⟨3, xs.length, xs⟩, A9, c9⟩ ((Below.refl _ _).alloc (Nat.le_refl _) _) hb19.size (by rw [hcsV_app, hcsV_one]; exact hown6) hgrow (hln9.keep (KeptS.of ((Below.refl _ _).alloc (Nat.le_refl _) _))))
          go_roundw
          case rel => exact ⟨k + 1, rest1.drop xs.length, some ⟨g2, o2 + xs.length, none⟩, c2 - xs.length, _, _, by omega, by first | rfl | (simp; done) | (simp; omega), HDL.out, by rw [List.length_drop]; omega, by unfold maxLen at *; omega, by rw [List.length_drop]; omega, by rw [HR1.out, List.drop_left], by rw [List.map_append, HLM.out, HT1.out]; rfl, z1, hb19.trans z2⟩
          case measure => first | (show _ - _ < rest1.length + 1; omega) | (show 0 < rest1.length + 1; omega)
    · obtain rfl : k = hs.length := by omega
      have hr0 : rest = [] := by rw [HRS.out, List.drop_length]; rfl
      subst hr0
      have hlh : l.map (·.h) = hs := by rw [HLM.out, List.take_length]
      have hCp := HC.out
      obtain ⟨A2, c2, rfl, hHT⟩ := hCp.hsT
      rw [hlh] at hHT
      have hpat : wr.heap[w1.heap.size]? = some (.cells #[.string ⟨#[]⟩, .slice A2 hs.length c2] 24 (0, 0)) := by have h := hCp.pat; rw [hlh] at h; exact h
      have p0 : wr.cell? ⟨w1.heap.size, 0, none⟩ = some (.string ⟨#[]⟩) := by rw [cell_of_row _ _ _ _ _ _ hpat]; rfl
      have p1 : wr.cell? ⟨w1.heap.size, 1, none⟩ = some (.slice A2 hs.length c2) := by rw [cell_of_row _ _ _ _ _ _ hpat]; rfl
      have hbw : Below w.heap.size w wr := hb01.trans (hb.mono hb01.size)
      have e0 : rest0 = Pc.bodyL hs := HBL.out
      have hnl : hs.length ≤ 1024 := by have := HLN.out; rw [e0] at this; have := body_len hs; omega
      have hea : ∀ h ∈ hs, ∀ l ∈ h.ls, l.length ≤ 1000000 := fun h hh l hl => by
        have h1 := HL3.out l (by rw [e0]; exact body_mem hs h hh l hl)
        have := HSZ.out
        omega
      clear e0
      have hv := isValid_any ⟨[], hs⟩ A2 c2 wr ⟨hHT.at_, by show hs.length ≤ _; omega, by show ([] : List UInt8).length ≤ _; simp, hea⟩ (hI1.below (by exact hb)).tabs
      rw [paV_def, show str (Pc.Pa.mk [] hs).base = ⟨#[]⟩ from rfl] at hv
      dsimp only at hv
      have hkr := (hb.block _ (blk_lt hk1)).trans hk1
      clear HLM HRS HC hL hc' hcm hrl hb hCp hnl hea hlh
      go_wp2_with fail
      with_reducible refine hv.mono ?_
      clear hv
      rintro x w5 ⟨rfl, hb5⟩
      have hb05 := hbw.trans (hb5.mono hbw.size)
      have hk5 := (hb5.block _ (blk_lt hkr)).trans hkr
      have hpat5 := (hb5.block _ (blk_lt hpat)).trans hpat
      have hHT5 := hHT.next hb5
      have q0 : w5.cell? ⟨w1.heap.size, 0, none⟩ = some (.string ⟨#[]⟩) := by rw [cell_of_row _ _ _ _ _ _ hpat5]; rfl
      have q1 : w5.cell? ⟨w1.heap.size, 1, none⟩ = some (.slice A2 hs.length c2) := by rw [cell_of_row _ _ _ _ _ _ hpat5]; rfl
      clear p0 p1 hkr hpat hpat5 hHT hb5 hbw
      by_cases hva : Pc.valid ⟨[], hs⟩ = true
      · have HT := Lib.hid (HD.out.trans (if_pos hva))
        rw [hva]
        obtain ⟨z1, z2, r0, r1, f0, f1⟩ := fin_patch (.string ⟨#[]⟩) (.slice A2 hs.length c2) (Nat.le_refl _) hk5 hb05 hHT5
        have Q1 := Lib.hid z1
        have Q2 := Lib.hid z2
        clear z1 z2 hk5 hb05 hHT5 hva HD
        go_wp2_with fail
        exact bodyPost_ret (v := .tuple #[.agg #[.string ⟨#[]⟩, .slice A2 hs.length c2], .int .i64 0]) (by simp [results, Tryz.results16, go_sem, r0, r1]) rfl ⟨A2, c2, by rw [HT.out]; rfl, by rw [HT.out]; exact Q1.out, Q2.out⟩
      · have HT := Lib.hid (HD.out.trans (if_neg hva))
        have hvf : Pc.valid ⟨[], hs⟩ = false := by simpa using hva
        rw [hvf]
        obtain ⟨z1, z2, r0, r1, f0, f1⟩ := fin_patch (.string ⟨#[]⟩) (.slice none 0 0) (Nat.le_refl _) hk5 hb05 (hsT_nil w5 none)
        have Q1 := Lib.hid z1
        have Q2 := Lib.hid z2
        clear z1 z2 hk5 hb05 hHT5 hva hvf HD
        go_wp2_with fail
        exact bodyPost_ret (v := .tuple #[.agg #[.string ⟨#[]⟩, .slice none 0 0], .int .i64 4]) (by simp [results, Tryz.results16, go_sem, r0, r1]) rfl ⟨none, 0, by rw [HT.out]; rfl, by rw [HT.out]; exact Q1.out, Q2.out⟩
end Go.Proofs.YtlfgnecfabdkmaaGreatDoor
