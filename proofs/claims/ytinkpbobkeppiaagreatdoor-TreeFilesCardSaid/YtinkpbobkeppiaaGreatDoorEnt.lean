/- The entries of a directory: a map of its files by their names. Condition: bytealg's MaxLen lies in its variable. -/
import Derived.Test.YtinkpbobkeppiaaGreatDoorFid
namespace Go.Proofs.YtinkpbobkeppiaaGreatDoor
open Go.RowKit Go.Maps

theorem zTree (w : World) : (zeroValue 23).run Tryz.prog w = .ok (.slice none 0 0) w := by kernel_rfl
theorem key_str (n : List UInt8) (hn : n.length ≤ maxLen) : keyOf Tryz.prog 9 (.string (str n)) = some (.string n) := by
  have := WideMaps.keyOf_string_mk (P := Tryz.prog) Tryz.underlying9 (s := str n) (by rw [str_size]; exact hn)
  simpa [str] using this
theorem cutCall (p : List UInt8) (w : World) (hp : p.length ≤ 1000000000) (hM : MaxAt w) :
    Calls Tryz.prog 102 #[.string (str p), .string ⟨#[47]⟩] w fun e w' => e = .returned (.tuple #[.string (str (Tre.nameOf p)), .string (str (Tre.restOf p)), .bool (Tre.slash p)]) ∧ ∃ n, w' = w.drewN n := by
  obtain ⟨m, hm⟩ := hM
  have h := Tryz.strings_Cut (str p) ⟨#[47]⟩ m w (by rw [str_size]; omega) hm
  rw [show (str p).data.toList = p from by simp [str], show (⟨#[47]⟩ : ByteArray).data.toList = [47] from rfl, cut_name] at h
  exact h
theorem group_le (ts : List Tre.Fl) (n : List UInt8) : (Tre.group ts n).length ≤ ts.length := Tre.group_len ts n
/-- What entriesOf returns. -/
def GotM (w : World) (ts : List Tre.Fl) : Ending → World → Prop := fun x w' => ∃ b V D, x = .returned (.map (some b)) ∧ w.heap.size ≤ b ∧ Grp w' w.heap.size b ts V D ∧ Below w.heap.size w w'
set_option maxHeartbeats 4000000 in
set_option maxRecDepth 100000 in
theorem entries_any (A : Option Addr) (c : Nat) (ts : List Tre.Fl) (w : World) (hA : FlsAt w w.heap.size A ts) (hl : ts.length ≤ 1000000) (hL : FlsLen ts) (hM : MaxAt w) :
    Calls Tryz.prog 83 #[.slice A ts.length c] w (GotM w ts) := by
  obtain ⟨i0, hi0, hz0, hz1, hz2⟩ := info_parts infoF
  have hG0 := Grp.made w w.heap.size
  have hb0 : Below w.heap.size w (w.alloc (.map #[] 0)) := (Below.refl _ _).alloc (Nat.le_refl _) _
  have hmm := @run_makeMap Tryz.prog
  go_enter Tryz.func83, Tryz.ntmps83
  go_wp2_with fail
  clear hmm
  go_loopw [12] (fun i wr => ∃ (k : Nat) (V : List UInt8 → Value) (D : DataW Value), k ≤ ts.length ∧ i = .int .i64 k ∧ Grp wr w.heap.size w.heap.size (ts.take k) V D ∧ Below w.heap.size w wr) (fun i _ => ts.length - (intOf i).toNat)
  case atStart => exact ⟨0, _, _, by omega, rfl, by simpa using hG0, hb0⟩
  case round =>
    clear hG0 hb0
    obtain ⟨k, V, D, hk, rfl, hG, hb⟩ := hrel
    by_cases hlt : k < ts.length
    · have b1 : decide ((k : Int) < ts.length) = true := by simp; omega
      have b1n : decide (k < ts.length) = true := by simp; omega
      obtain ⟨g, o, rfl, hg, hc0, hc1⟩ := hA k hlt
      have hd0 := (hb.cell (p := ⟨g, o + k * 2, none⟩) hg).trans hc0
      have hd1 := (hb.cell (p := ⟨g, o + k * 2 + 1, none⟩) hg).trans hc1
      have HTK := Lib.hid (show ts.take (k + 1) = ts.take k ++ [ts[k]] from List.take_succ_eq_append_getElem hlt)
      have hfl := (hL ts[k] (List.getElem_mem hlt)).1
      have htl : (ts.take k).length ≤ k := List.length_take_le _ _
      clear hc0 hc1
      generalize ts[k] = f at *
      have hbw : Below w.heap.size w (wr.alloc (.cells #[.string (str f.path), .string (str f.data)] 31)) := hb.alloc hb.size _
      have hcall := cutCall f.path (wr.alloc (.cells #[.string (str f.path), .string (str f.data)] 31)) hfl (hM.below hbw)
      have hG1 := hG.alloc (.cells #[.string (str f.path), .string (str f.data)] 31)
      have hnew := heap_alloc_new wr (.cells #[.string (str f.path), .string (str f.data)] 31)
      have hnl : (Tre.nameOf f.path).length ≤ 1000000000 := by
        have h1 : (Tre.nameOf f.path).length ≤ f.path.length := (List.takeWhile_sublist _).length_le
        omega
      have hbs := hb.size
      go_wp2_with fail
      with_reducible refine hcall.mono ?_
      clear hcall hG
      rintro e w2 ⟨rfl, n, rfl⟩
      have hbd := below_drewN (Below.refl (wr.alloc (.cells #[.string (str f.path), .string (str f.data)] 31)).heap.size (wr.alloc (.cells #[.string (str f.path), .string (str f.data)] 31))) n
      have hG2 := hG1.below hbd
      have hb2 := hbw.trans (hbd.mono hbw.size)
      have hs2 : wr.heap.size < ((wr.alloc (.cells #[.string (str f.path), .string (str f.data)] 31)).drewN n).heap.size := Nat.lt_of_lt_of_le (by simp) hbd.size
      have hnew2 := (hbd.block wr.heap.size (by simp)).trans hnew
      generalize (wr.alloc (.cells #[.string (str f.path), .string (str f.data)] 31)).drewN n = w2 at *
      have e1 : w2.cell? ⟨wr.heap.size, 1, none⟩ = some (.string (str f.data)) := by rw [cell_of_row _ _ _ _ _ _ hnew2]; rfl
      clear hG1 hbd hbw hb hd0 hd1 hnew hnew2
      have hrun := hG2.run (Tre.nameOf f.path) (by unfold maxLen; omega) (zTree w2)
      have HST := Lib.hid hG2
      have hrow := hG2.rows (Tre.nameOf f.path)
      have hgl := group_le (ts.take k) (Tre.nameOf f.path)
      have hkey := key_str (Tre.nameOf f.path) (by unfold maxLen; omega)
      have hcf : flsOf (Tre.group (ts.take k) (Tre.nameOf f.path)) ++ [.string (str (Tre.restOf f.path)), .string (str f.data)] = flsOf (Tre.group (ts.take k) (Tre.nameOf f.path) ++ [Tre.cutF f]) := flsOf_snoc _ (Tre.cutF f)
      have HCF := Lib.hid hcf
      clear hcf
      go_upto_region 7 with (first
        | (at_builtin; refine wpList_append_lies _ (by rfl) _ _ 23 (by rfl) w.heap.size 31 i0 _ 2 32 Tryz.underlying23 hi0 hz0 hz1 hz2 rfl (by omega) (V (Tre.nameOf f.path)) (Tre.group (ts.take k) (Tre.nameOf f.path)).length _ (by rfl) (hrow.alloc _) ⟨w2.heap.size, 0, none⟩ 1 1 [_, _] (by rfl) (by rfl) (World.news_of_block (cs := #[_, _]) (t := 31) (fr := (0, 0)) (heap_alloc_new w2 _)) (by simp [Value.oneCell']) (by omega) (by unfold maxLen; omega) (by omega) (by simp; omega) (w2.heap.size + 1) (by simp) ?_; intro gg cap w3 hown3 hgrow hat hlt3; have hM3 := ownsMap_block (HST.out.alloc _).own (hgrow.block _ (HST.out.alloc _).lt (fun e => (HST.out.off _) e.symm)))
        | (at_mapUpdate; refine wpList_mapUpdate_own _ rfl _ _ _ 93 rfl 9 23 kStr Tryz.underlying93 tokR w.heap.size (ts.take k).length D rfl hM3 (by unfold maxLen; omega) _ _ (.string (Tre.nameOf f.path)) rfl rfl hkey (.held _) [] rfl ?_; intro w4 hown4 hgM))
      rw [HCF.out] at hown3
      have hG4 := (HST.out.alloc _).step f hown3 hgrow rfl hat (by simp) hown4 hgM
      rw [← HTK.out] at hG4
      have hb4 : Below w.heap.size w w4 := (grown_own0 (hb2.alloc (by omega) _) hgrow (fun q hq => (hrow.lt q hq).1)).grown hgM (by have := hgrow.size; simp at this; omega) (fun q hq => by cases hq; exact Nat.le_refl _)
      clear hown3 hgrow hat hlt3 hM3 hown4 hgM HST hrow hkey hrun HCF hG2 hb2 e1
      go_wp2_with fail
      go_roundw
      case rel => exact ⟨k + 1, _, _, by omega, by go_num, hG4, hb4⟩
      case measure => simp [intOf]; omega
    · have b1 : decide ((k : Int) < ts.length) = false := by simp; omega
      have b1n : decide (k < ts.length) = false := by simp; omega
      rw [List.take_of_length_le (by omega)] at hG
      go_wp2_with fail
      go_ret
      exact ⟨_, V, D, rfl, Nat.le_refl _, hG, hb⟩
end Go.Proofs.YtinkpbobkeppiaaGreatDoor
