/- The functions that Mount and Under hand to walk. No condition but the lengths.
walk at the closures of Mount and Under. No condition but the lengths. -/
import Derived.Test.YtinkpbobkeppiaaGreatDoorQjo
section
namespace Go.Proofs.YtinkpbobkeppiaaGreatDoor
open Go.RowKit

def mountF (d : List UInt8) (f : Tre.Fl) : Tre.Fl := ⟨d ++ 47 :: f.path, f.data⟩
def underF (d : List UInt8) (f : Tre.Fl) : Tre.Fl := ⟨if Tre.below f.path d = true then f.path.drop (d.length + 1) else [], f.data⟩
set_option maxHeartbeats 2000000 in
set_option maxRecDepth 100000 in
theorem mountFn (b : Nat) (f : Tre.Fl) (p : ByteArray) (w : World) (k0 : w.cell? ⟨b, 0, none⟩ = some (.string p)) (hp : p.size ≤ 1000000000) (hf : f.path.length ≤ 1000000000) :
    Calls Tryz.prog 58 #[flV f, .pointer (some ⟨b, 0, none⟩)] w fun x w' => x = .returned (.tuple #[flV (mountF p.data.toList f), .bool true]) ∧ Below w.heap.size w w' := by
  unfold flV mountF
  have hb0 : Below w.heap.size w (w.alloc (.cells #[.string (str f.path), .string (str f.data)] 31)) := (Below.refl _ _).alloc (Nat.le_refl _) _
  have hlt := World.block_lt_of_cell? w _ k0
  have hz : (str f.path).size ≤ 1000000000 := by rw [str_size]; exact hf
  have hz2 : (p ++ ⟨#[47]⟩).size ≤ 1000000001 := by rw [ByteArray.size_append]; show _ + 1 ≤ _; omega
  have HEQ := Lib.hid (show p ++ ⟨#[47]⟩ ++ str f.path = str (p.data.toList ++ 47 :: f.path) by
    rw [show (⟨#[47]⟩ : ByteArray) = str [47] from rfl, ← str_of p, str_app, str_app, str_data]; simp)
  go_enter Tryz.func58, Tryz.ntmps58
  go_wp2_with fail
  rw [HEQ.out]
  exact bodyPost_ret (v := .tuple #[.agg #[.string (str (p.data.toList ++ 47 :: f.path)), .string (str f.data)], .bool true]) (by simp [results, Tryz.results58, go_sem]) rfl ⟨rfl, by first | exact hb0.alloc hb0.size _ | exact (((hb0.alloc hb0.size _).setCell (by simp) _).setCell (by simp) _)⟩
set_option maxHeartbeats 2000000 in
set_option maxRecDepth 100000 in
theorem underFn (b : Nat) (f : Tre.Fl) (p : ByteArray) (w : World) (k0 : w.cell? ⟨b, 0, none⟩ = some (.string p)) :
    Calls Tryz.prog 60 #[flV f, .pointer (some ⟨b, 0, none⟩)] w fun x w' => x = .returned (.tuple #[flV (underF p.data.toList f), .bool (Tre.below f.path p.data.toList)]) ∧ Below w.heap.size w w' := by
  unfold flV underF
  have hb0 : Below w.heap.size w (w.alloc (.cells #[.string (str f.path), .string (str f.data)] 31)) := (Below.refl _ _).alloc (Nat.le_refl _) _
  have hlt := World.block_lt_of_cell? w _ k0
  have hcall : ∀ w, Calls Tryz.prog 61 #[.string (str f.path), .string p] w fun e w' => e = .returned (.tuple #[.string (str (if Tre.below f.path p.data.toList = true then f.path.drop (p.data.toList.length + 1) else [])), .bool (Tre.below f.path p.data.toList)]) ∧ w = w' := fun w => (inside_any (str f.path) p w).mono fun e w' h => ⟨by
    rw [h.1, insideV, str_data]
    cases Tre.below f.path p.data.toList <;> rfl, h.2⟩
  generalize (if Tre.below f.path p.data.toList = true then f.path.drop (p.data.toList.length + 1) else []) = r at *
  generalize Tre.below f.path p.data.toList = q at *
  go_enter Tryz.func60, Tryz.ntmps60
  go_wp2_with (go_at_call 61; (with_reducible refine (hcall _).mono ?_); rintro e w' ⟨rfl, rfl⟩)
  exact bodyPost_ret (v := .tuple #[.agg #[.string (str r), .string (str f.data)], .bool q]) (by simp [results, Tryz.results60, go_sem]) rfl ⟨rfl, by first | exact hb0.alloc hb0.size _ | exact (((hb0.alloc hb0.size _).setCell (by simp) _).setCell (by simp) _)⟩
end Go.Proofs.YtinkpbobkeppiaaGreatDoor
end
section
namespace Go.Proofs.YtinkpbobkeppiaaGreatDoor
open Go.RowKit

theorem fm_hit (P : Tre.Fl → Bool) (F : Tre.Fl → Tre.Fl) (f : Tre.Fl) (t : List Tre.Fl) (h : P f = true) : ((f :: t).filter P).map F = F f :: (t.filter P).map F := by simp [h]
theorem fm_miss (P : Tre.Fl → Bool) (F : Tre.Fl → Tre.Fl) (f : Tre.Fl) (t : List Tre.Fl) (h : P f = false) : ((f :: t).filter P).map F = (t.filter P).map F := by simp [h]
set_option maxHeartbeats 4000000 in
set_option maxRecDepth 100000 in
theorem walkMount (b : Nat) (A : Option Addr) (c : Nat) (ts : List Tre.Fl) (p : ByteArray) (w : World) (hA : FlsAt w w.heap.size A ts) (hl : ts.length ≤ 1000000) (hL : FlsLen ts) (hp : p.size ≤ 1000000000) (k0 : w.cell? ⟨b, 0, none⟩ = some (.string p)) :
    Calls Tryz.prog 57 #[.slice A ts.length c, .func (Fn.func 58) #[] #[.pointer (some ⟨b, 0, none⟩)]] w (GotF w (((ts).filter (fun _ => true)).map (mountF p.data.toList))) := by
  obtain ⟨i0, hi0, hz0, hz1, hz2⟩ := info_parts infoF
  have HR := Lib.hid (show ((ts).filter (fun _ => true)).map (mountF p.data.toList) = [] ++ ((ts.drop 0).filter (fun _ => true)).map (mountF p.data.toList) from rfl)
  generalize ((ts).filter (fun _ => true)).map (mountF p.data.toList) = R at *
  have hb0 := World.block_lt_of_cell? w _ k0
  go_enter Tryz.func57, Tryz.ntmps57
  go_wp2_with fail
  go_loopw [5, 12] (fun v i wr => ∃ (k : Nat) (us : List Tre.Fl), k ≤ ts.length ∧ i = .int .i64 k ∧ wr.ownsRow w.heap.size 31 2 v us.length (flsOf us) ∧ us.length ≤ k ∧ R = us ++ ((ts.drop k).filter (fun _ => true)).map (mountF p.data.toList) ∧ Below w.heap.size w wr) (fun _ i _ => ts.length - (intOf i).toNat)
  case atStart => exact ⟨0, [], by omega, rfl, World.ownsRow_nil _ _ _ _, by simp, HR.out, Below.refl _ _⟩
  case round =>
    clear HR
    obtain ⟨k, us, hk, rfl, hown, hus, hR, hb⟩ := hrel
    have HR := Lib.hid hR
    clear hR
    by_cases hlt : k < ts.length
    · have b1 : decide ((k : Int) < ts.length) = true := by simp; omega
      have b1n : decide (k < ts.length) = true := by simp; omega
      obtain ⟨g, o, rfl, hg, hc0, hc1⟩ := hA k hlt
      have hd0 := (hb.cell (p := ⟨g, o + k * 2, none⟩) hg).trans hc0
      have hd1 := (hb.cell (p := ⟨g, o + k * 2 + 1, none⟩) hg).trans hc1
      have HD := Lib.hid (HR.out.trans (by rw [list_drop ts k hlt]))
      have hfl := (hL ts[k] (List.getElem_mem hlt)).1
      clear hc0 hc1 HR
      generalize ts[k] = f at *
      have hbw : Below w.heap.size w (wr.alloc (.cells #[.string (str f.path), .string (str f.data)] 31)) := hb.alloc hb.size _
      have hcall := mountFn b f p (wr.alloc (.cells #[.string (str f.path), .string (str f.data)] 31)) ((hbw.cell (p := ⟨b, 0, none⟩) hb0).trans k0) hp hfl
      have HF := Lib.hid (show (mountF p.data.toList) f = (mountF p.data.toList) f from rfl)
      generalize hff : (mountF p.data.toList) f = f2 at *
      clear HF
      have HFF := Lib.hid hff
      clear hff
      unfold flV at hcall
      have hown1 := hown.alloc (.cells #[.string (str f.path), .string (str f.data)] 31)
      clear hown
      have he : (fun _ => true) f = true := rfl
      have HT := Lib.hid (show R = (us ++ [f2]) ++ ((ts.drop (k + 1)).filter (fun _ => true)).map (mountF p.data.toList) by rw [HD.out, fm_hit (fun _ => true) (mountF p.data.toList) f _ he, HFF.out]; simp)
      clear HD he
      go_wp2_with fail
      with_reducible refine hcall.mono ?_
      clear hcall
      rintro e w2 ⟨rfl, hb2⟩
      have hown2 := owns_below hown1 hb2
      have hbn := (hbw.trans (hb2.mono hbw.size))
      clear hb2 hbw hown1 hd0 hd1 hb
      have hrow := hown2.lt
      go_upto_region 8 with (at_builtin; refine wpList_append_lies _ (by rfl) _ _ 23 (by rfl) w.heap.size 31 i0 _ 2 32 Tryz.underlying23 hi0 hz0 hz1 hz2 rfl (by omega) u5 us.length _ (by rfl) ((hown2.alloc _).alloc _) ⟨w2.heap.size + 1, 0, none⟩ 1 1 [_, _] (by rfl) (by rfl) (World.news_of_block (cs := #[_, _]) (t := 31) (fr := (0, 0)) (by have := heap_alloc_new (w2.alloc (.cells #[.string (str f2.path), .string (str f2.data)] 31)) (.cells #[.string (str f2.path), .string (str f2.data)] 31); simpa using this)) (by simp [Value.oneCell']) (by omega) (by unfold maxLen; omega) (by omega) (by have := hbn.size; simp; omega) (w2.heap.size + 2) (by simp) ?_; intro gg cap w3 hown3 hgrow hat hlt3)
      have hb3 : Below w.heap.size w w3 := grown_own0 ((hbn.alloc hbn.size _).alloc (by have := hbn.size; simp; omega) _) hgrow (fun k' hk' => (hrow k' hk').1)
      rw [flsOf_snoc] at hown3
      have hown4 : w3.ownsRow w.heap.size 31 2 (.slice (some ⟨gg, 0, none⟩) (us.length + 1) cap) (us ++ [f2]).length (flsOf (us ++ [f2])) := by
        rw [List.length_append, List.length_singleton]; exact hown3
      clear hown3 hown2 hgrow hat hlt3 hbn hrow
      go_wp2_with fail
      go_roundw
      case rel => exact ⟨k + 1, us ++ [f2], by omega, by go_num, hown4, by simp; omega, HT.out, hb3⟩
      case measure => simp [intOf]; omega
    · have b1 : decide ((k : Int) < ts.length) = false := by simp; omega
      have b1n : decide (k < ts.length) = false := by simp; omega
      have HT := Lib.hid (show R = us by rw [HR.out, List.drop_of_length_le (by omega)]; simp)
      clear HR
      go_wp2_with fail
      go_ret
      rw [HT.out]
      exact ⟨_, rfl, hown, hb⟩
set_option maxHeartbeats 4000000 in
set_option maxRecDepth 100000 in
theorem walkUnder (b : Nat) (A : Option Addr) (c : Nat) (ts : List Tre.Fl) (p : ByteArray) (w : World) (hA : FlsAt w w.heap.size A ts) (hl : ts.length ≤ 1000000) (hL : FlsLen ts) (k0 : w.cell? ⟨b, 0, none⟩ = some (.string p)) :
    Calls Tryz.prog 57 #[.slice A ts.length c, .func (Fn.func 60) #[] #[.pointer (some ⟨b, 0, none⟩)]] w (GotF w (((ts).filter (fun f => Tre.below f.path p.data.toList)).map (underF p.data.toList))) := by
  obtain ⟨i0, hi0, hz0, hz1, hz2⟩ := info_parts infoF
  have HR := Lib.hid (show ((ts).filter (fun f => Tre.below f.path p.data.toList)).map (underF p.data.toList) = [] ++ ((ts.drop 0).filter (fun f => Tre.below f.path p.data.toList)).map (underF p.data.toList) from rfl)
  generalize ((ts).filter (fun f => Tre.below f.path p.data.toList)).map (underF p.data.toList) = R at *
  have hb0 := World.block_lt_of_cell? w _ k0
  go_enter Tryz.func57, Tryz.ntmps57
  go_wp2_with fail
  go_loopw [5, 12] (fun v i wr => ∃ (k : Nat) (us : List Tre.Fl), k ≤ ts.length ∧ i = .int .i64 k ∧ wr.ownsRow w.heap.size 31 2 v us.length (flsOf us) ∧ us.length ≤ k ∧ R = us ++ ((ts.drop k).filter (fun f => Tre.below f.path p.data.toList)).map (underF p.data.toList) ∧ Below w.heap.size w wr) (fun _ i _ => ts.length - (intOf i).toNat)
  case atStart => exact ⟨0, [], by omega, rfl, World.ownsRow_nil _ _ _ _, by simp, HR.out, Below.refl _ _⟩
  case round =>
    clear HR
    obtain ⟨k, us, hk, rfl, hown, hus, hR, hb⟩ := hrel
    have HR := Lib.hid hR
    clear hR
    by_cases hlt : k < ts.length
    · have b1 : decide ((k : Int) < ts.length) = true := by simp; omega
      have b1n : decide (k < ts.length) = true := by simp; omega
      obtain ⟨g, o, rfl, hg, hc0, hc1⟩ := hA k hlt
      have hd0 := (hb.cell (p := ⟨g, o + k * 2, none⟩) hg).trans hc0
      have hd1 := (hb.cell (p := ⟨g, o + k * 2 + 1, none⟩) hg).trans hc1
      have HD := Lib.hid (HR.out.trans (by rw [list_drop ts k hlt]))
      have hfl := (hL ts[k] (List.getElem_mem hlt)).1
      clear hc0 hc1 HR
      generalize ts[k] = f at *
      have hbw : Below w.heap.size w (wr.alloc (.cells #[.string (str f.path), .string (str f.data)] 31)) := hb.alloc hb.size _
      have hcall := underFn b f p (wr.alloc (.cells #[.string (str f.path), .string (str f.data)] 31)) ((hbw.cell (p := ⟨b, 0, none⟩) hb0).trans k0)
      have HF := Lib.hid (show (underF p.data.toList) f = (underF p.data.toList) f from rfl)
      generalize hff : (underF p.data.toList) f = f2 at *
      clear HF
      have HFF := Lib.hid hff
      clear hff
      unfold flV at hcall
      have hown1 := hown.alloc (.cells #[.string (str f.path), .string (str f.data)] 31)
      clear hown
      cases he : Tre.below f.path p.data.toList with
      | true =>
        rw [he] at hcall
        have HT := Lib.hid (show R = (us ++ [f2]) ++ ((ts.drop (k + 1)).filter (fun f => Tre.below f.path p.data.toList)).map (underF p.data.toList) by rw [HD.out, fm_hit (fun f => Tre.below f.path p.data.toList) (underF p.data.toList) f _ he, HFF.out]; simp)
        clear HD he
        go_wp2_with fail
        with_reducible refine hcall.mono ?_
        clear hcall
        rintro e w2 ⟨rfl, hb2⟩
        have hown2 := owns_below hown1 hb2
        have hbn := (hbw.trans (hb2.mono hbw.size))
        clear hb2 hbw hown1 hd0 hd1 hb
        have hrow := hown2.lt
        go_upto_region 8 with (at_builtin; refine wpList_append_lies _ (by rfl) _ _ 23 (by rfl) w.heap.size 31 i0 _ 2 32 Tryz.underlying23 hi0 hz0 hz1 hz2 rfl (by omega) u5 us.length _ (by rfl) ((hown2.alloc _).alloc _) ⟨w2.heap.size + 1, 0, none⟩ 1 1 [_, _] (by rfl) (by rfl) (World.news_of_block (cs := #[_, _]) (t := 31) (fr := (0, 0)) (by have := heap_alloc_new (w2.alloc (.cells #[.string (str f2.path), .string (str f2.data)] 31)) (.cells #[.string (str f2.path), .string (str f2.data)] 31); simpa using this)) (by simp [Value.oneCell']) (by omega) (by unfold maxLen; omega) (by omega) (by have := hbn.size; simp; omega) (w2.heap.size + 2) (by simp) ?_; intro gg cap w3 hown3 hgrow hat hlt3)
        have hb3 : Below w.heap.size w w3 := grown_own0 ((hbn.alloc hbn.size _).alloc (by have := hbn.size; simp; omega) _) hgrow (fun k' hk' => (hrow k' hk').1)
        rw [flsOf_snoc] at hown3
        have hown4 : w3.ownsRow w.heap.size 31 2 (.slice (some ⟨gg, 0, none⟩) (us.length + 1) cap) (us ++ [f2]).length (flsOf (us ++ [f2])) := by
          rw [List.length_append, List.length_singleton]; exact hown3
        clear hown3 hown2 hgrow hat hlt3 hbn hrow
        go_wp2_with fail
        go_roundw
        case rel => exact ⟨k + 1, us ++ [f2], by omega, by go_num, hown4, by simp; omega, HT.out, hb3⟩
        case measure => simp [intOf]; omega
      | false =>
        rw [he] at hcall
        have HT := Lib.hid (HD.out.trans (by rw [fm_miss (fun f => Tre.below f.path p.data.toList) (underF p.data.toList) f _ he]))
        clear HD he
        go_wp2_with fail
        with_reducible refine hcall.mono ?_
        clear hcall
        rintro e w2 ⟨rfl, hb2⟩
        have hown2 := (owns_below hown1 hb2).alloc (.cells #[.string (str f2.path), .string (str f2.data)] 31)
        have hbn := (hbw.trans (hb2.mono hbw.size))
        have hbm := hbn.alloc hbn.size (.cells #[.string (str f2.path), .string (str f2.data)] 31)
        clear hb2 hbw hbn hown1 hd0 hd1 hb
        go_wp2_with fail
        go_roundw
        case rel => exact ⟨k + 1, us, by omega, by go_num, hown2, by omega, HT.out, hbm⟩
        case measure => simp [intOf]; omega
    · have b1 : decide ((k : Int) < ts.length) = false := by simp; omega
      have b1n : decide (k < ts.length) = false := by simp; omega
      have HT := Lib.hid (show R = us by rw [HR.out, List.drop_of_length_le (by omega)]; simp)
      clear HR
      go_wp2_with fail
      go_ret
      rw [HT.out]
      exact ⟨_, rfl, hown, hb⟩
end Go.Proofs.YtinkpbobkeppiaaGreatDoor
end
