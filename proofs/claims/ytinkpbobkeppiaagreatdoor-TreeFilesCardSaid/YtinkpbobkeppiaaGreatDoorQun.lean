/- Under of the reference. No condition but the lengths. -/
import Derived.Test.YtinkpbobkeppiaaGreatDoorPz8
import Derived.Test.YtinkpbobkeppiaaGreatDoorQck
import Derived.Deep.RegionLaw
import Derived.Deep.AppendLies
namespace Go.Proofs.YtinkpbobkeppiaaGreatDoor
open Go.RowKit Go.Deep

/-- The files below a directory, as the reference has them. -/
def undQ (ts : List Tre.Fl) (d : List UInt8) : List Tre.Fl := if Tre.check ts ≠ 0 then [] else if d = [] then ts else ts.filterMap fun f => if (Tre.pathOk d && Tre.below f.path d) = true then some ⟨f.path.drop (d.length + 1), f.data⟩ else none
theorem undQ_def (ts : List Tre.Fl) (d : List UInt8) : undQ ts d = if Tre.check ts ≠ 0 then [] else if d = [] then ts else ts.filterMap fun f => if (Tre.pathOk d && Tre.below f.path d) = true then some ⟨f.path.drop (d.length + 1), f.data⟩ else none := rfl
theorem check_le {ts : List Tre.Fl} (h : Tre.check ts = 0) : ts.length ≤ 64 := by
  rw [check_def] at h
  split at h
  · cases h
  · omega
set_option maxHeartbeats 8000000 in
set_option maxRecDepth 100000 in
theorem qUnder_any (A : Option Addr) (c : Nat) (ts : List Tre.Fl) (p : ByteArray) (w : World) (hA : FlsAt w w.heap.size A ts) (hl : ts.length ≤ 1000000) (hL : FlsLen ts) (hp : p.size ≤ 1000000000) (hcap : ts.length ≤ c) (hcap2 : c ≤ maxLen) :
    Calls Tryz.prog 27 #[.slice A ts.length c, .string p] w (GotF w (undQ ts p.data.toList)) := by
  obtain ⟨i0, hi0, hz0, hz1, hz2⟩ := info_parts infoF
  have HV := Lib.hid (undQ_def ts p.data.toList)
  generalize undQ ts p.data.toList = R at *
  have hc1 := qCheck_any A c ts w hA (by omega) hL hcap hcap2
  have hcases : Tre.check ts ≠ 0 ∨ Tre.check ts = 0 := (Classical.em _).symm
  rcases hcases with h0 | h0
  · have n0 : (Tre.check ts != 0) = true := by rw [bne_iff_ne]; exact h0
    have HT := Lib.hid (show R = [] by rw [HV.out, if_pos h0])
    clear HV
    generalize Tre.check ts = e at *
    go_enter Tryz.func27, Tryz.ntmps27
    go_wp2_with fail
    with_reducible refine hc1.mono ?_
    clear hc1
    rintro x w2 ⟨rfl, hb⟩
    go_wp2_with fail
    go_ret
    rw [HT.out]
    exact ⟨_, rfl, World.ownsRow_nil _ _ _ _, hb⟩
  · rw [h0] at hc1
    have hl64 := check_le h0
    have HV1 := Lib.hid (HV.out.trans (if_neg (fun h => h h0)))
    clear HV h0
    by_cases hd : p.data.toList = []
    · have q1 : p.toList = [] := by rw [ByteArray.toList_eq]; exact hd
      have q2 : p.toList.isEmpty = true := by rw [q1]; rfl
      have HR := Lib.hid (show R = ts from HV1.out.trans (if_pos hd))
      clear HV1 hd
      go_enter Tryz.func27, Tryz.ntmps27
      go_wp2_with fail
      with_reducible refine hc1.mono ?_
      clear hc1
      rintro x w2 ⟨rfl, hb⟩
      go_wp2_with fail
      go_loopw [5, 13] (fun v i wr => ∃ k : Nat, k ≤ ts.length ∧ i = .int .i64 k ∧ wr.ownsRow w.heap.size 31 2 v (ts.take k).length (flsOf (ts.take k)) ∧ Below w.heap.size w wr) (fun _ i _ => ts.length - (intOf i).toNat)
      case atStart => exact ⟨0, by omega, rfl, World.ownsRow_nil _ _ _ _, hb⟩
      case round =>
        clear hb
        obtain ⟨k, hk, rfl, hown, hb⟩ := hrel
        by_cases hlt : k < ts.length
        · have b1 : decide ((k : Int) < ts.length) = true := by simp; omega
          have b1n : decide (k < ts.length) = true := by simp; omega
          obtain ⟨g, o, rfl, hg, hc0, hc1⟩ := hA k hlt
          have hd0 := (hb.cell (p := ⟨g, o + k * 2, none⟩) hg).trans hc0
          have hd1 := (hb.cell (p := ⟨g, o + k * 2 + 1, none⟩) hg).trans hc1
          have HTK := Lib.hid (show ts.take (k + 1) = ts.take k ++ [ts[k]] from List.take_succ_eq_append_getElem hlt)
          have htl : (ts.take k).length ≤ k := List.length_take_le _ _
          clear hc0 hc1
          generalize ts[k] = f at *
          generalize ts.take k = us at *
          have hbw : Below w.heap.size w (wr.alloc (.cells #[.string (str f.path), .string (str f.data)] 31)) := hb.alloc hb.size _
          have hrow := hown.lt
          go_upto_region 11 with (at_builtin; refine wpList_append_lies _ (by rfl) _ _ 23 (by rfl) w.heap.size 31 i0 _ 2 32 Tryz.underlying23 hi0 hz0 hz1 hz2 rfl (by omega) u5 us.length _ (by rfl) ((hown.alloc _).alloc _) ⟨wr.heap.size + 1, 0, none⟩ 1 1 [_, _] (by rfl) (by rfl) (World.news_of_block (cs := #[_, _]) (t := 31) (fr := (0, 0)) (by have := heap_alloc_new (wr.alloc (.cells #[.string (str f.path), .string (str f.data)] 31)) (.cells #[.string (str f.path), .string (str f.data)] 31); simpa using this)) (by simp [Value.oneCell']) (by omega) (by unfold maxLen; omega) (by omega) (by have := hb.size; simp; omega) (wr.heap.size + 2) (by simp) ?_; intro gg cap w3 hown3 hgrow hat hlt3)
          have hb3 : Below w.heap.size w w3 := grown_own0 (hbw.alloc (by have := hb.size; simp; omega) _) hgrow (fun k' hk' => (hrow k' hk').1)
          rw [flsOf_snoc, ← HTK.out] at hown3
          have hown4 : w3.ownsRow w.heap.size 31 2 (.slice (some ⟨gg, 0, none⟩) (us.length + 1) cap) (ts.take (k + 1)).length (flsOf (ts.take (k + 1))) := by
            have e : (ts.take (k + 1)).length = us.length + 1 := by rw [HTK.out, List.length_append, List.length_singleton]
            rw [e]; exact hown3
          clear hown3 hown hgrow hat hlt3 hrow hbw hd0 hd1 HTK htl
          go_wp2_with fail
          go_roundw
          case rel => exact ⟨k + 1, by omega, by go_num, hown4, hb3⟩
          case measure => simp [intOf]; omega
        · have b1 : decide ((k : Int) < ts.length) = false := by simp; omega
          have b1n : decide (k < ts.length) = false := by simp; omega
          rw [List.take_of_length_le (by omega)] at hown
          go_wp2_with fail
          go_ret
          rw [HR.out]
          exact ⟨_, rfl, hown, hb⟩
    · have q1 : ¬ p.toList = [] := by rw [ByteArray.toList_eq]; exact hd
      have q2 : p.toList.isEmpty = false := by rw [ByteArray.toList_eq]; cases hq : p.data.toList with | nil => exact absurd hq hd | cons _ _ => rfl
      obtain ⟨F, hF⟩ : ∃ F : Tre.Fl → Option Tre.Fl, F = fun f => if (Tre.pathOk p.data.toList && Tre.below f.path p.data.toList) = true then some ⟨f.path.drop (p.data.toList.length + 1), f.data⟩ else none := ⟨_, rfl⟩
      have HFF := Lib.hid hF
      have HR := Lib.hid (show R = [] ++ (ts.drop 0).filterMap F from HV1.out.trans (by rw [if_neg hd, hF]; rfl))
      clear HV1 hd hF
      go_enter Tryz.func27, Tryz.ntmps27
      go_wp2_with fail
      with_reducible refine hc1.mono ?_
      clear hc1
      rintro x w2 ⟨rfl, hb⟩
      go_wp2_with fail
      go_loopw [5, 13] (fun v i wr => ∃ (k : Nat) (us : List Tre.Fl), k ≤ ts.length ∧ i = .int .i64 k ∧ wr.ownsRow w.heap.size 31 2 v us.length (flsOf us) ∧ us.length ≤ k ∧ R = us ++ (ts.drop k).filterMap F ∧ Below w.heap.size w wr) (fun _ i _ => ts.length - (intOf i).toNat)
      case atStart => exact ⟨0, [], by omega, rfl, World.ownsRow_nil _ _ _ _, by simp, HR.out, hb⟩
      case round =>
        clear HR hb
        obtain ⟨k, us, hk, rfl, hown, hus, hR, hb⟩ := hrel
        have HR := Lib.hid hR
        clear hR
        by_cases hlt : k < ts.length
        · have b1 : decide ((k : Int) < ts.length) = true := by simp; omega
          have b1n : decide (k < ts.length) = true := by simp; omega
          obtain ⟨g, o, rfl, hg, hc0, hc1⟩ := hA k hlt
          have hd0 := (hb.cell (p := ⟨g, o + k * 2, none⟩) hg).trans hc0
          have hd1 := (hb.cell (p := ⟨g, o + k * 2 + 1, none⟩) hg).trans hc1
          have HD := Lib.hid (HR.out.trans (by rw [list_drop ts k hlt]))
          clear hc0 hc1 HR
          generalize ts[k] = f at *
          have hnew := heap_alloc_new wr (.cells #[.string (str f.path), .string (str f.data)] 31)
          have hbw : Below w.heap.size w (wr.alloc (.cells #[.string (str f.path), .string (str f.data)] 31)) := hb.alloc hb.size _
          have hown1 := hown.alloc (.cells #[.string (str f.path), .string (str f.data)] 31)
          have hpath := qPath_any p (wr.alloc (.cells #[.string (str f.path), .string (str f.data)] 31)) hp
          have hbel := fun w => qBelow_any (str f.path) p w
          rw [path_val] at hpath
          rw [str_data] at hbel
          have hbs := hb.size
          go_upto_region 9 with (fail)
          have hlw : wr.heap.size < (wr.alloc (.cells #[.string (str f.path), .string (str f.data)] 31)).heap.size := by simp
          generalize wr.alloc (.cells #[.string (str f.path), .string (str f.data)] 31) = W at *
          clear hown hb hd0 hd1
          have e0 : W.cell? ⟨wr.heap.size, 0, none⟩ = some (.string (str f.path)) := by rw [cell_of_row _ _ _ _ _ _ hnew]; rfl
          cases hpo : Tre.pathOk p.data.toList with
          | false =>
            rw [hpo] at hpath
            have HT := Lib.hid (show R = us ++ (ts.drop (k + 1)).filterMap F by rw [HD.out, List.filterMap_cons, HFF.out]; simp [hpo])
            clear HD hpo
            go_wp2_with fail
            with_reducible refine hpath.mono ?_
            clear hpath
            rintro x w3 ⟨rfl, hb3⟩
            have hown3 := owns_below hown1 hb3
            have hbn := hbw.trans (hb3.mono hbw.size)
            clear hown1 hbw hb3
            go_wp2_with fail
            go_roundw
            case rel => exact ⟨k + 1, us, by omega, by go_num, hown3, by omega, HT.out, hbn⟩
            case measure => simp [intOf]; omega
          | true =>
            rw [hpo] at hpath
            cases hbo : Tre.below f.path p.data.toList with
            | false =>
              rw [hbo] at hbel
              have HT := Lib.hid (show R = us ++ (ts.drop (k + 1)).filterMap F by rw [HD.out, List.filterMap_cons, HFF.out]; simp [hbo])
              clear HD hpo hbo
              go_wp2_with fail
              with_reducible refine hpath.mono ?_
              clear hpath
              rintro x w3 ⟨rfl, hb3⟩
              have hown3 := owns_below hown1 hb3
              have hbn := hbw.trans (hb3.mono hbw.size)
              have e0 := (hb3.cell (p := ⟨wr.heap.size, 0, none⟩) hlw).trans e0
              clear hown1 hbw hb3
              go_wp2_with (go_at_call 50; (with_reducible refine (hbel _).mono ?_); rintro e w' ⟨rfl, rfl⟩)
              go_roundw
              case rel => exact ⟨k + 1, us, by omega, by go_num, hown3, by omega, HT.out, hbn⟩
              case measure => simp [intOf]; omega
            | true =>
              rw [hbo] at hbel
              have hsz := (below_drop _ _ hbo).1
              rw [size_data] at hsz
              have HT := Lib.hid (show R = (us ++ [⟨f.path.drop (p.size + 1), f.data⟩]) ++ (ts.drop (k + 1)).filterMap F by rw [HD.out, List.filterMap_cons, HFF.out]; simp [hbo, hpo])
              clear HD hpo hbo
              go_wp2_with fail
              with_reducible refine hpath.mono ?_
              clear hpath
              rintro x w3 ⟨rfl, hb3⟩
              have hown3 := owns_below hown1 hb3
              have hbn := hbw.trans (hb3.mono hbw.size)
              have hnew3 := (hb3.block wr.heap.size hlw).trans hnew
              have hW3 := hb3.size
              have e0 : w3.cell? ⟨wr.heap.size, 0, none⟩ = some (.string (str f.path)) := by rw [cell_of_row _ _ _ _ _ _ hnew3]; rfl
              have e1 : w3.cell? ⟨wr.heap.size, 1, none⟩ = some (.string (str f.data)) := by rw [cell_of_row _ _ _ _ _ _ hnew3]; rfl
              generalize wr.heap.size = m at *
              have hm3 : m < w3.heap.size := by omega
              have hfs : (str f.path).size = f.path.length := str_size _
              have s1 : (p.size : Int) + 1 ≤ ((str f.path).size : Int) := by rw [hfs]; omega
              have s2 : p.size + 1 ≤ (str f.path).size := by rw [hfs]; omega
              have s3 : 0 ≤ (p.size : Int) + 1 := by omega
              have s4 : IntKind.i64.wrap ((p.size : Int) + 1) = (p.size : Int) + 1 := IntWalk.i64_in _ (by omega)
              have s5 : ((p.size : Int) + 1).toNat = p.size + 1 := by omega
              have HX := Lib.hid (show (str f.path).extract (p.size + 1) (str f.path).size = str (f.path.drop (p.size + 1)) by rw [ext_drop, str_data])
              clear hown1 hbw hb3 hnew3 hnew hfs
              have HB := Lib.hid (fun x : ByteArray => (show (w3.alloc (.cells #[.string x, .string (str f.data)] 31)).drew.heap[w3.heap.size]? = some (.cells #[.string x, .string (str f.data)] 31) from heap_alloc_new w3 _))
              have hrow := hown3.lt
              go_wp2_with (go_at_call 50; (with_reducible refine (hbel _).mono ?_); rintro e w' ⟨rfl, rfl⟩)
              go_region_law ((refine step_append_lies _ (by rfl) _ _ _ (by rfl) w.heap.size 31 i0 _ 2 32 Tryz.underlying23 hi0 hz0 hz1 hz2 rfl (by omega) u5 us.length _ (by rfl) ((hown3.alloc _).drew) ⟨w3.heap.size, 0, none⟩ 1 1 [_, _] (by rfl) (by rfl) (World.news_of_block (cs := #[_, _]) (t := 31) (fr := (0, 0)) (HB.out _)) (by simp [Value.oneCell']) (by omega) (by unfold maxLen; omega) (by omega) (by simp; omega) (w3.heap.size + 1) (by simp) ?_; intro gg cap w6 hown6 hgrow hat hlt6))
              all_goals
                have hb6 : Below w.heap.size w w6 := grown_own0 ((hbn.alloc (by omega) _).drew) hgrow (fun q hq => (hrow q hq).1)
                rw [HX.out, flsOf_snoc us ⟨f.path.drop (p.size + 1), f.data⟩] at hown6
                have hown7 : w6.ownsRow w.heap.size 31 2 (.slice (some ⟨gg, 0, none⟩) (us.length + 1) cap) (us ++ [⟨f.path.drop (p.size + 1), f.data⟩] : List Tre.Fl).length (flsOf (us ++ [⟨f.path.drop (p.size + 1), f.data⟩])) := by
                  rw [List.length_append, List.length_singleton]; exact hown6
                clear hown6 hown3 hgrow hat hlt6 hbn hrow HB e0 e1 s1 s2 s3 s4 s5 hsz
                go_wp2_with fail
                go_roundw
                case rel => exact ⟨k + 1, us ++ [⟨f.path.drop (p.size + 1), f.data⟩], by omega, by go_num, hown7, by simp; omega, HT.out, hb6⟩
                case measure => simp [intOf]; omega
        · have b1 : decide ((k : Int) < ts.length) = false := by simp; omega
          have b1n : decide (k < ts.length) = false := by simp; omega
          have HT := Lib.hid (show R = us by rw [HR.out, List.drop_of_length_le (by omega)]; simp)
          clear HR
          go_wp2_with fail
          go_ret
          rw [HT.out]
          exact ⟨_, rfl, hown, hb⟩
end Go.Proofs.YtinkpbobkeppiaaGreatDoor
