/- Places and Trace of the program. Condition of Trace: the digits' table lies. -/
import Derived.Test.YtlfgnecfabdkmaaGreatDoorPrt
import Derived.Test.YtlfgnecfabdkmaaGreatDoorPz5
import Derived.Deep.DeepCutAuto
namespace Go.Proofs.YtlfgnecfabdkmaaGreatDoor
open Go.RowKit Go.Deep Tr

def plOf (x : Pc.Pl) : List Value := [.int .i64 x.old, .int .i64 x.new]
def plsOf (l : List Pc.Pl) : List Value := l.flatMap plOf
theorem plsOf_snoc (l : List Pc.Pl) (a b : Int) : plsOf l ++ [.int .i64 a, .int .i64 b] = plsOf (l ++ [⟨a, b⟩]) := by simp [plsOf, plOf]
theorem infoP : (Tryz.prog.info? 44).map (fun i => (i.zero, i.size, i.bytes)) = some (some (.agg #[.int .i64 0, .int .i64 0]), 2, 16) := by kernel_rfl
theorem places_keep (n : Int) (x : List (List UInt8)) (t : List Pc.Hk) (o l : Nat) : Pc.places (⟨1, n, x⟩ :: t) o l = Pc.keeps o n.toNat ++ Pc.places t (o + n.toNat) (l + 1) := by rw [Pc.places, if_pos rfl]
theorem places_drop (n : Int) (x : List (List UInt8)) (t : List Pc.Hk) (o l : Nat) : Pc.places (⟨2, n, x⟩ :: t) o l = Pc.places t (o + n.toNat) (l + 1) := by rw [Pc.places, if_neg (by simp), if_pos rfl]
theorem places_add (n : Int) (x : List (List UInt8)) (t : List Pc.Hk) (o l : Nat) : Pc.places (⟨3, n, x⟩ :: t) o l = Pc.adds (l + 1) n.toNat ++ Pc.places t o (l + 1 + n.toNat) := by rw [Pc.places, if_neg (by simp), if_neg (by simp), if_pos rfl]
theorem placesOf_def (p : Pc.Pa) : Pc.placesOf p = Pc.places p.hs 0 (if p.base = [] then 0 else 1) := rfl
/-- What places returns. -/
def GotPl (w : World) (l : List Pc.Pl) : Ending → World → Prop := fun x w' => ∃ v, x = .returned v ∧ w'.ownsRow w.heap.size 44 2 v l.length (plsOf l) ∧ Below w.heap.size w w'
set_option maxHeartbeats 16000000 in
set_option maxRecDepth 100000 in
theorem places_any (p : Pc.Pa) (A : Option Addr) (c : Nat) (w : World) (hA : HsAt w w.heap.size A p.hs) (hl : p.hs.length ≤ 2048) (hH : ∀ h ∈ p.hs, Pc.isHunk h = true) :
    Calls Tryz.prog 54 #[paV p A c] w (GotPl w (Pc.placesOf p)) := by
  obtain ⟨base, hs⟩ := p
  dsimp only at hA hl hH
  rw [paV_def]
  dsimp only
  obtain ⟨i0, hi0, hz0, hz1, hz2⟩ := info_parts infoP
  have HPL := Lib.hid (placesOf_def ⟨base, hs⟩)
  change Hid (Pc.placesOf ⟨base, hs⟩ = Pc.places hs 0 (if base = [] then 0 else 1)) at HPL
  generalize Pc.placesOf ⟨base, hs⟩ = R at *
  have hb0 : Below w.heap.size w (w.alloc (.cells #[.string (str base), .slice A hs.length c] 24)) := (Below.refl _ _).alloc (Nat.le_refl _) _
  have hN0 := heap_alloc_new w (.cells #[.string (str base), .slice A hs.length c] 24)
  have hbs : w.heap.size < (w.alloc (.cells #[.string (str base), .slice A hs.length c] 24)).heap.size := by simp
  have k0 : (w.alloc (.cells #[.string (str base), .slice A hs.length c] 24)).cell? ⟨w.heap.size, 0, none⟩ = some (.string (str base)) := by rw [cell_of_row _ _ _ _ _ _ hN0]; rfl
  have k1 : (w.alloc (.cells #[.string (str base), .slice A hs.length c] 24)).cell? ⟨w.heap.size, 1, none⟩ = some (.slice A hs.length c) := by rw [cell_of_row _ _ _ _ _ _ hN0]; rfl
  have hA1 := hA.next hb0
  have HHK := Lib.hid hH
  have HBW := Lib.hid (fun w' (h : Below (w.alloc (.cells #[.string (str base), .slice A hs.length c] 24)).heap.size (w.alloc (.cells #[.string (str base), .slice A hs.length c] 24)) w') => hb0.trans (h.mono (Nat.le_of_lt hbs)))
  clear hH hA hb0 hN0
  go_enter Tryz.func54, Tryz.ntmps54
  go_upto_if 10 with (fail)
  have HBL := Lib.hid (Nat.le_of_lt hbs)
  have hbb0 := Below.refl (w.alloc (.cells #[.string (str base), .slice A hs.length c] 24)).heap.size (w.alloc (.cells #[.string (str base), .slice A hs.length c] 24))
  generalize w.alloc (.cells #[.string (str base), .slice A hs.length c] 24) = W at *
  generalize hbb : w.heap.size = b at *
  have HBE := Lib.hid hbb
  clear hbb
  obtain ⟨ln, hln⟩ : ∃ ln : Nat, ln = (if base = [] then 0 else 1) := ⟨_, rfl⟩
  have hln1 : ln ≤ 1 := by rw [hln]; split <;> omega
  have HP := Lib.hid (show R = [] ++ Pc.places (hs.drop 0) 0 ln by rw [HPL.out, hln]; rfl)
  have HLN := Lib.hid hln
  clear hln HPL
  go_cut [5] (fun s5 wx => s5 = .int .i64 (ln : Int) ∧ wx = W)
  case first =>
    by_cases hbe : base = []
    · have q3 : (!(str base).toList.isEmpty) = false := by rw [str_list, hbe]; rfl
      rw [q3]
      have HE := Lib.hid (show ln = 0 by rw [HLN.out, if_pos hbe])
      clear hbe HLN
      go_wp2_with fail
      go_meet
      exact ⟨by rw [HE.out]; rfl, rfl⟩
    · have q3 : (!(str base).toList.isEmpty) = true := by rw [str_list]; cases hq : base with | nil => exact absurd hq hbe | cons _ _ => rfl
      rw [q3]
      have HE := Lib.hid (show ln = 1 by rw [HLN.out, if_neg hbe])
      clear hbe HLN
      go_wp2_with fail
      go_meet
      exact ⟨by rw [HE.out]; rfl, rfl⟩
  case rest =>
  obtain ⟨rfl, rfl⟩ := hcut
  clear HLN
  go_wp2_with fail
  go_loopw [3, 4, 5, 16] (fun s3 s4 s5 i wr => ∃ (k old line : Nat) (os : List Pc.Pl), k ≤ hs.length ∧ i = .int .i64 k ∧ s4 = .int .i64 old ∧ s5 = .int .i64 line ∧ old ≤ 1024 * k ∧ line ≤ 1 + 1025 * k ∧ os.length ≤ 1024 * k ∧ wr.ownsRow wc.heap.size 44 2 s3 os.length (plsOf os) ∧ R = os ++ Pc.places (hs.drop k) old line ∧ Below wc.heap.size wc wr) (fun _ _ _ i _ => hs.length - (intOf i).toNat)
  case atStart => exact ⟨0, 0, ln, [], by omega, rfl, rfl, rfl, by omega, by omega, by simp, World.ownsRow_nil _ _ _ _, HP.out, hbb0⟩
  case round =>
    clear HP k0 k1 hbb0
    obtain ⟨k, old, line, os, hk, rfl, rfl, rfl, hol, hli, hosl, hown, hR, hb⟩ := hrel
    have HR := Lib.hid hR
    clear hR
    by_cases hlt : k < hs.length
    · have b1 : decide ((k : Int) < hs.length) = true := by simp; omega
      have b1n : decide (k < hs.length) = true := by simp; omega
      obtain ⟨g, o, Ak, ck, rfl, hg, h0, h1, h2, hck, h4, h5⟩ := hA1 k hlt
      have hd0 := (hb.cell (p := ⟨g, o + k * 3, none⟩) hg).trans h0
      have hd1 := (hb.cell (p := ⟨g, o + k * 3 + 1, none⟩) hg).trans h1
      have hd2 := (hb.cell (p := ⟨g, o + k * 3 + 2, none⟩) hg).trans h2
      have HX := Lib.hid (HR.out.trans (by rw [list_drop hs k hlt]))
      obtain ⟨⟨n1, n2⟩, hkd, hln⟩ := Pc.isHunk_num (HHK.out hs[k] (List.getElem_mem hlt))
      clear h0 h1 h2 HR
      generalize hs[k] = h at *
      obtain ⟨kd, n, xs⟩ := h
      dsimp only at *
      obtain ⟨m, rfl⟩ : ∃ m : Nat, n = m := ⟨n.toNat, by omega⟩
      have hm1 : 1 ≤ m := by omega
      have hm2 : m ≤ 1024 := by omega
      have hown1 := hown.alloc (.cells #[.int .i64 kd, .int .i64 m, .slice Ak xs.length ck] 54)
      have hbw : Below wc.heap.size wc (wr.alloc (.cells #[.int .i64 kd, .int .i64 m, .slice Ak xs.length ck] 54)) := hb.alloc hb.size _
      have hnew := heap_alloc_new wr (.cells #[.int .i64 kd, .int .i64 m, .slice Ak xs.length ck] 54)
      clear n1 n2 hln hown hb hck
      go_upto_region 8 with (fail)
      have e1 : (wr.alloc (.cells #[.int .i64 kd, .int .i64 m, .slice Ak xs.length ck] 54)).cell? ⟨wr.heap.size, 1, none⟩ = some (.int .i64 m) := by rw [cell_of_row _ _ _ _ _ _ hnew]; rfl
      generalize wr.alloc (.cells #[.int .i64 kd, .int .i64 m, .slice Ak xs.length ck] 54) = w2 at *
      generalize wr.heap.size = q at *
      clear hd0 hd1 hd2
      rcases hkd with rfl | rfl | rfl
      · have HT := Lib.hid (show R = (os ++ Pc.keeps old m) ++ Pc.places (hs.drop (k + 1)) (old + m) (line + 1) by rw [HX.out, places_keep, List.append_assoc]; rfl)
        clear HX
        go_wp2_with fail
        obtain ⟨wo2, rfl⟩ : ∃ wo : World, wo = w2 := ⟨_, rfl⟩
        go_loopw [3, 4, 5, 24] (fun s3 s4 s5 i wq => ∃ j : Nat, j ≤ m ∧ i = .int .i64 j ∧ s4 = .int .i64 ((old + j : Nat) : Int) ∧ s5 = .int .i64 ((line + 1 : Nat) : Int) ∧ wq.ownsRow wc.heap.size 44 2 s3 (os ++ Pc.keeps old j).length (plsOf (os ++ Pc.keeps old j)) ∧ wq.heap[q]? = some (.cells #[.int .i64 1, .int .i64 m, .slice Ak xs.length ck] 54 (0, 0)) ∧ Below wc.heap.size wc wq) (fun _ _ _ i _ => m - (intOf i).toNat)
        case atStart => exact ⟨0, by omega, rfl, by first | rfl | go_num, by first | rfl | go_num, by simpa [Pc.keeps] using hown1, hnew, hbw⟩
        case round =>
          clear hown1 hbw hnew e1
          obtain ⟨j, hj, rfl, rfl, rfl, hown, hblk, hb⟩ := hrel
          by_cases hjm : j < m
          · have b2 : decide ((j : Int) < (m : Int)) = true := by simp; omega
            have b2n : decide (j < m) = true := by simp; omega
            have e0 : wr.cell? ⟨q, 0, none⟩ = some (.int .i64 1) := by rw [cell_of_row _ _ _ _ _ _ hblk]; rfl
            have hrow := hown.lt
            have hfar := own_far hown hblk (by decide)
            have hlen : (os ++ Pc.keeps old j).length ≤ 3000000 := by rw [List.length_append, Pc.keeps_len]; omega
            have HSN := Lib.hid (show plsOf (os ++ Pc.keeps old j) ++ [.int .i64 ((old : Int) + (j : Int)), .int .i64 (-1)] = plsOf (os ++ Pc.keeps old (j + 1)) by rw [show (old : Int) + (j : Int) = ((old + j : Nat) : Int) by omega, plsOf_snoc, List.append_assoc, ← Pc.keeps_snoc])
            have HLL := Lib.hid (show (os ++ Pc.keeps old (j + 1)).length = (os ++ Pc.keeps old j).length + 1 by rw [List.length_append, List.length_append, Pc.keeps_len, Pc.keeps_len]; omega)
            generalize hpr : os ++ Pc.keeps old j = pr at *
            clear hpr
            go_wp2_with (at_builtin; refine wpList_append_lies _ (by rfl) _ _ 38 (by rfl) wc.heap.size 44 i0 _ 2 16 Tryz.underlying38 hi0 hz0 hz1 hz2 rfl (by omega) u3 pr.length _ (by rfl) (hown.alloc _) ⟨wr.heap.size, 0, none⟩ 1 1 [_, _] (by rfl) (by rfl) (World.news_of_block (cs := #[_, _]) (t := 44) (fr := (0, 0)) (heap_alloc_new wr _)) (by simp [Value.oneCell']) (by omega) (by unfold maxLen; omega) (by omega) (by have := hb.size; simp; omega) (wr.heap.size + 1) (by simp) ?_; intro gg cap w3 hown3 hgrow hat hlt3)
            rw [HSN.out] at hown3
            have hb3 : Below wc.heap.size wc w3 := grown_own0 (hb.alloc hb.size _) hgrow (fun q' hq' => (hrow q' hq').1)
            have hblk3 := blk_grown hblk hgrow hfar
            clear hgrow hat hlt3 hown hfar hrow HSN
            go_roundw
            case rel => exact ⟨j + 1, by omega, by go_num, by first | rfl | go_num, by first | rfl | go_num, by rw [HLL.out]; exact hown3, hblk3, hb3⟩
            case measure => simp [intOf]; omega
          · have b2 : decide ((j : Int) < (m : Int)) = false := by simp; omega
            have b2n : decide (j < m) = false := by simp; omega
            obtain rfl : j = m := by omega
            clear HBL hjm
            go_wp2_with fail
            go_roundw
            case rel => exact ⟨k + 1, old + j, line + 1, os ++ Pc.keeps old j, by omega, by go_num, by first | rfl | go_num, by first | rfl | go_num, by omega, by omega, by rw [List.length_append, Pc.keeps_len]; omega, hown, HT.out, hb⟩
            case measure => simp [intOf]; omega
      · have HT := Lib.hid (show R = os ++ Pc.places (hs.drop (k + 1)) (old + m) (line + 1) by rw [HX.out, places_drop]; rfl)
        clear HX
        go_wp2_with fail
        obtain ⟨wo2, rfl⟩ : ∃ wo : World, wo = w2 := ⟨_, rfl⟩
        go_loopw [3, 4, 5, 24] (fun s3 s4 s5 i wq => ∃ j : Nat, j ≤ m ∧ i = .int .i64 j ∧ s4 = .int .i64 ((old + j : Nat) : Int) ∧ s5 = .int .i64 ((line + 1 : Nat) : Int) ∧ wq.ownsRow wc.heap.size 44 2 s3 (os).length (plsOf (os)) ∧ wq.heap[q]? = some (.cells #[.int .i64 2, .int .i64 m, .slice Ak xs.length ck] 54 (0, 0)) ∧ Below wc.heap.size wc wq) (fun _ _ _ i _ => m - (intOf i).toNat)
        case atStart => exact ⟨0, by omega, rfl, by first | rfl | go_num, by first | rfl | go_num, by exact hown1, hnew, hbw⟩
        case round =>
          clear hown1 hbw hnew e1
          obtain ⟨j, hj, rfl, rfl, rfl, hown, hblk, hb⟩ := hrel
          by_cases hjm : j < m
          · have b2 : decide ((j : Int) < (m : Int)) = true := by simp; omega
            have b2n : decide (j < m) = true := by simp; omega
            have e0 : wr.cell? ⟨q, 0, none⟩ = some (.int .i64 2) := by rw [cell_of_row _ _ _ _ _ _ hblk]; rfl
            go_wp2_with fail
            go_roundw
            case rel => exact ⟨j + 1, by omega, by go_num, by first | rfl | go_num, by first | rfl | go_num, hown, hblk, hb⟩
            case measure => simp [intOf]; omega
          · have b2 : decide ((j : Int) < (m : Int)) = false := by simp; omega
            have b2n : decide (j < m) = false := by simp; omega
            obtain rfl : j = m := by omega
            clear HBL hjm
            go_wp2_with fail
            go_roundw
            case rel => exact ⟨k + 1, old + j, line + 1, os, by omega, by go_num, by first | rfl | go_num, by first | rfl | go_num, by omega, by omega, by omega, hown, HT.out, hb⟩
            case measure => simp [intOf]; omega
      · have HT := Lib.hid (show R = (os ++ Pc.adds (line + 1) m) ++ Pc.places (hs.drop (k + 1)) old (line + 1 + m) by rw [HX.out, places_add, List.append_assoc]; rfl)
        clear HX
        go_wp2_with fail
        obtain ⟨wo2, rfl⟩ : ∃ wo : World, wo = w2 := ⟨_, rfl⟩
        go_loopw [3, 4, 5, 24] (fun s3 s4 s5 i wq => ∃ j : Nat, j ≤ m ∧ i = .int .i64 j ∧ s4 = .int .i64 (old : Int) ∧ s5 = .int .i64 ((line + 1 + j : Nat) : Int) ∧ wq.ownsRow wc.heap.size 44 2 s3 (os ++ Pc.adds (line + 1) j).length (plsOf (os ++ Pc.adds (line + 1) j)) ∧ wq.heap[q]? = some (.cells #[.int .i64 3, .int .i64 m, .slice Ak xs.length ck] 54 (0, 0)) ∧ Below wc.heap.size wc wq) (fun _ _ _ i _ => m - (intOf i).toNat)
        case atStart => exact ⟨0, by omega, rfl, by first | rfl | go_num, by first | rfl | go_num, by simpa [Pc.adds] using hown1, hnew, hbw⟩
        case round =>
          clear hown1 hbw hnew e1
          obtain ⟨j, hj, rfl, rfl, rfl, hown, hblk, hb⟩ := hrel
          by_cases hjm : j < m
          · have b2 : decide ((j : Int) < (m : Int)) = true := by simp; omega
            have b2n : decide (j < m) = true := by simp; omega
            have e0 : wr.cell? ⟨q, 0, none⟩ = some (.int .i64 3) := by rw [cell_of_row _ _ _ _ _ _ hblk]; rfl
            have hrow := hown.lt
            have hfar := own_far hown hblk (by decide)
            have hlen : (os ++ Pc.adds (line + 1) j).length ≤ 3000000 := by rw [List.length_append, Pc.adds_len]; omega
            have HSN := Lib.hid (show plsOf (os ++ Pc.adds (line + 1) j) ++ [.int .i64 (-1), .int .i64 ((line : Int) + 1 + (j : Int))] = plsOf (os ++ Pc.adds (line + 1) (j + 1)) by rw [show (line : Int) + 1 + (j : Int) = ((line + 1 + j : Nat) : Int) by omega, plsOf_snoc, List.append_assoc, ← Pc.adds_snoc])
            have HLL := Lib.hid (show (os ++ Pc.adds (line + 1) (j + 1)).length = (os ++ Pc.adds (line + 1) j).length + 1 by rw [List.length_append, List.length_append, Pc.adds_len, Pc.adds_len]; omega)
            generalize hpr : os ++ Pc.adds (line + 1) j = pr at *
            clear hpr
            go_wp2_with (at_builtin; refine wpList_append_lies _ (by rfl) _ _ 38 (by rfl) wc.heap.size 44 i0 _ 2 16 Tryz.underlying38 hi0 hz0 hz1 hz2 rfl (by omega) u3 pr.length _ (by rfl) (hown.alloc _) ⟨wr.heap.size, 0, none⟩ 1 1 [_, _] (by rfl) (by rfl) (World.news_of_block (cs := #[_, _]) (t := 44) (fr := (0, 0)) (heap_alloc_new wr _)) (by simp [Value.oneCell']) (by omega) (by unfold maxLen; omega) (by omega) (by have := hb.size; simp; omega) (wr.heap.size + 1) (by simp) ?_; intro gg cap w3 hown3 hgrow hat hlt3)
            rw [HSN.out] at hown3
            have hb3 : Below wc.heap.size wc w3 := grown_own0 (hb.alloc hb.size _) hgrow (fun q' hq' => (hrow q' hq').1)
            have hblk3 := blk_grown hblk hgrow hfar
            clear hgrow hat hlt3 hown hfar hrow HSN
            go_roundw
            case rel => exact ⟨j + 1, by omega, by go_num, by first | rfl | go_num, by first | rfl | go_num, by rw [HLL.out]; exact hown3, hblk3, hb3⟩
            case measure => simp [intOf]; omega
          · have b2 : decide ((j : Int) < (m : Int)) = false := by simp; omega
            have b2n : decide (j < m) = false := by simp; omega
            obtain rfl : j = m := by omega
            clear HBL hjm
            go_wp2_with fail
            go_roundw
            case rel => exact ⟨k + 1, old, line + 1 + j, os ++ Pc.adds (line + 1) j, by omega, by go_num, by first | rfl | go_num, by first | rfl | go_num, by omega, by omega, by rw [List.length_append, Pc.adds_len]; omega, hown, HT.out, hb⟩
            case measure => simp [intOf]; omega
    · have b1 : decide ((k : Int) < hs.length) = false := by simp; omega
      have b1n : decide (k < hs.length) = false := by simp; omega
      have HT := Lib.hid (show R = os by rw [HR.out, List.drop_of_length_le (by omega)]; exact List.append_nil _)
      clear HR
      go_wp2_with fail
      go_ret
      rw [HT.out]
      exact ⟨_, rfl, by rw [HBE.out]; exact hown.mono HBL.out, by rw [HBE.out]; exact HBW.out _ hb⟩
theorem trace_def (p : Pc.Pa) (n : Int) : Pc.trace p n = if Pc.valid p = false then ([], 1) else if Pc.cnt 1 p.hs + Pc.cnt 2 p.hs ≠ n then ([], 9) else (Pc.placesOf p, 0) := rfl
/-- What Trace returns. -/
def GotTr (w : World) (R : List Pc.Pl × Int) : Ending → World → Prop := fun x w' => ∃ v, x = .returned (.tuple #[v, .int .i64 R.2]) ∧ w'.ownsRow w.heap.size 44 2 v R.1.length (plsOf R.1) ∧ Below w.heap.size w w'
set_option maxHeartbeats 8000000 in
set_option maxRecDepth 100000 in
theorem trace_any (p : Pc.Pa) (A : Option Addr) (c : Nat) (n : Int) (w : World) (hP : PaOk w p A) (hT : Cd.Tabs w) :
    Calls Tryz.prog 22 #[paV p A c, .int .i64 n] w (GotTr w (Pc.trace p n)) := by
  have hb0 : Below w.heap.size w (w.alloc (.cells #[.string (str p.base), .slice A p.hs.length c] 24)) := (Below.refl _ _).alloc (Nat.le_refl _) _
  have hN0 := heap_alloc_new w (.cells #[.string (str p.base), .slice A p.hs.length c] 24)
  have hbs : w.heap.size < (w.alloc (.cells #[.string (str p.base), .slice A p.hs.length c] 24)).heap.size := by simp
  have hcall := isValid_any p A c _ (hP.next hb0) (hT.below hb0)
  have HAT := Lib.hid (hP.next hb0).at_
  have HCD := Lib.hid (trace_def p n)
  have HVA := Lib.hid (fun h => valid_all (p := p) h)
  rw [paV_def] at hcall ⊢
  clear hP hT
  cases hv : Pc.valid p with
  | false =>
    rw [hv] at hcall
    have HT := Lib.hid (HCD.out.trans (if_pos hv))
    clear HCD hv HVA HAT
    generalize Pc.trace p n = R at *
    go_enter Tryz.func22, Tryz.ntmps22
    go_wp2_with fail
    with_reducible refine hcall.mono ?_
    clear hcall
    rintro x w1 ⟨rfl, hb1⟩
    go_wp2_with fail
    go_ret2
    rw [HT.out]
    exact ⟨_, rfl, World.ownsRow_nil _ _ _ _, hb0.trans (hb1.mono hb0.size)⟩
  | true =>
    rw [hv] at hcall
    have HT := Lib.hid (HCD.out.trans (if_neg (by rw [hv]; simp)))
    obtain ⟨v1, v2, v3, v4, v5, v6, v7, v8⟩ := HVA.out hv
    clear HCD hv HVA
    have HH := Lib.hid v2
    clear v2
    generalize Pc.trace p n = R at *
    go_enter Tryz.func22, Tryz.ntmps22
    go_wp2_with fail
    with_reducible refine hcall.mono ?_
    clear hcall
    rintro x w1 ⟨rfl, hb1⟩
    have hb01 := hb0.trans (hb1.mono hb0.size)
    have hN := (hb1.block w.heap.size hbs).trans hN0
    have k0 : w1.cell? ⟨w.heap.size, 0, none⟩ = some (.string (str p.base)) := by rw [cell_of_row _ _ _ _ _ _ hN]; rfl
    have k1 : w1.cell? ⟨w.heap.size, 1, none⟩ = some (.slice A p.hs.length c) := by rw [cell_of_row _ _ _ _ _ _ hN]; rfl
    have hlt1 : w.heap.size < w1.heap.size := Nat.lt_of_lt_of_le hbs hb1.size
    have HA1 := Lib.hid (HAT.out.next hb1)
    have hcc := count_any A c p.hs w1 HA1.out (by omega) v3
    have HPL := Lib.hid (fun w' h => places_any p A c w' h v1 HH.out)
    simp only [paV_def] at HPL
    clear v3 hN HAT hb1 hb0 hN0 hbs v5 v8
    generalize Pc.cnt 1 p.hs = x1 at *
    generalize Pc.cnt 2 p.hs = x2 at *
    generalize Pc.cnt 3 p.hs = x3 at *
    go_wp2_with fail
    with_reducible refine hcc.mono ?_
    clear hcc
    rintro x w2 ⟨rfl, hb2⟩
    have hb02 := hb01.trans (hb2.mono hb01.size)
    have l0 := (hb2.cell (p := ⟨w.heap.size, 0, none⟩) hlt1).trans k0
    have l1 := (hb2.cell (p := ⟨w.heap.size, 1, none⟩) hlt1).trans k1
    have hcall := HPL.out w2 (HA1.out.next hb2)
    clear k0 k1 hb01 hb2 hlt1 HPL
    by_cases hn : x1 + x2 = n
    · have q1 : ((x1 + x2) != n) = false := by rw [hn]; simp
      have HT2 := Lib.hid (HT.out.trans (if_neg (by simpa using hn)))
      clear HT hn
      generalize Pc.placesOf p = PL at *
      go_wp2_with fail
      with_reducible refine hcall.mono ?_
      clear hcall
      rintro x w3 ⟨v3, rfl, ho3, hb3⟩
      go_wp2_with fail
      go_ret2
      rw [HT2.out]
      exact ⟨_, rfl, ho3.mono hb02.size, hb02.trans (hb3.mono hb02.size)⟩
    · have q1 : ((x1 + x2) != n) = true := by rw [bne_iff_ne]; exact hn
      have HT2 := Lib.hid (HT.out.trans (if_pos hn))
      clear HT hn hcall
      go_wp2_with fail
      go_ret2
      rw [HT2.out]
      exact ⟨_, rfl, World.ownsRow_nil _ _ _ _, hb02⟩
end Go.Proofs.YtlfgnecfabdkmaaGreatDoor
