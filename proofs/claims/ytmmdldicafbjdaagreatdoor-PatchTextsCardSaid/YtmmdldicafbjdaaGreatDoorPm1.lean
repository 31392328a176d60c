/- Places and Trace of the program. Condition of Trace: the digits' table lies.
Make, Invert and Then of the program. Condition: the variables that the program reads lie.
Invert and Then of the program. Condition: the variables that the program reads lie.
The head lines of hunks with few lines: parseHead of the program. No condition.
Parse of the program on the text of hunks with few lines. Condition: the variables that the program reads lie.
The examples of the chapter: what the plain functions answer. Plain.
awake of the law returns true. Condition: the variables that the program reads lie.
Few of the reference and few of the law: what is true behind them. No condition but the lengths. -/
import Derived.Test.YtmmdldicafbjdaaGreatDoorPrt
import Derived.Test.YtmmdldicafbjdaaGreatDoorPlc
import Derived.Deep.DeepCutAuto
import Derived.Test.YtmmdldicafbjdaaGreatDoorKee
import Derived.Lib.Atoi
import Derived.Lib.SmallJoins
import Derived.Test.YtmmdldicafbjdaaGreatDoorKp3
section
namespace Go.Proofs.YtmmdldicafbjdaaGreatDoor
open Go.RowKit Go.Deep Tr

def plOf (x : Pc.Pl) : List Value := [.int .i64 x.old, .int .i64 x.new]
def plsOf (l : List Pc.Pl) : List Value := l.flatMap plOf
theorem plsOf_snoc (l : List Pc.Pl) (a b : Int) : plsOf l ++ [.int .i64 a, .int .i64 b] = plsOf (l ++ [⟨a, b⟩]) := by simp [plsOf, plOf]
theorem infoP : (Tryz.prog.info? 44).map (fun i => (i.zero, i.size, i.bytes)) = some (some (.agg #[.int .i64 0, .int .i64 0]), 2, 16) := by kernel_rfl
theorem places_keep (n : Int) (x : List (List UInt8)) (t : List Pc.Hk) (o l : Nat) : Pc.places (⟨1, n, x⟩ :: t) o l = Pc.keeps o n.toNat ++ Pc.places t (o + n.toNat) (l + 1) := by rw [Pc.places, if_pos rfl]
theorem places_drop (n : Int) (x : List (List UInt8)) (t : List Pc.Hk) (o l : Nat) : Pc.places (⟨2, n, x⟩ :: t) o l = Pc.places t (o + n.toNat) (l + 1) := by rw [Pc.places, if_neg (by simp), if_pos rfl]
theorem places_add (n : Int) (x : List (List UInt8)) (t : List Pc.Hk) (o l : Nat) : Pc.places (⟨3, n, x⟩ :: t) o l = Pc.adds (l + 1) n.toNat ++ Pc.places t o (l + 1 + n.toNat) := by rw [Pc.places, if_neg (by simp), if_neg (by simp), if_pos rfl]
theorem placesOf_def (p : Pc.Pa) : Pc.placesOf p = Pc.places p.hs 0 (if p.base = [] then 0 else 1) := rfl
/-- What places returns. -/
def GotPl (w : World) (l : List Pc.Pl) : Ending → World → Prop := fun x w' => ∃ v, x = .returned v ∧ w'.ownsRow w.heap.size 44 2 v l.length (plsOf l) ∧ Below w.heap.size w w'
set_option maxHeartbeats 16000000 in
set_option maxRecDepth 100000 in
theorem places_any (p : Pc.Pa) (A : Option Addr) (c : Nat) (w : World) (hA : HsAt w w.heap.size A p.hs) (hl : p.hs.length ≤ 2048) (hH : ∀ h ∈ p.hs, Pc.isHunk h = true) :
    Calls Tryz.prog 40 #[paV p A c] w (GotPl w (Pc.placesOf p)) := by
  obtain ⟨base, hs⟩ := p
  dsimp only at hA hl hH
  rw [paV_def]
  dsimp only
  obtain ⟨i0, hi0, hz0, hz1, hz2⟩ := info_parts infoP
  have HPL := Lib.hid (placesOf_def ⟨base, hs⟩)
  change Hid (Pc.placesOf ⟨base, hs⟩ = Pc.places hs 0 (if base = [] then 0 else 1)) at HPL
  generalize Pc.placesOf ⟨base, hs⟩ = R at *
  have hb0 : Below w.heap.size w (w.alloc (.cells #[.string (str base), .slice A hs.length c] 24)) := (Below.refl _ _).alloc (Nat.le_refl _) _
  have hN0 := heap_alloc_new w (.cells #[.string (str base), .slice A hs.length c] 24)
  have hbs : w.heap.size < (w.alloc (.cells #[.string (str base), .slice A hs.length c] 24)).heap.size := by simp
  have k0 : (w.alloc (.cells #[.string (str base), .slice A hs.length c] 24)).cell? ⟨w.heap.size, 0, none⟩ = some (.string (str base)) := by rw [cell_of_row _ _ _ _ _ _ hN0]; rfl
  have k1 : (w.alloc (.cells #[.string (str base), .slice A hs.length c] 24)).cell? ⟨w.heap.size, 1, none⟩ = some (.slice A hs.length c) := by rw [cell_of_row _ _ _ _ _ _ hN0]; rfl
  have hA1 := hA.next hb0
  have HHK := Lib.hid hH
  have HBW := Lib.hid (fun w' (h : Below (w.alloc (.cells #[.string (str base), .slice A hs.length c] 24)).heap.size (w.alloc (.cells #[.string (str base), .slice A hs.length c] 24)) w') => hb0.trans (h.mono (Nat.le_of_lt hbs)))
  clear hH hA hb0 hN0
  go_enter Tryz.func40, Tryz.ntmps40
  go_upto_if 10 with (fail)
  have HBL := Lib.hid (Nat.le_of_lt hbs)
  have hbb0 := Below.refl (w.alloc (.cells #[.string (str base), .slice A hs.length c] 24)).heap.size (w.alloc (.cells #[.string (str base), .slice A hs.length c] 24))
  generalize w.alloc (.cells #[.string (str base), .slice A hs.length c] 24) = W at *
  generalize hbb : w.heap.size = b at *
  have HBE := Lib.hid hbb
  clear hbb
  obtain ⟨ln, hln⟩ : ∃ ln : Nat, ln = (if base = [] then 0 else 1) := ⟨_, rfl⟩
  have hln1 : ln ≤ 1 := by rw [hln]; split <;> omega
  have HP := Lib.hid (show R = [] ++ Pc.places (hs.drop 0) 0 ln by rw [HPL.out, hln]; rfl)
  have HLN := Lib.hid hln
  clear hln HPL
  go_cut [5] (fun s5 wx => s5 = .int .i64 (ln : Int) ∧ wx = W)
  case first =>
    by_cases hbe : base = []
    · have q3 : (!(str base).toList.isEmpty) = false := by rw [str_list, hbe]; rfl
      rw [q3]
      have HE := Lib.hid (show ln = 0 by rw [HLN.out, if_pos hbe])
      clear hbe HLN
      go_wp2_with fail
      go_meet
      exact ⟨by rw [HE.out]; rfl, rfl⟩
    · have q3 : (!(str base).toList.isEmpty) = true := by rw [str_list]; cases hq : base with | nil => exact absurd hq hbe | cons _ _ => rfl
      rw [q3]
      have HE := Lib.hid (show ln = 1 by rw [HLN.out, if_neg hbe])
      clear hbe HLN
      go_wp2_with fail
      go_meet
      exact ⟨by rw [HE.out]; rfl, rfl⟩
  case rest =>
  obtain ⟨rfl, rfl⟩ := hcut
  clear HLN
  go_wp2_with fail
  go_loopw [3, 4, 5, 16] (fun s3 s4 s5 i wr => ∃ (k old line : Nat) (os : List Pc.Pl), k ≤ hs.length ∧ i = .int .i64 k ∧ s4 = .int .i64 old ∧ s5 = .int .i64 line ∧ old ≤ 1024 * k ∧ line ≤ 1 + 1025 * k ∧ os.length ≤ 1024 * k ∧ wr.ownsRow wc.heap.size 44 2 s3 os.length (plsOf os) ∧ R = os ++ Pc.places (hs.drop k) old line ∧ Below wc.heap.size wc wr) (fun _ _ _ i _ => hs.length - (intOf i).toNat)
  case atStart => exact ⟨0, 0, ln, [], by omega, rfl, rfl, rfl, by omega, by omega, by simp, World.ownsRow_nil _ _ _ _, HP.out, hbb0⟩
  case round =>
    clear HP k0 k1 hbb0
    obtain ⟨k, old, line, os, hk, rfl, rfl, rfl, hol, hli, hosl, hown, hR, hb⟩ := hrel
    have HR := Lib.hid hR
    clear hR
    by_cases hlt : k < hs.length
    · have b1 : decide ((k : Int) < hs.length) = true := by simp; omega
      have b1n : decide (k < hs.length) = true := by simp; omega
      obtain ⟨g, o, Ak, ck, rfl, hg, h0, h1, h2, hck, h4, h5⟩ := hA1 k hlt
      have hd0 := (hb.cell (p := ⟨g, o + k * 3, none⟩) hg).trans h0
      have hd1 := (hb.cell (p := ⟨g, o + k * 3 + 1, none⟩) hg).trans h1
      have hd2 := (hb.cell (p := ⟨g, o + k * 3 + 2, none⟩) hg).trans h2
      have HX := Lib.hid (HR.out.trans (by rw [list_drop hs k hlt]))
      obtain ⟨⟨n1, n2⟩, hkd, hln⟩ := Pc.isHunk_num (HHK.out hs[k] (List.getElem_mem hlt))
      clear h0 h1 h2 HR
      generalize hs[k] = h at *
      obtain ⟨kd, n, xs⟩ := h
      dsimp only at *
      obtain ⟨m, rfl⟩ : ∃ m : Nat, n = m := ⟨n.toNat, by omega⟩
      have hm1 : 1 ≤ m := by omega
      have hm2 : m ≤ 1024 := by omega
      have hown1 := hown.alloc (.cells #[.int .i64 kd, .int .i64 m, .slice Ak xs.length ck] 47)
      have hbw : Below wc.heap.size wc (wr.alloc (.cells #[.int .i64 kd, .int .i64 m, .slice Ak xs.length ck] 47)) := hb.alloc hb.size _
      have hnew := heap_alloc_new wr (.cells #[.int .i64 kd, .int .i64 m, .slice Ak xs.length ck] 47)
      clear n1 n2 hln hown hb hck
      go_upto_region 8 with (fail)
      have e1 : (wr.alloc (.cells #[.int .i64 kd, .int .i64 m, .slice Ak xs.length ck] 47)).cell? ⟨wr.heap.size, 1, none⟩ = some (.int .i64 m) := by rw [cell_of_row _ _ _ _ _ _ hnew]; rfl
      generalize wr.alloc (.cells #[.int .i64 kd, .int .i64 m, .slice Ak xs.length ck] 47) = w2 at *
      generalize wr.heap.size = q at *
      clear hd0 hd1 hd2
      rcases hkd with rfl | rfl | rfl
      · have HT := Lib.hid (show R = (os ++ Pc.keeps old m) ++ Pc.places (hs.drop (k + 1)) (old + m) (line + 1) by rw [HX.out, places_keep, List.append_assoc]; rfl)
        clear HX
        go_wp2_with fail
        obtain ⟨wo2, rfl⟩ : ∃ wo : World, wo = w2 := ⟨_, rfl⟩
        go_loopw [3, 4, 5, 24] (fun s3 s4 s5 i wq => ∃ j : Nat, j ≤ m ∧ i = .int .i64 j ∧ s4 = .int .i64 ((old + j : Nat) : Int) ∧ s5 = .int .i64 ((line + 1 : Nat) : Int) ∧ wq.ownsRow wc.heap.size 44 2 s3 (os ++ Pc.keeps old j).length (plsOf (os ++ Pc.keeps old j)) ∧ wq.heap[q]? = some (.cells #[.int .i64 1, .int .i64 m, .slice Ak xs.length ck] 47 (0, 0)) ∧ Below wc.heap.size wc wq) (fun _ _ _ i _ => m - (intOf i).toNat)
        case atStart => exact ⟨0, by omega, rfl, by first | rfl | go_num, by first | rfl | go_num, by simpa [Pc.keeps] using hown1, hnew, hbw⟩
        case round =>
          clear hown1 hbw hnew e1
          obtain ⟨j, hj, rfl, rfl, rfl, hown, hblk, hb⟩ := hrel
          by_cases hjm : j < m
          · have b2 : decide ((j : Int) < (m : Int)) = true := by simp; omega
            have b2n : decide (j < m) = true := by simp; omega
            have e0 : wr.cell? ⟨q, 0, none⟩ = some (.int .i64 1) := by rw [cell_of_row _ _ _ _ _ _ hblk]; rfl
            have hrow := hown.lt
            have hfar := own_far hown hblk (by decide)
            have hlen : (os ++ Pc.keeps old j).length ≤ 3000000 := by rw [List.length_append, Pc.keeps_len]; omega
            have HSN := Lib.hid (show plsOf (os ++ Pc.keeps old j) ++ [.int .i64 ((old : Int) + (j : Int)), .int .i64 (-1)] = plsOf (os ++ Pc.keeps old (j + 1)) by rw [show (old : Int) + (j : Int) = ((old + j : Nat) : Int) by omega, plsOf_snoc, List.append_assoc, ← Pc.keeps_snoc])
            have HLL := Lib.hid (show (os ++ Pc.keeps old (j + 1)).length = (os ++ Pc.keeps old j).length + 1 by rw [List.length_append, List.length_append, Pc.keeps_len, Pc.keeps_len]; omega)
            generalize hpr : os ++ Pc.keeps old j = pr at *
            clear hpr
            go_wp2_with (at_builtin; refine wpList_append_lies _ (by rfl) _ _ 37 (by rfl) wc.heap.size 44 i0 _ 2 16 Tryz.underlying37 hi0 hz0 hz1 hz2 rfl (by omega) u3 pr.length _ (by rfl) (hown.alloc _) ⟨wr.heap.size, 0, none⟩ 1 1 [_, _] (by rfl) (by rfl) (World.news_of_block (cs := #[_, _]) (t := 44) (fr := (0, 0)) (heap_alloc_new wr _)) (by simp [Value.oneCell']) (by omega) (by unfold maxLen; omega) (by omega) (by have := hb.size; simp; omega) (wr.heap.size + 1) (by simp) ?_; intro gg cap w3 hown3 hgrow hat hlt3)
            rw [HSN.out] at hown3
            have hb3 : Below wc.heap.size wc w3 := grown_own0 (hb.alloc hb.size _) hgrow (fun q' hq' => (hrow q' hq').1)
            have hblk3 := blk_grown hblk hgrow hfar
            clear hgrow hat hlt3 hown hfar hrow HSN
            go_roundw
            case rel => exact ⟨j + 1, by omega, by go_num, by first | rfl | go_num, by first | rfl | go_num, by rw [HLL.out]; exact hown3, hblk3, hb3⟩
            case measure => simp [intOf]; omega
          · have b2 : decide ((j : Int) < (m : Int)) = false := by simp; omega
            have b2n : decide (j < m) = false := by simp; omega
            obtain rfl : j = m := by omega
            clear HBL hjm
            go_wp2_with fail
            go_roundw
            case rel => exact ⟨k + 1, old + j, line + 1, os ++ Pc.keeps old j, by omega, by go_num, by first | rfl | go_num, by first | rfl | go_num, by omega, by omega, by rw [List.length_append, Pc.keeps_len]; omega, hown, HT.out, hb⟩
            case measure => simp [intOf]; omega
      · have HT := Lib.hid (show R = os ++ Pc.places (hs.drop (k + 1)) (old + m) (line + 1) by rw [HX.out, places_drop]; rfl)
        clear HX
        go_wp2_with fail
        obtain ⟨wo2, rfl⟩ : ∃ wo : World, wo = w2 := ⟨_, rfl⟩
        go_loopw [3, 4, 5, 24] (fun s3 s4 s5 i wq => ∃ j : Nat, j ≤ m ∧ i = .int .i64 j ∧ s4 = .int .i64 ((old + j : Nat) : Int) ∧ s5 = .int .i64 ((line + 1 : Nat) : Int) ∧ wq.ownsRow wc.heap.size 44 2 s3 (os).length (plsOf (os)) ∧ wq.heap[q]? = some (.cells #[.int .i64 2, .int .i64 m, .slice Ak xs.length ck] 47 (0, 0)) ∧ Below wc.heap.size wc wq) (fun _ _ _ i _ => m - (intOf i).toNat)
        case atStart => exact ⟨0, by omega, rfl, by first | rfl | go_num, by first | rfl | go_num, by exact hown1, hnew, hbw⟩
        case round =>
          clear hown1 hbw hnew e1
          obtain ⟨j, hj, rfl, rfl, rfl, hown, hblk, hb⟩ := hrel
          by_cases hjm : j < m
          · have b2 : decide ((j : Int) < (m : Int)) = true := by simp; omega
            have b2n : decide (j < m) = true := by simp; omega
            have e0 : wr.cell? ⟨q, 0, none⟩ = some (.int .i64 2) := by rw [cell_of_row _ _ _ _ _ _ hblk]; rfl
            go_wp2_with fail
            go_roundw
            case rel => exact ⟨j + 1, by omega, by go_num, by first | rfl | go_num, by first | rfl | go_num, hown, hblk, hb⟩
            case measure => simp [intOf]; omega
          · have b2 : decide ((j : Int) < (m : Int)) = false := by simp; omega
            have b2n : decide (j < m) = false := by simp; omega
            obtain rfl : j = m := by omega
            clear HBL hjm
            go_wp2_with fail
            go_roundw
            case rel => exact ⟨k + 1, old + j, line + 1, os, by omega, by go_num, by first | rfl | go_num, by first | rfl | go_num, by omega, by omega, by omega, hown, HT.out, hb⟩
            case measure => simp [intOf]; omega
      · have HT := Lib.hid (show R = (os ++ Pc.adds (line + 1) m) ++ Pc.places (hs.drop (k + 1)) old (line + 1 + m) by rw [HX.out, places_add, List.append_assoc]; rfl)
        clear HX
        go_wp2_with fail
        obtain ⟨wo2, rfl⟩ : ∃ wo : World, wo = w2 := ⟨_, rfl⟩
        go_loopw [3, 4, 5, 24] (fun s3 s4 s5 i wq => ∃ j : Nat, j ≤ m ∧ i = .int .i64 j ∧ s4 = .int .i64 (old : Int) ∧ s5 = .int .i64 ((line + 1 + j : Nat) : Int) ∧ wq.ownsRow wc.heap.size 44 2 s3 (os ++ Pc.adds (line + 1) j).length (plsOf (os ++ Pc.adds (line + 1) j)) ∧ wq.heap[q]? = some (.cells #[.int .i64 3, .int .i64 m, .slice Ak xs.length ck] 47 (0, 0)) ∧ Below wc.heap.size wc wq) (fun _ _ _ i _ => m - (intOf i).toNat)
        case atStart => exact ⟨0, by omega, rfl, by first | rfl | go_num, by first | rfl | go_num, by simpa [Pc.adds] using hown1, hnew, hbw⟩
        case round =>
          clear hown1 hbw hnew e1
          obtain ⟨j, hj, rfl, rfl, rfl, hown, hblk, hb⟩ := hrel
          by_cases hjm : j < m
          · have b2 : decide ((j : Int) < (m : Int)) = true := by simp; omega
            have b2n : decide (j < m) = true := by simp; omega
            have e0 : wr.cell? ⟨q, 0, none⟩ = some (.int .i64 3) := by rw [cell_of_row _ _ _ _ _ _ hblk]; rfl
            have hrow := hown.lt
            have hfar := own_far hown hblk (by decide)
            have hlen : (os ++ Pc.adds (line + 1) j).length ≤ 3000000 := by rw [List.length_append, Pc.adds_len]; omega
            have HSN := Lib.hid (show plsOf (os ++ Pc.adds (line + 1) j) ++ [.int .i64 (-1), .int .i64 ((line : Int) + 1 + (j : Int))] = plsOf (os ++ Pc.adds (line + 1) (j + 1)) by rw [show (line : Int) + 1 + (j : Int) = ((line + 1 + j : Nat) : Int) by omega, plsOf_snoc, List.append_assoc, ← Pc.adds_snoc])
            have HLL := Lib.hid (show (os ++ Pc.adds (line + 1) (j + 1)).length = (os ++ Pc.adds (line + 1) j).length + 1 by rw [List.length_append, List.length_append, Pc.adds_len, Pc.adds_len]; omega)
            generalize hpr : os ++ Pc.adds (line + 1) j = pr at *
            clear hpr
            go_wp2_with (at_builtin; refine wpList_append_lies _ (by rfl) _ _ 37 (by rfl) wc.heap.size 44 i0 _ 2 16 Tryz.underlying37 hi0 hz0 hz1 hz2 rfl (by omega) u3 pr.length _ (by rfl) (hown.alloc _) ⟨wr.heap.size, 0, none⟩ 1 1 [_, _] (by rfl) (by rfl) (World.news_of_block (cs := #[_, _]) (t := 44) (fr := (0, 0)) (heap_alloc_new wr _)) (by simp [Value.oneCell']) (by omega) (by unfold maxLen; omega) (by omega) (by have := hb.size; simp; omega) (wr.heap.size + 1) (by simp) ?_; intro gg cap w3 hown3 hgrow hat hlt3)
            rw [HSN.out] at hown3
            have hb3 : Below wc.heap.size wc w3 := grown_own0 (hb.alloc hb.size _) hgrow (fun q' hq' => (hrow q' hq').1)
            have hblk3 := blk_grown hblk hgrow hfar
            clear hgrow hat hlt3 hown hfar hrow HSN
            go_roundw
            case rel => exact ⟨j + 1, by omega, by go_num, by first | rfl | go_num, by first | rfl | go_num, by rw [HLL.out]; exact hown3, hblk3, hb3⟩
            case measure => simp [intOf]; omega
          · have b2 : decide ((j : Int) < (m : Int)) = false := by simp; omega
            have b2n : decide (j < m) = false := by simp; omega
            obtain rfl : j = m := by omega
            clear HBL hjm
            go_wp2_with fail
            go_roundw
            case rel => exact ⟨k + 1, old, line + 1 + j, os ++ Pc.adds (line + 1) j, by omega, by go_num, by first | rfl | go_num, by first | rfl | go_num, by omega, by omega, by rw [List.length_append, Pc.adds_len]; omega, hown, HT.out, hb⟩
            case measure => simp [intOf]; omega
    · have b1 : decide ((k : Int) < hs.length) = false := by simp; omega
      have b1n : decide (k < hs.length) = false := by simp; omega
      have HT := Lib.hid (show R = os by rw [HR.out, List.drop_of_length_le (by omega)]; exact List.append_nil _)
      clear HR
      go_wp2_with fail
      go_ret
      rw [HT.out]
      exact ⟨_, rfl, by rw [HBE.out]; exact hown.mono HBL.out, by rw [HBE.out]; exact HBW.out _ hb⟩
theorem trace_def (p : Pc.Pa) (n : Int) : Pc.trace p n = if Pc.valid p = false then ([], 1) else if Pc.cnt 1 p.hs + Pc.cnt 2 p.hs ≠ n then ([], 9) else (Pc.placesOf p, 0) := rfl
/-- What Trace returns. -/
def GotTr (w : World) (R : List Pc.Pl × Int) : Ending → World → Prop := fun x w' => ∃ v, x = .returned (.tuple #[v, .int .i64 R.2]) ∧ w'.ownsRow w.heap.size 44 2 v R.1.length (plsOf R.1) ∧ Below w.heap.size w w'
set_option maxHeartbeats 8000000 in
set_option maxRecDepth 100000 in
theorem trace_any (p : Pc.Pa) (A : Option Addr) (c : Nat) (n : Int) (w : World) (hP : PaOk w p A) (hT : Cd.Tabs w) :
    Calls Tryz.prog 14 #[paV p A c, .int .i64 n] w (GotTr w (Pc.trace p n)) := by
  have hb0 : Below w.heap.size w (w.alloc (.cells #[.string (str p.base), .slice A p.hs.length c] 24)) := (Below.refl _ _).alloc (Nat.le_refl _) _
  have hN0 := heap_alloc_new w (.cells #[.string (str p.base), .slice A p.hs.length c] 24)
  have hbs : w.heap.size < (w.alloc (.cells #[.string (str p.base), .slice A p.hs.length c] 24)).heap.size := by simp
  have hcall := isValid_any p A c _ (hP.next hb0) (hT.below hb0)
  have HAT := Lib.hid (hP.next hb0).at_
  have HCD := Lib.hid (trace_def p n)
  have HVA := Lib.hid (fun h => valid_all (p := p) h)
  rw [paV_def] at hcall ⊢
  clear hP hT
  cases hv : Pc.valid p with
  | false =>
    rw [hv] at hcall
    have HT := Lib.hid (HCD.out.trans (if_pos hv))
    clear HCD hv HVA HAT
    generalize Pc.trace p n = R at *
    go_enter Tryz.func14, Tryz.ntmps14
    go_wp2_with fail
    with_reducible refine hcall.mono ?_
    clear hcall
    rintro x w1 ⟨rfl, hb1⟩
    go_wp2_with fail
    go_ret2
    rw [HT.out]
    exact ⟨_, rfl, World.ownsRow_nil _ _ _ _, hb0.trans (hb1.mono hb0.size)⟩
  | true =>
    rw [hv] at hcall
    have HT := Lib.hid (HCD.out.trans (if_neg (by rw [hv]; simp)))
    obtain ⟨v1, v2, v3, v4, v5, v6, v7, v8⟩ := HVA.out hv
    clear HCD hv HVA
    have HH := Lib.hid v2
    clear v2
    generalize Pc.trace p n = R at *
    go_enter Tryz.func14, Tryz.ntmps14
    go_wp2_with fail
    with_reducible refine hcall.mono ?_
    clear hcall
    rintro x w1 ⟨rfl, hb1⟩
    have hb01 := hb0.trans (hb1.mono hb0.size)
    have hN := (hb1.block w.heap.size hbs).trans hN0
    have k0 : w1.cell? ⟨w.heap.size, 0, none⟩ = some (.string (str p.base)) := by rw [cell_of_row _ _ _ _ _ _ hN]; rfl
    have k1 : w1.cell? ⟨w.heap.size, 1, none⟩ = some (.slice A p.hs.length c) := by rw [cell_of_row _ _ _ _ _ _ hN]; rfl
    have hlt1 : w.heap.size < w1.heap.size := Nat.lt_of_lt_of_le hbs hb1.size
    have HA1 := Lib.hid (HAT.out.next hb1)
    have hcc := count_any A c p.hs w1 HA1.out (by omega) v3
    have HPL := Lib.hid (fun w' h => places_any p A c w' h v1 HH.out)
    simp only [paV_def] at HPL
    clear v3 hN HAT hb1 hb0 hN0 hbs v5 v8
    generalize Pc.cnt 1 p.hs = x1 at *
    generalize Pc.cnt 2 p.hs = x2 at *
    generalize Pc.cnt 3 p.hs = x3 at *
    go_wp2_with fail
    with_reducible refine hcc.mono ?_
    clear hcc
    rintro x w2 ⟨rfl, hb2⟩
    have hb02 := hb01.trans (hb2.mono hb01.size)
    have l0 := (hb2.cell (p := ⟨w.heap.size, 0, none⟩) hlt1).trans k0
    have l1 := (hb2.cell (p := ⟨w.heap.size, 1, none⟩) hlt1).trans k1
    have hcall := HPL.out w2 (HA1.out.next hb2)
    clear k0 k1 hb01 hb2 hlt1 HPL
    by_cases hn : x1 + x2 = n
    · have q1 : ((x1 + x2) != n) = false := by rw [hn]; simp
      have HT2 := Lib.hid (HT.out.trans (if_neg (by simpa using hn)))
      clear HT hn
      generalize Pc.placesOf p = PL at *
      go_wp2_with fail
      with_reducible refine hcall.mono ?_
      clear hcall
      rintro x w3 ⟨v3, rfl, ho3, hb3⟩
      go_wp2_with fail
      go_ret2
      rw [HT2.out]
      exact ⟨_, rfl, ho3.mono hb02.size, hb02.trans (hb3.mono hb02.size)⟩
    · have q1 : ((x1 + x2) != n) = true := by rw [bne_iff_ne]; exact hn
      have HT2 := Lib.hid (HT.out.trans (if_pos hn))
      clear HT hn hcall
      go_wp2_with fail
      go_ret2
      rw [HT2.out]
      exact ⟨_, rfl, World.ownsRow_nil _ _ _ _, hb02⟩
end Go.Proofs.YtmmdldicafbjdaaGreatDoor
end
section
namespace Go.Proofs.YtmmdldicafbjdaaGreatDoor
open Go.RowKit Go.Deep Tr

/-- The result's cell is stored. -/
theorem fin_patch {w w5 : World} {rb : Nat} {A : Option Addr} {hs : List Pc.Hk} (x y : Value) (hr : w.heap.size ≤ rb) (hk : w5.heap[rb]? = some (.cells #[.string ⟨#[]⟩, .slice none 0 0] 24 (0, 0))) (hb : Below w.heap.size w w5) (hH : HsT w5 A hs) :
    HsT ((w5.setCell ⟨rb, 0, none⟩ x).setCell ⟨rb, 1, none⟩ y) A hs ∧ Below w.heap.size w ((w5.setCell ⟨rb, 0, none⟩ x).setCell ⟨rb, 1, none⟩ y) ∧ w5.cell? ⟨rb, 0, none⟩ = some (.string ⟨#[]⟩) ∧ w5.cell? ⟨rb, 1, none⟩ = some (.slice none 0 0) ∧ w5.frozen? ⟨rb, 0, none⟩ = false ∧ w5.frozen? ⟨rb, 1, none⟩ = false :=
  ⟨(hH.set hk).set (heap_setCell_same w5 rb 0 _ _ _ hk), (hb.setCell hr _).setCell hr _, by rw [cell_of_row _ _ _ _ _ _ hk]; rfl, by rw [cell_of_row _ _ _ _ _ _ hk]; rfl, frozen_of_row w5 rb 0 _ _ hk, frozen_of_row w5 rb 1 _ _ hk⟩
theorem hsT_nil (w : World) (A : Option Addr) : HsT w A [] := fun k hk => by simp at hk
theorem make_def (f t : List UInt8) : Pc.make f t = if (Tre.lines f).2 ≠ 0 then (⟨[], []⟩, (Tre.lines f).2)
  else if (Tre.lines t).2 ≠ 0 then (⟨[], []⟩, (Tre.lines t).2)
  else Pc.keeping [] (Tre.lines f).1 (Tre.lines t).1 (Pc.common (Tre.lines f).1 (Tre.lines t).1 0 0) := rfl
set_option maxHeartbeats 8000000 in
set_option maxRecDepth 100000 in
theorem make_any (f t : ByteArray) (w : World) (hI : IdAt w) (hfs : f.size ≤ 1000000000) (hts : t.size ≤ 1000000000) :
    Calls Tryz.prog 16 #[.string f, .string t] w (GotPa w (Pc.make f.data.toList t.data.toList)) := by
  have HD := Lib.hid (make_def f.data.toList t.data.toList)
  generalize Pc.make f.data.toList t.data.toList = R at *
  have hb0 : Below w.heap.size w (w.alloc (.cells #[.string ⟨#[]⟩, .slice none 0 0] 24)) := (Below.refl _ _).alloc (Nat.le_refl _) _
  have hk0 := heap_alloc_new w (.cells #[.string ⟨#[]⟩, .slice none 0 0] 24)
  have hl1 := lines_any f _ hfs (hI.below hb0).max
  go_enter Tryz.func16, Tryz.ntmps16
  go_wp2_with fail
  with_reducible refine hl1.mono ?_
  clear hl1
  rintro x w1 ⟨v1, rfl, ho1, hb1⟩
  have hb01 := hb0.trans (hb1.mono hb0.size)
  have hk1 := (hb1.block _ (blk_lt hk0)).trans hk0
  have hI1 := hI.below hb01
  clear hb0 hk0 hb1 hI
  rcases lines_cases f.data.toList with ⟨he, hl⟩ | ⟨a, hl, a1, a2, _⟩
  · have HT := Lib.hid (HD.out.trans (if_pos he))
    rw [hl] at ho1 HT ⊢
    obtain ⟨A1, c1, rfl, _⟩ := owns_cells ho1
    obtain ⟨q1, q2, r0, r1, f0, f1⟩ := fin_patch (.string ⟨#[]⟩) (.slice none 0 0) (Nat.le_refl _) hk1 hb01 (hsT_nil w1 none)
    have Q1 := Lib.hid q1
    have Q2 := Lib.hid q2
    clear HD he hl ho1 q1 q2 hk1 hb01 hI1
    go_wp2_with fail
    exact bodyPost_ret (v := .tuple #[.agg #[.string ⟨#[]⟩, .slice none 0 0], .int .i64 10]) (by simp [results, Tryz.results16, go_sem, r0, r1]) rfl ⟨none, 0, by rw [HT.out]; rfl, by rw [HT.out]; exact Q1.out, Q2.out⟩
  · have HD1 := Lib.hid (HD.out.trans (if_neg (by rw [hl]; simp)))
    have HLF := Lib.hid hl
    rw [hl] at ho1 HD1 ⊢
    dsimp only at ho1
    obtain ⟨ga, ca, rfl, _, hga, hca, hcam, _⟩ := own_pos ho1 (by omega)
    obtain ⟨A1, c1, he1, hA1⟩ := owns_cells ho1
    injection he1 with he1 _ he1c
    subst he1 he1c
    have hl2 := lines_any t w1 hts hI1.max
    clear HD hl ho1
    go_wp2_with fail
    with_reducible refine hl2.mono ?_
    clear hl2
    rintro x w2 ⟨v2, rfl, ho2, hb2⟩
    have hb02 := hb01.trans (hb2.mono hb01.size)
    have hk2 := (hb2.block _ (blk_lt hk1)).trans hk1
    have hI2 := hI1.below hb2
    have hA2 := hA1.next hb2
    clear hb01 hk1 hb2 hI1 hA1
    rcases lines_cases t.data.toList with ⟨he, hl⟩ | ⟨b, hl, b1, b2, _⟩
    · have HT := Lib.hid (HD1.out.trans (if_pos he))
      rw [hl] at ho2 HT ⊢
      obtain ⟨A2, c2, rfl, _⟩ := owns_cells ho2
      obtain ⟨q1, q2, r0, r1, f0, f1⟩ := fin_patch (.string ⟨#[]⟩) (.slice none 0 0) (Nat.le_refl _) hk2 hb02 (hsT_nil w2 none)
      have Q1 := Lib.hid q1
      have Q2 := Lib.hid q2
      clear HD1 he hl ho2 q1 q2 hk2 hb02 hI2
      go_wp2_with fail
      exact bodyPost_ret (v := .tuple #[.agg #[.string ⟨#[]⟩, .slice none 0 0], .int .i64 10]) (by simp [results, Tryz.results16, go_sem, r0, r1]) rfl ⟨none, 0, by rw [HT.out]; rfl, by rw [HT.out]; exact Q1.out, Q2.out⟩
    · have HT := Lib.hid (HD1.out.trans (if_neg (by rw [hl]; simp)))
      have HLT := Lib.hid hl
      rw [hl] at ho2 HT ⊢
      dsimp only at ho2
      have HT2 := Lib.hid (show R = Pc.keeping [] a b (Pc.common a b 0 0) from HT.out)
      obtain ⟨gb, cb, rfl, _, hgb, hcb, hcbm, _⟩ := own_pos ho2 (by omega)
      obtain ⟨A2, c2, he2, hB2⟩ := owns_cells ho2
      injection he2 with he2 _ he2c
      subst he2 he2c
      have hcm := common_any (some ⟨ga, 0, none⟩) (some ⟨gb, 0, none⟩) ca cb a b w2 hA2 hB2 a2 b2
      have HMT := Lib.hid (Pc.common_mat a b a b 0 0 rfl rfl)
      have hcl : (Pc.common a b 0 0).length ≤ 1024 := by
        rw [Pc.common_len]
        have := lc_le a b 0 0
        simp only [List.drop_zero] at this
        omega
      clear HD1 HT hl ho2
      generalize Pc.common a b 0 0 = K at *
      go_wp2_with fail
      with_reducible refine hcm.mono ?_
      clear hcm
      rintro x w3 ⟨v3, rfl, ho3, hb3⟩
      obtain ⟨A3, c3, rfl, hK3⟩ := owns_prs ho3
      have hb03 := hb02.trans (hb3.mono hb02.size)
      have hk3 := (hb3.block _ (blk_lt hk2)).trans hk2
      have hke := keeping_any [] f t a b A3 c3 K w3 (hI2.below hb3) HLF.out HLT.out hfs hts hK3 HMT.out hcl (by simp)
      rw [show str [] = ⟨#[]⟩ from rfl, ← HT2.out] at hke
      clear ho3 hK3 hb02 hk2 hI2 hb3 hA2 hB2
      go_wp2_with fail
      with_reducible refine hke.mono ?_
      clear hke
      rintro x w4 ⟨A4, c4, rfl, hH4, hb4⟩
      have hb04 := hb03.trans (hb4.mono hb03.size)
      have hk4 := (hb4.block _ (blk_lt hk3)).trans hk3
      obtain ⟨q1, q2, r0, r1, f0, f1⟩ := fin_patch (.string (str R.1.base)) (.slice A4 R.1.hs.length c4) (Nat.le_refl _) hk4 hb04 hH4
      have Q1 := Lib.hid q1
      have Q2 := Lib.hid q2
      rw [paV_def]
      clear q1 q2 hk4 hb04 hH4 hb4 hb03 hk3 HT2
      go_wp2_with fail
      exact bodyPost_ret (v := .tuple #[.agg #[.string (str R.1.base), .slice A4 R.1.hs.length c4], .int .i64 R.2]) (by simp [results, Tryz.results16, go_sem, r0, r1]) rfl ⟨A4, c4, rfl, Q1.out, Q2.out⟩
end Go.Proofs.YtmmdldicafbjdaaGreatDoor
end
section
namespace Go.Proofs.YtmmdldicafbjdaaGreatDoor
open Go.RowKit Go.Deep Tr

/-- Places where they lie. -/
def PlsAt (w : World) (A : Option Addr) (l : List Pc.Pl) : Prop := ∀ k (h : k < l.length), ∃ g o, A = some ⟨g, o, none⟩ ∧ g < w.heap.size ∧ w.cell? ⟨g, o + k * 2, none⟩ = some (.int .i64 l[k].old) ∧ w.cell? ⟨g, o + k * 2 + 1, none⟩ = some (.int .i64 l[k].new)
theorem PlsAt.next {w w' : World} {A : Option Addr} {l : List Pc.Pl} (h : PlsAt w A l) (hb : Below w.heap.size w w') : PlsAt w' A l := fun k hk => by
  obtain ⟨g, o, e, hg, h0, h1⟩ := h k hk
  exact ⟨g, o, e, Nat.lt_of_lt_of_le hg hb.size, (hb.cell (p := ⟨g, o + k * 2, none⟩) hg).trans h0, (hb.cell (p := ⟨g, o + k * 2 + 1, none⟩) hg).trans h1⟩
theorem plsOf_at : ∀ (l : List Pc.Pl) (k i : Nat) (h : k < l.length), i < 2 → (plsOf l)[k * 2 + i]? = (plOf l[k])[i]?
  | x :: t, 0, i, _, hi => by
    have : plsOf (x :: t) = plOf x ++ plsOf t := rfl
    rw [this, List.getElem?_append_left (by show 0 * 2 + i < 2; omega)]
    simp
  | x :: t, k + 1, i, h, hi => by
    have e : plsOf (x :: t) = plOf x ++ plsOf t := rfl
    rw [e, List.getElem?_append_right (by show 2 ≤ _; omega)]
    have := plsOf_at t k i (by simpa using h) hi
    rw [show (k + 1) * 2 + i - (plOf x).length = k * 2 + i by show (k + 1) * 2 + i - 2 = _; omega, this]
    simp
theorem owns_pls {w : World} {B : Nat} {v : Value} {l : List Pc.Pl} (h : w.ownsRow B 44 2 v l.length (plsOf l)) : ∃ A c, v = .slice A l.length c ∧ PlsAt w A l := by
  rcases h.2 with ⟨rfl, h0⟩ | ⟨g, cap, cur, rfl, hb, hg, h1, h2, _, _⟩
  · have : l = [] := List.length_eq_zero_iff.1 h0
    subst this
    exact ⟨none, 0, rfl, fun k hk => by simp at hk⟩
  · refine ⟨_, cap, rfl, fun k hk => ⟨g, 0, rfl, (Array.getElem?_eq_some_iff.1 hg).1, ?_, ?_⟩⟩
    · rw [Nat.zero_add, h.cellAt _ (by omega)]
      exact plsOf_at l k 0 hk (by omega)
    · rw [Nat.zero_add, h.cellAt _ (by omega)]
      exact plsOf_at l k 1 hk (by omega)
theorem invert_def (p : Pc.Pa) (data : List UInt8) : Pc.invert p data = if (Pc.apply p data).2 ≠ 0 then (⟨[], []⟩, (Pc.apply p data).2)
  else Pc.keeping (if p.base = [] then [] else Pc.dig (Pc.apply p data).1) (Tre.lines (Pc.apply p data).1).1 (Tre.lines data).1 (Pc.invK (Pc.placesOf p) 0) := rfl
theorem then_def (p q : Pc.Pa) (data : List UInt8) : Pc.thenP p q data = if (Pc.apply p data).2 ≠ 0 then (⟨[], []⟩, (Pc.apply p data).2)
  else if (Pc.apply q (Pc.apply p data).1).2 ≠ 0 then (⟨[], []⟩, (Pc.apply q (Pc.apply p data).1).2)
  else Pc.keeping p.base (Tre.lines data).1 (Tre.lines (Pc.apply q (Pc.apply p data).1).1).1 (Pc.thenK (Pc.placesOf p) (Pc.placesOf q) 0) := rfl
theorem invK_step (l : List Pc.Pl) (k : Nat) (h : k < l.length) : Pc.invK (l.drop k) k = (if 0 ≤ l[k].old then [(k, l[k].old.toNat)] else []) ++ Pc.invK (l.drop (k + 1)) (k + 1) := by
  rw [List.drop_eq_getElem_cons h, Pc.invK]
  split <;> rfl
theorem thenK_step (f l : List Pc.Pl) (k : Nat) (h : k < l.length) : Pc.thenK f (l.drop k) k = (if 0 ≤ l[k].old ∧ 0 ≤ (f.getD l[k].old.toNat default).old then [((f.getD l[k].old.toNat default).old.toNat, k)] else []) ++ Pc.thenK f (l.drop (k + 1)) (k + 1) := by
  rw [List.drop_eq_getElem_cons h, Pc.thenK]
  split <;> rfl
theorem dig_len (s : List UInt8) : (Pc.dig s).length = 32 := by unfold Pc.dig Dg.Spo.dig Dg.Spo.sq; simp
theorem text_len {s : List UInt8} {l : List (List UInt8)} (h : Tre.lines s = (l, 0)) : s.length ≤ 65536 := by
  unfold Tre.lines at h
  split at h
  · cases (Prod.mk.inj h).2
  · omega
theorem pls_len {p : Pc.Pa} {data s : List UInt8} {a b : List (List UInt8)} (h : Pc.Led p data s a b) : (Pc.placesOf p).length ≤ 1024 := by
  rw [h.says.len]; exact (Pc.lines_ok h.now).2.2.1
set_option maxHeartbeats 16000000 in
set_option maxRecDepth 100000 in
theorem invert_any (p : Pc.Pa) (A : Option Addr) (c : Nat) (s : ByteArray) (w : World) (hP : PaOk w p A) (hI : IdAt w) (hs : s.size ≤ 1000000000) :
    Calls Tryz.prog 15 #[paV p A c, .string s] w (GotPa w (Pc.invert p s.data.toList)) := by
  obtain ⟨i0, hi0, hz0, hz1, hz2⟩ := info_parts infoPr
  have hb0 : Below w.heap.size w ((w.alloc (.cells #[.string (str p.base), .slice A p.hs.length c] 24)).alloc (.cells #[.string ⟨#[]⟩, .slice none 0 0] 24)) := ((Below.refl _ _).alloc (Nat.le_refl _) _).alloc (by simp) _
  have hN1 := heap_alloc_new w (.cells #[.string (str p.base), .slice A p.hs.length c] 24)
  have hN2 := heap_alloc_new (w.alloc (.cells #[.string (str p.base), .slice A p.hs.length c] 24)) (.cells #[.string ⟨#[]⟩, .slice none 0 0] 24)
  rw [show (w.alloc (.cells #[.string (str p.base), .slice A p.hs.length c] 24)).heap.size = w.heap.size + 1 by simp] at hN2
  have hN3 : ((w.alloc (.cells #[.string (str p.base), .slice A p.hs.length c] 24)).alloc (.cells #[.string ⟨#[]⟩, .slice none 0 0] 24)).heap[w.heap.size]? = some (.cells #[.string (str p.base), .slice A p.hs.length c] 24 (0, 0)) := by rw [blk_alloc_lt _ _ _ (by simp)]; exact hN1
  have hcall := apply_any p A c s _ (hP.next hb0) (hI.below hb0) hs
  have HW := Lib.hid (show ∀ w', Below ((w.alloc (.cells #[.string (str p.base), .slice A p.hs.length c] 24)).alloc (.cells #[.string ⟨#[]⟩, .slice none 0 0] 24)).heap.size ((w.alloc (.cells #[.string (str p.base), .slice A p.hs.length c] 24)).alloc (.cells #[.string ⟨#[]⟩, .slice none 0 0] 24)) w' →
      Below w.heap.size w w' ∧ HsAt w' w'.heap.size A p.hs ∧ IdAt w' ∧ w'.cell? ⟨w.heap.size, 0, none⟩ = some (.string (str p.base)) ∧ w'.cell? ⟨w.heap.size, 1, none⟩ = some (.slice A p.hs.length c) ∧ w'.heap[w.heap.size + 1]? = some (.cells #[.string ⟨#[]⟩, .slice none 0 0] 24 (0, 0)) from fun w' h => by
    have hb := hb0.trans (h.mono hb0.size)
    have hN := (h.block w.heap.size (by simp; omega)).trans hN3
    exact ⟨hb, hP.at_.next hb, hI.below hb, by rw [cell_of_row _ _ _ _ _ _ hN]; rfl, by rw [cell_of_row _ _ _ _ _ _ hN]; rfl, (h.block _ (by simp)).trans hN2⟩)
  have HD := Lib.hid (invert_def p s.data.toList)
  have HLED := Lib.hid (fun h => Pc.led_of (p := p) (data := s.data.toList) (s := (Pc.apply p s.data.toList).1) h)
  have HVA := Lib.hid (fun h => valid_all (p := p) h)
  rw [paV_def] at hcall ⊢
  clear hP hI hb0 hN1 hN2 hN3
  generalize Pc.invert p s.data.toList = R at *
  go_enter Tryz.func15, Tryz.ntmps15
  go_wp2_with fail
  generalize (w.alloc (.cells #[.string (str p.base), .slice A p.hs.length c] 24)).alloc (.cells #[.string ⟨#[]⟩, .slice none 0 0] 24) = W at *
  with_reducible refine hcall.mono ?_
  clear hcall
  rintro x w1 ⟨rfl, hb1⟩
  rw [apV_def]
  obtain ⟨_, _, _, k0, k1, kr⟩ := HW.out _ hb1
  by_cases he : (Pc.apply p s.data.toList).2 ≠ 0
  · have HT := Lib.hid (HD.out.trans (if_pos he))
    have n0 : ((Pc.apply p s.data.toList).2 != 0) = true := by rw [bne_iff_ne]; exact he
    obtain ⟨q1, q2, r0, r1, f0, f1⟩ := fin_patch (.string ⟨#[]⟩) (.slice none 0 0) (Nat.le_succ _) kr (HW.out _ hb1).1 (hsT_nil w1 none)
    have Q1 := Lib.hid q1
    have Q2 := Lib.hid q2
    clear HD HLED he q1 q2 kr hb1 HVA
    generalize (Pc.apply p s.data.toList).1 = a1 at *
    generalize (Pc.apply p s.data.toList).2 = a2 at *
    go_wp2_with fail
    exact bodyPost_ret (v := .tuple #[.agg #[.string ⟨#[]⟩, .slice none 0 0], .int .i64 a2]) (by simp [results, Tryz.results15, go_sem, r0, r1]) rfl ⟨none, 0, by rw [HT.out]; rfl, by rw [HT.out]; exact Q1.out, Q2.out⟩
  · have he0 : (Pc.apply p s.data.toList).2 = 0 := by simpa using he
    obtain ⟨a, b, L⟩ := HLED.out (Prod.ext rfl he0)
    have HT := Lib.hid (HD.out.trans (if_neg he))
    rw [he0]
    obtain ⟨v1, v2, _⟩ := HVA.out L.valid
    have hpl := places_any p A c w1 (HW.out _ hb1).2.1 v1 v2
    rw [paV_def] at hpl
    have HLO := Lib.hid L
    have hll := pls_len L
    have hdl := text_len L.now
    have HKK := Lib.hid (show Pc.invK (Pc.placesOf p) 0 = [] ++ Pc.invK ((Pc.placesOf p).drop 0) 0 from rfl)
    have HMT := Lib.hid (show Pc.Mat b a 0 0 (Pc.invK (Pc.placesOf p) 0) by
      unfold Pc.placesOf
      rw [Pc.inv_places p.hs 0 _ 0 L.all]
      exact Pc.mat_swap L.mat)
    have hkl : (Pc.invK (Pc.placesOf p) 0).length ≤ 1024 := by
      rw [Pc.invK_len]
      have := List.countP_le_length (p := fun x : Pc.Pl => decide (0 ≤ x.old)) (l := Pc.placesOf p)
      omega
    have HT2 := Lib.hid (show R = Pc.keeping (if p.base = [] then [] else Pc.dig (Pc.apply p s.data.toList).1) b a (Pc.invK (Pc.placesOf p) 0) by rw [HT.out, L.now, L.old])
    have HDG := Lib.hid (show (if p.base = [] then [] else Pc.dig (Pc.apply p s.data.toList).1).length ≤ 32 by
      split
      · simp
      · exact Nat.le_of_eq (dig_len _))
    clear HD HLED he he0 HT HVA L v1 v2
    generalize Pc.invK (Pc.placesOf p) 0 = KK at *
    generalize (Pc.apply p s.data.toList).1 = rs at *
    generalize hPL : Pc.placesOf p = PL at *
    clear hPL
    go_wp2_with fail
    with_reducible refine hpl.mono ?_
    clear hpl k0 k1 kr
    rintro x w2 ⟨vp, rfl, hop, hb2⟩
    have hb02 := hb1.trans (hb2.mono hb1.size)
    obtain ⟨Ap, cp, rfl, hPL2⟩ := owns_pls hop
    have hbb := Below.refl w2.heap.size w2
    clear hop hb1 hb2
    go_wp2_with fail
    go_loopw [8, 25] (fun s8 s25 wr => ∃ (k : Nat) (os : List (Nat × Nat)), k ≤ PL.length ∧ s25 = .int .i64 k ∧ os.length ≤ k ∧ wr.ownsRow w2.heap.size 69 2 s8 os.length (prsV os) ∧ KK = os ++ Pc.invK (PL.drop k) k ∧ Below w2.heap.size w2 wr) (fun _ s25 _ => PL.length - (intOf s25).toNat)
    case atStart => exact ⟨0, [], by omega, rfl, by simp, World.ownsRow_nil _ _ _ _, HKK.out, hbb⟩
    case round =>
      clear HKK hbb
      obtain ⟨k, os, hk, rfl, hol, hown, hKK, hb⟩ := hrel
      have HK1 := Lib.hid hKK
      clear hKK
      by_cases hlt : k < PL.length
      · have b1 : decide ((k : Int) < PL.length) = true := by simp; omega
        have b1n : decide (k < PL.length) = true := by simp; omega
        obtain ⟨g, o, rfl, hg, h0, h1⟩ := hPL2 k hlt
        have d0 := (hb.cell (p := ⟨g, o + k * 2, none⟩) hg).trans h0
        have d1 := (hb.cell (p := ⟨g, o + k * 2 + 1, none⟩) hg).trans h1
        have HST := Lib.hid (HK1.out.trans (by rw [invK_step PL k hlt]))
        clear h0 h1 HK1
        generalize PL[k] = pl at *
        obtain ⟨po, pn⟩ := pl
        dsimp only at *
        have hown1 := hown.alloc (.cells #[.int .i64 po, .int .i64 pn] 44)
        have hbw : Below w2.heap.size w2 (wr.alloc (.cells #[.int .i64 po, .int .i64 pn] 44)) := hb.alloc hb.size _
        have hnew := heap_alloc_new wr (.cells #[.int .i64 po, .int .i64 pn] 44)
        by_cases hpo : 0 ≤ po
        · obtain ⟨m, rfl⟩ : ∃ m : Nat, po = m := ⟨po.toNat, by omega⟩
          have b2 : decide ((0 : Int) ≤ (m : Int)) = true := by simp
          have HS2 := Lib.hid (show KK = (os ++ [(k, m)]) ++ Pc.invK (PL.drop (k + 1)) (k + 1) by
            have h := HST.out
            rw [if_pos hpo, ← List.append_assoc] at h
            exact h)
          clear HST hpo hown hb
          have hrow := hown1.lt
          go_upto_region 9 with (fail)
          have e0 : (wr.alloc (.cells #[.int .i64 (m : Int), .int .i64 pn] 44)).cell? ⟨wr.heap.size, 0, none⟩ = some (.int .i64 (m : Int)) := by rw [cell_of_row _ _ _ _ _ _ hnew]; rfl
          generalize wr.alloc (.cells #[.int .i64 (m : Int), .int .i64 pn] 44) = w3 at *
          clear d0 d1 hnew
          go_wp2_with (at_builtin; refine wpList_append_lies _ (by rfl) _ _ 67 (by rfl) w2.heap.size 69 i0 _ 2 16 Tryz.underlying67 hi0 hz0 hz1 hz2 rfl (by omega) u8 os.length _ (by rfl) (hown1.alloc _) ⟨w3.heap.size, 0, none⟩ 1 1 [_, _] (by rfl) (by rfl) (World.news_of_block (cs := #[_, _]) (t := 69) (fr := (0, 0)) (heap_alloc_new w3 _)) (by simp [Value.oneCell']) (by omega) (by unfold maxLen; omega) (by omega) (by have := hbw.size; simp; omega) (w3.heap.size + 1) (by simp) ?_; intro gg cap w6 hown6 hgrow hat hlt6)
          rw [prsV_snoc] at hown6
          have hown7 : w6.ownsRow w2.heap.size 69 2 (.slice (some ⟨gg, 0, none⟩) (os.length + 1) cap) (os ++ [(k, m)]).length (prsV (os ++ [(k, m)])) := by rw [List.length_append, List.length_singleton]; exact hown6
          have hb6 : Below w2.heap.size w2 w6 := grown_own0 (hbw.alloc hbw.size _) hgrow (fun q' hq' => (hrow q' hq').1)
          clear hown6 hgrow hat hlt6 hown1 hbw hrow
          go_roundw
          case rel => exact ⟨k + 1, os ++ [(k, m)], by omega, by go_num, by simp; omega, hown7, HS2.out, hb6⟩
          case measure => first | (simp [intOf]; done) | (simp [intOf]; omega)
        · have b2 : decide ((0 : Int) ≤ po) = false := decide_eq_false hpo
          have HS2 := Lib.hid (show KK = os ++ Pc.invK (PL.drop (k + 1)) (k + 1) by
            have h := HST.out
            rw [if_neg hpo, List.nil_append] at h
            exact h)
          clear HST hpo hown hb hnew
          go_wp2_with fail
          go_roundw
          case rel => exact ⟨k + 1, os, by omega, by go_num, by omega, hown1, HS2.out, hbw⟩
          case measure => first | (simp [intOf]; done) | (simp [intOf]; omega)
      · have b1 : decide ((k : Int) < PL.length) = false := by simp; omega
        have b1n : decide (k < PL.length) = false := by simp; omega
        have hke : os = KK := by rw [HK1.out, List.drop_of_length_le (by omega)]; simp [Pc.invK]
        subst hke
        obtain ⟨A4, c4, rfl, hK4⟩ := owns_prs hown
        have hb0r := hb02.trans (hb.mono hb02.size)
        obtain ⟨_, _, _, k0, k1, kr⟩ := HW.out _ hb0r
        clear HK1 hown hb hb02 hPL2
        have hbx : ∀ x : List UInt8, x = p.base → True := fun _ _ => trivial
        clear hbx
        go_upto_if 43 with (fail)
        go_cut [11] (fun s11 wx => s11 = .string (str (if p.base = [] then [] else Pc.dig rs)) ∧ Below wr.heap.size wr wx)
        case first =>
          by_cases hbe : p.base = []
          · have q3 : (!(str p.base).toList.isEmpty) = false := by rw [str_list, hbe]; rfl
            rw [q3]
            have HE := Lib.hid hbe
            clear hbe
            go_wp2_with fail
            go_meet
            exact ⟨by rw [if_pos HE.out]; rfl, Below.refl _ _⟩
          · have q3 : (!(str p.base).toList.isEmpty) = true := by rw [str_list]; cases hq : p.base with | nil => exact absurd hq hbe | cons _ _ => rfl
            rw [q3]
            have HE := Lib.hid hbe
            have hsm := Dg.sum_any (str rs) wr (HW.out _ hb0r).2.2.1.consts (by rw [str_size]; omega)
            rw [digS_str] at hsm
            clear hbe
            go_wp2_with fail
            with_reducible refine hsm.mono ?_
            clear hsm
            rintro x w5 ⟨rfl, hb5⟩
            go_wp2_with fail
            go_meet
            exact ⟨by rw [if_neg HE.out]; rfl, hb5⟩
        case rest =>
        obtain ⟨rfl, hbc⟩ := hcut
        have hb0c := hb0r.trans (hbc.mono hb0r.size)
        have hKc := hK4.next hbc
        have hke := keeping_any (if p.base = [] then [] else Pc.dig rs) (str rs) s b a A4 c4 os wc (HW.out _ hb0c).2.2.1 HLO.out.now HLO.out.old (by rw [str_size]; omega) hs hKc HMT.out hkl (by have := HDG.out; omega)
        rw [← HT2.out] at hke
        generalize (if p.base = [] then [] else Pc.dig rs) = bs at *
        clear k0 k1 kr hK4 hKc hb0r hbc HDG HMT HLO HT2
        go_wp2_with fail
        with_reducible refine hke.mono ?_
        clear hke
        rintro x w6 ⟨A6, c6, rfl, hH6, hb6⟩
        have hb06 := hb0c.trans (hb6.mono hb0c.size)
        obtain ⟨hbW, _, _, _, _, kr⟩ := HW.out _ hb06
        obtain ⟨q1, q2, r0, r1, f0, f1⟩ := fin_patch (.string (str R.1.base)) (.slice A6 R.1.hs.length c6) (Nat.le_succ _) kr hbW hH6
        have Q1 := Lib.hid q1
        have Q2 := Lib.hid q2
        rw [paV_def]
        clear q1 q2 kr hbW hH6 hb6 hb06 hb0c
        go_wp2_with fail
        exact bodyPost_ret (v := .tuple #[.agg #[.string (str R.1.base), .slice A6 R.1.hs.length c6], .int .i64 R.2]) (by simp [results, Tryz.results15, go_sem, r0, r1]) rfl ⟨A6, c6, rfl, Q1.out, Q2.out⟩
end Go.Proofs.YtmmdldicafbjdaaGreatDoor
end
section
namespace Go.Proofs.YtmmdldicafbjdaaGreatDoor
open Go.RowKit Go.Deep Tr

theorem atoi_digit : ∀ n : Nat, n < 10 → 1 ≤ n → Lib.atoi [UInt8.ofNat (48 + n)] = some (n : Int) := by decide +kernel
theorem dec_digit (n : Nat) (h : n < 10) : Lib.decDigits n = [UInt8.ofNat (48 + n)] := by rw [Lib.decDigits, dif_pos h]
theorem keep3 {w w1 : World} {v0 v1 v2 : Value} {T : TypeId} (h : w1.heap[w.heap.size]? = some (.cells #[v0, v1, v2] T (0, 0))) :
    w1.cell? ⟨w.heap.size, 0, none⟩ = some v0 ∧ w1.cell? ⟨w.heap.size, 1, none⟩ = some v1 ∧ w1.cell? ⟨w.heap.size, 2, none⟩ = some v2 ∧ w1.frozen? ⟨w.heap.size, 0, none⟩ = false ∧ w1.frozen? ⟨w.heap.size, 1, none⟩ = false ∧ w1.frozen? ⟨w.heap.size, 2, none⟩ = false :=
  ⟨by rw [cell_of_row _ _ _ _ _ _ h]; rfl, by rw [cell_of_row _ _ _ _ _ _ h]; rfl, by rw [cell_of_row _ _ _ _ _ _ h]; rfl, frozen_of_row _ _ _ _ _ h, frozen_of_row _ _ _ _ _ h, frozen_of_row _ _ _ _ _ h⟩
theorem cut_yes (p d : List UInt8) (w : World) : Calls Tryz.prog 30 #[.string (str (p ++ d)), .string (str p)] w fun e w' => e = .returned (.tuple #[.string (str d), .bool true]) ∧ w = w' := (Tryz.strings_CutPrefix (str (p ++ d)) (str p) w).mono fun e w' h => by
  have hp : Lib.hasPrefix (str (p ++ d)).data.toList (str p).data.toList = true := by
    rw [str_data, str_data]; unfold Lib.hasPrefix; simp
  refine ⟨?_, h.2.symm⟩
  rw [h.1, hp]
  have : Lib.trimPrefix (str (p ++ d)).data.toList (str p).data.toList = d := by
    unfold Lib.trimPrefix
    rw [hp, if_pos rfl, str_data, str_data]; simp
  rw [this]; rfl
theorem cut_no (s p : List UInt8) (h0 : p.isPrefixOf s = false) (w : World) : Calls Tryz.prog 30 #[.string (str s), .string (str p)] w fun e w' => e = .returned (.tuple #[.string (str s), .bool false]) ∧ w = w' := (Tryz.strings_CutPrefix (str s) (str p) w).mono fun e w' h => by
  have hp : Lib.hasPrefix (str s).data.toList (str p).data.toList = false := h0
  refine ⟨?_, h.2.symm⟩
  rw [h.1, hp]
  have : Lib.trimPrefix (str s).data.toList (str p).data.toList = s := by
    unfold Lib.trimPrefix
    rw [hp, if_neg (by simp)]
    exact str_data s
  rw [this]; rfl
set_option maxHeartbeats 4000000 in
set_option maxRecDepth 100000 in
theorem head_1 (n : Nat) (h1 : 1 ≤ n) (h9 : n < 10) (w : World) : Calls Tryz.prog 32 #[.string (str ([107, 101, 101, 112, 32] ++ [UInt8.ofNat (48 + n)]))] w fun e w' => e = .returned (.tuple #[.agg #[.int .i64 1, .int .i64 n, .slice none 0 0], .bool true]) ∧ Below w.heap.size w w' := by
  have hb0 : Below w.heap.size w (w.alloc (.cells #[.int .i64 0, .int .i64 0, .slice none 0 0] 47)) := (Below.refl _ _).alloc (Nat.le_refl _) _
  have hk0 := heap_alloc_new w (.cells #[.int .i64 0, .int .i64 0, .slice none 0 0] 47)
  have hat := fun w => Tryz.strconv_Atoi (str [UInt8.ofNat (48 + n)]) (n : Int) (by rw [str_size]; simp) (atoi_digit n h9 h1) w
  have hit := fun w => Tryz.strconv_Itoa_small n (by omega) w
  rw [dec_digit n h9] at hit
  have hw := fun (k : Int) w => wordOf_any k w
  have hyes := fun w => cut_yes [107, 101, 101, 112, 32] [UInt8.ofNat (48 + n)] w
  have hix0 : ∀ w, Sem.run Tryz.prog (Instr.index 85 (.agg #[.int .i64 1, .int .i64 2, .int .i64 3]) (.int .i64 0)) w = .ok (.int .i64 1) w := fun w => rfl
  have hs3 : Tryz.prog.types[3].size = 1 := rfl
  generalize [UInt8.ofNat (48 + n)] = d at *
  generalize str ([107, 101, 101, 112, 32] ++ d) = ln at *
  have g0 : decide ((0 : Int) < (n : Int)) = true := decide_eq_true (by omega)
  have g0n : decide (0 < n) = true := decide_eq_true (by omega)
  have g1 : ((str d).toList == (str d).toList) = true := by simp
  go_enter Tryz.func32, Tryz.ntmps32
  go_wp2_with fail
  go_loopw [11] (fun s11 wr => ∃ i : Nat, i < 1 ∧ s11 = .int .i64 i ∧ Below w.heap.size w wr ∧ wr.heap[w.heap.size]? = some (.cells #[.int .i64 0, .int .i64 0, .slice none 0 0] 47 (0, 0))) (fun s11 _ => 1 - (intOf s11).toNat)
  case atStart => exact ⟨0, by omega, rfl, hb0, hk0⟩
  case round =>
    clear hb0 hk0
    obtain ⟨i, hi, rfl, hb, hk⟩ := hrel
    obtain rfl : i = 0 := by omega
    have c1 := hw 1 wr
    have c2 := hyes wr
    rw [show str (Pc.word 1) = str [107, 101, 101, 112, 32] from rfl] at c1
    go_wp2_with (first | (go_at_call 20; (with_reducible refine c1.mono ?_); rintro e w' ⟨rfl, rfl⟩) | (go_at_call 30; (with_reducible refine c2.mono ?_); rintro e w' ⟨rfl, rfl⟩))
    have c3 := hat wr
    with_reducible refine c3.mono ?_
    clear c3 c1 c2
    rintro e w3 ⟨rfl, t, rfl⟩
    have hb3 := Go.Joins.below_bytesWorld wr.heap.size wr 5 t (Nat.le_refl _)
    have hk3 := (hb3.block _ (blk_lt hk)).trans hk
    have hb03 := hb.trans (hb3.mono hb.size)
    generalize Lib.bytesWorld wr 5 t = w3 at *
    obtain ⟨r0, r1, r2, f0, f1, f2⟩ := keep3 hk3
    have c4 := hit w3
    rw [show (⟨d.toArray⟩ : ByteArray) = str d from rfl] at c4
    have HB := Lib.hid (((hb03.setCell (p := ⟨w.heap.size, 0, none⟩) (Nat.le_refl _) (.int .i64 1)).setCell (p := ⟨w.heap.size, 1, none⟩) (Nat.le_refl _) (.int .i64 n)).setCell (p := ⟨w.heap.size, 2, none⟩) (Nat.le_refl _) (.slice none 0 0))
    clear hb3 hk3 hb03 hb hk
    go_wp2_with (go_at_call 21; (with_reducible refine c4.mono ?_); rintro e w' ⟨rfl, rfl⟩)
    exact bodyPost_ret (v := .tuple #[.agg #[.int .i64 1, .int .i64 n, .slice none 0 0], .bool true]) (by simp [results, Tryz.results32, go_sem, r0, r1, r2]) rfl ⟨rfl, HB.out⟩
set_option maxHeartbeats 4000000 in
set_option maxRecDepth 100000 in
theorem head_2 (n : Nat) (h1 : 1 ≤ n) (h9 : n < 10) (w : World) : Calls Tryz.prog 32 #[.string (str ([100, 114, 111, 112, 32] ++ [UInt8.ofNat (48 + n)]))] w fun e w' => e = .returned (.tuple #[.agg #[.int .i64 2, .int .i64 n, .slice none 0 0], .bool true]) ∧ Below w.heap.size w w' := by
  have hb0 : Below w.heap.size w (w.alloc (.cells #[.int .i64 0, .int .i64 0, .slice none 0 0] 47)) := (Below.refl _ _).alloc (Nat.le_refl _) _
  have hk0 := heap_alloc_new w (.cells #[.int .i64 0, .int .i64 0, .slice none 0 0] 47)
  have hat := fun w => Tryz.strconv_Atoi (str [UInt8.ofNat (48 + n)]) (n : Int) (by rw [str_size]; simp) (atoi_digit n h9 h1) w
  have hit := fun w => Tryz.strconv_Itoa_small n (by omega) w
  rw [dec_digit n h9] at hit
  have hw := fun (k : Int) w => wordOf_any k w
  have hyes := fun w => cut_yes [100, 114, 111, 112, 32] [UInt8.ofNat (48 + n)] w
  have hno1 := fun w => cut_no ([100, 114, 111, 112, 32] ++ [UInt8.ofNat (48 + n)]) [107, 101, 101, 112, 32] (by simp [List.isPrefixOf]) w
  have hix0 : ∀ w, Sem.run Tryz.prog (Instr.index 85 (.agg #[.int .i64 1, .int .i64 2, .int .i64 3]) (.int .i64 0)) w = .ok (.int .i64 1) w := fun w => rfl
  have hix1 : ∀ w, Sem.run Tryz.prog (Instr.index 85 (.agg #[.int .i64 1, .int .i64 2, .int .i64 3]) (.int .i64 1)) w = .ok (.int .i64 2) w := fun w => rfl
  have hs3 : Tryz.prog.types[3].size = 1 := rfl
  generalize [UInt8.ofNat (48 + n)] = d at *
  generalize str ([100, 114, 111, 112, 32] ++ d) = ln at *
  have g0 : decide ((0 : Int) < (n : Int)) = true := decide_eq_true (by omega)
  have g0n : decide (0 < n) = true := decide_eq_true (by omega)
  have g1 : ((str d).toList == (str d).toList) = true := by simp
  go_enter Tryz.func32, Tryz.ntmps32
  go_wp2_with fail
  go_loopw [11] (fun s11 wr => ∃ i : Nat, i < 2 ∧ s11 = .int .i64 i ∧ Below w.heap.size w wr ∧ wr.heap[w.heap.size]? = some (.cells #[.int .i64 0, .int .i64 0, .slice none 0 0] 47 (0, 0))) (fun s11 _ => 2 - (intOf s11).toNat)
  case atStart => exact ⟨0, by omega, rfl, hb0, hk0⟩
  case round =>
    clear hb0 hk0
    obtain ⟨i, hi, rfl, hb, hk⟩ := hrel
    by_cases e0 : i = 0
    · subst e0
      have c1 := hw 1 wr
      have c2 := hno1 wr
      rw [show str (Pc.word 1) = str [107, 101, 101, 112, 32] from rfl] at c1
      go_wp2_with (first | (go_at_call 20; (with_reducible refine c1.mono ?_); rintro e w' ⟨rfl, rfl⟩) | (go_at_call 30; (with_reducible refine c2.mono ?_); rintro e w' ⟨rfl, rfl⟩))
      go_roundw
      case rel => exact ⟨1, by omega, by first | rfl | go_num, hb, hk⟩
      case measure => first | (simp [intOf]; done) | (simp [intOf]; omega)
    obtain rfl : i = 1 := by omega
    have c1 := hw 2 wr
    have c2 := hyes wr
    rw [show str (Pc.word 2) = str [100, 114, 111, 112, 32] from rfl] at c1
    go_wp2_with (first | (go_at_call 20; (with_reducible refine c1.mono ?_); rintro e w' ⟨rfl, rfl⟩) | (go_at_call 30; (with_reducible refine c2.mono ?_); rintro e w' ⟨rfl, rfl⟩))
    have c3 := hat wr
    with_reducible refine c3.mono ?_
    clear c3 c1 c2
    rintro e w3 ⟨rfl, t, rfl⟩
    have hb3 := Go.Joins.below_bytesWorld wr.heap.size wr 5 t (Nat.le_refl _)
    have hk3 := (hb3.block _ (blk_lt hk)).trans hk
    have hb03 := hb.trans (hb3.mono hb.size)
    generalize Lib.bytesWorld wr 5 t = w3 at *
    obtain ⟨r0, r1, r2, f0, f1, f2⟩ := keep3 hk3
    have c4 := hit w3
    rw [show (⟨d.toArray⟩ : ByteArray) = str d from rfl] at c4
    have HB := Lib.hid (((hb03.setCell (p := ⟨w.heap.size, 0, none⟩) (Nat.le_refl _) (.int .i64 2)).setCell (p := ⟨w.heap.size, 1, none⟩) (Nat.le_refl _) (.int .i64 n)).setCell (p := ⟨w.heap.size, 2, none⟩) (Nat.le_refl _) (.slice none 0 0))
    clear hb3 hk3 hb03 hb hk
    go_wp2_with (go_at_call 21; (with_reducible refine c4.mono ?_); rintro e w' ⟨rfl, rfl⟩)
    exact bodyPost_ret (v := .tuple #[.agg #[.int .i64 2, .int .i64 n, .slice none 0 0], .bool true]) (by simp [results, Tryz.results32, go_sem, r0, r1, r2]) rfl ⟨rfl, HB.out⟩
set_option maxHeartbeats 4000000 in
set_option maxRecDepth 100000 in
theorem head_3 (n : Nat) (h1 : 1 ≤ n) (h9 : n < 10) (w : World) : Calls Tryz.prog 32 #[.string (str ([97, 100, 100, 32] ++ [UInt8.ofNat (48 + n)]))] w fun e w' => e = .returned (.tuple #[.agg #[.int .i64 3, .int .i64 n, .slice none 0 0], .bool true]) ∧ Below w.heap.size w w' := by
  have hb0 : Below w.heap.size w (w.alloc (.cells #[.int .i64 0, .int .i64 0, .slice none 0 0] 47)) := (Below.refl _ _).alloc (Nat.le_refl _) _
  have hk0 := heap_alloc_new w (.cells #[.int .i64 0, .int .i64 0, .slice none 0 0] 47)
  have hat := fun w => Tryz.strconv_Atoi (str [UInt8.ofNat (48 + n)]) (n : Int) (by rw [str_size]; simp) (atoi_digit n h9 h1) w
  have hit := fun w => Tryz.strconv_Itoa_small n (by omega) w
  rw [dec_digit n h9] at hit
  have hw := fun (k : Int) w => wordOf_any k w
  have hyes := fun w => cut_yes [97, 100, 100, 32] [UInt8.ofNat (48 + n)] w
  have hno1 := fun w => cut_no ([97, 100, 100, 32] ++ [UInt8.ofNat (48 + n)]) [107, 101, 101, 112, 32] (by simp [List.isPrefixOf]) w
  have hno2 := fun w => cut_no ([97, 100, 100, 32] ++ [UInt8.ofNat (48 + n)]) [100, 114, 111, 112, 32] (by simp [List.isPrefixOf]) w
  have hix0 : ∀ w, Sem.run Tryz.prog (Instr.index 85 (.agg #[.int .i64 1, .int .i64 2, .int .i64 3]) (.int .i64 0)) w = .ok (.int .i64 1) w := fun w => rfl
  have hix1 : ∀ w, Sem.run Tryz.prog (Instr.index 85 (.agg #[.int .i64 1, .int .i64 2, .int .i64 3]) (.int .i64 1)) w = .ok (.int .i64 2) w := fun w => rfl
  have hix2 : ∀ w, Sem.run Tryz.prog (Instr.index 85 (.agg #[.int .i64 1, .int .i64 2, .int .i64 3]) (.int .i64 2)) w = .ok (.int .i64 3) w := fun w => rfl
  have hs3 : Tryz.prog.types[3].size = 1 := rfl
  generalize [UInt8.ofNat (48 + n)] = d at *
  generalize str ([97, 100, 100, 32] ++ d) = ln at *
  have g0 : decide ((0 : Int) < (n : Int)) = true := decide_eq_true (by omega)
  have g0n : decide (0 < n) = true := decide_eq_true (by omega)
  have g1 : ((str d).toList == (str d).toList) = true := by simp
  go_enter Tryz.func32, Tryz.ntmps32
  go_wp2_with fail
  go_loopw [11] (fun s11 wr => ∃ i : Nat, i < 3 ∧ s11 = .int .i64 i ∧ Below w.heap.size w wr ∧ wr.heap[w.heap.size]? = some (.cells #[.int .i64 0, .int .i64 0, .slice none 0 0] 47 (0, 0))) (fun s11 _ => 3 - (intOf s11).toNat)
  case atStart => exact ⟨0, by omega, rfl, hb0, hk0⟩
  case round =>
    clear hb0 hk0
    obtain ⟨i, hi, rfl, hb, hk⟩ := hrel
    by_cases e0 : i = 0
    · subst e0
      have c1 := hw 1 wr
      have c2 := hno1 wr
      rw [show str (Pc.word 1) = str [107, 101, 101, 112, 32] from rfl] at c1
      go_wp2_with (first | (go_at_call 20; (with_reducible refine c1.mono ?_); rintro e w' ⟨rfl, rfl⟩) | (go_at_call 30; (with_reducible refine c2.mono ?_); rintro e w' ⟨rfl, rfl⟩))
      go_roundw
      case rel => exact ⟨1, by omega, by first | rfl | go_num, hb, hk⟩
      case measure => first | (simp [intOf]; done) | (simp [intOf]; omega)
    by_cases e1 : i = 1
    · subst e1
      have c1 := hw 2 wr
      have c2 := hno2 wr
      rw [show str (Pc.word 2) = str [100, 114, 111, 112, 32] from rfl] at c1
      go_wp2_with (first | (go_at_call 20; (with_reducible refine c1.mono ?_); rintro e w' ⟨rfl, rfl⟩) | (go_at_call 30; (with_reducible refine c2.mono ?_); rintro e w' ⟨rfl, rfl⟩))
      go_roundw
      case rel => exact ⟨2, by omega, by first | rfl | go_num, hb, hk⟩
      case measure => first | (simp [intOf]; done) | (simp [intOf]; omega)
    obtain rfl : i = 2 := by omega
    have c1 := hw 3 wr
    have c2 := hyes wr
    rw [show str (Pc.word 3) = str [97, 100, 100, 32] from rfl] at c1
    go_wp2_with (first | (go_at_call 20; (with_reducible refine c1.mono ?_); rintro e w' ⟨rfl, rfl⟩) | (go_at_call 30; (with_reducible refine c2.mono ?_); rintro e w' ⟨rfl, rfl⟩))
    have c3 := hat wr
    with_reducible refine c3.mono ?_
    clear c3 c1 c2
    rintro e w3 ⟨rfl, t, rfl⟩
    have hb3 := Go.Joins.below_bytesWorld wr.heap.size wr 5 t (Nat.le_refl _)
    have hk3 := (hb3.block _ (blk_lt hk)).trans hk
    have hb03 := hb.trans (hb3.mono hb.size)
    generalize Lib.bytesWorld wr 5 t = w3 at *
    obtain ⟨r0, r1, r2, f0, f1, f2⟩ := keep3 hk3
    have c4 := hit w3
    rw [show (⟨d.toArray⟩ : ByteArray) = str d from rfl] at c4
    have HB := Lib.hid (((hb03.setCell (p := ⟨w.heap.size, 0, none⟩) (Nat.le_refl _) (.int .i64 3)).setCell (p := ⟨w.heap.size, 1, none⟩) (Nat.le_refl _) (.int .i64 n)).setCell (p := ⟨w.heap.size, 2, none⟩) (Nat.le_refl _) (.slice none 0 0))
    clear hb3 hk3 hb03 hb hk
    go_wp2_with (go_at_call 21; (with_reducible refine c4.mono ?_); rintro e w' ⟨rfl, rfl⟩)
    exact bodyPost_ret (v := .tuple #[.agg #[.int .i64 3, .int .i64 n, .slice none 0 0], .bool true]) (by simp [results, Tryz.results32, go_sem, r0, r1, r2]) rfl ⟨rfl, HB.out⟩
end Go.Proofs.YtmmdldicafbjdaaGreatDoor
end
section
namespace Go.Proofs.YtmmdldicafbjdaaGreatDoor
open Go.RowKit Go.Deep Tr

def slLen : Value → Nat
  | .slice _ n _ => n
  | _ => 0
/-- What Parse has by now. -/
structure Cp (w : World) (B pb : Nat) (l : List Hc) (v : Value) : Prop where
  pat : w.heap[pb]? = some (.cells #[.string ⟨#[]⟩, v] 24 (0, 0))
  row : w.ownsRow B 47 3 v l.length (hcsV l)
  lns : ∀ x ∈ l, LnS w x
  lop : B ≤ pb
theorem Cp.next {w w' : World} {B pb : Nat} {l : List Hc} {v : Value} (h : Cp w B pb l v) (hb : Below w.heap.size w w') : Cp w' B pb l v :=
  ⟨(hb.block _ (blk_lt h.pat)).trans h.pat, owns_below h.row hb, fun x hx => (h.lns x hx).keep (KeptS.of hb), h.lop⟩
theorem Cp.add {w W w6 : World} {B pb : Nat} {l : List Hc} (x : Hc) {v : Value} {gg cap : Nat} (h : Cp w B pb l v) (hb : Below w.heap.size w W) (hB : B ≤ w.heap.size)
    (h6 : w6.ownsRow B 47 3 (.slice (some ⟨gg, 0, none⟩) (l.length + 1) cap) (l.length + 1) (hcsV (l ++ [x]))) (hg : W.grownBy w6 v.ownBlock) (hx : LnS W x) :
    Cp (w6.setCell ⟨pb, 1, none⟩ (.slice (some ⟨gg, 0, none⟩) (l.length + 1) cap)) B pb (l ++ [x]) (.slice (some ⟨gg, 0, none⟩) (l.length + 1) cap) ∧ Below B w (w6.setCell ⟨pb, 1, none⟩ (.slice (some ⟨gg, 0, none⟩) (l.length + 1) cap)) ∧ w6.cell? ⟨pb, 1, none⟩ = some v ∧ w6.frozen? ⟨pb, 1, none⟩ = false := by
  have ho := owns_below h.row hb
  have hpW := (hb.block _ (blk_lt h.pat)).trans h.pat
  have p6 := blk_grown0 hpW hg (own_far ho hpW (by decide))
  have k1 : KeptS W w6 := KeptS.grown hg ho
  have k6 : KeptS w w6 := (KeptS.of hb).trans k1
  have k7 : KeptS w6 (w6.setCell ⟨pb, 1, none⟩ (.slice (some ⟨gg, 0, none⟩) (l.length + 1) cap)) := KeptS.set p6 (.inr rfl)
  have B6 : Below B w w6 := (hb.mono hB).trans ⟨hg.os, hg.tape, hg.output, hg.size, fun k hk => hg.block k (by have := hb.size; omega) (fun e => by have := (ho.lt k e.symm).1; omega)⟩
  refine ⟨⟨heap_setCell_same w6 pb 1 _ _ _ p6, ?_, fun z hz => ?_, h.lop⟩, B6.setCell (p := ⟨pb, 1, none⟩) h.lop _, by rw [cell_of_row _ _ _ _ _ _ p6]; rfl, frozen_of_row w6 pb 1 _ _ p6⟩
  · rw [List.length_append, List.length_singleton]
    refine h6.kept (row := some pb) ⟨rfl, rfl, rfl, by simp, fun k _ hk => heap_setCell_other w6 ⟨pb, 1, none⟩ k _ (fun e => hk (by rw [e]))⟩ (.inr ?_)
    exact own_far h6 p6 (by decide)
  · rcases List.mem_append.1 hz with hz | hz
    · exact (h.lns z hz).keep (k6.trans k7)
    · rw [List.mem_singleton.1 hz]
      exact hx.keep (k1.trans k7)
theorem Cp.hsT {w : World} {B pb : Nat} {l : List Hc} {v : Value} (h : Cp w B pb l v) : ∃ A c, v = .slice A (l.map (·.h)).length c ∧ HsT w A (l.map (·.h)) := by
  rcases h.row.2 with ⟨rfl, h0⟩ | ⟨g, cap, cur, rfl, hb, hg, h1, h2, _, ht⟩
  · have : l = [] := List.length_eq_zero_iff.1 h0
    subst this
    exact ⟨none, 0, rfl, fun k hk => by simp at hk⟩
  · refine ⟨some ⟨g, 0, none⟩, cap, by rw [List.length_map], fun k hk => ?_⟩
    have hk' : k < l.length := by simpa using hk
    refine ⟨g, 0, cur, (0, 0), l[k], rfl, hg, by rw [List.getElem_map], fun i u hu => ?_, h.lns l[k] (List.getElem_mem hk')⟩
    have hi : i < 3 := (List.getElem?_eq_some_iff.1 hu).1
    have e := hcsV_at l k i hk' hi
    rw [← ht, List.getElem?_take, if_pos (by omega), hu] at e
    rw [Nat.zero_add, ← Array.getElem?_toList]; exact e
theorem head_any (h : Pc.Hk) (hh : Pc.isHunk h = true) (h9 : h.n ≤ 9) (w : World) : Calls Tryz.prog 32 #[.string (str (Pc.headL h))] w fun e w' => e = .returned (.tuple #[.agg #[.int .i64 h.kind, .int .i64 h.n, .slice none 0 0], .bool true]) ∧ Below w.heap.size w w' := by
  obtain ⟨⟨n1, n2⟩, hk, _⟩ := Pc.isHunk_num hh
  rw [headL_def]
  obtain ⟨kd, n, ls⟩ := h
  dsimp only at *
  obtain ⟨m, rfl⟩ : ∃ m : Nat, n = m := ⟨n.toNat, by omega⟩
  rw [show ((m : Int)).toNat = m from rfl, dec_digit m (by omega)]
  rcases hk with rfl | rfl | rfl
  · exact head_1 m (by omega) (by omega) w
  · exact head_2 m (by omega) (by omega) w
  · exact head_3 m (by omega) (by omega) w
theorem head_noBase (h : Pc.Hk) : Pc.baseW.isPrefixOf (Pc.headL h) = false := by
  rw [headL_def, word_def]
  split
  · rfl
  · split <;> rfl
theorem isHunk_ls {h : Pc.Hk} (hh : Pc.isHunk h = true) : (h.kind = 3 → h.n = h.ls.length) ∧ (h.kind ≠ 3 → h.ls = []) := by
  unfold Pc.isHunk at hh
  split at hh
  · rename_i e
    have := (Bool.and_eq_true_iff.1 hh).2
    exact ⟨fun e3 => by omega, fun _ => List.length_eq_zero_iff.1 (by simpa using this)⟩
  · split at hh
    · rename_i e
      have := (Bool.and_eq_true_iff.1 hh).2
      exact ⟨fun _ => (by simpa using this : (h.ls.length : Int) = h.n).symm, fun e3 => absurd e e3⟩
    · exact absurd hh (by simp)
theorem body_len : ∀ hs : List Pc.Hk, hs.length ≤ (Pc.bodyL hs).length
  | [] => Nat.le_refl _
  | h :: t => by
    have := body_len t
    simp only [Pc.bodyL, List.length_cons, List.length_append] at *
    omega
theorem body_mem : ∀ (t : List Pc.Hk), ∀ h ∈ t, ∀ l ∈ h.ls, l ∈ Pc.bodyL t
  | [], h, hh, _, _ => by simp at hh
  | a :: b, h, hh, l, hl => by
    rcases List.mem_cons.1 hh with e | e
    · subst e; simp [Pc.bodyL, hl]
    · have := body_mem b h e l hl
      simp [Pc.bodyL, this]
/-- What Parse answers. -/
def parseR (hs : List Pc.Hk) : Pc.Pa × Int := if Pc.valid ⟨[], hs⟩ = true then (⟨[], hs⟩, 0) else (⟨[], []⟩, 4)
theorem parseR_def (hs : List Pc.Hk) : parseR hs = if Pc.valid ⟨[], hs⟩ = true then (⟨[], hs⟩, 0) else (⟨[], []⟩, 4) := rfl
set_option maxHeartbeats 8000000 in
set_option maxRecDepth 100000 in
theorem parse_any (hs : List Pc.Hk) (s : ByteArray) (w : World) (hI : IdAt w) (hss : s.size ≤ 1000000000) (hl : Tre.lines s.data.toList = (Pc.bodyL hs, 0)) (hH : ∀ h ∈ hs, Pc.isHunk h = true) (h9 : ∀ h ∈ hs, h.n ≤ 9) :
    Calls Tryz.prog 10 #[.string s] w (GotPa w (parseR hs)) := by
  have HD := Lib.hid (parseR_def hs)
  generalize parseR hs = R at *
  obtain ⟨i0, hi0, hz0, hz1, hz2⟩ := info_parts infoS
  obtain ⟨ih, hih, hzh0, hzh1, hzh2⟩ := info_parts infoH
  have hb0 : Below w.heap.size w (w.alloc (.cells #[.string ⟨#[]⟩, .slice none 0 0] 24)) := (Below.refl _ _).alloc (Nat.le_refl _) _
  have hk0 := heap_alloc_new w (.cells #[.string ⟨#[]⟩, .slice none 0 0] 24)
  have hl1 := lines_any s _ hss (hI.below hb0).max
  obtain ⟨hlen1, hlen2, hlen3⟩ : 1 ≤ (Pc.bodyL hs).length ∧ (Pc.bodyL hs).length ≤ 1024 ∧ ∀ x ∈ Pc.bodyL hs, x.length ≤ s.data.toList.length := by
    rcases lines_cases s.data.toList with ⟨he, _⟩ | ⟨l, h1, h2, h3, h4⟩
    · rw [hl] at he; exact absurd rfl he
    · rw [hl] at h1; injection h1 with h1; subst h1; exact ⟨h2, h3, h4⟩
  rw [size_data] at hlen3
  have hsz := text_len hl
  rw [size_data] at hsz
  have HSZ := Lib.hid hsz
  clear hsz
  have HL3 := Lib.hid hlen3
  have HHK := Lib.hid hH
  have H9 := Lib.hid h9
  clear hlen3 hH h9
  go_enter Tryz.func10, Tryz.ntmps10
  go_wp2_with fail
  with_reducible refine hl1.mono ?_
  clear hl1
  rintro x w1 ⟨v1, rfl, ho1, hb1⟩
  have hb01 := hb0.trans (hb1.mono hb0.size)
  have hk1 := (hb1.block _ (blk_lt hk0)).trans hk0
  have hI1 := hI.below hb01
  clear hb0 hk0 hb1 hI
  rw [hl] at ho1 ⊢
  dsimp only at ho1
  obtain ⟨ga, ca, rfl, _, hga, hca, hcam, _⟩ := own_pos ho1 (by omega)
  obtain ⟨A1, c1, he1, hA1⟩ := owns_cells ho1
  injection he1 with he1 _ he1c
  subst he1 he1c
  clear hl ho1
  obtain ⟨h0, ht, hs0⟩ : ∃ h0 ht, hs = h0 :: ht := by
    cases hs with
    | nil => simp [Pc.bodyL] at hlen1
    | cons a b => exact ⟨a, b, rfl⟩
  have hd0 : w1.cell? ⟨ga, 0, none⟩ = some (.string (str (Pc.headL h0))) := by
    obtain ⟨g', o', e, _, hc⟩ := hA1 0 (by rw [strs_len]; omega)
    injection e with e
    injection e with e1 e2
    subst e1 e2
    rw [strs_get _ 0 (by omega)] at hc
    rw [show (Pc.bodyL hs)[0] = Pc.headL h0 by simp [hs0, Pc.bodyL]] at hc
    exact hc
  have HS0 := Lib.hid hs0
  have hcp := fun w => cut_no (Pc.headL h0) Pc.baseW (head_noBase h0) w
  rw [← baseW_str] at hcp
  clear hs0
  generalize str (Pc.headL h0) = ln at *
  have HBL := Lib.hid (show Pc.bodyL hs = Pc.bodyL (hs.drop 0) from rfl)
  have hBW : Below w1.heap.size w1 (w1.alloc (.cells #[.string ⟨#[]⟩, .slice none 0 0] 24)) := (Below.refl _ _).alloc (Nat.le_refl _) _
  have HPB := Lib.hid (heap_alloc_new w1 (.cells #[.string ⟨#[]⟩, .slice none 0 0] 24))
  have hd1 := (hBW.cell (p := ⟨ga, 0, none⟩) hga).trans hd0
  have HLN := Lib.hid hlen2
  generalize Pc.bodyL hs = rest0 at *
  go_wp2_with (go_at_call 30; (with_reducible refine (hcp _).mono ?_); rintro e w' ⟨rfl, rfl⟩)
  go_loopw [4] (fun s4 wr => ∃ (k : Nat) (rest : List (List UInt8)) (A' : Option Addr) (c' : Nat) (l : List Hc) (v : Value), k ≤ hs.length ∧ s4 = .slice A' rest.length c' ∧ CellsAt w1 w1.heap.size A' (strs rest) ∧ rest.length ≤ c' ∧ c' ≤ maxLen ∧ rest.length ≤ 1024 ∧ rest = Pc.bodyL (hs.drop k) ∧ l.map (·.h) = hs.take k ∧ Cp wr w1.heap.size w1.heap.size l v ∧ Below w1.heap.size w1 wr) (fun s4 _ => slLen s4)
  case atStart => exact ⟨0, rest0, _, _, [], .slice none 0 0, by omega, rfl, hA1, hca, hcam, hlen2, HBL.out, rfl, ⟨HPB.out, World.ownsRow_nil _ _ _ _, fun x hx => by simp at hx, Nat.le_refl _⟩, hBW⟩
  case round =>
    clear HPB hBW hd0 hd1 hcp hA1 hca hcam hlen1 hlen2
    obtain ⟨k, rest, A', c', l, v, hk, rfl, hL, hc', hcm, hrl, hrest, hlm, hCp, hb⟩ := hrel
    have HLM := Lib.hid hlm
    have HRS := Lib.hid hrest
    have HC := Lib.hid hCp
    clear hlm hrest hCp
    by_cases hlt : k < hs.length
    · have hx := HRS.out
      rw [list_drop hs k hlt] at hx
      have hhk := HHK.out hs[k] (List.getElem_mem hlt)
      have h9 := H9.out hs[k] (List.getElem_mem hlt)
      have HT1 := Lib.hid (show hs.take (k + 1) = hs.take k ++ [hs[k]] by rw [List.take_succ_eq_append_getElem hlt])
      generalize hs[k] = h at *
      have hhd := fun w => head_any h hhk h9 w
      obtain ⟨hl3, hl0⟩ := isHunk_ls hhk
      obtain ⟨⟨n1, n2⟩, hkd, _⟩ := Pc.isHunk_num hhk
      clear hhk h9
      obtain ⟨rest1, hr1⟩ : ∃ rest1, rest1 = h.ls ++ Pc.bodyL (hs.drop (k + 1)) := ⟨_, rfl⟩
      have hx1 : rest = Pc.headL h :: rest1 := by rw [hx, hr1]; rfl
      have HR1 := Lib.hid hr1
      clear hx hr1 HRS
      subst hx1
      rw [List.length_cons] at hc' hrl
      obtain ⟨g', o', rfl, hg', hcell⟩ := cells_row hL (by simp [strs])
      have hd0 : wr.cell? ⟨g', o', none⟩ = some (.string (str (Pc.headL h))) := (hb.cell (p := ⟨g', o', none⟩) hg').trans (hcell 0 _ rfl)
      have HLD := Lib.hid (cells_drop hL 1)
      have g0 : decide ((0 : Int) < ((rest1.length + 1 : Nat) : Int)) = true := decide_eq_true (by omega)
      have g0n : decide (0 < rest1.length + 1) = true := decide_eq_true (by omega)
      rw [List.length_cons]
      rw [show (List.drop 1 (Pc.headL h :: rest1)) = rest1 from rfl] at HLD
      clear hL hcell
      have hhw := hhd wr
      generalize str (Pc.headL h) = ln at *
      go_upto_region 13 with (go_at_call 32; (with_reducible refine hhw.mono ?_); rintro e w3 ⟨rfl, hb3⟩)
      go_cut [4] from 39 to 86 (fun s4 wx => ∃ (A2 : Option Addr) (c2 : Nat), s4 = .slice A2 rest1.length c2 ∧ CellsAt w1 w1.heap.size A2 (strs rest1) ∧ rest1.length ≤ c2 ∧ c2 ≤ maxLen ∧ wx = w3.alloc (.cells #[.int .i64 h.kind, .int .i64 h.n, .slice none 0 0] 47))
      case first =>
        by_cases hc1 : c' = 1
        · subst hc1
          have hz : rest1.length = 0 := by omega
          go_wp2_with fail
          go_meet
          exact ⟨some ⟨g', o', none⟩, 0, by first | rfl | (simp; done) | (simp; omega), fun i hi => by rw [strs_len] at hi; omega, by omega, by unfold maxLen; omega, rfl⟩
        · go_wp2_with fail
          go_meet
          exact ⟨some ⟨g', o' + 1, none⟩, c' - 1, by first | rfl | (simp; done), HLD.out, by omega, by omega, rfl⟩
      case rest =>
      obtain ⟨A2, c2, rfl, hL2, hc2, hcm2, rfl⟩ := hcut
      clear hd0 g0 g0n hhw hhd HLD hcm hg' hc'
      obtain ⟨kd, n, xs⟩ := h
      dsimp only at *
      obtain ⟨m, rfl⟩ : ∃ m : Nat, n = m := ⟨n.toNat, by omega⟩
      have hbW : Below w1.heap.size w1 (w3.alloc (.cells #[.int .i64 kd, .int .i64 m, .slice none 0 0] 47)) := (hb.trans (hb3.mono hb.size)).alloc (hb.trans (hb3.mono hb.size)).size _
      have hCw := HC.out.next (show Below wr.heap.size wr (w3.alloc (.cells #[.int .i64 kd, .int .i64 m, .slice none 0 0] 47)) from hb3.alloc hb3.size _)
      have hblk := heap_alloc_new w3 (.cells #[.int .i64 kd, .int .i64 m, .slice none 0 0] 47)
      have hq : w1.heap.size ≤ w3.heap.size := (hb.trans (hb3.mono hb.size)).size
      have hll : l.length ≤ 1024 := by
        have h1 := HLN.out
        rw [show rest0 = Pc.bodyL hs from HBL.out] at h1
        have h2 := body_len hs
        have h3 := congrArg List.length HLM.out
        rw [List.length_map, List.length_take] at h3
        omega
      have hbrW : Below wr.heap.size wr (w3.alloc (.cells #[.int .i64 kd, .int .i64 m, .slice none 0 0] 47)) := hb3.alloc hb3.size _
      have hqr : wr.heap.size ≤ w3.heap.size := hb3.size
      clear hb hb3
      generalize w3.alloc (.cells #[.int .i64 kd, .int .i64 m, .slice none 0 0] 47) = W at *
      generalize w3.heap.size = q at *
      have hWs := hbW.size
      have p1 : W.cell? ⟨w1.heap.size, 1, none⟩ = some v := by rw [cell_of_row _ _ _ _ _ _ hCw.pat]; rfl
      rcases hkd with rfl | rfl | rfl
      · obtain rfl := hl0 (by decide)
        have e0 : W.cell? ⟨q, 0, none⟩ = some (.int .i64 1) := by rw [cell_of_row _ _ _ _ _ _ hblk]; rfl
        have e1 : W.cell? ⟨q, 1, none⟩ = some (.int .i64 m) := by rw [cell_of_row _ _ _ _ _ _ hblk]; rfl
        have e2 : W.cell? ⟨q, 2, none⟩ = some (.slice none 0 0) := by rw [cell_of_row _ _ _ _ _ _ hblk]; rfl
        clear hblk hl0 hl3
        go_wp2_with (at_builtin; refine wpList_append_lies _ (by rfl) _ _ 22 (by rfl) w1.heap.size 47 ih _ 3 40 Tryz.underlying22 hih hzh0 hzh1 hzh2 rfl (by omega) v l.length _ (by rfl) (hCw.row.alloc _) ⟨W.heap.size, 0, none⟩ 1 1 [_, _, _] (by rfl) (by rfl) (World.news_of_block (cs := #[_, _, _]) (t := 47) (fr := (0, 0)) (heap_alloc_new W _)) (by simp [Value.oneCell']) (by omega) (by unfold maxLen; omega) (by omega) (by simp; omega) (W.heap.size + 1) (by simp) ?_; intro gg cap w6 hown6 hgrow hat hlt6; obtain ⟨z1, z2, z3, z4⟩ := hCw.add (W := W.alloc _) ⟨⟨1, m, []⟩, none, 0⟩ ((Below.refl _ _).alloc (Nat.le_refl _) _) hbW.size (by rw [hcsV_app, hcsV_one]; exact hown6) hgrow ⟨Nat.le_refl _, Nat.zero_le _, .inl rfl⟩)
        go_roundw
        case rel => exact ⟨k + 1, rest1, A2, c2, _, _, by omega, rfl, hL2, hc2, hcm2, by omega, by rw [HR1.out]; rfl, by rw [List.map_append, HLM.out, HT1.out]; rfl, z1, hbW.trans z2⟩
        case measure => show rest1.length < rest1.length + 1; omega
      · obtain rfl := hl0 (by decide)
        have e0 : W.cell? ⟨q, 0, none⟩ = some (.int .i64 2) := by rw [cell_of_row _ _ _ _ _ _ hblk]; rfl
        have e1 : W.cell? ⟨q, 1, none⟩ = some (.int .i64 m) := by rw [cell_of_row _ _ _ _ _ _ hblk]; rfl
        have e2 : W.cell? ⟨q, 2, none⟩ = some (.slice none 0 0) := by rw [cell_of_row _ _ _ _ _ _ hblk]; rfl
        clear hblk hl0 hl3
        go_wp2_with (at_builtin; refine wpList_append_lies _ (by rfl) _ _ 22 (by rfl) w1.heap.size 47 ih _ 3 40 Tryz.underlying22 hih hzh0 hzh1 hzh2 rfl (by omega) v l.length _ (by rfl) (hCw.row.alloc _) ⟨W.heap.size, 0, none⟩ 1 1 [_, _, _] (by rfl) (by rfl) (World.news_of_block (cs := #[_, _, _]) (t := 47) (fr := (0, 0)) (heap_alloc_new W _)) (by simp [Value.oneCell']) (by omega) (by unfold maxLen; omega) (by omega) (by simp; omega) (W.heap.size + 1) (by simp) ?_; intro gg cap w6 hown6 hgrow hat hlt6; obtain ⟨z1, z2, z3, z4⟩ := hCw.add (W := W.alloc _) ⟨⟨2, m, []⟩, none, 0⟩ ((Below.refl _ _).alloc (Nat.le_refl _) _) hbW.size (by rw [hcsV_app, hcsV_one]; exact hown6) hgrow ⟨Nat.le_refl _, Nat.zero_le _, .inl rfl⟩)
        go_roundw
        case rel => exact ⟨k + 1, rest1, A2, c2, _, _, by omega, rfl, hL2, hc2, hcm2, by omega, by rw [HR1.out]; rfl, by rw [List.map_append, HLM.out, HT1.out]; rfl, z1, hbW.trans z2⟩
        case measure => show rest1.length < rest1.length + 1; omega
      · obtain rfl : m = xs.length := by have := hl3 rfl; omega
        clear hl3 hl0
        have hmr : xs.length ≤ rest1.length := by rw [HR1.out, List.length_append]; omega
        have hm1 : 1 ≤ xs.length := by omega
        have hmc : xs.length ≤ c2 := by omega
        have g3 : decide ((rest1.length : Int) < (xs.length : Int)) = false := decide_eq_false (by omega)
        have g3n : decide (rest1.length < xs.length) = false := decide_eq_false (by omega)
        have hLx : CellsAt w1 w1.heap.size A2 (strs xs) := by
          have := cells_take hL2 xs.length
          rw [HR1.out, List.take_left] at this
          exact this
        obtain ⟨g2, o2, rfl, hg2, hcell⟩ := cells_row hLx (by rw [strs_len]; omega)
        have hcw := fun j u h => (hbW.drew.cell (p := ⟨g2, o2 + j, none⟩) hg2).trans (hcell j u h)
        have e0 : W.cell? ⟨q, 0, none⟩ = some (.int .i64 3) := by rw [cell_of_row _ _ _ _ _ _ hblk]; rfl
        have e1 : W.cell? ⟨q, 1, none⟩ = some (.int .i64 xs.length) := by rw [cell_of_row _ _ _ _ _ _ hblk]; rfl
        have e2 : W.cell? ⟨q, 2, none⟩ = some (.slice none 0 0) := by rw [cell_of_row _ _ _ _ _ _ hblk]; rfl
        have HBK := Lib.hid hblk
        clear hblk hcell
        go_upto_region 17 with fail
        go_cut [] from 39 to 86 (fun wx => ∃ (A9 : Option Addr) (c9 : Nat), wx.heap[q]? = some (.cells #[.int .i64 3, .int .i64 xs.length, .slice A9 xs.length c9] 47 (0, 0)) ∧ LnS wx ⟨⟨3, xs.length, xs⟩, A9, c9⟩ ∧ Below wr.heap.size wr wx ∧ Below w1.heap.size w1 wx)
        case first =>
          go_region_law (refine step_append_lies _ (by rfl) _ _ _ (by rfl) W.heap.size 9 i0 _ 1 16 Tryz.underlying45 hi0 hz0 hz1 hz2 rfl (by omega) (.slice none 0 0) 0 _ (by rfl) (World.ownsRow_nil _ _ _ _) ⟨g2, o2, none⟩ xs.length c2 (strs xs) (by rfl) (by rw [strs_len, Nat.mul_one]) (fun j u hj => by rw [addr_addS]; exact hcw j u hj) (strs_one _) (by omega) (by unfold maxLen; omega) (by omega) (Nat.le_refl _) W.heap.size rfl ?_; intro gg cap w6 hown6 hgrow hat hlt6; have b6 := blk_grown0 (w := W.drew) (q := q) HBK.out hgrow (fun h => by cases h); have e26 : w6.cell? ⟨q, 2, none⟩ = some (.slice none 0 0) := (by rw [cell_of_row _ _ _ _ _ _ b6]; rfl); have f26 := frozen_of_row w6 q 2 _ _ b6)
          all_goals
            go_wp2_with fail
            go_meet
            rw [Nat.zero_add, List.nil_append] at hown6
            have hbD : Below W.heap.size W w6 := grown_own0 (Below.refl W.heap.size W).drew hgrow (fun k hk => by cases hk)
            have hbr6 : Below wr.heap.size wr w6 := hbrW.trans (hbD.mono hbrW.size)
            have hb16 : Below w1.heap.size w1 w6 := hbW.trans (hbD.mono hbW.size)
            obtain ⟨A9, c9, he9, hln9⟩ := own_lns hown6
            injection he9 with he9 _ he9c
            subst he9 he9c
            exact ⟨some ⟨gg, 0, none⟩, cap, by first | exact heap_setCell_same w6 q 2 _ _ _ b6 | simpa using heap_setCell_same w6 q 2 _ _ _ b6, by first | exact (hln9 _ _).keep (KeptS.set b6 (.inl rfl)) | simpa using (hln9 3 xs.length).keep (KeptS.set (i := 2) b6 (.inl rfl)), by first | exact hbr6.setCell (p := ⟨q, 2, none⟩) hqr _ | simpa using hbr6.setCell (p := ⟨q, 2, none⟩) hqr _, by first | exact hb16.setCell (p := ⟨q, 2, none⟩) hq _ | simpa using hb16.setCell (p := ⟨q, 2, none⟩) hq _⟩
        case rest =>
        obtain ⟨A9, c9, hblk9, hln9, hb9, hb19⟩ := hcut
        have hC9 := HC.out.next hb9
        have e0 : wc.cell? ⟨q, 0, none⟩ = some (.int .i64 3) := by rw [cell_of_row _ _ _ _ _ _ hblk9]; rfl
        have e1 : wc.cell? ⟨q, 1, none⟩ = some (.int .i64 xs.length) := by rw [cell_of_row _ _ _ _ _ _ hblk9]; rfl
        have e2 : wc.cell? ⟨q, 2, none⟩ = some (.slice A9 xs.length c9) := by rw [cell_of_row _ _ _ _ _ _ hblk9]; rfl
        have p1 : wc.cell? ⟨w1.heap.size, 1, none⟩ = some v := by rw [cell_of_row _ _ _ _ _ _ hC9.pat]; rfl
        have hWs := hb19.size
        have HDL := Lib.hid (cells_drop hL2 xs.length)
        clear hCw hbW hbrW hcw HBK hLx hblk9 hL2
        by_cases hcap : c2 = xs.length
        · subst hcap
          go_wp2_with (at_builtin; refine wpList_append_lies _ (by rfl) _ _ 22 (by rfl) w1.heap.size 47 ih _ 3 40 Tryz.underlying22 hih hzh0 hzh1 hzh2 rfl (by omega) v l.length _ (by rfl) (hC9.row.alloc _) ⟨wc.heap.size, 0, none⟩ 1 1 [_, _, _] (by rfl) (by rfl) (World.news_of_block (cs := #[_, _, _]) (t := 47) (fr := (0, 0)) (heap_alloc_new wc _)) (by simp [Value.oneCell']) (by omega) (by unfold maxLen; omega) (by omega) (by simp; omega) (wc.heap.size + 1) (by simp) ?_; intro gg cap w6 hown6 hgrow hat hlt6; obtain ⟨z1, z2, z3, z4⟩ := hC9.add (W := wc.alloc _) ⟨⟨3, xs.length, xs⟩, A9, c9⟩ ((Below.refl _ _).alloc (Nat.le_refl _) _) hb19.size (by rw [hcsV_app, hcsV_one]; exact hown6) hgrow (hln9.keep (KeptS.of ((Below.refl _ _).alloc (Nat.le_refl _) _))))
          go_roundw
          case rel => exact ⟨k + 1, rest1.drop xs.length, some ⟨g2, o2, none⟩, xs.length - xs.length, _, _, by omega, by first | rfl | (simp; done) | (simp; omega), fun i hi => by rw [strs_len, List.length_drop] at hi; omega, by rw [List.length_drop]; omega, by unfold maxLen at *; omega, by rw [List.length_drop]; omega, by rw [HR1.out, List.drop_left], by rw [List.map_append, HLM.out, HT1.out]; rfl, z1, hb19.trans z2⟩
          case measure => first | (show _ - _ < rest1.length + 1; omega) | (show 0 < rest1.length + 1; omega)
        ·
          go_wp2_with (at_builtin; refine wpList_append_lies _ (by rfl) _ _ 22 (by rfl) w1.heap.size 47 ih _ 3 40 Tryz.underlying22 hih hzh0 hzh1 hzh2 rfl (by omega) v l.length _ (by rfl) (hC9.row.alloc _) ⟨wc.heap.size, 0, none⟩ 1 1 [_, _, _] (by rfl) (by rfl) (World.news_of_block (cs := #[_, _, _]) (t := 47) (fr := (0, 0)) (heap_alloc_new wc _)) (by simp [Value.oneCell']) (by omega) (by unfold maxLen; omega) (by omega) (by simp; omega) (wc.heap.size + 1) (by simp) ?_; intro gg cap w6 hown6 hgrow hat hlt6; obtain ⟨z1, z2, z3, z4⟩ := hC9.add (W := wc.alloc _) ⟨⟨3, xs.length, xs⟩, A9, c9⟩ ((Below.refl _ _).alloc (Nat.le_refl _) _) hb19.size (by rw [hcsV_app, hcsV_one]; exact hown6) hgrow (hln9.keep (KeptS.of ((Below.refl _ _).alloc (Nat.le_refl _) _))))
          go_roundw
          case rel => exact ⟨k + 1, rest1.drop xs.length, some ⟨g2, o2 + xs.length, none⟩, c2 - xs.length, _, _, by omega, by first | rfl | (simp; done) | (simp; omega), HDL.out, by rw [List.length_drop]; omega, by unfold maxLen at *; omega, by rw [List.length_drop]; omega, by rw [HR1.out, List.drop_left], by rw [List.map_append, HLM.out, HT1.out]; rfl, z1, hb19.trans z2⟩
          case measure => first | (show _ - _ < rest1.length + 1; omega) | (show 0 < rest1.length + 1; omega)
    · obtain rfl : k = hs.length := by omega
      have hr0 : rest = [] := by rw [HRS.out, List.drop_length]; rfl
      subst hr0
      have hlh : l.map (·.h) = hs := by rw [HLM.out, List.take_length]
      have hCp := HC.out
      obtain ⟨A2, c2, rfl, hHT⟩ := hCp.hsT
      rw [hlh] at hHT
      have hpat : wr.heap[w1.heap.size]? = some (.cells #[.string ⟨#[]⟩, .slice A2 hs.length c2] 24 (0, 0)) := by have h := hCp.pat; rw [hlh] at h; exact h
      have p0 : wr.cell? ⟨w1.heap.size, 0, none⟩ = some (.string ⟨#[]⟩) := by rw [cell_of_row _ _ _ _ _ _ hpat]; rfl
      have p1 : wr.cell? ⟨w1.heap.size, 1, none⟩ = some (.slice A2 hs.length c2) := by rw [cell_of_row _ _ _ _ _ _ hpat]; rfl
      have hbw : Below w.heap.size w wr := hb01.trans (hb.mono hb01.size)
      have e0 : rest0 = Pc.bodyL hs := HBL.out
      have hnl : hs.length ≤ 1024 := by have := HLN.out; rw [e0] at this; have := body_len hs; omega
      have hea : ∀ h ∈ hs, ∀ l ∈ h.ls, l.length ≤ 1000000 := fun h hh l hl => by
        have h1 := HL3.out l (by rw [e0]; exact body_mem hs h hh l hl)
        have := HSZ.out
        omega
      clear e0
      have hv := isValid_any ⟨[], hs⟩ A2 c2 wr ⟨hHT.at_, by show hs.length ≤ _; omega, by show ([] : List UInt8).length ≤ _; simp, hea⟩ (hI1.below (by exact hb)).tabs
      rw [paV_def, show str (Pc.Pa.mk [] hs).base = ⟨#[]⟩ from rfl] at hv
      dsimp only at hv
      have hkr := (hb.block _ (blk_lt hk1)).trans hk1
      clear HLM HRS HC hL hc' hcm hrl hb hCp hnl hea hlh
      go_wp2_with fail
      with_reducible refine hv.mono ?_
      clear hv
      rintro x w5 ⟨rfl, hb5⟩
      have hb05 := hbw.trans (hb5.mono hbw.size)
      have hk5 := (hb5.block _ (blk_lt hkr)).trans hkr
      have hpat5 := (hb5.block _ (blk_lt hpat)).trans hpat
      have hHT5 := hHT.next hb5
      have q0 : w5.cell? ⟨w1.heap.size, 0, none⟩ = some (.string ⟨#[]⟩) := by rw [cell_of_row _ _ _ _ _ _ hpat5]; rfl
      have q1 : w5.cell? ⟨w1.heap.size, 1, none⟩ = some (.slice A2 hs.length c2) := by rw [cell_of_row _ _ _ _ _ _ hpat5]; rfl
      clear p0 p1 hkr hpat hpat5 hHT hb5 hbw
      by_cases hva : Pc.valid ⟨[], hs⟩ = true
      · have HT := Lib.hid (HD.out.trans (if_pos hva))
        rw [hva]
        obtain ⟨z1, z2, r0, r1, f0, f1⟩ := fin_patch (.string ⟨#[]⟩) (.slice A2 hs.length c2) (Nat.le_refl _) hk5 hb05 hHT5
        have Q1 := Lib.hid z1
        have Q2 := Lib.hid z2
        clear z1 z2 hk5 hb05 hHT5 hva HD
        go_wp2_with fail
        exact bodyPost_ret (v := .tuple #[.agg #[.string ⟨#[]⟩, .slice A2 hs.length c2], .int .i64 0]) (by simp [results, Tryz.results10, go_sem, r0, r1]) rfl ⟨A2, c2, by rw [HT.out]; rfl, by rw [HT.out]; exact Q1.out, Q2.out⟩
      · have HT := Lib.hid (HD.out.trans (if_neg hva))
        have hvf : Pc.valid ⟨[], hs⟩ = false := by simpa using hva
        rw [hvf]
        obtain ⟨z1, z2, r0, r1, f0, f1⟩ := fin_patch (.string ⟨#[]⟩) (.slice none 0 0) (Nat.le_refl _) hk5 hb05 (hsT_nil w5 none)
        have Q1 := Lib.hid z1
        have Q2 := Lib.hid z2
        clear z1 z2 hk5 hb05 hHT5 hva hvf HD
        go_wp2_with fail
        exact bodyPost_ret (v := .tuple #[.agg #[.string ⟨#[]⟩, .slice none 0 0], .int .i64 4]) (by simp [results, Tryz.results10, go_sem, r0, r1]) rfl ⟨none, 0, by rw [HT.out]; rfl, by rw [HT.out]; exact Q1.out, Q2.out⟩
end Go.Proofs.YtmmdldicafbjdaaGreatDoor
end
section
namespace Go.Proofs.YtmmdldicafbjdaaGreatDoor
open Go.RowKit Go.Deep Tr

def exT : List UInt8 := [107, 101, 101, 112, 32, 49, 10, 100, 114, 111, 112, 32, 49, 10, 97, 100, 100, 32, 50, 10, 120, 10, 121]
def exH : List Pc.Hk := [⟨1, 1, []⟩, ⟨2, 1, []⟩, ⟨3, 2, [[120], [121]]⟩]
def exI : List Pc.Hk := [⟨1, 1, []⟩, ⟨2, 2, []⟩, ⟨3, 1, [[98]]⟩]
def exM : List Pc.Hk := [⟨2, 1, []⟩, ⟨1, 2, []⟩, ⟨3, 1, [[100]]⟩]
def exB : List Pc.Hk := [⟨3, 1, [[120]]⟩, ⟨2, 1, []⟩]
def exD : List UInt8 := [97, 10, 98]
def exS : List UInt8 := [97, 10, 120, 10, 121]
theorem dec1 : Lib.decDigits 1 = [49] := by rw [Lib.decDigits, dif_pos (by omega)]; rfl
theorem dec2 : Lib.decDigits 2 = [50] := by rw [Lib.decDigits, dif_pos (by omega)]; rfl
theorem bodyH : Pc.bodyL exH = [[107, 101, 101, 112, 32, 49], [100, 114, 111, 112, 32, 49], [97, 100, 100, 32, 50], [120], [121]] := by
  simp [exH, Pc.bodyL, Pc.headL, Pc.word, dec1, dec2]
theorem bodyI : Pc.bodyL exI = [[107, 101, 101, 112, 32, 49], [100, 114, 111, 112, 32, 50], [97, 100, 100, 32, 49], [98]] := by
  simp [exI, Pc.bodyL, Pc.headL, Pc.word, dec1, dec2]
theorem bodyM : Pc.bodyL exM = [[100, 114, 111, 112, 32, 49], [107, 101, 101, 112, 32, 50], [97, 100, 100, 32, 49], [100]] := by
  simp [exM, Pc.bodyL, Pc.headL, Pc.word, dec1, dec2]
theorem bodyB : Pc.bodyL exB = [[97, 100, 100, 32, 49], [120], [100, 114, 111, 112, 32, 49]] := by
  simp [exB, Pc.bodyL, Pc.headL, Pc.word, dec1]
theorem linesH : Tre.lines exT = (Pc.bodyL exH, 0) := by rw [bodyH]; decide +kernel
theorem linesB : Tre.lines [97, 100, 100, 32, 49, 10, 120, 10, 100, 114, 111, 112, 32, 49] = (Pc.bodyL exB, 0) := by rw [bodyB]; decide +kernel
theorem validH : Pc.valid ⟨[], exH⟩ = true := by
  unfold Pc.valid Pc.printL
  rw [if_pos rfl, List.nil_append, bodyH]; decide +kernel
theorem validI : Pc.valid ⟨[], exI⟩ = true := by
  unfold Pc.valid Pc.printL
  rw [if_pos rfl, List.nil_append, bodyI]; decide +kernel
theorem validM : Pc.valid ⟨[], exM⟩ = true := by
  unfold Pc.valid Pc.printL
  rw [if_pos rfl, List.nil_append, bodyM]; decide +kernel
theorem validB : Pc.valid ⟨[], exB⟩ = false := by
  unfold Pc.valid
  rw [show Pc.shape exB = false by decide +kernel]; rfl
theorem applyH : Pc.apply ⟨[], exH⟩ exD = (exS, 0) := by
  unfold Pc.apply
  rw [validH]; decide +kernel
theorem traceH : Pc.trace ⟨[], exH⟩ 2 = ([⟨0, -1⟩, ⟨-1, 3⟩, ⟨-1, 4⟩], 0) := by
  unfold Pc.trace
  rw [validH]; decide +kernel
theorem printI : Pc.print ⟨[], exI⟩ = ([107, 101, 101, 112, 32, 49, 10, 100, 114, 111, 112, 32, 50, 10, 97, 100, 100, 32, 49, 10, 98], 0) := by
  unfold Pc.print Pc.printL
  rw [validI, if_pos rfl, if_pos rfl, List.nil_append, bodyI]; decide +kernel
theorem printM : Pc.print ⟨[], exM⟩ = ([100, 114, 111, 112, 32, 49, 10, 107, 101, 101, 112, 32, 50, 10, 97, 100, 100, 32, 49, 10, 100], 0) := by
  unfold Pc.print Pc.printL
  rw [validM, if_pos rfl, if_pos rfl, List.nil_append, bodyM]; decide +kernel
theorem costM : Pc.cost ⟨[], exM⟩ = (2, 0) := by
  unfold Pc.cost
  rw [validM]; decide +kernel
theorem keepI : Pc.keepHs [] [[97], [120], [121]] [[97], [98]] 0 0 [(0, 0)] = exI := by decide +kernel
theorem keep_plain (base : List UInt8) (a b : List (List UInt8)) (K : List (Nat × Nat)) : Pc.keeping base a b K = if Pc.valid ⟨base, Pc.keepHs [] a b 0 0 K⟩ = true then (⟨base, Pc.keepHs [] a b 0 0 K⟩, 0) else (⟨[], []⟩, 10) := rfl
theorem linS : Tre.lines exS = ([[97], [120], [121]], 0) := by decide +kernel
theorem linD : Tre.lines exD = ([[97], [98]], 0) := by decide +kernel
theorem linF : Tre.lines [97, 10, 98, 10, 99] = ([[97], [98], [99]], 0) := by decide +kernel
theorem linT : Tre.lines [98, 10, 99, 10, 100] = ([[98], [99], [100]], 0) := by decide +kernel
theorem invKH : Pc.invK (Pc.placesOf ⟨[], exH⟩) 0 = [(0, 0)] := by decide +kernel
theorem invertH : Pc.invert ⟨[], exH⟩ exD = (⟨[], exI⟩, 0) := by
  unfold Pc.invert
  rw [applyH, if_neg (by simp), if_pos rfl, linS, linD, invKH, keep_plain, keepI, validI, if_pos rfl]
theorem comM : Pc.common [[97], [98], [99]] [[98], [99], [100]] 0 0 = [(1, 0), (2, 1)] := by
  simp [Pc.common, Pc.firstEq, Pc.lcs_cons, Pc.lcs_nil]
theorem keepM : Pc.keepHs [] [[97], [98], [99]] [[98], [99], [100]] 0 0 [(1, 0), (2, 1)] = exM := by decide +kernel
theorem makeM : Pc.make [97, 10, 98, 10, 99] [98, 10, 99, 10, 100] = (⟨[], exM⟩, 0) := by
  unfold Pc.make
  rw [linF, linT, if_neg (by simp), if_neg (by simp), comM, keep_plain, keepM, validM, if_pos rfl]
theorem huH : ∀ h ∈ exH, Pc.isHunk h = true := by decide +kernel
theorem huB : ∀ h ∈ exB, Pc.isHunk h = true := by decide +kernel
theorem n9H : ∀ h ∈ exH, h.n ≤ 9 := by decide +kernel
theorem n9B : ∀ h ∈ exB, h.n ≤ 9 := by decide +kernel
end Go.Proofs.YtmmdldicafbjdaaGreatDoor
end
section
namespace Go.Proofs.YtmmdldicafbjdaaGreatDoor
open Go.RowKit Go.Deep Tr

set_option maxHeartbeats 4000000 in
set_option maxRecDepth 100000 in
theorem eqp_true (A A' : Option Addr) (c c' : Nat) (ts : List Pc.Pl) (w : World) (hA : PlsAt w A ts) (hA' : PlsAt w A' ts) (hl : ts.length ≤ 1000000000) :
    Calls Tryz.prog 17 #[.slice A ts.length c, .slice A' ts.length c'] w fun x w' => x = .returned (.bool true) ∧ Below w.heap.size w w' := by
  go_enter Tryz.func17, Tryz.ntmps17
  go_wp2_with fail
  go_loopw [13] (fun v wr => ∃ k : Nat, k ≤ ts.length ∧ v = .int .i64 k ∧ Below w.heap.size w wr) (fun v _ => ts.length - (intOf v).toNat)
  case atStart => exact ⟨0, by omega, rfl, Below.refl _ _⟩
  case round =>
    obtain ⟨k, hk, rfl, hb⟩ := hrel
    by_cases hlt : k < ts.length
    · obtain ⟨g, o, rfl, hg, hc0, hc1⟩ := hA k hlt
      obtain ⟨g', o', rfl, hg', hc0', hc1'⟩ := hA' k hlt
      have hd0 := (hb.cell (p := ⟨g, o + k * 2, none⟩) hg).trans hc0
      have hd1 := (hb.cell (p := ⟨g, o + k * 2 + 1, none⟩) hg).trans hc1
      have hd0' := (hb.cell (p := ⟨g', o' + k * 2, none⟩) hg').trans hc0'
      have hd1' := (hb.cell (p := ⟨g', o' + k * 2 + 1, none⟩) hg').trans hc1'
      clear hc0 hc1 hc0' hc1' hA hA'
      have hki : (k : Int) < (ts.length : Int) := by omega
      go_upto_region 6 with (fail)
      generalize ts[k] = t at *
      go_quiet (fail)
      have hb2 := below_drewN hb nq
      generalize wr.drewN nq = w2 at *
      clear hd0 hd1 hd0' hd1' hb
      go_wp2_with fail
      go_roundw
      case rel => exact ⟨k + 1, by omega, by go_num, hb2⟩
      case measure => simp [intOf]; omega
    · have hki : decide ((k : Int) < (ts.length : Int)) = false := by simp; omega
      go_wp2_with fail
      go_ret
      exact ⟨rfl, hb⟩
def exP : List Pc.Pl := [⟨0, -1⟩, ⟨-1, 3⟩, ⟨-1, 4⟩]
/-- A patch in a variable. -/
def Bx (w : World) (pb n : Nat) (A : Option Addr) (c : Nat) : Prop := w.heap[pb]? = some (.cells #[.string ⟨#[]⟩, .slice A n c] 24 (0, 0))
theorem Bx.next {w w' : World} {pb n c : Nat} {A : Option Addr} (h : Bx w pb n A c) (hb : Below w.heap.size w w') : Bx w' pb n A c := (hb.block _ (blk_lt h)).trans h
theorem Bx.cells {w : World} {pb n c : Nat} {A : Option Addr} (h : Bx w pb n A c) : w.cell? ⟨pb, 0, none⟩ = some (.string ⟨#[]⟩) ∧ w.cell? ⟨pb, 1, none⟩ = some (.slice A n c) := ⟨by rw [cell_of_row _ _ _ _ _ _ h]; rfl, by rw [cell_of_row _ _ _ _ _ _ h]; rfl⟩
theorem okH {w : World} {A : Option Addr} (h : HsT w A exH) : PaOk w ⟨[], exH⟩ A := ⟨h.at_, by decide, by decide, by decide +kernel⟩
theorem okI {w : World} {A : Option Addr} (h : HsT w A exI) : PaOk w ⟨[], exI⟩ A := ⟨h.at_, by decide, by decide, by decide +kernel⟩
theorem okM {w : World} {A : Option Addr} (h : HsT w A exM) : PaOk w ⟨[], exM⟩ A := ⟨h.at_, by decide, by decide, by decide +kernel⟩
theorem pls_block {w : World} {q : Nat} (h : w.heap[q]? = some (.cells #[.int .i64 0, .int .i64 (-1), .int .i64 (-1), .int .i64 3, .int .i64 (-1), .int .i64 4] 44 (0, 0))) : PlsAt w (some ⟨q, 0, none⟩) exP := fun k hk => by
  refine ⟨q, 0, rfl, blk_lt h, ?_, ?_⟩
  · rw [cell_of_row _ _ _ _ _ _ h]
    have hk' : k < 3 := hk
    rcases k with _ | _ | _ | k
    · rfl
    · rfl
    · rfl
    · omega
  · rw [cell_of_row _ _ _ _ _ _ h]
    have hk' : k < 3 := hk
    rcases k with _ | _ | _ | k
    · rfl
    · rfl
    · rfl
    · omega
theorem xParse (w : World) (hI : IdAt w) : Calls Tryz.prog 10 #[.string ⟨#[107, 101, 101, 112, 32, 49, 10, 100, 114, 111, 112, 32, 49, 10, 97, 100, 100, 32, 50, 10, 120, 10, 121]⟩] w fun e w' => ∃ A c, e = .returned (.tuple #[.agg #[.string ⟨#[]⟩, .slice A 3 c], .int .i64 0]) ∧ HsT w' A exH ∧ Below w.heap.size w w' := by
  have h := parse_any exH ⟨#[107, 101, 101, 112, 32, 49, 10, 100, 114, 111, 112, 32, 49, 10, 97, 100, 100, 32, 50, 10, 120, 10, 121]⟩ w hI (by show 23 ≤ _; omega) linesH huH n9H
  rw [parseR_def, validH, if_pos rfl] at h
  exact h
theorem xBad (w : World) (hI : IdAt w) : Calls Tryz.prog 10 #[.string ⟨#[97, 100, 100, 32, 49, 10, 120, 10, 100, 114, 111, 112, 32, 49]⟩] w fun e w' => ∃ A c, e = .returned (.tuple #[.agg #[.string ⟨#[]⟩, .slice A 0 c], .int .i64 4]) ∧ HsT w' A [] ∧ Below w.heap.size w w' := by
  have h := parse_any exB ⟨#[97, 100, 100, 32, 49, 10, 120, 10, 100, 114, 111, 112, 32, 49]⟩ w hI (by show 14 ≤ _; omega) linesB huB n9B
  rw [parseR_def, validB, if_neg (by simp)] at h
  exact h
theorem xApply (A : Option Addr) (c : Nat) (w : World) (hT : HsT w A exH) (hI : IdAt w) : Calls Tryz.prog 13 #[.agg #[.string ⟨#[]⟩, .slice A 3 c], .string ⟨#[97, 10, 98]⟩] w fun e w' => e = .returned (.tuple #[.string ⟨#[97, 10, 120, 10, 121]⟩, .int .i64 0]) ∧ Below w.heap.size w w' := by
  have h := apply_any ⟨[], exH⟩ A c ⟨#[97, 10, 98]⟩ w (okH hT) hI (by show 3 ≤ _; omega)
  rw [show (⟨#[97, 10, 98]⟩ : ByteArray).data.toList = exD from rfl, applyH] at h
  exact h
theorem xTrace (A : Option Addr) (c : Nat) (w : World) (hT : HsT w A exH) (hI : IdAt w) : Calls Tryz.prog 14 #[.agg #[.string ⟨#[]⟩, .slice A 3 c], .int .i64 2] w fun e w' => ∃ A' c', e = .returned (.tuple #[.slice A' 3 c', .int .i64 0]) ∧ PlsAt w' A' exP ∧ Below w.heap.size w w' := by
  have h := trace_any ⟨[], exH⟩ A c 2 w (okH hT) hI.tabs
  rw [traceH] at h
  refine h.mono ?_
  rintro e w' ⟨v, rfl, ho, hb⟩
  obtain ⟨A', c', rfl, hp⟩ := owns_pls (l := exP) ho
  exact ⟨A', c', rfl, hp, hb⟩
theorem xInvert (A : Option Addr) (c : Nat) (w : World) (hT : HsT w A exH) (hI : IdAt w) : Calls Tryz.prog 15 #[.agg #[.string ⟨#[]⟩, .slice A 3 c], .string ⟨#[97, 10, 98]⟩] w fun e w' => ∃ A c, e = .returned (.tuple #[.agg #[.string ⟨#[]⟩, .slice A 3 c], .int .i64 0]) ∧ HsT w' A exI ∧ Below w.heap.size w w' := by
  have h := invert_any ⟨[], exH⟩ A c ⟨#[97, 10, 98]⟩ w (okH hT) hI (by show 3 ≤ _; omega)
  rw [show (⟨#[97, 10, 98]⟩ : ByteArray).data.toList = exD from rfl, invertH] at h
  exact h
theorem xPrintI (A : Option Addr) (c : Nat) (w : World) (hT : HsT w A exI) (hI : IdAt w) : Calls Tryz.prog 6 #[.agg #[.string ⟨#[]⟩, .slice A 3 c]] w fun e w' => e = .returned (.tuple #[.string ⟨#[107, 101, 101, 112, 32, 49, 10, 100, 114, 111, 112, 32, 50, 10, 97, 100, 100, 32, 49, 10, 98]⟩, .int .i64 0]) ∧ Below w.heap.size w w' := by
  have h := print_any ⟨[], exI⟩ A c w (okI hT) hI.tabs
  rw [printI] at h
  exact h
theorem xMake (w : World) (hI : IdAt w) : Calls Tryz.prog 16 #[.string ⟨#[97, 10, 98, 10, 99]⟩, .string ⟨#[98, 10, 99, 10, 100]⟩] w fun e w' => ∃ A c, e = .returned (.tuple #[.agg #[.string ⟨#[]⟩, .slice A 3 c], .int .i64 0]) ∧ HsT w' A exM ∧ Below w.heap.size w w' := by
  have h := make_any ⟨#[97, 10, 98, 10, 99]⟩ ⟨#[98, 10, 99, 10, 100]⟩ w hI (by show 5 ≤ _; omega) (by show 5 ≤ _; omega)
  rw [show (⟨#[97, 10, 98, 10, 99]⟩ : ByteArray).data.toList = [97, 10, 98, 10, 99] from rfl, show (⟨#[98, 10, 99, 10, 100]⟩ : ByteArray).data.toList = [98, 10, 99, 10, 100] from rfl, makeM] at h
  exact h
theorem xPrintM (A : Option Addr) (c : Nat) (w : World) (hT : HsT w A exM) (hI : IdAt w) : Calls Tryz.prog 6 #[.agg #[.string ⟨#[]⟩, .slice A 3 c]] w fun e w' => e = .returned (.tuple #[.string ⟨#[100, 114, 111, 112, 32, 49, 10, 107, 101, 101, 112, 32, 50, 10, 97, 100, 100, 32, 49, 10, 100]⟩, .int .i64 0]) ∧ Below w.heap.size w w' := by
  have h := print_any ⟨[], exM⟩ A c w (okM hT) hI.tabs
  rw [printM] at h
  exact h
theorem xCost (A : Option Addr) (c : Nat) (w : World) (hT : HsT w A exM) (hI : IdAt w) : Calls Tryz.prog 8 #[.agg #[.string ⟨#[]⟩, .slice A 3 c]] w fun e w' => e = .returned (.tuple #[.int .i64 2, .int .i64 0]) ∧ Below w.heap.size w w' := by
  have h := cost_any ⟨[], exM⟩ A c w (okM hT) hI.tabs
  rw [costM] at h
  exact h
set_option maxHeartbeats 8000000 in
set_option maxRecDepth 100000 in
theorem awake_any (w : World) (hI : IdAt w) :
    Calls Tryz.prog 4 #[] w fun e w' => e = .returned (.bool true) ∧ Below w.heap.size w w' := by
  have n1 : ((⟨#[97, 10, 120, 10, 121]⟩ : ByteArray).toList == (⟨#[97, 10, 120, 10, 121]⟩ : ByteArray).toList) = true := by simp
  have n2 : ((⟨#[107, 101, 101, 112, 32, 49, 10, 100, 114, 111, 112, 32, 50, 10, 97, 100, 100, 32, 49, 10, 98]⟩ : ByteArray).toList == (⟨#[107, 101, 101, 112, 32, 49, 10, 100, 114, 111, 112, 32, 50, 10, 97, 100, 100, 32, 49, 10, 98]⟩ : ByteArray).toList) = true := by simp
  have n3 : ((⟨#[100, 114, 111, 112, 32, 49, 10, 107, 101, 101, 112, 32, 50, 10, 97, 100, 100, 32, 49, 10, 100]⟩ : ByteArray).toList == (⟨#[100, 114, 111, 112, 32, 49, 10, 107, 101, 101, 112, 32, 50, 10, 97, 100, 100, 32, 49, 10, 100]⟩ : ByteArray).toList) = true := by simp
  have hB0 := Below.refl w.heap.size w
  go_enter Tryz.func4, Tryz.ntmps4
  go_wp2_with fail
  have c1 := xParse w hI
  with_reducible refine c1.mono ?_
  clear c1
  rintro x w1 ⟨A1, d1, rfl, hT, hb1⟩
  have hI1 := hI.below hb1
  have hB1 := hB0.trans (hb1.mono hB0.size)
  clear hb1 hI
  go_wp2_with fail
  have hx : Below w1.heap.size w1 (w1.alloc (.cells #[.string ⟨#[]⟩, .slice A1 3 d1] 24)) := (Below.refl _ _).alloc (Nat.le_refl _) _
  have bx : Bx (w1.alloc (.cells #[.string ⟨#[]⟩, .slice A1 3 d1] 24)) w1.heap.size 3 A1 d1 := heap_alloc_new w1 _
  have hT := hT.next hx
  have hI1 := hI1.below hx
  have hB1 := hB1.trans (hx.mono hB1.size)
  clear hx
  generalize w1.alloc (.cells #[.string ⟨#[]⟩, .slice A1 3 d1] 24) = W1 at *
  generalize w1.heap.size = q1 at *
  have c2 := xApply A1 d1 W1 hT hI1
  with_reducible refine c2.mono ?_
  clear c2
  rintro x w2 ⟨rfl, hb2⟩
  have hI2 := hI1.below hb2
  have hB2 := hB1.trans (hb2.mono hB1.size)
  have hT := hT.next hb2
  have bx := bx.next hb2
  clear hb2 hI1
  obtain ⟨bx0, bx1⟩ := bx.cells
  go_wp2_with fail
  clear bx0 bx1
  have c3 := xTrace A1 d1 w2 hT hI2
  with_reducible refine c3.mono ?_
  clear c3
  rintro x w3 ⟨A3, d3, rfl, hP, hb3⟩
  have hI3 := hI2.below hb3
  have hB3 := hB2.trans (hb3.mono hB2.size)
  have hT := hT.next hb3
  have bx := bx.next hb3
  clear hb3 hI2
  obtain ⟨bx0, bx1⟩ := bx.cells
  go_wp2_with fail
  clear bx0 bx1
  have c4 := xInvert A1 d1 w3 hT hI3
  with_reducible refine c4.mono ?_
  clear c4
  rintro x w4 ⟨A4, d4, rfl, hU, hb4⟩
  have hI4 := hI3.below hb4
  have hB4 := hB3.trans (hb4.mono hB3.size)
  have hT := hT.next hb4
  have bx := bx.next hb4
  have hP := hP.next hb4
  clear hb4 hI3
  go_wp2_with fail
  have hx : Below w4.heap.size w4 (w4.alloc (.cells #[.string ⟨#[]⟩, .slice A4 3 d4] 24)) := (Below.refl _ _).alloc (Nat.le_refl _) _
  have by_ : Bx (w4.alloc (.cells #[.string ⟨#[]⟩, .slice A4 3 d4] 24)) w4.heap.size 3 A4 d4 := heap_alloc_new w4 _
  have hT := hT.next hx
  have bx := bx.next hx
  have hP := hP.next hx
  have hU := hU.next hx
  have hI4 := hI4.below hx
  have hB4 := hB4.trans (hx.mono hB4.size)
  clear hx
  generalize w4.alloc (.cells #[.string ⟨#[]⟩, .slice A4 3 d4] 24) = W4 at *
  generalize w4.heap.size = q4 at *
  have c5 := xPrintI A4 d4 W4 hU hI4
  with_reducible refine c5.mono ?_
  clear c5
  rintro x w5 ⟨rfl, hb5⟩
  have hI5 := hI4.below hb5
  have hB5 := hB4.trans (hb5.mono hB4.size)
  have hT := hT.next hb5
  have bx := bx.next hb5
  have hP := hP.next hb5
  have hU := hU.next hb5
  have by_ := by_.next hb5
  clear hb5 hI4
  go_wp2_with fail
  have c6 := xMake w5 hI5
  with_reducible refine c6.mono ?_
  clear c6
  rintro x w6 ⟨A6, d6, rfl, hV, hb6⟩
  have hI6 := hI5.below hb6
  have hB6 := hB5.trans (hb6.mono hB5.size)
  have hT := hT.next hb6
  have bx := bx.next hb6
  have hP := hP.next hb6
  have hU := hU.next hb6
  have by_ := by_.next hb6
  clear hb6 hI5
  go_wp2_with fail
  have hx : Below w6.heap.size w6 (w6.alloc (.cells #[.string ⟨#[]⟩, .slice A6 3 d6] 24)) := (Below.refl _ _).alloc (Nat.le_refl _) _
  have bz : Bx (w6.alloc (.cells #[.string ⟨#[]⟩, .slice A6 3 d6] 24)) w6.heap.size 3 A6 d6 := heap_alloc_new w6 _
  have hT := hT.next hx
  have bx := bx.next hx
  have hP := hP.next hx
  have hU := hU.next hx
  have by_ := by_.next hx
  have hV := hV.next hx
  have hI6 := hI6.below hx
  have hB6 := hB6.trans (hx.mono hB6.size)
  clear hx
  generalize w6.alloc (.cells #[.string ⟨#[]⟩, .slice A6 3 d6] 24) = W6 at *
  generalize w6.heap.size = q6 at *
  have c7 := xPrintM A6 d6 W6 hV hI6
  with_reducible refine c7.mono ?_
  clear c7
  rintro x w7 ⟨rfl, hb7⟩
  have hI7 := hI6.below hb7
  have hB7 := hB6.trans (hb7.mono hB6.size)
  have hT := hT.next hb7
  have bx := bx.next hb7
  have hP := hP.next hb7
  have hU := hU.next hb7
  have by_ := by_.next hb7
  have hV := hV.next hb7
  have bz := bz.next hb7
  clear hb7 hI6
  obtain ⟨bz0, bz1⟩ := bz.cells
  go_wp2_with fail
  clear bz0 bz1
  have c8 := xCost A6 d6 w7 hV hI7
  with_reducible refine c8.mono ?_
  clear c8
  rintro x w8 ⟨rfl, hb8⟩
  have hI8 := hI7.below hb8
  have hB8 := hB7.trans (hb8.mono hB7.size)
  have hT := hT.next hb8
  have bx := bx.next hb8
  have hP := hP.next hb8
  have hU := hU.next hb8
  have by_ := by_.next hb8
  have hV := hV.next hb8
  have bz := bz.next hb8
  clear hb8 hI7
  go_wp2_with fail
  have c9 := xBad w8 hI8
  with_reducible refine c9.mono ?_
  clear c9
  rintro x w9 ⟨A9, d9, rfl, hW, hb9⟩
  have hI9 := hI8.below hb9
  have hB9 := hB8.trans (hb9.mono hB8.size)
  have hT := hT.next hb9
  have bx := bx.next hb9
  have hP := hP.next hb9
  have hU := hU.next hb9
  have by_ := by_.next hb9
  have hV := hV.next hb9
  have bz := bz.next hb9
  clear hb9 hI8
  clear hT hU hV hW bx by_ bz
  have hy : Below w9.heap.size w9 ((w9.alloc (.cells #[.string ⟨#[]⟩, .slice A9 0 d9] 24)).alloc (.cells #[.int .i64 0, .int .i64 (-1), .int .i64 (-1), .int .i64 3, .int .i64 (-1), .int .i64 4] 44)) := ((Below.refl _ _).alloc (Nat.le_refl _) _).alloc (by simp) _
  have hz := heap_alloc_new (w9.alloc (.cells #[.string ⟨#[]⟩, .slice A9 0 d9] 24)) (.cells #[.int .i64 0, .int .i64 (-1), .int .i64 (-1), .int .i64 3, .int .i64 (-1), .int .i64 4] 44)
  rw [show (w9.alloc (.cells #[.string ⟨#[]⟩, .slice A9 0 d9] 24)).heap.size = w9.heap.size + 1 by simp] at hz
  have heq := eqp_true A3 (some ⟨w9.heap.size + 1, 0, none⟩) d3 3 exP _ (hP.next hy) (pls_block hz) (by decide)
  rw [show exP.length = 3 from rfl] at heq
  have hB := hB9.trans (hy.mono hB9.size)
  clear hy hz hP hB9 hI9
  go_wp2_with (fail)
  with_reducible refine heq.mono ?_
  clear heq
  rintro x w10 ⟨rfl, hb10⟩
  have HB := Lib.hid (hB.trans (hb10.mono hB.size))
  clear hB hb10
  go_wp2_with fail
  go_ret
  exact ⟨rfl, HB.out⟩
end Go.Proofs.YtmmdldicafbjdaaGreatDoor
end
section
namespace Go.Proofs.YtmmdldicafbjdaaGreatDoor
open Go.RowKit Go.Deep Tr

/-- A patch as it comes in. -/
structure PaRaw (w : World) (p : Pc.Pa) (A : Option Addr) : Prop where
  at_ : HsAt w w.heap.size A p.hs
  len : p.hs.length ≤ 140737488351232
  each : ∀ h ∈ p.hs, h.ls.length ≤ 140737488351232
theorem PaRaw.next {w w' : World} {p : Pc.Pa} {A : Option Addr} (h : PaRaw w p A) (hb : Below w.heap.size w w') : PaRaw w' p A := ⟨h.at_.next hb, h.len, h.each⟩
def Small (p : Pc.Pa) : Prop := p.hs.length ≤ 40 ∧ p.base.length ≤ 100 ∧ ∀ h ∈ p.hs, h.ls.length ≤ 60 ∧ ∀ l ∈ h.ls, l.length ≤ 100
theorem PaRaw.ok {w : World} {p : Pc.Pa} {A : Option Addr} (h : PaRaw w p A) (hs : Small p) : PaOk w p A := ⟨h.at_, by have := hs.1; omega, by have := hs.2.1; omega, fun x hx l hl => by have := (hs.2.2 x hx).2 l hl; omega⟩
theorem take_all {α : Type} {P : α → Prop} (l : List α) (k : Nat) (h : k < l.length) (h0 : ∀ x ∈ l.take k, P x) (h1 : P l[k]) : ∀ x ∈ l.take (k + 1), P x := by
  intro x hx
  rw [List.take_succ_eq_append_getElem h] at hx
  rcases List.mem_append.1 hx with hx | hx
  · exact h0 x hx
  · rw [List.mem_singleton.1 hx]; exact h1
def GotF (w : World) (P : Prop) : Ending → World → Prop := fun e w' => ∃ b, e = .returned (.bool b) ∧ (b = true → P) ∧ Below w.heap.size w w'
set_option maxHeartbeats 4000000 in
set_option maxRecDepth 100000 in
theorem qFew_any (p : Pc.Pa) (A : Option Addr) (c : Nat) (w : World) (hP : PaRaw w p A) :
    Calls Tryz.prog 5 #[paV p A c] w (GotF w (Small p)) := by
  rw [paV_def]
  have hb0 : Below w.heap.size w (w.alloc (.cells #[.string (str p.base), .slice A p.hs.length c] 24)) := (Below.refl _ _).alloc (Nat.le_refl _) _
  have hN0 := heap_alloc_new w (.cells #[.string (str p.base), .slice A p.hs.length c] 24)
  have HW := Lib.hid (show ∀ w', Below (w.alloc (.cells #[.string (str p.base), .slice A p.hs.length c] 24)).heap.size (w.alloc (.cells #[.string (str p.base), .slice A p.hs.length c] 24)) w' → w'.cell? ⟨w.heap.size, 0, none⟩ = some (.string (str p.base)) ∧ w'.cell? ⟨w.heap.size, 1, none⟩ = some (.slice A p.hs.length c) from fun w' h => by
    have hN := (h.block w.heap.size (blk_lt hN0)).trans hN0
    exact ⟨by rw [cell_of_row _ _ _ _ _ _ hN]; rfl, by rw [cell_of_row _ _ _ _ _ _ hN]; rfl⟩)
  have hA := hP.at_.next hb0
  have hl := hP.len
  have HE := Lib.hid hP.each
  have hbz := str_size p.base
  have HS := Lib.hid (show ∀ (_ : p.hs.length ≤ 40) (_ : p.base.length ≤ 100) (_ : ∀ h ∈ p.hs, h.ls.length ≤ 60 ∧ ∀ l ∈ h.ls, l.length ≤ 100), Small p from fun a b d => ⟨a, b, d⟩)
  have HB0 := Lib.hid hb0
  clear hP hb0 hN0
  obtain ⟨base, hs⟩ := p
  dsimp only at *
  generalize str base = bs at *
  go_enter Tryz.func5, Tryz.ntmps5
  go_wp2_with fail
  generalize w.alloc (.cells #[.string bs, .slice A hs.length c] 24) = W at *
  have hB0 := HB0.out
  go_loopw [3, 11] (fun s3 s11 wo => ∃ (k n : Nat), k ≤ hs.length ∧ s11 = .int .i64 k ∧ s3 = .int .i64 n ∧ n ≤ 60 ∧ (∀ h ∈ hs.take k, h.ls.length ≤ 60 ∧ ∀ l ∈ h.ls, l.length ≤ 100) ∧ Below W.heap.size W wo) (fun _ s11 _ => hs.length - (intOf s11).toNat)
  case atStart => exact ⟨0, 0, by omega, rfl, rfl, by omega, fun h hh => by simp at hh, Below.refl _ _⟩
  case round =>
    obtain ⟨k, n, hk, rfl, rfl, hn, hall, hb⟩ := hrel
    obtain ⟨p0, p1⟩ := HW.out _ hb
    by_cases hlt : k < hs.length
    · have hki : (k : Int) < (hs.length : Int) := by omega
      obtain ⟨g, o, Ak, ck, rfl, hg, h0, h1, h2, hck, h4, h5⟩ := hA k hlt
      have hd0 := (hb.cell (p := ⟨g, o + k * 3, none⟩) hg).trans h0
      have hd1 := (hb.cell (p := ⟨g, o + k * 3 + 1, none⟩) hg).trans h1
      have hd2 := (hb.cell (p := ⟨g, o + k * 3 + 2, none⟩) hg).trans h2
      have hle := HE.out hs[k] (List.getElem_mem hlt)
      have HT := Lib.hid (fun h => take_all (P := fun h : Pc.Hk => h.ls.length ≤ 60 ∧ ∀ l ∈ h.ls, l.length ≤ 100) hs k hlt hall h)
      clear h0 h1 h2 hall
      generalize hs[k] = h at *
      obtain ⟨kd, m, ls⟩ := h
      dsimp only at *
      have hbW := hb.alloc hb.size (.cells #[.int .i64 kd, .int .i64 m, .slice Ak ls.length ck] 47)
      have hcW : CellsAt (wr.alloc (.cells #[.int .i64 kd, .int .i64 m, .slice Ak ls.length ck] 47)) W.heap.size Ak (strs ls) := hck.below hbW (Nat.le_refl _)
      have n0 : Go.IntKind.i64.wrap ((n : Int) + (ls.length : Int)) = ((n + ls.length : Nat) : Int) := by rw [IntWalk.i64_in _ (by omega)]; omega
      by_cases h6 : n + ls.length ≤ 60
      · have g6 : decide ((60 : Int) < ((n + ls.length : Nat) : Int)) = false := decide_eq_false (by omega)
        have g6n : decide (60 < n + ls.length) = false := decide_eq_false (by omega)
        have hbb := HB0.out.trans (hbW.mono HB0.out.size)
        go_wp2_with fail
        generalize wr.alloc (.cells #[.int .i64 kd, .int .i64 m, .slice Ak ls.length ck] 47) = wo at *
        have hln : ls.length ≤ 60 := by omega
        clear hd0 hd1 hd2 hle hb p0 p1 g6 g6n n0 hki
        go_loopw [25] (fun s25 wi => ∃ j : Nat, j ≤ ls.length ∧ s25 = .int .i64 j ∧ (∀ l ∈ ls.take j, l.length ≤ 100) ∧ wi = wo) (fun s25 _ => ls.length - (intOf s25).toNat)
        case atStart => exact ⟨0, by omega, rfl, fun l h => by simp at h, rfl⟩
        case round =>
          obtain ⟨j, hj, rfl, hal, rfl⟩ := hrel
          by_cases hjl : j < ls.length
          · have hki : (j : Int) < (ls.length : Int) := by omega
            obtain ⟨g', o', rfl, hg', hc⟩ := hcW j (by rw [strs_len]; exact hjl)
            rw [strs_get _ j hjl] at hc
            have hz := str_size ls[j]
            have HT2 := Lib.hid (fun h => take_all (P := fun l : List UInt8 => l.length ≤ 100) ls j hjl hal h)
            generalize ls[j] = l at *
            clear hal
            by_cases h5 : l.length ≤ 100
            · have g1 : decide ((100 : Int) < (l.length : Int)) = false := decide_eq_false (by omega)
              have g1n : decide (100 < l.length) = false := decide_eq_false (by omega)
              go_wp2_with fail
              go_roundw
              case rel => exact ⟨j + 1, by omega, by go_num, HT2.out h5, by first | rfl | trivial⟩
              case measure => simp [intOf]; omega
            · have g1 : decide ((100 : Int) < (l.length : Int)) = true := decide_eq_true (by omega)
              have g1n : decide (100 < l.length) = true := decide_eq_true (by omega)
              go_wp2_with fail
              first | go_ret2 | go_ret
              exact ⟨false, rfl, fun h => (by cases h), hbb⟩
          · have hki : decide ((j : Int) < (ls.length : Int)) = false := by simp; omega
            obtain rfl : j = ls.length := by omega
            rw [List.take_length] at hal
            have HT2 := Lib.hid hal
            clear hal
            go_wp2_with fail
            go_roundw
            case rel => exact ⟨k + 1, n + ls.length, by omega, by go_num, by first | rfl | (simp; done), by omega, HT.out ⟨hln, HT2.out⟩, hbW⟩
            case measure => simp [intOf]; omega
      · have g6 : decide ((60 : Int) < ((n + ls.length : Nat) : Int)) = true := decide_eq_true (by omega)
        have g6n : decide (60 < n + ls.length) = true := decide_eq_true (by omega)
        have hbb := HB0.out.trans (hbW.mono HB0.out.size)
        go_wp2_with fail
        first | go_ret2 | go_ret
        exact ⟨false, rfl, fun h => (by cases h), hbb⟩
    · have hki : decide ((k : Int) < (hs.length : Int)) = false := by simp; omega
      obtain rfl : k = hs.length := by omega
      rw [List.take_length] at hall
      have HT := Lib.hid hall
      clear hall
      have hbb := HB0.out.trans (hb.mono HB0.out.size)
      by_cases h40 : hs.length ≤ 40
      · have g4 : decide ((hs.length : Int) ≤ 40) = true := decide_eq_true (by omega)
        have g4n : decide (hs.length ≤ 40) = true := decide_eq_true (by omega)
        by_cases h100 : base.length ≤ 100
        · have g5 : decide ((base.length : Int) ≤ 100) = true := decide_eq_true (by omega)
          have g5n : decide (base.length ≤ 100) = true := decide_eq_true (by omega)
          go_wp2_with fail
          first | go_ret2 | go_ret
          exact ⟨true, rfl, fun _ => HS.out h40 h100 HT.out, hbb⟩
        · have g5 : decide ((base.length : Int) ≤ 100) = false := decide_eq_false (by omega)
          have g5n : decide (base.length ≤ 100) = false := decide_eq_false (by omega)
          go_wp2_with fail
          first | go_ret2 | go_ret
          exact ⟨false, rfl, fun h => (by cases h), hbb⟩
      · have g4 : decide ((hs.length : Int) ≤ 40) = false := decide_eq_false (by omega)
        have g4n : decide (hs.length ≤ 40) = false := decide_eq_false (by omega)
        go_wp2_with fail
        first | go_ret2 | go_ret
        exact ⟨false, rfl, fun h => (by cases h), hbb⟩
end Go.Proofs.YtmmdldicafbjdaaGreatDoor
end
