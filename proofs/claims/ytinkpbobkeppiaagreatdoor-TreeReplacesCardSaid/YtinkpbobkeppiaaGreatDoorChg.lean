/- The change at a path of two trees. Condition: the tables of digest, codec lie. -/
import Derived.Test.YtinkpbobkeppiaaGreatDoorPz6
import Derived.Test.YtinkpbobkeppiaaGreatDoorFid
import Derived.Test.YtinkpbobkeppiaaGreatDoorFnd
namespace Go.Proofs.YtinkpbobkeppiaaGreatDoor
open Go.RowKit

/-- A change as a result. -/
def chV (c : Tre.Ch) : Value := .agg #[.string (str c.path), .int .i64 c.kind, .string (str c.old), .string (str c.new)]
theorem chV_def (c : Tre.Ch) : chV c = .agg #[.string (str c.path), .int .i64 c.kind, .string (str c.old), .string (str c.new)] := rfl
def Tre.chC (a b : List Tre.Fl) (p : List UInt8) : Tre.Ch := (Tre.chg a b p).headD ⟨[], 0, [], []⟩
theorem chC_def (a b : List Tre.Fl) (p : List UInt8) : Tre.chC a b p =
    if (Tre.find a p).2 = false then ⟨p, 1, [], Tre.fid (Tre.find b p).1⟩
    else if (Tre.find b p).2 = false then ⟨p, 2, Tre.fid (Tre.find a p).1, []⟩
    else if (Tre.find a p).1 = (Tre.find b p).1 then ⟨[], 0, [], []⟩ else ⟨p, 3, Tre.fid (Tre.find a p).1, Tre.fid (Tre.find b p).1⟩ := by
  unfold Tre.chC Tre.chg
  split
  · rfl
  · split
    · rfl
    · split <;> rfl
theorem keep4 {w w1 : World} {v0 v1 v2 v3 : Value} {T : TypeId} (hb : Below (w.alloc (.cells #[v0, v1, v2, v3] T)).heap.size (w.alloc (.cells #[v0, v1, v2, v3] T)) w1) :
    (w1.cell? ⟨w.heap.size, 0, none⟩ = some v0 ∧ w1.cell? ⟨w.heap.size, 1, none⟩ = some v1 ∧ w1.cell? ⟨w.heap.size, 2, none⟩ = some v2 ∧ w1.cell? ⟨w.heap.size, 3, none⟩ = some v3) ∧ (w1.frozen? ⟨w.heap.size, 0, none⟩ = false ∧ w1.frozen? ⟨w.heap.size, 1, none⟩ = false ∧ w1.frozen? ⟨w.heap.size, 2, none⟩ = false ∧ w1.frozen? ⟨w.heap.size, 3, none⟩ = false) ∧ w.heap.size < w1.heap.size :=
  ⟨⟨(hb.cell (p := ⟨w.heap.size, 0, none⟩) (by simp)).trans (by go_simp), (hb.cell (p := ⟨w.heap.size, 1, none⟩) (by simp)).trans (by go_simp), (hb.cell (p := ⟨w.heap.size, 2, none⟩) (by simp)).trans (by go_simp), (hb.cell (p := ⟨w.heap.size, 3, none⟩) (by simp)).trans (by go_simp)⟩,
   ⟨(hb.frozen (p := ⟨w.heap.size, 0, none⟩) (by simp)).trans (by go_simp), (hb.frozen (p := ⟨w.heap.size, 1, none⟩) (by simp)).trans (by go_simp), (hb.frozen (p := ⟨w.heap.size, 2, none⟩) (by simp)).trans (by go_simp), (hb.frozen (p := ⟨w.heap.size, 3, none⟩) (by simp)).trans (by go_simp)⟩, by have := hb.size; simp at this; omega⟩
set_option maxHeartbeats 4000000 in
set_option maxRecDepth 100000 in
theorem changeAt_any (A A' : Option Addr) (c c' : Nat) (ta tb : List Tre.Fl) (p : ByteArray) (w : World) (hA : FlsAt w w.heap.size A ta) (hA' : FlsAt w w.heap.size A' tb) (hl : ta.length ≤ 1000000000) (hl' : tb.length ≤ 1000000000) (hI : IdAt w) (hda : (Tre.find ta p.data.toList).1.length ≤ 1000000000) (hdb : (Tre.find tb p.data.toList).1.length ≤ 1000000000) :
    Calls Tryz.prog 69 #[.slice A ta.length c, .slice A' tb.length c', .string p] w fun x w' => x = .returned (chV (Tre.chC ta tb p.data.toList)) ∧ Below w.heap.size w w' := by
  have HV := Lib.hid (chC_def ta tb p.data.toList)
  generalize Tre.chC ta tb p.data.toList = R at *
  have HP := Lib.hid (show str p.data.toList = p by cases p; simp [str])
  have hb0 : Below w.heap.size w (w.alloc (.cells #[.string ⟨#[]⟩, .int .i64 0, .string ⟨#[]⟩, .string ⟨#[]⟩] 59)) := (Below.refl _ _).alloc (Nat.le_refl _) _
  have hf1 := find_any A c ta p _ (hA.next hb0) (by omega)
  rw [findV_def] at hf1
  go_enter Tryz.func69, Tryz.ntmps69
  go_wp2_with fail
  with_reducible refine hf1.mono ?_
  clear hf1
  rintro x w1 ⟨rfl, hb1⟩
  have hb01 := hb0.trans (hb1.mono hb0.size)
  have hf2 := find_any A' c' tb p w1 (hA'.next hb01) (by omega)
  rw [findV_def] at hf2
  go_wp2_with fail
  with_reducible refine hf2.mono ?_
  clear hf2
  rintro x w2 ⟨rfl, hb2⟩
  have hb02 := hb01.trans (hb2.mono hb01.size)
  have hB := hb1.trans (hb2.mono hb1.size)
  have hI2 := hI.below hb02
  have hs2 := hb02.size
  obtain ⟨⟨k0, k1, k2, k3⟩, ⟨f0, f1, f2, f3⟩, kl⟩ := keep4 hB
  have HKE := Lib.hid (fun (w' : World) (h : Below w2.heap.size w2 w') => keep4 (hB.trans (h.mono hB.size)))
  clear hb0 hb1 hb2 hb01 hA hA' hI hB
  generalize hFA : Tre.find ta p.data.toList = FA at *
  generalize hFB : Tre.find tb p.data.toList = FB at *
  obtain ⟨da, ia⟩ := FA
  obtain ⟨db, ib⟩ := FB
  dsimp only at hda hdb
  have HV0 := Lib.hid HV.out
  clear HV hFA hFB
  have hfa : ∀ w : World, Dg.Consts w → Calls Tryz.prog 95 #[.string (str da)] w fun e w' => e = .returned (.string (str (Tre.fid da))) ∧ Below w.heap.size w w' := fun w h => by
    have h1 := fileID_any (str da) w h (by rw [str_size]; exact hda)
    rwa [show (str da).data.toList = da from by simp [str]] at h1
  have hfb : ∀ w : World, Dg.Consts w → Calls Tryz.prog 95 #[.string (str db)] w fun e w' => e = .returned (.string (str (Tre.fid db))) ∧ Below w.heap.size w w' := fun w h => by
    have h1 := fileID_any (str db) w h (by rw [str_size]; exact hdb)
    rwa [show (str db).data.toList = db from by simp [str]] at h1
  have HD := Lib.hid (rfl : Tre.fid da = Tre.fid da)
  clear HD
  generalize Tre.fid da = ida at *
  generalize Tre.fid db = idb at *
  cases ia with
  | false =>
    have HT := Lib.hid (show R = ⟨p.data.toList, 1, [], idb⟩ from HV0.out)
    clear HV0 hfa
    have hcall := hfb w2 hI2.consts
    clear hfb
    go_wp2_with fail
    with_reducible refine hcall.mono ?_
    clear hcall
    rintro x w3 ⟨rfl, hb3⟩
    obtain ⟨⟨k0, k1, k2, k3⟩, ⟨f0, f1, f2, f3⟩, kl⟩ := HKE.out w3 hb3
    have hbb := hb02.trans (hb3.mono hs2)
    clear hb3 HKE hb02
    go_wp2_with fail
    exact bodyPost_ret (v := .agg #[.string p, .int .i64 1, .string ⟨#[]⟩, .string (str idb)]) (by simp [results, Tryz.results69, go_sem, k0, k1, k2, k3]) rfl ⟨by rw [HT.out, chV_def, HP.out]; rfl, (((hbb.setCell (by simp) _).setCell (by simp) _).setCell (by simp) _).setCell (by simp) _⟩
  | true =>
    cases ib with
    | false =>
      have HT := Lib.hid (show R = ⟨p.data.toList, 2, ida, []⟩ from HV0.out)
      clear HV0 hfb
      have hcall := hfa w2 hI2.consts
      clear hfa
      go_wp2_with fail
      with_reducible refine hcall.mono ?_
      clear hcall
      rintro x w3 ⟨rfl, hb3⟩
      obtain ⟨⟨k0, k1, k2, k3⟩, ⟨f0, f1, f2, f3⟩, kl⟩ := HKE.out w3 hb3
      have hbb := hb02.trans (hb3.mono hs2)
      clear hb3 HKE hb02
      go_wp2_with fail
      exact bodyPost_ret (v := .agg #[.string p, .int .i64 2, .string (str ida), .string ⟨#[]⟩]) (by simp [results, Tryz.results69, go_sem, k0, k1, k2, k3]) rfl ⟨by rw [HT.out, chV_def, HP.out]; rfl, (((hbb.setCell (by simp) _).setCell (by simp) _).setCell (by simp) _).setCell (by simp) _⟩
    | true =>
      by_cases hd : da = db
      · have HT := Lib.hid (show R = ⟨[], 0, [], []⟩ from HV0.out.trans (by rw [if_neg (by simp), if_neg (by simp)]; exact if_pos hd))
        have o2 : ((str da).toList == (str db).toList) = true := by rw [hd]; simp
        have o3 : ((str da).toList != (str db).toList) = false := by rw [bne, o2]; rfl
        clear HV0 hfb hfa hd HKE
        go_wp2_with fail
        exact bodyPost_ret (v := .agg #[.string ⟨#[]⟩, .int .i64 0, .string ⟨#[]⟩, .string ⟨#[]⟩]) (by simp [results, Tryz.results69, go_sem, k0, k1, k2, k3]) rfl ⟨by rw [HT.out, chV_def]; rfl, (((hb02.setCell (by simp) _).setCell (by simp) _).setCell (by simp) _).setCell (by simp) _⟩
      · have HT := Lib.hid (show R = ⟨p.data.toList, 3, ida, idb⟩ from HV0.out.trans (by rw [if_neg (by simp), if_neg (by simp)]; exact if_neg hd))
        have o2 : ((str da).toList == (str db).toList) = false := by rw [beq_eq_false_iff_ne, str_list, str_list]; exact hd
        have o3 : ((str da).toList != (str db).toList) = true := by rw [bne, o2]; rfl
        clear HV0 hd
        have hcall := hfa w2 hI2.consts
        clear hfa
        go_wp2_with fail
        with_reducible refine hcall.mono ?_
        clear hcall
        rintro x w3 ⟨rfl, hb3⟩
        have hcall := hfb w3 (hI2.below hb3).consts
        clear hfb
        go_wp2_with fail
        with_reducible refine hcall.mono ?_
        clear hcall
        rintro x w4 ⟨rfl, hb4⟩
        have hb34 := hb3.trans (hb4.mono hb3.size)
        obtain ⟨⟨k0, k1, k2, k3⟩, ⟨f0, f1, f2, f3⟩, kl⟩ := HKE.out w4 hb34
        have hbb := hb02.trans (hb34.mono hs2)
        clear hb3 hb4 hb34 HKE hb02
        go_wp2_with fail
        exact bodyPost_ret (v := .agg #[.string p, .int .i64 3, .string (str ida), .string (str idb)]) (by simp [results, Tryz.results69, go_sem, k0, k1, k2, k3]) rfl ⟨by rw [HT.out, chV_def, HP.out], (((hbb.setCell (by simp) _).setCell (by simp) _).setCell (by simp) _).setCell (by simp) _⟩
end Go.Proofs.YtinkpbobkeppiaaGreatDoor
