/- What lies below a directory, by both ways; what mounting undoes: plain facts. No condition.
Under on the program's side. Condition: bytealg's MaxLen lies in its variable. -/
import Derived.Test.YtinkpbobkeppiaaGreatDoorPz9
import Derived.Test.YtinkpbobkeppiaaGreatDoorQun
import Derived.Test.YtinkpbobkeppiaaGreatDoorPz5
import Derived.Test.YtinkpbobkeppiaaGreatDoorCat
section
namespace Go.Proofs.YtinkpbobkeppiaaGreatDoor

theorem split_both (c : UInt8) (a s : List UInt8) : Tre.split c (a ++ c :: s) = Tre.split c a ++ Tre.split c s := by
  induction a with
  | nil => rw [List.nil_append, Tre.split_hit]; rfl
  | cons x a ih =>
    by_cases h : x = c
    · subst h
      rw [List.cons_append, Tre.split_hit, Tre.split_hit, ih]; rfl
    · obtain ⟨p, r, h1, h2⟩ := Tre.split_miss c x (a ++ c :: s) h
      obtain ⟨p', r', h3, h4⟩ := Tre.split_miss c x a h
      rw [List.cons_append, h2, h4]
      rw [ih, h3] at h1
      simp only [List.cons_append, List.cons.injEq] at h1
      rw [← h1.1, ← h1.2]; rfl
theorem path_parts {d r : List UInt8} (h : Tre.pathOk (d ++ 47 :: r) = true) : Tre.pathOk d = true ∧ Tre.pathOk r = true := by
  unfold Tre.pathOk at h ⊢
  rw [split_both] at h
  simp only [Bool.and_eq_true, decide_eq_true_eq, List.length_append, List.length_cons, List.all_append] at h ⊢
  obtain ⟨⟨h1, h2⟩, h3, h4⟩ := h
  exact ⟨⟨⟨by omega, by omega⟩, h3⟩, ⟨by omega, by omega⟩, h4⟩
theorem below_split {p d : List UInt8} (h : Tre.below p d = true) : p = d ++ 47 :: p.drop (d.length + 1) := by
  obtain ⟨h1, h2, h3⟩ := below_drop p d h
  conv => lhs; rw [← List.take_append_drop d.length p, h2, List.drop_eq_getElem_cons h1]
  rw [List.getElem?_eq_getElem h1] at h3
  rw [Option.some.inj h3]
/-- Under, file by file. -/
theorem und_walk {ts : List Tre.Fl} {d : List UInt8} (h : Tre.check ts = 0) (hd : d ≠ []) : undQ ts d = (ts.filter fun f => Tre.below f.path d).map (underF d) := by
  have g := (Tre.good_iff ts).1 h
  rw [undQ_def, if_neg (fun e => e h), if_neg hd]
  have key : ∀ us : List Tre.Fl, (∀ f ∈ us, Tre.pathOk f.path = true) → (us.filterMap fun f => if (Tre.pathOk d && Tre.below f.path d) = true then some (⟨f.path.drop (d.length + 1), f.data⟩ : Tre.Fl) else none) = (us.filter fun f => Tre.below f.path d).map (underF d) := by
    intro us
    induction us with
    | nil => intro _; rfl
    | cons f us ih =>
      intro hok
      have ih := ih fun x hx => hok x (by simp [hx])
      rw [List.filterMap_cons]
      cases hb : Tre.below f.path d with
      | false =>
        rw [List.filter_cons_of_neg (by rw [hb]; decide), Bool.and_false]
        exact ih
      | true =>
        have hp : Tre.pathOk d = true := by
          have := hok f (by simp)
          rw [below_split hb] at this
          exact (path_parts this).1
        rw [List.filter_cons_of_pos (by exact hb), List.map_cons, ← ih]
        simp only [hp, Bool.true_and, if_true]
        congr 1
        unfold underF
        rw [if_pos hb]
  exact key ts g.ok
theorem mount_drop (d a : List UInt8) : (d ++ 47 :: a).drop (d.length + 1) = a := by
  rw [show d ++ 47 :: a = (d ++ [47]) ++ a by simp, List.drop_left' (by simp)]
theorem below_of_mount (d a : List UInt8) : Tre.below (d ++ 47 :: a) d = true := by
  rw [below_def]
  simp
theorem und_mount {ts : List Tre.Fl} {d : List UInt8} (h : Tre.check (ts.map (mountF d)) = 0) (hd : d ≠ []) : undQ (ts.map (mountF d)) d = ts := by
  rw [und_walk h hd, List.filter_map, List.map_map]
  rw [show List.filter ((fun f : Tre.Fl => Tre.below f.path d) ∘ mountF d) ts = ts from List.filter_eq_self.2 fun f _ => below_of_mount d f.path]
  conv => rhs; rw [← List.map_id ts]
  refine List.map_congr_left fun f _ => ?_
  show underF d (mountF d f) = f
  unfold underF mountF
  simp only [below_of_mount, if_true, mount_drop]
theorem not_path_nil : Tre.pathOk [] = false := by decide
end Go.Proofs.YtinkpbobkeppiaaGreatDoor
end
section
namespace Go.Proofs.YtinkpbobkeppiaaGreatDoor
open Go.RowKit Go.Deep

theorem own_emptyF (w : World) (B : Nat) (hB : B ≤ w.heap.size) (T : TypeId) (size : Nat) : (w.alloc (.cells #[] T)).ownsRow B T size (.slice (some ⟨w.heap.size, 0, none⟩) 0 0) 0 [] :=
  ⟨by simp, .inr ⟨w.heap.size, 0, #[], rfl, hB, heap_alloc_new w _, Nat.le_refl _, by unfold maxLen; omega, by simp, by simp⟩⟩
set_option maxRecDepth 100000 in
theorem nil_noneF (W : World) : (binOp BinOp.eql 23 (.slice none 0 0) (.slice none 0 0)).run Tryz.prog W = .ok (.bool true) W := by kernel_rfl
set_option maxRecDepth 100000 in
theorem nil_someF (a : Addr) (n c : Nat) (W : World) : (binOp BinOp.eql 23 (.slice (some a) n c) (.slice none 0 0)).run Tryz.prog W = .ok (.bool false) W := by kernel_rfl
set_option maxHeartbeats 2000000 in
set_option maxRecDepth 100000 in
theorem cloneF_any (A : Option Addr) (c : Nat) (ts : List Tre.Fl) (w : World) (hA : FlsAt w w.heap.size A ts) (hl : ts.length ≤ 1000000) (hn : A = none → c = 0) :
    Calls Tryz.prog 59 #[.slice A ts.length c] w (GotF w ts) := by
  obtain ⟨i0, hi0, hz0, hz1, hz2⟩ := info_parts infoF
  rcases Nat.eq_zero_or_pos ts.length with h0 | hpos
  · have e0 : ts = [] := List.length_eq_zero_iff.1 h0
    subst e0
    cases A with
    | none =>
      rw [hn rfl]
      have hcmp := nil_noneF
      go_enter Tryz.func59, Tryz.ntmps59
      go_wp2_with fail
      go_ret
      exact ⟨_, rfl, World.ownsRow_nil _ _ _ _, Below.refl _ _⟩
    | some a =>
      have hcmp := nil_someF a 0 c
      go_enter Tryz.func59, Tryz.ntmps59
      go_wp2_with fail
      go_ret
      exact ⟨_, rfl, own_emptyF w w.heap.size (Nat.le_refl _) 31 2, (Below.refl _ _).alloc (Nat.le_refl _) _⟩
  · obtain ⟨g, o, rfl, hg, hc⟩ := fls_cells hA hpos
    have hcmp := nil_someF ⟨g, o, none⟩ ts.length c
    go_enter Tryz.func59, Tryz.ntmps59
    go_upto_region 3 with fail
    go_wp2_with (at_builtin; refine wpList_append_lies _ (by rfl) _ _ 23 (by rfl) w.heap.size 31 i0 _ 2 32 Tryz.underlying23 hi0 hz0 hz1 hz2 rfl (by omega) _ 0 _ (by rfl) (own_emptyF w w.heap.size (Nat.le_refl _) 31 2) ⟨g, o, none⟩ ts.length c (flsOf ts) (by rfl) (flsOf_len ts) (fun j u hj => by rw [addr_add]; exact (((Below.refl w.heap.size w).alloc (Nat.le_refl _) _).cell (p := ⟨g, o + j, none⟩) hg).trans (hc j u hj)) (flsOf_one _) hpos (by unfold maxLen; omega) (by omega) (by simp) _ rfl ?_; intro gg cap3 w6 hown6 hgrow hat hlt6)
    rw [Nat.zero_add, List.nil_append] at hown6
    go_ret
    exact ⟨_, rfl, hown6, grown_own0 ((Below.refl _ _).alloc (Nat.le_refl _) _) hgrow (fun j hj => ((own_emptyF w w.heap.size (Nat.le_refl _) 31 2).lt j hj).1)⟩
set_option maxHeartbeats 4000000 in
set_option maxRecDepth 100000 in
theorem under_any (A : Option Addr) (c : Nat) (ts : List Tre.Fl) (p : ByteArray) (w : World) (hA : FlsAt w w.heap.size A ts) (hl : ts.length ≤ 1000000) (hL : FlsLen ts) (hM : MaxAt w) (hcap : ts.length ≤ c) (hcap2 : c ≤ maxLen) (hn : A = none → c = 0) :
    Calls Tryz.prog 26 #[.slice A ts.length c, .string p] w (GotF w (undQ ts p.data.toList)) := by
  have HV := Lib.hid (undQ_def ts p.data.toList)
  have HVW := Lib.hid (fun h hd => und_walk (ts := ts) (d := p.data.toList) h hd)
  generalize undQ ts p.data.toList = R at *
  have hb0 : Below w.heap.size w (w.alloc (.cells #[.string p] 9)) := (Below.refl _ _).alloc (Nat.le_refl _) _
  have k0 : (w.alloc (.cells #[.string p] 9)).cell? ⟨w.heap.size, 0, none⟩ = some (.string p) := by rw [cell_of_row _ _ _ _ _ _ (heap_alloc_new w _)]; rfl
  have hbs : w.heap.size < (w.alloc (.cells #[.string p] 9)).heap.size := by simp
  have hc1 := check_any A c ts _ (hA.next hb0) (by omega) hL (hM.below hb0) hcap hcap2
  have HW := Lib.hid (fun w' (h : Below w.heap.size w w') => hA.next h)
  clear hA hM
  go_enter Tryz.func26, Tryz.ntmps26
  go_wp2_with fail
  generalize w.alloc (.cells #[.string p] 9) = W at *
  generalize hbb : w.heap.size = b at *
  have HBB := Lib.hid hbb
  clear hbb
  rcases (Classical.em (Tre.check ts = 0)).symm with h0 | h0
  · have n0 : (Tre.check ts != 0) = true := by rw [bne_iff_ne]; exact h0
    have HT := Lib.hid (show R = [] by rw [HV.out, if_pos h0])
    clear HV HVW h0 hL
    generalize Tre.check ts = e at *
    with_reducible refine hc1.mono ?_
    clear hc1
    rintro x w2 ⟨rfl, hb2⟩
    have hb := hb0.trans (hb2.mono (Nat.le_of_lt hbs))
    go_wp2_with fail
    go_ret
    rw [HT.out]
    exact ⟨_, rfl, World.ownsRow_nil _ _ _ _, by rw [HBB.out]; exact hb⟩
  have HV1 := Lib.hid (HV.out.trans (if_neg (fun h => h h0)))
  have HV2 := Lib.hid (HVW.out h0)
  rw [h0] at hc1
  clear HV HVW h0
  with_reducible refine hc1.mono ?_
  clear hc1
  rintro x w2 ⟨rfl, hb2⟩
  have hb := hb0.trans (hb2.mono (Nat.le_of_lt hbs))
  have k2 := (hb2.cell (p := ⟨b, 0, none⟩) hbs).trans k0
  have hbs2 : b < w2.heap.size := Nat.lt_of_lt_of_le hbs hb2.size
  clear hb2 k0 hbs hb0
  have hA2 := HW.out _ hb
  by_cases hd : p.data.toList = []
  · have q1 : p.toList = [] := by rw [ByteArray.toList_eq]; exact hd
    have q2 : p.toList.isEmpty = true := by rw [q1]; rfl
    have HR := Lib.hid (show R = ts from HV1.out.trans (if_pos hd))
    clear HV1 HV2 hd
    have hcall := cloneF_any A c ts w2 hA2 hl hn
    go_wp2_with fail
    with_reducible refine hcall.mono ?_
    clear hcall
    rintro x w3 ⟨v, rfl, hown, hb3⟩
    go_wp2_with fail
    go_ret
    rw [HR.out]
    exact ⟨_, rfl, by rw [HBB.out]; exact hown.mono (Nat.le_of_lt hbs2), by rw [HBB.out]; exact hb.trans (hb3.mono (Nat.le_of_lt hbs2))⟩
  · have q1 : ¬ p.toList = [] := by rw [ByteArray.toList_eq]; exact hd
    have q2 : p.toList.isEmpty = false := by rw [ByteArray.toList_eq]; cases hq : p.data.toList with | nil => exact absurd hq hd | cons _ _ => rfl
    have HR := Lib.hid (HV2.out hd)
    clear HV1 HV2 hd
    have hcall := walkUnder b A c ts p w2 hA2 hl hL k2
    go_wp2_with fail
    with_reducible refine hcall.mono ?_
    clear hcall
    rintro x w3 ⟨v, rfl, hown, hb3⟩
    go_wp2_with fail
    go_ret
    rw [HR.out]
    exact ⟨_, rfl, by rw [HBB.out]; exact hown.mono (Nat.le_of_lt hbs2), by rw [HBB.out]; exact hb.trans (hb3.mono (Nat.le_of_lt hbs2))⟩
end Go.Proofs.YtinkpbobkeppiaaGreatDoor
end
