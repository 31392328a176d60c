/- What the reference's identifier of a directory is made of; plain. No condition.
The reference's identifier of a directory. Condition: the listed variables lie as the text lays them.
The reference's ID. Condition: the listed variables lie as the text lays them. -/
import Derived.Test.YtinkpbobkeppiaaGreatDoorDir
import Derived.Test.YtinkpbobkeppiaaGreatDoorQun
import Derived.Laws.CopyOwn
import Derived.Test.YtinkpbobkeppiaaGreatDoorPz9
section
namespace Go.Proofs.YtinkpbobkeppiaaGreatDoor
open Go.RowKit

theorem pathOk_nil : Tre.pathOk [] = false := by decide
theorem ent_find {ts : List Tre.Fl} (g : Tre.Good ts) {n : List UInt8} (hn : n ∈ Tre.namesOf ts) (k : Nat) : Tre.ent k (Tre.group ts n) = if (Tre.find ts n).2 = true then Tre.fid (Tre.find ts n).1 else Tre.pid k (Tre.group ts n) := by
  obtain ⟨f, hf, e⟩ := List.mem_map.1 (((Tre.names_spec ts).2 n).1 hn)
  have hpure : ∀ x ∈ n, x ≠ 47 := fun x hx => by rw [← e] at hx; exact Tre.name_pure _ x hx
  cases h : (Tre.find ts n).2 with
  | true =>
    obtain ⟨f2, hf2, e2, hd⟩ := Tre.find_mem h
    have h1 := g.alone hf2 (fun x hx => hpure x (e2 ▸ hx))
    rw [e2] at h1
    rw [h1, if_pos rfl, hd]
    rfl
  | false =>
    have hne := (Tre.find_none h).1
    obtain ⟨f3, r, e3⟩ := List.exists_cons_of_ne_nil (name_len g hn).2
    have gg := g.group hne
    rw [e3] at gg ⊢
    have h3 := gg.ok f3 (by simp)
    rw [if_neg (by decide)]
    exact if_neg fun hp => by rw [hp, pathOk_nil] at h3; cases h3
theorem filterMap_if {α β : Type} (P : α → Bool) (F : α → β) (l : List α) : l.filterMap (fun x => if (true && P x) = true then some (F x) else none) = (l.filter P).map F := by
  induction l with
  | nil => rfl
  | cons x l ih =>
    rw [List.filterMap_cons]
    cases h : P x with
    | true => simp only [Bool.and_self, if_true]; rw [ih, List.filter_cons_of_pos h, List.map_cons]
    | false => simp only [Bool.and_false, Bool.false_eq_true, if_false]; rw [ih, List.filter_cons_of_neg (by rw [h]; decide)]
theorem und_group {ts : List Tre.Fl} (g : Tre.Good ts) {n : List UInt8} (hn : n ∈ Tre.namesOf ts) (h : (Tre.find ts n).2 = false) : undQ ts n = Tre.group ts n := by
  obtain ⟨f, hf, e⟩ := List.mem_map.1 (((Tre.names_spec ts).2 n).1 hn)
  have hpure : ∀ x ∈ n, x ≠ 47 := fun x hx => by rw [← e] at hx; exact Tre.name_pure _ x hx
  have hpart : Tre.part n = true := by rw [← e]; exact Tre.ok_name (g.ok f hf)
  rw [undQ_def, if_neg (fun hc => hc ((Tre.good_iff ts).2 g)), if_neg (Tre.part_ne hpart), Tre.part_ok hpart hpure, filterMap_if]
  exact (Tre.under_eq hpure (Tre.find_none h).1).symm
theorem take_has (ns : List (List UInt8)) (j : Nat) (h : j < ns.length) (x : List UInt8) : (ns.take (j + 1)).contains x = ((ns.take j).contains x || (x == ns[j])) := by
  rw [List.take_succ_eq_append_getElem h, List.contains_eq_any_beq, List.any_append, List.contains_eq_any_beq]
  simp
theorem insD_known {ns : List (List UInt8)} {j : Nat} {x : List UInt8} (h : (ns.take j).contains x = true) : Tre.insD ns x = ns := by
  unfold Tre.insD
  rw [if_pos]
  rw [List.contains_iff_mem] at h ⊢
  exact List.mem_of_mem_take h
theorem insD_new {ns : List (List UInt8)} (hr : Tre.Rising ns) {j : Nat} {x : List UInt8} (hj : j ≤ ns.length) (h : (ns.take j).contains x = false) (hlo : ∀ i (hi : i < ns.length), i < j → Op.bytesLess ns[i] x = true ∨ ns[i] = x)
    (hhi : ∀ (hi : j < ns.length), ¬ (Op.bytesLess ns[j] x = true ∨ ns[j] = x)) : Tre.insD ns x = ns.take j ++ x :: ns.drop j := by
  refine Tre.insD_at hr x j hj ?_ hlo hhi
  rw [Bool.eq_false_iff, Ne, List.contains_iff_mem]
  intro hm
  rw [← List.take_append_drop j ns, List.mem_append] at hm
  rcases hm with hm | hm
  · have : (ns.take j).contains x = true := List.contains_iff_mem.2 hm
    rw [h] at this; cases this
  · obtain ⟨i, hi, e⟩ := List.getElem_of_mem hm
    rw [List.length_drop] at hi
    rw [List.getElem_drop] at e
    have hjl : j < ns.length := by omega
    by_cases h0 : i = 0
    · subst h0
      exact hhi hjl (.inr e)
    · have h2 : Op.bytesLess ns[j] ns[j + i] = true := List.pairwise_iff_getElem.1 hr j (j + i) hjl (by omega) (by omega)
      rw [e] at h2
      exact hhi hjl (.inl h2)
theorem ins_row {cur : List Value} {ns : List (List UInt8)} {j : Nat} {x : List UInt8} {z : Value} (hc : cur.take (ns.length + 1) = strs ns ++ [z]) (hl : ns.length + 1 ≤ cur.length) (hj : j ≤ ns.length) :
    ((splice cur (j + 1) (strs (ns.drop j))).set j (.string (str x))).take (ns.length + 1) = strs (ns.take j ++ x :: ns.drop j) := by
  have hs : (strs (ns.drop j)).length = ns.length - j := by rw [strs_len, List.length_drop]
  have hsl : (splice cur (j + 1) (strs (ns.drop j))).length = cur.length := length_splice _ _ _ (by rw [hs]; omega)
  apply List.ext_getElem?
  intro i
  by_cases hi : i < ns.length + 1
  · rw [List.getElem?_take_of_lt hi]
    by_cases h1 : i = j
    · subst h1
      rw [List.getElem?_set_self (by rw [hsl]; omega)]
      unfold strs
      rw [List.map_append, List.getElem?_append_right (by simp; omega), List.map_cons]
      simp [Nat.min_eq_left hj]
    · rw [List.getElem?_set_ne (by omega)]
      unfold splice
      by_cases h2 : i < j
      · rw [List.getElem?_append_left (by simp; omega), List.getElem?_take_of_lt (by omega)]
        have h3 : cur[i]? = (strs ns ++ [z])[i]? := by rw [← hc, List.getElem?_take_of_lt hi]
        rw [h3, List.getElem?_append_left (by rw [strs_len]; omega)]
        unfold strs
        rw [List.map_append, List.getElem?_append_left (by simp; omega), List.map_take, List.getElem?_take_of_lt h2]
      · have hij : j + 1 ≤ i := by omega
        rw [List.getElem?_append_right (by simp; omega), List.length_take, Nat.min_eq_left (by omega), List.getElem?_append_left (by rw [hs]; omega)]
        unfold strs
        rw [List.map_append, List.getElem?_append_right (by simp; omega), List.map_cons, List.length_map, List.length_take, Nat.min_eq_left hj, show i - j = (i - (j + 1)) + 1 by omega, List.getElem?_cons_succ]
  · rw [List.getElem?_take_eq_none (by omega), List.getElem?_eq_none (by rw [strs_len, List.length_append, List.length_take, List.length_cons, List.length_drop]; omega)]
end Go.Proofs.YtinkpbobkeppiaaGreatDoor
end
section
namespace Go.Proofs.YtinkpbobkeppiaaGreatDoor
open Go.RowKit Go.Deep

theorem infoS1 : (Tryz.prog.info? 9).map (·.size) = some 1 := by kernel_rfl
theorem leq_of (a b : List UInt8) : Op.bytesLess (str a).toList (str b).toList = Op.bytesLess a b ∧ ((str a).toList == (str b).toList) = (a == b) := by rw [str_list, str_list]; exact ⟨rfl, rfl⟩
theorem split_head (p : List UInt8) : ∃ r, Tre.split 47 p = Tre.nameOf p :: r := ⟨_, Tre.split_name p⟩
theorem row_cell {w : World} {B g n c : Nat} {xs : List (List UInt8)} (h : w.ownsRow B 9 1 (.slice (some ⟨g, 0, none⟩) n c) n (strs xs)) {j : Nat} (hj : j < xs.length) : w.cell? ⟨g, j, none⟩ = some (.string (str xs[j])) := by
  have hl := h.1
  rw [strs_len, Nat.mul_one] at hl
  have h1 := h.cellAt j (by omega)
  rw [h1]
  simp [strs, hj]
theorem row_frozen {w : World} {B g n c : Nat} {xs : List Value} (h : w.ownsRow B 9 1 (.slice (some ⟨g, 0, none⟩) n c) n xs) (j : Nat) : w.frozen? ⟨g, j, none⟩ = false := by
  rcases h.2 with ⟨h0, _⟩ | ⟨g', cap, cur, hv, _, hb, _⟩
  · cases h0
  · cases hv
    simp [World.frozen?, hb]
theorem tx_small (l : List (List UInt8)) (h1 : l.length ≤ 1024) (h2 : ∀ x ∈ l, x.length ≤ 128) : (Tre.tx l).length ≤ 900000 := by
  have h3 : ∀ l : List (List UInt8), (∀ x ∈ l, x.length ≤ 128) → (l.flatMap Cd.Cod.txt).length ≤ l.length * 200 := by
    intro l
    induction l with
    | nil => intro _; simp
    | cons x l ih =>
      intro h
      have a := ih fun y hy => h y (by simp [hy])
      have b := h x (by simp)
      have c := Cd.num_len x.length (by omega)
      unfold Cd.Cod.num at c
      rw [List.length_append] at c
      have e : (Cd.Cod.txt x).length = (Lib.decDigits x.length).length + (x.length + 2) := by unfold Cd.Cod.txt; simp
      rw [List.flatMap_cons, List.length_append, List.length_cons, e]
      omega
  have h4 := h3 l h2
  have h5 := Cd.num_len l.length (by omega)
  unfold Tre.tx
  rw [List.length_append]
  omega
theorem idl_small {k : Nat} {ts : List Tre.Fl} (g : Tre.Good ts) : ∀ x ∈ idl k ts (Tre.namesOf ts), x.length ≤ 128 := fun x hx => by
  unfold idl at hx
  obtain ⟨n, hn, hx⟩ := List.mem_flatMap.1 hx
  simp only [List.mem_cons, List.not_mem_nil, or_false] at hx
  rcases hx with rfl | rfl
  · exact (name_len g hn).1
  · have := Tre.ent_len k (Tre.group ts n); omega
set_option maxHeartbeats 8000000 in
set_option maxRecDepth 100000 in
/-- The reference's directory, given its parts' identifiers. -/
theorem qid_step (k : Nat) (A : Option Addr) (c : Nat) (ts : List Tre.Fl) (g : Tre.Good ts) (w : World) (hA : FlsAt w w.heap.size A ts) (hcap : ts.length ≤ c) (hcap2 : c ≤ maxLen)
    (hX : ∀ (n : List UInt8) (A' : Option Addr) (c' : Nat) (w' : World), n ∈ Tre.namesOf ts → (Tre.find ts n).2 = false → FlsAt w' w'.heap.size A' (Tre.group ts n) → (Tre.group ts n).length ≤ c' → c' ≤ maxLen →
      Calls Tryz.prog 63 #[.slice A' (Tre.group ts n).length c'] w' fun e w'' => e = .returned (.string (str (Tre.pid k (Tre.group ts n)))) ∧ Below w'.heap.size w' w'') :
    Calls Tryz.prog 63 #[.slice A ts.length c] w fun e w' => e = .returned (.string (str (Tre.pid (k + 1) ts))) ∧ Below w.heap.size w w' := by
  obtain ⟨i0, hi0, hz0, hz1, hz2⟩ := info_parts infoS
  have hL := good_lens g
  have hlen := g.len
  have HP := Lib.hid (show str (Tre.pid (k + 1) ts) = Dg.digS (⟨#[100]⟩ ++ str (Tre.tx (idl k ts (Tre.namesOf ts)))) by
    rw [digS_str, cons_list, Tre.pid_succ, show (str (Tre.tx (idl k ts (Tre.namesOf ts)))).data.toList = Tre.tx (idl k ts (Tre.namesOf ts)) from by simp [str]]; rfl)
  have htx := tx_small (idl k ts (Tre.namesOf ts)) (by rw [idl_len]; have := Tre.names_len ts; omega) (idl_small g)
  have htxt := fun A c w hA => qTexts_any A c (idl k ts (Tre.namesOf ts)) w hA (by rw [idl_len]; have := Tre.names_len ts; omega) (idl_each g)
  generalize str (Tre.pid (k + 1) ts) = R at *
  go_enter Tryz.func63, Tryz.ntmps63
  go_wp2_with fail
  go_loopw [3, 18] (fun v i wr => ∃ kk : Nat, kk ≤ ts.length ∧ i = .int .i64 kk ∧ wr.ownsRow w.heap.size 9 1 v (Tre.namesOf (ts.take kk)).length (strs (Tre.namesOf (ts.take kk))) ∧ Below w.heap.size w wr) (fun _ i _ => ts.length - (intOf i).toNat)
  case atStart => exact ⟨0, by omega, rfl, World.ownsRow_nil _ _ _ _, Below.refl _ _⟩
  case round =>
    obtain ⟨kk, hk, rfl, hown, hb⟩ := hrel
    by_cases hlt : kk < ts.length
    · have b1 : decide ((kk : Int) < ts.length) = true := by simp; omega
      have b1n : decide (kk < ts.length) = true := by simp; omega
      obtain ⟨gg, o, rfl, hg, hc0, hc1⟩ := hA kk hlt
      have hd0 := (hb.cell (p := ⟨gg, o + kk * 2, none⟩) hg).trans hc0
      have hd1 := (hb.cell (p := ⟨gg, o + kk * 2 + 1, none⟩) hg).trans hc1
      have HTK := Lib.hid (show Tre.namesOf (ts.take (kk + 1)) = Tre.insD (Tre.namesOf (ts.take kk)) (Tre.nameOf ts[kk].path) by rw [List.take_succ_eq_append_getElem hlt, Tre.names_snoc])
      have hfl := (hL ts[kk] (List.getElem_mem hlt)).1
      have HRI := Lib.hid (Tre.names_spec (ts.take kk)).1
      have hnl : (Tre.namesOf (ts.take kk)).length ≤ 64 := by have := Tre.names_len (ts.take kk); have : (ts.take kk).length ≤ kk := List.length_take_le _ _; omega
      clear hc0 hc1 htxt htx hX
      generalize ts[kk] = f at *
      generalize Tre.namesOf (ts.take kk) = ns at *
      have hbw : Below w.heap.size w (wr.alloc (.cells #[.string (str f.path), .string (str f.data)] 31)) := hb.alloc hb.size _
      have hown1 := hown.alloc (.cells #[.string (str f.path), .string (str f.data)] 31)
      have hsp := qSplit_any (str f.path) 47 (wr.alloc (.cells #[.string (str f.path), .string (str f.data)] 31)) (by rw [str_size]; exact hfl)
      rw [show (str f.path).data.toList = f.path from by simp [str], show (((47 : UInt8).toNat : Nat) : Int) = 47 from rfl] at hsp
      clear hown
      obtain ⟨r, hr⟩ := split_head f.path
      rw [hr] at hsp
      generalize Tre.nameOf f.path = x at *
      clear hr
      go_wp2_with fail
      with_reducible refine hsp.mono ?_
      clear hsp hd0 hd1
      rintro e w2 ⟨v2, rfl, hv2, hb2⟩
      obtain ⟨A2, c2, rfl, hc2⟩ := owns_cells hv2
      obtain ⟨g2, o2, rfl, hg2, hcell⟩ := hc2 0 (by simp [strs])
      have e0 : w2.cell? ⟨g2, o2, none⟩ = some (.string (str x)) := by simpa [strs] using hcell
      have hl0 : (0 : Int) < ((x :: r).length : Nat) := by show (0 : Int) < ((r.length + 1 : Nat) : Int); omega
      have hl1 : 0 < (x :: r).length := by simp
      have hown2 := owns_below hown1 hb2
      have hbn := hbw.trans (hb2.mono hbw.size)
      generalize (x :: r).length = z at *
      clear hown1 hbw hb2 hv2 hc2 hcell hb
      obtain ⟨AN, cN, rfl, hNc⟩ := owns_cells hown2
      go_wp2_with fail
      go_loop [7, 8] (fun at_ kn => ∃ j : Nat, j ≤ ns.length ∧ at_ = .int .i64 j ∧ kn = .bool ((ns.take j).contains x) ∧ ∀ i (hi : i < ns.length), i < j → Op.bytesLess ns[i] x = true ∨ ns[i] = x) (fun at_ _ => ns.length - (intOf at_).toNat)
      case atStart => exact ⟨0, by omega, rfl, rfl, fun i hi h => by omega⟩
      case round =>
        obtain ⟨j, hj, rfl, rfl, hlo⟩ := hrel
        have HLO := Lib.hid hlo
        clear hlo
        have hcellj : ∀ (h : j < ns.length), w2.cell? ⟨0, 0, none⟩ = w2.cell? ⟨0, 0, none⟩ := fun _ => rfl
        clear hcellj
        by_cases hgo : ∃ h : j < ns.length, Op.bytesLess ns[j] x = true ∨ ns[j] = x
        · obtain ⟨hjl, hle⟩ := hgo
          have c1 : decide ((j : Int) < ns.length) = true := by simp; omega
          have c1n : decide (j < ns.length) = true := by simp; omega
          have c2 : (j : Int) < ns.length := by omega
          have c3 : 0 ≤ (j : Int) := by omega
          obtain ⟨gN, oN, rfl, hgN, hcN⟩ := hNc j (by rw [strs_len]; exact hjl)
          rw [strs_get ns j hjl] at hcN
          have HTH := Lib.hid (take_has ns j hjl x)
          have HL2 := Lib.hid (show ∀ i (hi : i < ns.length), i < j + 1 → Op.bytesLess ns[i] x = true ∨ ns[i] = x from fun i hi h => by
            by_cases e : i = j
            · subst e; exact hle
            · exact HLO.out i hi (by omega))
          obtain ⟨q1, q2⟩ := leq_of ns[j] x
          obtain ⟨kb, hkb⟩ : ∃ kb, kb = (ns.take j).contains x := ⟨_, rfl⟩
          rw [← hkb] at HTH ⊢
          clear hkb HLO
          generalize ns[j] = y at *
          rcases Bool.eq_false_or_eq_true (Op.bytesLess y x) with hy | hy
          · rw [hy] at q1
            have hne : (y == x) = false := by rw [beq_eq_false_iff_ne]; exact Tre.bl_ne hy
            have hne2 : (x == y) = false := by rw [beq_eq_false_iff_ne]; exact fun e => Tre.bl_ne hy e.symm
            rw [hne] at q2
            have HK := Lib.hid (show (ns.take (j + 1)).contains x = kb by rw [HTH.out, hne2, Bool.or_false])
            clear HTH hy hne hne2 hle
            cases kb <;>
              (go_wp2_with fail
               go_round
               case rel => exact ⟨j + 1, by omega, by go_num, by rw [HK.out], HL2.out⟩
               case measure => simp [intOf]; omega)
          · rw [hy] at q1
            have he : y = x := hle.resolve_left (by rw [hy]; decide)
            have hne : (y == x) = true := by rw [beq_iff_eq]; exact he
            have hne2 : (x == y) = true := by rw [beq_iff_eq]; exact he.symm
            rw [hne] at q2
            have HK := Lib.hid (show (ns.take (j + 1)).contains x = true by rw [HTH.out, hne2, Bool.or_true])
            clear HTH hy hne hne2 hle he
            cases kb <;>
              (go_wp2_with fail
               go_round
               case rel => exact ⟨j + 1, by omega, by go_num, by rw [HK.out], HL2.out⟩
               case measure => simp [intOf]; omega)
        · have HHI := Lib.hid (show ∀ h : j < ns.length, ¬ (Op.bytesLess ns[j] x = true ∨ ns[j] = x) from fun h hle => hgo ⟨h, hle⟩)
          obtain ⟨kb, hkb⟩ : ∃ kb, kb = (ns.take j).contains x := ⟨_, rfl⟩
          have HKB := Lib.hid hkb
          rw [← hkb]
          clear hkb hgo
          have hex : (decide ((j : Int) < ns.length) = false ∧ decide (j < ns.length) = false) ∨ (∃ gN oN y, AN = some ⟨gN, oN, none⟩ ∧ decide ((j : Int) < ns.length) = true ∧ decide (j < ns.length) = true ∧ (j : Int) < ns.length ∧ w2.cell? ⟨gN, oN + j, none⟩ = some (.string (str y)) ∧ Op.bytesLess (str y).toList (str x).toList = false ∧ ((str y).toList == (str x).toList) = false) := by
            by_cases hjl : j < ns.length
            · obtain ⟨gN, oN, e, hgN, hcN⟩ := hNc j (by rw [strs_len]; exact hjl)
              rw [strs_get ns j hjl] at hcN
              have hh := HHI.out hjl
              obtain ⟨q1, q2⟩ := leq_of ns[j] x
              refine .inr ⟨gN, oN, ns[j], e, by simp; omega, by simp; omega, by omega, hcN, ?_, ?_⟩
              · rw [q1]; exact Bool.eq_false_iff.2 fun h => hh (.inl h)
              · rw [q2]; exact Bool.eq_false_iff.2 fun h => hh (.inr (beq_iff_eq.1 h))
            · exact .inl ⟨by simp; omega, by simp; omega⟩
          have c3 : 0 ≤ (j : Int) := by omega
          clear hNc
          rcases hex with ⟨c1, c1n⟩ | ⟨gN, oN, y, rfl, c1, c1n, c2, hcN, q1, q2⟩
          all_goals
            cases kb with
            | true =>
              have HN := Lib.hid (show Tre.namesOf (ts.take (kk + 1)) = ns from HTK.out.trans (insD_known HKB.out.symm))
              clear HKB HHI HLO HTK HRI
              go_wp2_with fail
              go_roundw
              case rel => exact ⟨kk + 1, by omega, by go_num, by rw [HN.out]; exact hown2, hbn⟩
              case measure => simp [intOf]; omega
            | false =>
              have HN := Lib.hid (show Tre.namesOf (ts.take (kk + 1)) = ns.take j ++ x :: ns.drop j from HTK.out.trans (insD_new HRI.out hj HKB.out.symm HLO.out HHI.out))
              clear HKB HHI HLO HTK HRI
              have hrow2 := hown2.lt
              have hbs := hbn.size
              go_upto_region 13 with (at_builtin; refine wpList_append_lies _ (by rfl) _ _ 43 (by rfl) w.heap.size 9 i0 _ 1 16 Tryz.underlying43 hi0 hz0 hz1 hz2 rfl (by omega) _ ns.length _ (by rfl) (hown2.alloc _) ⟨w2.heap.size, 0, none⟩ 1 1 [_] (by rfl) (by rfl) (World.news_of_block (cs := #[_]) (t := 9) (fr := (0, 0)) (heap_alloc_new w2 _)) (by simp [Value.oneCell']) (by omega) (by unfold maxLen; omega) (by omega) (by simp; omega) (w2.heap.size + 1) (by simp) ?_; intro gA cap w3 hown3 hgrow hat hlt3)
              have hb3 : Below w.heap.size w w3 := grown_own0 (hbn.alloc hbs _) hgrow (fun q hq => (hrow2 q hq).1)
              rcases hown3.2 with ⟨h0, _⟩ | ⟨g', cap', cur, hv, hB, hblk, p1, p2, p3, p4⟩
              · cases h0
              cases hv
              rw [Nat.mul_one] at p3 p4
              have hcur : cur.toList.length = cap := by simpa using p3
              have hcs : ∀ W : World, W.heap = w3.heap → ∀ jj v, (strs (ns.drop j))[jj]? = some v → W.cell? ((⟨gA, j, none⟩ : Addr).add jj) = some v := fun W hW jj v hv => by
                have hjj : jj < ns.length - j := by
                  have := (List.getElem?_eq_some_iff.1 hv).1
                  rw [strs_len, List.length_drop] at this; exact this
                have hadd : (⟨gA, j, none⟩ : Addr).add jj = ⟨gA, j + jj, none⟩ := by simp [Addr.add]
                have hblk2 : W.heap[gA]? = some (.cells cur 9 (0, 0)) := by rw [hW]; exact hblk
                rw [hadd, cell_of_row _ _ _ _ _ _ hblk2]
                have h3 : cur.toList[j + jj]? = (strs ns ++ [.string ⟨#[]⟩])[j + jj]? := by rw [← p4, List.getElem?_take_of_lt (by omega)]
                rw [← Array.getElem?_toList, h3, List.getElem?_append_left (by rw [strs_len]; omega), ← hv]
                unfold strs
                rw [List.getElem?_map, List.getElem?_map, List.getElem?_drop]
              have hone : ∀ v ∈ strs (ns.drop j), v.oneCell' = true := fun v hv => by
                obtain ⟨z, _, rfl⟩ := List.mem_map.1 hv; rfl
              have hdl : (strs (ns.drop j)).length = ns.length - j := by rw [strs_len, List.length_drop]
              have s4 : IntKind.i64.wrap ((j : Int) + 1) = (j : Int) + 1 := IntWalk.i64_in _ (by omega)
              have s5 : ((j : Int) + 1).toNat = j + 1 := by omega
              have s6 : 0 ≤ (j : Int) + 1 := by omega
              have s7 : (j : Int) + 1 ≤ ((ns.length + 1 : Nat) : Int) := by omega
              have s8 : (j : Int) ≤ ((ns.length + 1 : Nat) : Int) := by omega
              have s9 : j + 1 ≤ ns.length + 1 := by omega
              have s10 : j ≤ ns.length + 1 := by omega
              have s11 : ¬ cap = j := by omega
              have s12 : (j : Int) + 1 ≤ (ns.length : Int) + 1 := by omega
              have s13 : (j : Int) ≤ (ns.length : Int) + 1 := by omega
              have HCS := Lib.hid hcs
              have HDL := Lib.hid hdl
              have HCU := Lib.hid hcur
              have HP3 := Lib.hid p3
              have HP4 := Lib.hid p4
              have HBK := Lib.hid hblk
              have HON := Lib.hid hone
              clear hrow2 hown2 hat hgrow hbn hcs hdl hcur p3 p4 hblk hone hi0 hz0 hz1 hz2 hnl hfl hown3
              by_cases hcj : cap = j + 1
              · rcases Nat.lt_or_ge j ns.length with hjx | hjx
                · exfalso; omega
                first
                  | (exfalso; omega)
                  | skip
                all_goals
                  have hjn : j = ns.length := by omega
                  subst hjn
                  subst hcj
                  obtain ⟨w4, hw4⟩ : ∃ w4, w4 = w3.drew := ⟨_, rfl⟩
                  have hcpy : ∀ (d a : Option Addr) (dC sL sC : Nat), (Builtin.copy_ #[43, 43] 3 #[.slice d 0 dC, .slice a sL sC]).run Tryz.prog w3.drew = .ok (goInt 0) w4 := fun d a dC sL sC => by rw [hw4]; exact run_copy_none (P := Tryz.prog) w3.drew 43 43 3 9 d a 0 dC sL sC Tryz.underlying43 infoS1 (Nat.min_zero _)
                  have hown4 : w4.ownsRow w.heap.size 9 1 (.slice (some ⟨gA, 0, none⟩) (ns.length + 1) (ns.length + 1)) (ns.length + 1) (strs ns ++ [.string ⟨#[]⟩]) := by rw [hw4]; exact ⟨by rw [List.length_append, strs_len]; simp, .inr ⟨gA, _, cur, rfl, hB, HBK.out, p1, p2, by rw [HP3.out, Nat.mul_one], by rw [Nat.mul_one]; exact HP4.out⟩⟩
                  have hst := hown4.stored ns.length (.string (str x))
                  have hcl := hown4.cellAt ns.length (by omega)
                  have hfr := hown4.frozenAt ns.length
                  have hb4 : Below w.heap.size w w4 := by rw [hw4]; exact hb3.drew
                  have HL := Lib.hid (show (strs ns ++ [Value.string ⟨#[]⟩]).set ns.length (.string (str x)) = strs (ns.take ns.length ++ x :: ns.drop ns.length) by
                    rw [List.take_length, List.drop_length]
                    apply List.ext_getElem?
                    intro i
                    by_cases hi : i = ns.length
                    · subst hi
                      rw [List.getElem?_set_self (by rw [List.length_append, strs_len]; simp)]
                      simp [strs]
                    · rw [List.getElem?_set_ne (fun e => hi e.symm)]
                      simp only [strs, List.map_append]
                      by_cases h2 : i < ns.length
                      · rw [List.getElem?_append_left (by simpa using h2), List.getElem?_append_left (by simpa using h2)]
                      · rw [List.getElem?_eq_none (by simp; omega), List.getElem?_eq_none (by simp; omega)])
                  rw [List.getElem?_append_right (by rw [strs_len]; exact Nat.le_refl _), strs_len, Nat.sub_self] at hcl
                  have hcl2 : w4.cell? ⟨gA, ns.length, none⟩ = some (.string ⟨#[]⟩) := hcl
                  clear hcl hw4 HCS HDL HCU HP3 HP4 HBK HON hown4 hb3
                  have hown6 : (w4.setCell ⟨gA, ns.length, none⟩ (.string (str x))).ownsRow w.heap.size 9 1 (.slice (some ⟨gA, 0, none⟩) (ns.length + 1) (ns.length + 1)) (Tre.namesOf (ts.take (kk + 1))).length (strs (Tre.namesOf (ts.take (kk + 1)))) := by
                    have e : (ns.take ns.length ++ x :: ns.drop ns.length).length = ns.length + 1 := by simp only [List.length_append, List.length_take, List.length_cons, List.length_drop]; omega
                    rw [HN.out, e, ← HL.out]; exact hst.1
                  have hb6 : Below w.heap.size w (w4.setCell ⟨gA, ns.length, none⟩ (.string (str x))) := hb4.grown hst.2 hb4.size (fun q hq => by cases hq; exact hB)
                  clear hst hb4 HN HL
                  go_region
                  all_goals
                    go_wp2_with fail
                    go_roundw
                    case rel => exact ⟨kk + 1, by omega, by go_num, hown6, hb6⟩
                    case measure => simp [intOf]; omega
              · have HSP := Lib.hid (ins_row (x := x) (z := .string ⟨#[]⟩) HP4.out (by rw [HCU.out]; exact p1) hj)
                have hcpy := run_copy_row (P := Tryz.prog) w3.drew 43 43 3 9 gA (j + 1) (ns.length - j) (cap - (j + 1)) ⟨gA, j, none⟩ (ns.length + 1 - j) (cap - j) cur 9 (strs (ns.drop j)) Tryz.underlying43 infoS1 HBK.out (by rw [HDL.out]; exact (Nat.min_eq_right (by omega)).symm) (HCS.out _ rfl) (by rw [HDL.out, HP3.out]; omega) HON.out
                obtain ⟨w4, hw4⟩ : ∃ w4, w4 = w3.drew.setRow gA (cur.toList.take (j + 1) ++ strs (ns.drop j) ++ cur.toList.drop (j + 1 + (strs (ns.drop j)).length)).toArray := ⟨_, rfl⟩
                rw [← hw4] at hcpy
                have hg4 : w4.heap[gA]? = some (.cells (splice cur.toList (j + 1) (strs (ns.drop j))).toArray 9 (0, 0)) := by rw [hw4]; have := setRow_heap w3.drew gA cur (cur.toList.take (j + 1) ++ strs (ns.drop j) ++ cur.toList.drop (j + 1 + (strs (ns.drop j)).length)).toArray 9 _ HBK.out; rw [this]; unfold splice; rw [List.append_assoc]
                have hb4 : Below w.heap.size w w4 := by rw [hw4]; exact below_setRow hb3.drew hB _
                have hsl : (splice cur.toList (j + 1) (strs (ns.drop j))).length = cap := by rw [length_splice _ _ _ (by rw [HDL.out, HCU.out]; omega), HCU.out]
                have hown4 : w4.ownsRow w.heap.size 9 1 (.slice (some ⟨gA, 0, none⟩) (ns.length + 1) cap) (ns.length + 1) ((splice cur.toList (j + 1) (strs (ns.drop j))).take (ns.length + 1)) := ⟨by rw [List.length_take, hsl, Nat.min_eq_left p1, Nat.mul_one], .inr ⟨gA, cap, _, rfl, hB, hg4, p1, p2, by simpa using hsl, by simp⟩⟩
                have hst := hown4.stored j (.string (str x))
                obtain ⟨vj, hvj⟩ : ∃ vj, w4.cell? ⟨gA, j, none⟩ = some vj := ⟨_, (hown4.cellAt j (by omega)).trans (List.getElem?_eq_getElem (by rw [List.length_take, hsl]; omega))⟩
                have hfr := hown4.frozenAt j
                have HL := Lib.hid (show ((splice cur.toList (j + 1) (strs (ns.drop j))).take (ns.length + 1)).set j (.string (str x)) = strs (ns.take j ++ x :: ns.drop j) by rw [← List.take_set]; exact HSP.out)
                clear hw4 HCS HDL HCU HP3 HP4 HBK HON hown4 hb3 hg4 hsl HSP
                have hown6 : (w4.setCell ⟨gA, j, none⟩ (.string (str x))).ownsRow w.heap.size 9 1 (.slice (some ⟨gA, 0, none⟩) (ns.length + 1) cap) (Tre.namesOf (ts.take (kk + 1))).length (strs (Tre.namesOf (ts.take (kk + 1)))) := by
                  have e : (ns.take j ++ x :: ns.drop j).length = ns.length + 1 := by simp only [List.length_append, List.length_take, List.length_cons, List.length_drop]; omega
                  rw [HN.out, e, ← HL.out]; exact hst.1
                have hb6 : Below w.heap.size w (w4.setCell ⟨gA, j, none⟩ (.string (str x))) := hb4.grown hst.2 hb4.size (fun q hq => by cases hq; exact hB)
                clear hst hb4 HN HL
                go_region
                all_goals
                  go_wp2_with fail
                  go_roundw
                  case rel => exact ⟨kk + 1, by omega, by go_num, hown6, hb6⟩
                  case measure => simp [intOf]; omega
    · have b1 : decide ((kk : Int) < ts.length) = false := by simp; omega
      have b1n : decide (kk < ts.length) = false := by simp; omega
      rw [List.take_of_length_le (by omega)] at hown
      have hns := Tre.names_len ts
      have HNL := Lib.hid (fun n => name_len (n := n) g)
      have HEF := Lib.hid (fun n (hn : n ∈ Tre.namesOf ts) => ent_find g hn k)
      have HUG := Lib.hid (fun n (hn : n ∈ Tre.namesOf ts) => und_group g hn)
      have hb2 := hb
      obtain ⟨w2, hw2⟩ : ∃ w2, w2 = wr := ⟨_, rfl⟩
      rw [← hw2] at hown hb2 ⊢
      clear hw2 hb
      generalize Tre.namesOf ts = ns at *
      obtain ⟨AN, cN, rfl, hNc⟩ := owns_cells hown
      clear hown
      go_wp2_with fail
      go_loopw [9, 70] (fun u i wr => ∃ j : Nat, j ≤ ns.length ∧ i = .int .i64 j ∧ wr.ownsRow w2.heap.size 9 1 u (idl k ts (ns.take j)).length (strs (idl k ts (ns.take j))) ∧ Below w2.heap.size w2 wr) (fun _ i _ => ns.length - (intOf i).toNat)
      case atStart => exact ⟨0, by omega, rfl, World.ownsRow_nil _ _ _ _, Below.refl _ _⟩
      case round =>
        obtain ⟨j, hj, rfl, hown, hkr⟩ := hrel
        by_cases hlt : j < ns.length
        · have b1 : decide ((j : Int) < ns.length) = true := by simp; omega
          have b1n : decide (j < ns.length) = true := by simp; omega
          obtain ⟨gN, oN, rfl, hgN, hcN⟩ := hNc j (by rw [strs_len]; exact hlt)
          rw [strs_get ns j hlt] at hcN
          have hdN := (hkr.cell (p := ⟨gN, oN + j, none⟩) hgN).trans hcN
          have HTK := Lib.hid (show ns.take (j + 1) = ns.take j ++ [ns[j]] from List.take_succ_eq_append_getElem hlt)
          have hmem : ns[j] ∈ ns := List.getElem_mem hlt
          have hil : (idl k ts (ns.take j)).length ≤ 200 := by rw [idl_len]; have : (ns.take j).length ≤ j := List.length_take_le _ _; omega
          generalize ns[j] = n at *
          obtain ⟨hn1, hn2⟩ := HNL.out n hmem
          have hef := HEF.out n hmem
          have HSN := Lib.hid (idl_snoc k ts (ns.take j) n)
          have hbr := hb2.trans (hkr.mono hb2.size)
          have hAr := hA.next hbr
          have hfind := qFind_any A c ts (str n) wr hAr (by omega)
          rw [show (str n).data.toList = n from by simp [str], findV_def] at hfind
          clear hcN hn2 htx htxt
          cases hf : (Tre.find ts n).2 with
          | true =>
            have hsz : (Tre.find ts n).1.length ≤ 65536 := by
              obtain ⟨f, hfm, _, e⟩ := Tre.find_mem hf
              rw [e]; exact g.size f hfm
            rw [hf] at hfind hef
            rw [if_pos rfl] at hef
            rw [hef] at HSN
            clear hef hX HUG HEF
            generalize (Tre.find ts n).1 = d at *
            go_wp2_with fail
            with_reducible refine hfind.mono ?_
            clear hfind
            rintro e W1 ⟨rfl, hbw1⟩
            have hcall := qFileID_any (str d) W1 (by rw [str_size]; omega)
            rw [show (str d).data.toList = d from by simp [str]] at hcall
            generalize Tre.fid d = E at *
            go_wp2_with fail
            with_reducible refine hcall.mono ?_
            clear hcall
            rintro e W3 ⟨rfl, hbw2⟩
            have HBL := hbw1.trans (hbw2.mono hbw1.size)
            clear hbw1 hbw2 hdN hAr hbr
            have hown3 := owns_below hown HBL
            have hk3 := hkr.trans (HBL.mono hkr.size)
            have hrow3 := hown3.lt
            clear hown hkr
            go_upto_region 24 with (at_builtin; refine wpList_append_lies _ (by rfl) _ _ 43 (by rfl) w2.heap.size 9 i0 _ 1 16 Tryz.underlying43 hi0 hz0 hz1 hz2 rfl (by omega) u9 (idl k ts (ns.take j)).length _ (by rfl) (hown3.alloc _) ⟨W3.heap.size, 0, none⟩ 2 2 [_, _] (by rfl) (by rfl) (World.news_of_block (cs := #[_, _]) (t := 9) (fr := (0, 0)) (heap_alloc_new W3 _)) (by simp [Value.oneCell']) (by omega) (by unfold maxLen; omega) (by omega) (by have := hk3.size; simp; omega) (W3.heap.size + 1) (by simp) ?_; intro gg cap w4 hown4 hgrow hat hlt4)
            have hk4 : Below w2.heap.size w2 w4 := grown_own0 (hk3.alloc hk3.size _) hgrow (fun q hq => (hrow3 q hq).1)
            rw [HSN.out, ← HTK.out] at hown4
            have hown5 : w4.ownsRow w2.heap.size 9 1 (.slice (some ⟨gg, 0, none⟩) ((idl k ts (ns.take j)).length + 2) cap) (idl k ts (ns.take (j + 1))).length (strs (idl k ts (ns.take (j + 1)))) := by
              have e : (idl k ts (ns.take (j + 1))).length = (idl k ts (ns.take j)).length + 2 := by rw [idl_len, idl_len, HTK.out, List.length_append, List.length_singleton]; omega
              rw [e]; exact hown4
            clear hown4 hown3 hgrow hat hlt4 hrow3 hk3 HSN
            go_wp2_with fail
            go_roundw
            case rel => exact ⟨j + 1, by omega, by go_num, hown5, hk4⟩
            case measure => simp [intOf]; omega
          | false =>
            rw [hf] at hfind hef
            rw [if_neg (by decide)] at hef
            rw [hef] at HSN
            have hug := HUG.out n hmem hf
            have hund := fun w' hb' => qUnder_any A c ts (str n) w' (hAr.next hb') (by omega) hL (by rw [str_size]; omega) hcap hcap2
            rw [show (str n).data.toList = n from by simp [str], hug] at hund
            have HXN := Lib.hid (fun A' c' w' => hX n A' c' w' hmem hf)
            clear hef hX HUG HEF hug
            generalize Tre.pid k (Tre.group ts n) = E at *
            generalize Tre.group ts n = gr at *
            generalize (Tre.find ts n).1 = d at *
            go_wp2_with fail
            with_reducible refine hfind.mono ?_
            clear hfind
            rintro e W1 ⟨rfl, hbw1⟩
            have hcall := hund W1 hbw1
            clear hund
            go_wp2_with fail
            with_reducible refine hcall.mono ?_
            clear hcall
            rintro e W2 ⟨v, rfl, hvo, hbw2⟩
            obtain ⟨A', c', rfl, hA'⟩ := owns_fls hvo
            obtain ⟨hq1, hq2⟩ := own_cap hvo
            have hcall := HXN.out A' c' W2 hA' hq1 hq2
            clear hvo hA' HXN
            go_wp2_with fail
            with_reducible refine hcall.mono ?_
            clear hcall
            rintro e W3 ⟨rfl, hbw3⟩
            have HBL := (hbw1.trans (hbw2.mono hbw1.size)).trans (hbw3.mono (Nat.le_trans hbw1.size hbw2.size))
            clear hbw1 hbw2 hbw3 hdN hAr hbr
            have hown3 := owns_below hown HBL
            have hk3 := hkr.trans (HBL.mono hkr.size)
            have hrow3 := hown3.lt
            clear hown hkr
            go_upto_region 24 with (at_builtin; refine wpList_append_lies _ (by rfl) _ _ 43 (by rfl) w2.heap.size 9 i0 _ 1 16 Tryz.underlying43 hi0 hz0 hz1 hz2 rfl (by omega) u9 (idl k ts (ns.take j)).length _ (by rfl) (hown3.alloc _) ⟨W3.heap.size, 0, none⟩ 2 2 [_, _] (by rfl) (by rfl) (World.news_of_block (cs := #[_, _]) (t := 9) (fr := (0, 0)) (heap_alloc_new W3 _)) (by simp [Value.oneCell']) (by omega) (by unfold maxLen; omega) (by omega) (by have := hk3.size; simp; omega) (W3.heap.size + 1) (by simp) ?_; intro gg cap w4 hown4 hgrow hat hlt4)
            have hk4 : Below w2.heap.size w2 w4 := grown_own0 (hk3.alloc hk3.size _) hgrow (fun q hq => (hrow3 q hq).1)
            rw [HSN.out, ← HTK.out] at hown4
            have hown5 : w4.ownsRow w2.heap.size 9 1 (.slice (some ⟨gg, 0, none⟩) ((idl k ts (ns.take j)).length + 2) cap) (idl k ts (ns.take (j + 1))).length (strs (idl k ts (ns.take (j + 1)))) := by
              have e : (idl k ts (ns.take (j + 1))).length = (idl k ts (ns.take j)).length + 2 := by rw [idl_len, idl_len, HTK.out, List.length_append, List.length_singleton]; omega
              rw [e]; exact hown4
            clear hown4 hown3 hgrow hat hlt4 hrow3 hk3 HSN
            go_wp2_with fail
            go_roundw
            case rel => exact ⟨j + 1, by omega, by go_num, hown5, hk4⟩
            case measure => simp [intOf]; omega
        · have b1 : decide ((j : Int) < ns.length) = false := by simp; omega
          have b1n : decide (j < ns.length) = false := by simp; omega
          rw [List.take_of_length_le (by omega)] at hown
          obtain ⟨AL, cL, rfl, hLc⟩ := owns_cells hown
          have hbr := hb2.trans (hkr.mono hb2.size)
          have hcall := htxt AL cL wr hLc
          clear hown hLc htxt hkr HNL HEF HUG hNc hX hns hA hL hlen hcap b1 b1n
          generalize Tre.tx (idl k ts ns) = T at *
          generalize (idl k ts ns).length = z at *
          go_wp2_with fail
          with_reducible refine hcall.mono ?_
          clear hcall
          rintro x w3 ⟨rfl, hb3⟩
          have hb4 := hbr.trans (hb3.mono hbr.size)
          have hz : (⟨#[100]⟩ : ByteArray).size ≤ 1 := Nat.le_refl _
          have hTs : (str T).size ≤ 900000 := by rw [str_size]; exact htx
          have hz3 : ((⟨#[100]⟩ : ByteArray) ++ str T).size ≤ 900001 := by rw [ByteArray.size_append, one_size]; omega
          have hcall := Dg.refSum_any ((⟨#[100]⟩ : ByteArray) ++ str T) w3 (by omega)
          clear htx hbr hb3 hb2
          generalize str T = sT at *
          generalize Dg.digS ((⟨#[100]⟩ : ByteArray) ++ sT) = dS at *
          go_wp2_with fail
          with_reducible refine hcall.mono ?_
          clear hcall
          rintro x w4 ⟨rfl, hb5⟩
          go_wp2_with fail
          go_ret
          exact ⟨by rw [HP.out]; rfl, hb4.trans (hb5.mono hb4.size)⟩
end Go.Proofs.YtinkpbobkeppiaaGreatDoor
end
section
namespace Go.Proofs.YtinkpbobkeppiaaGreatDoor
open Go.RowKit Go.Deep

theorem qid_any : ∀ (k : Nat) (A : Option Addr) (c : Nat) (ts : List Tre.Fl) (_ : Tre.Good ts) (_ : ∀ f ∈ ts, Tre.dep f.path ≤ k + 1) (w : World) (_ : FlsAt w w.heap.size A ts) (_ : ts.length ≤ c) (_ : c ≤ maxLen),
    Calls Tryz.prog 63 #[.slice A ts.length c] w fun e w' => e = .returned (.string (str (Tre.pid (k + 1) ts))) ∧ Below w.heap.size w w' := by
  intro k
  induction k with
  | zero =>
    intro A c ts g hd w hA h1 h2
    refine qid_step 0 A c ts g w hA h1 h2 fun n A' c' w' hn hf hA' _ _ => ?_
    have hne := (Tre.find_none hf).1
    obtain ⟨f3, r, e3⟩ := List.exists_cons_of_ne_nil (name_len g hn).2
    have h1 := Tre.group_dep hne hd f3 (by rw [e3]; simp)
    have h2 := Tre.dep_pos f3.path
    omega
  | succ k ih =>
    intro A c ts g hd w hA h1 h2
    refine qid_step (k + 1) A c ts g w hA h1 h2 fun n A' c' w' hn hf hA' h3 h4 => ?_
    have hne := (Tre.find_none hf).1
    exact ih A' c' (Tre.group ts n) (g.group hne) (Tre.group_dep hne hd) w' hA' h3 h4
theorem qID_any (A : Option Addr) (c : Nat) (ts : List Tre.Fl) (w : World) (hA : FlsAt w w.heap.size A ts) (hl : ts.length ≤ 1000000000) (hL : FlsLen ts) (hcap : ts.length ≤ c) (hcap2 : c ≤ maxLen) :
    Calls Tryz.prog 29 #[.slice A ts.length c] w fun e w' => e = .returned (idV ts) ∧ Below w.heap.size w w' := by
  have hck := qCheck_any A c ts w hA hl hL hcap hcap2
  by_cases h0 : Tre.check ts = 0
  · have g := (Tre.good_iff ts).1 h0
    have HV := Lib.hid (show idV ts = .tuple #[.string (str (Tre.pid 9 ts)), .int .i64 0] by unfold idV Tre.idR; rw [if_neg (fun h => h h0)])
    rw [h0] at hck
    have hd := fun w' hb => qid_any 8 A c ts g (fun f hf => by have := Tre.ok_dep (g.ok f hf); omega) w' (hA.next hb) hcap hcap2
    generalize Tre.pid (8 + 1) ts = P at *
    generalize idV ts = R at *
    go_enter Tryz.func29, Tryz.ntmps29
    go_wp2_with fail
    with_reducible refine hck.mono ?_
    clear hck
    rintro x w1 ⟨rfl, hb1⟩
    have hcall := hd w1 hb1
    go_wp2_with fail
    with_reducible refine hcall.mono ?_
    clear hcall
    rintro x w2 ⟨rfl, hb2⟩
    go_wp2_with fail
    go_ret2
    exact ⟨HV.out ▸ rfl, hb1.trans (hb2.mono hb1.size)⟩
  · have q1 : (Tre.check ts != 0) = true := by rw [bne_iff_ne]; exact h0
    have HV := Lib.hid (show idV ts = .tuple #[.string ⟨#[]⟩, .int .i64 1] by unfold idV Tre.idR; rw [if_pos h0]; rfl)
    generalize Tre.check ts = e at *
    generalize idV ts = R at *
    clear h0
    go_enter Tryz.func29, Tryz.ntmps29
    go_wp2_with fail
    with_reducible refine hck.mono ?_
    clear hck
    rintro x w1 ⟨rfl, hb1⟩
    go_wp2_with fail
    go_ret2
    exact ⟨HV.out ▸ rfl, hb1⟩
end Go.Proofs.YtinkpbobkeppiaaGreatDoor
end
