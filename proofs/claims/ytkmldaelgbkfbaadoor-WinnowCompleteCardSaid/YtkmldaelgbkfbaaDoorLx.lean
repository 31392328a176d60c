/- Words where they lie. No condition. -/
import Derived.Test.YtkmldaelgbkfbaaDoorPow
import Derived.Deep.OwnRows
import Derived.Deep.RegionLaw
import Derived.Laws.OwnMore
import Derived.Deep.DeepAppendWide
namespace Go.Proofs.YtkmldaelgbkfbaaDoor
open Go.RowKit Go.Deep
namespace Rl
theorem blk_lt {w : World} {q : Nat} {o : Obj} (h : w.heap[q]? = some o) : q < w.heap.size := (Array.getElem?_eq_some_iff.1 h).1
theorem addr_addS (g o j : Nat) : (⟨g, o, none⟩ : Addr).add j = ⟨g, o + j, none⟩ := by simp [Addr.add]
/-- A word. -/
structure Lx where
  tx : List UInt8
  ln : Int
def lxV (x : Lx) : List Value := [.string (str x.tx), .int .i64 x.ln]
def lxsV (l : List Lx) : List Value := l.flatMap lxV
def inV (n : Int) : List Value := [.int .i64 n]
def insV (l : List Int) : List Value := l.flatMap inV
theorem insV_map (l : List Int) : insV l = l.map fun n => Value.int .i64 n := by
  induction l with
  | nil => rfl
  | cons x t ih => show inV x ++ insV t = _; rw [ih]; rfl
theorem insV_len (l : List Int) : (insV l).length = l.length := by rw [insV_map, List.length_map]
theorem insV_app (a b : List Int) : insV (a ++ b) = insV a ++ insV b := List.flatMap_append
theorem insV_one (n : Int) : insV [n] = [.int .i64 n] := rfl
theorem insV_ones (l : List Int) : ∀ u ∈ insV l, u.oneCell' = true := fun u hu => by
  rw [insV_map, List.mem_map] at hu
  obtain ⟨n, _, rfl⟩ := hu
  rfl
/-- Words where they lie, below B. -/
def LxAt (w : World) (B : Nat) (A : Option Addr) (l : List Lx) : Prop := ∀ j (h : j < l.length), ∃ g o, A = some ⟨g, o, none⟩ ∧ g < B ∧ w.cell? ⟨g, o + j * 2, none⟩ = some (.string (str l[j].tx)) ∧ w.cell? ⟨g, o + j * 2 + 1, none⟩ = some (.int .i64 l[j].ln)
theorem LxAt.next {w w' : World} {A : Option Addr} {l : List Lx} (h : LxAt w w.heap.size A l) (hb : Below w.heap.size w w') : LxAt w' w'.heap.size A l := fun j hj => by
  obtain ⟨g, o, e, hg, h0, h1⟩ := h j hj
  exact ⟨g, o, e, Nat.lt_of_lt_of_le hg hb.size, (hb.cell (p := ⟨g, o + j * 2, none⟩) hg).trans h0, (hb.cell (p := ⟨g, o + j * 2 + 1, none⟩) hg).trans h1⟩
theorem LxAt.nil (w : World) (B : Nat) (A : Option Addr) : LxAt w B A [] := fun j hj => by simp at hj
/-- A part of the words. -/
theorem LxAt.part {w : World} {B g o : Nat} {l : List Lx} (h : LxAt w B (some ⟨g, o, none⟩) l) (a n : Nat) : LxAt w B (some ⟨g, o + a * 2, none⟩) ((l.drop a).take n) := fun j hj => by
  rw [List.length_take, List.length_drop] at hj
  obtain ⟨g', o', e, hg, h0, h1⟩ := h (a + j) (by omega)
  cases e
  refine ⟨_, _, rfl, hg, ?_, ?_⟩
  · rw [show o + a * 2 + j * 2 = o + (a + j) * 2 by omega, List.getElem_take, List.getElem_drop]; exact h0
  · rw [show o + a * 2 + j * 2 + 1 = o + (a + j) * 2 + 1 by omega, List.getElem_take, List.getElem_drop]; exact h1
/-- The texts of words. -/
def txs (l : List Lx) : List (List UInt8) := l.map (·.tx)
theorem txs_take (l : List Lx) (k : Nat) (h : k < l.length) : txs (l.take (k + 1)) = txs (l.take k) ++ [l[k].tx] := by
  unfold txs
  rw [List.take_succ_eq_append_getElem h, List.map_append]
  rfl
/-- Words whose texts are short enough for a string. -/
def Sht (l : List Lx) : Prop := ∀ x ∈ l, x.tx.length ≤ 1000000000
set_option maxHeartbeats 4000000 in
set_option maxRecDepth 100000 in
theorem hash_any (l : List Lx) (A : Option Addr) (c : Nat) (w : World) (hA : LxAt w w.heap.size A l) (hl : l.length ≤ 100000) (hs : Sht l) :
    Calls Tryd.prog 15 #[.slice A l.length c] w fun e w' => e = .returned (.int .i64 (hash (txs l) : Int)) ∧ Below w.heap.size w w' := by
  have HAA := Lib.hid hA
  have HS := Lib.hid hs
  clear hA hs
  go_enter Tryd.func15, Tryd.ntmps15
  go_wp2_with fail
  go_loopw [3, 8] (fun s3 s8 wr => ∃ k : Nat, s8 = .int .i64 k ∧ k ≤ l.length ∧ s3 = .int .i64 (hash (txs (l.take k)) : Int) ∧ Below w.heap.size w wr) (fun _ s8 _ => l.length - (intOf s8).toNat)
  case atStart => exact ⟨0, rfl, by omega, by rw [List.take_zero]; rfl, Below.refl _ _⟩
  case round =>
    obtain ⟨k, rfl, hk, rfl, hb⟩ := hrel
    have hh := hash_lt (txs (l.take k))
    by_cases hlt : k < l.length
    · have b1 : decide ((k : Int) < (l.length : Int)) = true := decide_eq_true (by omega)
      have b1n : decide (k < l.length) = true := decide_eq_true hlt
      have y2 : (k : Int) < (l.length : Int) := by omega
      have HT := Lib.hid (show hash (txs (l.take (k + 1))) = (hash (txs (l.take k)) * B + code l[k].tx + 1) % P by rw [txs_take l k hlt, hash_snoc]; rfl)
      have hz := HS.out l[k] (List.getElem_mem hlt)
      obtain ⟨g0, o, rfl, hg, hd0, hd1⟩ := (HAA.out.next hb) k hlt
      generalize l[k] = x at *
      obtain ⟨t, n⟩ := x
      dsimp only [] at hd0 hd1 HT hz
      have hcl := code_lt t
      have c1 := code_any (str t) (wr.alloc (.cells #[.string (str t), .int .i64 n] 52 (0, 0))) (by rw [str_size]; exact hz)
      have HBA := Lib.hid (show Below w.heap.size w (wr.alloc (.cells #[.string (str t), .int .i64 n] 52 (0, 0))) from hb.trans ((Below.refl _ _).alloc hb.size _))
      have c2 := extend_B (hash (txs (l.take k))) (code t) hh hcl (wr.alloc (.cells #[.string (str t), .int .i64 n] 52 (0, 0)))
      generalize (hash (txs (l.take k)) * B + code t + 1) % P = h2 at *
      generalize hash (txs (l.take k)) = h1 at *
      rw [show (str t).data.toList = t from rfl] at c1
      generalize code t = ct at *
      clear hz hh hcl hb
      go_wp2_with (first
        | (go_at_call 30; (with_reducible refine c1.mono ?_); rintro e w' ⟨rfl, rfl⟩)
        | (go_at_call 29; (with_reducible refine c2.mono ?_); rintro e w' ⟨rfl, rfl⟩))
      go_roundw
      case rel => exact ⟨k + 1, by go_num, by omega, by rw [HT.out], HBA.out⟩
      case measure => simp [intOf]; omega
    · have b1 : decide ((k : Int) < (l.length : Int)) = false := decide_eq_false (by omega)
      have b1n : decide (k < l.length) = false := decide_eq_false hlt
      have HB := Lib.hid hb
      have HR := Lib.hid (show hash (txs (l.take k)) = hash (txs l) by rw [List.take_of_length_le (by omega)])
      generalize hash (txs (l.take k)) = h1 at *
      clear hb hh
      go_wp2_with fail
      go_ret
      exact ⟨ret_int (by rw [HR.out]), HB.out⟩
end Rl
end Go.Proofs.YtkmldaelgbkfbaaDoor
