/- A row of lines of the law's own beside a block that stays; what Has tells of an operation's set. No condition. -/
import Derived.Test.YtcipgokcpankmaaDoorFew
import Derived.Laws.OwnMore
namespace Go.Proofs.YtcipgokcpankmaaDoor
open Go.RowKit Go.Deep Tr

/-- A row of lines, its place not that of the block behind w0's, which lies unchanged. -/
def Pts (w0 : World) (T : Obj) (n : Nat) (v : Value) (w : World) : Prop := ∃ (ys : List (List UInt8 × Int)) (gg cap : Nat), ys.length ≤ n ∧ v = .slice (some ⟨gg, 0, none⟩) ys.length cap ∧ gg ≠ w0.heap.size + 1 ∧ w.ownsRow w0.heap.size 25 2 v ys.length (Ls.lnsV ys) ∧ w.heap[w0.heap.size + 1]? = some T ∧ Below w0.heap.size w0 w
theorem Pts.more {w0 X w6 : World} {T o : Obj} {n gg cap g2 cap2 : Nat} {ys : List (List UInt8 × Int)} (zs : List (List UInt8 × Int)) (hz : zs.length = 4) (hn : ys.length ≤ n) (hne : gg ≠ w0.heap.size + 1) (hbX : Below w0.heap.size w0 X) (hTX : X.heap[w0.heap.size + 1]? = some T)
    (hoX : X.ownsRow w0.heap.size 25 2 (.slice (some ⟨gg, 0, none⟩) ys.length cap) ys.length (Ls.lnsV ys)) (hown6 : w6.ownsRow w0.heap.size 25 2 (.slice (some ⟨g2, 0, none⟩) (ys.length + 4) cap2) (ys.length + 4) (Ls.lnsV ys ++ Ls.lnsV zs))
    (hgrow : (X.alloc o).grownBy w6 (Value.slice (some ⟨gg, 0, none⟩) ys.length cap).ownBlock) (hat : (Value.slice (some ⟨gg, 0, none⟩) ys.length cap).ownBlock = some g2 ∨ g2 = X.heap.size + 1) : Pts w0 T (n + 4) (.slice (some ⟨g2, 0, none⟩) (ys.length + 4) cap2) w6 := by
  have hlt := blk_lt hTX
  have e : (ys ++ zs).length = ys.length + 4 := by rw [List.length_append, hz]
  refine ⟨ys ++ zs, g2, cap2, by omega, by rw [e], ?_, by rw [e, Ls.lnsV_app]; exact hown6, ?_, below_grown (hbX.alloc hbX.size o) (by simp; have := hbX.size; omega) (hoX.alloc o) hgrow⟩
  · rcases hat with h | h
    · simp only [Value.ownBlock, Option.some.injEq] at h
      omega
    · omega
  · rw [hgrow.block _ (by simp; omega) (by simp only [Value.ownBlock, ne_eq, Option.some.injEq]; omega), blk_alloc_lt _ _ _ hlt]
    exact hTX
theorem Pts.out {w0 w : World} {T : Obj} {n : Nat} {v : Value} (h : Pts w0 T n v w) : ∃ (ys : List (List UInt8 × Int)) (A : Option Addr) (c : Nat), v = .slice A ys.length c ∧ ys.length ≤ n ∧ Ls.LnAt w w.heap.size A ys ∧ Below w0.heap.size w0 w := by
  obtain ⟨ys, gg, cap, h1, h2, _, h4, _, h6⟩ := h
  obtain ⟨A, c, e, _, _, h7⟩ := Ls.own_el Ls.lnV 2 Ls.lnV_len h4
  exact ⟨ys, A, c, e, h1, h7, h6⟩
theorem Pts.le {w0 w : World} {T : Obj} {n m : Nat} {v : Value} (h : Pts w0 T n v w) (hm : n ≤ m) : Pts w0 T m v w := by
  obtain ⟨ys, gg, cap, h1, h2⟩ := h
  exact ⟨ys, gg, cap, by omega, h2⟩
theorem Pts.init (w0 : World) (x : List UInt8 × Int) (T : Obj) : Pts w0 T 1 (.slice (some ⟨w0.heap.size, 0, none⟩) 1 1) ((w0.alloc (.cells #[.string (str x.1), .int .i64 x.2] 25)).alloc T) := by
  have h1 : (w0.alloc (.cells #[.string (str x.1), .int .i64 x.2] 25)).heap.size = w0.heap.size + 1 := by simp
  refine ⟨[x], w0.heap.size, 1, by simp, rfl, by omega, (World.ownsRow_lit w0 #[.string (str x.1), .int .i64 x.2] 1 (Nat.le_refl _) (by unfold maxLen; omega) rfl).alloc T, ?_, ((Below.refl _ _).alloc (Nat.le_refl _) _).alloc (by simp) _⟩
  have := heap_alloc_new (w0.alloc (.cells #[.string (str x.1), .int .i64 x.2] 25)) T
  rwa [h1] at this
theorem hasV_comb {f : Bool → Bool → Bool} {a b u : List Ls.Sp} (ha : Ls.vld a = true) (hb : Ls.vld b = true) (h : Comb f a b u) (p : List UInt8) (m : Int) : Ls.hasV u p m = f (Ls.hasV a p m) (Ls.hasV b p m) := by
  unfold Ls.hasV
  rw [ha, hb, (Ls.vld_iff u).2 h.1, Bool.true_and, Bool.true_and, Bool.true_and, h.2.1]
end Go.Proofs.YtcipgokcpankmaaDoor
