/- What mounting does to a tree, plain. No condition. -/
import Derived.Test.YtjgjkbkpdpacnaaGreatDoorWk2
namespace Go.Proofs.YtjgjkbkpdpacnaaGreatDoor

theorem less_pre (c a b : List UInt8) : Op.bytesLess (c ++ a) (c ++ b) = Op.bytesLess a b := by
  induction c with
  | nil => rfl
  | cons x c ih => simp [Op.bytesLess, ih]
theorem below_mount (d a b : List UInt8) : Tre.below (d ++ 47 :: a) (d ++ 47 :: b) = Tre.below a b := by
  have e : ∀ x : List UInt8, d ++ 47 :: x = (d ++ [47]) ++ x := fun x => by simp
  rw [e a, e b]
  generalize d ++ [47] = q
  rw [Bool.eq_iff_iff, below_pre, below_pre]
  unfold Lib.hasPrefix
  simp only [Bool.and_eq_true, List.isPrefixOf_iff_prefix, List.prefix_append_right_inj]
  rw [List.length_append, List.drop_append, List.drop_of_length_le (show q.length ≤ q.length + b.length by omega), List.nil_append, show q.length + b.length - q.length = b.length by omega]
theorem eq_mount (d a b : List UInt8) : ((d ++ 47 :: a) == (d ++ 47 :: b)) = (a == b) := by
  rw [Bool.eq_iff_iff]; simp
theorem check_mount (d : List UInt8) (ts seen : List Tre.Fl) (h : Tre.checkAt seen ts = 0) :
    Tre.checkAt (seen.map (mountF d)) (ts.map (mountF d)) = if (ts.all fun f => Tre.pathOk (mountF d f).path) = true then 0 else 2 := by
  induction ts generalizing seen with
  | nil => rfl
  | cons f t ih =>
    rw [Tre.checkAt_cons] at h
    split at h
    · cases h
    · split at h
      · cases h
      · split at h
        · cases h
        · split at h
          · cases h
          · rename_i h1 h2 h3 h4
            rw [List.map_cons, Tre.checkAt_cons, List.all_cons]
            cases hp : Tre.pathOk (mountF d f).path with
            | false => simp
            | true =>
              have h2' : ¬ 65536 < (mountF d f).data.length := h2
              have h3' : ¬ ((seen.map (mountF d)).getLast?.any fun g => Op.bytesLess (mountF d f).path g.path || (mountF d f).path == g.path) = true := by
                rw [List.getLast?_map]
                intro e
                apply h3
                cases hg : seen.getLast? with
                | none => rw [hg] at e; cases e
                | some g =>
                  rw [hg] at e
                  simp only [Option.map_some, Option.any_some, mountF, less_pre, eq_mount] at e ⊢
                  have e2 : Op.bytesLess (47 :: f.path) (47 :: g.path) = Op.bytesLess f.path g.path := less_pre [47] _ _
                  rw [e2] at e
                  exact e
              have h4' : ¬ ((seen.map (mountF d)).any fun g => Tre.below (mountF d f).path g.path) = true := by
                rw [List.any_map]
                intro e
                apply h4
                rw [← e]
                congr 1
                funext g
                exact (below_mount d f.path g.path).symm
              rw [if_neg (by decide), if_neg h2', if_neg h3', if_neg h4', Bool.true_and]
              have := ih (seen ++ [f]) h
              rw [List.map_append] at this
              exact this
end Go.Proofs.YtjgjkbkpdpacnaaGreatDoor
