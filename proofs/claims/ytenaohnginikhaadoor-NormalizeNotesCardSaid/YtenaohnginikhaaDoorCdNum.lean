/- Number and Text return the bytes of a number and of a text, or the error. Condition: the library's table of powers of ten lies in its variable. -/
import Derived.Test.YtenaohnginikhaaDoorCdCod
import Derived.Test.YtenaohnginikhaaDoorShelf
import Derived.Test.YtenaohnginikhaaDoorRows
import Derived.WalkKit
import Derived.WalkSpells
import Derived.WalkLawsBesides
import Derived.Lib.Hide
import Derived.Lib.AppendIntMem
import Derived.Lib.ItoaLen
import Derived.Deep.DeepCutAuto
import Derived.Deep.LoopGhost
namespace Go.Proofs.YtenaohnginikhaaDoor.Cd
open Go.RowKit

/-- The library's table lies where the text lays it. -/
def Tabs (w : World) : Prop := Lib.TabIs Tryd.prog w "internal/strconv.uint64pow10" .u64 Lib.pow10Tab
theorem Tabs.below {w w' : World} (h : Tabs w) (hb : Below w.heap.size w w') : Tabs w' := by
  unfold Tabs Lib.TabIs World.var? at *
  cases hg : Tryd.prog.globalNamed "internal/strconv.uint64pow10" with
  | none => simp [hg] at h
  | some g =>
    simp only [hg, Option.bind_some] at h ⊢
    have hlt : g < w.heap.size := by
      rcases Nat.lt_or_ge g w.heap.size with h' | h'
      · exact h'
      · rw [Array.getElem?_eq_none h'] at h; simp at h
    rw [hb.block g hlt]
    exact h
/-- Bytes as a string. -/
def str (l : List UInt8) : ByteArray := ⟨l.toArray⟩
theorem str_data (l : List UInt8) : (str l).data.toList = l := rfl
theorem str_app (a b : List UInt8) : str a ++ str b = str (a ++ b) := by
  apply ByteArray.ext; simp [str]
theorem str_size (l : List UInt8) : (str l).size = l.length := by show l.toArray.size = _; simp
theorem dec_len (n : Nat) (h : n ≤ 9223372036854775807) : (Lib.decDigits n).length ≤ 21 := by
  have := Lib.itoa_length_le (n : Int) (by omega) (by omega)
  rwa [Lib.itoa_nonneg] at this
theorem itoa_any (n : Nat) (hn : n ≤ 9223372036854775807) (w : World) (hT : Tabs w) :
    Calls Tryd.prog 73 #[.int .i64 (n : Int)] w fun e w' => e = .returned (.string (str (Lib.decDigits n))) ∧ Below w.heap.size w w' :=
  (Tryd.strconv_Itoa (n : Int) (by omega) (by omega) w hT).mono fun e w' ⟨h1, k, os, h2⟩ => ⟨by rw [h1, Lib.itoa_nonneg]; rfl, by rw [h2]; exact Lib.below_grow _ w (Nat.le_refl _) k os⟩

/-- What Number returns. -/
def numV (n : Int) : Value := if n < 0 ∨ 281474976710656 < n then .tuple #[.string ⟨#[]⟩, .int .i64 3] else .tuple #[.string (str (Cod.num n.toNat)), .int .i64 0]
end Go.Proofs.YtenaohnginikhaaDoor.Cd
