/- Which strings are symbols, which are keywords. No condition. -/
import Derived.Test.YtndehkoglgakpaaGreatDoorLet
namespace Go.Proofs.YtndehkoglgakpaaGreatDoor
open Go.RowKit
namespace Tok
def kwsL : List (List UInt8) := [[108, 101, 116], [115, 101, 116], [105, 102], [101, 108, 115, 101], [119, 104, 105, 108, 101], [114, 101, 116, 117, 114, 110], [100, 111], [111, 117, 116], [115, 116, 111, 114, 101], [108, 111, 97, 100], [105, 110], [105, 110, 99, 108, 117, 100, 101], [100, 101, 102, 105, 110, 101], [117, 110, 100, 101, 102], [119, 104, 101, 110], [117, 110, 108, 101, 115, 115], [110, 111, 116, 101], [101, 120, 116, 101, 114, 110], [101, 120, 112, 111, 114, 116], [119, 101, 97, 107], [102, 110], [100, 97, 116, 97]]
def isKw (l : List UInt8) : Bool := kwsL.contains l
end Tok
set_option maxHeartbeats 4000000 in
set_option maxRecDepth 100000 in
theorem sym_any (s : ByteArray) (w : World) :
    Calls Tryz.prog 73 #[.string s] w fun e w' => e = .returned (.bool (Tok.isSym s.data.toList)) ∧ w = w' := by
  have HV := Lib.hid (show Tok.isSym s.data.toList = Tok.isSym s.toList by rw [ByteArray.toList_eq])
  generalize Tok.isSym s.data.toList = v at *
  go_enter Tryz.func73, Tryz.ntmps73
  go_wp2
  all_goals
    go_ret
    refine ⟨ret_bool (Eq.trans ?_ HV.out.symm), rfl⟩
    clear HV
    generalize s.toList = x at *
    simp_all [Tok.isSym, Tok.symsL]
set_option maxHeartbeats 4000000 in
set_option maxRecDepth 100000 in
theorem kw_any (s : ByteArray) (w : World) :
    Calls Tryz.prog 86 #[.string s] w fun e w' => e = .returned (.bool (Tok.isKw s.data.toList)) ∧ w = w' := by
  have HV := Lib.hid (show Tok.isKw s.data.toList = Tok.isKw s.toList by rw [ByteArray.toList_eq])
  generalize Tok.isKw s.data.toList = v at *
  go_enter Tryz.func86, Tryz.ntmps86
  go_wp2
  all_goals
    go_ret
    refine ⟨ret_bool (Eq.trans ?_ HV.out.symm), rfl⟩
    clear HV
    generalize s.toList = x at *
    simp_all [Tok.isKw, Tok.kwsL]
end Go.Proofs.YtndehkoglgakpaaGreatDoor
