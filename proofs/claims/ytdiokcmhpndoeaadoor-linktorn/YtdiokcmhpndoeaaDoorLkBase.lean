
/- The program's table out of the row's list. -/
import Derived.Test.YtdiokcmhpndoeaaDoorLkSum
namespace Go.Proofs.YtdiokcmhpndoeaaDoor
open Go.RowKit
theorem gNibType : (Tryd.prog.globals[0]?).map (·.type) = some 52 := by kernel_rfl
theorem cellsNib : Tryd.prog.cellsOf 52 = 16 := by kernel_rfl
theorem cellsU32 : Tryd.prog.cellsOf 24 = 1 := by kernel_rfl
theorem lkEnv {W : World} {l : List (String × DataW Unit)} (hl : l = [("tidemill/link.nibbleSums", Lib.tabData .u32 (Lk.tab.map fun n : Nat => (n : Int)))]) (h : laidMet Tryd.prog l W) : LkEnv W := by
  subst hl
  exact LkEnv.of_tab (Lib.tabIs_of_head (rest := []) gNib gNibType Tryd.underlying52 Tryd.underlying24 cellsU32 cellsNib h)
end Go.Proofs.YtdiokcmhpndoeaaDoor
