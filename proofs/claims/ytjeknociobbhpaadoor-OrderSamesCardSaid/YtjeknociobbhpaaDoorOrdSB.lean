/-
  The table of powers of ten, out of the card.
-/
import Derived.Test.YtjeknociobbhpaaDoorRows
import Derived.Test.YtjeknociobbhpaaDoorChecked
import Derived.Lib.LaidTab
import Derived.Lib.AppendIntMem
import Derived.Lib.ItoaNum
import Derived.Stop.LaidErr
namespace Go.Proofs.YtjeknociobbhpaaDoor.Ord
open Go.RowKit
set_option maxRecDepth 100000 in
/-- The table holds what its initialiser lays. -/
theorem pow_tab {W : World} (h : laidMetH Tryd.prog [("math/bits.deBruijn32tab", Rows.laid_math_bits_deBruijn32tab), ("math/bits.deBruijn64tab", Rows.laid_math_bits_deBruijn64tab), ("internal/strconv.uint64pow10", Rows.laid_internal_strconv_uint64pow10)] W) : Lib.TabIs Tryd.prog W "internal/strconv.uint64pow10" .u64 Lib.pow10Tab := by
  have h1 : laidMet Tryd.prog [("internal/strconv.uint64pow10", Lib.tabData .u64 Lib.pow10Tab)] W := laidMet.tail (laidMet.tail h)
  have hg : Tryd.prog.globalNamed "internal/strconv.uint64pow10" = some 0 := by kernel_rfl
  exact Lib.tabIs_of_head hg (t := 100) (e := 89) (n := 20) (by kernel_rfl) (by kernel_rfl) (by kernel_rfl) (by kernel_rfl) (by kernel_rfl) h1
/-- .. and so in each world that a call of the law's leaves. -/
theorem pow_below {W : World} (h : Lib.TabIs Tryd.prog W "internal/strconv.uint64pow10" .u64 Lib.pow10Tab) {s : Nat} (hs : W.heap.size ≤ s) {w : World} (b : Below W.heap.size W w) : Lib.TabBelow Tryd.prog s w "internal/strconv.uint64pow10" .u64 Lib.pow10Tab :=
  fun w' hb => Lib.tabBelow_of_tabIs h w' (b.trans (hb.mono hs))
end Go.Proofs.YtjeknociobbhpaaDoor.Ord
