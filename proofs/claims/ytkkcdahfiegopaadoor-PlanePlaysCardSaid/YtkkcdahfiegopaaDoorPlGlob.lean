/-
  The package variables that planes read: out of what a card lists of them, and of the world's shape.
-/
import Derived.Test.YtkkcdahfiegopaaDoorPlJ
import Derived.Test.YtkkcdahfiegopaaDoorPlKA
import Derived.LaidMore
import Derived.LaidHandle
import Derived.Lib.LaidU8T
import Derived.Test.YtkkcdahfiegopaaDoorRows
namespace Go.Proofs.YtkkcdahfiegopaaDoor.Pl
open Go.RowKit Go.Shelf Base
set_option linter.unusedVariables false

set_option maxRecDepth 100000 in
theorem glob_of {w : World} (hH : laidMetH Tryd.prog [("unicode/utf8.acceptRanges", Rows.laid_unicode_utf8_acceptRanges), ("unicode/utf8.first", Rows.laid_unicode_utf8_first)] w) (hS : w.ShapedOpen Tryd.prog) : Glob w := by
  have hL : laidMet Tryd.prog [("unicode/utf8.acceptRanges", Rows.laid_unicode_utf8_acceptRanges), ("unicode/utf8.first", Rows.laid_unicode_utf8_first)] w := hH
  exact ⟨utf8Tabs_of_readsT (U8Types.of196 lays196) ⟨by kernel_rfl, by kernel_rfl, by kernel_rfl, by kernel_rfl, by kernel_rfl, by kernel_rfl, by kernel_rfl⟩ (Lib.laidMet.reads hL (.tail _ (.head _))) (Lib.laidMet.reads hL (.head _)), Tryd.laysM219.s1_3 w hS⟩
end Go.Proofs.YtkkcdahfiegopaaDoor.Pl
