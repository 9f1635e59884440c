import Derived.Test.YtlpnafdkhoimhaaGreatDoorQr07
import Derived.Test.YtlpnafdkhoimhaaGreatDoorQr09
import Derived.Shelf.Vars
set_option maxRecDepth 100000
set_option maxHeartbeats 4000000
namespace Go.Proofs.YtlpnafdkhoimhaaGreatDoor
open Go Go.ChangeShapes Go.WideShapes Go.ChangeAt Go.RowKit
theorem j3 {W:World} (h:W.ShapedOpen Tryz.prog):MaxL W :=
 cell_of_shapedOpen_int (P:=Tryz.prog) (g:=1) (t:=3) (zero:=#[.int .i64 0]) h (of_decide_eq_true (by kernel_rfl)) (by kernel_rfl) rfl (by kernel_rfl) (by kernel_rfl) Tryz.underlying3
theorem ir {W:World} (h:laidMetH Tryz.prog Rows.ringRootRow.laid W):Tab W :=
 tab_of (Rows.ringRootRow.named.headD default) (by kernel_rfl) (Lib.tabIs_of_head (by kernel_rfl) table_type un_w64 Tryz.underlying69 cells_u32 cells_w64 (ju (show laidMet Tryz.prog Rows.ringRootRow.laid W from h)))
theorem gE {W:World} (h:laidMetH Tryz.prog Rows.ringRootRow.laid W):QTab W :=
 qtab_of (Rows.ringRootRow.named.getLastD default) (by kernel_rfl) (ju (ju (show laidMet Tryz.prog Rows.ringRootRow.laid W from h)))
end Go.Proofs.YtlpnafdkhoimhaaGreatDoor
