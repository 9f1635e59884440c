/- Types of package path. -/
import Derived.Test.YtikmmheknfljkaaDoorAnyG
import Derived.Test.YtikmmheknfljkaaDoorProg
namespace Go.Proofs.YtikmmheknfljkaaDoor
open Go Go.RowKit
set_option maxRecDepth 100000 in
theorem un_u8 : Tryd.prog.underlying 5 = some (.int .u8) := Tryd.underlying5
set_option maxRecDepth 100000 in
theorem un_strT : Tryd.prog.underlying 9 = some .string := Tryd.underlying9
set_option maxRecDepth 100000 in
theorem un_strs : Tryd.prog.underlying 22 = some (.slice 9) := Tryd.underlying22
set_option maxRecDepth 100000 in
theorem un_pl : Tryd.prog.underlying 42 = some (.array 3 9) := Tryd.underlying42
set_option maxRecDepth 100000 in
theorem made_str : (Tryd.prog.info? 9).map (fun i => (i.zero, i.size, i.bytes)) = some (some (.string ByteArray.empty), 1, 16) := by kernel_rfl
set_option maxRecDepth 100000 in
theorem info_str : (Tryd.prog.info? 9).map (fun i => (i.zero, i.size)) = some (some (.string ByteArray.empty), 1) := by kernel_rfl
set_option maxRecDepth 100000 in
theorem sz_str : (Tryd.prog.info? 9).map (·.size) = some 1 := by kernel_rfl
set_option maxRecDepth 100000 in
theorem ag_str : ∀ w, (isAgg 9).run Tryd.prog w = .ok false w := by intro w; simp [go_sem]
set_option maxRecDepth 100000 in
theorem info_pl : (Tryd.prog.info? 42).map (fun i => (i.zero, i.size)) = some (some (.agg [.string ByteArray.empty, .string ByteArray.empty, .string ByteArray.empty].toArray), 3) := by kernel_rfl
set_option maxRecDepth 100000 in
theorem zero_pl : ∀ w, (zeroValue 42).run Tryd.prog w = .ok (.agg [.string ByteArray.empty, .string ByteArray.empty, .string ByteArray.empty].toArray) w := (zero_of_info info_pl).1
set_option maxRecDepth 100000 in
theorem sz_pl : (Tryd.prog.info? 42).map (·.size) = some 3 := (zero_of_info info_pl).2
end Go.Proofs.YtikmmheknfljkaaDoor
