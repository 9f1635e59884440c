/- Types of package term. -/
import Derived.Test.YtbiinchmbclmcaaDoorAnyG
import Derived.Test.YtbiinchmbclmcaaDoorProg
namespace Go.Proofs.YtbiinchmbclmcaaDoor
open Go Go.RowKit
set_option maxRecDepth 100000 in
theorem un_u8 : Tryd.prog.underlying 5 = some (.int .u8) := Tryd.underlying5
set_option maxRecDepth 100000 in
theorem un_int : Tryd.prog.underlying 3 = some (.int .i64) := Tryd.underlying3
set_option maxRecDepth 100000 in
theorem un_strT : Tryd.prog.underlying 9 = some .string := Tryd.underlying9
set_option maxRecDepth 100000 in
theorem un_strs : Tryd.prog.underlying 73 = some (.slice 9) := Tryd.underlying73
set_option maxRecDepth 100000 in
theorem un_terms : Tryd.prog.underlying 22 = some (.slice 24) := Tryd.underlying22
set_option maxRecDepth 100000 in
theorem un_term : ∃ fs, Tryd.prog.underlying 24 = some (.struct fs) := ⟨_, Tryd.underlying24⟩
set_option maxRecDepth 100000 in
theorem un_form : ∃ fs, Tryd.prog.underlying 57 = some (.struct fs) := ⟨_, Tryd.underlying57⟩
set_option maxRecDepth 100000 in
theorem un_rd : ∃ fs, Tryd.prog.underlying 53 = some (.struct fs) := ⟨_, Tryd.underlying53⟩
set_option maxRecDepth 100000 in
theorem made_str : (Tryd.prog.info? 9).map (fun i => (i.zero, i.size, i.bytes)) = some (some (.string ByteArray.empty), 1, 16) := by kernel_rfl
set_option maxRecDepth 100000 in
theorem made_term : (Tryd.prog.info? 24).map (fun i => (i.zero, i.size, i.bytes)) = some (some (.agg [.int .i64 0, .int .i64 0, .slice none 0 0].toArray), 3, 40) := by kernel_rfl
set_option maxRecDepth 100000 in
theorem info_str : (Tryd.prog.info? 9).map (fun i => (i.zero, i.size)) = some (some (.string ByteArray.empty), 1) := by kernel_rfl
set_option maxRecDepth 100000 in
theorem info_u8 : (Tryd.prog.info? 5).map (fun i => (i.zero, i.size)) = some (some (.int .u8 0), 1) := by kernel_rfl
set_option maxRecDepth 100000 in
theorem info_int : (Tryd.prog.info? 3).map (fun i => (i.zero, i.size)) = some (some (.int .i64 0), 1) := by kernel_rfl
set_option maxRecDepth 100000 in
theorem info_term : (Tryd.prog.info? 24).map (fun i => (i.zero, i.size)) = some (some (.agg [.int .i64 0, .int .i64 0, .slice none 0 0].toArray), 3) := by kernel_rfl
set_option maxRecDepth 100000 in
theorem info_form : (Tryd.prog.info? 57).map (fun i => (i.zero, i.size)) = some (some (.agg [.string ByteArray.empty, .bool false, .int .i64 0].toArray), 3) := by kernel_rfl
set_option maxRecDepth 100000 in
theorem info_rd : (Tryd.prog.info? 53).map (fun i => (i.zero, i.size)) = some (some (.agg [.string ByteArray.empty, .int .i64 0].toArray), 2) := by kernel_rfl
set_option maxRecDepth 100000 in
theorem zero_term : ∀ w, (zeroValue 24).run Tryd.prog w = .ok (.agg [.int .i64 0, .int .i64 0, .slice none 0 0].toArray) w := (zero_of_info info_term).1
set_option maxRecDepth 100000 in
theorem zero_form : ∀ w, (zeroValue 57).run Tryd.prog w = .ok (.agg [.string ByteArray.empty, .bool false, .int .i64 0].toArray) w := (zero_of_info info_form).1
set_option maxRecDepth 100000 in
theorem zero_rd : ∀ w, (zeroValue 53).run Tryd.prog w = .ok (.agg [.string ByteArray.empty, .int .i64 0].toArray) w := (zero_of_info info_rd).1
set_option maxRecDepth 100000 in
theorem sz_u8 : (Tryd.prog.info? 5).map (·.size) = some 1 := by kernel_rfl
set_option maxRecDepth 100000 in
theorem sz_int : (Tryd.prog.info? 3).map (·.size) = some 1 := by kernel_rfl
set_option maxRecDepth 100000 in
theorem sz_bool : (Tryd.prog.info? 4).map (·.size) = some 1 := by kernel_rfl
set_option maxRecDepth 100000 in
theorem sz_str : (Tryd.prog.info? 9).map (·.size) = some 1 := by kernel_rfl
set_option maxRecDepth 100000 in
theorem sz_terms : (Tryd.prog.info? 22).map (·.size) = some 1 := by kernel_rfl
set_option maxRecDepth 100000 in
theorem sz_term : (Tryd.prog.info? 24).map (·.size) = some 3 := (zero_of_info info_term).2
set_option maxRecDepth 100000 in
theorem sz_form : (Tryd.prog.info? 57).map (·.size) = some 3 := (zero_of_info info_form).2
set_option maxRecDepth 100000 in
theorem sz_rd : (Tryd.prog.info? 53).map (·.size) = some 2 := (zero_of_info info_rd).2
set_option maxRecDepth 100000 in
theorem ag_u8 : ∀ w, (isAgg 5).run Tryd.prog w = .ok false w := by intro w; simp [go_sem]
set_option maxRecDepth 100000 in
theorem ag_int : ∀ w, (isAgg 3).run Tryd.prog w = .ok false w := by intro w; simp [go_sem]
set_option maxRecDepth 100000 in
theorem ag_bool : ∀ w, (isAgg 4).run Tryd.prog w = .ok false w := by intro w; simp [go_sem]
set_option maxRecDepth 100000 in
theorem ag_str : ∀ w, (isAgg 9).run Tryd.prog w = .ok false w := by intro w; simp [go_sem]
set_option maxRecDepth 100000 in
theorem ag_terms : ∀ w, (isAgg 22).run Tryd.prog w = .ok false w := by intro w; simp [go_sem]
end Go.Proofs.YtbiinchmbclmcaaDoor
