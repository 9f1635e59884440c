/- Types of package term. -/
import Derived.Test.YtbphmcbflnaenaaDoorAnyG
import Derived.Test.YtbphmcbflnaenaaDoorProg
namespace Go.Proofs.YtbphmcbflnaenaaDoor
open Go Go.RowKit
set_option maxRecDepth 100000 in
theorem un_u8 : Tryd.prog.underlying 5 = some (.int .u8) := Tryd.underlying5
set_option maxRecDepth 100000 in
theorem un_int : Tryd.prog.underlying 3 = some (.int .i64) := Tryd.underlying3
set_option maxRecDepth 100000 in
theorem un_strT : Tryd.prog.underlying 9 = some .string := Tryd.underlying9
set_option maxRecDepth 100000 in
theorem un_strs : Tryd.prog.underlying 73 = some (.slice 9) := Tryd.underlying73
set_option maxRecDepth 100000 in
theorem un_terms : Tryd.prog.underlying 22 = some (.slice 24) := Tryd.underlying22
set_option maxRecDepth 100000 in
theorem un_term : ∃ fs, Tryd.prog.underlying 24 = some (.struct fs) := ⟨_, Tryd.underlying24⟩
set_option maxRecDepth 100000 in
theorem un_form : ∃ fs, Tryd.prog.underlying 66 = some (.struct fs) := ⟨_, Tryd.underlying66⟩
set_option maxRecDepth 100000 in
theorem un_rd : ∃ fs, Tryd.prog.underlying 59 = some (.struct fs) := ⟨_, Tryd.underlying59⟩
set_option maxRecDepth 100000 in
theorem un_rdR : ∃ fs, Tryd.prog.underlying 63 = some (.struct fs) := ⟨_, Tryd.underlying63⟩
set_option maxRecDepth 100000 in
theorem made_str : (Tryd.prog.info? 9).map (fun i => (i.zero, i.size, i.bytes)) = some (some (.string ByteArray.empty), 1, 16) := by kernel_rfl
set_option maxRecDepth 100000 in
theorem made_term : (Tryd.prog.info? 24).map (fun i => (i.zero, i.size, i.bytes)) = some (some (.agg [.int .i64 0, .int .i64 0, .slice none 0 0].toArray), 3, 40) := by kernel_rfl
set_option maxRecDepth 100000 in
theorem info_str : (Tryd.prog.info? 9).map (fun i => (i.zero, i.size)) = some (some (.string ByteArray.empty), 1) := by kernel_rfl
set_option maxRecDepth 100000 in
theorem info_u8 : (Tryd.prog.info? 5).map (fun i => (i.zero, i.size)) = some (some (.int .u8 0), 1) := by kernel_rfl
set_option maxRecDepth 100000 in
theorem info_int : (Tryd.prog.info? 3).map (fun i => (i.zero, i.size)) = some (some (.int .i64 0), 1) := by kernel_rfl
set_option maxRecDepth 100000 in
theorem info_term : (Tryd.prog.info? 24).map (fun i => (i.zero, i.size)) = some (some (.agg [.int .i64 0, .int .i64 0, .slice none 0 0].toArray), 3) := by kernel_rfl
set_option maxRecDepth 100000 in
theorem info_form : (Tryd.prog.info? 66).map (fun i => (i.zero, i.size)) = some (some (.agg [.string ByteArray.empty, .bool false, .int .i64 0].toArray), 3) := by kernel_rfl
set_option maxRecDepth 100000 in
theorem info_rd : (Tryd.prog.info? 59).map (fun i => (i.zero, i.size)) = some (some (.agg [.string ByteArray.empty, .int .i64 0].toArray), 2) := by kernel_rfl
set_option maxRecDepth 100000 in
theorem info_rdR : (Tryd.prog.info? 63).map (fun i => (i.zero, i.size)) = some (some (.agg [.string ByteArray.empty, .int .i64 0, .bool false].toArray), 3) := by kernel_rfl
set_option maxRecDepth 100000 in
theorem zero_term : ∀ w, (zeroValue 24).run Tryd.prog w = .ok (.agg [.int .i64 0, .int .i64 0, .slice none 0 0].toArray) w := (zero_of_info info_term).1
set_option maxRecDepth 100000 in
theorem zero_form : ∀ w, (zeroValue 66).run Tryd.prog w = .ok (.agg [.string ByteArray.empty, .bool false, .int .i64 0].toArray) w := (zero_of_info info_form).1
set_option maxRecDepth 100000 in
theorem zero_rd : ∀ w, (zeroValue 59).run Tryd.prog w = .ok (.agg [.string ByteArray.empty, .int .i64 0].toArray) w := (zero_of_info info_rd).1
set_option maxRecDepth 100000 in
theorem sz_u8 : (Tryd.prog.info? 5).map (·.size) = some 1 := by kernel_rfl
set_option maxRecDepth 100000 in
theorem sz_int : (Tryd.prog.info? 3).map (·.size) = some 1 := by kernel_rfl
set_option maxRecDepth 100000 in
theorem sz_bool : (Tryd.prog.info? 4).map (·.size) = some 1 := by kernel_rfl
set_option maxRecDepth 100000 in
theorem sz_str : (Tryd.prog.info? 9).map (·.size) = some 1 := by kernel_rfl
set_option maxRecDepth 100000 in
theorem sz_terms : (Tryd.prog.info? 22).map (·.size) = some 1 := by kernel_rfl
set_option maxRecDepth 100000 in
theorem sz_term : (Tryd.prog.info? 24).map (·.size) = some 3 := (zero_of_info info_term).2
set_option maxRecDepth 100000 in
theorem sz_form : (Tryd.prog.info? 66).map (·.size) = some 3 := (zero_of_info info_form).2
set_option maxRecDepth 100000 in
theorem sz_rd : (Tryd.prog.info? 59).map (·.size) = some 2 := (zero_of_info info_rd).2
set_option maxRecDepth 100000 in
theorem sz_rdR : (Tryd.prog.info? 63).map (·.size) = some 3 := (zero_of_info info_rdR).2
set_option maxRecDepth 100000 in
theorem ag_u8 : ∀ w, (isAgg 5).run Tryd.prog w = .ok false w := by intro w; simp [go_sem]
set_option maxRecDepth 100000 in
theorem ag_int : ∀ w, (isAgg 3).run Tryd.prog w = .ok false w := by intro w; simp [go_sem]
set_option maxRecDepth 100000 in
theorem ag_bool : ∀ w, (isAgg 4).run Tryd.prog w = .ok false w := by intro w; simp [go_sem]
set_option maxRecDepth 100000 in
theorem ag_str : ∀ w, (isAgg 9).run Tryd.prog w = .ok false w := by intro w; simp [go_sem]
set_option maxRecDepth 100000 in
theorem ag_terms : ∀ w, (isAgg 22).run Tryd.prog w = .ok false w := by intro w; simp [go_sem]
end Go.Proofs.YtbphmcbflnaenaaDoor
