/- What is to be known of the program's types. -/
import Derived.Test.YtlpjdhoboebbfaaDoorVA
import Derived.Test.YtlpjdhoboebbfaaDoorProg
namespace Go.Proofs.YtlpjdhoboebbfaaDoor
open Go.RowKit

theorem ti26 : (Tryd.prog.info? 26).map (·.size) = some 4 := by kernel_rfl
theorem tz26 : (Tryd.prog.info? 26).map (·.zero) = some (some (.agg [Value.int .u64 0, Value.int .u64 0, Value.int .u64 0, Value.int .u64 0].toArray)) := by kernel_rfl
theorem ti4 : (Tryd.prog.info? 4).map (·.size) = some 1 := by kernel_rfl
theorem tz4 : (Tryd.prog.info? 4).map (·.zero) = some (some (Value.bool false)) := by kernel_rfl
theorem ti5 : (Tryd.prog.info? 5).map (·.size) = some 1 := by kernel_rfl
theorem tz5 : (Tryd.prog.info? 5).map (·.zero) = some (some (Value.int .u8 0)) := by kernel_rfl
theorem ti24 : (Tryd.prog.info? 24).map (·.size) = some 1 := by kernel_rfl
theorem tz24 : (Tryd.prog.info? 24).map (·.zero) = some (some (Value.int .u64 0)) := by kernel_rfl
theorem ti67 : (Tryd.prog.info? 67).map (·.size) = some 1 := by kernel_rfl
theorem tz67 : (Tryd.prog.info? 67).map (·.zero) = some (some (Value.int .u32 0)) := by kernel_rfl
theorem ti3 : (Tryd.prog.info? 3).map (·.size) = some 1 := by kernel_rfl
theorem tz3 : (Tryd.prog.info? 3).map (·.zero) = some (some (Value.int .i64 0)) := by kernel_rfl
theorem ti22 : (Tryd.prog.info? 22).map (·.size) = some 1 := by kernel_rfl
theorem tz22 : (Tryd.prog.info? 22).map (·.zero) = some (some (Value.slice none 0 0)) := by kernel_rfl
theorem ti34 : (Tryd.prog.info? 34).map (·.size) = some 2 := by kernel_rfl
theorem tz34 : (Tryd.prog.info? 34).map (·.zero) = some (some (.agg [Value.int .u8 0, Value.slice none 0 0].toArray)) := by kernel_rfl
theorem ti42 : (Tryd.prog.info? 42).map (·.size) = some 1 := by kernel_rfl
theorem tz42 : (Tryd.prog.info? 42).map (·.zero) = some (some (.agg [Value.slice none 0 0].toArray)) := by kernel_rfl
theorem ti56 : (Tryd.prog.info? 56).map (·.size) = some 32 := by kernel_rfl
theorem tz56 : (Tryd.prog.info? 56).map (·.zero) = some (some (.agg [Value.int .u8 0, Value.int .u8 0, Value.int .u8 0, Value.int .u8 0, Value.int .u8 0, Value.int .u8 0, Value.int .u8 0, Value.int .u8 0, Value.int .u8 0, Value.int .u8 0, Value.int .u8 0, Value.int .u8 0, Value.int .u8 0, Value.int .u8 0, Value.int .u8 0, Value.int .u8 0, Value.int .u8 0, Value.int .u8 0, Value.int .u8 0, Value.int .u8 0, Value.int .u8 0, Value.int .u8 0, Value.int .u8 0, Value.int .u8 0, Value.int .u8 0, Value.int .u8 0, Value.int .u8 0, Value.int .u8 0, Value.int .u8 0, Value.int .u8 0, Value.int .u8 0, Value.int .u8 0].toArray)) := by kernel_rfl
def tts : List (TypeId × TyE) := [(26, ⟨true, 4, some [Value.int .u64 0, Value.int .u64 0, Value.int .u64 0, Value.int .u64 0], [], some (4, 1)⟩), (4, ⟨false, 1, some [Value.bool false], [], none⟩), (5, ⟨false, 1, some [Value.int .u8 0], [], none⟩), (24, ⟨false, 1, some [Value.int .u64 0], [], none⟩), (67, ⟨false, 1, some [Value.int .u32 0], [], none⟩), (3, ⟨false, 1, some [Value.int .i64 0], [], none⟩), (22, ⟨false, 1, some [Value.slice none 0 0], [], none⟩), (34, ⟨true, 2, some [Value.int .u8 0, Value.slice none 0 0], [0, 1], none⟩), (42, ⟨true, 1, some [Value.slice none 0 0], [0], none⟩), (56, ⟨true, 32, some [Value.int .u8 0, Value.int .u8 0, Value.int .u8 0, Value.int .u8 0, Value.int .u8 0, Value.int .u8 0, Value.int .u8 0, Value.int .u8 0, Value.int .u8 0, Value.int .u8 0, Value.int .u8 0, Value.int .u8 0, Value.int .u8 0, Value.int .u8 0, Value.int .u8 0, Value.int .u8 0, Value.int .u8 0, Value.int .u8 0, Value.int .u8 0, Value.int .u8 0, Value.int .u8 0, Value.int .u8 0, Value.int .u8 0, Value.int .u8 0, Value.int .u8 0, Value.int .u8 0, Value.int .u8 0, Value.int .u8 0, Value.int .u8 0, Value.int .u8 0, Value.int .u8 0, Value.int .u8 0], [], some (32, 1)⟩)]
theorem TT : AllT Tryd.prog tts := ⟨⟨⟨_, Tryd.underlying26, rfl⟩, ti26, fun z h => (by cases h; exact ⟨_, tz26, rfl⟩), fun i off h => (match i, h with | _ + 0, h => by cases h), fun len z h => (by cases h; exact ⟨_, Tryd.underlying26, ti24⟩)⟩,
  ⟨⟨_, Tryd.underlying4, rfl⟩, ti4, fun z h => (by cases h; exact ⟨_, tz4, rfl⟩), fun i off h => (match i, h with | _ + 0, h => by cases h), fun len z h => (by cases h)⟩,
  ⟨⟨_, Tryd.underlying5, rfl⟩, ti5, fun z h => (by cases h; exact ⟨_, tz5, rfl⟩), fun i off h => (match i, h with | _ + 0, h => by cases h), fun len z h => (by cases h)⟩,
  ⟨⟨_, Tryd.underlying24, rfl⟩, ti24, fun z h => (by cases h; exact ⟨_, tz24, rfl⟩), fun i off h => (match i, h with | _ + 0, h => by cases h), fun len z h => (by cases h)⟩,
  ⟨⟨_, Tryd.underlying67, rfl⟩, ti67, fun z h => (by cases h; exact ⟨_, tz67, rfl⟩), fun i off h => (match i, h with | _ + 0, h => by cases h), fun len z h => (by cases h)⟩,
  ⟨⟨_, Tryd.underlying3, rfl⟩, ti3, fun z h => (by cases h; exact ⟨_, tz3, rfl⟩), fun i off h => (match i, h with | _ + 0, h => by cases h), fun len z h => (by cases h)⟩,
  ⟨⟨_, Tryd.underlying22, rfl⟩, ti22, fun z h => (by cases h; exact ⟨_, tz22, rfl⟩), fun i off h => (match i, h with | _ + 0, h => by cases h), fun len z h => (by cases h)⟩,
  ⟨⟨_, Tryd.underlying34, rfl⟩, ti34, fun z h => (by cases h; exact ⟨_, tz34, rfl⟩), fun i off h => (match i, h with | 0, h => (by cases h; exact ⟨_, _, _, Tryd.underlying34, rfl, rfl, ti5⟩) | 1, h => (by cases h; exact ⟨_, _, _, Tryd.underlying34, rfl, rfl, ti22⟩) | _ + 2, h => by cases h), fun len z h => (by cases h)⟩,
  ⟨⟨_, Tryd.underlying42, rfl⟩, ti42, fun z h => (by cases h; exact ⟨_, tz42, rfl⟩), fun i off h => (match i, h with | 0, h => (by cases h; exact ⟨_, _, _, Tryd.underlying42, rfl, rfl, ti22⟩) | _ + 1, h => by cases h), fun len z h => (by cases h)⟩,
  ⟨⟨_, Tryd.underlying56, rfl⟩, ti56, fun z h => (by cases h; exact ⟨_, tz56, rfl⟩), fun i off h => (match i, h with | _ + 0, h => by cases h), fun len z h => (by cases h; exact ⟨_, Tryd.underlying56, ti5⟩)⟩, trivial⟩
end Go.Proofs.YtlpjdhoboebbfaaDoor
