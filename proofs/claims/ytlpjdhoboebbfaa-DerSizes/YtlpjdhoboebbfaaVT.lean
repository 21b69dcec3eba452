/- What is to be known of the program's types. -/
import Derived.Test.YtlpjdhoboebbfaaVA
import Derived.Test.YtlpjdhoboebbfaaProg
namespace Go.Proofs.Ytlpjdhoboebbfaa
open Go.RowKit

theorem ti24 : (Try.prog.info? 24).map (·.size) = some 4 := by kernel_rfl
theorem tz24 : (Try.prog.info? 24).map (·.zero) = some (some (.agg [Value.int .u64 0, Value.int .u64 0, Value.int .u64 0, Value.int .u64 0].toArray)) := by kernel_rfl
theorem ti4 : (Try.prog.info? 4).map (·.size) = some 1 := by kernel_rfl
theorem tz4 : (Try.prog.info? 4).map (·.zero) = some (some (Value.bool false)) := by kernel_rfl
theorem ti5 : (Try.prog.info? 5).map (·.size) = some 1 := by kernel_rfl
theorem tz5 : (Try.prog.info? 5).map (·.zero) = some (some (Value.int .u8 0)) := by kernel_rfl
theorem ti22 : (Try.prog.info? 22).map (·.size) = some 1 := by kernel_rfl
theorem tz22 : (Try.prog.info? 22).map (·.zero) = some (some (Value.int .u64 0)) := by kernel_rfl
theorem ti43 : (Try.prog.info? 43).map (·.size) = some 1 := by kernel_rfl
theorem tz43 : (Try.prog.info? 43).map (·.zero) = some (some (Value.int .u32 0)) := by kernel_rfl
theorem ti3 : (Try.prog.info? 3).map (·.size) = some 1 := by kernel_rfl
theorem tz3 : (Try.prog.info? 3).map (·.zero) = some (some (Value.int .i64 0)) := by kernel_rfl
theorem ti27 : (Try.prog.info? 27).map (·.size) = some 1 := by kernel_rfl
theorem tz27 : (Try.prog.info? 27).map (·.zero) = some (some (Value.slice none 0 0)) := by kernel_rfl
def tts : List (TypeId × TyE) := [(24, ⟨true, 4, some [Value.int .u64 0, Value.int .u64 0, Value.int .u64 0, Value.int .u64 0], [], some (4, 1)⟩), (4, ⟨false, 1, some [Value.bool false], [], none⟩), (5, ⟨false, 1, some [Value.int .u8 0], [], none⟩), (22, ⟨false, 1, some [Value.int .u64 0], [], none⟩), (43, ⟨false, 1, some [Value.int .u32 0], [], none⟩), (3, ⟨false, 1, some [Value.int .i64 0], [], none⟩), (27, ⟨false, 1, some [Value.slice none 0 0], [], none⟩)]
theorem TT : AllT Try.prog tts := ⟨⟨⟨_, Try.underlying24, rfl⟩, ti24, fun z h => (by cases h; exact ⟨_, tz24, rfl⟩), fun i off h => (match i, h with | _ + 0, h => by cases h), fun len z h => (by cases h; exact ⟨_, Try.underlying24, ti22⟩)⟩,
  ⟨⟨_, Try.underlying4, rfl⟩, ti4, fun z h => (by cases h; exact ⟨_, tz4, rfl⟩), fun i off h => (match i, h with | _ + 0, h => by cases h), fun len z h => (by cases h)⟩,
  ⟨⟨_, Try.underlying5, rfl⟩, ti5, fun z h => (by cases h; exact ⟨_, tz5, rfl⟩), fun i off h => (match i, h with | _ + 0, h => by cases h), fun len z h => (by cases h)⟩,
  ⟨⟨_, Try.underlying22, rfl⟩, ti22, fun z h => (by cases h; exact ⟨_, tz22, rfl⟩), fun i off h => (match i, h with | _ + 0, h => by cases h), fun len z h => (by cases h)⟩,
  ⟨⟨_, Try.underlying43, rfl⟩, ti43, fun z h => (by cases h; exact ⟨_, tz43, rfl⟩), fun i off h => (match i, h with | _ + 0, h => by cases h), fun len z h => (by cases h)⟩,
  ⟨⟨_, Try.underlying3, rfl⟩, ti3, fun z h => (by cases h; exact ⟨_, tz3, rfl⟩), fun i off h => (match i, h with | _ + 0, h => by cases h), fun len z h => (by cases h)⟩,
  ⟨⟨_, Try.underlying27, rfl⟩, ti27, fun z h => (by cases h; exact ⟨_, tz27, rfl⟩), fun i off h => (match i, h with | _ + 0, h => by cases h), fun len z h => (by cases h)⟩, trivial⟩
end Go.Proofs.Ytlpjdhoboebbfaa
