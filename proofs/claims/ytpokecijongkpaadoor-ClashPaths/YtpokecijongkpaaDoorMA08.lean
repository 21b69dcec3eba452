/- Layer 18: the document's own Proof. Layer 17: parts with their sizes, and how one more is joined to them (no function of the program is named). Layer 18: what paths and proofs hang on; how many bits a number has (no function of the program is named). Layer 18: the document's own Path and Proof where there is none. The hash of a byte 0, word by word. -/
import Derived.Test.YtpokecijongkpaaDoorMA07
import Derived.Test.YtpokecijongkpaaDoorMA01
namespace Go.Proofs.YtpokecijongkpaaDoor
set_option maxRecDepth 100000
open Go.RowKit
attribute [local go_sem ↓] Go.wp_at_zero Go.wp_at_succ

end Go.Proofs.YtpokecijongkpaaDoor
namespace Go.Proofs.YtpokecijongkpaaDoor
set_option maxRecDepth 100000
open Go.RowKit

end Go.Proofs.YtpokecijongkpaaDoor
namespace Go.Proofs.YtpokecijongkpaaDoor
set_option maxRecDepth 100000
open Go.RowKit

/-- While bits are counted: b are counted, x is left of k. -/
def BtR (k x b : Nat) : Prop := k < (x + 1) * 2 ^ b
theorem BtR.start (k : Nat) : BtR k k 0 := by unfold BtR; omega
theorem BtR.done {n b : Nat} (h : BtR (n - 1) 0 b) : n ≤ 2 ^ b := by
  unfold BtR at h
  rw [Nat.zero_add, Nat.one_mul] at h
  omega
end Go.Proofs.YtpokecijongkpaaDoor
namespace Go.Proofs.YtpokecijongkpaaDoor
set_option maxRecDepth 100000
open Go.RowKit
attribute [local go_sem ↓] Go.wp_at_zero Go.wp_at_succ

end Go.Proofs.YtpokecijongkpaaDoor
namespace Go.Proofs.YtpokecijongkpaaDoor
set_option maxRecDepth 100000

def nil8 (_ : Nat) : Nat := 0
theorem zbw0 : sched (fun t => wordP (fun i => (pad nil8 1) (64 * 0 + i)) t 4) 0 = 8388608#32 := by rw [sched_low _ (by omega)]; decide +kernel
theorem zbw1 : sched (fun t => wordP (fun i => (pad nil8 1) (64 * 0 + i)) t 4) 1 = 0#32 := by rw [sched_low _ (by omega)]; decide +kernel
theorem zbw2 : sched (fun t => wordP (fun i => (pad nil8 1) (64 * 0 + i)) t 4) 2 = 0#32 := by rw [sched_low _ (by omega)]; decide +kernel
theorem zbw3 : sched (fun t => wordP (fun i => (pad nil8 1) (64 * 0 + i)) t 4) 3 = 0#32 := by rw [sched_low _ (by omega)]; decide +kernel
theorem zbw4 : sched (fun t => wordP (fun i => (pad nil8 1) (64 * 0 + i)) t 4) 4 = 0#32 := by rw [sched_low _ (by omega)]; decide +kernel
theorem zbw5 : sched (fun t => wordP (fun i => (pad nil8 1) (64 * 0 + i)) t 4) 5 = 0#32 := by rw [sched_low _ (by omega)]; decide +kernel
theorem zbw6 : sched (fun t => wordP (fun i => (pad nil8 1) (64 * 0 + i)) t 4) 6 = 0#32 := by rw [sched_low _ (by omega)]; decide +kernel
theorem zbw7 : sched (fun t => wordP (fun i => (pad nil8 1) (64 * 0 + i)) t 4) 7 = 0#32 := by rw [sched_low _ (by omega)]; decide +kernel
theorem zbw8 : sched (fun t => wordP (fun i => (pad nil8 1) (64 * 0 + i)) t 4) 8 = 0#32 := by rw [sched_low _ (by omega)]; decide +kernel
theorem zbw9 : sched (fun t => wordP (fun i => (pad nil8 1) (64 * 0 + i)) t 4) 9 = 0#32 := by rw [sched_low _ (by omega)]; decide +kernel
theorem zbw10 : sched (fun t => wordP (fun i => (pad nil8 1) (64 * 0 + i)) t 4) 10 = 0#32 := by rw [sched_low _ (by omega)]; decide +kernel
theorem zbw11 : sched (fun t => wordP (fun i => (pad nil8 1) (64 * 0 + i)) t 4) 11 = 0#32 := by rw [sched_low _ (by omega)]; decide +kernel
theorem zbw12 : sched (fun t => wordP (fun i => (pad nil8 1) (64 * 0 + i)) t 4) 12 = 0#32 := by rw [sched_low _ (by omega)]; decide +kernel
theorem zbw13 : sched (fun t => wordP (fun i => (pad nil8 1) (64 * 0 + i)) t 4) 13 = 0#32 := by rw [sched_low _ (by omega)]; decide +kernel
theorem zbw14 : sched (fun t => wordP (fun i => (pad nil8 1) (64 * 0 + i)) t 4) 14 = 0#32 := by rw [sched_low _ (by omega)]; decide +kernel
theorem zbw15 : sched (fun t => wordP (fun i => (pad nil8 1) (64 * 0 + i)) t 4) 15 = 8#32 := by rw [sched_low _ (by omega)]; decide +kernel
theorem zbw16 : sched (fun t => wordP (fun i => (pad nil8 1) (64 * 0 + i)) t 4) 16 = 8388608#32 := by rw [sched_up _ (by omega), zbw14, zbw9, zbw1, zbw0]; decide +kernel
theorem zbw17 : sched (fun t => wordP (fun i => (pad nil8 1) (64 * 0 + i)) t 4) 17 = 327680#32 := by rw [sched_up _ (by omega), zbw15, zbw10, zbw2, zbw1]; decide +kernel
theorem zbw18 : sched (fun t => wordP (fun i => (pad nil8 1) (64 * 0 + i)) t 4) 18 = 8272#32 := by rw [sched_up _ (by omega), zbw16, zbw11, zbw3, zbw2]; decide +kernel
theorem zbw19 : sched (fun t => wordP (fun i => (pad nil8 1) (64 * 0 + i)) t 4) 19 = 536871234#32 := by rw [sched_up _ (by omega), zbw17, zbw12, zbw4, zbw3]; decide +kernel
theorem zbw20 : sched (fun t => wordP (fun i => (pad nil8 1) (64 * 0 + i)) t 4) 20 = 337772552#32 := by rw [sched_up _ (by omega), zbw18, zbw13, zbw5, zbw4]; decide +kernel
theorem zbw21 : sched (fun t => wordP (fun i => (pad nil8 1) (64 * 0 + i)) t 4) 21 = 8475648#32 := by rw [sched_up _ (by omega), zbw19, zbw14, zbw6, zbw5]; decide +kernel
theorem zbw22 : sched (fun t => wordP (fun i => (pad nil8 1) (64 * 0 + i)) t 4) 22 = 1073741853#32 := by rw [sched_up _ (by omega), zbw20, zbw15, zbw7, zbw6]; decide +kernel
theorem zbw23 : sched (fun t => wordP (fun i => (pad nil8 1) (64 * 0 + i)) t 4) 23 = 2164269061#32 := by rw [sched_up _ (by omega), zbw21, zbw16, zbw8, zbw7]; decide +kernel
theorem zbw24 : sched (fun t => wordP (fun i => (pad nil8 1) (64 * 0 + i)) t 4) 24 = 2230272#32 := by rw [sched_up _ (by omega), zbw22, zbw17, zbw9, zbw8]; decide +kernel
theorem zbw25 : sched (fun t => wordP (fun i => (pad nil8 1) (64 * 0 + i)) t 4) 25 = 337793272#32 := by rw [sched_up _ (by omega), zbw23, zbw18, zbw10, zbw9]; decide +kernel
theorem zbw26 : sched (fun t => wordP (fun i => (pad nil8 1) (64 * 0 + i)) t 4) 26 = 1694501337#32 := by rw [sched_up _ (by omega), zbw24, zbw19, zbw11, zbw10]; decide +kernel
theorem zbw27 : sched (fun t => wordP (fun i => (pad nil8 1) (64 * 0 + i)) t 4) 27 = 1988624393#32 := by rw [sched_up _ (by omega), zbw25, zbw20, zbw12, zbw11]; decide +kernel
theorem zbw28 : sched (fun t => wordP (fun i => (pad nil8 1) (64 * 0 + i)) t 4) 28 = 105919010#32 := by rw [sched_up _ (by omega), zbw26, zbw21, zbw13, zbw12]; decide +kernel
theorem zbw29 : sched (fun t => wordP (fun i => (pad nil8 1) (64 * 0 + i)) t 4) 29 = 1075328946#32 := by rw [sched_up _ (by omega), zbw27, zbw22, zbw14, zbw13]; decide +kernel
theorem zbw30 : sched (fun t => wordP (fun i => (pad nil8 1) (64 * 0 + i)) t 4) 30 = 2958489588#32 := by rw [sched_up _ (by omega), zbw28, zbw23, zbw15, zbw14]; decide +kernel
theorem zbw31 : sched (fun t => wordP (fun i => (pad nil8 1) (64 * 0 + i)) t 4) 31 = 494040618#32 := by rw [sched_up _ (by omega), zbw29, zbw24, zbw16, zbw15]; decide +kernel
theorem zbw32 : sched (fun t => wordP (fun i => (pad nil8 1) (64 * 0 + i)) t 4) 32 = 4190885525#32 := by rw [sched_up _ (by omega), zbw30, zbw25, zbw17, zbw16]; decide +kernel
theorem zbw33 : sched (fun t => wordP (fun i => (pad nil8 1) (64 * 0 + i)) t 4) 33 = 2196774829#32 := by rw [sched_up _ (by omega), zbw31, zbw26, zbw18, zbw17]; decide +kernel
theorem zbw34 : sched (fun t => wordP (fun i => (pad nil8 1) (64 * 0 + i)) t 4) 34 = 2285820332#32 := by rw [sched_up _ (by omega), zbw32, zbw27, zbw19, zbw18]; decide +kernel
theorem zbw35 : sched (fun t => wordP (fun i => (pad nil8 1) (64 * 0 + i)) t 4) 35 = 3305243022#32 := by rw [sched_up _ (by omega), zbw33, zbw28, zbw20, zbw19]; decide +kernel
theorem zbw36 : sched (fun t => wordP (fun i => (pad nil8 1) (64 * 0 + i)) t 4) 36 = 1628256880#32 := by rw [sched_up _ (by omega), zbw34, zbw29, zbw21, zbw20]; decide +kernel
theorem zbw37 : sched (fun t => wordP (fun i => (pad nil8 1) (64 * 0 + i)) t 4) 37 = 606574232#32 := by rw [sched_up _ (by omega), zbw35, zbw30, zbw22, zbw21]; decide +kernel
theorem zbw38 : sched (fun t => wordP (fun i => (pad nil8 1) (64 * 0 + i)) t 4) 38 = 2869189168#32 := by rw [sched_up _ (by omega), zbw36, zbw31, zbw23, zbw22]; decide +kernel
theorem zbw39 : sched (fun t => wordP (fun i => (pad nil8 1) (64 * 0 + i)) t 4) 39 = 912661284#32 := by rw [sched_up _ (by omega), zbw37, zbw32, zbw24, zbw23]; decide +kernel
theorem zbw40 : sched (fun t => wordP (fun i => (pad nil8 1) (64 * 0 + i)) t 4) 40 = 2417538391#32 := by rw [sched_up _ (by omega), zbw38, zbw33, zbw25, zbw24]; decide +kernel
theorem zbw41 : sched (fun t => wordP (fun i => (pad nil8 1) (64 * 0 + i)) t 4) 41 = 662210437#32 := by rw [sched_up _ (by omega), zbw39, zbw34, zbw26, zbw25]; decide +kernel
theorem zbw42 : sched (fun t => wordP (fun i => (pad nil8 1) (64 * 0 + i)) t 4) 42 = 2456130860#32 := by rw [sched_up _ (by omega), zbw40, zbw35, zbw27, zbw26]; decide +kernel
theorem zbw43 : sched (fun t => wordP (fun i => (pad nil8 1) (64 * 0 + i)) t 4) 43 = 1931430815#32 := by rw [sched_up _ (by omega), zbw41, zbw36, zbw28, zbw27]; decide +kernel
theorem zbw44 : sched (fun t => wordP (fun i => (pad nil8 1) (64 * 0 + i)) t 4) 44 = 67023220#32 := by rw [sched_up _ (by omega), zbw42, zbw37, zbw29, zbw28]; decide +kernel
theorem zbw45 : sched (fun t => wordP (fun i => (pad nil8 1) (64 * 0 + i)) t 4) 45 = 2052358436#32 := by rw [sched_up _ (by omega), zbw43, zbw38, zbw30, zbw29]; decide +kernel
theorem zbw46 : sched (fun t => wordP (fun i => (pad nil8 1) (64 * 0 + i)) t 4) 46 = 1064287929#32 := by rw [sched_up _ (by omega), zbw44, zbw39, zbw31, zbw30]; decide +kernel
theorem zbw47 : sched (fun t => wordP (fun i => (pad nil8 1) (64 * 0 + i)) t 4) 47 = 1067640270#32 := by rw [sched_up _ (by omega), zbw45, zbw40, zbw32, zbw31]; decide +kernel
theorem zbw48 : sched (fun t => wordP (fun i => (pad nil8 1) (64 * 0 + i)) t 4) 48 = 2524529989#32 := by rw [sched_up _ (by omega), zbw46, zbw41, zbw33, zbw32]; decide +kernel
theorem zbw49 : sched (fun t => wordP (fun i => (pad nil8 1) (64 * 0 + i)) t 4) 49 = 1109617150#32 := by rw [sched_up _ (by omega), zbw47, zbw42, zbw34, zbw33]; decide +kernel
theorem zbw50 : sched (fun t => wordP (fun i => (pad nil8 1) (64 * 0 + i)) t 4) 50 = 181928543#32 := by rw [sched_up _ (by omega), zbw48, zbw43, zbw35, zbw34]; decide +kernel
theorem zbw51 : sched (fun t => wordP (fun i => (pad nil8 1) (64 * 0 + i)) t 4) 51 = 1162918410#32 := by rw [sched_up _ (by omega), zbw49, zbw44, zbw36, zbw35]; decide +kernel
theorem zbw52 : sched (fun t => wordP (fun i => (pad nil8 1) (64 * 0 + i)) t 4) 52 = 2922595010#32 := by rw [sched_up _ (by omega), zbw50, zbw45, zbw37, zbw36]; decide +kernel
theorem zbw53 : sched (fun t => wordP (fun i => (pad nil8 1) (64 * 0 + i)) t 4) 53 = 279395504#32 := by rw [sched_up _ (by omega), zbw51, zbw46, zbw38, zbw37]; decide +kernel
theorem zbw54 : sched (fun t => wordP (fun i => (pad nil8 1) (64 * 0 + i)) t 4) 54 = 2082656472#32 := by rw [sched_up _ (by omega), zbw52, zbw47, zbw39, zbw38]; decide +kernel
theorem zbw55 : sched (fun t => wordP (fun i => (pad nil8 1) (64 * 0 + i)) t 4) 55 = 3609216951#32 := by rw [sched_up _ (by omega), zbw53, zbw48, zbw40, zbw39]; decide +kernel
theorem zbw56 : sched (fun t => wordP (fun i => (pad nil8 1) (64 * 0 + i)) t 4) 56 = 870645911#32 := by rw [sched_up _ (by omega), zbw54, zbw49, zbw41, zbw40]; decide +kernel
theorem zbw57 : sched (fun t => wordP (fun i => (pad nil8 1) (64 * 0 + i)) t 4) 57 = 2341257311#32 := by rw [sched_up _ (by omega), zbw55, zbw50, zbw42, zbw41]; decide +kernel
theorem zbw58 : sched (fun t => wordP (fun i => (pad nil8 1) (64 * 0 + i)) t 4) 58 = 3664634151#32 := by rw [sched_up _ (by omega), zbw56, zbw51, zbw43, zbw42]; decide +kernel
theorem zbw59 : sched (fun t => wordP (fun i => (pad nil8 1) (64 * 0 + i)) t 4) 59 = 1568575899#32 := by rw [sched_up _ (by omega), zbw57, zbw52, zbw44, zbw43]; decide +kernel
theorem zbw60 : sched (fun t => wordP (fun i => (pad nil8 1) (64 * 0 + i)) t 4) 60 = 3374228186#32 := by rw [sched_up _ (by omega), zbw58, zbw53, zbw45, zbw44]; decide +kernel
theorem zbw61 : sched (fun t => wordP (fun i => (pad nil8 1) (64 * 0 + i)) t 4) 61 = 731796513#32 := by rw [sched_up _ (by omega), zbw59, zbw54, zbw46, zbw45]; decide +kernel
theorem zbw62 : sched (fun t => wordP (fun i => (pad nil8 1) (64 * 0 + i)) t 4) 62 = 3196917518#32 := by rw [sched_up _ (by omega), zbw60, zbw55, zbw47, zbw46]; decide +kernel
theorem zbw63 : sched (fun t => wordP (fun i => (pad nil8 1) (64 * 0 + i)) t 4) 63 = 483982666#32 := by rw [sched_up _ (by omega), zbw61, zbw56, zbw48, zbw47]; decide +kernel
theorem zbs0 : rnds kW (sched (fun t => wordP (fun i => (pad nil8 1) (64 * 0 + i)) t 4)) start 0 = ⟨1779033703#32, 3144134277#32, 1013904242#32, 2773480762#32, 1359893119#32, 2600822924#32, 528734635#32, 1541459225#32⟩ := rfl
theorem zbs1 : rnds kW (sched (fun t => wordP (fun i => (pad nil8 1) (64 * 0 + i)) t 4)) start 1 = ⟨4236806221#32, 1779033703#32, 3144134277#32, 1013904242#32, 2571625122#32, 1359893119#32, 2600822924#32, 528734635#32⟩ := by rw [rnds, zbs0, zbw0]; decide +kernel
theorem zbs2 : rnds kW (sched (fun t => wordP (fun i => (pad nil8 1) (64 * 0 + i)) t 4)) start 2 = ⟨989818510#32, 4236806221#32, 1779033703#32, 3144134277#32, 1576518166#32, 2571625122#32, 1359893119#32, 2600822924#32⟩ := by rw [rnds, zbs1, zbw1]; decide +kernel
theorem zbs3 : rnds kW (sched (fun t => wordP (fun i => (pad nil8 1) (64 * 0 + i)) t 4)) start 3 = ⟨3430007974#32, 989818510#32, 4236806221#32, 1779033703#32, 98258985#32, 1576518166#32, 2571625122#32, 1359893119#32⟩ := by rw [rnds, zbs2, zbw2]; decide +kernel
theorem zbs4 : rnds kW (sched (fun t => wordP (fun i => (pad nil8 1) (64 * 0 + i)) t 4)) start 4 = ⟨1936599410#32, 3430007974#32, 989818510#32, 4236806221#32, 2403711413#32, 98258985#32, 1576518166#32, 2571625122#32⟩ := by rw [rnds, zbs3, zbw3]; decide +kernel
theorem zbs5 : rnds kW (sched (fun t => wordP (fun i => (pad nil8 1) (64 * 0 + i)) t 4)) start 5 = ⟨1431265596#32, 1936599410#32, 3430007974#32, 989818510#32, 1735042051#32, 2403711413#32, 98258985#32, 1576518166#32⟩ := by rw [rnds, zbs4, zbw4]; decide +kernel
theorem zbs6 : rnds kW (sched (fun t => wordP (fun i => (pad nil8 1) (64 * 0 + i)) t 4)) start 6 = ⟨1862463294#32, 1431265596#32, 1936599410#32, 3430007974#32, 861763893#32, 1735042051#32, 2403711413#32, 98258985#32⟩ := by rw [rnds, zbs5, zbw5]; decide +kernel
theorem zbs7 : rnds kW (sched (fun t => wordP (fun i => (pad nil8 1) (64 * 0 + i)) t 4)) start 7 = ⟨85498818#32, 1862463294#32, 1431265596#32, 1936599410#32, 1890368710#32, 861763893#32, 1735042051#32, 2403711413#32⟩ := by rw [rnds, zbs6, zbw6]; decide +kernel
theorem zbs8 : rnds kW (sched (fun t => wordP (fun i => (pad nil8 1) (64 * 0 + i)) t 4)) start 8 = ⟨3410429513#32, 85498818#32, 1862463294#32, 1431265596#32, 3161538141#32, 1890368710#32, 861763893#32, 1735042051#32⟩ := by rw [rnds, zbs7, zbw7]; decide +kernel
theorem zbs9 : rnds kW (sched (fun t => wordP (fun i => (pad nil8 1) (64 * 0 + i)) t 4)) start 9 = ⟨2751560656#32, 3410429513#32, 85498818#32, 1862463294#32, 1304924475#32, 3161538141#32, 1890368710#32, 861763893#32⟩ := by rw [rnds, zbs8, zbw8]; decide +kernel
theorem zbs10 : rnds kW (sched (fun t => wordP (fun i => (pad nil8 1) (64 * 0 + i)) t 4)) start 10 = ⟨592159826#32, 2751560656#32, 3410429513#32, 85498818#32, 451099489#32, 1304924475#32, 3161538141#32, 1890368710#32⟩ := by rw [rnds, zbs9, zbw9]; decide +kernel
theorem zbs11 : rnds kW (sched (fun t => wordP (fun i => (pad nil8 1) (64 * 0 + i)) t 4)) start 11 = ⟨60594652#32, 592159826#32, 2751560656#32, 3410429513#32, 3768537994#32, 451099489#32, 1304924475#32, 3161538141#32⟩ := by rw [rnds, zbs10, zbw10]; decide +kernel
theorem zbs12 : rnds kW (sched (fun t => wordP (fun i => (pad nil8 1) (64 * 0 + i)) t 4)) start 12 = ⟨337837970#32, 60594652#32, 592159826#32, 2751560656#32, 366#32, 3768537994#32, 451099489#32, 1304924475#32⟩ := by rw [rnds, zbs11, zbw11]; decide +kernel
theorem zbs13 : rnds kW (sched (fun t => wordP (fun i => (pad nil8 1) (64 * 0 + i)) t 4)) start 13 = ⟨1721431348#32, 337837970#32, 60594652#32, 592159826#32, 355163279#32, 366#32, 3768537994#32, 451099489#32⟩ := by rw [rnds, zbs12, zbw12]; decide +kernel
theorem zbs14 : rnds kW (sched (fun t => wordP (fun i => (pad nil8 1) (64 * 0 + i)) t 4)) start 14 = ⟨2530907540#32, 1721431348#32, 337837970#32, 60594652#32, 3619284050#32, 355163279#32, 366#32, 3768537994#32⟩ := by rw [rnds, zbs13, zbw13]; decide +kernel
theorem zbs15 : rnds kW (sched (fun t => wordP (fun i => (pad nil8 1) (64 * 0 + i)) t 4)) start 15 = ⟨2843349155#32, 2530907540#32, 1721431348#32, 337837970#32, 3006755585#32, 3619284050#32, 355163279#32, 366#32⟩ := by rw [rnds, zbs14, zbw14]; decide +kernel
theorem zbs16 : rnds kW (sched (fun t => wordP (fun i => (pad nil8 1) (64 * 0 + i)) t 4)) start 16 = ⟨2213835396#32, 2843349155#32, 2530907540#32, 1721431348#32, 1782291205#32, 3006755585#32, 3619284050#32, 355163279#32⟩ := by rw [rnds, zbs15, zbw15]; decide +kernel
theorem zbs17 : rnds kW (sched (fun t => wordP (fun i => (pad nil8 1) (64 * 0 + i)) t 4)) start 17 = ⟨63933150#32, 2213835396#32, 2843349155#32, 2530907540#32, 2170379905#32, 1782291205#32, 3006755585#32, 3619284050#32⟩ := by rw [rnds, zbs16, zbw16]; decide +kernel
theorem zbs18 : rnds kW (sched (fun t => wordP (fun i => (pad nil8 1) (64 * 0 + i)) t 4)) start 18 = ⟨3732479028#32, 63933150#32, 2213835396#32, 2843349155#32, 153950846#32, 2170379905#32, 1782291205#32, 3006755585#32⟩ := by rw [rnds, zbs17, zbw17]; decide +kernel
theorem zbs19 : rnds kW (sched (fun t => wordP (fun i => (pad nil8 1) (64 * 0 + i)) t 4)) start 19 = ⟨4257676598#32, 3732479028#32, 63933150#32, 2213835396#32, 4043017097#32, 153950846#32, 2170379905#32, 1782291205#32⟩ := by rw [rnds, zbs18, zbw18]; decide +kernel
theorem zbs20 : rnds kW (sched (fun t => wordP (fun i => (pad nil8 1) (64 * 0 + i)) t 4)) start 20 = ⟨128972933#32, 4257676598#32, 3732479028#32, 63933150#32, 1587692614#32, 4043017097#32, 153950846#32, 2170379905#32⟩ := by rw [rnds, zbs19, zbw19]; decide +kernel
theorem zbs21 : rnds kW (sched (fun t => wordP (fun i => (pad nil8 1) (64 * 0 + i)) t 4)) start 21 = ⟨4022138650#32, 128972933#32, 4257676598#32, 3732479028#32, 3648695940#32, 1587692614#32, 4043017097#32, 153950846#32⟩ := by rw [rnds, zbs20, zbw20]; decide +kernel
theorem zbs22 : rnds kW (sched (fun t => wordP (fun i => (pad nil8 1) (64 * 0 + i)) t 4)) start 22 = ⟨738371693#32, 4022138650#32, 128972933#32, 4257676598#32, 703110124#32, 3648695940#32, 1587692614#32, 4043017097#32⟩ := by rw [rnds, zbs21, zbw21]; decide +kernel
theorem zbs23 : rnds kW (sched (fun t => wordP (fun i => (pad nil8 1) (64 * 0 + i)) t 4)) start 23 = ⟨1493034043#32, 738371693#32, 4022138650#32, 128972933#32, 609053350#32, 703110124#32, 3648695940#32, 1587692614#32⟩ := by rw [rnds, zbs22, zbw22]; decide +kernel
theorem zbs24 : rnds kW (sched (fun t => wordP (fun i => (pad nil8 1) (64 * 0 + i)) t 4)) start 24 = ⟨2821300891#32, 1493034043#32, 738371693#32, 4022138650#32, 1118266211#32, 609053350#32, 703110124#32, 3648695940#32⟩ := by rw [rnds, zbs23, zbw23]; decide +kernel
theorem zbs25 : rnds kW (sched (fun t => wordP (fun i => (pad nil8 1) (64 * 0 + i)) t 4)) start 25 = ⟨3464717002#32, 2821300891#32, 1493034043#32, 738371693#32, 1035563614#32, 1118266211#32, 609053350#32, 703110124#32⟩ := by rw [rnds, zbs24, zbw24]; decide +kernel
theorem zbs26 : rnds kW (sched (fun t => wordP (fun i => (pad nil8 1) (64 * 0 + i)) t 4)) start 26 = ⟨1204946522#32, 3464717002#32, 2821300891#32, 1493034043#32, 44909721#32, 1035563614#32, 1118266211#32, 609053350#32⟩ := by rw [rnds, zbs25, zbw25]; decide +kernel
theorem zbs27 : rnds kW (sched (fun t => wordP (fun i => (pad nil8 1) (64 * 0 + i)) t 4)) start 27 = ⟨3578242287#32, 1204946522#32, 3464717002#32, 2821300891#32, 1954713655#32, 44909721#32, 1035563614#32, 1118266211#32⟩ := by rw [rnds, zbs26, zbw26]; decide +kernel
theorem zbs28 : rnds kW (sched (fun t => wordP (fun i => (pad nil8 1) (64 * 0 + i)) t 4)) start 28 = ⟨2973166161#32, 3578242287#32, 1204946522#32, 3464717002#32, 3303041487#32, 1954713655#32, 44909721#32, 1035563614#32⟩ := by rw [rnds, zbs27, zbw27]; decide +kernel
theorem zbs29 : rnds kW (sched (fun t => wordP (fun i => (pad nil8 1) (64 * 0 + i)) t 4)) start 29 = ⟨2199309076#32, 2973166161#32, 3578242287#32, 1204946522#32, 2530873756#32, 3303041487#32, 1954713655#32, 44909721#32⟩ := by rw [rnds, zbs28, zbw28]; decide +kernel
theorem zbs30 : rnds kW (sched (fun t => wordP (fun i => (pad nil8 1) (64 * 0 + i)) t 4)) start 30 = ⟨3730042724#32, 2199309076#32, 2973166161#32, 3578242287#32, 1908478698#32, 2530873756#32, 3303041487#32, 1954713655#32⟩ := by rw [rnds, zbs29, zbw29]; decide +kernel
theorem zbs31 : rnds kW (sched (fun t => wordP (fun i => (pad nil8 1) (64 * 0 + i)) t 4)) start 31 = ⟨1789604845#32, 3730042724#32, 2199309076#32, 2973166161#32, 2848740169#32, 1908478698#32, 2530873756#32, 3303041487#32⟩ := by rw [rnds, zbs30, zbw30]; decide +kernel
theorem zbs32 : rnds kW (sched (fun t => wordP (fun i => (pad nil8 1) (64 * 0 + i)) t 4)) start 32 = ⟨187424699#32, 1789604845#32, 3730042724#32, 2199309076#32, 2302718624#32, 2848740169#32, 1908478698#32, 2530873756#32⟩ := by rw [rnds, zbs31, zbw31]; decide +kernel
theorem zbs33 : rnds kW (sched (fun t => wordP (fun i => (pad nil8 1) (64 * 0 + i)) t 4)) start 33 = ⟨52675105#32, 187424699#32, 1789604845#32, 3730042724#32, 2879539884#32, 2302718624#32, 2848740169#32, 1908478698#32⟩ := by rw [rnds, zbs32, zbw32]; decide +kernel
theorem zbs34 : rnds kW (sched (fun t => wordP (fun i => (pad nil8 1) (64 * 0 + i)) t 4)) start 34 = ⟨3425391657#32, 52675105#32, 187424699#32, 1789604845#32, 3230335562#32, 2879539884#32, 2302718624#32, 2848740169#32⟩ := by rw [rnds, zbs33, zbw33]; decide +kernel
theorem zbs35 : rnds kW (sched (fun t => wordP (fun i => (pad nil8 1) (64 * 0 + i)) t 4)) start 35 = ⟨3138735915#32, 3425391657#32, 52675105#32, 187424699#32, 2608896399#32, 3230335562#32, 2879539884#32, 2302718624#32⟩ := by rw [rnds, zbs34, zbw34]; decide +kernel
theorem zbs36 : rnds kW (sched (fun t => wordP (fun i => (pad nil8 1) (64 * 0 + i)) t 4)) start 36 = ⟨1605772504#32, 3138735915#32, 3425391657#32, 52675105#32, 488282334#32, 2608896399#32, 3230335562#32, 2879539884#32⟩ := by rw [rnds, zbs35, zbw35]; decide +kernel
theorem zbs37 : rnds kW (sched (fun t => wordP (fun i => (pad nil8 1) (64 * 0 + i)) t 4)) start 37 = ⟨53121886#32, 1605772504#32, 3138735915#32, 3425391657#32, 1029372765#32, 488282334#32, 2608896399#32, 3230335562#32⟩ := by rw [rnds, zbs36, zbw36]; decide +kernel
theorem zbs38 : rnds kW (sched (fun t => wordP (fun i => (pad nil8 1) (64 * 0 + i)) t 4)) start 38 = ⟨2022995856#32, 53121886#32, 1605772504#32, 3138735915#32, 2031222480#32, 1029372765#32, 488282334#32, 2608896399#32⟩ := by rw [rnds, zbs37, zbw37]; decide +kernel
theorem zbs39 : rnds kW (sched (fun t => wordP (fun i => (pad nil8 1) (64 * 0 + i)) t 4)) start 39 = ⟨1738905024#32, 2022995856#32, 53121886#32, 1605772504#32, 3549172846#32, 2031222480#32, 1029372765#32, 488282334#32⟩ := by rw [rnds, zbs38, zbw38]; decide +kernel
theorem zbs40 : rnds kW (sched (fun t => wordP (fun i => (pad nil8 1) (64 * 0 + i)) t 4)) start 40 = ⟨3645261860#32, 1738905024#32, 2022995856#32, 53121886#32, 3013245802#32, 3549172846#32, 2031222480#32, 1029372765#32⟩ := by rw [rnds, zbs39, zbw39]; decide +kernel
theorem zbs41 : rnds kW (sched (fun t => wordP (fun i => (pad nil8 1) (64 * 0 + i)) t 4)) start 41 = ⟨1044315944#32, 3645261860#32, 1738905024#32, 2022995856#32, 1502441896#32, 3013245802#32, 3549172846#32, 2031222480#32⟩ := by rw [rnds, zbs40, zbw40]; decide +kernel
theorem zbs42 : rnds kW (sched (fun t => wordP (fun i => (pad nil8 1) (64 * 0 + i)) t 4)) start 42 = ⟨3143433783#32, 1044315944#32, 3645261860#32, 1738905024#32, 2811734498#32, 1502441896#32, 3013245802#32, 3549172846#32⟩ := by rw [rnds, zbs41, zbw41]; decide +kernel
theorem zbs43 : rnds kW (sched (fun t => wordP (fun i => (pad nil8 1) (64 * 0 + i)) t 4)) start 43 = ⟨3738845022#32, 3143433783#32, 1044315944#32, 3645261860#32, 512662387#32, 2811734498#32, 1502441896#32, 3013245802#32⟩ := by rw [rnds, zbs42, zbw42]; decide +kernel
theorem zbs44 : rnds kW (sched (fun t => wordP (fun i => (pad nil8 1) (64 * 0 + i)) t 4)) start 44 = ⟨4280178306#32, 3738845022#32, 3143433783#32, 1044315944#32, 4098399467#32, 512662387#32, 2811734498#32, 1502441896#32⟩ := by rw [rnds, zbs43, zbw43]; decide +kernel
theorem zbs45 : rnds kW (sched (fun t => wordP (fun i => (pad nil8 1) (64 * 0 + i)) t 4)) start 45 = ⟨3481896950#32, 4280178306#32, 3738845022#32, 3143433783#32, 2615124570#32, 4098399467#32, 512662387#32, 2811734498#32⟩ := by rw [rnds, zbs44, zbw44]; decide +kernel
theorem zbs46 : rnds kW (sched (fun t => wordP (fun i => (pad nil8 1) (64 * 0 + i)) t 4)) start 46 = ⟨3852521770#32, 3481896950#32, 4280178306#32, 3738845022#32, 387444988#32, 2615124570#32, 4098399467#32, 512662387#32⟩ := by rw [rnds, zbs45, zbw45]; decide +kernel
theorem zbs47 : rnds kW (sched (fun t => wordP (fun i => (pad nil8 1) (64 * 0 + i)) t 4)) start 47 = ⟨1284999614#32, 3852521770#32, 3481896950#32, 4280178306#32, 2288860832#32, 387444988#32, 2615124570#32, 4098399467#32⟩ := by rw [rnds, zbs46, zbw46]; decide +kernel
theorem zbs48 : rnds kW (sched (fun t => wordP (fun i => (pad nil8 1) (64 * 0 + i)) t 4)) start 48 = ⟨118537947#32, 1284999614#32, 3852521770#32, 3481896950#32, 3082556350#32, 2288860832#32, 387444988#32, 2615124570#32⟩ := by rw [rnds, zbs47, zbw47]; decide +kernel
theorem zbs49 : rnds kW (sched (fun t => wordP (fun i => (pad nil8 1) (64 * 0 + i)) t 4)) start 49 = ⟨3668412693#32, 118537947#32, 1284999614#32, 3852521770#32, 4005100578#32, 3082556350#32, 2288860832#32, 387444988#32⟩ := by rw [rnds, zbs48, zbw48]; decide +kernel
theorem zbs50 : rnds kW (sched (fun t => wordP (fun i => (pad nil8 1) (64 * 0 + i)) t 4)) start 50 = ⟨1623451886#32, 3668412693#32, 118537947#32, 1284999614#32, 1470746726#32, 4005100578#32, 3082556350#32, 2288860832#32⟩ := by rw [rnds, zbs49, zbw49]; decide +kernel
theorem zbs51 : rnds kW (sched (fun t => wordP (fun i => (pad nil8 1) (64 * 0 + i)) t 4)) start 51 = ⟨4130003931#32, 1623451886#32, 3668412693#32, 118537947#32, 794720019#32, 1470746726#32, 4005100578#32, 3082556350#32⟩ := by rw [rnds, zbs50, zbw50]; decide +kernel
theorem zbs52 : rnds kW (sched (fun t => wordP (fun i => (pad nil8 1) (64 * 0 + i)) t 4)) start 52 = ⟨1982312571#32, 4130003931#32, 1623451886#32, 3668412693#32, 39468287#32, 794720019#32, 1470746726#32, 4005100578#32⟩ := by rw [rnds, zbs51, zbw51]; decide +kernel
theorem zbs53 : rnds kW (sched (fun t => wordP (fun i => (pad nil8 1) (64 * 0 + i)) t 4)) start 53 = ⟨3014870485#32, 1982312571#32, 4130003931#32, 1623451886#32, 1470309620#32, 39468287#32, 794720019#32, 1470746726#32⟩ := by rw [rnds, zbs52, zbw52]; decide +kernel
theorem zbs54 : rnds kW (sched (fun t => wordP (fun i => (pad nil8 1) (64 * 0 + i)) t 4)) start 54 = ⟨88612399#32, 3014870485#32, 1982312571#32, 4130003931#32, 3767671585#32, 1470309620#32, 39468287#32, 794720019#32⟩ := by rw [rnds, zbs53, zbw53]; decide +kernel
theorem zbs55 : rnds kW (sched (fun t => wordP (fun i => (pad nil8 1) (64 * 0 + i)) t 4)) start 55 = ⟨1007790196#32, 88612399#32, 3014870485#32, 1982312571#32, 3938901490#32, 3767671585#32, 1470309620#32, 39468287#32⟩ := by rw [rnds, zbs54, zbw54]; decide +kernel
theorem zbs56 : rnds kW (sched (fun t => wordP (fun i => (pad nil8 1) (64 * 0 + i)) t 4)) start 56 = ⟨2365214587#32, 1007790196#32, 88612399#32, 3014870485#32, 3289159969#32, 3938901490#32, 3767671585#32, 1470309620#32⟩ := by rw [rnds, zbs55, zbw55]; decide +kernel
theorem zbs57 : rnds kW (sched (fun t => wordP (fun i => (pad nil8 1) (64 * 0 + i)) t 4)) start 57 = ⟨71929708#32, 2365214587#32, 1007790196#32, 88612399#32, 969256067#32, 3289159969#32, 3938901490#32, 3767671585#32⟩ := by rw [rnds, zbs56, zbw56]; decide +kernel
theorem zbs58 : rnds kW (sched (fun t => wordP (fun i => (pad nil8 1) (64 * 0 + i)) t 4)) start 58 = ⟨2378893565#32, 71929708#32, 2365214587#32, 1007790196#32, 711566890#32, 969256067#32, 3289159969#32, 3938901490#32⟩ := by rw [rnds, zbs57, zbw57]; decide +kernel
theorem zbs59 : rnds kW (sched (fun t => wordP (fun i => (pad nil8 1) (64 * 0 + i)) t 4)) start 59 = ⟨621501622#32, 2378893565#32, 71929708#32, 2365214587#32, 3415513949#32, 711566890#32, 969256067#32, 3289159969#32⟩ := by rw [rnds, zbs58, zbw58]; decide +kernel
theorem zbs60 : rnds kW (sched (fun t => wordP (fun i => (pad nil8 1) (64 * 0 + i)) t 4)) start 60 = ⟨104502856#32, 621501622#32, 2378893565#32, 71929708#32, 1281929444#32, 3415513949#32, 711566890#32, 969256067#32⟩ := by rw [rnds, zbs59, zbw59]; decide +kernel
theorem zbs61 : rnds kW (sched (fun t => wordP (fun i => (pad nil8 1) (64 * 0 + i)) t 4)) start 61 = ⟨371725554#32, 104502856#32, 621501622#32, 2378893565#32, 3150893828#32, 1281929444#32, 3415513949#32, 711566890#32⟩ := by rw [rnds, zbs60, zbw60]; decide +kernel
theorem zbs62 : rnds kW (sched (fun t => wordP (fun i => (pad nil8 1) (64 * 0 + i)) t 4)) start 62 = ⟨1614172532#32, 371725554#32, 104502856#32, 621501622#32, 1703790939#32, 3150893828#32, 1281929444#32, 3415513949#32⟩ := by rw [rnds, zbs61, zbw61]; decide +kernel
theorem zbs63 : rnds kW (sched (fun t => wordP (fun i => (pad nil8 1) (64 * 0 + i)) t 4)) start 63 = ⟨1145818131#32, 1614172532#32, 371725554#32, 104502856#32, 405917674#32, 1703790939#32, 3150893828#32, 1281929444#32⟩ := by rw [rnds, zbs62, zbw62]; decide +kernel
theorem zbs64 : rnds kW (sched (fun t => wordP (fun i => (pad nil8 1) (64 * 0 + i)) t 4)) start 64 = ⟨69870901#32, 1145818131#32, 1614172532#32, 371725554#32, 662817472#32, 405917674#32, 1703790939#32, 3150893828#32⟩ := by rw [rnds, zbs63, zbw63]; decide +kernel
theorem zb_hash : hashS nil8 1 = ⟨1848904604#32, 4289952408#32, 2628076774#32, 3145206316#32, 2022710591#32, 3006740598#32, 2232525574#32, 397385757#32⟩ := by
  show takeB start (fun i => (pad nil8 1) (64 * 0 + i)) = _
  unfold takeB
  rw [zbs64]
  decide +kernel
end Go.Proofs.YtpokecijongkpaaDoor
