/- Small facts that every walk wants (no type of the program is named). Rows of bytes in memory. Words of 32 bits. What the program's own right, choice and majority answer. What the document's own turned answers. Rows of words in memory; what the document's own Start and K answer. What the document's own words answers. -/
import Derived.Test.YtpokecijongkpaaDoorRows
import Derived.WalkKit
import Derived.WalkSpells
import Derived.WalkSmall
import Derived.Laws.Externs
import Derived.Laws.Pointers
import Derived.Laws.BitsAllLaws
import Derived.Deep.RegionHeld3
import Derived.Deep.DrawnRows
import Derived.RowKit3
import Derived.LoopN
import Derived.Handy
import Derived.BigQuiet
import Derived.Deep.QuietTactic
import Derived.ChangeKeysEq
import Derived.Deep.WholeRow
import Derived.Deep.MidRow
import Derived.Deep.DeepCutAuto
import Derived.Deep.LoopGhost
import Derived.BigRegion
namespace Go.Proofs.YtpokecijongkpaaDoor
set_option maxRecDepth 100000
open Go.RowKit

theorem later {W w1 : World} {p : Addr} {v : Value} (hb : Below W.heap.size W w1) (h : W.cell? p = some v) : w1.cell? p = some v := by
  have hp : p.block < W.heap.size := by
    cases Nat.lt_or_ge p.block W.heap.size with
    | inl h => exact h
    | inr h' =>
      have : W.heap[p.block]? = none := by simp [h']
      simp [World.cell?, this] at h
  rw [hb.cell hp]; exact h
theorem K.alloc {w w' : World} (h : Below w.heap.size w w') (o : Obj) : Below w.heap.size w (w'.alloc o) := h.alloc h.size o
theorem K.call {w w' w1 : World} (h : Below w.heap.size w w') (hb : Below w'.heap.size w' w1) : Below w.heap.size w w1 := h.trans (hb.mono h.size)
theorem K.drew {w w' : World} (h : Below w.heap.size w w') : Below w.heap.size w w'.drew := h.drew
theorem K.set {W w' : World} {p : Addr} (h : Below W.heap.size W w') (hp : W.heap.size ≤ p.block) (u : Value) : Below W.heap.size W (w'.setCell p u) := h.setCell hp u
theorem hide {p : Prop} (h : p) : Hid p := h
end Go.Proofs.YtpokecijongkpaaDoor
namespace Go.Proofs.YtpokecijongkpaaDoor
set_option maxRecDepth 100000
open Go.RowKit

/-- n bytes lie from an address on. -/
structure Rd (w : World) (b o n : Nat) (f : Nat → Int) : Prop where
  c : ∀ i, i < n → w.cell? ⟨b, o + i, none⟩ = some (.int .u8 (f i))
/-- A row of n bytes of its own, that may be written. -/
structure Row8 (w : World) (b n : Nat) (f : Nat → Int) : Prop where
  lt : b < w.heap.size
  c : ∀ i, i < n → w.cell? ⟨b, i, none⟩ = some (.int .u8 (f i))
  z : ∀ i, i < n → w.frozen? ⟨b, i, none⟩ = false
theorem Rd.keep {W w1 : World} {b o n : Nat} {f : Nat → Int} (h : Rd W b o n f) (hb : Below W.heap.size W w1) : Rd w1 b o n f :=
  ⟨fun i hi => later hb (h.c i hi)⟩
theorem Rd.part {w : World} {b o n : Nat} {f : Nat → Int} (h : Rd w b o n f) (k m : Nat) (hk : k + m ≤ n) : Rd w b (o + k) m (fun i => f (k + i)) :=
  ⟨fun i hi => by have := h.c (k + i) (by omega); rwa [← Nat.add_assoc] at this⟩
theorem Rd.congr {w : World} {b o n : Nat} {f g : Nat → Int} (h : Rd w b o n f) (e : ∀ i, i < n → f i = g i) : Rd w b o n g :=
  ⟨fun i hi => by rw [← e i hi]; exact h.c i hi⟩
theorem Row8.keep {W w1 : World} {b n : Nat} {f : Nat → Int} (h : Row8 W b n f) (hb : Below W.heap.size W w1) : Row8 w1 b n f :=
  ⟨Nat.lt_of_lt_of_le h.lt hb.size, fun i hi => later hb (h.c i hi), fun i hi => (hb.frozen (p := ⟨b, i, none⟩) h.lt).trans (h.z i hi)⟩
theorem Row8.rd {w : World} {b n : Nat} {f : Nat → Int} (h : Row8 w b n f) : Rd w b 0 n f := ⟨fun i hi => by rw [Nat.zero_add]; exact h.c i hi⟩
theorem Row8.congr {w : World} {b n : Nat} {f g : Nat → Int} (h : Row8 w b n f) (e : ∀ i, i < n → f i = g i) : Row8 w b n g :=
  ⟨h.lt, fun i hi => by rw [← e i hi]; exact h.c i hi, h.z⟩
theorem Row8.store {w : World} {b n : Nat} {f : Nat → Int} (h : Row8 w b n f) (k : Nat) (hk : k < n) (v : Int) : Row8 (w.setCell ⟨b, k, none⟩ (.int .u8 v)) b n (fun i => if i = k then v else f i) := by
  refine ⟨by simpa using h.lt, fun i hi => ?_, fun i hi => by rw [World.frozen?_setCell]; exact h.z i hi⟩
  have hc := h.c i hi
  have hcs := h.c k hk
  by_cases e : i = k
  · subst e; simp [go_sem, hc]
  · simp [go_sem, hc, e]
end Go.Proofs.YtpokecijongkpaaDoor
namespace Go.Proofs.YtpokecijongkpaaDoor
set_option maxRecDepth 100000
open Go.RowKit

abbrev Wd := BitVec 32
/-- A word as a number. -/
def wn (x : Wd) : Int := (x.toNat : Int)
def wadd (x y : Wd) : Wd := x + y
def wor (x y : Wd) : Wd := x ||| y
def wand (x y : Wd) : Wd := x &&& y
def wxor (x y : Wd) : Wd := x ^^^ y
def wnot (x : Wd) : Wd := ~~~x
def wshr (x : Wd) (n : Nat) : Wd := x >>> n
def wshl (x : Wd) (n : Nat) : Wd := x <<< n
def wmul (x : Wd) (n : Nat) : Wd := x * BitVec.ofNat 32 n
theorem wn_lt (x : Wd) : wn x < 4294967296 := by have := x.isLt; unfold wn; omega
theorem wn_nn (x : Wd) : 0 ≤ wn x := by unfold wn; omega
theorem wn_of (n : Nat) (h : n < 4294967296) : wn (BitVec.ofNat 32 n) = (n : Int) := by
  unfold wn; rw [BitVec.toNat_ofNat]; omega
theorem wn_add (x y : Wd) : IntKind.u32.wrap (wn x + wn y) = wn (wadd x y) := by
  unfold wn wadd; rw [IntKind.wrap_u32', BitVec.toNat_add]; omega
theorem wn_or (x y : Wd) : bits .or .u32 (wn x) (wn y) = wn (wor x y) := by
  unfold wn wor; rw [u32_or_nat _ _ x.isLt y.isLt, BitVec.toNat_or]
theorem wn_and (x y : Wd) : bits .and .u32 (wn x) (wn y) = wn (wand x y) := by
  unfold wn wand; rw [u32_and_nat _ _ x.isLt y.isLt, BitVec.toNat_and]
theorem wn_xor (x y : Wd) : bits .xor .u32 (wn x) (wn y) = wn (wxor x y) := by
  unfold wn wxor; rw [u32_xor_nat _ _ x.isLt y.isLt, BitVec.toNat_xor]
theorem wn_not (y : Wd) : (4294967295 : Int) - wn y = wn (wnot y) := by
  have := y.isLt
  unfold wn wnot; rw [BitVec.toNat_not]; omega
theorem wn_shr (x : Wd) (n : Nat) : wn x / (2 ^ n : Nat) = wn (wshr x n) := by
  unfold wn wshr; rw [BitVec.toNat_ushiftRight, Nat.shiftRight_eq_div_pow]; rfl
theorem wn_shl (x : Wd) (n : Nat) : (wn x * (2 ^ n : Nat)) % 4294967296 = wn (wshl x n) := by
  unfold wn wshl; rw [BitVec.toNat_shiftLeft, Nat.shiftLeft_eq]
  omega
theorem wn_shl' (x : Wd) (n : Nat) : wn x <<< n % 4294967296 = wn (wshl x n) := by
  rw [Int.shiftLeft_eq, ← wn_shl]; rfl
theorem wn_mul (x : Wd) (n : Nat) : IntKind.u32.wrap (wn x * (n : Int)) = wn (wmul x n) := by
  unfold wn wmul
  rw [IntKind.wrap_u32', BitVec.toNat_mul, BitVec.toNat_ofNat, Nat.mul_mod_mod]
  omega
/-- A word turned right. -/
def rotr (x : Wd) (n : Nat) : Wd := x >>> n ||| x <<< (32 - n)
def ssg0 (x : Wd) : Wd := rotr x 7 ^^^ rotr x 18 ^^^ x >>> 3
def ssg1 (x : Wd) : Wd := rotr x 17 ^^^ rotr x 19 ^^^ x >>> 10
def bsg0 (x : Wd) : Wd := rotr x 2 ^^^ rotr x 13 ^^^ rotr x 22
def bsg1 (x : Wd) : Wd := rotr x 6 ^^^ rotr x 11 ^^^ rotr x 25
def chW (x y z : Wd) : Wd := x &&& y ||| ~~~x &&& z
def majW (x y z : Wd) : Wd := x &&& y ||| x &&& z ||| y &&& z
structure St where (a : Wd) (b : Wd) (c : Wd) (d : Wd) (e : Wd) (f : Wd) (g : Wd) (h : Wd) deriving DecidableEq
/-- One round. -/
def rnd (s : St) (k w : Wd) : St :=
  ⟨(s.h + bsg1 s.e + chW s.e s.f s.g + k + w) + (bsg0 s.a + majW s.a s.b s.c), s.a, s.b, s.c, s.d + (s.h + bsg1 s.e + chW s.e s.f s.g + k + w), s.e, s.f, s.g⟩
def rnds (k w : Nat → Wd) (s : St) : Nat → St
  | 0 => s
  | t + 1 => rnd (rnds k w s t) (k t) (w t)
def addS (s v : St) : St := ⟨s.a + v.a, s.b + v.b, s.c + v.c, s.d + v.d, s.e + v.e, s.f + v.f, s.g + v.g, s.h + v.h⟩
/-- The constants. -/
def kList : List Nat := [1116352408, 1899447441, 3049323471, 3921009573, 961987163, 1508970993, 2453635748, 2870763221, 3624381080, 310598401, 607225278, 1426881987, 1925078388, 2162078206, 2614888103, 3248222580, 3835390401, 4022224774, 264347078, 604807628, 770255983, 1249150122, 1555081692, 1996064986, 2554220882, 2821834349, 2952996808, 3210313671, 3336571891, 3584528711, 113926993, 338241895, 666307205, 773529912, 1294757372, 1396182291, 1695183700, 1986661051, 2177026350, 2456956037, 2730485921, 2820302411, 3259730800, 3345764771, 3516065817, 3600352804, 4094571909, 275423344, 430227734, 506948616, 659060556, 883997877, 958139571, 1322822218, 1537002063, 1747873779, 1955562222, 2024104815, 2227730452, 2361852424, 2428436474, 2756734187, 3204031479, 3329325298]
def kW (t : Nat) : Wd := BitVec.ofNat 32 (kList.getD t 0)
def start : St := ⟨1779033703#32, 3144134277#32, 1013904242#32, 2773480762#32, 1359893119#32, 2600822924#32, 528734635#32, 1541459225#32⟩
/-- The words of a block of sixteen. -/
def sched (m : Nat → Wd) (t : Nat) : Wd := if t < 16 then m t else ssg1 (sched m (t - 2)) + sched m (t - 7) + ssg0 (sched m (t - 15)) + sched m (t - 16)
termination_by t
decreasing_by all_goals omega
theorem sched_low (m : Nat → Wd) {t : Nat} (h : t < 16) : sched m t = m t := by rw [sched, if_pos h]
theorem sched_up (m : Nat → Wd) {t : Nat} (h : ¬ t < 16) : sched m t = ssg1 (sched m (t - 2)) + sched m (t - 7) + ssg0 (sched m (t - 15)) + sched m (t - 16) := by rw [sched, if_neg h]
/-- The first i bytes of word t of a block. -/
def wordP (p : Nat → Nat) (t : Nat) : Nat → Wd
  | 0 => 0
  | i + 1 => wordP p t i * BitVec.ofNat 32 256 + BitVec.ofNat 32 (p (4 * t + i))
def takeB (s : St) (p : Nat → Nat) : St := addS s (rnds kW (sched (fun t => wordP p t 4)) s 64)
/-- How many bytes the message's blocks have. -/
def padLen (n : Nat) : Nat := (n + 8) / 64 * 64 + 64
/-- Byte i of the message's blocks. -/
def pad (f : Nat → Nat) (n i : Nat) : Nat := if i < n then f i else if i = n then 128 else if i < padLen n - 8 then 0 else (8 * n) / 256 ^ (padLen n - 1 - i) % 256
def hs (p : Nat → Nat) : Nat → St
  | 0 => start
  | k + 1 => takeB (hs p k) (fun i => p (64 * k + i))
def hashS (f : Nat → Nat) (n : Nat) : St := hs (pad f n) (padLen n / 64)
def St.w (s : St) : Nat → Wd
  | 0 => s.a
  | 1 => s.b
  | 2 => s.c
  | 3 => s.d
  | 4 => s.e
  | 5 => s.f
  | 6 => s.g
  | _ => s.h
/-- Byte i of a hash. -/
def hByte (s : St) (i : Nat) : Nat := (s.w (i / 4)).toNat / 256 ^ (3 - i % 4) % 256
end Go.Proofs.YtpokecijongkpaaDoor
namespace Go.Proofs.YtpokecijongkpaaDoor
set_option maxRecDepth 100000
open Go.RowKit
attribute [local go_sem ↓] Go.wp_at_zero Go.wp_at_succ
attribute [local go_sem] wn_or wn_and

theorem rot_of (x : Wd) (n : Nat) : wor (wshl x (32 - n)) (wshr x n) = rotr x n := by
  unfold wor wshl wshr rotr; exact BitVec.or_comm _ _
/-- A word that is shifted by a byte, and a byte laid behind it. -/
theorem shl8_or (x : Wd) (v : Nat) (hv : v < 256) : wor (wshl x 8) (BitVec.ofNat 32 v) = wadd (wmul x 256) (BitVec.ofNat 32 v) := by
  apply BitVec.eq_of_toNat_eq
  unfold wor wshl wadd wmul
  have hx := x.isLt
  rw [BitVec.toNat_or, BitVec.toNat_shiftLeft, BitVec.toNat_add, BitVec.toNat_mul, BitVec.toNat_ofNat, BitVec.toNat_ofNat, Nat.shiftLeft_eq, Nat.mod_eq_of_lt (show v < 2 ^ 32 by omega)]
  have e : x.toNat * 2 ^ 8 % 2 ^ 32 = (x.toNat % 16777216) <<< 8 := by rw [Nat.shiftLeft_eq]; omega
  rw [e, ← Nat.shiftLeft_add_eq_or_of_lt (show v < 2 ^ 8 by omega), Nat.shiftLeft_eq]
  omega
set_option maxHeartbeats 1000000 in
theorem rotl_2 (x : Wd) (w : World) : Calls Tryd.prog 70 #[.int .u32 (wn x), .int .i64 (-2)] w fun e w' => e = .returned (.int .u32 (wn (rotr x 2))) ∧ w' = w := by
  rw [← rot_of x 2]
  have h1 : wn x / 4 = wn (wshr x 2) := wn_shr x 2
  have h2 : wn x <<< 30 % 4294967296 = wn (wshl x 30) := wn_shl' x 30
  have h3 : wn x * 1073741824 % 4294967296 = wn (wshl x 30) := wn_shl x 30
  have hlo := wn_nn x
  have hhi := wn_lt x
  have hb : bits .and .u64 (IntKind.u64.wrap (-2)) 31 = 30 := by kernel_rfl
  go_enter Tryd.func70, Tryd.ntmps70
  go_wp2_with fail
  go_ret
  exact ⟨rfl, rfl⟩
set_option maxHeartbeats 1000000 in
theorem right_2 (x : Wd) (w : World) : Calls Tryd.prog 66 #[.int .u32 (wn x), .int .i64 2] w fun e w' => e = .returned (.int .u32 (wn (rotr x 2))) ∧ w' = w := by
  go_enter Tryd.func66, Tryd.ntmps66
  go_wp2_with (go_at_call 70; with_reducible refine Calls.mono (rotl_2 x _) ?_; rintro e w' ⟨rfl, rfl⟩)
  go_ret
  exact ⟨rfl, rfl⟩
set_option maxHeartbeats 1000000 in
theorem rotl_6 (x : Wd) (w : World) : Calls Tryd.prog 70 #[.int .u32 (wn x), .int .i64 (-6)] w fun e w' => e = .returned (.int .u32 (wn (rotr x 6))) ∧ w' = w := by
  rw [← rot_of x 6]
  have h1 : wn x / 64 = wn (wshr x 6) := wn_shr x 6
  have h2 : wn x <<< 26 % 4294967296 = wn (wshl x 26) := wn_shl' x 26
  have h3 : wn x * 67108864 % 4294967296 = wn (wshl x 26) := wn_shl x 26
  have hlo := wn_nn x
  have hhi := wn_lt x
  have hb : bits .and .u64 (IntKind.u64.wrap (-6)) 31 = 26 := by kernel_rfl
  go_enter Tryd.func70, Tryd.ntmps70
  go_wp2_with fail
  go_ret
  exact ⟨rfl, rfl⟩
set_option maxHeartbeats 1000000 in
theorem right_6 (x : Wd) (w : World) : Calls Tryd.prog 66 #[.int .u32 (wn x), .int .i64 6] w fun e w' => e = .returned (.int .u32 (wn (rotr x 6))) ∧ w' = w := by
  go_enter Tryd.func66, Tryd.ntmps66
  go_wp2_with (go_at_call 70; with_reducible refine Calls.mono (rotl_6 x _) ?_; rintro e w' ⟨rfl, rfl⟩)
  go_ret
  exact ⟨rfl, rfl⟩
set_option maxHeartbeats 1000000 in
theorem rotl_7 (x : Wd) (w : World) : Calls Tryd.prog 70 #[.int .u32 (wn x), .int .i64 (-7)] w fun e w' => e = .returned (.int .u32 (wn (rotr x 7))) ∧ w' = w := by
  rw [← rot_of x 7]
  have h1 : wn x / 128 = wn (wshr x 7) := wn_shr x 7
  have h2 : wn x <<< 25 % 4294967296 = wn (wshl x 25) := wn_shl' x 25
  have h3 : wn x * 33554432 % 4294967296 = wn (wshl x 25) := wn_shl x 25
  have hlo := wn_nn x
  have hhi := wn_lt x
  have hb : bits .and .u64 (IntKind.u64.wrap (-7)) 31 = 25 := by kernel_rfl
  go_enter Tryd.func70, Tryd.ntmps70
  go_wp2_with fail
  go_ret
  exact ⟨rfl, rfl⟩
set_option maxHeartbeats 1000000 in
theorem right_7 (x : Wd) (w : World) : Calls Tryd.prog 66 #[.int .u32 (wn x), .int .i64 7] w fun e w' => e = .returned (.int .u32 (wn (rotr x 7))) ∧ w' = w := by
  go_enter Tryd.func66, Tryd.ntmps66
  go_wp2_with (go_at_call 70; with_reducible refine Calls.mono (rotl_7 x _) ?_; rintro e w' ⟨rfl, rfl⟩)
  go_ret
  exact ⟨rfl, rfl⟩
set_option maxHeartbeats 1000000 in
theorem rotl_11 (x : Wd) (w : World) : Calls Tryd.prog 70 #[.int .u32 (wn x), .int .i64 (-11)] w fun e w' => e = .returned (.int .u32 (wn (rotr x 11))) ∧ w' = w := by
  rw [← rot_of x 11]
  have h1 : wn x / 2048 = wn (wshr x 11) := wn_shr x 11
  have h2 : wn x <<< 21 % 4294967296 = wn (wshl x 21) := wn_shl' x 21
  have h3 : wn x * 2097152 % 4294967296 = wn (wshl x 21) := wn_shl x 21
  have hlo := wn_nn x
  have hhi := wn_lt x
  have hb : bits .and .u64 (IntKind.u64.wrap (-11)) 31 = 21 := by kernel_rfl
  go_enter Tryd.func70, Tryd.ntmps70
  go_wp2_with fail
  go_ret
  exact ⟨rfl, rfl⟩
set_option maxHeartbeats 1000000 in
theorem right_11 (x : Wd) (w : World) : Calls Tryd.prog 66 #[.int .u32 (wn x), .int .i64 11] w fun e w' => e = .returned (.int .u32 (wn (rotr x 11))) ∧ w' = w := by
  go_enter Tryd.func66, Tryd.ntmps66
  go_wp2_with (go_at_call 70; with_reducible refine Calls.mono (rotl_11 x _) ?_; rintro e w' ⟨rfl, rfl⟩)
  go_ret
  exact ⟨rfl, rfl⟩
set_option maxHeartbeats 1000000 in
theorem rotl_13 (x : Wd) (w : World) : Calls Tryd.prog 70 #[.int .u32 (wn x), .int .i64 (-13)] w fun e w' => e = .returned (.int .u32 (wn (rotr x 13))) ∧ w' = w := by
  rw [← rot_of x 13]
  have h1 : wn x / 8192 = wn (wshr x 13) := wn_shr x 13
  have h2 : wn x <<< 19 % 4294967296 = wn (wshl x 19) := wn_shl' x 19
  have h3 : wn x * 524288 % 4294967296 = wn (wshl x 19) := wn_shl x 19
  have hlo := wn_nn x
  have hhi := wn_lt x
  have hb : bits .and .u64 (IntKind.u64.wrap (-13)) 31 = 19 := by kernel_rfl
  go_enter Tryd.func70, Tryd.ntmps70
  go_wp2_with fail
  go_ret
  exact ⟨rfl, rfl⟩
set_option maxHeartbeats 1000000 in
theorem right_13 (x : Wd) (w : World) : Calls Tryd.prog 66 #[.int .u32 (wn x), .int .i64 13] w fun e w' => e = .returned (.int .u32 (wn (rotr x 13))) ∧ w' = w := by
  go_enter Tryd.func66, Tryd.ntmps66
  go_wp2_with (go_at_call 70; with_reducible refine Calls.mono (rotl_13 x _) ?_; rintro e w' ⟨rfl, rfl⟩)
  go_ret
  exact ⟨rfl, rfl⟩
set_option maxHeartbeats 1000000 in
theorem rotl_17 (x : Wd) (w : World) : Calls Tryd.prog 70 #[.int .u32 (wn x), .int .i64 (-17)] w fun e w' => e = .returned (.int .u32 (wn (rotr x 17))) ∧ w' = w := by
  rw [← rot_of x 17]
  have h1 : wn x / 131072 = wn (wshr x 17) := wn_shr x 17
  have h2 : wn x <<< 15 % 4294967296 = wn (wshl x 15) := wn_shl' x 15
  have h3 : wn x * 32768 % 4294967296 = wn (wshl x 15) := wn_shl x 15
  have hlo := wn_nn x
  have hhi := wn_lt x
  have hb : bits .and .u64 (IntKind.u64.wrap (-17)) 31 = 15 := by kernel_rfl
  go_enter Tryd.func70, Tryd.ntmps70
  go_wp2_with fail
  go_ret
  exact ⟨rfl, rfl⟩
set_option maxHeartbeats 1000000 in
theorem right_17 (x : Wd) (w : World) : Calls Tryd.prog 66 #[.int .u32 (wn x), .int .i64 17] w fun e w' => e = .returned (.int .u32 (wn (rotr x 17))) ∧ w' = w := by
  go_enter Tryd.func66, Tryd.ntmps66
  go_wp2_with (go_at_call 70; with_reducible refine Calls.mono (rotl_17 x _) ?_; rintro e w' ⟨rfl, rfl⟩)
  go_ret
  exact ⟨rfl, rfl⟩
set_option maxHeartbeats 1000000 in
theorem rotl_18 (x : Wd) (w : World) : Calls Tryd.prog 70 #[.int .u32 (wn x), .int .i64 (-18)] w fun e w' => e = .returned (.int .u32 (wn (rotr x 18))) ∧ w' = w := by
  rw [← rot_of x 18]
  have h1 : wn x / 262144 = wn (wshr x 18) := wn_shr x 18
  have h2 : wn x <<< 14 % 4294967296 = wn (wshl x 14) := wn_shl' x 14
  have h3 : wn x * 16384 % 4294967296 = wn (wshl x 14) := wn_shl x 14
  have hlo := wn_nn x
  have hhi := wn_lt x
  have hb : bits .and .u64 (IntKind.u64.wrap (-18)) 31 = 14 := by kernel_rfl
  go_enter Tryd.func70, Tryd.ntmps70
  go_wp2_with fail
  go_ret
  exact ⟨rfl, rfl⟩
set_option maxHeartbeats 1000000 in
theorem right_18 (x : Wd) (w : World) : Calls Tryd.prog 66 #[.int .u32 (wn x), .int .i64 18] w fun e w' => e = .returned (.int .u32 (wn (rotr x 18))) ∧ w' = w := by
  go_enter Tryd.func66, Tryd.ntmps66
  go_wp2_with (go_at_call 70; with_reducible refine Calls.mono (rotl_18 x _) ?_; rintro e w' ⟨rfl, rfl⟩)
  go_ret
  exact ⟨rfl, rfl⟩
set_option maxHeartbeats 1000000 in
theorem rotl_19 (x : Wd) (w : World) : Calls Tryd.prog 70 #[.int .u32 (wn x), .int .i64 (-19)] w fun e w' => e = .returned (.int .u32 (wn (rotr x 19))) ∧ w' = w := by
  rw [← rot_of x 19]
  have h1 : wn x / 524288 = wn (wshr x 19) := wn_shr x 19
  have h2 : wn x <<< 13 % 4294967296 = wn (wshl x 13) := wn_shl' x 13
  have h3 : wn x * 8192 % 4294967296 = wn (wshl x 13) := wn_shl x 13
  have hlo := wn_nn x
  have hhi := wn_lt x
  have hb : bits .and .u64 (IntKind.u64.wrap (-19)) 31 = 13 := by kernel_rfl
  go_enter Tryd.func70, Tryd.ntmps70
  go_wp2_with fail
  go_ret
  exact ⟨rfl, rfl⟩
set_option maxHeartbeats 1000000 in
theorem right_19 (x : Wd) (w : World) : Calls Tryd.prog 66 #[.int .u32 (wn x), .int .i64 19] w fun e w' => e = .returned (.int .u32 (wn (rotr x 19))) ∧ w' = w := by
  go_enter Tryd.func66, Tryd.ntmps66
  go_wp2_with (go_at_call 70; with_reducible refine Calls.mono (rotl_19 x _) ?_; rintro e w' ⟨rfl, rfl⟩)
  go_ret
  exact ⟨rfl, rfl⟩
set_option maxHeartbeats 1000000 in
theorem rotl_22 (x : Wd) (w : World) : Calls Tryd.prog 70 #[.int .u32 (wn x), .int .i64 (-22)] w fun e w' => e = .returned (.int .u32 (wn (rotr x 22))) ∧ w' = w := by
  rw [← rot_of x 22]
  have h1 : wn x / 4194304 = wn (wshr x 22) := wn_shr x 22
  have h2 : wn x <<< 10 % 4294967296 = wn (wshl x 10) := wn_shl' x 10
  have h3 : wn x * 1024 % 4294967296 = wn (wshl x 10) := wn_shl x 10
  have hlo := wn_nn x
  have hhi := wn_lt x
  have hb : bits .and .u64 (IntKind.u64.wrap (-22)) 31 = 10 := by kernel_rfl
  go_enter Tryd.func70, Tryd.ntmps70
  go_wp2_with fail
  go_ret
  exact ⟨rfl, rfl⟩
set_option maxHeartbeats 1000000 in
theorem right_22 (x : Wd) (w : World) : Calls Tryd.prog 66 #[.int .u32 (wn x), .int .i64 22] w fun e w' => e = .returned (.int .u32 (wn (rotr x 22))) ∧ w' = w := by
  go_enter Tryd.func66, Tryd.ntmps66
  go_wp2_with (go_at_call 70; with_reducible refine Calls.mono (rotl_22 x _) ?_; rintro e w' ⟨rfl, rfl⟩)
  go_ret
  exact ⟨rfl, rfl⟩
set_option maxHeartbeats 1000000 in
theorem rotl_25 (x : Wd) (w : World) : Calls Tryd.prog 70 #[.int .u32 (wn x), .int .i64 (-25)] w fun e w' => e = .returned (.int .u32 (wn (rotr x 25))) ∧ w' = w := by
  rw [← rot_of x 25]
  have h1 : wn x / 33554432 = wn (wshr x 25) := wn_shr x 25
  have h2 : wn x <<< 7 % 4294967296 = wn (wshl x 7) := wn_shl' x 7
  have h3 : wn x * 128 % 4294967296 = wn (wshl x 7) := wn_shl x 7
  have hlo := wn_nn x
  have hhi := wn_lt x
  have hb : bits .and .u64 (IntKind.u64.wrap (-25)) 31 = 7 := by kernel_rfl
  go_enter Tryd.func70, Tryd.ntmps70
  go_wp2_with fail
  go_ret
  exact ⟨rfl, rfl⟩
set_option maxHeartbeats 1000000 in
theorem right_25 (x : Wd) (w : World) : Calls Tryd.prog 66 #[.int .u32 (wn x), .int .i64 25] w fun e w' => e = .returned (.int .u32 (wn (rotr x 25))) ∧ w' = w := by
  go_enter Tryd.func66, Tryd.ntmps66
  go_wp2_with (go_at_call 70; with_reducible refine Calls.mono (rotl_25 x _) ?_; rintro e w' ⟨rfl, rfl⟩)
  go_ret
  exact ⟨rfl, rfl⟩
theorem wn_not' (x : Wd) : bits .xor .u32 IntKind.u32.max (wn x) = wn (wnot x) := by
  have h : IntKind.u32.max = wn (4294967295#32) := by kernel_rfl
  rw [h, wn_xor]
  congr 1
set_option maxHeartbeats 1000000 in
theorem choice_any (x y z : Wd) (w : World) : Calls Tryd.prog 67 #[.int .u32 (wn x), .int .u32 (wn y), .int .u32 (wn z)] w fun e w' => e = .returned (.int .u32 (wn (chW x y z))) ∧ w' = w := by
  have n2 := wn_not' x
  go_enter Tryd.func67, Tryd.ntmps67
  go_wp2_with fail
  go_ret
  exact ⟨rfl, rfl⟩
set_option maxHeartbeats 1000000 in
theorem majority_any (x y z : Wd) (w : World) : Calls Tryd.prog 68 #[.int .u32 (wn x), .int .u32 (wn y), .int .u32 (wn z)] w fun e w' => e = .returned (.int .u32 (wn (majW x y z))) ∧ w' = w := by
  go_enter Tryd.func68, Tryd.ntmps68
  go_wp2_with fail
  go_ret
  exact ⟨rfl, rfl⟩
end Go.Proofs.YtpokecijongkpaaDoor
namespace Go.Proofs.YtpokecijongkpaaDoor
set_option maxRecDepth 100000
open Go.RowKit
attribute [local go_sem ↓] Go.wp_at_zero Go.wp_at_succ
attribute [local go_sem] wn_or

set_option maxHeartbeats 1000000 in
theorem turned_2 (x : Wd) (w : World) : Calls Tryd.prog 55 #[.int .u32 (wn x), .int .u32 2] w fun e w' => e = .returned (.int .u32 (wn (rotr x 2))) ∧ w' = w := by
  have h1 : wn x / 4 = wn (wshr x 2) := wn_shr x 2
  have h2 : wn x <<< 30 % 4294967296 = wn (wshl x 30) := wn_shl' x 30
  have h3 : wn x * 1073741824 % 4294967296 = wn (wshl x 30) := wn_shl x 30
  have hlo := wn_nn x
  have hhi := wn_lt x
  go_enter Tryd.func55, Tryd.ntmps55
  go_wp2_with fail
  go_ret
  exact ⟨rfl, rfl⟩
set_option maxHeartbeats 1000000 in
theorem turned_6 (x : Wd) (w : World) : Calls Tryd.prog 55 #[.int .u32 (wn x), .int .u32 6] w fun e w' => e = .returned (.int .u32 (wn (rotr x 6))) ∧ w' = w := by
  have h1 : wn x / 64 = wn (wshr x 6) := wn_shr x 6
  have h2 : wn x <<< 26 % 4294967296 = wn (wshl x 26) := wn_shl' x 26
  have h3 : wn x * 67108864 % 4294967296 = wn (wshl x 26) := wn_shl x 26
  have hlo := wn_nn x
  have hhi := wn_lt x
  go_enter Tryd.func55, Tryd.ntmps55
  go_wp2_with fail
  go_ret
  exact ⟨rfl, rfl⟩
set_option maxHeartbeats 1000000 in
theorem turned_7 (x : Wd) (w : World) : Calls Tryd.prog 55 #[.int .u32 (wn x), .int .u32 7] w fun e w' => e = .returned (.int .u32 (wn (rotr x 7))) ∧ w' = w := by
  have h1 : wn x / 128 = wn (wshr x 7) := wn_shr x 7
  have h2 : wn x <<< 25 % 4294967296 = wn (wshl x 25) := wn_shl' x 25
  have h3 : wn x * 33554432 % 4294967296 = wn (wshl x 25) := wn_shl x 25
  have hlo := wn_nn x
  have hhi := wn_lt x
  go_enter Tryd.func55, Tryd.ntmps55
  go_wp2_with fail
  go_ret
  exact ⟨rfl, rfl⟩
set_option maxHeartbeats 1000000 in
theorem turned_11 (x : Wd) (w : World) : Calls Tryd.prog 55 #[.int .u32 (wn x), .int .u32 11] w fun e w' => e = .returned (.int .u32 (wn (rotr x 11))) ∧ w' = w := by
  have h1 : wn x / 2048 = wn (wshr x 11) := wn_shr x 11
  have h2 : wn x <<< 21 % 4294967296 = wn (wshl x 21) := wn_shl' x 21
  have h3 : wn x * 2097152 % 4294967296 = wn (wshl x 21) := wn_shl x 21
  have hlo := wn_nn x
  have hhi := wn_lt x
  go_enter Tryd.func55, Tryd.ntmps55
  go_wp2_with fail
  go_ret
  exact ⟨rfl, rfl⟩
set_option maxHeartbeats 1000000 in
theorem turned_13 (x : Wd) (w : World) : Calls Tryd.prog 55 #[.int .u32 (wn x), .int .u32 13] w fun e w' => e = .returned (.int .u32 (wn (rotr x 13))) ∧ w' = w := by
  have h1 : wn x / 8192 = wn (wshr x 13) := wn_shr x 13
  have h2 : wn x <<< 19 % 4294967296 = wn (wshl x 19) := wn_shl' x 19
  have h3 : wn x * 524288 % 4294967296 = wn (wshl x 19) := wn_shl x 19
  have hlo := wn_nn x
  have hhi := wn_lt x
  go_enter Tryd.func55, Tryd.ntmps55
  go_wp2_with fail
  go_ret
  exact ⟨rfl, rfl⟩
set_option maxHeartbeats 1000000 in
theorem turned_17 (x : Wd) (w : World) : Calls Tryd.prog 55 #[.int .u32 (wn x), .int .u32 17] w fun e w' => e = .returned (.int .u32 (wn (rotr x 17))) ∧ w' = w := by
  have h1 : wn x / 131072 = wn (wshr x 17) := wn_shr x 17
  have h2 : wn x <<< 15 % 4294967296 = wn (wshl x 15) := wn_shl' x 15
  have h3 : wn x * 32768 % 4294967296 = wn (wshl x 15) := wn_shl x 15
  have hlo := wn_nn x
  have hhi := wn_lt x
  go_enter Tryd.func55, Tryd.ntmps55
  go_wp2_with fail
  go_ret
  exact ⟨rfl, rfl⟩
set_option maxHeartbeats 1000000 in
theorem turned_18 (x : Wd) (w : World) : Calls Tryd.prog 55 #[.int .u32 (wn x), .int .u32 18] w fun e w' => e = .returned (.int .u32 (wn (rotr x 18))) ∧ w' = w := by
  have h1 : wn x / 262144 = wn (wshr x 18) := wn_shr x 18
  have h2 : wn x <<< 14 % 4294967296 = wn (wshl x 14) := wn_shl' x 14
  have h3 : wn x * 16384 % 4294967296 = wn (wshl x 14) := wn_shl x 14
  have hlo := wn_nn x
  have hhi := wn_lt x
  go_enter Tryd.func55, Tryd.ntmps55
  go_wp2_with fail
  go_ret
  exact ⟨rfl, rfl⟩
set_option maxHeartbeats 1000000 in
theorem turned_19 (x : Wd) (w : World) : Calls Tryd.prog 55 #[.int .u32 (wn x), .int .u32 19] w fun e w' => e = .returned (.int .u32 (wn (rotr x 19))) ∧ w' = w := by
  have h1 : wn x / 524288 = wn (wshr x 19) := wn_shr x 19
  have h2 : wn x <<< 13 % 4294967296 = wn (wshl x 13) := wn_shl' x 13
  have h3 : wn x * 8192 % 4294967296 = wn (wshl x 13) := wn_shl x 13
  have hlo := wn_nn x
  have hhi := wn_lt x
  go_enter Tryd.func55, Tryd.ntmps55
  go_wp2_with fail
  go_ret
  exact ⟨rfl, rfl⟩
set_option maxHeartbeats 1000000 in
theorem turned_22 (x : Wd) (w : World) : Calls Tryd.prog 55 #[.int .u32 (wn x), .int .u32 22] w fun e w' => e = .returned (.int .u32 (wn (rotr x 22))) ∧ w' = w := by
  have h1 : wn x / 4194304 = wn (wshr x 22) := wn_shr x 22
  have h2 : wn x <<< 10 % 4294967296 = wn (wshl x 10) := wn_shl' x 10
  have h3 : wn x * 1024 % 4294967296 = wn (wshl x 10) := wn_shl x 10
  have hlo := wn_nn x
  have hhi := wn_lt x
  go_enter Tryd.func55, Tryd.ntmps55
  go_wp2_with fail
  go_ret
  exact ⟨rfl, rfl⟩
set_option maxHeartbeats 1000000 in
theorem turned_25 (x : Wd) (w : World) : Calls Tryd.prog 55 #[.int .u32 (wn x), .int .u32 25] w fun e w' => e = .returned (.int .u32 (wn (rotr x 25))) ∧ w' = w := by
  have h1 : wn x / 33554432 = wn (wshr x 25) := wn_shr x 25
  have h2 : wn x <<< 7 % 4294967296 = wn (wshl x 7) := wn_shl' x 7
  have h3 : wn x * 128 % 4294967296 = wn (wshl x 7) := wn_shl x 7
  have hlo := wn_nn x
  have hhi := wn_lt x
  go_enter Tryd.func55, Tryd.ntmps55
  go_wp2_with fail
  go_ret
  exact ⟨rfl, rfl⟩
end Go.Proofs.YtpokecijongkpaaDoor
namespace Go.Proofs.YtpokecijongkpaaDoor
set_option maxRecDepth 100000
open Go.RowKit
attribute [local go_sem ↓] Go.wp_at_zero Go.wp_at_succ

/-- n words, as cells. -/
def aw (f : Nat → Wd) (n : Nat) : List Value := (List.range n).map (fun t => Value.int .u32 (wn (f t)))
theorem aw_len (f : Nat → Wd) (n : Nat) : (aw f n).length = n := by simp [aw]
theorem aw_at (f : Nat → Wd) {n i : Nat} (h : i < n) : (aw f n)[i]? = some (.int .u32 (wn (f i))) := by simp [aw, h]
theorem aw_one (f : Nat → Wd) (n : Nat) : ∀ v ∈ aw f n, v.oneCell' = true := by
  intro v hv
  simp only [aw, List.mem_map] at hv
  obtain ⟨i, _, rfl⟩ := hv
  rfl
theorem aw_congr {f g : Nat → Wd} {n : Nat} (h : ∀ i, i < n → f i = g i) : aw f n = aw g n := by
  unfold aw
  apply List.map_congr_left
  intro i hi
  rw [h i (List.mem_range.1 hi)]
/-- A row of n words that may be written. -/
structure RowW (w : World) (b n : Nat) (f : Nat → Wd) : Prop where
  lt : b < w.heap.size
  c : ∀ i, i < n → w.cell? ⟨b, i, none⟩ = some (.int .u32 (wn (f i)))
  z : ∀ i, i < n → w.frozen? ⟨b, i, none⟩ = false
theorem RowW.keep {W w1 : World} {b n : Nat} {f : Nat → Wd} (h : RowW W b n f) (hb : Below W.heap.size W w1) : RowW w1 b n f :=
  ⟨Nat.lt_of_lt_of_le h.lt hb.size, fun i hi => later hb (h.c i hi), fun i hi => (hb.frozen (p := ⟨b, i, none⟩) h.lt).trans (h.z i hi)⟩
theorem RowW.congr {w : World} {b n : Nat} {f g : Nat → Wd} (h : RowW w b n f) (e : ∀ i, i < n → f i = g i) : RowW w b n g :=
  ⟨h.lt, fun i hi => by rw [← e i hi]; exact h.c i hi, h.z⟩
theorem RowW.store {w : World} {b n : Nat} {f : Nat → Wd} (h : RowW w b n f) (k : Nat) (hk : k < n) (v : Wd) : RowW (w.setCell ⟨b, k, none⟩ (.int .u32 (wn v))) b n (fun i => if i = k then v else f i) := by
  refine ⟨by simpa using h.lt, fun i hi => ?_, fun i hi => by rw [World.frozen?_setCell]; exact h.z i hi⟩
  have hc := h.c i hi
  have hcs := h.c k hk
  by_cases e : i = k
  · subst e; simp [go_sem, hc]
  · simp [go_sem, hc, e]
theorem RowW.other {w : World} {b n : Nat} {f : Nat → Wd} (h : RowW w b n f) {g : Nat} (hg : b ≠ g) (k : Nat) (v : Value) : RowW (w.setCell ⟨g, k, none⟩ v) b n f :=
  ⟨by simpa using h.lt, fun i hi => by rw [World.cell?_setCell_other _ _ _ _ (by intro e; injection e with e1; exact hg e1.symm)]; exact h.c i hi, fun i hi => by rw [World.frozen?_setCell]; exact h.z i hi⟩
theorem RowW.range {w : World} {b n : Nat} {f : Nat → Wd} (h : RowW w b n f) : w.rangeAt b 0 (aw f n) := fun j v hv => by
  have hj : j < n := by
    rcases Nat.lt_or_ge j n with h' | h'
    · exact h'
    · rw [List.getElem?_eq_none (by rw [aw_len]; exact h')] at hv; cases hv
  rw [aw_at f hj] at hv
  rw [Nat.zero_add, h.c j hj]; exact hv
theorem RowW.there {w : World} {b n : Nat} {f : Nat → Wd} (h : RowW w b n f) : w.there b 0 n := fun j hj => by
  rw [Nat.zero_add, h.c j hj, h.z j hj]; exact ⟨rfl, rfl⟩
theorem size_setCells (b : Nat) : ∀ (vs : List Value) (o : Nat) (w : World), (w.setCells b o vs).heap.size = w.heap.size
  | [], _, _ => rfl
  | v :: r, o, w => by rw [World.setCells, size_setCells b r]; simp
theorem RowW.stored {w : World} {b n : Nat} {f : Nat → Wd} (h : RowW w b n f) (g : Nat → Wd) : RowW (w.setCells b 0 (aw g n)) b n g := by
  have ht : w.there b 0 (aw g n).length := by rw [aw_len]; exact h.there
  have hr := World.rangeAt_setCells_same w b 0 (aw g n) ht
  refine ⟨by rw [size_setCells]; exact h.lt, fun i hi => ?_, fun i hi => by rw [World.frozen?_setCells]; exact h.z i hi⟩
  have := hr i _ (aw_at g hi)
  rwa [Nat.zero_add] at this
/-- A new row. -/
theorem RowW.made (w : World) (t : TypeId) (n : Nat) (f : Nat → Wd) (cs : Array Value) (h : cs = (aw f n).toArray) : RowW (w.alloc (.cells cs t)) w.heap.size n f := by
  subst h
  refine ⟨by simp, fun i hi => ?_, fun i _ => ?_⟩
  · rw [cell_of_row _ _ _ _ _ _ (heap_alloc_new w _)]
    have := aw_at f hi
    simpa using this
  · exact frozen_of_row _ _ _ _ _ (heap_alloc_new w _)
/-- A whole array into the block that was made last. -/
theorem wpList_store_new {P : Program} {W : World} {ops : Array Oper} {rest : List Oper} {op : Oper} {a : Act} {Q : Exit → Act → World → Prop} (hgd : op.guard = none) (t : TypeId) (x y : Operand) (ho : op.op = .store t x y)
    (c c' : Array Value) (hx : a.eval x = .pointer (some ⟨W.heap.size, 0, none⟩)) (hy : a.eval y = .agg c') (hi : (P.info? t).map (·.size) = some c'.size) (hs : c.size = c'.size) (h1 : c'.all (·.oneCell') = true)
    (h : wpList P ops Q rest (a.put op.dst undef) (W.alloc (.cells c' t))) : wpList P ops Q (op :: rest) a (W.alloc (.cells c t)) := by
  refine wpList_plain hgd fun K hK => ?_
  unfold Oper.wp execOp
  simp only [ho, hx, hy, Instr.storeAt, Instr.sureAddr, Sem.run_bind, Sem.run_pure, Result.andThen_ok, run_storeVar_new W t c c' hi hs h1]
  exact hK _ _ h
theorem results_cell_mid {P : Program} {fn : Func} {p : Tmp} {ty : TypeId} (h : fn.results = #[.cell p ty]) (tmps : Array Value) (w : World) (b : Nat) (cs : List Value) (d : TypeDesc)
    (hp : tmps.getD p undef = .pointer (some ⟨b, 0, none⟩)) (hc : w.rangeAt b 0 cs) (hu : P.underlying ty = some d) (hd : d.isRow = true) (hi : (P.info? ty).map (·.size) = some cs.length) :
    (results fn tmps).run P w = .ok (.agg cs.toArray) w := by
  have hp' : tmps[p]?.getD undef = .pointer (some ⟨b, 0, none⟩) := by simpa using hp
  simp [results, h, hp', asAddr, run_loadVar_mid w b 0 ty cs d hc hu hd hi]
theorem wn_wrap (x : Wd) : IntKind.u32.wrap (wn x) = wn x := by
  have := wn_nn x
  have := wn_lt x
  rw [IntKind.wrap_u32']; omega
theorem info8W : (Tryd.prog.info? 58).map (·.size) = some 8 := by kernel_rfl
theorem info64W : (Tryd.prog.info? 83).map (·.size) = some 64 := by kernel_rfl
set_option maxHeartbeats 4000000 in
theorem refStart_any (w : World) : Calls Tryd.prog 38 #[] w fun e w' => e = .returned (.agg (aw start.w 8).toArray) ∧ Below w.heap.size w w' := by
  go_enter Tryd.func38, Tryd.ntmps38
  go_wp2_with fail
  refine bodyPost_ret (results_cell_row Tryd.results38 _ _ w.heap.size _ _ _ _ rfl (heap_alloc_new w _) Tryd.underlying58 rfl info8W) rfl ⟨?_, K.alloc (Below.refl _ _) _⟩
  kernel_rfl
set_option maxRecDepth 100000 in
set_option maxHeartbeats 8000000 in
theorem refK_any (w : World) : Calls Tryd.prog 54 #[] w fun e w' => e = .returned (.agg (aw kW 64).toArray) ∧ Below w.heap.size w w' := by
  go_enter Tryd.func54, Tryd.ntmps54
  go_upto_region 1 with fail
  go_wp2_with (first
    | (refine wpList_build rfl 83 _ rfl (aw kW 64).toArray (by kernel_rfl) ?_)
    | (refine wpList_store_new rfl 83 _ _ rfl _ (aw kW 64).toArray rfl rfl info64W (by kernel_rfl) (by kernel_rfl) ?_))
  refine bodyPost_ret (results_cell_row Tryd.results54 _ _ w.heap.size _ _ _ _ rfl (heap_alloc_new w _) Tryd.underlying83 rfl info64W) rfl ⟨rfl, K.alloc (Below.refl _ _) _⟩
end Go.Proofs.YtpokecijongkpaaDoor
namespace Go.Proofs.YtpokecijongkpaaDoor
set_option maxRecDepth 100000
open Go.RowKit
attribute [local go_sem ↓] Go.wp_at_zero Go.wp_at_succ
theorem wn_mod (x : Wd) : wn x % 4294967296 = wn x := by
  have := wn_nn x
  have := wn_lt x
  omega
theorem wn_add' (x y : Wd) : (wn x + wn y) % 4294967296 = wn (wadd x y) := by rw [← wn_add, IntKind.wrap_u32']
attribute [local go_sem] wn_add wn_xor wn_wrap wn_mod wn_add'

/-- The region ends in one way. -/
def Only (A : Act) (W : World) : Exit → Act → World → Prop
  | .normal, a, w => a = A ∧ w = W
  | _, _, _ => False
theorem Only.intro (A : Act) (W : World) : Only A W .normal A W := ⟨rfl, rfl⟩
theorem Only.out {A : Act} {W : World} {Q : Exit → Act → World → Prop} (h : Q .normal A W) : ∀ e a w, Only A W e a w → Q e a w := by
  intro e a w hq
  cases e <;> first | exact (hq : False).elim | (obtain ⟨rfl, rfl⟩ := hq; exact h)
/-- The words, as far as they are filled in. -/
def w1 (p : Nat → Nat) (t i j : Nat) : Wd := if j < t then wordP p j 4 else if j = t then wordP p t i else 0
def w2 (m : Nat → Wd) (t j : Nat) : Wd := if j < t then sched m j else 0
theorem zeros64 : (#[.int .u32 0, .int .u32 0, .int .u32 0, .int .u32 0, .int .u32 0, .int .u32 0, .int .u32 0, .int .u32 0, .int .u32 0, .int .u32 0, .int .u32 0, .int .u32 0, .int .u32 0, .int .u32 0, .int .u32 0, .int .u32 0, .int .u32 0, .int .u32 0, .int .u32 0, .int .u32 0, .int .u32 0, .int .u32 0, .int .u32 0, .int .u32 0, .int .u32 0, .int .u32 0, .int .u32 0, .int .u32 0, .int .u32 0, .int .u32 0, .int .u32 0, .int .u32 0, .int .u32 0, .int .u32 0, .int .u32 0, .int .u32 0, .int .u32 0, .int .u32 0, .int .u32 0, .int .u32 0, .int .u32 0, .int .u32 0, .int .u32 0, .int .u32 0, .int .u32 0, .int .u32 0, .int .u32 0, .int .u32 0, .int .u32 0, .int .u32 0, .int .u32 0, .int .u32 0, .int .u32 0, .int .u32 0, .int .u32 0, .int .u32 0, .int .u32 0, .int .u32 0, .int .u32 0, .int .u32 0, .int .u32 0, .int .u32 0, .int .u32 0, .int .u32 0] : Array Value) = (aw (fun _ => 0) 64).toArray := by kernel_rfl

theorem below_setCells {w w' : World} {b : Nat} : ∀ (vs : List Value) (o : Nat), Below w.heap.size w w' → w.heap.size ≤ b → Below w.heap.size w (w'.setCells b o vs) := by
  intro vs
  induction vs generalizing w' with
  | nil => intro o h _; exact h
  | cons v r ih => intro o h hb; rw [World.setCells]; exact ih (o + 1) (K.set h hb v) hb
set_option maxRecDepth 100000 in
set_option maxHeartbeats 8000000 in
theorem refWords_any {b o cap : Nat} {p : Nat → Nat} (hp : ∀ i, p i < 256) {w : World} (hD : Rd w b o 64 (fun i => ((p i : Nat) : Int))) :
    Calls Tryd.prog 53 #[.slice (some ⟨b, o, none⟩) 64 cap] w fun e w' => e = .returned (.agg (aw (sched (fun t => wordP p t 4)) 64).toArray) ∧ Below w.heap.size w w' := by
  have HP : Hid (∀ i, p i < 256) := hp
  have HD : Hid (Rd w b o 64 (fun i => ((p i : Nat) : Int))) := hD
  clear hp hD
  go_enter Tryd.func53, Tryd.ntmps53
  go_wp2_with fail
  go_loopg [4] 16 (fun g s4 wr => ∃ t : Nat, g = 16 - t ∧ t ≤ 16 ∧ s4 = .int .i64 t ∧ RowW wr w.heap.size 64 (fun _ => 0) ∧ RowW wr (w.heap.size + 1) 64 (w1 p t 0) ∧ Below w.heap.size w wr)
  case atStart => exact ⟨0, rfl, by omega, rfl, (RowW.made w _ 64 (fun _ => 0) _ zeros64).keep (K.alloc (Below.refl _ _) _), by
    have h := RowW.made (w.alloc (.cells (aw (fun _ => 0) 64).toArray 83)) 83 64 (w1 p 0 0) _ (zeros64.trans (by rw [aw_congr (g := w1 p 0 0) (fun i _ => by unfold w1; rw [if_neg (by omega)]; split <;> rfl)]))
    rw [← zeros64] at h
    simpa using h, K.alloc (K.alloc (Below.refl _ _) _) _⟩
  case round =>
    obtain ⟨t, rfl, ht, rfl, hR, hW, hB⟩ := hrel
    by_cases hlt : t < 16
    · have hti : (t : Int) < 16 := by omega
      have HT : Hid (t < 16) := hlt
      clear hlt ht
      go_wp2_with fail
      go_loopg [5] 4 (fun g s5 wr => ∃ i : Nat, g = 4 - i ∧ i ≤ 4 ∧ s5 = .int .i64 i ∧ RowW wr w.heap.size 64 (fun _ => 0) ∧ RowW wr (w.heap.size + 1) 64 (w1 p t i) ∧ Below w.heap.size w wr)
      case atStart => exact ⟨0, rfl, by omega, rfl, hR, hW, hB⟩
      case round =>
        clear hR hW hB
        obtain ⟨i, rfl, hi, rfl, hR, hW, hB⟩ := hrel
        by_cases hlt : i < 4
        · have hii : (i : Int) < 4 := by omega
          have hcW := hW.c t (by have := HT.out; omega)
          have hzW := hW.z t (by have := HT.out; omega)
          obtain ⟨m, hm⟩ : ∃ m, m = 4 * t + i := ⟨_, rfl⟩
          have hcb := (HD.out.keep hB).c m (by have := HT.out; omega)
          rw [← wn_of (p m) (by have := HP.out m; omega)] at hcb
          obtain ⟨y, hy⟩ : ∃ y : Wd, y = BitVec.ofNat 32 (p m) := ⟨_, rfl⟩
          rw [← hy] at hcb
          have hx : w1 p t i t = wordP p t i := by unfold w1; rw [if_neg (by omega), if_pos rfl]
          rw [hx] at hcW
          have HX : Hid (wadd (wmul (wordP p t i) 256) y = wordP p t (i + 1)) := by show _ = _; rw [hy, hm]; rfl
          obtain ⟨x, hx'⟩ : ∃ x : Wd, x = wordP p t i := ⟨_, rfl⟩
          rw [← hx'] at hcW HX
          have hmul : IntKind.u32.wrap (wn x * 256) = wn (wmul x 256) := wn_mul x 256
          have hmI : (4 : Int) * (t : Int) + (i : Int) = (m : Int) := by omega
          have hml : (m : Int) < 64 := by have := HT.out; omega
          have hmn : m < 64 := by omega
          have htn : t < 64 := by have := HT.out; omega
          have hw1 : IntKind.i64.wrap (4 * (t : Int)) = 4 * (t : Int) := by rw [IntKind.wrap_i64]; omega
          have hw2 : IntKind.i64.wrap (m : Int) = (m : Int) := by rw [IntKind.wrap_i64]; omega
          have HR : Hid (RowW wr w.heap.size 64 (fun _ => 0)) := hR
          have HW : Hid (RowW wr (w.heap.size + 1) 64 (w1 p t i)) := hW
          have HB : Hid (Below w.heap.size w wr) := hB
          have hbl := hW.lt
          have HI : Hid (i < 4) := hlt
          clear hR hW hB hm hy hx hx' hlt hi
          go_upto_region 8 with fail
          apply wp_mono (Q := Only _ _)
          · go_region
            all_goals exact Only.intro _ _
          refine Only.out ?_
          clear hcW hcb hzW
          go_wp2_with fail
          go_roundg (4 - (i + 1))
          case measure => have := HI.out; omega
          case rel => exact ⟨i + 1, rfl, by have := HI.out; omega, by go_num, (HR.out.keep (K.drew (Below.refl _ _))).other (by omega) t _, by
            have h := (HW.out.keep (K.drew (Below.refl _ _))).store t htn (wadd (wmul x 256) y)
            rw [HX.out] at h ⊢
            exact h.congr (fun j hj => by unfold w1; (repeat' split) <;> first | rfl | omega), K.set (K.drew HB.out) (by simp) _⟩
        · obtain rfl : i = 4 := by omega
          have HR : Hid (RowW wr w.heap.size 64 (fun _ => 0)) := hR
          have HW : Hid (RowW wr (w.heap.size + 1) 64 (w1 p t 4)) := hW
          have HB : Hid (Below w.heap.size w wr) := hB
          clear hR hW hB hlt hi
          go_wp2_with fail
          go_roundg (16 - (t + 1))
          case measure => have := HT.out; omega
          case rel => exact ⟨t + 1, rfl, by have := HT.out; omega, by go_num, HR.out, HW.out.congr (fun j hj => by unfold w1; (repeat' split) <;> first | rfl | omega | (congr 1; omega) | (subst_vars; rfl)), HB.out⟩
    · obtain rfl : t = 16 := by omega
      have HR : Hid (RowW wr w.heap.size 64 (fun _ => 0)) := hR
      have HW : Hid (RowW wr (w.heap.size + 1) 64 (w2 (fun t => wordP p t 4) 16)) := hW.congr (fun j hj => by unfold w1 w2; (repeat' split) <;> first | rfl | omega | (rw [sched_low _ (by assumption)]))
      have HB : Hid (Below w.heap.size w wr) := hB
      clear hR hW hB hlt ht HD
      obtain ⟨m, hm⟩ : ∃ m : Nat → Wd, m = fun t => wordP p t 4 := ⟨_, rfl⟩
      have HM : Hid (m = fun t => wordP p t 4) := hm
      rw [← hm] at HW
      clear hm
      go_wp2_with fail
      go_loopg [6] 48 (fun g s6 wr => ∃ t : Nat, g = 64 - t ∧ 16 ≤ t ∧ t ≤ 64 ∧ s6 = .int .i64 t ∧ RowW wr w.heap.size 64 (fun _ => 0) ∧ RowW wr (w.heap.size + 1) 64 (w2 m t) ∧ Below w.heap.size w wr)
      case atStart => exact ⟨16, rfl, by omega, by omega, rfl, HR.out, HW.out, HB.out⟩
      case round =>
        clear HR HW HB
        obtain ⟨t, rfl, h16, ht, rfl, hR, hW, hB⟩ := hrel
        by_cases hlt : t < 64
        · have c15 := hW.c (t - 15) (by omega)
          have c2 := hW.c (t - 2) (by omega)
          have c7 := hW.c (t - 7) (by omega)
          have c16 := hW.c (t - 16) (by omega)
          have ct := hW.c t hlt
          have zt := hW.z t hlt
          have e15 : w2 m t (t - 15) = sched m (t - 15) := by unfold w2; rw [if_pos (by omega)]
          have e2 : w2 m t (t - 2) = sched m (t - 2) := by unfold w2; rw [if_pos (by omega)]
          have e7 : w2 m t (t - 7) = sched m (t - 7) := by unfold w2; rw [if_pos (by omega)]
          have e16 : w2 m t (t - 16) = sched m (t - 16) := by unfold w2; rw [if_pos (by omega)]
          rw [e15] at c15
          rw [e2] at c2
          rw [e7] at c7
          rw [e16] at c16
          have HX : Hid (wadd (wadd (wadd (wxor (wxor (rotr (sched m (t - 2)) 17) (rotr (sched m (t - 2)) 19)) (wshr (sched m (t - 2)) 10)) (sched m (t - 7))) (wxor (wxor (rotr (sched m (t - 15)) 7) (rotr (sched m (t - 15)) 18)) (wshr (sched m (t - 15)) 3))) (sched m (t - 16)) = sched m t) := by
            exact (sched_up m (t := t) (by omega)).symm
          generalize sched m (t - 15) = x at *
          generalize sched m (t - 2) = y at *
          generalize sched m (t - 7) = u at *
          generalize sched m (t - 16) = v at *
          have i15 : (t : Int) - 15 = ((t - 15 : Nat) : Int) := by omega
          have i2 : (t : Int) - 2 = ((t - 2 : Nat) : Int) := by omega
          have i7 : (t : Int) - 7 = ((t - 7 : Nat) : Int) := by omega
          have i16 : (t : Int) - 16 = ((t - 16 : Nat) : Int) := by omega
          have b15 : t - 15 < 64 := by omega
          have b2 : t - 2 < 64 := by omega
          have b7 : t - 7 < 64 := by omega
          have b16 : t - 16 < 64 := by omega
          have hti : (t : Int) < 64 := by omega
          have HT : Hid (t < 64 ∧ 16 ≤ t) := ⟨hlt, h16⟩
          obtain ⟨t15, ht15⟩ : ∃ k, k = t - 15 := ⟨_, rfl⟩
          obtain ⟨t2, ht2⟩ : ∃ k, k = t - 2 := ⟨_, rfl⟩
          obtain ⟨t7, ht7⟩ : ∃ k, k = t - 7 := ⟨_, rfl⟩
          obtain ⟨t16, ht16⟩ : ∃ k, k = t - 16 := ⟨_, rfl⟩
          rw [← ht15] at c15 i15 b15
          rw [← ht2] at c2 i2 b2
          rw [← ht7] at c7 i7 b7
          rw [← ht16] at c16 i16 b16
          have j15 : (t15 : Int) < 64 := by omega
          have j2 : (t2 : Int) < 64 := by omega
          have j7 : (t7 : Int) < 64 := by omega
          have j16 : (t16 : Int) < 64 := by omega
          have k7 : IntKind.i64.wrap (t7 : Int) = (t7 : Int) := by rw [IntKind.wrap_i64]; omega
          have k16 : IntKind.i64.wrap (t16 : Int) = (t16 : Int) := by rw [IntKind.wrap_i64]; omega
          have d3 : (wn x).tdiv 8 = wn (wshr x 3) := by rw [Int.tdiv_eq_ediv_of_nonneg (wn_nn x)]; exact wn_shr x 3
          have d10 : (wn y).tdiv 1024 = wn (wshr y 10) := by rw [Int.tdiv_eq_ediv_of_nonneg (wn_nn y)]; exact wn_shr y 10
          have HR : Hid (RowW wr w.heap.size 64 (fun _ => 0)) := hR
          have HW : Hid (RowW wr (w.heap.size + 1) 64 (w2 m t)) := hW
          have HB : Hid (Below w.heap.size w wr) := hB
          have hbl := hW.lt
          clear hR hW hB hlt ht h16 e15 e2 e7 e16 ht15 ht2 ht7 ht16
          go_wp2_with (first
            | (go_at_call 55; with_reducible refine Calls.mono (turned_7 x _) ?_; rintro e w' ⟨rfl, rfl⟩)
            | (go_at_call 55; with_reducible refine Calls.mono (turned_18 x _) ?_; rintro e w' ⟨rfl, rfl⟩)
            | (go_at_call 55; with_reducible refine Calls.mono (turned_17 y _) ?_; rintro e w' ⟨rfl, rfl⟩)
            | (go_at_call 55; with_reducible refine Calls.mono (turned_19 y _) ?_; rintro e w' ⟨rfl, rfl⟩))
          apply wp_mono (Q := Only _ _)
          · go_region
            all_goals exact Only.intro _ _
          refine Only.out ?_
          clear c15 c2 c7 c16 ct zt
          go_wp2_with fail
          go_roundg (64 - (t + 1))
          case measure => have := HT.out; omega
          case rel => exact ⟨t + 1, rfl, by have := HT.out; omega, by have := HT.out; omega, by go_num, (HR.out.keep (K.drew (Below.refl _ _))).other (by omega) t _, by
            have h := (HW.out.keep (K.drew (Below.refl _ _))).store t HT.out.1 (wadd (wadd (wadd (wxor (wxor (rotr y 17) (rotr y 19)) (wshr y 10)) u) (wxor (wxor (rotr x 7) (rotr x 18)) (wshr x 3))) v)
            rw [HX.out] at h ⊢
            exact h.congr (fun j hj => by unfold w2; (repeat' split) <;> first | rfl | omega | (subst_vars; rfl)), K.set (K.drew HB.out) (by simp) _⟩
        · obtain rfl : t = 64 := by omega
          have hW' : RowW wr (w.heap.size + 1) 64 (sched m) := hW.congr (fun j hj => by unfold w2; rw [if_pos hj])
          have hr := hW'.range
          have hsz : (aw (sched m) 64).toArray.size = 64 := by rw [List.size_toArray, aw_len]
          have hth : wr.there w.heap.size 0 (aw (sched m) 64).toArray.size := by rw [hsz]; exact hR.there
          have hin : (Tryd.prog.info? 83).map (·.size) = some (aw (sched m) 64).toArray.size := by rw [hsz]; exact info64W
          have hil : (Tryd.prog.info? 83).map (·.size) = some (aw (sched m) 64).length := by rw [aw_len]; exact info64W
          have HH := hide hth
          have HI := hide hin
          have HL := hide hil
          have HRr := hide hr
          clear hth hin hil hr hsz
          have HS : Hid (RowW (wr.setCells w.heap.size 0 (aw (sched m) 64).toArray.toList) w.heap.size 64 (sched m)) := hR.stored (sched m)
          have HB : Hid (Below w.heap.size w (wr.setCells w.heap.size 0 (aw (sched m) 64).toArray.toList)) := below_setCells _ _ hB (Nat.le_refl _)
          clear hR hW hB hlt ht h16 hW'
          go_upto_region 17 with fail
          go_wp2_with (refine wpList_load_mid rfl 83 _ rfl _ 0 rfl (aw (sched m) 64) _ HRr.out Tryd.underlying83 rfl HL.out ?_; simp only [Act.put, List.setIfInBounds_toArray, List.set_cons_zero, List.set_cons_succ]; refine wpList_store_mid rfl 83 _ _ rfl w.heap.size 0 (aw (sched m) 64).toArray rfl rfl HH.out HI.out (all_oneCell_toArray (aw_one _ _)) ?_; generalize wr.setCells w.heap.size 0 (aw (sched m) 64).toArray.toList = X at HS HB ⊢)
          refine bodyPost_ret (results_cell_mid Tryd.results53 _ _ w.heap.size (aw (sched m) 64) _ rfl HS.out.range Tryd.underlying83 rfl HL.out) rfl ⟨?_, HB.out⟩
          rw [HM.out]
end Go.Proofs.YtpokecijongkpaaDoor
