/- Words of 32 bits. -/
import Derived.Test.YteplklbpehkdjaaDoorKRows
namespace Go.Proofs.YteplklbpehkdjaaDoor
set_option maxRecDepth 100000
open Go.RowKit

abbrev Wd := BitVec 32
/-- A word as a number. -/
def wn (x : Wd) : Int := (x.toNat : Int)
def wadd (x y : Wd) : Wd := x + y
def wor (x y : Wd) : Wd := x ||| y
def wand (x y : Wd) : Wd := x &&& y
def wxor (x y : Wd) : Wd := x ^^^ y
def wnot (x : Wd) : Wd := ~~~x
def wshr (x : Wd) (n : Nat) : Wd := x >>> n
def wshl (x : Wd) (n : Nat) : Wd := x <<< n
def wmul (x : Wd) (n : Nat) : Wd := x * BitVec.ofNat 32 n
theorem wn_lt (x : Wd) : wn x < 4294967296 := by have := x.isLt; unfold wn; omega
theorem wn_nn (x : Wd) : 0 ≤ wn x := by unfold wn; omega
theorem wn_of (n : Nat) (h : n < 4294967296) : wn (BitVec.ofNat 32 n) = (n : Int) := by
  unfold wn; rw [BitVec.toNat_ofNat]; omega
theorem wn_add (x y : Wd) : IntKind.u32.wrap (wn x + wn y) = wn (wadd x y) := by
  unfold wn wadd; rw [IntKind.wrap_u32', BitVec.toNat_add]; omega
theorem wn_or (x y : Wd) : bits .or .u32 (wn x) (wn y) = wn (wor x y) := by
  unfold wn wor; rw [u32_or_nat _ _ x.isLt y.isLt, BitVec.toNat_or]
theorem wn_and (x y : Wd) : bits .and .u32 (wn x) (wn y) = wn (wand x y) := by
  unfold wn wand; rw [u32_and_nat _ _ x.isLt y.isLt, BitVec.toNat_and]
theorem wn_xor (x y : Wd) : bits .xor .u32 (wn x) (wn y) = wn (wxor x y) := by
  unfold wn wxor; rw [u32_xor_nat _ _ x.isLt y.isLt, BitVec.toNat_xor]
theorem wn_andNot (x y : Wd) : bits .andNot .u32 (wn x) (wn y) = wn (wand x (wnot y)) := by
  unfold wn wand wnot; rw [u32_andNot_nat _ _ x.isLt y.isLt, BitVec.toNat_and, BitVec.toNat_not]
theorem wn_not (y : Wd) : (4294967295 : Int) - wn y = wn (wnot y) := by
  have := y.isLt
  unfold wn wnot; rw [BitVec.toNat_not]; omega
theorem wn_shr (x : Wd) (n : Nat) : wn x / (2 ^ n : Nat) = wn (wshr x n) := by
  unfold wn wshr; rw [BitVec.toNat_ushiftRight, Nat.shiftRight_eq_div_pow]; rfl
theorem wn_shl (x : Wd) (n : Nat) : (wn x * (2 ^ n : Nat)) % 4294967296 = wn (wshl x n) := by
  unfold wn wshl; rw [BitVec.toNat_shiftLeft, Nat.shiftLeft_eq]
  omega
theorem wn_shl' (x : Wd) (n : Nat) : wn x <<< n % 4294967296 = wn (wshl x n) := by
  rw [Int.shiftLeft_eq, ← wn_shl]; rfl
theorem wn_mul (x : Wd) (n : Nat) : IntKind.u32.wrap (wn x * (n : Int)) = wn (wmul x n) := by
  unfold wn wmul
  rw [IntKind.wrap_u32', BitVec.toNat_mul, BitVec.toNat_ofNat, Nat.mul_mod_mod]
  omega
/-- A word turned right. -/
def rotr (x : Wd) (n : Nat) : Wd := x >>> n ||| x <<< (32 - n)
def ssg0 (x : Wd) : Wd := rotr x 7 ^^^ rotr x 18 ^^^ x >>> 3
def ssg1 (x : Wd) : Wd := rotr x 17 ^^^ rotr x 19 ^^^ x >>> 10
def bsg0 (x : Wd) : Wd := rotr x 2 ^^^ rotr x 13 ^^^ rotr x 22
def bsg1 (x : Wd) : Wd := rotr x 6 ^^^ rotr x 11 ^^^ rotr x 25
def chW (x y z : Wd) : Wd := x &&& y ||| ~~~x &&& z
def majW (x y z : Wd) : Wd := x &&& y ||| x &&& z ||| y &&& z
structure St where (a : Wd) (b : Wd) (c : Wd) (d : Wd) (e : Wd) (f : Wd) (g : Wd) (h : Wd) deriving DecidableEq
/-- One round. -/
def rnd (s : St) (k w : Wd) : St :=
  ⟨(s.h + bsg1 s.e + chW s.e s.f s.g + k + w) + (bsg0 s.a + majW s.a s.b s.c), s.a, s.b, s.c, s.d + (s.h + bsg1 s.e + chW s.e s.f s.g + k + w), s.e, s.f, s.g⟩
def rnds (k w : Nat → Wd) (s : St) : Nat → St
  | 0 => s
  | t + 1 => rnd (rnds k w s t) (k t) (w t)
def addS (s v : St) : St := ⟨s.a + v.a, s.b + v.b, s.c + v.c, s.d + v.d, s.e + v.e, s.f + v.f, s.g + v.g, s.h + v.h⟩
/-- The constants. -/
def kList : List Nat := [1116352408, 1899447441, 3049323471, 3921009573, 961987163, 1508970993, 2453635748, 2870763221, 3624381080, 310598401, 607225278, 1426881987, 1925078388, 2162078206, 2614888103, 3248222580, 3835390401, 4022224774, 264347078, 604807628, 770255983, 1249150122, 1555081692, 1996064986, 2554220882, 2821834349, 2952996808, 3210313671, 3336571891, 3584528711, 113926993, 338241895, 666307205, 773529912, 1294757372, 1396182291, 1695183700, 1986661051, 2177026350, 2456956037, 2730485921, 2820302411, 3259730800, 3345764771, 3516065817, 3600352804, 4094571909, 275423344, 430227734, 506948616, 659060556, 883997877, 958139571, 1322822218, 1537002063, 1747873779, 1955562222, 2024104815, 2227730452, 2361852424, 2428436474, 2756734187, 3204031479, 3329325298]
def kW (t : Nat) : Wd := BitVec.ofNat 32 (kList.getD t 0)
def start : St := ⟨1779033703#32, 3144134277#32, 1013904242#32, 2773480762#32, 1359893119#32, 2600822924#32, 528734635#32, 1541459225#32⟩
/-- The words of a block of sixteen. -/
def sched (m : Nat → Wd) (t : Nat) : Wd := if t < 16 then m t else ssg1 (sched m (t - 2)) + sched m (t - 7) + ssg0 (sched m (t - 15)) + sched m (t - 16)
termination_by t
decreasing_by all_goals omega
theorem sched_low (m : Nat → Wd) {t : Nat} (h : t < 16) : sched m t = m t := by rw [sched, if_pos h]
theorem sched_up (m : Nat → Wd) {t : Nat} (h : ¬ t < 16) : sched m t = ssg1 (sched m (t - 2)) + sched m (t - 7) + ssg0 (sched m (t - 15)) + sched m (t - 16) := by rw [sched, if_neg h]
/-- The first i bytes of word t of a block. -/
def wordP (p : Nat → Nat) (t : Nat) : Nat → Wd
  | 0 => 0
  | i + 1 => wordP p t i * BitVec.ofNat 32 256 + BitVec.ofNat 32 (p (4 * t + i))
def takeB (s : St) (p : Nat → Nat) : St := addS s (rnds kW (sched (fun t => wordP p t 4)) s 64)
/-- How many bytes the message's blocks have. -/
def padLen (n : Nat) : Nat := (n + 8) / 64 * 64 + 64
/-- Byte i of the message's blocks. -/
def pad (f : Nat → Nat) (n i : Nat) : Nat := if i < n then f i else if i = n then 128 else if i < padLen n - 8 then 0 else (8 * n) / 256 ^ (padLen n - 1 - i) % 256
def hs (p : Nat → Nat) : Nat → St
  | 0 => start
  | k + 1 => takeB (hs p k) (fun i => p (64 * k + i))
def hashS (f : Nat → Nat) (n : Nat) : St := hs (pad f n) (padLen n / 64)
def St.w (s : St) : Nat → Wd
  | 0 => s.a
  | 1 => s.b
  | 2 => s.c
  | 3 => s.d
  | 4 => s.e
  | 5 => s.f
  | 6 => s.g
  | _ => s.h
/-- Byte i of a hash. -/
def hByte (s : St) (i : Nat) : Nat := (s.w (i / 4)).toNat / 256 ^ (3 - i % 4) % 256
end Go.Proofs.YteplklbpehkdjaaDoor
