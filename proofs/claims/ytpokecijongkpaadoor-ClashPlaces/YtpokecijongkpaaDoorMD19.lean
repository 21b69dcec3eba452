/- Layer 20: math/bits.OnesCount, as far as it is needed: is a number a power of two? Layer 19: the sides on which what is met stands, from the bottom up, told ahead of the way (no function of the program is named). Layer 19: how many noughts a number ends with (math/bits.TrailingZeros), where the library's table is laid. Layer 19: the program's fellows: on which side what is met stands, from the bottom up. Layer 19: the program's own Path. -/
import Derived.Test.YtpokecijongkpaaDoorMD05
import Derived.Test.YtpokecijongkpaaDoorMD12
import Derived.Test.YtpokecijongkpaaDoorMD02
import Derived.Test.YtpokecijongkpaaDoorMD09
import Derived.Test.YtpokecijongkpaaDoorMD06
import Derived.Laws.BitsAllLaws
import Derived.Lib.TrailingZeros
import Derived.Laws.Bits64b
namespace Go.Proofs.YtpokecijongkpaaDoor
set_option maxRecDepth 100000
open Go.RowKit
attribute [local go_sem ↓] Go.wp_at_zero Go.wp_at_succ

def oc1 (x : Int) : Int := IntKind.u64.wrap (bits BinOp.and IntKind.u64 (x / 2) 6148914691236517205 + bits BinOp.and IntKind.u64 x 6148914691236517205)
def oc2 (x : Int) : Int := IntKind.u64.wrap (bits BinOp.and IntKind.u64 (x / 4) 3689348814741910323 + bits BinOp.and IntKind.u64 x 3689348814741910323)
def oc3 (x : Int) : Int := bits BinOp.and IntKind.u64 (IntKind.u64.wrap (x / 16 + x)) 1085102592571150095
def oc4 (x : Int) : Int := IntKind.u64.wrap (x + x / 256)
def oc5 (x : Int) : Int := IntKind.u64.wrap (x + x / 65536)
def oc6 (x : Int) : Int := IntKind.u64.wrap (x + x / 4294967296)
def oc (x : Int) : Int := bits BinOp.and IntKind.i64 (wrap64 (oc6 (oc5 (oc4 (oc3 (oc2 (oc1 x))))))) 127
set_option maxRecDepth 100000 in
set_option maxHeartbeats 4000000 in
theorem ones64_any (w : World) (x : Int) : Calls Tryd.prog 59 #[.int .u64 x] w fun e w' => e = .returned (.int .i64 (oc x)) ∧ w' = w := by
  go_enter Tryd.func59, Tryd.ntmps59
  go_wp2_with fail
  go_ret
  exact ⟨rfl, rfl⟩
set_option maxRecDepth 100000 in
set_option maxHeartbeats 4000000 in
theorem ones_any (w : World) {x : Int} (h0 : 0 ≤ x) (h1 : x < 18446744073709551616) : Calls Tryd.prog 43 #[.int .u64 x] w fun e w' => e = .returned (.int .i64 (oc x)) ∧ w' = w := by
  have hw : IntKind.u64.wrap x = x := by rw [IntKind.wrap_u64]; omega
  have HC := hide (ones64_any w x)
  go_enter Tryd.func43, Tryd.ntmps43
  go_wp2_with (go_at_call 59; refine Calls.mono HC.out ?_; rintro e w' ⟨rfl, hw'⟩; rw [hw'])
  go_ret
  exact ⟨rfl, rfl⟩
/-- Below 1024 the powers of two are known. -/
def pw2 (k : Nat) : Bool := [1, 2, 4, 8, 16, 32, 64, 128, 256, 512].contains k
set_option maxRecDepth 100000 in
theorem oc_all : ((List.range 1001).all fun k => k == 0 || (decide (1 < oc (k : Int)) == !pw2 k)) = true := by kernel_rfl
theorem oc_at {k : Nat} (h0 : k ≠ 0) (h1 : k ≤ 1000) : decide (1 < oc (k : Int)) = !pw2 k := by
  have h := List.all_eq_true.1 oc_all k (List.mem_range.2 (by omega))
  rw [Bool.or_eq_true, beq_iff_eq, beq_iff_eq] at h
  rcases h with h | h
  · exact absurd h h0
  · exact h
theorem pw2_pow {k : Nat} (h1 : k ≤ 1000) : pw2 k = true ↔ ∃ a, k = 2 ^ a := by
  constructor
  · intro h
    unfold pw2 at h
    simp only [List.contains_eq_mem, List.mem_cons, List.not_mem_nil, or_false, decide_eq_true_eq] at h
    rcases h with h | h | h | h | h | h | h | h | h | h
    · exact ⟨0, h⟩
    · exact ⟨1, h⟩
    · exact ⟨2, h⟩
    · exact ⟨3, h⟩
    · exact ⟨4, h⟩
    · exact ⟨5, h⟩
    · exact ⟨6, h⟩
    · exact ⟨7, h⟩
    · exact ⟨8, h⟩
    · exact ⟨9, h⟩
  · rintro ⟨a, rfl⟩
    have ha : a < 10 := by
      rcases Nat.lt_or_ge a 10 with h | h
      · exact h
      · have := Nat.pow_le_pow_right (n := 2) (by decide) h
        omega
    have : ∀ b, b < 10 → pw2 (2 ^ b) = true := by decide
    exact this a ha
end Go.Proofs.YtpokecijongkpaaDoor
namespace Go.Proofs.YtpokecijongkpaaDoor
set_option maxRecDepth 100000
open Go.RowKit

/-- On which side what is met stands: true is the left one. -/
def fe (n m : Nat) : List Bool :=
  if _h : n < 2 then []
  else if m % 2 = 1 then true :: fe ((n + 1) / 2) (m / 2)
  else if m + 1 < n then false :: fe ((n + 1) / 2) (m / 2)
  else fe ((n + 1) / 2) (m / 2)
termination_by n
decreasing_by all_goals omega
theorem fe_one {n : Nat} (m : Nat) (h : n < 2) : fe n m = [] := by rw [fe.eq_def, dif_pos h]
theorem fe_left {n m : Nat} (h : 2 ≤ n) (hm : m % 2 = 1) : fe n m = true :: fe ((n + 1) / 2) (m / 2) := by rw [fe.eq_def, dif_neg (by omega), if_pos hm]
theorem fe_right {n m : Nat} (h : 2 ≤ n) (hm : ¬ m % 2 = 1) (hn : m + 1 < n) : fe n m = false :: fe ((n + 1) / 2) (m / 2) := by rw [fe.eq_def, dif_neg (by omega), if_neg hm, if_pos hn]
theorem fe_none {n m : Nat} (h : 2 ≤ n) (hm : ¬ m % 2 = 1) (hn : ¬ m + 1 < n) : fe n m = fe ((n + 1) / 2) (m / 2) := by rw [fe.eq_def, dif_neg (by omega), if_neg hm, if_neg hn]
theorem fe_len : ∀ (k n m : Nat), n ≤ 2 ^ k → (fe n m).length ≤ k
  | 0, n, m, h => by
    rw [fe_one m (by rw [Nat.pow_zero] at h; omega)]
    exact Nat.le_refl _
  | k + 1, n, m, h => by
    by_cases h2 : n < 2
    · rw [fe_one m h2]
      exact Nat.zero_le _
    · have e := two_of k
      have ih := fe_len k ((n + 1) / 2) (m / 2) (by omega)
      by_cases hm : m % 2 = 1
      · rw [fe_left (by omega) hm, List.length_cons]
        omega
      · by_cases hn : m + 1 < n
        · rw [fe_right (by omega) hm hn, List.length_cons]
          omega
        · rw [fe_none (by omega) hm hn]
          omega
section
variable {β : Type} (A B : (Nat → Nat) → β → β)
/-- The hashes go to their sides, one by one; as many as sides, or it leads nowhere. -/
def ap : List Bool → List (Nat → Nat) → β → Option β
  | [], [], x => some x
  | s :: S, q :: p, x => ap S p (if s then A q x else B q x)
  | [], _ :: _, _ => none
  | _ :: _, [], _ => none
theorem ap_len : ∀ (S : List Bool) (p : List (Nat → Nat)) (x : β), S.length ≠ p.length → ap A B S p x = none
  | [], [], _, h => absurd rfl h
  | [], _ :: _, _, _ => rfl
  | _ :: _, [], _, _ => rfl
  | s :: S, q :: p, x, h => by
    show ap A B S p _ = none
    exact ap_len S p _ fun e => h (by rw [List.length_cons, List.length_cons, e])
theorem ap_left (S : List Bool) (q : Nat → Nat) (p : List (Nat → Nat)) (x : β) : ap A B (true :: S) (q :: p) x = ap A B S p (A q x) := rfl
theorem ap_right (S : List Bool) (q : Nat → Nat) (p : List (Nat → Nat)) (x : β) : ap A B (false :: S) (q :: p) x = ap A B S p (B q x) := rfl
/-- From the bottom up, level by level, is by the sides, one by one. -/
theorem lvG_fe : ∀ (n m : Nat) (x : β) (p : List (Nat → Nat)), lvG A B n m x p = ap A B (fe n m) p x := fun n => by
  induction n using Nat.strongRecOn with
  | ind n ih =>
    intro m x p
    by_cases h2 : n < 2
    · rw [lvG_one A B m x p h2, fe_one m h2]
      cases p <;> rfl
    · by_cases hm : m % 2 = 1
      · rw [fe_left (by omega) hm]
        cases p with
        | nil => rw [lvG_nil A B x (by omega) (Or.inl hm)]; rfl
        | cons q p => rw [lvG_take A B x q p (by omega) (Or.inl hm), if_pos hm, ap_left, ih _ (by omega)]
      · by_cases hn : m + 1 < n
        · rw [fe_right (by omega) hm hn]
          cases p with
          | nil => rw [lvG_nil A B x (by omega) (Or.inr hn)]; rfl
          | cons q p => rw [lvG_take A B x q p (by omega) (Or.inr hn), if_neg hm, ap_right, ih _ (by omega)]
        · rw [fe_none (by omega) hm hn, lvG_skip A B x p (by omega) (by omega), ih _ (by omega)]
end
abbrev qA (t x : Nat → Nat) : Nat → Nat := nd t x
abbrev qB (t x : Nat → Nat) : Nat → Nat := nd x t
theorem lv_fe : ∀ (n m : Nat) (x : Nat → Nat) (p : List (Nat → Nat)), lv n m x p = ap qA qB (fe n m) p x := fun n => by
  induction n using Nat.strongRecOn with
  | ind n ih =>
    intro m x p
    by_cases h2 : n < 2
    · rw [lv_one m x p h2, fe_one m h2]
      cases p <;> rfl
    · by_cases hm : m % 2 = 1
      · rw [fe_left (by omega) hm]
        cases p with
        | nil => rw [lv_nil x (by omega) (Or.inl hm)]; rfl
        | cons q p => rw [lv_take x q p (by omega) (Or.inl hm), if_pos hm, ap_left, ih _ (by omega)]
      · by_cases hn : m + 1 < n
        · rw [fe_right (by omega) hm hn]
          cases p with
          | nil => rw [lv_nil x (by omega) (Or.inr hn)]; rfl
          | cons q p => rw [lv_take x q p (by omega) (Or.inr hn), if_neg hm, ap_right, ih _ (by omega)]
        · rw [fe_none (by omega) hm hn, lv_skip x p (by omega) (by omega), ih _ (by omega)]
/-- A number's whole parts of two. -/
theorem ctz_odd {m k o : Nat} (h : m = 2 ^ k * (2 * o + 1)) : (m - 1) / 2 ^ k = 2 * o := by
  have hP := Nat.two_pow_pos k
  have e : m - 1 = (2 ^ k - 1) + 2 * o * 2 ^ k := by
    rw [h, Nat.mul_add, Nat.mul_one, Nat.mul_comm (2 ^ k)]
    omega
  rw [e, Nat.add_mul_div_right _ _ hP, Nat.div_eq_of_lt (by omega), Nat.zero_add]
theorem ceil_down {n k : Nat} (h : 1 ≤ n) : (n - 1) / 2 ^ k + 1 = (n + 2 ^ k - 1) / 2 ^ k := by
  have hP := Nat.two_pow_pos k
  rw [show n + 2 ^ k - 1 = (n - 1) + 2 ^ k by omega, Nat.add_div_right _ hP]
/-- What the document's proof leads to, by the sides of the first part that is not old. -/
theorem bu_fe {n m k o : Nat} {O : Option ((Nat → Nat) × (Nat → Nat))} (f : Nat → Nat) (p : List (Nat → Nat)) (hO : tw n m true f p.reverse = O) (hm : m < n) (h : m = 2 ^ k * (2 * o + 1)) :
    beg (decide ((m - 1) / 2 ^ k = 0)) f p (fun y p => ap pA pB (fe ((n - 1) / 2 ^ k + 1) ((m - 1) / 2 ^ k)) p (y, y)) = O := by
  have h1 : m = (2 * o + 1) * 2 ^ k := by rw [h, Nat.mul_comm]
  have h2 := tw_bu n k (2 * o + 1) true f p (by omega) (Or.inl (by rw [← h1]; exact hm))
  rw [← h1, hO] at h2
  rw [h2]
  unfold bu
  rw [Bool.true_and, ctz_odd h, Nat.add_sub_cancel, ceil_down (by omega)]
  have e : (fun (y : Nat → Nat) (p : List (Nat → Nat)) => lvG pA pB ((n + 2 ^ k - 1) / 2 ^ k) (2 * o) (y, y) p) = fun y p => ap pA pB (fe ((n + 2 ^ k - 1) / 2 ^ k) (2 * o)) p (y, y) := by
    funext y p
    exact lvG_fe pA pB _ _ _ _
  rw [e]
  congr 1
  exact decide_eq_decide.2 (by omega)
end Go.Proofs.YtpokecijongkpaaDoor
namespace Go.Proofs.YtpokecijongkpaaDoor
set_option maxRecDepth 100000
open Go.RowKit
attribute [local go_sem ↓] Go.wp_at_zero Go.wp_at_succ

/-- The tables of the hash are laid, and that of the library. -/
structure TabZ (w : World) : Prop where
  tab : Tab w
  z : ∀ j, j < 64 → w.cell? ⟨2, j, none⟩ = some (.int .u8 ((Lib.deBruijn64tab.getD j 0 : Nat) : Int))
theorem TabZ.keep {W w1 : World} (h : TabZ W) (hb : Below W.heap.size W w1) : TabZ w1 := ⟨h.tab.keep hb, fun j hj => later hb (h.z j hj)⟩
theorem low_place {x p : Nat} (hx : x < 18446744073709551616) (h0 : x ≠ 0) (h : x &&& (18446744073709551616 - x) = p) :
    IntKind.u64.wrap (bits BinOp.and IntKind.u64 (x : Int) (IntKind.u64.wrap (-(x : Int))) * 285870213051353865) / 288230376151711744 = ((p * 285870213051353865 % 18446744073709551616 / 288230376151711744 : Nat) : Int) := by
  have hn : IntKind.u64.wrap (-(x : Int)) = ((18446744073709551616 - x : Nat) : Int) := by
    rw [IntKind.wrap_u64]
    omega
  rw [hn, bits_and_u64_nat x _ hx (by omega), h, IntKind.wrap_u64]
  omega
set_option maxHeartbeats 1000000 in
theorem tz64_any {w : World} {x : Nat} (hT : TabZ w) (h0 : x ≠ 0) (hx : x < 18446744073709551616) :
    Calls Tryd.prog 57 #[.int .u64 (x : Int)] w fun e w' => e = .returned (.int .i64 ((Lib.ctz 64 x : Nat) : Int)) ∧ w' = w := by
  obtain ⟨hlow, hk⟩ := Lib.lowest_bit 64 x h0 hx
  obtain ⟨hi, htab⟩ := Lib.deBruijn64_at _ hk
  obtain ⟨k, hkk⟩ : ∃ k, Lib.ctz 64 x = k := ⟨_, rfl⟩
  have hcell := hT.z _ hi
  rw [htab] at hcell
  rw [hkk] at hlow hk hi hcell ⊢
  have key := low_place hx h0 hlow
  obtain ⟨i, hii⟩ : ∃ i, 2 ^ k * 285870213051353865 % 18446744073709551616 / 288230376151711744 = i := ⟨_, rfl⟩
  rw [hii] at key hi hcell
  have hz : ((x : Int) == 0) = false := beq_eq_false_iff_ne.2 (by omega)
  clear hii htab hlow hT
  go_enter Tryd.func57, Tryd.ntmps57
  go_wp2_with (simp only [key])
  go_ret
  exact ⟨rfl, rfl⟩
theorem tz_any {w : World} {x : Nat} (hT : TabZ w) (h0 : x ≠ 0) (hx : x < 18446744073709551616) :
    Calls Tryd.prog 41 #[.int .u64 (x : Int)] w fun e w' => e = .returned (.int .i64 ((Lib.ctz 64 x : Nat) : Int)) ∧ w' = w := by
  have hw : IntKind.u64.wrap (x : Int) = (x : Int) := by rw [IntKind.wrap_u64]; omega
  have HC := hide (tz64_any hT h0 hx)
  clear hT
  go_enter Tryd.func41, Tryd.ntmps41
  go_wp2_with (go_at_call 57; refine Calls.mono HC.out ?_; rintro e w' ⟨rfl, hw'⟩; rw [hw'])
  go_ret
  exact ⟨rfl, rfl⟩
theorem ctz_of {m : Nat} (h0 : m ≠ 0) (hx : m < 18446744073709551616) : ∃ o, m = 2 ^ Lib.ctz 64 m * (2 * o + 1) ∧ Lib.ctz 64 m < 64 := by
  obtain ⟨o, ho, hk⟩ := Lib.ctzFrom_spec 64 m (by omega) (by omega)
  have e : Lib.ctz 64 m = Lib.ctzFrom 64 m := by unfold Lib.ctz; rw [if_neg h0]
  exact ⟨o, by rw [e]; exact ho, by rw [e]; exact hk⟩
end Go.Proofs.YtpokecijongkpaaDoor
namespace Go.Proofs.YtpokecijongkpaaDoor
set_option maxRecDepth 100000
open Go.RowKit
attribute [local go_sem ↓] Go.wp_at_zero Go.wp_at_succ

/-- A side as a value: the left one is 0. -/
def sdn (s : Bool) : Int := if s then 0 else 1
abbrev sdv (s : Bool) : Value := .int .i64 (sdn s)
theorem infoS : (Tryd.prog.info? 50).map (fun i => (i.zero, i.size, i.bytes)) = some (some (.int .i64 0), 1, 8) := by kernel_rfl
/-- Sides in memory. -/
def SdL (w : World) (x : Option Addr) (S : List Bool) : Prop := S = [] ∨ ∃ b o, x = some ⟨b, o, none⟩ ∧ ∀ i s, S[i]? = some s → w.cell? ⟨b, o + i, none⟩ = some (sdv s)
theorem SdL.keep {W w1 : World} {x : Option Addr} {S : List Bool} (h : SdL W x S) (hb : Below W.heap.size W w1) : SdL w1 x S :=
  h.elim Or.inl fun ⟨b, o, e, hr⟩ => Or.inr ⟨b, o, e, fun i s hs => later hb (hr i s hs)⟩
/-- Sides in a row of one's own. -/
abbrev OS (w : World) (base : Nat) (v : Value) (S : List Bool) : Prop := w.ownsRow base 50 1 v S.length (S.map sdv)
theorem OS.form {w : World} {base : Nat} {v : Value} {S : List Bool} (h : OS w base v S) : ∃ a cap, v = .slice a S.length cap ∧ S.length ≤ cap ∧ cap ≤ maxLen := by
  rcases h.2 with ⟨rfl, h0⟩ | ⟨g, cap, cur, rfl, _, _, h1, h2, _⟩
  · exact ⟨_, _, by rw [h0], by omega, by unfold maxLen; omega⟩
  · exact ⟨_, _, rfl, h1, h2⟩
theorem OS.sd {w : World} {base n cap : Nat} {a : Option Addr} {S : List Bool} (h : OS w base (.slice a n cap) S) : SdL w a S := by
  by_cases h0 : S = []
  · exact Or.inl h0
  · have h1 : S.length ≠ 0 := fun e => h0 (List.length_eq_zero_iff.1 e)
    rcases h.2 with ⟨_, e⟩ | ⟨g, cap', cur, e, hg, _⟩
    · exact absurd e h1
    · cases e
      refine Or.inr ⟨g, 0, rfl, fun i s hs => ?_⟩
      have hi : i < S.length := by
        rcases Nat.lt_or_ge i S.length with h' | h'
        · exact h'
        · rw [List.getElem?_eq_none h'] at hs; cases hs
      rw [Nat.zero_add, h.cellAt i (by omega), List.getElem?_map, hs]
      rfl
theorem OS.below {w0 w w' : World} {v : Value} {S : List Bool} (h : OS w w0.heap.size v S) (hb : Below w0.heap.size w0 w) (hg : w.grownBy w' v.ownBlock) : Below w0.heap.size w0 w' :=
  hb.grown hg hb.size (fun k hk => (h.lt k hk).1)
theorem OS.keep {w w' : World} {base : Nat} {v : Value} {S : List Bool} (h : OS w base v S) (hb : Below w.heap.size w w') : OS w' base v S := by
  refine ⟨h.1, ?_⟩
  rcases h.2 with h0 | ⟨g, cap, cur, rfl, hg, hh, h1, h2, h3, h4⟩
  · exact Or.inl h0
  · exact Or.inr ⟨g, cap, cur, rfl, hg, by rw [hb.block g (h.lt g rfl).2]; exact hh, h1, h2, h3, h4⟩
theorem OS.nil {w : World} {base : Nat} : OS w base (.slice none 0 0) [] := ⟨rfl, Or.inl ⟨rfl, rfl⟩⟩
theorem run_appS {W : World} {base g : Nat} {v : Value} {Q : List Bool} {s : Bool} (hown : OS W base v Q) (hx : W.cell? ⟨g, 0, none⟩ = some (sdv s)) (hb : Q.length ≤ 100000) (hbase : base ≤ W.heap.size) (ty : TypeId) :
    ∃ v' w', (Builtin.append_ #[48, 48] ty #[v, .slice (some ⟨g, 0, none⟩) 1 1]).run Tryd.prog W = .ok v' w' ∧ OS w' base v' (Q ++ [s]) ∧ W.grownBy w' v.ownBlock := by
  obtain ⟨i0, hi, hz0, hz1, hz2⟩ := info_parts infoS
  obtain ⟨v', w', h1, h2, h3, _⟩ := run_append_own (P := Tryd.prog) W base 48 ty 50 i0 _ 1 8 Tryd.underlying48 hi hz0 hz1 hz2 rfl (by decide) v Q.length _ hown ⟨g, 0, none⟩ 1 1 [sdv s] rfl (fun k u hu => by
    rcases k with _ | k
    · simp only [List.getElem?_cons_zero, Option.some.injEq] at hu
      subst hu
      exact hx
    · simp at hu) (fun u hu => by rw [List.mem_singleton] at hu; subst hu; rfl) (by unfold maxLen; omega) (by omega) hbase
  refine ⟨v', w', h1, ?_, h3⟩
  show w'.ownsRow base 50 1 v' (Q ++ [s]).length ((Q ++ [s]).map sdv)
  rw [List.length_append, List.map_append]
  exact h2
theorem wpList_appS {W : World} {ops : Array Oper} {rest : List Oper} {op : Oper} {a : Act} {Q' : Exit → Act → World → Prop} (hgd : op.guard = none) (x y : Operand)
    (ho : op.op = .call { callee := .builtin .append, args := #[x, y], argTypes := #[48, 48] })
    {base g : Nat} {v : Value} {Q : List Bool} {s : Bool} (hs : a.eval x = v) (hown : OS W base v Q) (hx : a.eval y = .slice (some ⟨g, 0, none⟩) 1 1) (hy : W.cell? ⟨g, 0, none⟩ = some (sdv s)) (hb : Q.length ≤ 100000) (hbase : base ≤ W.heap.size)
    (h : ∀ v' w', OS w' base v' (Q ++ [s]) → W.grownBy w' v.ownBlock → wpList Tryd.prog ops Q' rest (a.put op.dst v') w') : wpList Tryd.prog ops Q' (op :: rest) a W := by
  refine wpList_plain hgd fun K hK => ?_
  obtain ⟨v', w', hr, h2, h3⟩ := run_appS hown hy hb hbase op.type
  unfold Oper.wp execOp
  simp only [ho, resolve, invoke, builtin, Sem.run_bind, Sem.run_pure, Result.andThen_ok, List.map_toArray, List.map_cons, List.map_nil, hs, hx, hr]
  exact hK _ _ (h v' w' h2 h3)
theorem sizeS : (Tryd.prog.info? 50).map (·.size) = some 1 := by kernel_rfl
theorem zeroS : ((Tryd.prog.info? 50).bind (·.zero)).isSome = true := by kernel_rfl
theorem wpList_oneS {ops : Array Oper} {rest : List Oper} {op : Oper} {a : Act} {W : World} {Q : Exit → Act → World → Prop} (s : Bool) (hg : op.guard = none) (ho : op.op = .buildSlice 48 1 #[(0, .const (sdv s))])
    (h : ∀ p W', W'.cell? ⟨p, 0, none⟩ = some (sdv s) → Below W.heap.size W W' → wpList Tryd.prog ops Q rest (a.put op.dst (.slice (some ⟨p, 0, none⟩) 1 1)) W') : wpList Tryd.prog ops Q (op :: rest) a W :=
  wpList_buildFlat hg 48 50 1 _ ho .i64 [sdn s] Tryd.underlying48 sizeS zeroS rfl (by omega) (by omega) rfl
    (h _ _ (by rw [cell_of_row _ _ _ _ _ _ (heap_alloc_new W _)]; rfl) (Go.Proofs.YtpokecijongkpaaDoor.K.alloc (Below.refl _ _) _))
/-- What is answered: as many sides as are met. -/
def FeP (w : World) (S : List Bool) (e : Ending) (w' : World) : Prop := ∃ x c, e = .returned (.slice x S.length c) ∧ SdL w' x S ∧ S.length ≤ c ∧ c ≤ maxLen ∧ Below w.heap.size w w'
/-- While the rows are gone through: the a-th of z + 1; Q is met so far. -/
structure FeR (w wr : World) (S : List Bool) (v : Value) (a z : Nat) (Q : List Bool) : Prop where
  bl : Below w.heap.size w wr
  own : OS wr w.heap.size v Q
  e : Q ++ fe (z + 1) a = S
  az : a ≤ z
  zb : (z : Int) < 9223372036854775807
theorem FeR.len {w wr : World} {S : List Bool} {v : Value} {a z : Nat} {Q : List Bool} (h : FeR w wr S v a z Q) (hS : S.length ≤ 63) : Q.length ≤ 100000 := by
  have := congrArg List.length h.e
  rw [List.length_append] at this
  omega
theorem FeR.fin {w wr : World} {S : List Bool} {v : Value} {Q : List Bool} (h : FeR w wr S v 0 0 Q) : FeP w S (.returned v) wr := by
  have e := h.e
  rw [fe_one 0 (by omega), List.append_nil] at e
  obtain ⟨x, c, hv, h1, h2⟩ := h.own.form
  have ho := h.own
  rw [hv] at ho
  rw [← e]
  exact ⟨x, c, by rw [hv], ho.sd, h1, h2, h.bl⟩
theorem and1 (n : Int) : bits .and .i64 n 1 = n % 2 := by
  have h1 : (BitVec.ofInt 64 1).toNat = 2 ^ 1 - 1 := by decide
  have key : (BitVec.ofInt 64 n &&& BitVec.ofInt 64 1).toNat = (n % ((2 ^ 64 : Nat) : Int)).toNat % 2 ^ 1 := by
    rw [BitVec.toNat_and, BitVec.toNat_ofInt, h1, Nat.and_two_pow_sub_one_eq_mod]
  show IntKind.i64.wrap ((BitVec.ofInt 64 n &&& BitVec.ofInt 64 1).toNat : Nat) = n % 2
  rw [key, IntKind.wrap_i64]
  omega
set_option maxRecDepth 100000 in
set_option maxHeartbeats 8000000 in
theorem fellows_any {w : World} {a z : Nat} (ha : a ≤ z) (hz : (z : Int) < 9223372036854775807) : Calls Tryd.prog 33 #[.int .i64 (a : Int), .int .i64 (z : Int)] w (FeP w (fe (z + 1) a)) := by
  obtain ⟨S, hS⟩ : ∃ S, fe (z + 1) a = S := ⟨_, rfl⟩
  have HLn := hide (show S.length ≤ 63 by rw [← hS]; exact fe_len 63 _ _ (by omega))
  have H0 := hide (show FeR w w S (.slice none 0 0) a z [] from ⟨Below.refl _ _, OS.nil, hS, ha, hz⟩)
  rw [hS]
  clear hS ha hz
  go_enter Tryd.func33, Tryd.ntmps33
  go_upto_region 2 with fail
  go_loopg [0, 1, 5] z (fun g' s0 s1 s5 wr => ∃ (z a : Nat) (v : Value) (Q : List Bool), z = g' ∧ s0 = .int .i64 (a : Int) ∧ s1 = .int .i64 (z : Int) ∧ s5 = v ∧ FeR w wr S v a z Q)
  case atStart => exact ⟨z, a, _, [], rfl, rfl, rfl, rfl, H0.out⟩
  case round =>
    clear H0
    obtain ⟨z, a, v, Q, rfl, rfl, rfl, rfl, hE⟩ := hrel
    have HE := hide hE
    have haz := hE.az
    have hzb := hE.zb
    have he := hE.e
    clear hE
    by_cases hz : z = 0
    · subst hz
      obtain rfl : a = 0 := by omega
      clear haz hzb he
      go_wp2_with fail
      go_ret
      exact HE.out.fin
    · have hz1 : 0 < z := by omega
      obtain ⟨a2, ha2⟩ : ∃ k, a / 2 = k := ⟨_, rfl⟩
      obtain ⟨z2, hz2⟩ : ∃ k, z / 2 = k := ⟨_, rfl⟩
      have hz3 : (z + 1 + 1) / 2 = z2 + 1 := by omega
      have HZ := hide (show z2 < z ∧ a2 ≤ z2 ∧ (z2 : Int) < 9223372036854775807 by omega)
      have hqa : (a : Int) / 2 = (a2 : Int) := by omega
      have hqz : (z : Int) / 2 = (z2 : Int) := by omega
      by_cases hodd : a % 2 = 1
      · have hr : bits BinOp.and IntKind.i64 (a : Int) 1 = 1 := by rw [and1]; omega
        rw [fe_left (by omega) hodd, hz3, ha2] at he
        have HX := hide (show (Q ++ [true]) ++ fe (z2 + 1) a2 = S by rw [List.append_assoc]; exact he)
        clear haz hzb he ha2 hz2 hz3 hodd hz
        go_upto_region 3 with (first
          | (refine wpList_appS rfl _ _ rfl rfl (HE.out.own.keep HB1.out) rfl HG1.out (HE.out.len HLn.out) (Nat.le_trans HE.out.bl.size HB1.out.size) (fun v' W2 ho hg => ?_); have HO2 := hide ho; have HB2 := hide ((HE.out.own.keep HB1.out).below (Go.Proofs.YtpokecijongkpaaDoor.K.call HE.out.bl HB1.out) hg); clear ho hg HB1 HG1)
          | (refine wpList_oneS true rfl rfl (fun p W1 hp hb => ?_); have HG1 := hide hp; have HB1 := hide hb; clear hp hb))
        go_wp2_with fail
        go_roundg z2
        case measure => exact HZ.out.1
        case rel => exact ⟨z2, a2, _, Q ++ [true], rfl, by first | rfl | exact congrArg (Value.int .i64) hqa, by first | rfl | exact congrArg (Value.int .i64) hqz, rfl, HB2.out, HO2.out, HX.out, HZ.out.2.1, HZ.out.2.2⟩
      · have hr : bits BinOp.and IntKind.i64 (a : Int) 1 = 0 := by rw [and1]; omega
        by_cases hlast : a < z
        · have hlI : (a : Int) < (z : Int) := by omega
          rw [fe_right (by omega) hodd (by omega), hz3, ha2] at he
          have HX := hide (show (Q ++ [false]) ++ fe (z2 + 1) a2 = S by rw [List.append_assoc]; exact he)
          clear haz hzb he ha2 hz2 hz3 hodd hz hlast
          go_upto_region 3 with (first
            | (refine wpList_appS rfl _ _ rfl rfl (HE.out.own.keep HB1.out) rfl HG1.out (HE.out.len HLn.out) (Nat.le_trans HE.out.bl.size HB1.out.size) (fun v' W2 ho hg => ?_); have HO2 := hide ho; have HB2 := hide ((HE.out.own.keep HB1.out).below (Go.Proofs.YtpokecijongkpaaDoor.K.call HE.out.bl HB1.out) hg); clear ho hg HB1 HG1)
            | (refine wpList_oneS false rfl rfl (fun p W1 hp hb => ?_); have HG1 := hide hp; have HB1 := hide hb; clear hp hb))
          go_wp2_with fail
          go_roundg z2
          case measure => exact HZ.out.1
          case rel => exact ⟨z2, a2, _, Q ++ [false], rfl, by first | rfl | exact congrArg (Value.int .i64) hqa, by first | rfl | exact congrArg (Value.int .i64) hqz, rfl, HB2.out, HO2.out, HX.out, HZ.out.2.1, HZ.out.2.2⟩
        · have hlI : ¬ ((a : Int) < (z : Int)) := by omega
          rw [fe_none (by omega) hodd (by omega), hz3, ha2] at he
          have HX := hide he
          clear haz hzb he ha2 hz2 hz3 hodd hz hlast
          go_wp2_with fail
          go_roundg z2
          case measure => exact HZ.out.1
          case rel => exact ⟨z2, a2, _, Q, rfl, by first | rfl | exact congrArg (Value.int .i64) hqa, by first | rfl | exact congrArg (Value.int .i64) hqz, rfl, HE.out.bl, HE.out.own, HX.out, HZ.out.2.1, HZ.out.2.2⟩
end Go.Proofs.YtpokecijongkpaaDoor
namespace Go.Proofs.YtpokecijongkpaaDoor
set_option maxRecDepth 100000
open Go.RowKit
attribute [local go_sem ↓] Go.wp_at_zero Go.wp_at_succ

/-- A list's hashes from the u-th on. -/
def ls (F : Nat → Nat → Nat) (u l : Nat) : List (Nat → Nat) := (List.range (l - u)).map fun i => F (u + i)
theorem ls_nil (F : Nat → Nat → Nat) (l : Nat) : ls F l l = [] := by unfold ls; rw [Nat.sub_self]; rfl
theorem ls_len (F : Nat → Nat → Nat) (u l : Nat) : (ls F u l).length = l - u := by unfold ls; rw [List.length_map, List.length_range]
theorem ls_cons (F : Nat → Nat → Nat) {u l : Nat} (h : u < l) : ls F u l = F u :: ls F (u + 1) l := by
  unfold ls
  obtain ⟨k, hk⟩ : ∃ k, l - u = k + 1 := ⟨l - u - 1, by omega⟩
  rw [hk, List.range_succ_eq_map, List.map_cons, List.map_map, show l - (u + 1) = k by omega]
  congr 1
  refine List.map_congr_left fun i _ => ?_
  show F (u + (i + 1)) = F (u + 1 + i)
  rw [Nat.add_assoc, Nat.add_comm 1 i]
theorem ls_rev (F : Nat → Nat → Nat) : ∀ l, (ls F 0 l).reverse = rv F l
  | 0 => rfl
  | l + 1 => by
    unfold ls
    have e : (fun i => F (0 + i)) = F := funext fun i => by rw [Nat.zero_add]
    rw [Nat.sub_zero, List.range_succ, List.map_append, List.reverse_append, rv, ← ls_rev F l]
    unfold ls
    rw [Nat.sub_zero, e]
    rfl
theorem Vs.tail {w0 W : World} {p : Nat × (Nat → Nat)} {L : List (Nat × (Nat → Nat))} (h : Vs w0 W (p :: L)) : Vs w0 W L :=
  ⟨h.k, (fun q hq => h.at_ q (List.mem_cons_of_mem _ hq)), (List.nodup_cons.1 (by have := h.dn; rwa [List.map_cons] at this)).2⟩
theorem ap_drop {β : Type} {A B : (Nat → Nat) → β → β} {S : List Bool} {i l : Nat} {F : Nat → Nat → Nat} {x : β} {O : Option β} (h : ap A B (S.drop i) (ls F i l) x = O) (hi : i < l) (hl : S.length = l) :
    ∃ s, S[i]? = some s ∧ ap A B (S.drop (i + 1)) (ls F (i + 1) l) (if s then A (F i) x else B (F i) x) = O := by
  have h1 : i < S.length := by omega
  refine ⟨S[i], List.getElem?_eq_getElem h1, ?_⟩
  rw [List.drop_eq_getElem_cons h1, ls_cons F hi] at h
  exact h
theorem ap_done {β : Type} {A B : (Nat → Nat) → β → β} {S : List Bool} {l : Nat} {F : Nat → Nat → Nat} {x : β} {O : Option β} (h : ap A B (S.drop l) (ls F l l) x = O) (hl : S.length = l) : some x = O := by
  rw [List.drop_eq_nil_of_le (by omega), ls_nil] at h
  exact h
/-- While the hashes go to their sides: i of them have. -/
structure PcR (w wr : World) (x : Nat) (S : List Bool) (F : Nat → Nat → Nat) (l : Nat) (O : Option (Nat → Nat)) (i : Nat) (hc : Nat → Nat) : Prop where
  v : Vs w wr [(x, hc)]
  e : ap qA qB (S.drop i) (ls F i l) hc = O
  il : i ≤ l
  lt : ∀ j, hc j < 256
theorem wrap_u {u : Nat} (h : u ≤ 100000) : wrap64 ((u : Int) + 1) = (u : Int) + 1 := by unfold wrap64; omega
set_option maxRecDepth 100000 in
set_option maxHeartbeats 8000000 in
theorem checkPath_any {w : World} {y : Option Addr} {l c : Nat} {m n : Int} {F : Nat → Nat → Nat} {f g : Nat → Nat} (hT : Tab w) (hL : HL w y l F) (hc : l ≤ c) (hmx : c ≤ maxLen) (hl : l ≤ 100000) (hn : n < 9223372036854775808) (hf : ∀ j, f j < 256) (_hg : ∀ j, g j < 256) :
    Calls Tryd.prog 19 #[.int .i64 m, .int .i64 n, hv f, .slice y l c, hv g] w fun e w' => e = .returned (.bool (ckP m n f (rv F l) g)) ∧ Below w.heap.size w w' := by
  by_cases h : m < 0 ∨ n ≤ m
  · rw [ckP_not h]
    unfold hv
    rcases h with h | h
    · clear hT hL hc hmx hn hf _hg hl
      go_enter Tryd.func19, Tryd.ntmps19
      go_upto_region 1 with fail
      refine wp_world (fun X hX => ?_)
      have hv := Vs.boxedg hX
      clear hX
      obtain ⟨b0, hb0⟩ : ∃ b0, w.heap.size = b0 := ⟨_, rfl⟩
      rw [hb0] at hv ⊢
      have HV := hide hv
      clear hv hb0
      go_wp2_with fail
      go_ret
      exact ⟨rfl, HV.out.k⟩
    · by_cases h0 : m < 0
      · clear hT hL hc hmx hn hf _hg h hl
        go_enter Tryd.func19, Tryd.ntmps19
        go_upto_region 1 with fail
        refine wp_world (fun X hX => ?_)
        have hv := Vs.boxedg hX
        clear hX
        obtain ⟨b0, hb0⟩ : ∃ b0, w.heap.size = b0 := ⟨_, rfl⟩
        rw [hb0] at hv ⊢
        have HV := hide hv
        clear hv hb0
        go_wp2_with fail
        go_ret
        exact ⟨rfl, HV.out.k⟩
      · clear hT hL hc hmx hn hf _hg hl
        go_enter Tryd.func19, Tryd.ntmps19
        go_upto_region 1 with fail
        refine wp_world (fun X hX => ?_)
        have hv := Vs.boxedg hX
        clear hX
        obtain ⟨b0, hb0⟩ : ∃ b0, w.heap.size = b0 := ⟨_, rfl⟩
        rw [hb0] at hv ⊢
        have HV := hide hv
        clear hv hb0
        go_wp2_with fail
        go_ret
        exact ⟨rfl, HV.out.k⟩
  · obtain ⟨m, rfl⟩ := Int.eq_ofNat_of_zero_le (show 0 ≤ m by omega)
    obtain ⟨n, rfl⟩ := Int.eq_ofNat_of_zero_le (show 0 ≤ n by omega)
    have hmn : m < n := by omega
    rw [ckP_nat hmn, ← ls_rev F l, ld_lv n m f _ hmn, lv_fe]
    have hq1 : ¬ ((m : Int) < 0) := by omega
    have hq2 : ¬ ((n : Int) ≤ (m : Int)) := by omega
    obtain ⟨z0, hz0⟩ : ∃ z, n = z + 1 := ⟨n - 1, by omega⟩
    have hwn : wrap64 ((n : Int) - 1) = (z0 : Int) := by unfold wrap64; omega
    obtain ⟨S, hS⟩ : ∃ S, fe n m = S := ⟨_, rfl⟩
    have hfe := fun W => fellows_any (w := W) (a := m) (z := z0) (by omega) (by omega)
    rw [← hz0, hS] at hfe
    rw [hS]
    obtain ⟨k, hk⟩ : ∃ k, S.length = k := ⟨_, rfl⟩
    have HFe := hide hfe
    obtain ⟨O, hO⟩ : ∃ O, ap qA qB S (ls F 0 l) f = O := ⟨_, rfl⟩
    have HT := hide hT
    have HLs := hide hL
    have HC := hide (And.intro hc (And.intro hmx hl))
    have HF := hide hf
    have HK := hide hk
    have HO := hide hO
    rw [hO]
    clear hT hL hc hmx hn hf _hg h hmn hz0 hfe hS
    unfold hv
    go_enter Tryd.func19, Tryd.ntmps19
    go_upto_region 1 with fail
    refine wp_world (fun X hX => ?_)
    have hv := Vs.boxedg hX
    clear hX
    obtain ⟨b0, hb0⟩ : ∃ b0, w.heap.size = b0 := ⟨_, rfl⟩
    rw [hb0] at hv ⊢
    have HV := hide hv
    clear hv hb0
    go_upto_region 4 with (go_at_call 33; refine Calls.mono (HFe.out _) ?_; rintro e X1 hE; obtain ⟨xs, cs, rfl, hsd, hsc, hsm, hb⟩ := hE; have HV1 := hide (HV.out.keep hb); have HS := hide (And.intro hsd (And.intro hsc hsm)); clear hsd hsc hsm hb HV)
    clear HFe hwn hq1 hq2
    by_cases hlk : l = k
    · subst hlk
      have hNe : ((l : Int) != (l : Int)) = false := by rw [bne_eq_false_iff_eq]
      have hTX := HT.out.keep HV1.out.k
      have HTX := hide hTX
      have HLX := hide (HLs.out.keep HV1.out.k)
      have hv0 := Vs.nil X1
      have HN := hide hv0
      clear hO hTX hv0 hl hk HT HLs
      go_upto_region 7 with (first
        | (refine HN1.out.listPut (b := x) 0 rfl rfl rfl rfl rfl (fun X3 hv => ?_); have HN2 : Hid (Vs X1 X3 [(x, f)]) := hide hv; clear hv HN1)
        | (refine HN.out.listNew rfl rfl (fun x X2 hv hb => ?_); have HN1 := hide hv; clear hv hb HN)
        | (refine wpList_load_h (g := b0) rfl _ rfl rfl (HV1.out.rg 1 rfl) ?_))
      go_upto_region 8 with fail
      go_loopg [34] l (fun g' s34 wr => ∃ (G i : Nat) (hc : Nat → Nat), G = g' ∧ i + G = l ∧ s34 = .int .i64 (i : Int) ∧ PcR X1 wr x S F l O i hc)
      case atStart => exact ⟨l, 0, f, rfl, by omega, rfl, HN2.out, HO.out, Nat.zero_le _, HF.out⟩
      case round =>
        clear HN2
        obtain ⟨G, i, hc, rfl, hil, rfl, hE⟩ := hrel
        have HE := hide hE
        have HV := hide hE.v
        have hee := hE.e
        have hlt := hE.lt
        clear hE
        by_cases hi : i = l
        · subst hi
          obtain rfl : some hc = O := ap_done hee HK.out
          show Code.wp _ _ _ _ _
          clear hee hlt hil
          have HEq := hide (fun W => eqH hc g W)
          cases he : eqB hc g 32 with
          | true =>
            rw [he] at HEq
            go_wp2_with (first | (refine wpList_load_g (g := x) (by rfl) _ rfl rfl (HV.out.rg 0 rfl) ?_; simp only [Act.put, List.setIfInBounds_toArray, List.set_cons_zero, List.set_cons_succ]) | (refine wpList_load_g (g := b0 + 1) (by rfl) _ rfl rfl (range_keep (HV1.out.rg 0 rfl) HV.out.k) ?_; simp only [Act.put, List.setIfInBounds_toArray, List.set_cons_zero, List.set_cons_succ]) | (refine wpList_eqH (by rfl) _ _ _ rfl _ _ true rfl rfl (HEq.out _) ?_; simp only [Act.put, List.setIfInBounds_toArray, List.set_cons_zero, List.set_cons_succ]))
            go_ret
            exact ⟨rfl, Go.Proofs.YtpokecijongkpaaDoor.K.call HV1.out.k HV.out.k⟩
          | false =>
            rw [he] at HEq
            go_wp2_with (first | (refine wpList_load_g (g := x) (by rfl) _ rfl rfl (HV.out.rg 0 rfl) ?_; simp only [Act.put, List.setIfInBounds_toArray, List.set_cons_zero, List.set_cons_succ]) | (refine wpList_load_g (g := b0 + 1) (by rfl) _ rfl rfl (range_keep (HV1.out.rg 0 rfl) HV.out.k) ?_; simp only [Act.put, List.setIfInBounds_toArray, List.set_cons_zero, List.set_cons_succ]) | (refine wpList_eqH (by rfl) _ _ _ rfl _ _ false rfl rfl (HEq.out _) ?_; simp only [Act.put, List.setIfInBounds_toArray, List.set_cons_zero, List.set_cons_succ]))
            go_ret
            exact ⟨rfl, Go.Proofs.YtpokecijongkpaaDoor.K.call HV1.out.k HV.out.k⟩
        · have hi2 : i < l := by omega
          obtain ⟨s, hs, hee2⟩ := ap_drop hee hi2 HK.out
          have hiI : (i : Int) < (l : Int) := by omega
          have hic : i < l := hi2
          obtain ⟨bz, oz, rfl⟩ := HLX.out.ad (Nat.lt_of_le_of_lt (Nat.zero_le _) hi2)
          obtain ⟨bs, os, rfl, hsd⟩ : ∃ b o, xs = some ⟨b, o, none⟩ ∧ ∀ i s, S[i]? = some s → X1.cell? ⟨b, o + i, none⟩ = some (sdv s) := by
            rcases HS.out.1 with h | h
            · have := HK.out
              rw [h] at this
              have h0 : 0 = l := this
              omega
            · exact h
          have HSd := hide (hsd i s hs)
          obtain ⟨t, ht⟩ : ∃ t, F i = t := ⟨_, rfl⟩
          have htl : ∀ j, t j < 256 := by rw [← ht]; exact HLX.out.lt i
          have hRi : X1.rangeAt bz (oz + i * 32) (ab t 32) := by rw [← ht]; exact HLX.out.rangeA hi2
          rw [ht] at hee2
          have HRi := hide hRi
          have HTl := hide htl
          have HLt := hide hlt
          have hi9 : i ≤ 100000 := by have := HC.out.2.2; omega
          have hwi := wrap_u hi9
          have hlc0 : ¬ (c = 0) := by have := HC.out.1; omega
          have hsc0 : ¬ (cs = 0) := by have h1 := HS.out.2.1; rw [HK.out] at h1; omega
          have hcnt : i + 1 + (G - 1) = l := by omega
          have hg1 : G - 1 < G := by omega
          have HM := hide (And.intro hcnt (And.intro hg1 hi2))
          clear hRi htl ht hlt hee hsd hi hil hcnt hg1 hs hi9
          go_upto_region 10 with (first
            | (refine HV3.out.listPut (b := q) 0 rfl rfl rfl rfl rfl (fun Y3 hv => ?_); have HV4 : Hid (Vs X1 Y3 [(q, t), (x, hc)]) := hide hv; clear hv HV3)
            | (refine HV.out.listNew rfl rfl (fun q Y2 hv hb => ?_); have HV3 := hide hv; clear hv hb)
            | (refine wpList_load_h (g := bz) rfl _ rfl rfl (range_keep HRi.out HV.out.k) ?_))
          have hcell := later HV4.out.k HSd.out
          clear HV HE
          cases s with
          | true =>
            have hX : ap qA qB (S.drop (i + 1)) (ls F (i + 1) l) (nd t hc) = O := hee2
            have HNd' := fun W (h : Below X1.heap.size X1 W) => node_any (w := W) (HTX.out.keep h) HTl.out HLt.out
            obtain ⟨u1, hu1⟩ : ∃ f, nd t hc = f := ⟨_, rfl⟩
            have hu1l : ∀ j, u1 j < 256 := by rw [← hu1]; exact nd_lt t hc
            unfold hv at HNd'
            rw [hu1] at hX HNd'
            have HX := hide (And.intro hX hu1l)
            have HNd := hide HNd'
            have hcell2 : Y3.cell? ⟨bs, os + i, none⟩ = some (.int .i64 0) := hcell
            clear hX HNd' hu1 hu1l hee2 hcell
            go_upto_region 11 with fail
            clear hcell2
            go_upto_region 13 with (first
              | (refine HV5.out.listPut (b := x) 1 rfl rfl rfl rfl rfl (fun Y5 hv => ?_); have HV6 : Hid (Vs X1 Y5 [(q, t), (x, u1)]) := hide hv; clear hv HV5)
              | (go_at_call 34; (with_reducible refine Calls.mono (HNd.out _ HV4.out.k) ?_); rintro e Y4 ⟨rfl, hb⟩; have HV5 := hide (HV4.out.keep hb); clear hb HV4)
              | (refine wpList_load_h (g := x) rfl _ rfl rfl (HV4.out.rg 1 rfl) ?_)
              | (refine wpList_load_h (g := q) rfl _ rfl rfl (HV4.out.rg 0 rfl) ?_))
            go_wp2_with fail
            go_roundg (G - 1)
            case measure => exact HM.out.2.1
            case rel => exact ⟨G - 1, i + 1, u1, rfl, HM.out.1, by first | rfl | exact congrArg (Value.int .i64) hwi, HV6.out.tail, HX.out.1, HM.out.2.2, HX.out.2⟩
          | false =>
            have hX : ap qA qB (S.drop (i + 1)) (ls F (i + 1) l) (nd hc t) = O := hee2
            have HNd' := fun W (h : Below X1.heap.size X1 W) => node_any (w := W) (HTX.out.keep h) HLt.out HTl.out
            obtain ⟨u1, hu1⟩ : ∃ f, nd hc t = f := ⟨_, rfl⟩
            have hu1l : ∀ j, u1 j < 256 := by rw [← hu1]; exact nd_lt hc t
            unfold hv at HNd'
            rw [hu1] at hX HNd'
            have HX := hide (And.intro hX hu1l)
            have HNd := hide HNd'
            have hcell2 : Y3.cell? ⟨bs, os + i, none⟩ = some (.int .i64 1) := hcell
            clear hX HNd' hu1 hu1l hee2 hcell
            go_upto_region 12 with fail
            clear hcell2
            go_upto_region 13 with (first
              | (refine HV5.out.listPut (b := x) 1 rfl rfl rfl rfl rfl (fun Y5 hv => ?_); have HV6 : Hid (Vs X1 Y5 [(q, t), (x, u1)]) := hide hv; clear hv HV5)
              | (go_at_call 34; (with_reducible refine Calls.mono (HNd.out _ HV4.out.k) ?_); rintro e Y4 ⟨rfl, hb⟩; have HV5 := hide (HV4.out.keep hb); clear hb HV4)
              | (refine wpList_load_h (g := x) rfl _ rfl rfl (HV4.out.rg 1 rfl) ?_)
              | (refine wpList_load_h (g := q) rfl _ rfl rfl (HV4.out.rg 0 rfl) ?_))
            go_wp2_with fail
            go_roundg (G - 1)
            case measure => exact HM.out.2.1
            case rel => exact ⟨G - 1, i + 1, u1, rfl, HM.out.1, by first | rfl | exact congrArg (Value.int .i64) hwi, HV6.out.tail, HX.out.1, HM.out.2.2, HX.out.2⟩
    · have hNe : ((l : Int) != (k : Int)) = true := by rw [bne_iff_ne]; omega
      obtain rfl : none = O := by
        rw [← hO]
        exact (ap_len qA qB S _ _ (by rw [hk, ls_len]; omega)).symm
      clear hO hl hk hlk
      go_wp2_with fail
      go_ret
      exact ⟨rfl, HV1.out.k⟩
end Go.Proofs.YtpokecijongkpaaDoor
