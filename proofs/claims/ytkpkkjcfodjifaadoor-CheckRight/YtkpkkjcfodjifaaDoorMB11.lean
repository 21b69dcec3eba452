/- Layer 19: the document's own Path and Proof. Layer 19: what layer 18 tells is right; how many hashes lead somewhere (no function of the program is named). Layer 19: the sides on which what is met stands, from the bottom up, told ahead of the way (no function of the program is named). Layer 19: how many noughts a number ends with (math/bits.TrailingZeros), where the library's table is laid. Layer 19: the program's fellows: on which side what is met stands, from the bottom up. -/
import Derived.Test.YtkpkkjcfodjifaaDoorMB10
import Derived.Test.YtkpkkjcfodjifaaDoorMB09
import Derived.Test.YtkpkkjcfodjifaaDoorMB02
import Derived.Lib.TrailingZeros
import Derived.Laws.Bits64b
namespace Go.Proofs.YtkpkkjcfodjifaaDoor
set_option maxRecDepth 100000
open Go.RowKit
attribute [local go_sem ↓] Go.wp_at_zero Go.wp_at_succ

/-- Whether a path leads there; p: the last one first. -/
def ckP (m n : Int) (f : Nat → Nat) (p : List (Nat → Nat)) (g : Nat → Nat) : Bool :=
  if m < 0 ∨ n ≤ m then false else match ld n.toNat m.toNat f p with
    | none => false
    | some y => eqB y g 32
/-- Whether a proof leads there; p: the last one first. -/
def ckT (m n : Int) (f : Nat → Nat) (p : List (Nat → Nat)) (g : Nat → Nat) : Bool :=
  if m < 1 ∨ n < m then false else match tw n.toNat m.toNat true f p with
    | none => false
    | some (y, z) => eqB y f 32 && eqB z g 32
theorem ckP_not {m n : Int} (h : m < 0 ∨ n ≤ m) (f : Nat → Nat) (p : List (Nat → Nat)) (g : Nat → Nat) : ckP m n f p g = false := if_pos h
theorem ckP_nat {m n : Nat} (h : m < n) (f : Nat → Nat) (p : List (Nat → Nat)) (g : Nat → Nat) : ckP (m : Int) (n : Int) f p g = match ld n m f p with
    | none => false
    | some y => eqB y g 32 := by
  unfold ckP
  rw [if_neg (by omega), Int.toNat_natCast, Int.toNat_natCast]
theorem ckT_not {m n : Int} (h : m < 1 ∨ n < m) (f : Nat → Nat) (p : List (Nat → Nat)) (g : Nat → Nat) : ckT m n f p g = false := if_pos h
theorem ckT_nat {m n : Nat} (h1 : 1 ≤ m) (h : m ≤ n) (f : Nat → Nat) (p : List (Nat → Nat)) (g : Nat → Nat) : ckT (m : Int) (n : Int) f p g = match tw n m true f p with
    | none => false
    | some (y, z) => eqB y f 32 && eqB z g 32 := by
  unfold ckT
  rw [if_neg (by omega), Int.toNat_natCast, Int.toNat_natCast]
theorem Vs.boxedg {w X : World} {f g : Nat → Nat} (hX : X = (w.alloc (.cells (ab f 32).toArray 23)).alloc (.cells (ab g 32).toArray 23)) : Vs w X [(w.heap.size + 1, g), (w.heap.size, f)] := by
  rw [hX]
  have h := ((Vs.nil w).made f).made g
  have e : ∀ o, (w.alloc o).heap.size = w.heap.size + 1 := fun o => by simp
  rw [e] at h
  exact h
end Go.Proofs.YtkpkkjcfodjifaaDoor
namespace Go.Proofs.YtkpkkjcfodjifaaDoor
set_option maxRecDepth 100000
open Go.RowKit

/-- The split of the first ones that reach behind the split of all. -/
theorem sp_same {n m : Nat} (h : 2 ≤ n) (hm : sp n < m) (hn : m ≤ n) : sp m = sp n := by
  have h1 := sp_le h
  rw [sp_pow h] at h1 hm ⊢
  exact sp_of hm (by omega)
theorem ld_pth : ∀ (n m : Nat) (F : Nat → Nat → Nat), m < n → ld n m (F m) (pth F n m).reverse = some (rt F n) := fun n => by
  induction n using Nat.strongRecOn with
  | ind n ih =>
    intro m F hm
    by_cases h2 : n < 2
    · obtain rfl : n = 1 := by omega
      obtain rfl : m = 0 := by omega
      rw [pth_small F 0 h2, ld_one 0 _ _ h2, rt_one]
      rfl
    · have k1 := sp_lt (n := n) (by omega)
      have k0 := sp_pos (n := n) (by omega)
      by_cases hk : m < sp n
      · rw [pth_low F (by omega) hk, List.reverse_append, List.reverse_singleton, List.singleton_append, ld_low _ _ _ (by omega) hk, ih _ k1 m F hk, rt_more F (n := n) (by omega)]
        rfl
      · rw [pth_up F (by omega) hk, List.reverse_append, List.reverse_singleton, List.singleton_append, ld_up _ _ _ (by omega) hk, rt_more F (n := n) (by omega)]
        have h := ih (n - sp n) (by omega) (m - sp n) (fun i => F (sp n + i)) (by omega)
        rw [show sp n + (m - sp n) = m by omega] at h
        rw [h]
        rfl
theorem tw_prf : ∀ (n m : Nat) (w : Bool) (F : Nat → Nat → Nat) (x : Nat → Nat), 1 ≤ m → m ≤ n → (w = true → x = rt F m) → tw n m w x (prf F n m w).reverse = some (rt F m, rt F n) := fun n => by
  induction n using Nat.strongRecOn with
  | ind n ih =>
    intro m w F x h1 hm hx
    by_cases h2 : n ≤ m ∨ n < 2
    · obtain rfl : n = m := by omega
      rw [prf_end F w h2, tw_end w x _ h2]
      cases w with
      | true =>
        rw [hx rfl]
        rfl
      | false => rfl
    · have k1 := sp_lt (n := n) (by omega)
      have k0 := sp_pos (n := n) (by omega)
      by_cases hk : m ≤ sp n
      · rw [prf_low F w (by omega) (by omega) hk, List.reverse_append, List.reverse_singleton, List.singleton_append, tw_low w x _ _ h2 hk, ih _ k1 m w F x h1 hk hx, rt_more F (n := n) (by omega)]
        rfl
      · have hs := sp_same (n := n) (m := m) (by omega) (by omega) hm
        rw [prf_up F w (by omega) (by omega) hk, List.reverse_append, List.reverse_singleton, List.singleton_append, tw_up w x _ _ h2 hk, ih (n - sp n) (by omega) (m - sp n) false (fun i => F (sp n + i)) x (by omega) (by omega) (fun h => by cases h), rt_more F (n := n) (by omega), rt_more F (n := m) (by omega), hs]
        rfl
theorem ld_len : ∀ (n m : Nat) (x : Nat → Nat) (r : List (Nat → Nat)) (F : Nat → Nat → Nat), m < n → (ld n m x r).isSome = decide (r.length = (pth F n m).length) := fun n => by
  induction n using Nat.strongRecOn with
  | ind n ih =>
    intro m x r F hm
    by_cases h2 : n < 2
    · rw [pth_small F m h2, ld_one m x r h2]
      cases r <;> rfl
    · have k1 := sp_lt (n := n) (by omega)
      have k0 := sp_pos (n := n) (by omega)
      cases r with
      | nil =>
        rw [ld_nil m x (by omega)]
        refine (decide_eq_false fun e => ?_).symm
        by_cases hk : m < sp n
        · rw [pth_low F (by omega) hk, List.length_append] at e
          simp at e
        · rw [pth_up F (by omega) hk, List.length_append] at e
          simp at e
      | cons t r =>
        by_cases hk : m < sp n
        · rw [ld_low x t r (by omega) hk, pth_low F (by omega) hk, Option.isSome_map, ih _ k1 m x r F hk, List.length_append, List.length_cons, List.length_singleton]
          exact decide_eq_decide.2 (by omega)
        · rw [ld_up x t r (by omega) hk, pth_up F (by omega) hk, Option.isSome_map, ih (n - sp n) (by omega) (m - sp n) x r (fun i => F (sp n + i)) (by omega), List.length_append, List.length_cons, List.length_singleton]
          exact decide_eq_decide.2 (by omega)
theorem tw_len : ∀ (n m : Nat) (w : Bool) (x : Nat → Nat) (r : List (Nat → Nat)) (F : Nat → Nat → Nat), 1 ≤ m → m ≤ n → (tw n m w x r).isSome = decide (r.length = (prf F n m w).length) := fun n => by
  induction n using Nat.strongRecOn with
  | ind n ih =>
    intro m w x r F h1 hm
    by_cases h2 : n ≤ m ∨ n < 2
    · rw [prf_end F w h2, tw_end w x r h2]
      cases w with
      | true => cases r <;> rfl
      | false =>
        rcases r with _ | ⟨a, _ | ⟨b, r⟩⟩
        · rfl
        · rfl
        · exact (decide_eq_false (by simp)).symm
    · have k1 := sp_lt (n := n) (by omega)
      have k0 := sp_pos (n := n) (by omega)
      cases r with
      | nil =>
        rw [tw_nil w x h2]
        refine (decide_eq_false fun e => ?_).symm
        by_cases hk : m ≤ sp n
        · rw [prf_low F w (by omega) (by omega) hk, List.length_append] at e
          simp at e
        · rw [prf_up F w (by omega) (by omega) hk, List.length_append] at e
          simp at e
      | cons t r =>
        by_cases hk : m ≤ sp n
        · rw [tw_low w x t r h2 hk, prf_low F w (by omega) (by omega) hk, Option.isSome_map, ih _ k1 m w x r F h1 hk, List.length_append, List.length_cons, List.length_singleton]
          exact decide_eq_decide.2 (by omega)
        · rw [tw_up w x t r h2 hk, prf_up F w (by omega) (by omega) hk, Option.isSome_map, ih (n - sp n) (by omega) (m - sp n) false x r (fun i => F (sp n + i)) (by omega) (by omega), List.length_append, List.length_cons, List.length_singleton]
          exact decide_eq_decide.2 (by omega)
theorem rv_len (F : Nat → Nat → Nat) : ∀ n, (rv F n).length = n
  | 0 => rfl
  | n + 1 => by rw [rv, List.length_cons, rv_len F n]
theorem rv_lF (L : List (Nat → Nat)) : ∀ n, n ≤ L.length → rv (lF L) n = (L.take n).reverse
  | 0, _ => by rw [List.take_zero]; rfl
  | n + 1, h => by
    rw [rv, rv_lF L n (by omega), List.take_succ_eq_append_getElem (by omega), List.reverse_append, List.reverse_singleton, List.singleton_append]
    congr 1
    unfold lF
    rw [List.getD_eq_getElem?_getD, List.getElem?_eq_getElem (by omega)]
    rfl
theorem rv_all (L : List (Nat → Nat)) : rv (lF L) L.length = L.reverse := by rw [rv_lF L _ (Nat.le_refl _), List.take_length]
end Go.Proofs.YtkpkkjcfodjifaaDoor
namespace Go.Proofs.YtkpkkjcfodjifaaDoor
set_option maxRecDepth 100000
open Go.RowKit

/-- On which side what is met stands: true is the left one. -/
def fe (n m : Nat) : List Bool :=
  if _h : n < 2 then []
  else if m % 2 = 1 then true :: fe ((n + 1) / 2) (m / 2)
  else if m + 1 < n then false :: fe ((n + 1) / 2) (m / 2)
  else fe ((n + 1) / 2) (m / 2)
termination_by n
decreasing_by all_goals omega
theorem fe_one {n : Nat} (m : Nat) (h : n < 2) : fe n m = [] := by rw [fe.eq_def, dif_pos h]
theorem fe_left {n m : Nat} (h : 2 ≤ n) (hm : m % 2 = 1) : fe n m = true :: fe ((n + 1) / 2) (m / 2) := by rw [fe.eq_def, dif_neg (by omega), if_pos hm]
theorem fe_right {n m : Nat} (h : 2 ≤ n) (hm : ¬ m % 2 = 1) (hn : m + 1 < n) : fe n m = false :: fe ((n + 1) / 2) (m / 2) := by rw [fe.eq_def, dif_neg (by omega), if_neg hm, if_pos hn]
theorem fe_none {n m : Nat} (h : 2 ≤ n) (hm : ¬ m % 2 = 1) (hn : ¬ m + 1 < n) : fe n m = fe ((n + 1) / 2) (m / 2) := by rw [fe.eq_def, dif_neg (by omega), if_neg hm, if_neg hn]
theorem fe_len : ∀ (k n m : Nat), n ≤ 2 ^ k → (fe n m).length ≤ k
  | 0, n, m, h => by
    rw [fe_one m (by rw [Nat.pow_zero] at h; omega)]
    exact Nat.le_refl _
  | k + 1, n, m, h => by
    by_cases h2 : n < 2
    · rw [fe_one m h2]
      exact Nat.zero_le _
    · have e := two_of k
      have ih := fe_len k ((n + 1) / 2) (m / 2) (by omega)
      by_cases hm : m % 2 = 1
      · rw [fe_left (by omega) hm, List.length_cons]
        omega
      · by_cases hn : m + 1 < n
        · rw [fe_right (by omega) hm hn, List.length_cons]
          omega
        · rw [fe_none (by omega) hm hn]
          omega
section
variable {β : Type} (A B : (Nat → Nat) → β → β)
/-- The hashes go to their sides, one by one; as many as sides, or it leads nowhere. -/
def ap : List Bool → List (Nat → Nat) → β → Option β
  | [], [], x => some x
  | s :: S, q :: p, x => ap S p (if s then A q x else B q x)
  | [], _ :: _, _ => none
  | _ :: _, [], _ => none
theorem ap_len : ∀ (S : List Bool) (p : List (Nat → Nat)) (x : β), S.length ≠ p.length → ap A B S p x = none
  | [], [], _, h => absurd rfl h
  | [], _ :: _, _, _ => rfl
  | _ :: _, [], _, _ => rfl
  | s :: S, q :: p, x, h => by
    show ap A B S p _ = none
    exact ap_len S p _ fun e => h (by rw [List.length_cons, List.length_cons, e])
theorem ap_left (S : List Bool) (q : Nat → Nat) (p : List (Nat → Nat)) (x : β) : ap A B (true :: S) (q :: p) x = ap A B S p (A q x) := rfl
theorem ap_right (S : List Bool) (q : Nat → Nat) (p : List (Nat → Nat)) (x : β) : ap A B (false :: S) (q :: p) x = ap A B S p (B q x) := rfl
/-- From the bottom up, level by level, is by the sides, one by one. -/
theorem lvG_fe : ∀ (n m : Nat) (x : β) (p : List (Nat → Nat)), lvG A B n m x p = ap A B (fe n m) p x := fun n => by
  induction n using Nat.strongRecOn with
  | ind n ih =>
    intro m x p
    by_cases h2 : n < 2
    · rw [lvG_one A B m x p h2, fe_one m h2]
      cases p <;> rfl
    · by_cases hm : m % 2 = 1
      · rw [fe_left (by omega) hm]
        cases p with
        | nil => rw [lvG_nil A B x (by omega) (Or.inl hm)]; rfl
        | cons q p => rw [lvG_take A B x q p (by omega) (Or.inl hm), if_pos hm, ap_left, ih _ (by omega)]
      · by_cases hn : m + 1 < n
        · rw [fe_right (by omega) hm hn]
          cases p with
          | nil => rw [lvG_nil A B x (by omega) (Or.inr hn)]; rfl
          | cons q p => rw [lvG_take A B x q p (by omega) (Or.inr hn), if_neg hm, ap_right, ih _ (by omega)]
        · rw [fe_none (by omega) hm hn, lvG_skip A B x p (by omega) (by omega), ih _ (by omega)]
end
abbrev qA (t x : Nat → Nat) : Nat → Nat := nd t x
abbrev qB (t x : Nat → Nat) : Nat → Nat := nd x t
theorem lv_fe : ∀ (n m : Nat) (x : Nat → Nat) (p : List (Nat → Nat)), lv n m x p = ap qA qB (fe n m) p x := fun n => by
  induction n using Nat.strongRecOn with
  | ind n ih =>
    intro m x p
    by_cases h2 : n < 2
    · rw [lv_one m x p h2, fe_one m h2]
      cases p <;> rfl
    · by_cases hm : m % 2 = 1
      · rw [fe_left (by omega) hm]
        cases p with
        | nil => rw [lv_nil x (by omega) (Or.inl hm)]; rfl
        | cons q p => rw [lv_take x q p (by omega) (Or.inl hm), if_pos hm, ap_left, ih _ (by omega)]
      · by_cases hn : m + 1 < n
        · rw [fe_right (by omega) hm hn]
          cases p with
          | nil => rw [lv_nil x (by omega) (Or.inr hn)]; rfl
          | cons q p => rw [lv_take x q p (by omega) (Or.inr hn), if_neg hm, ap_right, ih _ (by omega)]
        · rw [fe_none (by omega) hm hn, lv_skip x p (by omega) (by omega), ih _ (by omega)]
/-- A number's whole parts of two. -/
theorem ctz_odd {m k o : Nat} (h : m = 2 ^ k * (2 * o + 1)) : (m - 1) / 2 ^ k = 2 * o := by
  have hP := Nat.two_pow_pos k
  have e : m - 1 = (2 ^ k - 1) + 2 * o * 2 ^ k := by
    rw [h, Nat.mul_add, Nat.mul_one, Nat.mul_comm (2 ^ k)]
    omega
  rw [e, Nat.add_mul_div_right _ _ hP, Nat.div_eq_of_lt (by omega), Nat.zero_add]
theorem ceil_down {n k : Nat} (h : 1 ≤ n) : (n - 1) / 2 ^ k + 1 = (n + 2 ^ k - 1) / 2 ^ k := by
  have hP := Nat.two_pow_pos k
  rw [show n + 2 ^ k - 1 = (n - 1) + 2 ^ k by omega, Nat.add_div_right _ hP]
/-- What the document's proof leads to, by the sides of the first part that is not old. -/
theorem bu_fe {n m k o : Nat} {O : Option ((Nat → Nat) × (Nat → Nat))} (f : Nat → Nat) (p : List (Nat → Nat)) (hO : tw n m true f p.reverse = O) (hm : m < n) (h : m = 2 ^ k * (2 * o + 1)) :
    beg (decide ((m - 1) / 2 ^ k = 0)) f p (fun y p => ap pA pB (fe ((n - 1) / 2 ^ k + 1) ((m - 1) / 2 ^ k)) p (y, y)) = O := by
  have h1 : m = (2 * o + 1) * 2 ^ k := by rw [h, Nat.mul_comm]
  have h2 := tw_bu n k (2 * o + 1) true f p (by omega) (Or.inl (by rw [← h1]; exact hm))
  rw [← h1, hO] at h2
  rw [h2]
  unfold bu
  rw [Bool.true_and, ctz_odd h, Nat.add_sub_cancel, ceil_down (by omega)]
  have e : (fun (y : Nat → Nat) (p : List (Nat → Nat)) => lvG pA pB ((n + 2 ^ k - 1) / 2 ^ k) (2 * o) (y, y) p) = fun y p => ap pA pB (fe ((n + 2 ^ k - 1) / 2 ^ k) (2 * o)) p (y, y) := by
    funext y p
    exact lvG_fe pA pB _ _ _ _
  rw [e]
  congr 1
  exact decide_eq_decide.2 (by omega)
end Go.Proofs.YtkpkkjcfodjifaaDoor
namespace Go.Proofs.YtkpkkjcfodjifaaDoor
set_option maxRecDepth 100000
open Go.RowKit
attribute [local go_sem ↓] Go.wp_at_zero Go.wp_at_succ

/-- The tables of the hash are laid, and that of the library. -/
structure TabZ (w : World) : Prop where
  tab : Tab w
  z : ∀ j, j < 64 → w.cell? ⟨1, j, none⟩ = some (.int .u8 ((Lib.deBruijn64tab.getD j 0 : Nat) : Int))
theorem TabZ.keep {W w1 : World} (h : TabZ W) (hb : Below W.heap.size W w1) : TabZ w1 := ⟨h.tab.keep hb, fun j hj => later hb (h.z j hj)⟩
theorem low_place {x p : Nat} (hx : x < 18446744073709551616) (h0 : x ≠ 0) (h : x &&& (18446744073709551616 - x) = p) :
    IntKind.u64.wrap (bits BinOp.and IntKind.u64 (x : Int) (IntKind.u64.wrap (-(x : Int))) * 285870213051353865) / 288230376151711744 = ((p * 285870213051353865 % 18446744073709551616 / 288230376151711744 : Nat) : Int) := by
  have hn : IntKind.u64.wrap (-(x : Int)) = ((18446744073709551616 - x : Nat) : Int) := by
    rw [IntKind.wrap_u64]
    omega
  rw [hn, bits_and_u64_nat x _ hx (by omega), h, IntKind.wrap_u64]
  omega
set_option maxHeartbeats 1000000 in
theorem tz64_any {w : World} {x : Nat} (hT : TabZ w) (h0 : x ≠ 0) (hx : x < 18446744073709551616) :
    Calls Tryd.prog 29 #[.int .u64 (x : Int)] w fun e w' => e = .returned (.int .i64 ((Lib.ctz 64 x : Nat) : Int)) ∧ w' = w := by
  obtain ⟨hlow, hk⟩ := Lib.lowest_bit 64 x h0 hx
  obtain ⟨hi, htab⟩ := Lib.deBruijn64_at _ hk
  obtain ⟨k, hkk⟩ : ∃ k, Lib.ctz 64 x = k := ⟨_, rfl⟩
  have hcell := hT.z _ hi
  rw [htab] at hcell
  rw [hkk] at hlow hk hi hcell ⊢
  have key := low_place hx h0 hlow
  obtain ⟨i, hii⟩ : ∃ i, 2 ^ k * 285870213051353865 % 18446744073709551616 / 288230376151711744 = i := ⟨_, rfl⟩
  rw [hii] at key hi hcell
  have hz : ((x : Int) == 0) = false := beq_eq_false_iff_ne.2 (by omega)
  clear hii htab hlow hT
  go_enter Tryd.func29, Tryd.ntmps29
  go_wp2_with (simp only [key])
  go_ret
  exact ⟨rfl, rfl⟩
theorem tz_any {w : World} {x : Nat} (hT : TabZ w) (h0 : x ≠ 0) (hx : x < 18446744073709551616) :
    Calls Tryd.prog 21 #[.int .u64 (x : Int)] w fun e w' => e = .returned (.int .i64 ((Lib.ctz 64 x : Nat) : Int)) ∧ w' = w := by
  have hw : IntKind.u64.wrap (x : Int) = (x : Int) := by rw [IntKind.wrap_u64]; omega
  have HC := hide (tz64_any hT h0 hx)
  clear hT
  go_enter Tryd.func21, Tryd.ntmps21
  go_wp2_with (go_at_call 29; refine Calls.mono HC.out ?_; rintro e w' ⟨rfl, hw'⟩; rw [hw'])
  go_ret
  exact ⟨rfl, rfl⟩
theorem ctz_of {m : Nat} (h0 : m ≠ 0) (hx : m < 18446744073709551616) : ∃ o, m = 2 ^ Lib.ctz 64 m * (2 * o + 1) ∧ Lib.ctz 64 m < 64 := by
  obtain ⟨o, ho, hk⟩ := Lib.ctzFrom_spec 64 m (by omega) (by omega)
  have e : Lib.ctz 64 m = Lib.ctzFrom 64 m := by unfold Lib.ctz; rw [if_neg h0]
  exact ⟨o, by rw [e]; exact ho, by rw [e]; exact hk⟩
end Go.Proofs.YtkpkkjcfodjifaaDoor
namespace Go.Proofs.YtkpkkjcfodjifaaDoor
set_option maxRecDepth 100000
open Go.RowKit
attribute [local go_sem ↓] Go.wp_at_zero Go.wp_at_succ

/-- A side as a value: the left one is 0. -/
def sdn (s : Bool) : Int := if s then 0 else 1
abbrev sdv (s : Bool) : Value := .int .i64 (sdn s)
theorem infoS : (Tryd.prog.info? 46).map (fun i => (i.zero, i.size, i.bytes)) = some (some (.int .i64 0), 1, 8) := by kernel_rfl
/-- Sides in memory. -/
def SdL (w : World) (x : Option Addr) (S : List Bool) : Prop := S = [] ∨ ∃ b o, x = some ⟨b, o, none⟩ ∧ ∀ i s, S[i]? = some s → w.cell? ⟨b, o + i, none⟩ = some (sdv s)
theorem SdL.keep {W w1 : World} {x : Option Addr} {S : List Bool} (h : SdL W x S) (hb : Below W.heap.size W w1) : SdL w1 x S :=
  h.elim Or.inl fun ⟨b, o, e, hr⟩ => Or.inr ⟨b, o, e, fun i s hs => later hb (hr i s hs)⟩
/-- Sides in a row of one's own. -/
abbrev OS (w : World) (base : Nat) (v : Value) (S : List Bool) : Prop := w.ownsRow base 46 1 v S.length (S.map sdv)
theorem OS.form {w : World} {base : Nat} {v : Value} {S : List Bool} (h : OS w base v S) : ∃ a cap, v = .slice a S.length cap ∧ S.length ≤ cap ∧ cap ≤ maxLen := by
  rcases h.2 with ⟨rfl, h0⟩ | ⟨g, cap, cur, rfl, _, _, h1, h2, _⟩
  · exact ⟨_, _, by rw [h0], by omega, by unfold maxLen; omega⟩
  · exact ⟨_, _, rfl, h1, h2⟩
theorem OS.sd {w : World} {base n cap : Nat} {a : Option Addr} {S : List Bool} (h : OS w base (.slice a n cap) S) : SdL w a S := by
  by_cases h0 : S = []
  · exact Or.inl h0
  · have h1 : S.length ≠ 0 := fun e => h0 (List.length_eq_zero_iff.1 e)
    rcases h.2 with ⟨_, e⟩ | ⟨g, cap', cur, e, hg, _⟩
    · exact absurd e h1
    · cases e
      refine Or.inr ⟨g, 0, rfl, fun i s hs => ?_⟩
      have hi : i < S.length := by
        rcases Nat.lt_or_ge i S.length with h' | h'
        · exact h'
        · rw [List.getElem?_eq_none h'] at hs; cases hs
      rw [Nat.zero_add, h.cellAt i (by omega), List.getElem?_map, hs]
      rfl
theorem OS.below {w0 w w' : World} {v : Value} {S : List Bool} (h : OS w w0.heap.size v S) (hb : Below w0.heap.size w0 w) (hg : w.grownBy w' v.ownBlock) : Below w0.heap.size w0 w' :=
  hb.grown hg hb.size (fun k hk => (h.lt k hk).1)
theorem OS.keep {w w' : World} {base : Nat} {v : Value} {S : List Bool} (h : OS w base v S) (hb : Below w.heap.size w w') : OS w' base v S := by
  refine ⟨h.1, ?_⟩
  rcases h.2 with h0 | ⟨g, cap, cur, rfl, hg, hh, h1, h2, h3, h4⟩
  · exact Or.inl h0
  · exact Or.inr ⟨g, cap, cur, rfl, hg, by rw [hb.block g (h.lt g rfl).2]; exact hh, h1, h2, h3, h4⟩
theorem OS.nil {w : World} {base : Nat} : OS w base (.slice none 0 0) [] := ⟨rfl, Or.inl ⟨rfl, rfl⟩⟩
theorem run_appS {W : World} {base g : Nat} {v : Value} {Q : List Bool} {s : Bool} (hown : OS W base v Q) (hx : W.cell? ⟨g, 0, none⟩ = some (sdv s)) (hb : Q.length ≤ 100000) (hbase : base ≤ W.heap.size) (ty : TypeId) :
    ∃ v' w', (Builtin.append_ #[44, 44] ty #[v, .slice (some ⟨g, 0, none⟩) 1 1]).run Tryd.prog W = .ok v' w' ∧ OS w' base v' (Q ++ [s]) ∧ W.grownBy w' v.ownBlock := by
  obtain ⟨i0, hi, hz0, hz1, hz2⟩ := info_parts infoS
  obtain ⟨v', w', h1, h2, h3, _⟩ := run_append_own (P := Tryd.prog) W base 44 ty 46 i0 _ 1 8 Tryd.underlying44 hi hz0 hz1 hz2 rfl (by decide) v Q.length _ hown ⟨g, 0, none⟩ 1 1 [sdv s] rfl (fun k u hu => by
    rcases k with _ | k
    · simp only [List.getElem?_cons_zero, Option.some.injEq] at hu
      subst hu
      exact hx
    · simp at hu) (fun u hu => by rw [List.mem_singleton] at hu; subst hu; rfl) (by unfold maxLen; omega) (by omega) hbase
  refine ⟨v', w', h1, ?_, h3⟩
  show w'.ownsRow base 46 1 v' (Q ++ [s]).length ((Q ++ [s]).map sdv)
  rw [List.length_append, List.map_append]
  exact h2
theorem wpList_appS {W : World} {ops : Array Oper} {rest : List Oper} {op : Oper} {a : Act} {Q' : Exit → Act → World → Prop} (hgd : op.guard = none) (x y : Operand)
    (ho : op.op = .call { callee := .builtin .append, args := #[x, y], argTypes := #[44, 44] })
    {base g : Nat} {v : Value} {Q : List Bool} {s : Bool} (hs : a.eval x = v) (hown : OS W base v Q) (hx : a.eval y = .slice (some ⟨g, 0, none⟩) 1 1) (hy : W.cell? ⟨g, 0, none⟩ = some (sdv s)) (hb : Q.length ≤ 100000) (hbase : base ≤ W.heap.size)
    (h : ∀ v' w', OS w' base v' (Q ++ [s]) → W.grownBy w' v.ownBlock → wpList Tryd.prog ops Q' rest (a.put op.dst v') w') : wpList Tryd.prog ops Q' (op :: rest) a W := by
  refine wpList_plain hgd fun K hK => ?_
  obtain ⟨v', w', hr, h2, h3⟩ := run_appS hown hy hb hbase op.type
  unfold Oper.wp execOp
  simp only [ho, resolve, invoke, builtin, Sem.run_bind, Sem.run_pure, Result.andThen_ok, List.map_toArray, List.map_cons, List.map_nil, hs, hx, hr]
  exact hK _ _ (h v' w' h2 h3)
theorem sizeS : (Tryd.prog.info? 46).map (·.size) = some 1 := by kernel_rfl
theorem zeroS : ((Tryd.prog.info? 46).bind (·.zero)).isSome = true := by kernel_rfl
theorem wpList_oneS {ops : Array Oper} {rest : List Oper} {op : Oper} {a : Act} {W : World} {Q : Exit → Act → World → Prop} (s : Bool) (hg : op.guard = none) (ho : op.op = .buildSlice 44 1 #[(0, .const (sdv s))])
    (h : ∀ p W', W'.cell? ⟨p, 0, none⟩ = some (sdv s) → Below W.heap.size W W' → wpList Tryd.prog ops Q rest (a.put op.dst (.slice (some ⟨p, 0, none⟩) 1 1)) W') : wpList Tryd.prog ops Q (op :: rest) a W :=
  wpList_buildFlat hg 44 46 1 _ ho .i64 [sdn s] Tryd.underlying44 sizeS zeroS rfl (by omega) (by omega) rfl
    (h _ _ (by rw [cell_of_row _ _ _ _ _ _ (heap_alloc_new W _)]; rfl) (Go.Proofs.YtkpkkjcfodjifaaDoor.K.alloc (Below.refl _ _) _))
/-- What is answered: as many sides as are met. -/
def FeP (w : World) (S : List Bool) (e : Ending) (w' : World) : Prop := ∃ x c, e = .returned (.slice x S.length c) ∧ SdL w' x S ∧ S.length ≤ c ∧ c ≤ maxLen ∧ Below w.heap.size w w'
/-- While the rows are gone through: the a-th of z + 1; Q is met so far. -/
structure FeR (w wr : World) (S : List Bool) (v : Value) (a z : Nat) (Q : List Bool) : Prop where
  bl : Below w.heap.size w wr
  own : OS wr w.heap.size v Q
  e : Q ++ fe (z + 1) a = S
  az : a ≤ z
  zb : (z : Int) < 9223372036854775807
theorem FeR.len {w wr : World} {S : List Bool} {v : Value} {a z : Nat} {Q : List Bool} (h : FeR w wr S v a z Q) (hS : S.length ≤ 63) : Q.length ≤ 100000 := by
  have := congrArg List.length h.e
  rw [List.length_append] at this
  omega
theorem FeR.fin {w wr : World} {S : List Bool} {v : Value} {Q : List Bool} (h : FeR w wr S v 0 0 Q) : FeP w S (.returned v) wr := by
  have e := h.e
  rw [fe_one 0 (by omega), List.append_nil] at e
  obtain ⟨x, c, hv, h1, h2⟩ := h.own.form
  have ho := h.own
  rw [hv] at ho
  rw [← e]
  exact ⟨x, c, by rw [hv], ho.sd, h1, h2, h.bl⟩
theorem and1 (n : Int) : bits .and .i64 n 1 = n % 2 := by
  have h1 : (BitVec.ofInt 64 1).toNat = 2 ^ 1 - 1 := by decide
  have key : (BitVec.ofInt 64 n &&& BitVec.ofInt 64 1).toNat = (n % ((2 ^ 64 : Nat) : Int)).toNat % 2 ^ 1 := by
    rw [BitVec.toNat_and, BitVec.toNat_ofInt, h1, Nat.and_two_pow_sub_one_eq_mod]
  show IntKind.i64.wrap ((BitVec.ofInt 64 n &&& BitVec.ofInt 64 1).toNat : Nat) = n % 2
  rw [key, IntKind.wrap_i64]
  omega
set_option maxRecDepth 100000 in
set_option maxHeartbeats 8000000 in
theorem fellows_any {w : World} {a z : Nat} (ha : a ≤ z) (hz : (z : Int) < 9223372036854775807) : Calls Tryd.prog 19 #[.int .i64 (a : Int), .int .i64 (z : Int)] w (FeP w (fe (z + 1) a)) := by
  obtain ⟨S, hS⟩ : ∃ S, fe (z + 1) a = S := ⟨_, rfl⟩
  have HLn := hide (show S.length ≤ 63 by rw [← hS]; exact fe_len 63 _ _ (by omega))
  have H0 := hide (show FeR w w S (.slice none 0 0) a z [] from ⟨Below.refl _ _, OS.nil, hS, ha, hz⟩)
  rw [hS]
  clear hS ha hz
  go_enter Tryd.func19, Tryd.ntmps19
  go_upto_region 2 with fail
  go_loopg [0, 1, 5] z (fun g' s0 s1 s5 wr => ∃ (z a : Nat) (v : Value) (Q : List Bool), z = g' ∧ s0 = .int .i64 (a : Int) ∧ s1 = .int .i64 (z : Int) ∧ s5 = v ∧ FeR w wr S v a z Q)
  case atStart => exact ⟨z, a, _, [], rfl, rfl, rfl, rfl, H0.out⟩
  case round =>
    clear H0
    obtain ⟨z, a, v, Q, rfl, rfl, rfl, rfl, hE⟩ := hrel
    have HE := hide hE
    have haz := hE.az
    have hzb := hE.zb
    have he := hE.e
    clear hE
    by_cases hz : z = 0
    · subst hz
      obtain rfl : a = 0 := by omega
      clear haz hzb he
      go_wp2_with fail
      go_ret
      exact HE.out.fin
    · have hz1 : 0 < z := by omega
      obtain ⟨a2, ha2⟩ : ∃ k, a / 2 = k := ⟨_, rfl⟩
      obtain ⟨z2, hz2⟩ : ∃ k, z / 2 = k := ⟨_, rfl⟩
      have hz3 : (z + 1 + 1) / 2 = z2 + 1 := by omega
      have HZ := hide (show z2 < z ∧ a2 ≤ z2 ∧ (z2 : Int) < 9223372036854775807 by omega)
      have hqa : (a : Int) / 2 = (a2 : Int) := by omega
      have hqz : (z : Int) / 2 = (z2 : Int) := by omega
      by_cases hodd : a % 2 = 1
      · have hr : bits BinOp.and IntKind.i64 (a : Int) 1 = 1 := by rw [and1]; omega
        rw [fe_left (by omega) hodd, hz3, ha2] at he
        have HX := hide (show (Q ++ [true]) ++ fe (z2 + 1) a2 = S by rw [List.append_assoc]; exact he)
        clear haz hzb he ha2 hz2 hz3 hodd hz
        go_upto_region 3 with (first
          | (refine wpList_appS rfl _ _ rfl rfl (HE.out.own.keep HB1.out) rfl HG1.out (HE.out.len HLn.out) (Nat.le_trans HE.out.bl.size HB1.out.size) (fun v' W2 ho hg => ?_); have HO2 := hide ho; have HB2 := hide ((HE.out.own.keep HB1.out).below (Go.Proofs.YtkpkkjcfodjifaaDoor.K.call HE.out.bl HB1.out) hg); clear ho hg HB1 HG1)
          | (refine wpList_oneS true rfl rfl (fun p W1 hp hb => ?_); have HG1 := hide hp; have HB1 := hide hb; clear hp hb))
        go_wp2_with fail
        go_roundg z2
        case measure => exact HZ.out.1
        case rel => exact ⟨z2, a2, _, Q ++ [true], rfl, by first | rfl | exact congrArg (Value.int .i64) hqa, by first | rfl | exact congrArg (Value.int .i64) hqz, rfl, HB2.out, HO2.out, HX.out, HZ.out.2.1, HZ.out.2.2⟩
      · have hr : bits BinOp.and IntKind.i64 (a : Int) 1 = 0 := by rw [and1]; omega
        by_cases hlast : a < z
        · have hlI : (a : Int) < (z : Int) := by omega
          rw [fe_right (by omega) hodd (by omega), hz3, ha2] at he
          have HX := hide (show (Q ++ [false]) ++ fe (z2 + 1) a2 = S by rw [List.append_assoc]; exact he)
          clear haz hzb he ha2 hz2 hz3 hodd hz hlast
          go_upto_region 3 with (first
            | (refine wpList_appS rfl _ _ rfl rfl (HE.out.own.keep HB1.out) rfl HG1.out (HE.out.len HLn.out) (Nat.le_trans HE.out.bl.size HB1.out.size) (fun v' W2 ho hg => ?_); have HO2 := hide ho; have HB2 := hide ((HE.out.own.keep HB1.out).below (Go.Proofs.YtkpkkjcfodjifaaDoor.K.call HE.out.bl HB1.out) hg); clear ho hg HB1 HG1)
            | (refine wpList_oneS false rfl rfl (fun p W1 hp hb => ?_); have HG1 := hide hp; have HB1 := hide hb; clear hp hb))
          go_wp2_with fail
          go_roundg z2
          case measure => exact HZ.out.1
          case rel => exact ⟨z2, a2, _, Q ++ [false], rfl, by first | rfl | exact congrArg (Value.int .i64) hqa, by first | rfl | exact congrArg (Value.int .i64) hqz, rfl, HB2.out, HO2.out, HX.out, HZ.out.2.1, HZ.out.2.2⟩
        · have hlI : ¬ ((a : Int) < (z : Int)) := by omega
          rw [fe_none (by omega) hodd (by omega), hz3, ha2] at he
          have HX := hide he
          clear haz hzb he ha2 hz2 hz3 hodd hz hlast
          go_wp2_with fail
          go_roundg z2
          case measure => exact HZ.out.1
          case rel => exact ⟨z2, a2, _, Q, rfl, by first | rfl | exact congrArg (Value.int .i64) hqa, by first | rfl | exact congrArg (Value.int .i64) hqz, rfl, HE.out.bl, HE.out.own, HX.out, HZ.out.2.1, HZ.out.2.2⟩
end Go.Proofs.YtkpkkjcfodjifaaDoor
