/- Layer 17: the edge of a growing tree (no function of the program is named). -/
import Derived.Test.YteplklbpehkdjaaDoorM16
namespace Go.Proofs.YteplklbpehkdjaaDoor
set_option maxRecDepth 100000
open Go.RowKit

/-- How many hashes parts of such powers of two have. -/
def sz : List Nat → Nat
  | [] => 0
  | e :: es => 2 ^ e + sz es
/-- Their roots. -/
def pR (F : Nat → Nat → Nat) : List Nat → List (Nat → Nat)
  | [] => []
  | e :: es => rt F (2 ^ e) :: pR (fun i => F (2 ^ e + i)) es
theorem pR_len (F : Nat → Nat → Nat) (es : List Nat) : (pR F es).length = es.length := by
  induction es generalizing F with
  | nil => rfl
  | cons e es ih => rw [pR, List.length_cons, List.length_cons, ih]
theorem sz_app (a b : List Nat) : sz (a ++ b) = sz a + sz b := by
  induction a with
  | nil => rw [List.nil_append, sz, Nat.zero_add]
  | cons e a ih => rw [List.cons_append, sz, sz, ih, Nat.add_assoc]
theorem pR_app (F : Nat → Nat → Nat) (a b : List Nat) : pR F (a ++ b) = pR F a ++ pR (fun i => F (sz a + i)) b := by
  induction a generalizing F with
  | nil =>
    rw [List.nil_append, pR, List.nil_append]
    congr 1
    funext i
    rw [sz, Nat.zero_add]
  | cons e a ih =>
    rw [List.cons_append, pR, pR, ih, List.cons_append]
    congr 3
    funext i
    rw [sz, Nat.add_assoc]
/-- From the greatest on, no two the same. -/
def Desc : List Nat → Prop
  | [] => True
  | [_] => True
  | e :: x :: es => x < e ∧ Desc (x :: es)
theorem Desc.tail {e : Nat} : ∀ {es : List Nat}, Desc (e :: es) → Desc es
  | [], _ => trivial
  | _ :: _, h => h.2
theorem sz_lt {e : Nat} : ∀ {es : List Nat}, Desc (e :: es) → sz es < 2 ^ e
  | [], _ => Nat.two_pow_pos e
  | x :: es, h => by
    have h1 := sz_lt h.2
    have h2 := Nat.pow_le_pow_right (n := 2) (by omega) (show x + 1 ≤ e from h.1)
    rw [Nat.pow_succ] at h2
    rw [sz]
    omega
theorem sz_log {e : Nat} {es : List Nat} (h : Desc (e :: es)) : (sz (e :: es)).log2 = e := by
  have h1 := sz_lt h
  have h2 := Nat.two_pow_pos e
  have hs : sz (e :: es) = 2 ^ e + sz es := rfl
  rw [hs, Nat.log2_eq_iff (by omega), Nat.pow_succ]
  omega
/-- The powers are told by the number. -/
theorem desc_one : ∀ {es fs : List Nat}, Desc es → Desc fs → sz es = sz fs → es = fs
  | [], [], _, _, _ => rfl
  | [], f :: fs, _, _, h => by
    have := Nat.two_pow_pos f
    rw [sz, sz] at h
    omega
  | e :: es, [], _, _, h => by
    have := Nat.two_pow_pos e
    rw [sz, sz] at h
    omega
  | e :: es, f :: fs, h1, h2, h => by
    have he : e = f := by rw [← sz_log h1, ← sz_log h2, h]
    subst he
    rw [sz, sz] at h
    rw [desc_one h1.tail h2.tail (by omega)]
/-- The edge of n hashes, from the first part on: the greatest power of two that fits, again and again. -/
def eL (F : Nat → Nat → Nat) (n : Nat) : List (Nat → Nat) :=
  if _h : n = 0 then [] else rt F (2 ^ n.log2) :: eL (fun i => F (2 ^ n.log2 + i)) (n - 2 ^ n.log2)
termination_by n
decreasing_by
  have := Nat.two_pow_pos n.log2
  omega
theorem eL_zero (F : Nat → Nat → Nat) : eL F 0 = [] := by rw [eL, dif_pos rfl]
theorem eL_more (F : Nat → Nat → Nat) {n : Nat} (h : n ≠ 0) : eL F n = rt F (2 ^ n.log2) :: eL (fun i => F (2 ^ n.log2 + i)) (n - 2 ^ n.log2) := by rw [eL, dif_neg h]
theorem eL_parts (F : Nat → Nat → Nat) : ∀ {es : List Nat}, Desc es → eL F (sz es) = pR F es
  | [], _ => eL_zero F
  | e :: es, h => by
    have h1 := sz_log h
    have h2 := Nat.two_pow_pos e
    have hs : sz (e :: es) = 2 ^ e + sz es := rfl
    rw [eL_more F (by omega), h1, hs, Nat.add_sub_cancel_left, eL_parts _ h.tail]
    rfl
/-- The root out of the parts' roots. -/
def rO : List (Nat → Nat) → Nat → Nat
  | [] => e0
  | [a] => a
  | a :: b :: l => nd a (rO (b :: l))
theorem rt_parts : ∀ {es : List Nat} (F : Nat → Nat → Nat), Desc es → rt F (sz es) = rO (pR F es)
  | [], F, _ => rt_zero F
  | [e], F, _ => by
    show rt F (2 ^ e + 0) = _
    rw [Nat.add_zero]
    rfl
  | e :: x :: es, F, h => by
    have h1 := sz_lt h
    have h2 := Nat.two_pow_pos x
    have hs : sz (e :: x :: es) = 2 ^ e + sz (x :: es) := rfl
    have hp : sz (x :: es) = 2 ^ x + sz es := rfl
    have h3 : sp (2 ^ e + sz (x :: es)) = 2 ^ e := sp_of (by omega) (by omega)
    have h4 := Nat.two_pow_pos e
    rw [hs, rt_more F (by omega), h3, Nat.add_sub_cancel_left, rt_parts _ h.2]
    rfl
/-- Two parts of one size make one. -/
theorem rt_twice (F : Nat → Nat → Nat) (e : Nat) : rt F (2 ^ (e + 1)) = nd (rt F (2 ^ e)) (rt (fun i => F (2 ^ e + i)) (2 ^ e)) := by
  have h := Nat.two_pow_pos e
  have hs : 2 ^ (e + 1) = 2 * 2 ^ e := by rw [Nat.pow_succ, Nat.mul_comm]
  have h3 : sp (2 ^ (e + 1)) = 2 ^ e := sp_of (by omega) (by omega)
  rw [rt_more F (by omega), h3, hs, show 2 * 2 ^ e - 2 ^ e = 2 ^ e by omega]
/-- A stack of parts, whose last one may be as great as the one ahead of it. -/
structure Stk (es : List Nat) (e : Nat) : Prop where
  d : Desc es
  l : ∀ x, es.getLast? = some x → e ≤ x
theorem Desc.snoc : ∀ {es : List Nat} {e : Nat}, Desc es → (∀ x, es.getLast? = some x → e < x) → Desc (es ++ [e])
  | [], _, _, _ => trivial
  | [a], e, _, h => ⟨h a rfl, trivial⟩
  | a :: b :: es, e, h, hl => ⟨h.1, Desc.snoc (es := b :: es) h.2 (fun x hx => hl x (by rw [List.getLast?_cons_cons]; exact hx))⟩
theorem Desc.init : ∀ {es : List Nat} {e : Nat}, Desc (es ++ [e]) → Desc es ∧ ∀ x, es.getLast? = some x → e < x
  | [], _, _ => ⟨trivial, fun x hx => by cases hx⟩
  | [a], e, h => ⟨trivial, fun x hx => by cases hx; exact h.1⟩
  | a :: b :: es, e, h => by
    have h2 := Desc.init (es := b :: es) (e := e) h.2
    exact ⟨⟨h.1, h2.1⟩, fun x hx => h2.2 x (by rw [List.getLast?_cons_cons] at hx; exact hx)⟩
theorem Stk.push {es : List Nat} (h : Desc es) : Stk es 0 := ⟨h, fun _ _ => Nat.zero_le _⟩
theorem Stk.done {es : List Nat} {e : Nat} (h : Stk es e) (hn : ∀ x, es.getLast? = some x → x ≠ e) : Desc (es ++ [e]) := h.d.snoc (fun x hx => by
  have h1 := h.l x hx
  have h2 := hn x hx
  omega)
theorem Stk.join {es : List Nat} {e : Nat} (h : Stk (es ++ [e]) e) : Stk es (e + 1) := ⟨h.d.init.1, fun x hx => h.d.init.2 x hx⟩
theorem pR_join (F : Nat → Nat → Nat) (es : List Nat) (e : Nat) : pR F (es ++ [e + 1]) = pR F es ++ [nd (rt (fun i => F (sz es + i)) (2 ^ e)) (rt (fun i => F (sz (es ++ [e]) + i)) (2 ^ e))] := by
  rw [pR_app]
  congr 1
  rw [pR, pR, rt_twice]
  congr 2
  congr 1
  funext i
  rw [sz_app, sz, sz, Nat.add_zero, Nat.add_assoc]
/-- The powers of a number. -/
def exF : Nat → Nat → List Nat
  | 0, _ => []
  | f + 1, n => if n = 0 then [] else n.log2 :: exF f (n - 2 ^ n.log2)
def on : Nat → Nat → Nat
  | 0, _ => 0
  | f + 1, n => if n = 0 then 0 else n % 2 + on f (n / 2)
theorem exF_ok : ∀ (f n : Nat), n < 2 ^ f → sz (exF f n) = n ∧ Desc (exF f n) ∧ ∀ x, (exF f n).head? = some x → x < f
  | 0, n, h => by
    have h0 : n = 0 := by rw [Nat.pow_zero] at h; omega
    subst h0
    exact ⟨rfl, trivial, fun x hx => by cases hx⟩
  | f + 1, n, h => by
    by_cases h0 : n = 0
    · subst h0
      exact ⟨rfl, trivial, fun x hx => by cases hx⟩
    · have e : exF (f + 1) n = n.log2 :: exF f (n - 2 ^ n.log2) := if_neg h0
      have h1 := Nat.log2_self_le h0
      have h2 : n < 2 ^ (n.log2 + 1) := Nat.lt_log2_self
      have h3 : n.log2 < f + 1 := (Nat.log2_lt h0).2 h
      have h4 := Nat.pow_le_pow_right (n := 2) (by omega) (show n.log2 ≤ f by omega)
      rw [Nat.pow_succ] at h2
      obtain ⟨g1, g2, g3⟩ := exF_ok f (n - 2 ^ n.log2) (by omega)
      rw [e]
      refine ⟨by rw [sz, g1]; omega, ?_, fun x hx => by cases hx; exact h3⟩
      cases hq : exF f (n - 2 ^ n.log2) with
      | nil => trivial
      | cons x es =>
        rw [hq] at g1 g2
        refine ⟨?_, g2⟩
        have g4 := sz_log g2
        rw [g1] at g4
        have h5 := Nat.two_pow_pos x
        have h6 : n - 2 ^ n.log2 ≠ 0 := by rw [← g1, sz]; omega
        exact g4 ▸ (Nat.log2_lt h6).2 (by omega)
theorem desc_ex (n : Nat) (h : n < 2 ^ 64) : ∃ es, Desc es ∧ sz es = n := ⟨exF 64 n, (exF_ok 64 n h).2.1, (exF_ok 64 n h).1⟩
theorem on_200 (n : Nat) (h : n < 256) : (exF 8 n).length = on 8 n :=
  (show ∀ k : Fin 256, (exF 8 k.val).length = on 8 k.val by decide +kernel) ⟨n, h⟩
theorem len_ones {es : List Nat} (h : Desc es) (hn : sz es < 256) : es.length = on 8 (sz es) := by
  have h1 := exF_ok 8 (sz es) hn
  rw [desc_one h h1.2.1 h1.1.symm, h1.1, on_200 _ hn]
end Go.Proofs.YteplklbpehkdjaaDoor
