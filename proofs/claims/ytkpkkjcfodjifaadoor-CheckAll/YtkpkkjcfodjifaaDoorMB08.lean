/- The hash of a byte 0, word by word. Layer 18's laws: literals of hashes, lists that are the same, what is answered. Layer 19: a path from the bottom up, level by level, and from the top down (no function of the program is named). Layer 19: a proof from the bottom up and from the top down (no function of the program is named). -/
import Derived.Test.YtkpkkjcfodjifaaDoorMB01
import Derived.Test.YtkpkkjcfodjifaaDoorMB07
import Derived.Test.YtkpkkjcfodjifaaDoorMB06
namespace Go.Proofs.YtkpkkjcfodjifaaDoor
set_option maxRecDepth 100000

end Go.Proofs.YtkpkkjcfodjifaaDoor
namespace Go.Proofs.YtkpkkjcfodjifaaDoor
set_option maxRecDepth 100000
open Go.RowKit
attribute [local go_sem ↓] Go.wp_at_zero Go.wp_at_succ

/-- A literal of an array or a struct whose cells are told. -/
theorem wpList_buildC {w : World} {ops : Array Oper} {rest : List Oper} {op : Oper} {a : Act} {Q : Exit → Act → World → Prop} (hw : Region.wanted op (yielded ops a.tmps) = true) (t : TypeId) (parts : Array (Nat × Operand)) (ho : op.op = .build t parts) (cells : Array Value)
    (hb : Tryd.prog.built t (parts.map fun (i, x) => (i, a.eval x)).toList = some cells) (h : wpList Tryd.prog ops Q rest (a.put op.dst (.agg cells)) w) : wpList Tryd.prog ops Q (op :: rest) a w := by
  refine wpList_step fun K hK => ?_
  rw [if_pos hw]
  refine wp_build t parts ho (by rw [hb]; rfl) ?_
  rw [hb]
  exact hK _ _ h
theorem wpList_load_g {w : World} {ops : Array Oper} {rest : List Oper} {op : Oper} {a : Act} {Q : Exit → Act → World → Prop} (hw : Region.wanted op (yielded ops a.tmps) = true) (x : Operand) (hop : op.op = Op.load 23 x) {g off : Nat} {f : Nat → Nat} (hx : a.eval x = .pointer (some ⟨g, off, none⟩)) (ht : w.rangeAt g off (ab f 32))
    (h : wpList Tryd.prog ops Q rest (a.put op.dst (.agg (ab f 32).toArray)) w) : wpList Tryd.prog ops Q (op :: rest) a w := by
  refine wpList_step fun K hK => ?_
  rw [if_pos hw]
  exact wp_load_mid 23 x hop g off hx (ab f 32) _ ht Tryd.underlying23 rfl (ilH _) (hK _ _ h)
/-- The hash whose first byte is k. -/
def hk (k : Nat) : Nat → Nat := fun i => if i = 0 then k else 0
theorem hk_lt {k : Nat} (h : k < 256) (i : Nat) : hk k i < 256 := by unfold hk; split <;> omega
theorem hcat_zero (L G : Nat → Nat → Nat) : hcat L 0 G = G := by funext i; unfold hcat; rw [if_neg (by omega), Nat.sub_zero]
theorem mod_n {m : Int} {n : Nat} (hm0 : 0 ≤ m) (hn : 0 < n) : ∃ k : Nat, m.tmod (n : Int) = (k : Int) ∧ k < n := by
  have ht : m.tmod (n : Int) = m % (n : Int) := Int.tmod_eq_emod_of_nonneg hm0
  obtain ⟨k, hk⟩ := Int.eq_ofNat_of_zero_le (Int.emod_nonneg m (show (n : Int) ≠ 0 by omega))
  have h6 := Int.emod_lt_of_pos m (show (0 : Int) < (n : Int) by omega)
  exact ⟨k, ht.trans hk, by rw [hk] at h6; exact Int.ofNat_lt.1 h6⟩
theorem HL.first {w : World} {b o n : Nat} {F : Nat → Nat → Nat} (h : HL w (some ⟨b, o, none⟩) n F) (hn : 0 < n) : w.rangeAt b o (ab (F 0) 32) := by
  rcases h.at_ with h0 | ⟨b', o', e, hr⟩
  · omega
  · cases e
    have := hr 0 hn
    rwa [Nat.zero_mul, Nat.add_zero] at this
theorem HL.ad {w : World} {a : Option Addr} {n : Nat} {F : Nat → Nat → Nat} (h : HL w a n F) (hn : 0 < n) : ∃ b o, a = some ⟨b, o, none⟩ :=
  h.at_.elim (fun e => by omega) fun ⟨b, o, e, _⟩ => ⟨b, o, e⟩
theorem hl_nil (W : World) : HL W none 0 (lF []) := ⟨fun _ _ => by show 0 < 256; omega, Or.inl rfl⟩
/-- What was answered, taken apart. -/
theorem PthP.out {w w' : World} {L : List (Nat → Nat)} {e : Ending} (h : PthP w L e w') (hL : ∀ f ∈ L, ∀ j, f j < 256) : ∃ a c, e = .returned (.tuple #[.slice a L.length c, .int .i64 0]) ∧ HL w' a L.length (lF L) ∧ OH w' w.heap.size (.slice a L.length c) L.length (lF L) ∧ Below w.heap.size w w' := by
  obtain ⟨v, he, ho, hb⟩ := h
  obtain ⟨a, c, rfl, _, _⟩ := ho.form
  exact ⟨a, c, he, ho.hl (lF_lt hL), ho, hb⟩
end Go.Proofs.YtkpkkjcfodjifaaDoor
namespace Go.Proofs.YtkpkkjcfodjifaaDoor
set_option maxRecDepth 100000
open Go.RowKit

/-- The root to which a path leads, as the document tells it: from the top down, the path's last one first. -/
def ld (n m : Nat) (x : Nat → Nat) (r : List (Nat → Nat)) : Option (Nat → Nat) :=
  if _h : n < 2 then (match r with | [] => some x | _ :: _ => none)
  else match r with
    | [] => none
    | t :: r => if m < sp n then (ld (sp n) m x r).map (fun y => nd y t) else (ld (n - sp n) (m - sp n) x r).map (fun y => nd t y)
termination_by n
decreasing_by
  · exact sp_lt (by omega)
  · have := sp_pos (n := n) (by omega)
    omega
theorem ld_one {n : Nat} (m : Nat) (x : Nat → Nat) (r : List (Nat → Nat)) (h : n < 2) : ld n m x r = match r with | [] => some x | _ :: _ => none := by rw [ld.eq_def, dif_pos h]
theorem ld_nil {n : Nat} (m : Nat) (x : Nat → Nat) (h : 2 ≤ n) : ld n m x [] = none := by rw [ld.eq_def, dif_neg (by omega)]
theorem ld_low {n m : Nat} (x t : Nat → Nat) (r : List (Nat → Nat)) (h : 2 ≤ n) (hm : m < sp n) : ld n m x (t :: r) = (ld (sp n) m x r).map (fun y => nd y t) := by
  rw [ld.eq_def, dif_neg (by omega)]
  show (if m < sp n then _ else _) = _
  rw [if_pos hm]
theorem ld_up {n m : Nat} (x t : Nat → Nat) (r : List (Nat → Nat)) (h : 2 ≤ n) (hm : ¬ m < sp n) : ld n m x (t :: r) = (ld (n - sp n) (m - sp n) x r).map (fun y => nd t y) := by
  rw [ld.eq_def, dif_neg (by omega)]
  show (if m < sp n then _ else _) = _
  rw [if_neg hm]
/-- From the bottom up: the m-th of n that stand side by side at this level. -/
def lv (n m : Nat) (x : Nat → Nat) (p : List (Nat → Nat)) : Option (Nat → Nat) :=
  if _h : n < 2 then (match p with | [] => some x | _ :: _ => none)
  else if m % 2 = 1 ∨ m + 1 < n then
    match p with
    | [] => none
    | q :: p => lv ((n + 1) / 2) (m / 2) (if m % 2 = 1 then nd q x else nd x q) p
  else lv ((n + 1) / 2) (m / 2) x p
termination_by n
decreasing_by all_goals omega
theorem lv_one {n : Nat} (m : Nat) (x : Nat → Nat) (p : List (Nat → Nat)) (h : n < 2) : lv n m x p = match p with | [] => some x | _ :: _ => none := by rw [lv.eq_def, dif_pos h]
theorem lv_nil {n m : Nat} (x : Nat → Nat) (h : 2 ≤ n) (hm : m % 2 = 1 ∨ m + 1 < n) : lv n m x [] = none := by rw [lv.eq_def, dif_neg (by omega), if_pos hm]
theorem lv_take {n m : Nat} (x q : Nat → Nat) (p : List (Nat → Nat)) (h : 2 ≤ n) (hm : m % 2 = 1 ∨ m + 1 < n) : lv n m x (q :: p) = lv ((n + 1) / 2) (m / 2) (if m % 2 = 1 then nd q x else nd x q) p := by rw [lv.eq_def, dif_neg (by omega), if_pos hm]
theorem lv_skip {n m : Nat} (x : Nat → Nat) (p : List (Nat → Nat)) (h : 2 ≤ n) (hm : ¬ (m % 2 = 1 ∨ m + 1 < n)) : lv n m x p = lv ((n + 1) / 2) (m / 2) x p := by rw [lv.eq_def, dif_neg (by omega), if_neg hm]
/-- What the last one of a path does. -/
def top (p : List (Nat → Nat)) (f : List (Nat → Nat) → Option (Nat → Nat)) (g : (Nat → Nat) → (Nat → Nat) → Nat → Nat) : Option (Nat → Nat) :=
  match p.reverse with
  | [] => none
  | t :: r => (f r.reverse).map (g t)
theorem top_nil (f : List (Nat → Nat) → Option (Nat → Nat)) (g : (Nat → Nat) → (Nat → Nat) → Nat → Nat) : top [] f g = none := rfl
theorem top_snoc (p : List (Nat → Nat)) (t : Nat → Nat) (f : List (Nat → Nat) → Option (Nat → Nat)) (g : (Nat → Nat) → (Nat → Nat) → Nat → Nat) : top (p ++ [t]) f g = (f p).map (g t) := by
  unfold top
  rw [List.reverse_append]
  show (f p.reverse.reverse).map (g t) = _
  rw [List.reverse_reverse]
theorem top_cons (q : Nat → Nat) (p : List (Nat → Nat)) (f h : List (Nat → Nat) → Option (Nat → Nat)) (g : (Nat → Nat) → (Nat → Nat) → Nat → Nat) (h0 : f [] = none) (hc : ∀ r, f (q :: r) = h r) : top (q :: p) f g = top p h g := by
  rcases List.eq_nil_or_concat p with rfl | ⟨r, t, rfl⟩
  · show (f []).map (g q) = none
    rw [h0]
    rfl
  · rw [List.concat_eq_append, ← List.cons_append, top_snoc, top_snoc, hc]
theorem two_of (a : Nat) : 2 ^ (a + 1) = 2 * 2 ^ a := by rw [Nat.pow_succ, Nat.mul_comm]
theorem lv_end (x q : Nat → Nat) (p : List (Nat → Nat)) (y : Nat → Nat) (g : (Nat → Nat) → (Nat → Nat) → Nat → Nat) (hy : y = g q x) : lv 1 0 y p = top (q :: p) (fun r => lv 1 0 x r) g := by
  rw [lv_one 0 y p (by omega)]
  rcases List.eq_nil_or_concat p with rfl | ⟨r, t, rfl⟩
  · show some y = (lv 1 0 x []).map (g q)
    rw [lv_one 0 x [] (by omega), hy]
    rfl
  · rw [List.concat_eq_append, ← List.cons_append, top_snoc, lv_one 0 x _ (by omega)]
    cases r <;> rfl
/-- In the right part. -/
theorem lv_right : ∀ (a r m : Nat) (x : Nat → Nat) (p : List (Nat → Nat)), m < r → r ≤ 2 ^ a → lv (2 ^ a + r) (2 ^ a + m) x p = top p (fun p => lv r m x p) (fun t y => nd t y)
  | 0, r, m, x, p, hm, hr => by
    rw [Nat.pow_zero] at hr
    obtain rfl : r = 1 := by omega
    obtain rfl : m = 0 := by omega
    rw [Nat.pow_zero]
    cases p with
    | nil => rw [lv_nil x (by omega) (by omega), top_nil]
    | cons q p =>
      rw [lv_take x q p (by omega) (by omega), if_pos (by omega)]
      exact lv_end x q p _ (fun t y => nd t y) rfl
  | a + 1, r, m, x, p, hm, hr => by
    have e1 := two_of a
    have hp := Nat.two_pow_pos a
    have d1 : (2 ^ (a + 1) + r + 1) / 2 = 2 ^ a + (r + 1) / 2 := by omega
    have d2 : (2 ^ (a + 1) + m) / 2 = 2 ^ a + m / 2 := by omega
    have o1 : (2 ^ (a + 1) + m) % 2 = m % 2 := by omega
    by_cases hr1 : r < 2
    · obtain rfl : r = 1 := by omega
      obtain rfl : m = 0 := by omega
      rw [lv_skip x p (by omega) (by omega), d1, d2]
      exact lv_right a 1 0 x p (by omega) (by omega)
    · by_cases hc : m % 2 = 1 ∨ m + 1 < r
      · cases p with
        | nil => rw [lv_nil x (by omega) (by omega), top_nil]
        | cons q p =>
          rw [lv_take x q p (by omega) (by omega), d1, d2, o1, lv_right a ((r + 1) / 2) (m / 2) _ p (by omega) (by omega)]
          exact (top_cons q p _ _ _ (lv_nil x (by omega) hc) (fun r' => lv_take x q r' (by omega) hc)).symm
      · rw [lv_skip x p (by omega) (by omega), d1, d2, lv_right a ((r + 1) / 2) (m / 2) x p (by omega) (by omega)]
        congr 1
        funext p'
        exact (lv_skip x p' (by omega) hc).symm
/-- In the left part. -/
theorem lv_left : ∀ (a s m : Nat) (x : Nat → Nat) (p : List (Nat → Nat)), m < 2 ^ a → 1 ≤ s → s ≤ 2 ^ a → lv (2 ^ a + s) m x p = top p (fun p => lv (2 ^ a) m x p) (fun t y => nd y t)
  | 0, s, m, x, p, hm, h1, hs => by
    rw [Nat.pow_zero] at hs hm
    obtain rfl : s = 1 := by omega
    obtain rfl : m = 0 := by omega
    rw [Nat.pow_zero]
    cases p with
    | nil => rw [lv_nil x (by omega) (by omega), top_nil]
    | cons q p =>
      rw [lv_take x q p (by omega) (by omega), if_neg (by omega)]
      exact lv_end x q p _ (fun t y => nd y t) rfl
  | a + 1, s, m, x, p, hm, h1, hs => by
    have e1 := two_of a
    have hp := Nat.two_pow_pos a
    have d1 : (2 ^ (a + 1) + s + 1) / 2 = 2 ^ a + (s + 1) / 2 := by omega
    have d2 : (2 ^ (a + 1) + 1) / 2 = 2 ^ a := by omega
    have hc : m % 2 = 1 ∨ m + 1 < 2 ^ (a + 1) := by omega
    cases p with
    | nil => rw [lv_nil x (by omega) (by omega), top_nil]
    | cons q p =>
      rw [lv_take x q p (by omega) (by omega), d1, lv_left a ((s + 1) / 2) (m / 2) _ p (by omega) (by omega) (by omega)]
      refine (top_cons q p _ _ _ (lv_nil x (by omega) hc) (fun r' => ?_)).symm
      rw [lv_take x q r' (by omega) hc, d2]
/-- Both are the same. -/
theorem ld_lv : ∀ (n m : Nat) (x : Nat → Nat) (p : List (Nat → Nat)), m < n → ld n m x p.reverse = lv n m x p := fun n => by
  induction n using Nat.strongRecOn with
  | ind n ih =>
    intro m x p hm
    by_cases h2 : n < 2
    · rw [ld_one m x _ h2, lv_one m x p h2]
      rcases List.eq_nil_or_concat p with rfl | ⟨r, t, rfl⟩
      · rfl
      · rw [List.concat_eq_append, List.reverse_append]
        cases r <;> rfl
    · have h1 := sp_lt (n := n) (by omega)
      have h0 := sp_pos (n := n) (by omega)
      have h3 := sp_le (n := n) (by omega)
      have hpw := sp_pow (n := n) (by omega)
      obtain ⟨a, ha⟩ : ∃ a, (n - 1).log2 = a := ⟨_, rfl⟩
      rw [ha] at hpw
      obtain ⟨s, hs⟩ : ∃ s, n = 2 ^ a + s := ⟨n - 2 ^ a, by omega⟩
      have hlv : lv n m x p = top p (fun p => if m < sp n then lv (sp n) m x p else lv (n - sp n) (m - sp n) x p) (fun t y => if m < sp n then nd y t else nd t y) := by
        by_cases hk : m < sp n
        · have := lv_left a s m x p (by omega) (by omega) (by omega)
          rw [← hs, ← hpw] at this
          rw [this]
          simp only [if_pos hk]
        · have := lv_right a s (m - 2 ^ a) x p (by omega) (by omega)
          rw [← hs, show 2 ^ a + (m - 2 ^ a) = m by omega] at this
          rw [this]
          simp only [if_neg hk]
          rw [hpw, show n - 2 ^ a = s by omega]
      rw [hlv]
      rcases List.eq_nil_or_concat p with rfl | ⟨r, t, rfl⟩
      · rw [top_nil]
        exact ld_nil m x (by omega)
      · rw [List.concat_eq_append, top_snoc, List.reverse_append]
        show ld n m x (t :: r.reverse) = _
        by_cases hk : m < sp n
        · rw [ld_low x t _ (by omega) hk, ih (sp n) h1 m x r hk, if_pos hk]
          simp only [if_pos hk]
        · rw [ld_up x t _ (by omega) hk, ih (n - sp n) (by omega) (m - sp n) x r (by omega), if_neg hk]
          simp only [if_neg hk]
end Go.Proofs.YtkpkkjcfodjifaaDoor
namespace Go.Proofs.YtkpkkjcfodjifaaDoor
set_option maxRecDepth 100000
open Go.RowKit

section
variable {β : Type} (A B : (Nat → Nat) → β → β)
/-- From the bottom up, with whatever is carried. -/
def lvG (n m : Nat) (x : β) (p : List (Nat → Nat)) : Option β :=
  if _h : n < 2 then (match p with | [] => some x | _ :: _ => none)
  else if m % 2 = 1 ∨ m + 1 < n then
    match p with
    | [] => none
    | q :: p => lvG ((n + 1) / 2) (m / 2) (if m % 2 = 1 then A q x else B q x) p
  else lvG ((n + 1) / 2) (m / 2) x p
termination_by n
decreasing_by all_goals omega
theorem lvG_one {n : Nat} (m : Nat) (x : β) (p : List (Nat → Nat)) (h : n < 2) : lvG A B n m x p = match p with | [] => some x | _ :: _ => none := by rw [lvG.eq_def, dif_pos h]
theorem lvG_nil {n m : Nat} (x : β) (h : 2 ≤ n) (hm : m % 2 = 1 ∨ m + 1 < n) : lvG A B n m x [] = none := by rw [lvG.eq_def, dif_neg (by omega), if_pos hm]
theorem lvG_take {n m : Nat} (x : β) (q : Nat → Nat) (p : List (Nat → Nat)) (h : 2 ≤ n) (hm : m % 2 = 1 ∨ m + 1 < n) : lvG A B n m x (q :: p) = lvG A B ((n + 1) / 2) (m / 2) (if m % 2 = 1 then A q x else B q x) p := by rw [lvG.eq_def, dif_neg (by omega), if_pos hm]
theorem lvG_skip {n m : Nat} (x : β) (p : List (Nat → Nat)) (h : 2 ≤ n) (hm : ¬ (m % 2 = 1 ∨ m + 1 < n)) : lvG A B n m x p = lvG A B ((n + 1) / 2) (m / 2) x p := by rw [lvG.eq_def, dif_neg (by omega), if_neg hm]
/-- What the last one does. -/
def topG (p : List (Nat → Nat)) (f : List (Nat → Nat) → Option β) (g : (Nat → Nat) → β → β) : Option β :=
  match p.reverse with
  | [] => none
  | t :: r => (f r.reverse).map (g t)
theorem topG_nil (f : List (Nat → Nat) → Option β) (g : (Nat → Nat) → β → β) : topG [] f g = none := rfl
theorem topG_snoc (p : List (Nat → Nat)) (t : Nat → Nat) (f : List (Nat → Nat) → Option β) (g : (Nat → Nat) → β → β) : topG (p ++ [t]) f g = (f p).map (g t) := by
  unfold topG
  rw [List.reverse_append]
  show (f p.reverse.reverse).map (g t) = _
  rw [List.reverse_reverse]
theorem topG_cons (q : Nat → Nat) (p : List (Nat → Nat)) (f h : List (Nat → Nat) → Option β) (g : (Nat → Nat) → β → β) (h0 : f [] = none) (hc : ∀ r, f (q :: r) = h r) : topG (q :: p) f g = topG p h g := by
  rcases List.eq_nil_or_concat p with rfl | ⟨r, t, rfl⟩
  · show (f []).map (g q) = none
    rw [h0]
    rfl
  · rw [List.concat_eq_append, ← List.cons_append, topG_snoc, topG_snoc, hc]
theorem lvG_end (x : β) (q : Nat → Nat) (p : List (Nat → Nat)) (y : β) (g : (Nat → Nat) → β → β) (hy : y = g q x) : lvG A B 1 0 y p = topG (q :: p) (fun r => lvG A B 1 0 x r) g := by
  rw [lvG_one A B 0 y p (by omega)]
  rcases List.eq_nil_or_concat p with rfl | ⟨r, t, rfl⟩
  · show some y = (lvG A B 1 0 x []).map (g q)
    rw [lvG_one A B 0 x [] (by omega), hy]
    rfl
  · rw [List.concat_eq_append, ← List.cons_append, topG_snoc, lvG_one A B 0 x _ (by omega)]
    cases r <;> rfl
theorem lvG_right : ∀ (a r m : Nat) (x : β) (p : List (Nat → Nat)), m < r → r ≤ 2 ^ a → lvG A B (2 ^ a + r) (2 ^ a + m) x p = topG p (fun p => lvG A B r m x p) A
  | 0, r, m, x, p, hm, hr => by
    rw [Nat.pow_zero] at hr
    obtain rfl : r = 1 := by omega
    obtain rfl : m = 0 := by omega
    rw [Nat.pow_zero]
    cases p with
    | nil => rw [lvG_nil A B x (by omega) (by omega), topG_nil]
    | cons q p =>
      rw [lvG_take A B x q p (by omega) (by omega), if_pos (by omega)]
      exact lvG_end A B x q p _ A rfl
  | a + 1, r, m, x, p, hm, hr => by
    have e1 := two_of a
    have hp := Nat.two_pow_pos a
    have d1 : (2 ^ (a + 1) + r + 1) / 2 = 2 ^ a + (r + 1) / 2 := by omega
    have d2 : (2 ^ (a + 1) + m) / 2 = 2 ^ a + m / 2 := by omega
    have o1 : (2 ^ (a + 1) + m) % 2 = m % 2 := by omega
    by_cases hr1 : r < 2
    · obtain rfl : r = 1 := by omega
      obtain rfl : m = 0 := by omega
      rw [lvG_skip A B x p (by omega) (by omega), d1, d2]
      exact lvG_right a 1 0 x p (by omega) (by omega)
    · by_cases hc : m % 2 = 1 ∨ m + 1 < r
      · cases p with
        | nil => rw [lvG_nil A B x (by omega) (by omega), topG_nil]
        | cons q p =>
          rw [lvG_take A B x q p (by omega) (by omega), d1, d2, o1, lvG_right a ((r + 1) / 2) (m / 2) _ p (by omega) (by omega)]
          exact (topG_cons q p _ _ _ (lvG_nil A B x (by omega) hc) (fun r' => lvG_take A B x q r' (by omega) hc)).symm
      · rw [lvG_skip A B x p (by omega) (by omega), d1, d2, lvG_right a ((r + 1) / 2) (m / 2) x p (by omega) (by omega)]
        congr 1
        funext p'
        exact (lvG_skip A B x p' (by omega) hc).symm
theorem lvG_left : ∀ (a s m : Nat) (x : β) (p : List (Nat → Nat)), m < 2 ^ a → 1 ≤ s → s ≤ 2 ^ a → lvG A B (2 ^ a + s) m x p = topG p (fun p => lvG A B (2 ^ a) m x p) B
  | 0, s, m, x, p, hm, h1, hs => by
    rw [Nat.pow_zero] at hs hm
    obtain rfl : s = 1 := by omega
    obtain rfl : m = 0 := by omega
    rw [Nat.pow_zero]
    cases p with
    | nil => rw [lvG_nil A B x (by omega) (by omega), topG_nil]
    | cons q p =>
      rw [lvG_take A B x q p (by omega) (by omega), if_neg (by omega)]
      exact lvG_end A B x q p _ B rfl
  | a + 1, s, m, x, p, hm, h1, hs => by
    have e1 := two_of a
    have hp := Nat.two_pow_pos a
    have d1 : (2 ^ (a + 1) + s + 1) / 2 = 2 ^ a + (s + 1) / 2 := by omega
    have d2 : (2 ^ (a + 1) + 1) / 2 = 2 ^ a := by omega
    have hc : m % 2 = 1 ∨ m + 1 < 2 ^ (a + 1) := by omega
    cases p with
    | nil => rw [lvG_nil A B x (by omega) (by omega), topG_nil]
    | cons q p =>
      rw [lvG_take A B x q p (by omega) (by omega), d1, lvG_left a ((s + 1) / 2) (m / 2) _ p (by omega) (by omega) (by omega)]
      refine (topG_cons q p _ _ _ (lvG_nil A B x (by omega) hc) (fun r' => ?_)).symm
      rw [lvG_take A B x q r' (by omega) hc, d2]
/-- How it begins: with the old root, or with the proof's first one. -/
def beg (b : Bool) (x : Nat → Nat) (p : List (Nat → Nat)) (f : (Nat → Nat) → List (Nat → Nat) → Option β) : Option β :=
  if b then f x p else match p with | [] => none | y :: p => f y p
theorem beg_top (b : Bool) (x : Nat → Nat) (p : List (Nat → Nat)) (f : (Nat → Nat) → List (Nat → Nat) → Option β) (g : (Nat → Nat) → β → β) :
    beg b x p (fun y p => topG p (f y) g) = topG p (fun p => beg b x p f) g := by
  cases b
  · rcases List.eq_nil_or_concat p with rfl | ⟨r, t, rfl⟩
    · rfl
    · rw [List.concat_eq_append, topG_snoc]
      cases r with
      | nil => rfl
      | cons y r =>
        show topG (r ++ [t]) (f y) g = (f y r).map (g t)
        exact topG_snoc _ _ _ _
  · rfl
end
/-- The two roots to which a proof leads, as the document tells them: from the top down, the proof's last one first. -/
def tw (n m : Nat) (w : Bool) (x : Nat → Nat) (r : List (Nat → Nat)) : Option ((Nat → Nat) × (Nat → Nat)) :=
  if _h : n ≤ m ∨ n < 2 then (if w then (match r with | [] => some (x, x) | _ :: _ => none) else match r with | [y] => some (y, y) | _ => none)
  else match r with
    | [] => none
    | t :: r => if m ≤ sp n then (tw (sp n) m w x r).map (fun q => (q.1, nd q.2 t)) else (tw (n - sp n) (m - sp n) false x r).map (fun q => (nd t q.1, nd t q.2))
termination_by n
decreasing_by
  · exact sp_lt (by omega)
  · have := sp_pos (n := n) (by omega)
    omega
theorem tw_end {n m : Nat} (w : Bool) (x : Nat → Nat) (r : List (Nat → Nat)) (h : n ≤ m ∨ n < 2) : tw n m w x r = if w then (match r with | [] => some (x, x) | _ :: _ => none) else match r with | [y] => some (y, y) | _ => none := by rw [tw.eq_def, dif_pos h]
theorem tw_nil {n m : Nat} (w : Bool) (x : Nat → Nat) (h : ¬ (n ≤ m ∨ n < 2)) : tw n m w x [] = none := by rw [tw.eq_def, dif_neg h]
theorem tw_low {n m : Nat} (w : Bool) (x t : Nat → Nat) (r : List (Nat → Nat)) (h : ¬ (n ≤ m ∨ n < 2)) (hm : m ≤ sp n) : tw n m w x (t :: r) = (tw (sp n) m w x r).map (fun q => (q.1, nd q.2 t)) := by
  rw [tw.eq_def, dif_neg h]
  show (if m ≤ sp n then _ else _) = _
  rw [if_pos hm]
theorem tw_up {n m : Nat} (w : Bool) (x t : Nat → Nat) (r : List (Nat → Nat)) (h : ¬ (n ≤ m ∨ n < 2)) (hm : ¬ m ≤ sp n) : tw n m w x (t :: r) = (tw (n - sp n) (m - sp n) false x r).map (fun q => (nd t q.1, nd t q.2)) := by
  rw [tw.eq_def, dif_neg h]
  show (if m ≤ sp n then _ else _) = _
  rw [if_neg hm]
abbrev pA (t : Nat → Nat) (q : (Nat → Nat) × (Nat → Nat)) : (Nat → Nat) × (Nat → Nat) := (nd t q.1, nd t q.2)
abbrev pB (t : Nat → Nat) (q : (Nat → Nat) × (Nat → Nat)) : (Nat → Nat) × (Nat → Nat) := (q.1, nd q.2 t)
/-- From the bottom up: m = 2^j o, o odd; the (o - 1)-th of as many as n makes at the level j. -/
def bu (n j o : Nat) (w : Bool) (x : Nat → Nat) (p : List (Nat → Nat)) : Option ((Nat → Nat) × (Nat → Nat)) :=
  beg (w && decide (o = 1)) x p (fun y p => lvG pA pB ((n + 2 ^ j - 1) / 2 ^ j) (o - 1) (y, y) p)
theorem pow_split {a j : Nat} (h : j ≤ a) : 2 ^ a = 2 ^ (a - j) * 2 ^ j := by rw [← Nat.pow_add, Nat.sub_add_cancel h]
theorem ceil_add (q s P : Nat) (hP : 0 < P) : (q * P + s + P - 1) / P = q + (s + P - 1) / P := by
  rw [show q * P + s + P - 1 = (s + P - 1) + q * P by omega, Nat.add_mul_div_right _ _ hP, Nat.add_comm]
theorem ceil_mul (q P : Nat) (hP : 0 < P) : (q * P + P - 1) / P = q := by
  rw [show q * P + P - 1 = (P - 1) + q * P by omega, Nat.add_mul_div_right _ _ hP, Nat.div_eq_of_lt (by omega), Nat.zero_add]
theorem ceil_pos {s P : Nat} (h : 1 ≤ s) (hP : 0 < P) : 1 ≤ (s + P - 1) / P := (Nat.le_div_iff_mul_le hP).2 (by omega)
theorem ceil_le {s q P : Nat} (h : s ≤ q * P) (hP : 0 < P) : (s + P - 1) / P ≤ q := by
  have : (s + P - 1) / P < q + 1 := (Nat.div_lt_iff_lt_mul hP).2 (by rw [Nat.add_mul]; omega)
  omega
theorem ceil_gt {s o P : Nat} (h : o * P < s) (hP : 0 < P) : o < (s + P - 1) / P := (Nat.le_div_iff_mul_le hP).2 (by rw [Nat.succ_mul]; omega)
end Go.Proofs.YtkpkkjcfodjifaaDoor
