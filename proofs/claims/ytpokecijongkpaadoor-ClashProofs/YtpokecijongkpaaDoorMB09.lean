/- Layer 18's laws: literals of hashes, lists that are the same, what is answered. Layer 19: a path from the bottom up, level by level, and from the top down (no function of the program is named). Layer 19: a proof from the bottom up and from the top down (no function of the program is named). Layer 19: a proof from the bottom up is the proof from the top down (no function of the program is named). Layer 19: hashes in variables of one's own; a list told from its last one on. -/
import Derived.Test.YtpokecijongkpaaDoorMB08
import Derived.Test.YtpokecijongkpaaDoorMB07
namespace Go.Proofs.YtpokecijongkpaaDoor
set_option maxRecDepth 100000
open Go.RowKit
attribute [local go_sem ↓] Go.wp_at_zero Go.wp_at_succ

/-- A literal of an array or a struct whose cells are told. -/
theorem wpList_buildC {w : World} {ops : Array Oper} {rest : List Oper} {op : Oper} {a : Act} {Q : Exit → Act → World → Prop} (hw : Region.wanted op (yielded ops a.tmps) = true) (t : TypeId) (parts : Array (Nat × Operand)) (ho : op.op = .build t parts) (cells : Array Value)
    (hb : Tryd.prog.built t (parts.map fun (i, x) => (i, a.eval x)).toList = some cells) (h : wpList Tryd.prog ops Q rest (a.put op.dst (.agg cells)) w) : wpList Tryd.prog ops Q (op :: rest) a w := by
  refine wpList_step fun K hK => ?_
  rw [if_pos hw]
  refine wp_build t parts ho (by rw [hb]; rfl) ?_
  rw [hb]
  exact hK _ _ h
theorem wpList_load_g {w : World} {ops : Array Oper} {rest : List Oper} {op : Oper} {a : Act} {Q : Exit → Act → World → Prop} (hw : Region.wanted op (yielded ops a.tmps) = true) (x : Operand) (hop : op.op = Op.load 24 x) {g off : Nat} {f : Nat → Nat} (hx : a.eval x = .pointer (some ⟨g, off, none⟩)) (ht : w.rangeAt g off (ab f 32))
    (h : wpList Tryd.prog ops Q rest (a.put op.dst (.agg (ab f 32).toArray)) w) : wpList Tryd.prog ops Q (op :: rest) a w := by
  refine wpList_step fun K hK => ?_
  rw [if_pos hw]
  exact wp_load_mid 24 x hop g off hx (ab f 32) _ ht Tryd.underlying24 rfl (ilH _) (hK _ _ h)
/-- The hash whose first byte is k. -/
def hk (k : Nat) : Nat → Nat := fun i => if i = 0 then k else 0
theorem HL.first {w : World} {b o n : Nat} {F : Nat → Nat → Nat} (h : HL w (some ⟨b, o, none⟩) n F) (hn : 0 < n) : w.rangeAt b o (ab (F 0) 32) := by
  rcases h.at_ with h0 | ⟨b', o', e, hr⟩
  · omega
  · cases e
    have := hr 0 hn
    rwa [Nat.zero_mul, Nat.add_zero] at this
theorem HL.ad {w : World} {a : Option Addr} {n : Nat} {F : Nat → Nat → Nat} (h : HL w a n F) (hn : 0 < n) : ∃ b o, a = some ⟨b, o, none⟩ :=
  h.at_.elim (fun e => by omega) fun ⟨b, o, e, _⟩ => ⟨b, o, e⟩
/-- What was answered, taken apart. -/
theorem PthP.out {w w' : World} {L : List (Nat → Nat)} {e : Ending} (h : PthP w L e w') (hL : ∀ f ∈ L, ∀ j, f j < 256) : ∃ a c, e = .returned (.tuple #[.slice a L.length c, .int .i64 0]) ∧ HL w' a L.length (lF L) ∧ OH w' w.heap.size (.slice a L.length c) L.length (lF L) ∧ Below w.heap.size w w' := by
  obtain ⟨v, he, ho, hb⟩ := h
  obtain ⟨a, c, rfl, _, _⟩ := ho.form
  exact ⟨a, c, he, ho.hl (lF_lt hL), ho, hb⟩
end Go.Proofs.YtpokecijongkpaaDoor
namespace Go.Proofs.YtpokecijongkpaaDoor
set_option maxRecDepth 100000
open Go.RowKit

/-- The root to which a path leads, as the document tells it: from the top down, the path's last one first. -/
def ld (n m : Nat) (x : Nat → Nat) (r : List (Nat → Nat)) : Option (Nat → Nat) :=
  if _h : n < 2 then (match r with | [] => some x | _ :: _ => none)
  else match r with
    | [] => none
    | t :: r => if m < sp n then (ld (sp n) m x r).map (fun y => nd y t) else (ld (n - sp n) (m - sp n) x r).map (fun y => nd t y)
termination_by n
decreasing_by
  · exact sp_lt (by omega)
  · have := sp_pos (n := n) (by omega)
    omega
/-- What the last one of a path does. -/
def top (p : List (Nat → Nat)) (f : List (Nat → Nat) → Option (Nat → Nat)) (g : (Nat → Nat) → (Nat → Nat) → Nat → Nat) : Option (Nat → Nat) :=
  match p.reverse with
  | [] => none
  | t :: r => (f r.reverse).map (g t)
theorem two_of (a : Nat) : 2 ^ (a + 1) = 2 * 2 ^ a := by rw [Nat.pow_succ, Nat.mul_comm]
end Go.Proofs.YtpokecijongkpaaDoor
namespace Go.Proofs.YtpokecijongkpaaDoor
set_option maxRecDepth 100000
open Go.RowKit

section
variable {β : Type} (A B : (Nat → Nat) → β → β)
/-- From the bottom up, with whatever is carried. -/
def lvG (n m : Nat) (x : β) (p : List (Nat → Nat)) : Option β :=
  if _h : n < 2 then (match p with | [] => some x | _ :: _ => none)
  else if m % 2 = 1 ∨ m + 1 < n then
    match p with
    | [] => none
    | q :: p => lvG ((n + 1) / 2) (m / 2) (if m % 2 = 1 then A q x else B q x) p
  else lvG ((n + 1) / 2) (m / 2) x p
termination_by n
decreasing_by all_goals omega
theorem lvG_one {n : Nat} (m : Nat) (x : β) (p : List (Nat → Nat)) (h : n < 2) : lvG A B n m x p = match p with | [] => some x | _ :: _ => none := by rw [lvG.eq_def, dif_pos h]
theorem lvG_nil {n m : Nat} (x : β) (h : 2 ≤ n) (hm : m % 2 = 1 ∨ m + 1 < n) : lvG A B n m x [] = none := by rw [lvG.eq_def, dif_neg (by omega), if_pos hm]
theorem lvG_take {n m : Nat} (x : β) (q : Nat → Nat) (p : List (Nat → Nat)) (h : 2 ≤ n) (hm : m % 2 = 1 ∨ m + 1 < n) : lvG A B n m x (q :: p) = lvG A B ((n + 1) / 2) (m / 2) (if m % 2 = 1 then A q x else B q x) p := by rw [lvG.eq_def, dif_neg (by omega), if_pos hm]
theorem lvG_skip {n m : Nat} (x : β) (p : List (Nat → Nat)) (h : 2 ≤ n) (hm : ¬ (m % 2 = 1 ∨ m + 1 < n)) : lvG A B n m x p = lvG A B ((n + 1) / 2) (m / 2) x p := by rw [lvG.eq_def, dif_neg (by omega), if_neg hm]
/-- What the last one does. -/
def topG (p : List (Nat → Nat)) (f : List (Nat → Nat) → Option β) (g : (Nat → Nat) → β → β) : Option β :=
  match p.reverse with
  | [] => none
  | t :: r => (f r.reverse).map (g t)
theorem topG_nil (f : List (Nat → Nat) → Option β) (g : (Nat → Nat) → β → β) : topG [] f g = none := rfl
theorem topG_snoc (p : List (Nat → Nat)) (t : Nat → Nat) (f : List (Nat → Nat) → Option β) (g : (Nat → Nat) → β → β) : topG (p ++ [t]) f g = (f p).map (g t) := by
  unfold topG
  rw [List.reverse_append]
  show (f p.reverse.reverse).map (g t) = _
  rw [List.reverse_reverse]
theorem topG_cons (q : Nat → Nat) (p : List (Nat → Nat)) (f h : List (Nat → Nat) → Option β) (g : (Nat → Nat) → β → β) (h0 : f [] = none) (hc : ∀ r, f (q :: r) = h r) : topG (q :: p) f g = topG p h g := by
  rcases List.eq_nil_or_concat p with rfl | ⟨r, t, rfl⟩
  · show (f []).map (g q) = none
    rw [h0]
    rfl
  · rw [List.concat_eq_append, ← List.cons_append, topG_snoc, topG_snoc, hc]
theorem lvG_end (x : β) (q : Nat → Nat) (p : List (Nat → Nat)) (y : β) (g : (Nat → Nat) → β → β) (hy : y = g q x) : lvG A B 1 0 y p = topG (q :: p) (fun r => lvG A B 1 0 x r) g := by
  rw [lvG_one A B 0 y p (by omega)]
  rcases List.eq_nil_or_concat p with rfl | ⟨r, t, rfl⟩
  · show some y = (lvG A B 1 0 x []).map (g q)
    rw [lvG_one A B 0 x [] (by omega), hy]
    rfl
  · rw [List.concat_eq_append, ← List.cons_append, topG_snoc, lvG_one A B 0 x _ (by omega)]
    cases r <;> rfl
theorem lvG_right : ∀ (a r m : Nat) (x : β) (p : List (Nat → Nat)), m < r → r ≤ 2 ^ a → lvG A B (2 ^ a + r) (2 ^ a + m) x p = topG p (fun p => lvG A B r m x p) A
  | 0, r, m, x, p, hm, hr => by
    rw [Nat.pow_zero] at hr
    obtain rfl : r = 1 := by omega
    obtain rfl : m = 0 := by omega
    rw [Nat.pow_zero]
    cases p with
    | nil => rw [lvG_nil A B x (by omega) (by omega), topG_nil]
    | cons q p =>
      rw [lvG_take A B x q p (by omega) (by omega), if_pos (by omega)]
      exact lvG_end A B x q p _ A rfl
  | a + 1, r, m, x, p, hm, hr => by
    have e1 := two_of a
    have hp := Nat.two_pow_pos a
    have d1 : (2 ^ (a + 1) + r + 1) / 2 = 2 ^ a + (r + 1) / 2 := by omega
    have d2 : (2 ^ (a + 1) + m) / 2 = 2 ^ a + m / 2 := by omega
    have o1 : (2 ^ (a + 1) + m) % 2 = m % 2 := by omega
    by_cases hr1 : r < 2
    · obtain rfl : r = 1 := by omega
      obtain rfl : m = 0 := by omega
      rw [lvG_skip A B x p (by omega) (by omega), d1, d2]
      exact lvG_right a 1 0 x p (by omega) (by omega)
    · by_cases hc : m % 2 = 1 ∨ m + 1 < r
      · cases p with
        | nil => rw [lvG_nil A B x (by omega) (by omega), topG_nil]
        | cons q p =>
          rw [lvG_take A B x q p (by omega) (by omega), d1, d2, o1, lvG_right a ((r + 1) / 2) (m / 2) _ p (by omega) (by omega)]
          exact (topG_cons q p _ _ _ (lvG_nil A B x (by omega) hc) (fun r' => lvG_take A B x q r' (by omega) hc)).symm
      · rw [lvG_skip A B x p (by omega) (by omega), d1, d2, lvG_right a ((r + 1) / 2) (m / 2) x p (by omega) (by omega)]
        congr 1
        funext p'
        exact (lvG_skip A B x p' (by omega) hc).symm
theorem lvG_left : ∀ (a s m : Nat) (x : β) (p : List (Nat → Nat)), m < 2 ^ a → 1 ≤ s → s ≤ 2 ^ a → lvG A B (2 ^ a + s) m x p = topG p (fun p => lvG A B (2 ^ a) m x p) B
  | 0, s, m, x, p, hm, h1, hs => by
    rw [Nat.pow_zero] at hs hm
    obtain rfl : s = 1 := by omega
    obtain rfl : m = 0 := by omega
    rw [Nat.pow_zero]
    cases p with
    | nil => rw [lvG_nil A B x (by omega) (by omega), topG_nil]
    | cons q p =>
      rw [lvG_take A B x q p (by omega) (by omega), if_neg (by omega)]
      exact lvG_end A B x q p _ B rfl
  | a + 1, s, m, x, p, hm, h1, hs => by
    have e1 := two_of a
    have hp := Nat.two_pow_pos a
    have d1 : (2 ^ (a + 1) + s + 1) / 2 = 2 ^ a + (s + 1) / 2 := by omega
    have d2 : (2 ^ (a + 1) + 1) / 2 = 2 ^ a := by omega
    have hc : m % 2 = 1 ∨ m + 1 < 2 ^ (a + 1) := by omega
    cases p with
    | nil => rw [lvG_nil A B x (by omega) (by omega), topG_nil]
    | cons q p =>
      rw [lvG_take A B x q p (by omega) (by omega), d1, lvG_left a ((s + 1) / 2) (m / 2) _ p (by omega) (by omega) (by omega)]
      refine (topG_cons q p _ _ _ (lvG_nil A B x (by omega) hc) (fun r' => ?_)).symm
      rw [lvG_take A B x q r' (by omega) hc, d2]
/-- How it begins: with the old root, or with the proof's first one. -/
def beg (b : Bool) (x : Nat → Nat) (p : List (Nat → Nat)) (f : (Nat → Nat) → List (Nat → Nat) → Option β) : Option β :=
  if b then f x p else match p with | [] => none | y :: p => f y p
theorem beg_top (b : Bool) (x : Nat → Nat) (p : List (Nat → Nat)) (f : (Nat → Nat) → List (Nat → Nat) → Option β) (g : (Nat → Nat) → β → β) :
    beg b x p (fun y p => topG p (f y) g) = topG p (fun p => beg b x p f) g := by
  cases b
  · rcases List.eq_nil_or_concat p with rfl | ⟨r, t, rfl⟩
    · rfl
    · rw [List.concat_eq_append, topG_snoc]
      cases r with
      | nil => rfl
      | cons y r =>
        show topG (r ++ [t]) (f y) g = (f y r).map (g t)
        exact topG_snoc _ _ _ _
  · rfl
end
/-- The two roots to which a proof leads, as the document tells them: from the top down, the proof's last one first. -/
def tw (n m : Nat) (w : Bool) (x : Nat → Nat) (r : List (Nat → Nat)) : Option ((Nat → Nat) × (Nat → Nat)) :=
  if _h : n ≤ m ∨ n < 2 then (if w then (match r with | [] => some (x, x) | _ :: _ => none) else match r with | [y] => some (y, y) | _ => none)
  else match r with
    | [] => none
    | t :: r => if m ≤ sp n then (tw (sp n) m w x r).map (fun q => (q.1, nd q.2 t)) else (tw (n - sp n) (m - sp n) false x r).map (fun q => (nd t q.1, nd t q.2))
termination_by n
decreasing_by
  · exact sp_lt (by omega)
  · have := sp_pos (n := n) (by omega)
    omega
theorem tw_end {n m : Nat} (w : Bool) (x : Nat → Nat) (r : List (Nat → Nat)) (h : n ≤ m ∨ n < 2) : tw n m w x r = if w then (match r with | [] => some (x, x) | _ :: _ => none) else match r with | [y] => some (y, y) | _ => none := by rw [tw.eq_def, dif_pos h]
theorem tw_nil {n m : Nat} (w : Bool) (x : Nat → Nat) (h : ¬ (n ≤ m ∨ n < 2)) : tw n m w x [] = none := by rw [tw.eq_def, dif_neg h]
theorem tw_low {n m : Nat} (w : Bool) (x t : Nat → Nat) (r : List (Nat → Nat)) (h : ¬ (n ≤ m ∨ n < 2)) (hm : m ≤ sp n) : tw n m w x (t :: r) = (tw (sp n) m w x r).map (fun q => (q.1, nd q.2 t)) := by
  rw [tw.eq_def, dif_neg h]
  show (if m ≤ sp n then _ else _) = _
  rw [if_pos hm]
theorem tw_up {n m : Nat} (w : Bool) (x t : Nat → Nat) (r : List (Nat → Nat)) (h : ¬ (n ≤ m ∨ n < 2)) (hm : ¬ m ≤ sp n) : tw n m w x (t :: r) = (tw (n - sp n) (m - sp n) false x r).map (fun q => (nd t q.1, nd t q.2)) := by
  rw [tw.eq_def, dif_neg h]
  show (if m ≤ sp n then _ else _) = _
  rw [if_neg hm]
abbrev pA (t : Nat → Nat) (q : (Nat → Nat) × (Nat → Nat)) : (Nat → Nat) × (Nat → Nat) := (nd t q.1, nd t q.2)
abbrev pB (t : Nat → Nat) (q : (Nat → Nat) × (Nat → Nat)) : (Nat → Nat) × (Nat → Nat) := (q.1, nd q.2 t)
/-- From the bottom up: m = 2^j o, o odd; the (o - 1)-th of as many as n makes at the level j. -/
def bu (n j o : Nat) (w : Bool) (x : Nat → Nat) (p : List (Nat → Nat)) : Option ((Nat → Nat) × (Nat → Nat)) :=
  beg (w && decide (o = 1)) x p (fun y p => lvG pA pB ((n + 2 ^ j - 1) / 2 ^ j) (o - 1) (y, y) p)
theorem pow_split {a j : Nat} (h : j ≤ a) : 2 ^ a = 2 ^ (a - j) * 2 ^ j := by rw [← Nat.pow_add, Nat.sub_add_cancel h]
theorem ceil_add (q s P : Nat) (hP : 0 < P) : (q * P + s + P - 1) / P = q + (s + P - 1) / P := by
  rw [show q * P + s + P - 1 = (s + P - 1) + q * P by omega, Nat.add_mul_div_right _ _ hP, Nat.add_comm]
theorem ceil_mul (q P : Nat) (hP : 0 < P) : (q * P + P - 1) / P = q := by
  rw [show q * P + P - 1 = (P - 1) + q * P by omega, Nat.add_mul_div_right _ _ hP, Nat.div_eq_of_lt (by omega), Nat.zero_add]
theorem ceil_pos {s P : Nat} (h : 1 ≤ s) (hP : 0 < P) : 1 ≤ (s + P - 1) / P := (Nat.le_div_iff_mul_le hP).2 (by omega)
theorem ceil_le {s q P : Nat} (h : s ≤ q * P) (hP : 0 < P) : (s + P - 1) / P ≤ q := by
  have : (s + P - 1) / P < q + 1 := (Nat.div_lt_iff_lt_mul hP).2 (by rw [Nat.add_mul]; omega)
  omega
theorem ceil_gt {s o P : Nat} (h : o * P < s) (hP : 0 < P) : o < (s + P - 1) / P := (Nat.le_div_iff_mul_le hP).2 (by rw [Nat.succ_mul]; omega)
end Go.Proofs.YtpokecijongkpaaDoor
namespace Go.Proofs.YtpokecijongkpaaDoor
set_option maxRecDepth 100000
open Go.RowKit

theorem odd_pow {o j a : Nat} (ho : o % 2 = 1) (h : o * 2 ^ j = 2 ^ a) (hja : j ≤ a) : o = 1 := by
  rw [pow_split hja] at h
  have h1 : o = 2 ^ (a - j) := Nat.eq_of_mul_eq_mul_right (Nat.two_pow_pos j) h
  rcases hd : a - j with _ | d
  · rw [h1, hd, Nat.pow_zero]
  · rw [h1, hd, Nat.pow_succ] at ho
    omega
theorem pow_lt_j {j a : Nat} (h : 2 ^ j ≤ 2 ^ a) : j ≤ a := (Nat.pow_le_pow_iff_right (by decide)).1 h
theorem tw_one (w : Bool) (x : Nat → Nat) (p : List (Nat → Nat)) (n m : Nat) (h : n ≤ m ∨ n < 2) : tw n m w x p.reverse = beg (w && decide (1 = 1)) x p (fun y p => lvG pA pB 1 0 (y, y) p) := by
  rw [tw_end w x _ h]
  cases w
  · show (match p.reverse with | [y] => some (y, y) | _ => none) = (match p with | [] => none | y :: p => lvG pA pB 1 0 (y, y) p)
    cases p with
    | nil => rfl
    | cons y p =>
      show _ = lvG pA pB 1 0 (y, y) p
      rw [lvG_one pA pB 0 (y, y) p (by omega)]
      rcases List.eq_nil_or_concat p with rfl | ⟨r, t, rfl⟩
      · rfl
      · rw [List.concat_eq_append, ← List.cons_append, List.reverse_append]
        cases hr : (y :: r).reverse with
        | nil =>
          have := congrArg List.length hr
          rw [List.length_reverse] at this
          cases this
        | cons z l =>
          cases r <;> rfl
  · show (match p.reverse with | [] => some (x, x) | _ :: _ => none) = lvG pA pB 1 0 (x, x) p
    rw [lvG_one pA pB 0 (x, x) p (by omega)]
    rcases List.eq_nil_or_concat p with rfl | ⟨r, t, rfl⟩
    · rfl
    · rw [List.concat_eq_append, List.reverse_append]
      cases r <;> rfl
/-- Both are the same: of the first m = o 2^j, o odd, of n. -/
theorem tw_bu : ∀ (n j o : Nat) (w : Bool) (x : Nat → Nat) (p : List (Nat → Nat)), o % 2 = 1 → (o * 2 ^ j < n ∨ (o = 1 ∧ n = 2 ^ j)) → tw n (o * 2 ^ j) w x p.reverse = bu n j o w x p := fun n => by
  induction n using Nat.strongRecOn with
  | ind n ih =>
    intro j o w x p ho hm
    have hP := Nat.two_pow_pos j
    by_cases hn : o * 2 ^ j < n
    · have hoP : 2 ^ j ≤ o * 2 ^ j := Nat.le_mul_of_pos_left _ (by omega)
      have h1 := sp_lt (n := n) (by omega)
      have h0 := sp_pos (n := n) (by omega)
      have h3 := sp_le (n := n) (by omega)
      have hpw := sp_pow (n := n) (by omega)
      obtain ⟨a, ha⟩ : ∃ a, (n - 1).log2 = a := ⟨_, rfl⟩
      rw [ha] at hpw
      obtain ⟨s, hs⟩ : ∃ s, n = 2 ^ a + s := ⟨n - 2 ^ a, by omega⟩
      have hne : ¬ (n ≤ o * 2 ^ j ∨ n < 2) := by omega
      by_cases hk : o * 2 ^ j ≤ sp n
      · have hja : j ≤ a := pow_lt_j (by omega)
        have hsp := pow_split hja
        have ho2 : o ≤ 2 ^ (a - j) := Nat.le_of_mul_le_mul_right (c := 2 ^ j) (by rw [← hsp, ← hpw]; exact hk) hP
        have hC : (n + 2 ^ j - 1) / 2 ^ j = 2 ^ (a - j) + (s + 2 ^ j - 1) / 2 ^ j := by rw [hs, hsp, ceil_add _ s _ hP]
        have hC2 : (sp n + 2 ^ j - 1) / 2 ^ j = 2 ^ (a - j) := by rw [hpw, hsp, ceil_mul _ _ hP]
        have hb : bu n j o w x p = topG p (fun p => bu (sp n) j o w x p) pB := by
          unfold bu
          have hf : (fun (y : Nat → Nat) (p : List (Nat → Nat)) => lvG pA pB ((n + 2 ^ j - 1) / 2 ^ j) (o - 1) (y, y) p) = fun y p => topG p (fun p => lvG pA pB ((sp n + 2 ^ j - 1) / 2 ^ j) (o - 1) (y, y) p) pB := by
            funext y p
            rw [hC, hC2]
            exact lvG_left pA pB (a - j) _ (o - 1) (y, y) p (by omega) (ceil_pos (by omega) hP) (ceil_le (by rw [← hsp]; omega) hP)
          rw [hf]
          exact beg_top _ x p (fun y p => lvG pA pB ((sp n + 2 ^ j - 1) / 2 ^ j) (o - 1) (y, y) p) pB
        rw [hb]
        have hIH : o * 2 ^ j < sp n ∨ (o = 1 ∧ sp n = 2 ^ j) := by
          by_cases he : o * 2 ^ j < sp n
          · exact Or.inl he
          · have he2 : o * 2 ^ j = 2 ^ a := by omega
            have ho1 := odd_pow ho he2 hja
            rw [ho1, Nat.one_mul] at he2
            exact Or.inr ⟨ho1, by omega⟩
        rcases List.eq_nil_or_concat p with rfl | ⟨r, t, rfl⟩
        · rw [topG_nil]
          exact tw_nil w x hne
        · rw [List.concat_eq_append, topG_snoc, List.reverse_append]
          show tw n (o * 2 ^ j) w x (t :: r.reverse) = _
          rw [tw_low w x t _ hne hk, ih (sp n) h1 j o w x r ho hIH]
      · have hja : j < a := by
          rcases Nat.lt_or_ge j a with h | h
          · exact h
          · have h4 : 2 ^ a ≤ 2 ^ j := Nat.pow_le_pow_right (by decide) h
            have h5 : 3 * 2 ^ j ≤ o * 2 ^ j ∨ o = 1 := by
              by_cases e : o = 1
              · exact Or.inr e
              · exact Or.inl (Nat.mul_le_mul_right _ (by omega))
            rcases h5 with h5 | h5
            · omega
            · rw [h5, Nat.one_mul] at hk hn
              have h6 : j ≤ a + 1 := by
                rcases Nat.lt_or_ge (a + 1) j with h7 | h7
                · have := Nat.pow_le_pow_right (n := 2) (by decide) h7
                  rw [Nat.pow_succ, Nat.pow_succ] at this
                  omega
                · omega
              rcases (show j = a ∨ j = a + 1 by omega) with h7 | h7
              · rw [h7] at hk; omega
              · rw [h7, Nat.pow_succ] at hn; omega
        have hsp := pow_split (Nat.le_of_lt hja)
        obtain ⟨d, hd⟩ : ∃ d, a - j = d + 1 := ⟨a - j - 1, by omega⟩
        have he : 2 ^ (a - j) = 2 * 2 ^ d := by rw [hd, Nat.pow_succ, Nat.mul_comm]
        have hdp := Nat.two_pow_pos d
        have ho2 : 2 ^ (a - j) < o := by
          refine Nat.lt_of_mul_lt_mul_right (a := 2 ^ j) ?_
          rw [← hsp]
          omega
        obtain ⟨u, hu⟩ : ∃ u, o = 2 ^ (a - j) + u := ⟨o - 2 ^ (a - j), by omega⟩
        have hmu : o * 2 ^ j = 2 ^ a + u * 2 ^ j := by rw [hu, Nat.add_mul, ← hsp]
        have hu1 : u % 2 = 1 := by omega
        have hus : u * 2 ^ j < s := by omega
        have hC : (n + 2 ^ j - 1) / 2 ^ j = 2 ^ (a - j) + (s + 2 ^ j - 1) / 2 ^ j := by rw [hs, hsp, ceil_add _ s _ hP]
        have hsr : (s + 2 ^ j - 1) / 2 ^ j ≤ 2 ^ (a - j) := ceil_le (by rw [← hsp]; omega) hP
        have hur : u < (s + 2 ^ j - 1) / 2 ^ j := ceil_gt hus hP
        have hns : n - sp n = s := by omega
        have hb : bu n j o w x p = topG p (fun p => bu s j u false x p) pA := by
          unfold bu
          have hw : (w && decide (o = 1)) = false := by
            rw [decide_eq_false (by omega), Bool.and_false]
          rw [hw, Bool.false_and]
          have hf : (fun (y : Nat → Nat) (p : List (Nat → Nat)) => lvG pA pB ((n + 2 ^ j - 1) / 2 ^ j) (o - 1) (y, y) p) = fun y p => topG p (fun p => lvG pA pB ((s + 2 ^ j - 1) / 2 ^ j) (u - 1) (y, y) p) pA := by
            funext y p
            rw [hC, show o - 1 = 2 ^ (a - j) + (u - 1) by omega]
            exact lvG_right pA pB (a - j) _ (u - 1) (y, y) p (by omega) hsr
          rw [hf]
          exact beg_top _ x p (fun y p => lvG pA pB ((s + 2 ^ j - 1) / 2 ^ j) (u - 1) (y, y) p) pA
        rw [hb]
        rcases List.eq_nil_or_concat p with rfl | ⟨r, t, rfl⟩
        · rw [topG_nil]
          exact tw_nil w x hne
        · rw [List.concat_eq_append, topG_snoc, List.reverse_append]
          show tw n (o * 2 ^ j) w x (t :: r.reverse) = _
          rw [tw_up w x t _ hne hk, hns, show o * 2 ^ j - sp n = u * 2 ^ j by omega, ih s (by omega) j u false x r hu1 (Or.inl hus)]
    · obtain ⟨rfl, hn2⟩ := hm.resolve_left hn
      have hC : (n + 2 ^ j - 1) / 2 ^ j = 1 := by
        have := ceil_mul 1 (2 ^ j) hP
        rw [Nat.one_mul] at this
        rw [hn2]
        exact this
      unfold bu
      rw [hC]
      exact tw_one w x p n _ (Or.inl (by rw [Nat.one_mul]; omega))
end Go.Proofs.YtpokecijongkpaaDoor
namespace Go.Proofs.YtpokecijongkpaaDoor
set_option maxRecDepth 100000
open Go.RowKit
attribute [local go_sem ↓] Go.wp_at_zero Go.wp_at_succ

/-- Variables of one's own, made since w0, and the hashes in them. -/
structure Vs (w0 W : World) (L : List (Nat × (Nat → Nat))) : Prop where
  k : Below w0.heap.size w0 W
  at_ : ∀ p ∈ L, w0.heap.size ≤ p.1 ∧ RowB W p.1 32 p.2
  dn : (L.map Prod.fst).Nodup
theorem Vs.nil (w : World) : Vs w w [] := ⟨Below.refl _ _, (fun _ h => by cases h), List.nodup_nil⟩
theorem Vs.keep {w0 W W' : World} {L : List (Nat × (Nat → Nat))} (h : Vs w0 W L) (hb : Below W.heap.size W W') : Vs w0 W' L :=
  ⟨Go.Proofs.YtpokecijongkpaaDoor.K.call h.k hb, fun p hp => ⟨(h.at_ p hp).1, Row8.keep (h.at_ p hp).2 hb⟩, h.dn⟩
theorem Vs.made {w0 W : World} {L : List (Nat × (Nat → Nat))} (h : Vs w0 W L) (f : Nat → Nat) : Vs w0 (W.alloc (.cells (ab f 32).toArray 24)) ((W.heap.size, f) :: L) := by
  have hb : Below W.heap.size W (W.alloc (.cells (ab f 32).toArray 24)) := Go.Proofs.YtpokecijongkpaaDoor.K.alloc (Below.refl _ _) _
  refine ⟨Go.Proofs.YtpokecijongkpaaDoor.K.alloc h.k _, fun p hp => ?_, ?_⟩
  · rcases List.mem_cons.1 hp with rfl | hp
    · exact ⟨h.k.size, RowB.made W 24 32 f _ rfl⟩
    · exact ⟨(h.at_ p hp).1, Row8.keep (h.at_ p hp).2 hb⟩
  · rw [List.map_cons]
    refine List.nodup_cons.2 ⟨fun hm => ?_, h.dn⟩
    obtain ⟨p, hp, e⟩ := List.mem_map.1 hm
    have hl := (h.at_ p hp).2.lt
    rw [e] at hl
    exact Nat.lt_irrefl _ hl
theorem Vs.put {w0 W : World} {L : List (Nat × (Nat → Nat))} (h : Vs w0 W L) {i b : Nat} {f : Nat → Nat} (hi : L[i]? = some (b, f)) (g : Nat → Nat) : Vs w0 (W.setCells b 0 (ab g 32).toArray.toList) (L.set i (b, g)) := by
  have hm := h.at_ (b, f) (List.mem_of_getElem? hi)
  have hil : i < L.length := (List.getElem?_eq_some_iff.1 hi).1
  have hb : (L.map Prod.fst)[i]? = some b := by rw [List.getElem?_map, hi]; rfl
  refine ⟨below_setCells _ _ h.k hm.1, fun p hp => ?_, ?_⟩
  · obtain ⟨j, hj⟩ := List.mem_iff_getElem?.1 hp
    rw [List.getElem?_set] at hj
    by_cases hij : i = j
    · rw [if_pos hij, if_pos hil] at hj
      cases hj
      exact ⟨hm.1, RowB.stored hm.2 g⟩
    · rw [if_neg hij] at hj
      have hp2 := h.at_ p (List.mem_of_getElem? hj)
      refine ⟨hp2.1, Row8.apart hp2.2 (fun e => hij ?_) _ _⟩
      refine (List.getElem?_inj (l := L.map Prod.fst) (by rw [List.length_map]; exact hil) h.dn).1 ?_
      rw [hb, List.getElem?_map, hj, ← e]
      rfl
  · have e : (L.set i (b, g)).map Prod.fst = L.map Prod.fst := by
      refine List.ext_getElem? fun j => ?_
      rw [List.getElem?_map, List.getElem?_map, List.getElem?_set]
      by_cases hij : i = j
      · rw [if_pos hij, if_pos hil, ← hij, hi]
        rfl
      · rw [if_neg hij]
    rw [e]
    exact h.dn
theorem Vs.rg {w0 W : World} {L : List (Nat × (Nat → Nat))} (h : Vs w0 W L) (i : Nat) {b : Nat} {f : Nat → Nat} (hi : L[i]? = some (b, f)) : W.rangeAt b 0 (ab f 32) := RowB.range (h.at_ (b, f) (List.mem_of_getElem? hi)).2
theorem Vs.drew {w0 W : World} {L : List (Nat × (Nat → Nat))} (h : Vs w0 W L) : Vs w0 W.drew L := h.keep (Go.Proofs.YtpokecijongkpaaDoor.K.drew (Below.refl _ W))
/-- What a region that draws its order may read. -/
def Sv (w0 : World) (R : List (Nat × (Nat → Nat))) (W : World) : Prop := Below w0.heap.size w0 W ∧ ∀ p ∈ R, W.rangeAt p.1 0 (ab p.2 32)
theorem Vs.sv {w0 W : World} {L R : List (Nat × (Nat → Nat))} (h : Vs w0 W L) (hR : ∀ p ∈ R, p ∈ L) : Sv w0 R W := ⟨h.k, fun p hp => RowB.range (h.at_ p (hR p hp)).2⟩
theorem Sv.rg {w0 W : World} {R : List (Nat × (Nat → Nat))} (h : Sv w0 R W) (i : Nat) {b : Nat} {f : Nat → Nat} (hi : R[i]? = some (b, f)) : W.rangeAt b 0 (ab f 32) := h.2 (b, f) (List.mem_of_getElem? hi)
section
variable {w0 W : World} {L : List (Nat × (Nat → Nat))} {op : Oper} {a : Act} {Kt : Act → World → Prop} {Q : Exit → Act → World → Prop} {ops : Array Oper} {rest : List Oper}
theorem run_allocH (hop : op.op = Op.alloc 24) : (execOp a.eval op).run Tryd.prog W = .ok (.value (.pointer (some ⟨W.heap.size, 0, none⟩))) (W.alloc (.cells (ab (fun _ => 0) 32).toArray 24)) := by
  unfold execOp
  simp [hop, Instr.alloc, newVar, newRow, Result.andThen, Value.cells]
  rfl
theorem Vs.wpNew (hv : Vs w0 W L) (hop : op.op = Op.alloc 24) (h : ∀ y W', Vs w0 W' ((y, fun _ => 0) :: L) → Below W.heap.size W W' → Kt (a.put op.dst (.pointer (some ⟨y, 0, none⟩))) W') : Oper.wp Tryd.prog op a W Kt Q := by
  unfold Oper.wp
  rw [run_allocH hop]
  exact h _ _ (hv.made _) (Go.Proofs.YtpokecijongkpaaDoor.K.alloc (Below.refl _ _) _)
theorem Vs.listNew (hv : Vs w0 W L) (hgd : op.guard = none) (hop : op.op = Op.alloc 24) (h : ∀ y W', Vs w0 W' ((y, fun _ => 0) :: L) → Below W.heap.size W W' → wpList Tryd.prog ops Q rest (a.put op.dst (.pointer (some ⟨y, 0, none⟩))) W') : wpList Tryd.prog ops Q (op :: rest) a W :=
  wpList_plain hgd fun _ hK => hv.wpNew hop fun y W' h1 h2 => hK _ _ (h y W' h1 h2)
theorem Vs.wpPut (hv : Vs w0 W L) (i : Nat) {x y : Operand} {b : Nat} {f g : Nat → Nat} (hop : op.op = Op.store 24 x y) (hx : a.eval x = .pointer (some ⟨b, 0, none⟩)) (hy : a.eval y = .agg (ab g 32).toArray) (hi : L[i]? = some (b, f)) (h : ∀ W', Vs w0 W' (L.set i (b, g)) → Kt (a.put op.dst undef) W') : Oper.wp Tryd.prog op a W Kt Q :=
  wp_store_mid 24 x y hop b 0 (ab g 32).toArray hx hy ((hv.at_ (b, f) (List.mem_of_getElem? hi)).2.there g) (inH _) (all_oneCell_toArray (ab_one _ _)) (h _ (hv.put hi g))
theorem Vs.listPut (hv : Vs w0 W L) (i : Nat) {x y : Operand} {b : Nat} {f g : Nat → Nat} (hgd : op.guard = none) (hop : op.op = Op.store 24 x y) (hx : a.eval x = .pointer (some ⟨b, 0, none⟩)) (hy : a.eval y = .agg (ab g 32).toArray) (hi : L[i]? = some (b, f)) (h : ∀ W', Vs w0 W' (L.set i (b, g)) → wpList Tryd.prog ops Q rest (a.put op.dst undef) W') : wpList Tryd.prog ops Q (op :: rest) a W :=
  wpList_plain hgd fun _ hK => hv.wpPut i hop hx hy hi fun W' h1 => hK _ _ (h W' h1)
end
/-- What is answered: a variable and a value; two variables and a value. -/
theorem results_cell_tmp {P : Program} {fn : Func} {p q : Tmp} {ty : TypeId} (h : fn.results = #[.cell p ty, .tmp q]) (tmps : Array Value) (w : World) (b : Nat) (cs : List Value) (d : TypeDesc) {v : Value}
    (hp : tmps.getD p undef = .pointer (some ⟨b, 0, none⟩)) (hc : w.rangeAt b 0 cs) (hu : P.underlying ty = some d) (hd : d.isRow = true) (hi : (P.info? ty).map (·.size) = some cs.length) (hv : tmps.getD q undef = v) :
    (results fn tmps).run P w = .ok (.tuple #[.agg cs.toArray, v]) w := by
  have hp' : tmps[p]?.getD undef = .pointer (some ⟨b, 0, none⟩) := by simpa using hp
  have hv' : tmps[q]?.getD undef = v := by simpa using hv
  simp [results, h, hp', hv', asAddr, run_loadVar_mid w b 0 ty cs d hc hu hd hi]
theorem results_cell2_tmp {P : Program} {fn : Func} {p p2 q : Tmp} {ty : TypeId} (h : fn.results = #[.cell p ty, .cell p2 ty, .tmp q]) (tmps : Array Value) (w : World) (b b2 : Nat) (cs cs2 : List Value) (d : TypeDesc) {v : Value}
    (hp : tmps.getD p undef = .pointer (some ⟨b, 0, none⟩)) (hc : w.rangeAt b 0 cs) (hp2 : tmps.getD p2 undef = .pointer (some ⟨b2, 0, none⟩)) (hc2 : w.rangeAt b2 0 cs2) (hu : P.underlying ty = some d) (hd : d.isRow = true) (hi : (P.info? ty).map (·.size) = some cs.length) (hi2 : (P.info? ty).map (·.size) = some cs2.length) (hv : tmps.getD q undef = v) :
    (results fn tmps).run P w = .ok (.tuple #[.agg cs.toArray, .agg cs2.toArray, v]) w := by
  have hp' : tmps[p]?.getD undef = .pointer (some ⟨b, 0, none⟩) := by simpa using hp
  have hp2' : tmps[p2]?.getD undef = .pointer (some ⟨b2, 0, none⟩) := by simpa using hp2
  have hv' : tmps[q]?.getD undef = v := by simpa using hv
  simp [results, h, hp', hp2', hv', asAddr, run_loadVar_mid w b 0 ty cs d hc hu hd hi, run_loadVar_mid w b2 0 ty cs2 d hc2 hu hd hi2]
theorem meet6 {A B C D E F : Type} {G : Prop} {P : A → B → C → D → E → F → Prop} (main : (∀ a b c d e f, P a b c d e f) → G) (x : ∀ a b c d e f, P a b c d e f) : G := main x
/-- A list's first n, the last one first. -/
def rv (F : Nat → Nat → Nat) : Nat → List (Nat → Nat)
  | 0 => []
  | n + 1 => F n :: rv F n
theorem HL.rangeA {w : World} {b o n : Nat} {F : Nat → Nat → Nat} (h : HL w (some ⟨b, o, none⟩) n F) {i : Nat} (hi : i < n) : w.rangeAt b (o + i * 32) (ab (F i) 32) := by
  rcases h.at_ with h5 | ⟨b', o', e, hr⟩
  · omega
  · cases e
    exact hr i hi
/-- A hash of noughts. -/
theorem hk0_build : Tryd.prog.built 24 [] = some (ab (fun _ => 0) 32).toArray := by kernel_rfl
theorem wpList_hk0 {w : World} {ops : Array Oper} {rest : List Oper} {op : Oper} {a : Act} {Q : Exit → Act → World → Prop} (hw : Region.wanted op (yielded ops a.tmps) = true) (ho : op.op = .build 24 #[])
    (h : wpList Tryd.prog ops Q rest (a.put op.dst (.agg (ab (fun _ => 0) 32).toArray)) w) : wpList Tryd.prog ops Q (op :: rest) a w :=
  wpList_buildC hw 24 _ ho _ (by simp only [List.map_toArray, List.map_nil]; exact hk0_build) h
theorem refSplit_big (w : World) {n : Nat} (hn : n < 9223372036854775808) : Calls Tryd.prog 28 #[.int .i64 (n : Int)] w fun e w' => e = .returned (.int .i64 (sp n : Int)) ∧ w' = w := by
  by_cases h : n < 2
  · have h' : (n : Int) < 2 := by omega
    rw [sp_small h]
    go_enter Tryd.func28, Tryd.ntmps28
    go_wp2_with fail
    go_ret
    exact ⟨rfl, rfl⟩
  · have h' : ¬ ((n : Int) < 2) := by omega
    go_enter Tryd.func28, Tryd.ntmps28
    go_wp2_with fail
    go_loopg [3] (n - 1) (fun g s wr => ∃ k j : Nat, g = n - k ∧ k = 2 ^ j ∧ k < n ∧ s = .int .i64 (k : Int) ∧ wr = w)
    case atStart => exact ⟨1, 0, rfl, rfl, by omega, rfl, rfl⟩
    case round =>
      obtain ⟨k, j, rfl, hk, hkn, rfl, rfl⟩ := hrel
      have hp := Nat.two_pow_pos j
      have hk1 : 1 ≤ k := by omega
      have hw1 : wrap64 ((n : Int) - (k : Int)) = (n : Int) - (k : Int) := by unfold wrap64; omega
      by_cases hl : 2 * k < n
      · have hc : (k : Int) < (n : Int) - (k : Int) := by omega
        have hw2 : wrap64 (2 * (k : Int)) = 2 * (k : Int) := by unfold wrap64; omega
        have HK := hide hk
        clear hk hp
        go_wp2_with fail
        go_roundg (n - 2 * k)
        case measure => omega
        case rel => exact ⟨2 * k, j + 1, rfl, by rw [HK.out, Nat.pow_succ]; omega, hl, by simp, rfl⟩
      · have hc : ¬ ((k : Int) < (n : Int) - (k : Int)) := by omega
        have hs : sp n = k := by rw [hk]; exact sp_of (by omega) (by omega)
        clear hk hp
        go_wp2_with fail
        go_ret
        exact ⟨rfl, rfl⟩
end Go.Proofs.YtpokecijongkpaaDoor
