/- Layer 17: parts with their sizes, and how one more is joined to them (no function of the program is named). -/
import Derived.Test.YteplklbpehkdjaaDoorM17
namespace Go.Proofs.YteplklbpehkdjaaDoor
set_option maxRecDepth 100000
open Go.RowKit

abbrev Pt2 := (Nat → Nat) × Nat
theorem rt_ext : ∀ (n : Nat) {F G : Nat → Nat → Nat}, (∀ i, i < n → F i = G i) → rt F n = rt G n := fun n => by
  induction n using Nat.strongRecOn with
  | ind n ih =>
    intro F G h
    by_cases h2 : n < 2
    · by_cases h0 : n = 0
      · subst h0
        rw [rt_zero, rt_zero]
      · obtain rfl : n = 1 := by omega
        rw [rt_one, rt_one, h 0 (by omega)]
    · have hs := sp_lt (n := n) (by omega)
      have hp := sp_pos (n := n) (by omega)
      rw [rt_more F (by omega), rt_more G (by omega), ih (sp n) hs (fun i hi => h i (by omega)), ih (n - sp n) (by omega) (F := fun i => F (sp n + i)) (G := fun i => G (sp n + i)) (fun i hi => h _ (by omega))]
/-- The parts of such powers of two: their roots and sizes. -/
def qs (F : Nat → Nat → Nat) : List Nat → List Pt2
  | [] => []
  | e :: es => (rt F (2 ^ e), 2 ^ e) :: qs (fun i => F (2 ^ e + i)) es
theorem qs_fst (F : Nat → Nat → Nat) (es : List Nat) : (qs F es).map Prod.fst = pR F es := by
  induction es generalizing F with
  | nil => rfl
  | cons e es ih => rw [qs, pR, List.map_cons, ih]
theorem qs_len (F : Nat → Nat → Nat) (es : List Nat) : (qs F es).length = es.length := by
  rw [← List.length_map (f := Prod.fst), qs_fst, pR_len]
theorem qs_app (F : Nat → Nat → Nat) (a b : List Nat) : qs F (a ++ b) = qs F a ++ qs (fun i => F (sz a + i)) b := by
  induction a generalizing F with
  | nil =>
    rw [List.nil_append, qs, List.nil_append]
    congr 1
    funext i
    rw [sz, Nat.zero_add]
  | cons e a ih =>
    rw [List.cons_append, qs, qs, ih, List.cons_append]
    congr 3
    funext i
    rw [sz, Nat.add_assoc]
theorem qs_ext : ∀ (es : List Nat) {F G : Nat → Nat → Nat}, (∀ i, i < sz es → F i = G i) → qs F es = qs G es
  | [], _, _, _ => rfl
  | e :: es, F, G, h => by
    have hs : sz (e :: es) = 2 ^ e + sz es := rfl
    rw [qs, qs, rt_ext (2 ^ e) (fun i hi => h i (by omega)), qs_ext es (F := fun i => F (2 ^ e + i)) (G := fun i => G (2 ^ e + i)) (fun i hi => h _ (by omega))]
/-- How many hashes parts have together. -/
def sm : List Pt2 → Nat
  | [] => 0
  | q :: Q => q.2 + sm Q
theorem sm_qs (F : Nat → Nat → Nat) (es : List Nat) : sm (qs F es) = sz es := by
  induction es generalizing F with
  | nil => rfl
  | cons e es ih => rw [qs, sm, ih, sz]
theorem sm_app (a b : List Pt2) : sm (a ++ b) = sm a + sm b := by
  induction a with
  | nil => rw [List.nil_append, sm, Nat.zero_add]
  | cons q a ih => rw [List.cons_append, sm, sm, ih, Nat.add_assoc]
theorem sm_take (Q : List Pt2) (k : Nat) : sm (Q.take k) ≤ sm Q := by
  have h := sm_app (Q.take k) (Q.drop k)
  rw [List.take_append_drop] at h
  omega
/-- The parts, the last one first, and one more: while it and the one ahead of it are of one size they become one. -/
def jn : List Pt2 → Pt2 → List Pt2
  | [], t => [t]
  | q :: r, t => if q.2 = t.2 then jn r (nd q.1 t.1, q.2 + t.2) else t :: q :: r
theorem jn_same {q t : Pt2} (r : List Pt2) (h : q.2 = t.2) : jn (q :: r) t = jn r (nd q.1 t.1, q.2 + t.2) := if_pos h
theorem jn_other {q t : Pt2} (r : List Pt2) (h : q.2 ≠ t.2) : jn (q :: r) t = t :: q :: r := if_neg h
theorem pow_inj {x e : Nat} (h : 2 ^ x = 2 ^ e) : x = e := by
  have h1 := Nat.log2_two_pow (n := x)
  rw [h, Nat.log2_two_pow] at h1
  exact h1.symm
theorem jn_qs (F : Nat → Nat → Nat) : ∀ (k : Nat) (es : List Nat) (e : Nat), es.length = k → Stk es e →
    ∃ es', Desc es' ∧ sz es' = sz es + 2 ^ e ∧ jn (qs F es).reverse (rt (fun i => F (sz es + i)) (2 ^ e), 2 ^ e) = (qs F es').reverse := fun k => by
  induction k with
  | zero =>
    intro es e hk hS
    obtain rfl : es = [] := List.length_eq_zero_iff.1 hk
    refine ⟨[e], trivial, by rw [sz, sz, sz]; omega, ?_⟩
    have e2 : (fun i => F (sz [] + i)) = F := by funext i; rw [sz, Nat.zero_add]
    rw [e2]
    rfl
  | succ k ih =>
    intro es e hk hS
    rcases List.eq_nil_or_concat es with rfl | ⟨pre, x, rfl⟩
    · cases hk
    · rw [List.concat_eq_append] at hk hS ⊢
      rw [List.length_append] at hk
      have hk' : pre.length = k := by
        have : [x].length = 1 := rfl
        omega
      have hq : (qs F (pre ++ [x])).reverse = (rt (fun i => F (sz pre + i)) (2 ^ x), 2 ^ x) :: (qs F pre).reverse := by
        rw [qs_app, List.reverse_append]
        rfl
      rw [hq]
      by_cases hx : x = e
      · subst hx
        obtain ⟨es', h1, h2, h3⟩ := ih pre (x + 1) hk' hS.join
        refine ⟨es', h1, ?_, ?_⟩
        · rw [h2, sz_app, sz, sz, Nat.pow_succ]
          omega
        · rw [jn_same (q := (rt (fun i => F (sz pre + i)) (2 ^ x), 2 ^ x)) (t := (rt (fun i => F (sz (pre ++ [x]) + i)) (2 ^ x), 2 ^ x)) _ rfl, ← h3]
          have e1 : 2 ^ (x + 1) = 2 ^ x + 2 ^ x := by rw [Nat.pow_succ]; omega
          have e2 : (fun i => F (sz (pre ++ [x]) + i)) = fun i => (fun i => F (sz pre + i)) (2 ^ x + i) := by
            funext i
            rw [sz_app, sz, sz, Nat.add_zero, Nat.add_assoc]
          show jn _ (_, 2 ^ x + 2 ^ x) = _
          rw [rt_twice, e1, e2]
      · refine ⟨pre ++ [x] ++ [e], hS.done (fun y hy => ?_), ?_, ?_⟩
        · rw [List.getLast?_concat] at hy
          cases hy
          exact hx
        · rw [sz_app (pre ++ [x]), sz, sz]
          omega
        · rw [jn_other _ (fun h => hx (pow_inj h)), qs_app F (pre ++ [x]) [e], List.reverse_append, hq]
          rfl
/-- One hash more. -/
theorem push_qs {F G : Nat → Nat → Nat} {es : List Nat} (h : Desc es) (hG : ∀ i, i < sz es → G i = F i) : ∃ es', Desc es' ∧ sz es' = sz es + 1 ∧ (jn (qs F es).reverse (G (sz es), 1)).reverse = qs G es' := by
  obtain ⟨es', h1, h2, h3⟩ := jn_qs G es.length es 0 rfl (Stk.push h)
  refine ⟨es', h1, by rw [h2, Nat.pow_zero], ?_⟩
  have e1 : rt (fun i => G (sz es + i)) (2 ^ 0) = G (sz es) := by rw [Nat.pow_zero, rt_one, Nat.add_zero]
  rw [e1, Nat.pow_zero, qs_ext es hG] at h3
  rw [h3, List.reverse_reverse]
end Go.Proofs.YteplklbpehkdjaaDoor
