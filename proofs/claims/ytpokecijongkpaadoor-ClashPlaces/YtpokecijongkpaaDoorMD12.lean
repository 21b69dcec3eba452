/- Layer 19: the document's own Path and Proof. Layer 19: what layer 18 tells is right; how many hashes lead somewhere (no function of the program is named). Layer 19's laws: when a path or a proof leads there. Layer 20: who deceives has two pairs that differ and have one hash (no function of the program is named). Layer 19's laws: lists of one's own in a region that draws its order. Layer 19's laws: rows of cells in variables of one's own; what is claimed. Two lists of bytes are the same. -/
import Derived.Test.YtpokecijongkpaaDoorMD11
import Derived.Test.YtpokecijongkpaaDoorMD09
import Derived.Test.YtpokecijongkpaaDoorMD08
import Derived.Test.YtpokecijongkpaaDoorMD01
import Derived.Great.BuildSlice
namespace Go.Proofs.YtpokecijongkpaaDoor
set_option maxRecDepth 100000
open Go.RowKit
attribute [local go_sem ↓] Go.wp_at_zero Go.wp_at_succ

/-- Whether a path leads there; p: the last one first. -/
def ckP (m n : Int) (f : Nat → Nat) (p : List (Nat → Nat)) (g : Nat → Nat) : Bool :=
  if m < 0 ∨ n ≤ m then false else match ld n.toNat m.toNat f p with
    | none => false
    | some y => eqB y g 32
/-- Whether a proof leads there; p: the last one first. -/
def ckT (m n : Int) (f : Nat → Nat) (p : List (Nat → Nat)) (g : Nat → Nat) : Bool :=
  if m < 1 ∨ n < m then false else match tw n.toNat m.toNat true f p with
    | none => false
    | some (y, z) => eqB y f 32 && eqB z g 32
theorem ckP_not {m n : Int} (h : m < 0 ∨ n ≤ m) (f : Nat → Nat) (p : List (Nat → Nat)) (g : Nat → Nat) : ckP m n f p g = false := if_pos h
theorem ckP_nat {m n : Nat} (h : m < n) (f : Nat → Nat) (p : List (Nat → Nat)) (g : Nat → Nat) : ckP (m : Int) (n : Int) f p g = match ld n m f p with
    | none => false
    | some y => eqB y g 32 := by
  unfold ckP
  rw [if_neg (by omega), Int.toNat_natCast, Int.toNat_natCast]
theorem ckT_not {m n : Int} (h : m < 1 ∨ n < m) (f : Nat → Nat) (p : List (Nat → Nat)) (g : Nat → Nat) : ckT m n f p g = false := if_pos h
theorem ckT_nat {m n : Nat} (h1 : 1 ≤ m) (h : m ≤ n) (f : Nat → Nat) (p : List (Nat → Nat)) (g : Nat → Nat) : ckT (m : Int) (n : Int) f p g = match tw n m true f p with
    | none => false
    | some (y, z) => eqB y f 32 && eqB z g 32 := by
  unfold ckT
  rw [if_neg (by omega), Int.toNat_natCast, Int.toNat_natCast]
theorem Vs.boxedg {w X : World} {f g : Nat → Nat} (hX : X = (w.alloc (.cells (ab f 32).toArray 24)).alloc (.cells (ab g 32).toArray 24)) : Vs w X [(w.heap.size + 1, g), (w.heap.size, f)] := by
  rw [hX]
  have h := ((Vs.nil w).made f).made g
  have e : ∀ o, (w.alloc o).heap.size = w.heap.size + 1 := fun o => by simp
  rw [e] at h
  exact h
end Go.Proofs.YtpokecijongkpaaDoor
namespace Go.Proofs.YtpokecijongkpaaDoor
set_option maxRecDepth 100000
open Go.RowKit

/-- The split of the first ones that reach behind the split of all. -/
theorem sp_same {n m : Nat} (h : 2 ≤ n) (hm : sp n < m) (hn : m ≤ n) : sp m = sp n := by
  have h1 := sp_le h
  rw [sp_pow h] at h1 hm ⊢
  exact sp_of hm (by omega)
theorem rv_len (F : Nat → Nat → Nat) : ∀ n, (rv F n).length = n
  | 0 => rfl
  | n + 1 => by rw [rv, List.length_cons, rv_len F n]
end Go.Proofs.YtpokecijongkpaaDoor
namespace Go.Proofs.YtpokecijongkpaaDoor
set_option maxRecDepth 100000
open Go.RowKit
attribute [local go_sem ↓] Go.wp_at_zero Go.wp_at_succ

theorem eqB_refl (f : Nat → Nat) : eqB f f 32 = true := decide_eq_true (fun _ _ => rfl)
theorem ckT_all {k : Nat} (hk : 1 ≤ k) (f g : Nat → Nat) : ckT (k : Int) (k : Int) f [] g = eqB f g 32 := by
  rw [ckT_nat hk (Nat.le_refl _), tw_end true f _ (Or.inl (Nat.le_refl _))]
  show (eqB f f 32 && eqB f g 32) = _
  rw [eqB_refl, Bool.true_and]
theorem ckT_alls {k : Nat} (hk : 1 ≤ k) (f g t : Nat → Nat) (r : List (Nat → Nat)) : ckT (k : Int) (k : Int) f (t :: r) g = false := by
  rw [ckT_nat hk (Nat.le_refl _), tw_end true f _ (Or.inl (Nat.le_refl _))]
  rfl
end Go.Proofs.YtpokecijongkpaaDoor
namespace Go.Proofs.YtpokecijongkpaaDoor
set_option maxRecDepth 100000
open Go.RowKit

theorem eqB_iff {f g : Nat → Nat} : eqB f g 32 = true ↔ ∀ j, j < 32 → f j = g j := decide_eq_true_iff
theorem eqB_comm (f g : Nat → Nat) : eqB f g 32 = eqB g f 32 := by
  rw [Bool.eq_iff_iff, eqB_iff, eqB_iff]
  exact ⟨fun h j hj => (h j hj).symm, fun h j hj => (h j hj).symm⟩
theorem eqB_left {f g h : Nat → Nat} (e : eqB f g 32 = true) : eqB f h 32 = eqB g h 32 := by
  rw [eqB_iff] at e
  rw [Bool.eq_iff_iff, eqB_iff, eqB_iff]
  exact ⟨fun h j hj => (e j hj).symm.trans (h j hj), fun h j hj => (e j hj).trans (h j hj)⟩
/-- Two pairs that differ and have one hash. -/
structure Cls (u v u' v' : Nat → Nat) : Prop where
  ne : (eqB u u' 32 && eqB v v' 32) = false
  eq : eqB (nd u v) (nd u' v') 32 = true
theorem Cls.symm {u v u' v' : Nat → Nat} (h : Cls u v u' v') : Cls u' v' u v := ⟨by rw [eqB_comm u' u, eqB_comm v' v]; exact h.ne, by rw [eqB_comm]; exact h.eq⟩
/-- From the root down: the first pair of a path's that isn't the list's. -/
def cp (n m : Nat) (F : Nat → Nat → Nat) (x : Nat → Nat) (r : List (Nat → Nat)) : Option ((Nat → Nat) × (Nat → Nat) × (Nat → Nat) × (Nat → Nat)) :=
  if _h : n < 2 then none
  else match r with
    | [] => none
    | t :: r =>
      if m < sp n then
        match ld (sp n) m x r with
        | none => none
        | some y => if eqB y (rt F (sp n)) 32 && eqB t (rt (fun i => F (sp n + i)) (n - sp n)) 32 then cp (sp n) m F x r else some (y, t, rt F (sp n), rt (fun i => F (sp n + i)) (n - sp n))
      else
        match ld (n - sp n) (m - sp n) x r with
        | none => none
        | some y => if eqB t (rt F (sp n)) 32 && eqB y (rt (fun i => F (sp n + i)) (n - sp n)) 32 then cp (n - sp n) (m - sp n) (fun i => F (sp n + i)) x r else some (t, y, rt F (sp n), rt (fun i => F (sp n + i)) (n - sp n))
termination_by n
decreasing_by
  · exact sp_lt (by omega)
  · have := sp_pos (n := n) (by omega)
    omega
theorem cp_low {n m : Nat} {F : Nat → Nat → Nat} {x t y : Nat → Nat} {r : List (Nat → Nat)} (h : 2 ≤ n) (hm : m < sp n) (hy : ld (sp n) m x r = some y) :
    cp n m F x (t :: r) = if eqB y (rt F (sp n)) 32 && eqB t (rt (fun i => F (sp n + i)) (n - sp n)) 32 then cp (sp n) m F x r else some (y, t, rt F (sp n), rt (fun i => F (sp n + i)) (n - sp n)) := by
  rw [cp.eq_def, dif_neg (by omega)]
  show (if m < sp n then _ else _) = _
  rw [if_pos hm, hy]
theorem cp_up {n m : Nat} {F : Nat → Nat → Nat} {x t y : Nat → Nat} {r : List (Nat → Nat)} (h : 2 ≤ n) (hm : ¬ m < sp n) (hy : ld (n - sp n) (m - sp n) x r = some y) :
    cp n m F x (t :: r) = if eqB t (rt F (sp n)) 32 && eqB y (rt (fun i => F (sp n + i)) (n - sp n)) 32 then cp (n - sp n) (m - sp n) (fun i => F (sp n + i)) x r else some (t, y, rt F (sp n), rt (fun i => F (sp n + i)) (n - sp n)) := by
  rw [cp.eq_def, dif_neg (by omega)]
  show (if m < sp n then _ else _) = _
  rw [if_neg hm, hy]
/-- Who has a path that is right, though the hash isn't there, has such pairs. -/
theorem cp_some : ∀ (n m : Nat) (F : Nat → Nat → Nat) (x : Nat → Nat) (r : List (Nat → Nat)) (y : Nat → Nat), m < n → ld n m x r = some y → eqB y (rt F n) 32 = true → eqB x (F m) 32 = false →
    ∃ u v u' v', cp n m F x r = some (u, v, u', v') ∧ Cls u v u' v' := fun n => by
  induction n using Nat.strongRecOn with
  | ind n ih =>
    intro m F x r y hm hl hy hx
    by_cases h2 : n < 2
    · obtain rfl : n = 1 := by omega
      obtain rfl : m = 0 := by omega
      rw [ld_one 0 x r h2] at hl
      cases r with
      | nil =>
        obtain rfl : x = y := Option.some.inj hl
        rw [rt_one, hx] at hy
        cases hy
      | cons t r => cases hl
    · have k1 := sp_lt (n := n) (by omega)
      have k0 := sp_pos (n := n) (by omega)
      cases r with
      | nil => rw [ld_nil m x (by omega)] at hl; cases hl
      | cons t r =>
        rw [rt_more F (by omega)] at hy
        by_cases hk : m < sp n
        · rw [ld_low x t r (by omega) hk] at hl
          cases he : ld (sp n) m x r with
          | none => rw [he] at hl; cases hl
          | some z =>
            rw [he] at hl
            obtain rfl : nd z t = y := Option.some.inj hl
            rw [cp_low (by omega) hk he]
            cases hc : eqB z (rt F (sp n)) 32 && eqB t (rt (fun i => F (sp n + i)) (n - sp n)) 32 with
            | true =>
              rw [if_pos rfl]
              rw [Bool.and_eq_true] at hc
              exact ih _ k1 m F x r z hk he hc.1 hx
            | false =>
              rw [if_neg (by decide)]
              exact ⟨_, _, _, _, rfl, hc, hy⟩
        · rw [ld_up x t r (by omega) hk] at hl
          cases he : ld (n - sp n) (m - sp n) x r with
          | none => rw [he] at hl; cases hl
          | some z =>
            rw [he] at hl
            obtain rfl : nd t z = y := Option.some.inj hl
            rw [cp_up (by omega) hk he]
            cases hc : eqB t (rt F (sp n)) 32 && eqB z (rt (fun i => F (sp n + i)) (n - sp n)) 32 with
            | true =>
              rw [if_pos rfl]
              rw [Bool.and_eq_true] at hc
              refine ih (n - sp n) (by omega) (m - sp n) (fun i => F (sp n + i)) x r z (by omega) he hc.2 ?_
              show eqB x (F (sp n + (m - sp n))) 32 = false
              rw [show sp n + (m - sp n) = m by omega]
              exact hx
            | false =>
              rw [if_neg (by decide)]
              exact ⟨_, _, _, _, rfl, hc, hy⟩
/-- The same of a proof: the pairs of the tree of all. -/
def ct (n m : Nat) (F : Nat → Nat → Nat) (w : Bool) (x : Nat → Nat) (r : List (Nat → Nat)) : Option ((Nat → Nat) × (Nat → Nat) × (Nat → Nat) × (Nat → Nat)) :=
  if _h : n ≤ m ∨ n < 2 then none
  else match r with
    | [] => none
    | t :: r =>
      if m ≤ sp n then
        match tw (sp n) m w x r with
        | none => none
        | some q => if eqB q.2 (rt F (sp n)) 32 && eqB t (rt (fun i => F (sp n + i)) (n - sp n)) 32 then ct (sp n) m F w x r else some (q.2, t, rt F (sp n), rt (fun i => F (sp n + i)) (n - sp n))
      else
        match tw (n - sp n) (m - sp n) false x r with
        | none => none
        | some q => if eqB t (rt F (sp n)) 32 && eqB q.2 (rt (fun i => F (sp n + i)) (n - sp n)) 32 then ct (n - sp n) (m - sp n) (fun i => F (sp n + i)) false x r else some (t, q.2, rt F (sp n), rt (fun i => F (sp n + i)) (n - sp n))
termination_by n
decreasing_by
  · exact sp_lt (by omega)
  · have := sp_pos (n := n) (by omega)
    omega
theorem ct_low {n m : Nat} {F : Nat → Nat → Nat} {w : Bool} {x t : Nat → Nat} {q : (Nat → Nat) × (Nat → Nat)} {r : List (Nat → Nat)} (h : ¬ (n ≤ m ∨ n < 2)) (hm : m ≤ sp n) (hy : tw (sp n) m w x r = some q) :
    ct n m F w x (t :: r) = if eqB q.2 (rt F (sp n)) 32 && eqB t (rt (fun i => F (sp n + i)) (n - sp n)) 32 then ct (sp n) m F w x r else some (q.2, t, rt F (sp n), rt (fun i => F (sp n + i)) (n - sp n)) := by
  rw [ct.eq_def, dif_neg h]
  show (if m ≤ sp n then _ else _) = _
  rw [if_pos hm, hy]
theorem ct_up {n m : Nat} {F : Nat → Nat → Nat} {w : Bool} {x t : Nat → Nat} {q : (Nat → Nat) × (Nat → Nat)} {r : List (Nat → Nat)} (h : ¬ (n ≤ m ∨ n < 2)) (hm : ¬ m ≤ sp n) (hy : tw (n - sp n) (m - sp n) false x r = some q) :
    ct n m F w x (t :: r) = if eqB t (rt F (sp n)) 32 && eqB q.2 (rt (fun i => F (sp n + i)) (n - sp n)) 32 then ct (n - sp n) (m - sp n) (fun i => F (sp n + i)) false x r else some (t, q.2, rt F (sp n), rt (fun i => F (sp n + i)) (n - sp n)) := by
  rw [ct.eq_def, dif_neg h]
  show (if m ≤ sp n then _ else _) = _
  rw [if_neg hm, hy]
/-- Both roots at the end are one. -/
theorem tw_both {n m : Nat} {w : Bool} {x : Nat → Nat} {r : List (Nat → Nat)} {q : (Nat → Nat) × (Nat → Nat)} (h : n ≤ m ∨ n < 2) (e : tw n m w x r = some q) : q.1 = q.2 := by
  rw [tw_end w x r h] at e
  cases w with
  | true =>
    cases r with
    | nil => cases Option.some.inj e; rfl
    | cons t r => cases e
  | false =>
    rcases r with _ | ⟨t, _ | ⟨t2, r⟩⟩
    · cases e
    · cases Option.some.inj e; rfl
    · cases e
/-- Who has a proof that leads to the root of all, and to another one than that of the first m, has such pairs. -/
theorem ct_some : ∀ (n m : Nat) (F : Nat → Nat → Nat) (w : Bool) (x : Nat → Nat) (r : List (Nat → Nat)) (q : (Nat → Nat) × (Nat → Nat)), 1 ≤ m → m ≤ n → tw n m w x r = some q → eqB q.2 (rt F n) 32 = true → eqB q.1 (rt F m) 32 = false →
    ∃ u v u' v', ct n m F w x r = some (u, v, u', v') ∧ Cls u v u' v' := fun n => by
  induction n using Nat.strongRecOn with
  | ind n ih =>
    intro m F w x r q h1 hm hl hy hx
    by_cases h2 : n ≤ m ∨ n < 2
    · obtain rfl : n = m := by omega
      rw [tw_both h2 hl, hy] at hx
      cases hx
    · have k1 := sp_lt (n := n) (by omega)
      have k0 := sp_pos (n := n) (by omega)
      cases r with
      | nil => rw [tw_nil w x h2] at hl; cases hl
      | cons t r =>
        rw [rt_more F (by omega)] at hy
        by_cases hk : m ≤ sp n
        · rw [tw_low w x t r h2 hk] at hl
          cases he : tw (sp n) m w x r with
          | none => rw [he] at hl; cases hl
          | some z =>
            rw [he] at hl
            obtain rfl : (z.1, nd z.2 t) = q := Option.some.inj hl
            rw [ct_low h2 hk he]
            cases hc : eqB z.2 (rt F (sp n)) 32 && eqB t (rt (fun i => F (sp n + i)) (n - sp n)) 32 with
            | true =>
              rw [if_pos rfl]
              rw [Bool.and_eq_true] at hc
              exact ih _ k1 m F w x r z h1 hk he hc.1 hx
            | false =>
              rw [if_neg (by decide)]
              exact ⟨_, _, _, _, rfl, hc, hy⟩
        · rw [tw_up w x t r h2 hk] at hl
          cases he : tw (n - sp n) (m - sp n) false x r with
          | none => rw [he] at hl; cases hl
          | some z =>
            rw [he] at hl
            obtain rfl : (nd t z.1, nd t z.2) = q := Option.some.inj hl
            rw [ct_up h2 hk he]
            cases hc : eqB t (rt F (sp n)) 32 && eqB z.2 (rt (fun i => F (sp n + i)) (n - sp n)) 32 with
            | true =>
              rw [if_pos rfl]
              rw [Bool.and_eq_true] at hc
              refine ih (n - sp n) (by omega) (m - sp n) (fun i => F (sp n + i)) false x r z (by omega) (by omega) he hc.2 ?_
              cases hb : eqB z.1 (rt (fun i => F (sp n + i)) (m - sp n)) 32 with
              | false => rfl
              | true =>
                have hs := sp_same (n := n) (m := m) (by omega) (by omega) hm
                have e : eqB (nd t z.1) (rt F m) 32 = true := by
                  rw [rt_more F (n := m) (by omega), hs, nd_congr (eqB_iff.1 hc.1) (eqB_iff.1 hb)]
                  exact eqB_refl _
                rw [e] at hx
                cases hx
            | false =>
              rw [if_neg (by decide)]
              exact ⟨_, _, _, _, rfl, hc, hy⟩
/-- Is a path right, though the hash isn't there? r: the last one first. -/
def dcv (n : Nat) (F : Nat → Nat → Nat) (m : Int) (f : Nat → Nat) (r : List (Nat → Nat)) : Bool := ckP m n f r (rt F n) && !(eqB f (F m.toNat) 32)
/-- Is a proof right, though the old root isn't that of the first ones? -/
def bty (n : Nat) (F : Nat → Nat → Nat) (m : Int) (f : Nat → Nat) (r : List (Nat → Nat)) : Bool := ckT m n f r (rt F n) && !(eqB f (rt F m.toNat) 32)
theorem dcv_not {n : Nat} {F : Nat → Nat → Nat} {m : Int} {f : Nat → Nat} {r : List (Nat → Nat)} (h : m < 0 ∨ (n : Int) ≤ m) : dcv n F m f r = false := by unfold dcv; rw [ckP_not h]; rfl
theorem bty_not {n : Nat} {F : Nat → Nat → Nat} {m : Int} {f : Nat → Nat} {r : List (Nat → Nat)} (h : m < 1 ∨ (n : Int) < m) : bty n F m f r = false := by unfold bty; rw [ckT_not h]; rfl
theorem dcv_cp {n : Nat} {F : Nat → Nat → Nat} {m : Nat} {f : Nat → Nat} {r : List (Nat → Nat)} (h : dcv n F (m : Int) f r = true) : m < n ∧ ∃ u v u' v', cp n m F f r = some (u, v, u', v') ∧ Cls u v u' v' := by
  have hm : m < n := by
    rcases Nat.lt_or_ge m n with h' | h'
    · exact h'
    · rw [dcv_not (Or.inr (by omega))] at h; cases h
  unfold dcv at h
  rw [Bool.and_eq_true, Int.toNat_natCast, Bool.not_eq_true', ckP_nat hm] at h
  refine ⟨hm, ?_⟩
  cases he : ld n m f r with
  | none => rw [he] at h; cases h.1
  | some y =>
    rw [he] at h
    exact cp_some n m F f r y hm he h.1 h.2
theorem bty_ct {n : Nat} {F : Nat → Nat → Nat} {m : Nat} {f : Nat → Nat} {r : List (Nat → Nat)} (h : bty n F (m : Int) f r = true) : 1 ≤ m ∧ m ≤ n ∧ ∃ u v u' v', ct n m F true f r = some (u, v, u', v') ∧ Cls u v u' v' := by
  have hm : 1 ≤ m ∧ m ≤ n := by
    rcases Nat.lt_or_ge m 1 with h' | h'
    · rw [bty_not (Or.inl (by omega))] at h; cases h
    · rcases Nat.lt_or_ge n m with h'' | h''
      · rw [bty_not (Or.inr (by omega))] at h; cases h
      · exact ⟨h', h''⟩
  unfold bty at h
  rw [Bool.and_eq_true, Int.toNat_natCast, Bool.not_eq_true', ckT_nat hm.1 hm.2] at h
  refine ⟨hm.1, hm.2, ?_⟩
  cases he : tw n m true f r with
  | none => rw [he] at h; cases h.1
  | some q =>
    rw [he] at h
    have h1 : (eqB q.1 f 32 && eqB q.2 (rt F n) 32) = true := h.1
    rw [Bool.and_eq_true] at h1
    refine ct_some n m F true f r q hm.1 hm.2 he h1.2 ?_
    rw [eqB_left h1.1]
    exact h.2
theorem ndT_l (f g : Nat → Nat) {j : Nat} (h : j < 32) : ndT f g (1 + j) = f j := by
  unfold ndT cat
  rw [if_neg (by omega), show 1 + j - 1 = j by omega, if_pos h]
theorem ndT_r (f g : Nat → Nat) (j : Nat) : ndT f g (33 + j) = g j := by
  unfold ndT cat
  rw [if_neg (by omega), if_neg (by omega)]
  congr 1
  omega
/-- Two pairs as texts: they differ, and have one hash. -/
theorem Cls.texts {u v u' v' : Nat → Nat} (h : Cls u v u' v') : decide (65 = 65 ∧ ∀ i, i < 65 → ndT u v i = ndT u' v' i) = false ∧ eqB (hByte (hashS (ndT u v) 65)) (hByte (hashS (ndT u' v') 65)) 32 = true := by
  refine ⟨decide_eq_false fun e => ?_, h.eq⟩
  have hn := h.ne
  have h1 : eqB u u' 32 = true := eqB_iff.2 fun j hj => by
    have := e.2 (1 + j) (by omega)
    rwa [ndT_l u v hj, ndT_l u' v' hj] at this
  have h2 : eqB v v' 32 = true := eqB_iff.2 fun j hj => by
    have := e.2 (33 + j) (by omega)
    rwa [ndT_r, ndT_r] at this
  rw [h1, h2] at hn
  cases hn
end Go.Proofs.YtpokecijongkpaaDoor
namespace Go.Proofs.YtpokecijongkpaaDoor
set_option maxRecDepth 100000
open Go.RowKit
attribute [local go_sem ↓] Go.wp_at_zero Go.wp_at_succ

end Go.Proofs.YtpokecijongkpaaDoor
namespace Go.Proofs.YtpokecijongkpaaDoor
set_option maxRecDepth 100000
open Go.RowKit
attribute [local go_sem ↓] Go.wp_at_zero Go.wp_at_succ

/-- A variable's cells. -/
structure RowC (W : World) (b : Nat) (cs : List Value) : Prop where
  lt : b < W.heap.size
  c : W.rangeAt b 0 cs
  z : ∀ j, j < cs.length → W.frozen? ⟨b, j, none⟩ = false
theorem RowC.made (w : World) (t : TypeId) (cs : List Value) : RowC (w.alloc (.cells cs.toArray t)) w.heap.size cs := by
  refine ⟨by simp, fun j v hv => ?_, fun j hj => frozen_of_row _ _ _ _ _ (heap_alloc_new w _)⟩
  rw [cell_of_row _ _ _ _ _ _ (heap_alloc_new w _), Nat.zero_add]
  simpa using hv
theorem RowC.keep {W W' : World} {b : Nat} {cs : List Value} (h : RowC W b cs) (hb : Below W.heap.size W W') : RowC W' b cs :=
  ⟨Nat.lt_of_lt_of_le h.lt hb.size, range_keep h.c hb, fun j hj => by rw [World.frozen?_of_block (hb.block b h.lt)]; exact h.z j hj⟩
theorem RowC.apart {W : World} {b g : Nat} {cs : List Value} (h : RowC W b cs) (hg : b ≠ g) (o : Nat) (vs : List Value) : RowC (W.setCells g o vs) b cs :=
  ⟨by rw [size_setCells]; exact h.lt, World.rangeAt_setCells_apart h.c g o vs (Or.inl hg), fun j hj => by rw [World.frozen?_setCells]; exact h.z j hj⟩
/-- Some cells are put anew. -/
def ov (cs : List Value) (o : Nat) (vs : List Value) : List Value := cs.take o ++ (vs ++ cs.drop (o + vs.length))
theorem range_app {W : World} {b o : Nat} {A B : List Value} (hA : W.rangeAt b o A) (hB : W.rangeAt b (o + A.length) B) : W.rangeAt b o (A ++ B) := fun j v hv => by
  rcases Nat.lt_or_ge j A.length with h | h
  · rw [List.getElem?_append_left h] at hv
    exact hA j v hv
  · rw [List.getElem?_append_right h] at hv
    have := hB (j - A.length) v hv
    rwa [show o + A.length + (j - A.length) = o + j by omega] at this
theorem range_take {W : World} {b : Nat} {A : List Value} (h : W.rangeAt b 0 A) (o : Nat) : W.rangeAt b 0 (A.take o) := fun j v hv => by
  rw [List.getElem?_take] at hv
  split at hv
  · exact h j v hv
  · cases hv
theorem range_drop {W : World} {b : Nat} {A : List Value} (h : W.rangeAt b 0 A) (o : Nat) : W.rangeAt b o (A.drop o) := fun j v hv => by
  rw [List.getElem?_drop] at hv
  have := h (o + j) v hv
  rwa [Nat.zero_add] at this
theorem RowC.there {W : World} {b : Nat} {cs : List Value} (h : RowC W b cs) (o n : Nat) (hn : o + n ≤ cs.length) : W.there b o n := fun j hj => by
  have h1 := h.c (o + j) _ (List.getElem?_eq_getElem (by omega))
  rw [Nat.zero_add] at h1
  exact ⟨by rw [h1]; rfl, h.z _ (by omega)⟩
theorem RowC.put {W : World} {b : Nat} {cs : List Value} (h : RowC W b cs) (o : Nat) (vs : List Value) (hn : o + vs.length ≤ cs.length) : RowC (W.setCells b o vs) b (ov cs o vs) := by
  refine ⟨by rw [size_setCells]; exact h.lt, ?_, fun j hj => ?_⟩
  · have ho : (cs.take o).length = o := by rw [List.length_take]; omega
    refine range_app (World.rangeAt_setCells_apart (range_take h.c o) b o vs (Or.inr (Or.inl (by rw [ho]; omega)))) (range_app ?_ ?_)
    · rw [ho, Nat.zero_add]
      exact World.rangeAt_setCells_same W b o vs (h.there o _ hn)
    · rw [ho, Nat.zero_add]
      exact World.rangeAt_setCells_apart (range_drop h.c _) b o vs (Or.inr (Or.inr (Nat.le_refl _)))
  · rw [World.frozen?_setCells]
    refine h.z j ?_
    have : (ov cs o vs).length = cs.length := by unfold ov; rw [List.length_append, List.length_append, List.length_take, List.length_drop]; omega
    omega
/-- Variables of one's own, made since w0, and their cells. -/
structure Vc (w0 W : World) (L : List (Nat × List Value)) : Prop where
  k : Below w0.heap.size w0 W
  at_ : ∀ p ∈ L, w0.heap.size ≤ p.1 ∧ RowC W p.1 p.2
  dn : (L.map Prod.fst).Nodup
theorem Vc.nil (w : World) : Vc w w [] := ⟨Below.refl _ _, (fun _ h => by cases h), List.nodup_nil⟩
theorem Vc.keep {w0 W W' : World} {L : List (Nat × List Value)} (h : Vc w0 W L) (hb : Below W.heap.size W W') : Vc w0 W' L :=
  ⟨Go.Proofs.YtpokecijongkpaaDoor.K.call h.k hb, (fun p hp => ⟨(h.at_ p hp).1, (h.at_ p hp).2.keep hb⟩), h.dn⟩
theorem Vc.made {w0 W : World} {L : List (Nat × List Value)} (h : Vc w0 W L) (t : TypeId) (cs : List Value) : Vc w0 (W.alloc (.cells cs.toArray t)) ((W.heap.size, cs) :: L) := by
  have hb : Below W.heap.size W (W.alloc (.cells cs.toArray t)) := Go.Proofs.YtpokecijongkpaaDoor.K.alloc (Below.refl _ _) _
  refine ⟨Go.Proofs.YtpokecijongkpaaDoor.K.alloc h.k _, fun p hp => ?_, ?_⟩
  · rcases List.mem_cons.1 hp with rfl | hp
    · exact ⟨h.k.size, RowC.made W t cs⟩
    · exact ⟨(h.at_ p hp).1, (h.at_ p hp).2.keep hb⟩
  · rw [List.map_cons]
    refine List.nodup_cons.2 ⟨fun hm => ?_, h.dn⟩
    obtain ⟨p, hp, e⟩ := List.mem_map.1 hm
    have hl := (h.at_ p hp).2.lt
    rw [e] at hl
    exact Nat.lt_irrefl _ hl
theorem Vc.put {w0 W : World} {L : List (Nat × List Value)} (h : Vc w0 W L) {i b : Nat} {cs : List Value} (hi : L[i]? = some (b, cs)) (o : Nat) (vs : List Value) (hn : o + vs.length ≤ cs.length) : Vc w0 (W.setCells b o vs) (L.set i (b, ov cs o vs)) := by
  have hm := h.at_ (b, cs) (List.mem_of_getElem? hi)
  have hil : i < L.length := (List.getElem?_eq_some_iff.1 hi).1
  have hb : (L.map Prod.fst)[i]? = some b := by rw [List.getElem?_map, hi]; rfl
  refine ⟨below_setCells _ _ h.k hm.1, fun p hp => ?_, ?_⟩
  · obtain ⟨j, hj⟩ := List.mem_iff_getElem?.1 hp
    rw [List.getElem?_set] at hj
    by_cases hij : i = j
    · rw [if_pos hij, if_pos hil] at hj
      cases hj
      exact ⟨hm.1, hm.2.put o vs hn⟩
    · rw [if_neg hij] at hj
      have hp2 := h.at_ p (List.mem_of_getElem? hj)
      refine ⟨hp2.1, hp2.2.apart (fun e => hij ?_) _ _⟩
      refine (List.getElem?_inj (l := L.map Prod.fst) (by rw [List.length_map]; exact hil) h.dn).1 ?_
      rw [hb, List.getElem?_map, hj, ← e]
      rfl
  · have e : (L.set i (b, ov cs o vs)).map Prod.fst = L.map Prod.fst := by
      refine List.ext_getElem? fun j => ?_
      rw [List.getElem?_map, List.getElem?_map, List.getElem?_set]
      by_cases hij : i = j
      · rw [if_pos hij, if_pos hil, ← hij, hi]
        rfl
      · rw [if_neg hij]
    rw [e]
    exact h.dn
theorem Vc.row {w0 W : World} {L : List (Nat × List Value)} (h : Vc w0 W L) (i : Nat) {b : Nat} {cs : List Value} (hi : L[i]? = some (b, cs)) : RowC W b cs := (h.at_ (b, cs) (List.mem_of_getElem? hi)).2
theorem Vc.of {w W : World} (h : Below w.heap.size w W) : Vc w W [] := ⟨h, (fun _ h => by cases h), List.nodup_nil⟩
section
variable {w0 W : World} {L : List (Nat × List Value)} {op : Oper} {a : Act} {Q : Exit → Act → World → Prop} {ops : Array Oper} {rest : List Oper}
theorem Vc.listPutH (hv : Vc w0 W L) (i o : Nat) {x y : Operand} {b : Nat} {cs : List Value} {g : Nat → Nat} (hgd : op.guard = none) (hop : op.op = Op.store 24 x y) (hx : a.eval x = .pointer (some ⟨b, o, none⟩)) (hy : a.eval y = .agg (ab g 32).toArray) (hi : L[i]? = some (b, cs)) (hn : o + (ab g 32).length ≤ cs.length) (h : ∀ W', Vc w0 W' (L.set i (b, ov cs o (ab g 32))) → wpList Tryd.prog ops Q rest (a.put op.dst undef) W') : wpList Tryd.prog ops Q (op :: rest) a W :=
  wpList_plain hgd fun _ hK => wp_store_mid 24 x y hop b o (ab g 32).toArray hx hy ((hv.row i hi).there o _ (by rw [List.size_toArray]; exact hn)) (inH _) (all_oneCell_toArray (ab_one _ _)) (hK _ _ (h _ (hv.put hi o (ab g 32) hn)))
end
end Go.Proofs.YtpokecijongkpaaDoor
namespace Go.Proofs.YtpokecijongkpaaDoor
set_option maxRecDepth 100000

end Go.Proofs.YtpokecijongkpaaDoor
