/- What the document's own Same answers, of all lists of bytes. Two lists of bytes held against each other by the document's own Same. Layer 20: what is said of hashes, in memory; what clash tells. Layer 20: up from a part, with the pairs on the way, and down the list's own tree (no function of the program is named). Layer 20: pairs of hashes in memory. Layer 20: slices.Grow of nothing, slices.Concat of three texts, and a pair's text and hash. -/
import Derived.Test.YtpokecijongkpaaDoorMB12
import Derived.Test.YtpokecijongkpaaDoorMB02
import Derived.Test.YtpokecijongkpaaDoorMB06
import Derived.Deep.LoopGhost
import Derived.Deep.DeepCutAuto
import Derived.Great.BuildSlice
import Derived.Laws.StructEq
import Derived.Lib.AppendZerosOnto
namespace Go.Proofs.YtpokecijongkpaaDoor
set_option maxRecDepth 100000
open Go.RowKit
attribute [local go_sem ↓] Go.wp_at_zero Go.wp_at_succ

set_option maxHeartbeats 1000000 in
theorem same_len (a1 a2 : Option Addr) (n1 n2 c1 c2 : Nat) (h : n1 ≠ n2) (w : World) :
    Calls Tryd.prog 23 #[.slice a1 n1 c1, .slice a2 n2 c2] w fun e w' => e = .returned (.bool false) ∧ w' = w := by
  have hb : ((n1 : Int) == (n2 : Int)) = false := beq_eq_false_iff_ne.2 (by omega)
  go_enter Tryd.func23, Tryd.ntmps23
  go_wp2_with fail
  go_ret
  exact ⟨rfl, rfl⟩
set_option maxHeartbeats 1000000 in
theorem same_none (a1 a2 : Option Addr) (c1 c2 : Nat) (w : World) :
    Calls Tryd.prog 23 #[.slice a1 0 c1, .slice a2 0 c2] w fun e w' => e = .returned (.bool true) ∧ w' = w := by
  go_enter Tryd.func23, Tryd.ntmps23
  go_wp2_with fail
  refine wp_loop_rounds 1 ?_
  rw [rounds_succ]
  go_wp2_with fail
  go_ret
  exact ⟨rfl, rfl⟩

set_option maxHeartbeats 2000000 in
theorem same_any {b o c b2 o2 c2 n : Nat} {f g : Nat → Int} (hn : n ≤ 1000000) {w : World} (h1 : Rd w b o n f) (h2 : Rd w b2 o2 n g) :
    Calls Tryd.prog 23 #[.slice (some ⟨b, o, none⟩) n c, .slice (some ⟨b2, o2, none⟩) n c2] w fun e w' => e = .returned (.bool (sameB f g n)) ∧ Below w.heap.size w w' := by
  have H1 : Hid (Rd w b o n f) := h1
  have H2 : Hid (Rd w b2 o2 n g) := h2
  clear h1 h2
  go_enter Tryd.func23, Tryd.ntmps23
  go_wp2_with fail
  go_loopg [5] n (fun gh s wr => ∃ k : Nat, gh = n - k ∧ k ≤ n ∧ s = .int .i64 k ∧ (∀ i, i < k → f i = g i) ∧ Below w.heap.size w wr)
  case atStart => exact ⟨0, rfl, by omega, rfl, fun i h => by omega, Below.refl _ _⟩
  case round =>
    obtain ⟨k, rfl, hk, rfl, hall, hB⟩ := hrel
    have HA : Hid (∀ i, i < k → f i = g i) := hall
    have HB : Hid (Below w.heap.size w wr) := hB
    by_cases hlt : k < n
    · have hc1 := (H1.out.keep hB).c k hlt
      have hc2 := (H2.out.keep hB).c k hlt
      clear hB hall
      by_cases he : f k = g k
      · have HS : Hid (∀ i, i < k + 1 → f i = g i) := fun i hi => by
          by_cases e : i = k
          · rw [e]; exact he
          · exact HA.out i (by omega)
        rw [← he] at hc2
        clear he
        go_upto_region 6 with fail
        go_quiet (fail)
        go_wp2_with fail
        go_roundg (n - (k + 1))
        case measure => omega
        case rel => exact ⟨k + 1, rfl, by omega, by go_num, HS.out, K.drewN HB.out _⟩
      · have hb : (f k == g k) = false := beq_eq_false_iff_ne.2 he
        have HS : Hid (sameB f g n = false) := same_no hlt he
        clear he
        go_upto_region 6 with fail
        go_quiet (fail)
        go_wp2_with fail
        go_ret
        exact ⟨ret_bool HS.out.symm, K.drewN HB.out _⟩
    · obtain rfl : k = n := by omega
      clear hall hB
      go_wp2_with fail
      go_ret
      exact ⟨ret_bool (same_yes HA.out).symm, HB.out⟩
end Go.Proofs.YtpokecijongkpaaDoor
namespace Go.Proofs.YtpokecijongkpaaDoor
set_option maxRecDepth 100000
open Go.RowKit

theorem same_ba {a a2 : Option Addr} {n n2 c c2 : Nat} {f g : Nat → Nat} {w : World} (h : BA w a n f) (h2 : BA w a2 n2 g) (hn : n ≤ 1000000) :
    Calls Tryd.prog 23 #[.slice a n c, .slice a2 n2 c2] w fun e w' => e = .returned (.bool (decide (n = n2 ∧ ∀ i, i < n → f i = g i))) ∧ Below w.heap.size w w' := by
  by_cases e : n = n2
  · subst e
    by_cases e0 : n = 0
    · subst e0
      refine (same_none a a2 c c2 w).mono ?_
      rintro e w1 ⟨rfl, rfl⟩
      exact ⟨ret_bool (decide_eq_true ⟨rfl, fun i hi => by omega⟩).symm, Below.refl _ _⟩
    · rcases h.at_ with h0 | ⟨b, o, rfl, hr⟩
      · omega
      rcases h2.at_ with h0 | ⟨b2, o2, rfl, hr2⟩
      · omega
      refine (same_any hn hr hr2).mono ?_
      rintro e w1 ⟨rfl, hb⟩
      refine ⟨ret_bool ?_, hb⟩
      unfold sameB
      rw [Bool.eq_iff_iff, decide_eq_true_eq, decide_eq_true_eq]
      exact ⟨fun hh => ⟨rfl, fun i hi => Int.ofNat_inj.1 (hh i hi)⟩, fun hh i hi => congrArg (fun (x : Nat) => (x : Int)) (hh.2 i hi)⟩
  · refine (same_len a a2 n n2 c c2 e w).mono ?_
    rintro e w1 ⟨rfl, rfl⟩
    exact ⟨ret_bool (decide_eq_false (fun hh => e hh.1)).symm, Below.refl _ _⟩
end Go.Proofs.YtpokecijongkpaaDoor
namespace Go.Proofs.YtpokecijongkpaaDoor
set_option maxRecDepth 100000
open Go.RowKit

/-- The cells of what is said. -/
def sd (x : Option Addr) (l c : Nat) (m : Int) (f : Nat → Nat) : List Value := .slice x l c :: .int .i64 m :: ab f 32
section
variable {W : World} {b : Nat} {m : Int} {f : Nat → Nat} {x : Option Addr} {l c : Nat}
theorem sd_l (h : W.rangeAt b 0 (sd x l c m f)) : W.cell? ⟨b, 0, none⟩ = some (.slice x l c) := h 0 _ rfl
theorem sd_m (h : W.rangeAt b 0 (sd x l c m f)) : W.cell? ⟨b, 1, none⟩ = some (.int .i64 m) := h 1 _ rfl
theorem sd_h (h : W.rangeAt b 0 (sd x l c m f)) : W.rangeAt b 2 (ab f 32) := fun j v hv => by
  have e : (sd x l c m f)[2 + j]? = (ab f 32)[j]? := by
    unfold sd
    rw [show 2 + j = j + 1 + 1 by omega, List.getElem?_cons_succ, List.getElem?_cons_succ]
  have := h (2 + j) v (by rw [e]; exact hv)
  rwa [Nat.zero_add] at this
end
/-- Two texts, none of which is long: none where there is no deceit, else two that differ and have one hash. -/
structure Txs (D : Bool) (n k : Nat) (A B : Nat → Nat) : Prop where
  n_ : n ≤ 1000
  k_ : k ≤ 1000
  no : D = false → n = 0 ∧ k = 0
  yes : D = true → decide (n = k ∧ ∀ i, i < n → A i = B i) = false ∧ eqB (hByte (hashS A n)) (hByte (hashS B k)) 32 = true
/-- What clash answers. -/
def ClP (w : World) (D : Bool) (e : Ending) (w' : World) : Prop := ∃ x n c y k d A B, e = .returned (.tuple #[.slice x n c, .slice y k d, .bool D]) ∧ BA w' x n A ∧ BA w' y k B ∧ Txs D n k A B ∧ Below w.heap.size w w'
theorem Txs.none {n k : Nat} {A B : Nat → Nat} (hn : n = 0) (hk : k = 0) : Txs false n k A B := ⟨by omega, by omega, (fun _ => ⟨hn, hk⟩), (fun e => by cases e)⟩
theorem Txs.two {u v u' v' : Nat → Nat} (h : Cls u v u' v') : Txs true 65 65 (ndT u v) (ndT u' v') := ⟨by omega, by omega, (fun e => by cases e), fun _ => h.texts⟩
end Go.Proofs.YtpokecijongkpaaDoor
namespace Go.Proofs.YtpokecijongkpaaDoor
set_option maxRecDepth 100000
open Go.RowKit

abbrev HP := (Nat → Nat) × (Nat → Nat)
/-- Up: the root, and the pairs on the way, the root's one first. -/
def rs (x : Nat → Nat) : List (Nat → Nat) → Nat → Nat → (Nat → Nat) × List HP
  | [], _, _ => (x, [])
  | t :: r, n, m => if m < sp n then (nd (rs x r (sp n) m).1 t, ((rs x r (sp n) m).1, t) :: (rs x r (sp n) m).2) else (nd t (rs x r (n - sp n) (m - sp n)).1, (t, (rs x r (n - sp n) (m - sp n)).1) :: (rs x r (n - sp n) (m - sp n)).2)
theorem rs_low (x t : Nat → Nat) (r : List (Nat → Nat)) {n m : Nat} (h : m < sp n) : rs x (t :: r) n m = (nd (rs x r (sp n) m).1 t, ((rs x r (sp n) m).1, t) :: (rs x r (sp n) m).2) := by rw [rs, if_pos h]
theorem rs_up (x t : Nat → Nat) (r : List (Nat → Nat)) {n m : Nat} (h : ¬ m < sp n) : rs x (t :: r) n m = (nd t (rs x r (n - sp n) (m - sp n)).1, (t, (rs x r (n - sp n) (m - sp n)).1) :: (rs x r (n - sp n) (m - sp n)).2) := by rw [rs, if_neg h]
theorem rs_len (x : Nat → Nat) : ∀ (r : List (Nat → Nat)) (n m : Nat), (rs x r n m).2.length = r.length
  | [], _, _ => rfl
  | t :: r, n, m => by
    by_cases h : m < sp n
    · rw [rs_low x t r h, List.length_cons, List.length_cons, rs_len x r]
    · rw [rs_up x t r h, List.length_cons, List.length_cons, rs_len x r]
/-- All are bytes. -/
def BtP (P : List HP) : Prop := ∀ q ∈ P, (∀ j, q.1 j < 256) ∧ ∀ j, q.2 j < 256
theorem rs_lt {x : Nat → Nat} (hx : ∀ j, x j < 256) : ∀ (r : List (Nat → Nat)) (n m : Nat), (∀ t ∈ r, ∀ j, t j < 256) → (∀ j, (rs x r n m).1 j < 256) ∧ BtP (rs x r n m).2
  | [], _, _, _ => ⟨hx, fun q hq => by cases hq⟩
  | t :: r, n, m, h => by
    have ht := h t (List.mem_cons_self ..)
    have hr : ∀ t ∈ r, ∀ j, t j < 256 := fun t' h' => h t' (List.mem_cons_of_mem _ h')
    by_cases hk : m < sp n
    · rw [rs_low x t r hk]
      obtain ⟨h1, h2⟩ := rs_lt hx r (sp n) m hr
      exact ⟨nd_lt _ _, fun q hq => by
        rcases List.mem_cons.1 hq with rfl | h'
        · exact ⟨h1, ht⟩
        · exact h2 q h'⟩
    · rw [rs_up x t r hk]
      obtain ⟨h1, h2⟩ := rs_lt hx r (n - sp n) (m - sp n) hr
      exact ⟨nd_lt _ _, fun q hq => by
        rcases List.mem_cons.1 hq with rfl | h'
        · exact ⟨ht, h1⟩
        · exact h2 q h'⟩
/-- Down the list's own tree: the first pair that isn't the list's, and the list's. -/
def dn : List HP → Nat → Nat → (Nat → Nat → Nat) → Option (HP × HP)
  | [], _, _, _ => none
  | p :: P, n, m, F =>
    if eqB (rt F (sp n)) p.1 32 && eqB (rt (fun i => F (sp n + i)) (n - sp n)) p.2 32 then (if m < sp n then dn P (sp n) m F else dn P (n - sp n) (m - sp n) (fun i => F (sp n + i)))
    else some (p, (rt F (sp n), rt (fun i => F (sp n + i)) (n - sp n)))
theorem dn_off {p : HP} {P : List HP} {n m : Nat} {F : Nat → Nat → Nat} (h : (eqB (rt F (sp n)) p.1 32 && eqB (rt (fun i => F (sp n + i)) (n - sp n)) p.2 32) = false) : dn (p :: P) n m F = some (p, (rt F (sp n), rt (fun i => F (sp n + i)) (n - sp n))) := by
  rw [dn, h, if_neg (by decide)]
theorem dn_low {p : HP} {P : List HP} {n m : Nat} {F : Nat → Nat → Nat} (h : (eqB (rt F (sp n)) p.1 32 && eqB (rt (fun i => F (sp n + i)) (n - sp n)) p.2 32) = true) (hk : m < sp n) : dn (p :: P) n m F = dn P (sp n) m F := by
  rw [dn, h, if_pos rfl, if_pos hk]
theorem dn_up {p : HP} {P : List HP} {n m : Nat} {F : Nat → Nat → Nat} (h : (eqB (rt F (sp n)) p.1 32 && eqB (rt (fun i => F (sp n + i)) (n - sp n)) p.2 32) = true) (hk : ¬ m < sp n) : dn (p :: P) n m F = dn P (n - sp n) (m - sp n) (fun i => F (sp n + i)) := by
  rw [dn, h, if_pos rfl, if_neg hk]
/-- What is found, as M20's words have it. -/
abbrev four (q : HP × HP) : (Nat → Nat) × (Nat → Nat) × (Nat → Nat) × (Nat → Nat) := (q.1.1, q.1.2, q.2.1, q.2.2)
/-- Where a proof's way ends it is the old root's own part, or the proof's first hash's. -/
def fst (w : Bool) (x : Nat → Nat) (r : List (Nat → Nat)) : (Nat → Nat) × List (Nat → Nat) :=
  if w then (x, r) else match r.reverse with | [] => (x, []) | y :: p => (y, p.reverse)
theorem fst_one (x y : Nat → Nat) : fst false x [y] = (y, []) := rfl
theorem fst_snoc (x y : Nat → Nat) (r : List (Nat → Nat)) : fst false x (r ++ [y]) = (y, r) := by
  unfold fst
  rw [if_neg (by decide), List.reverse_append, List.reverse_singleton, List.singleton_append]
  show (y, r.reverse.reverse) = _
  rw [List.reverse_reverse]
theorem fst_cons (w : Bool) (x t : Nat → Nat) (r : List (Nat → Nat)) (h : w = true ∨ r ≠ []) : fst w x (t :: r) = ((fst w x r).1, t :: (fst w x r).2) := by
  cases w with
  | true => rfl
  | false =>
    rcases List.eq_nil_or_concat r with rfl | ⟨p, y, rfl⟩
    · rcases h with h | h
      · cases h
      · exact absurd rfl h
    · rw [List.concat_eq_append, ← List.cons_append, fst_snoc, fst_snoc]
/-- Is a number a power of two? -/
def isP (m : Nat) : Prop := ∃ a, m = 2 ^ a
theorem isP_low {n m : Nat} (h : 2 ≤ n) (hp : isP m) (hm : m < n) : m ≤ sp n := by
  obtain ⟨a, rfl⟩ := hp
  have e := sp_pow h
  rw [e]
  have h1 : 2 ^ a ≤ n - 1 := by omega
  have h2 : n - 1 ≠ 0 := by omega
  have h3 : a ≤ (n - 1).log2 := (Nat.le_log2 h2).2 h1
  exact Nat.pow_le_pow_right (by decide) h3
theorem isP_sp {n : Nat} (h : 2 ≤ n) : isP (sp n) := ⟨_, sp_pow h⟩
/-- A proof that leads somewhere, by the way up: the old root itself ends it, if it is that of a part. -/
theorem tw_rsA : ∀ (r : List (Nat → Nat)) (n m : Nat) (x : Nat → Nat) (q : HP) (F : Nat → Nat → Nat), 1 ≤ m → m ≤ n → isP m → tw n m true x r = some q →
    (rs x r n (m - 1)).1 = q.2 ∧ ct n m F true x r = (dn (rs x r n (m - 1)).2 n (m - 1) F).map four
  | [], n, m, x, q, F, h1, hm, hp, h => by
    by_cases h2 : n ≤ m ∨ n < 2
    · rw [tw_end true x [] h2] at h
      obtain rfl : (x, x) = q := Option.some.inj h
      refine ⟨rfl, ?_⟩
      rw [ct.eq_def, dif_pos h2]
      rfl
    · rw [tw_nil true x h2] at h
      cases h
  | t :: r, n, m, x, q, F, h1, hm, hp, h => by
    by_cases h2 : n ≤ m ∨ n < 2
    · rw [tw_end true x _ h2] at h
      cases h
    · have k1 := sp_lt (n := n) (by omega)
      have k0 := sp_pos (n := n) (by omega)
      have hk : m ≤ sp n := isP_low (by omega) hp (by omega)
      have hk' : m - 1 < sp n := by omega
      rw [tw_low true x t r h2 hk] at h
      cases he : tw (sp n) m true x r with
      | none => rw [he] at h; cases h
      | some z =>
        rw [he] at h
        obtain rfl : (z.1, nd z.2 t) = q := Option.some.inj h
        obtain ⟨e1, e2⟩ := tw_rsA r (sp n) m x z F h1 hk hp he
        rw [rs_low x t r hk', e1, ct_low h2 hk he]
        refine ⟨rfl, ?_⟩
        rw [eqB_comm z.2, eqB_comm t]
        cases hc : eqB (rt F (sp n)) z.2 32 && eqB (rt (fun i => F (sp n + i)) (n - sp n)) t 32 with
        | true => rw [if_pos rfl, dn_low (p := (z.2, t)) hc hk', e2]
        | false => rw [if_neg (by decide), dn_off (p := (z.2, t)) hc]; rfl
theorem tw_ne {n m : Nat} {x : Nat → Nat} {q : HP} : ∀ {r : List (Nat → Nat)}, tw n m false x r = some q → r ≠ []
  | _ :: _, _ => by intro h; cases h
  | [], h => by
    by_cases h2 : n ≤ m ∨ n < 2
    · rw [tw_end false x [] h2] at h
      cases h
    · rw [tw_nil false x h2] at h
      cases h
/-- .. its first hash ends it, else. -/
theorem tw_rsB : ∀ (r : List (Nat → Nat)) (n m : Nat) (x : Nat → Nat) (q : HP) (F : Nat → Nat → Nat), 1 ≤ m → m ≤ n → tw n m false x r = some q →
    (rs (fst false x r).1 (fst false x r).2 n (m - 1)).1 = q.2 ∧ ct n m F false x r = (dn (rs (fst false x r).1 (fst false x r).2 n (m - 1)).2 n (m - 1) F).map four
  | [], n, m, x, q, F, h1, hm, h => absurd rfl (tw_ne h)
  | t :: r, n, m, x, q, F, h1, hm, h => by
    by_cases h2 : n ≤ m ∨ n < 2
    · rw [tw_end false x _ h2] at h
      cases r with
      | nil =>
        obtain rfl : (t, t) = q := Option.some.inj h
        rw [fst_one]
        refine ⟨rfl, ?_⟩
        rw [ct.eq_def, dif_pos h2]
        rfl
      | cons t2 r => cases h
    · have k1 := sp_lt (n := n) (by omega)
      have k0 := sp_pos (n := n) (by omega)
      by_cases hk : m ≤ sp n
      · have hk' : m - 1 < sp n := by omega
        rw [tw_low false x t r h2 hk] at h
        cases he : tw (sp n) m false x r with
        | none => rw [he] at h; cases h
        | some z =>
          rw [he] at h
          obtain rfl : (z.1, nd z.2 t) = q := Option.some.inj h
          obtain ⟨e1, e2⟩ := tw_rsB r (sp n) m x z F h1 hk he
          rw [fst_cons false x t r (Or.inr (tw_ne he)), rs_low _ t _ hk', e1, ct_low h2 hk he]
          refine ⟨rfl, ?_⟩
          rw [eqB_comm z.2, eqB_comm t]
          cases hc : eqB (rt F (sp n)) z.2 32 && eqB (rt (fun i => F (sp n + i)) (n - sp n)) t 32 with
          | true => rw [if_pos rfl, dn_low (p := (z.2, t)) hc hk', e2]
          | false => rw [if_neg (by decide), dn_off (p := (z.2, t)) hc]; rfl
      · have hk' : ¬ m - 1 < sp n := by omega
        rw [tw_up false x t r h2 hk] at h
        cases he : tw (n - sp n) (m - sp n) false x r with
        | none => rw [he] at h; cases h
        | some z =>
          rw [he] at h
          obtain rfl : (nd t z.1, nd t z.2) = q := Option.some.inj h
          obtain ⟨e1, e2⟩ := tw_rsB r (n - sp n) (m - sp n) x z (fun i => F (sp n + i)) (by omega) (by omega) he
          rw [show m - sp n - 1 = m - 1 - sp n by omega] at e1 e2
          rw [fst_cons false x t r (Or.inr (tw_ne he)), rs_up _ t _ hk', e1, ct_up h2 hk he]
          refine ⟨rfl, ?_⟩
          rw [eqB_comm z.2, eqB_comm t]
          cases hc : eqB (rt F (sp n)) t 32 && eqB (rt (fun i => F (sp n + i)) (n - sp n)) z.2 32 with
          | true => rw [if_pos rfl, dn_up (p := (t, z.2)) hc hk', e2]
          | false => rw [if_neg (by decide), dn_off (p := (t, z.2)) hc]; rfl
theorem tw_rsC : ∀ (r : List (Nat → Nat)) (n m : Nat) (x : Nat → Nat) (q : HP) (F : Nat → Nat → Nat), 1 ≤ m → m < n → ¬ isP m → tw n m true x r = some q →
    r ≠ [] ∧ (rs (fst false x r).1 (fst false x r).2 n (m - 1)).1 = q.2 ∧ ct n m F true x r = (dn (rs (fst false x r).1 (fst false x r).2 n (m - 1)).2 n (m - 1) F).map four
  | [], n, m, x, q, F, h1, hm, hp, h => by
    rw [tw_nil true x (by omega)] at h
    cases h
  | t :: r, n, m, x, q, F, h1, hm, hp, h => by
    have h2 : ¬ (n ≤ m ∨ n < 2) := by omega
    have k1 := sp_lt (n := n) (by omega)
    have k0 := sp_pos (n := n) (by omega)
    refine ⟨(by intro e; cases e), ?_⟩
    by_cases hk : m ≤ sp n
    · have hk' : m - 1 < sp n := by omega
      have hlt : m < sp n := by
        rcases Nat.lt_or_ge m (sp n) with h' | h'
        · exact h'
        · have e : m = sp n := by omega
          exact absurd (e ▸ isP_sp (n := n) (by omega)) hp
      rw [tw_low true x t r h2 hk] at h
      cases he : tw (sp n) m true x r with
      | none => rw [he] at h; cases h
      | some z =>
        rw [he] at h
        obtain rfl : (z.1, nd z.2 t) = q := Option.some.inj h
        obtain ⟨hne, e1, e2⟩ := tw_rsC r (sp n) m x z F h1 hlt hp he
        rw [fst_cons false x t r (Or.inr hne), rs_low _ t _ hk', e1, ct_low h2 hk he]
        refine ⟨rfl, ?_⟩
        rw [eqB_comm z.2, eqB_comm t]
        cases hc : eqB (rt F (sp n)) z.2 32 && eqB (rt (fun i => F (sp n + i)) (n - sp n)) t 32 with
        | true => rw [if_pos rfl, dn_low (p := (z.2, t)) hc hk', e2]
        | false => rw [if_neg (by decide), dn_off (p := (z.2, t)) hc]; rfl
    · have hk' : ¬ m - 1 < sp n := by omega
      rw [tw_up true x t r h2 hk] at h
      cases he : tw (n - sp n) (m - sp n) false x r with
      | none => rw [he] at h; cases h
      | some z =>
        rw [he] at h
        obtain rfl : (nd t z.1, nd t z.2) = q := Option.some.inj h
        obtain ⟨e1, e2⟩ := tw_rsB r (n - sp n) (m - sp n) x z (fun i => F (sp n + i)) (by omega) (by omega) he
        rw [show m - sp n - 1 = m - 1 - sp n by omega] at e1 e2
        rw [fst_cons false x t r (Or.inr (tw_ne he)), rs_up _ t _ hk', e1, ct_up h2 hk he]
        refine ⟨rfl, ?_⟩
        rw [eqB_comm z.2, eqB_comm t]
        cases hc : eqB (rt F (sp n)) t 32 && eqB (rt (fun i => F (sp n + i)) (n - sp n)) z.2 32 with
        | true => rw [if_pos rfl, dn_up (p := (t, z.2)) hc hk', e2]
        | false => rw [if_neg (by decide), dn_off (p := (t, z.2)) hc]; rfl
/-- So many levels down there are still two hashes or more. -/
def dpt : Nat → Nat → Nat → Prop
  | 0, _, _ => True
  | k + 1, n, m => 2 ≤ n ∧ (if m < sp n then dpt k (sp n) m else dpt k (n - sp n) (m - sp n))
theorem dpt_low {k n m : Nat} (h : 2 ≤ n) (hm : m < sp n) (hd : dpt k (sp n) m) : dpt (k + 1) n m := ⟨h, by rw [if_pos hm]; exact hd⟩
theorem dpt_up {k n m : Nat} (h : 2 ≤ n) (hm : ¬ m < sp n) (hd : dpt k (n - sp n) (m - sp n)) : dpt (k + 1) n m := ⟨h, by rw [if_neg hm]; exact hd⟩
theorem tw_dptA : ∀ (r : List (Nat → Nat)) (n m : Nat) (x : Nat → Nat) (q : HP), 1 ≤ m → m ≤ n → isP m → tw n m true x r = some q → dpt r.length n (m - 1)
  | [], _, _, _, _, _, _, _, _ => trivial
  | t :: r, n, m, x, q, h1, hm, hp, h => by
    by_cases h2 : n ≤ m ∨ n < 2
    · rw [tw_end true x _ h2] at h
      cases h
    · have k1 := sp_lt (n := n) (by omega)
      have k0 := sp_pos (n := n) (by omega)
      have hk : m ≤ sp n := isP_low (by omega) hp (by omega)
      rw [tw_low true x t r h2 hk] at h
      cases he : tw (sp n) m true x r with
      | none => rw [he] at h; cases h
      | some z => exact dpt_low (by omega) (by omega) (tw_dptA r (sp n) m x z h1 hk hp he)
theorem tw_dptB : ∀ (r : List (Nat → Nat)) (n m : Nat) (x : Nat → Nat) (q : HP), 1 ≤ m → m ≤ n → tw n m false x r = some q → dpt (r.length - 1) n (m - 1)
  | [], _, _, _, _, _, _, _ => trivial
  | t :: r, n, m, x, q, h1, hm, h => by
    by_cases h2 : n ≤ m ∨ n < 2
    · rw [tw_end false x _ h2] at h
      cases r with
      | nil => exact trivial
      | cons t2 r => cases h
    · have k1 := sp_lt (n := n) (by omega)
      have k0 := sp_pos (n := n) (by omega)
      by_cases hk : m ≤ sp n
      · rw [tw_low false x t r h2 hk] at h
        cases he : tw (sp n) m false x r with
        | none => rw [he] at h; cases h
        | some z =>
          have hn : 0 < r.length := List.length_pos_iff.2 (tw_ne he)
          rw [show (t :: r).length - 1 = (r.length - 1) + 1 by rw [List.length_cons]; omega]
          exact dpt_low (by omega) (by omega) (tw_dptB r (sp n) m x z h1 hk he)
      · rw [tw_up false x t r h2 hk] at h
        cases he : tw (n - sp n) (m - sp n) false x r with
        | none => rw [he] at h; cases h
        | some z =>
          have hn : 0 < r.length := List.length_pos_iff.2 (tw_ne he)
          rw [show (t :: r).length - 1 = (r.length - 1) + 1 by rw [List.length_cons]; omega]
          refine dpt_up (by omega) (by omega) ?_
          rw [show m - 1 - sp n = m - sp n - 1 by omega]
          exact tw_dptB r (n - sp n) (m - sp n) x z (by omega) (by omega) he
theorem tw_dptC : ∀ (r : List (Nat → Nat)) (n m : Nat) (x : Nat → Nat) (q : HP), 1 ≤ m → m < n → ¬ isP m → tw n m true x r = some q → r ≠ [] ∧ dpt (r.length - 1) n (m - 1)
  | [], n, m, x, q, h1, hm, hp, h => by
    rw [tw_nil true x (by omega)] at h
    cases h
  | t :: r, n, m, x, q, h1, hm, hp, h => by
    have h2 : ¬ (n ≤ m ∨ n < 2) := by omega
    have k1 := sp_lt (n := n) (by omega)
    have k0 := sp_pos (n := n) (by omega)
    refine ⟨(by intro e; cases e), ?_⟩
    by_cases hk : m ≤ sp n
    · have hlt : m < sp n := by
        rcases Nat.lt_or_ge m (sp n) with h' | h'
        · exact h'
        · have e : m = sp n := by omega
          exact absurd (e ▸ isP_sp (n := n) (by omega)) hp
      rw [tw_low true x t r h2 hk] at h
      cases he : tw (sp n) m true x r with
      | none => rw [he] at h; cases h
      | some z =>
        obtain ⟨hne, hd⟩ := tw_dptC r (sp n) m x z h1 hlt hp he
        have hn : 0 < r.length := List.length_pos_iff.2 hne
        rw [show (t :: r).length - 1 = (r.length - 1) + 1 by rw [List.length_cons]; omega]
        exact dpt_low (by omega) (by omega) hd
    · rw [tw_up true x t r h2 hk] at h
      cases he : tw (n - sp n) (m - sp n) false x r with
      | none => rw [he] at h; cases h
      | some z =>
        have hn : 0 < r.length := List.length_pos_iff.2 (tw_ne he)
        rw [show (t :: r).length - 1 = (r.length - 1) + 1 by rw [List.length_cons]; omega]
        refine dpt_up (by omega) (by omega) ?_
        rw [show m - 1 - sp n = m - sp n - 1 by omega]
        exact tw_dptB r (n - sp n) (m - sp n) x z (by omega) (by omega) he
/-- One step down, by a pair that came. -/
def dstep (s : (Nat × Nat × (Nat → Nat → Nat)) ⊕ (HP × HP)) (p : HP) : (Nat × Nat × (Nat → Nat → Nat)) ⊕ (HP × HP) :=
  match s with
  | .inr r => .inr r
  | .inl (n, m, F) =>
    if eqB (rt F (sp n)) p.1 32 && eqB (rt (fun i => F (sp n + i)) (n - sp n)) p.2 32 then (if m < sp n then .inl (sp n, m, F) else .inl (n - sp n, m - sp n, fun i => F (sp n + i)))
    else .inr (p, (rt F (sp n), rt (fun i => F (sp n + i)) (n - sp n)))
theorem dstep_inr (r : HP × HP) : ∀ (P : List HP), P.foldl dstep (.inr r) = .inr r
  | [] => rfl
  | p :: P => by
    rw [List.foldl_cons]
    exact dstep_inr r P
theorem dstep_off {p : HP} {n m : Nat} {F : Nat → Nat → Nat} (h : (eqB (rt F (sp n)) p.1 32 && eqB (rt (fun i => F (sp n + i)) (n - sp n)) p.2 32) = false) : dstep (.inl (n, m, F)) p = .inr (p, (rt F (sp n), rt (fun i => F (sp n + i)) (n - sp n))) := by
  show (if _ then _ else _) = _
  rw [h, if_neg (by decide)]
theorem dstep_low {p : HP} {n m : Nat} {F : Nat → Nat → Nat} (h : (eqB (rt F (sp n)) p.1 32 && eqB (rt (fun i => F (sp n + i)) (n - sp n)) p.2 32) = true) (hk : m < sp n) : dstep (.inl (n, m, F)) p = .inl (sp n, m, F) := by
  show (if _ then _ else _) = _
  rw [h, if_pos rfl, if_pos hk]
theorem dstep_up {p : HP} {n m : Nat} {F : Nat → Nat → Nat} (h : (eqB (rt F (sp n)) p.1 32 && eqB (rt (fun i => F (sp n + i)) (n - sp n)) p.2 32) = true) (hk : ¬ m < sp n) : dstep (.inl (n, m, F)) p = .inl (n - sp n, m - sp n, fun i => F (sp n + i)) := by
  show (if _ then _ else _) = _
  rw [h, if_pos rfl, if_neg hk]
/-- What was found, if anything. -/
def fnd (s : (Nat × Nat × (Nat → Nat → Nat)) ⊕ (HP × HP)) : Option (HP × HP) := match s with | .inl _ => none | .inr r => some r
theorem dn_fold : ∀ (P : List HP) (n m : Nat) (F : Nat → Nat → Nat), dn P n m F = fnd (P.foldl dstep (.inl (n, m, F)))
  | [], _, _, _ => rfl
  | p :: P, n, m, F => by
    rw [List.foldl_cons]
    cases hc : eqB (rt F (sp n)) p.1 32 && eqB (rt (fun i => F (sp n + i)) (n - sp n)) p.2 32 with
    | false =>
      rw [dn_off hc, dstep_off hc, dstep_inr]
      rfl
    | true =>
      by_cases hk : m < sp n
      · rw [dn_low hc hk, dstep_low hc hk]
        exact dn_fold P (sp n) m F
      · rw [dn_up hc hk, dstep_up hc hk]
        exact dn_fold P (n - sp n) (m - sp n) (fun i => F (sp n + i))
theorem fold_pre {P Q : List HP} {s : (Nat × Nat × (Nat → Nat → Nat)) ⊕ (HP × HP)} {r : HP × HP} (h : P.foldl dstep s = .inr r) : (P ++ Q).foldl dstep s = .inr r := by
  rw [List.foldl_append, h, dstep_inr]
end Go.Proofs.YtpokecijongkpaaDoor
namespace Go.Proofs.YtpokecijongkpaaDoor
set_option maxRecDepth 100000
open Go.RowKit
attribute [local go_sem ↓] Go.wp_at_zero Go.wp_at_succ

/-- A pair's cells. -/
def pq (q : HP) : List Value := ab q.1 32 ++ ab q.2 32
theorem pq_len (q : HP) : (pq q).length = 64 := by unfold pq; rw [List.length_append, ab_len, ab_len]
theorem pq_one (q : HP) : ∀ v ∈ pq q, v.oneCell' = true := by
  intro v hv
  unfold pq at hv
  rcases List.mem_append.1 hv with h | h
  · exact ab_one _ _ v h
  · exact ab_one _ _ v h
abbrev pval (q : HP) : Value := .agg (pq q).toArray
def z20 : HP := (fun _ => 0, fun _ => 0)
theorem infoQ : (Tryd.prog.info? 78).map (fun i => (i.zero, i.size, i.bytes)) = some (some (pval z20), 64, 64) := by kernel_rfl
theorem sizeQ : (Tryd.prog.info? 78).map (·.size) = some 64 := by kernel_rfl
theorem inQ (q : HP) : (Tryd.prog.info? 78).map (·.size) = some (pq q).toArray.size := by rw [List.size_toArray, pq_len]; exact sizeQ
theorem ilQ (q : HP) : (Tryd.prog.info? 78).map (·.size) = some (pq q).length := by rw [pq_len]; exact sizeQ
theorem pq_at1 (q : HP) {j : Nat} (h : j < 32) : (pq q)[j]? = (ab q.1 32)[j]? := by
  unfold pq
  rw [List.getElem?_append_left (by rw [ab_len]; exact h)]
theorem pq_at2 (q : HP) (j : Nat) : (pq q)[32 + j]? = (ab q.2 32)[j]? := by
  unfold pq
  rw [List.getElem?_append_right (by rw [ab_len]; omega), ab_len, Nat.add_sub_cancel_left]
theorem ab_lt {f : Nat → Nat} {j : Nat} {v : Value} (h : (ab f 32)[j]? = some v) : j < 32 := by
  rcases Nat.lt_or_ge j 32 with h' | h'
  · exact h'
  · rw [List.getElem?_eq_none (by rw [ab_len]; exact h')] at h; cases h
theorem pq_left {w : World} {b o : Nat} {q : HP} (h : w.rangeAt b o (pq q)) : w.rangeAt b o (ab q.1 32) := fun j v hv => h j v (by rw [pq_at1 q (ab_lt hv)]; exact hv)
theorem pq_right {w : World} {b o : Nat} {q : HP} (h : w.rangeAt b o (pq q)) : w.rangeAt b (o + 32) (ab q.2 32) := fun j v hv => by
  have := h (32 + j) v (by rw [pq_at2]; exact hv)
  rwa [← Nat.add_assoc] at this
set_option maxRecDepth 100000 in
theorem builtQ (f g : Nat → Nat) : Tryd.prog.built 78 [(0, .agg (ab f 32).toArray), (1, .agg (ab g 32).toArray)] = some (pq (f, g)).toArray := by kernel_rfl
set_option maxRecDepth 100000 in
theorem fillQ (q : HP) (z : Value) (hz : z = pval z20) : Instr.fill (fun i => some (i * 64, 64)) ((Array.range (1 * 64)).map (z.cells[· % z.cells.size]!)) [(0, pval q)] = some (pq q).toArray := by
  subst hz
  kernel_rfl
section
variable {w : World} {ops : Array Oper} {rest : List Oper} {o : Oper} {a : Act} {Q : Exit → Act → World → Prop} {Kt : Act → World → Prop}
theorem yieldsIf_build_q {S : World → Prop} (hw : Region.wanted o (yielded ops a.tmps) = true) (x y : Operand) (hop : o.op = Op.build 78 #[(0, x), (1, y)]) {f g : Nat → Nat} (hx : a.eval x = .agg (ab f 32).toArray) (hy : a.eval y = .agg (ab g 32).toArray) : YieldsIf Tryd.prog ops S o (pval (f, g)) a :=
  .inl ⟨hw, fun w _ => by
    have hb : Tryd.prog.built 78 ((#[(0, x), (1, y)] : Array (Nat × Operand)).map fun (i, x) => (i, a.eval x)).toList = some (pq (f, g)).toArray := by
      simp only [List.map_toArray, List.map_cons, List.map_nil, hx, hy]
      exact builtQ f g
    unfold execOp
    simp only [hop, Sem.run_bind, run_build w 78 _ _ hb, Result.andThen_ok]
    rfl⟩
theorem run_alloc_q (hop : o.op = Op.alloc 78) : (execOp a.eval o).run Tryd.prog w = .ok (.value (.pointer (some ⟨w.heap.size, 0, none⟩))) (w.alloc (.cells (pq z20).toArray 78)) := by
  unfold execOp
  simp [hop, Instr.alloc, newVar, newRow, Result.andThen, Value.cells]
  rfl
theorem wpList_load_q (hgd : o.guard = none) (x : Operand) (hop : o.op = Op.load 78 x) {g off : Nat} {q : HP} (hx : a.eval x = .pointer (some ⟨g, off, none⟩)) (ht : w.rangeAt g off (pq q)) (hK : wpList Tryd.prog ops Q rest (a.put o.dst (pval q)) w) : wpList Tryd.prog ops Q (o :: rest) a w :=
  wpList_load_mid hgd 78 x hop g off hx (pq q) _ ht Tryd.underlying78 rfl (ilQ q) hK
theorem Vc.wpPutH {w0 W : World} {L : List (Nat × List Value)} (hv : Vc w0 W L) (i : Nat) {x y : Operand} {b : Nat} {f g : Nat → Nat} (hop : o.op = Op.store 24 x y) (hx : a.eval x = .pointer (some ⟨b, 0, none⟩)) (hy : a.eval y = .agg (ab g 32).toArray) (hi : L[i]? = some (b, ab f 32)) (h : ∀ W', W' = W.setCells b 0 (ab g 32) → Vc w0 W' (L.set i (b, ab g 32)) → Kt (a.put o.dst undef) W') : Oper.wp Tryd.prog o a W Kt Q := by
  have hl : 0 + (ab g 32).length ≤ (ab f 32).length := by rw [ab_len, ab_len]; omega
  have hp := hv.put hi 0 (ab g 32) hl
  have e : ov (ab f 32) 0 (ab g 32) = ab g 32 := by
    unfold ov
    rw [List.take_zero, List.nil_append, List.drop_eq_nil_of_le (by rw [ab_len, ab_len]; omega), List.append_nil]
  rw [e] at hp
  exact wp_store_mid 24 x y hop b 0 (ab g 32).toArray hx hy ((hv.row i hi).there 0 _ (by rw [List.size_toArray]; exact hl)) (inH _) (all_oneCell_toArray (ab_one _ _)) (h _ rfl hp)
theorem Vc.wpPutQ {w0 W : World} {L : List (Nat × List Value)} (hv : Vc w0 W L) (i : Nat) {x y : Operand} {b : Nat} {p q : HP} (hop : o.op = Op.store 78 x y) (hx : a.eval x = .pointer (some ⟨b, 0, none⟩)) (hy : a.eval y = pval q) (hi : L[i]? = some (b, pq p)) (h : ∀ W', W' = W.setCells b 0 (pq q) → Vc w0 W' (L.set i (b, pq q)) → Kt (a.put o.dst undef) W') : Oper.wp Tryd.prog o a W Kt Q := by
  have hl : 0 + (pq q).length ≤ (pq p).length := by rw [pq_len, pq_len]; omega
  have hp := hv.put hi 0 (pq q) hl
  have e : ov (pq p) 0 (pq q) = pq q := by
    unfold ov
    rw [List.take_zero, List.nil_append, List.drop_eq_nil_of_le (by rw [pq_len, pq_len]; omega), List.append_nil]
  rw [e] at hp
  exact wp_store_mid 78 x y hop b 0 (pq q).toArray hx hy ((hv.row i hi).there 0 _ (by rw [List.size_toArray]; exact hl)) (inQ _) (all_oneCell_toArray (pq_one _)) (h _ rfl hp)
theorem Vc.listNewQ {w0 W : World} {L : List (Nat × List Value)} (hv : Vc w0 W L) (hgd : o.guard = none) (hop : o.op = Op.alloc 78) (h : ∀ y W', y = W.heap.size → Vc w0 W' ((y, pq z20) :: L) → Below W.heap.size W W' → wpList Tryd.prog ops Q rest (a.put o.dst (.pointer (some ⟨y, 0, none⟩))) W') : wpList Tryd.prog ops Q (o :: rest) a W :=
  wpList_plain hgd fun _ hK => by
    unfold Oper.wp
    rw [run_alloc_q hop]
    exact hK _ _ (h _ _ rfl (hv.made 78 _) (Go.Proofs.YtpokecijongkpaaDoor.K.alloc (Below.refl _ _) _))
end
/-- Two pairs are compared. -/
theorem itemsK (d : Nat) (f g : Nat → Nat) (w : World) : ∀ (js : List Nat), (∀ j ∈ js, j < 32) →
    (Op.eqItems (d + 1) 5 1 (ab f 32).toArray (ab g 32).toArray js).run Tryd.prog w = .ok (decide (∀ j ∈ js, f j = g j)) w
  | [], _ => rfl
  | j :: js, h => by
    have he : Tryd.prog.plainKey 5 = true := by kernel_rfl
    have hj := h j (by simp)
    have hx : (ab f 32).toArray[j]? = some (.int .u8 ((f j : Nat) : Int)) := by have := ab_at f hj; simpa using this
    have hy : (ab g 32).toArray[j]? = some (.int .u8 ((g j : Nat) : Int)) := by have := ab_at g hj; simpa using this
    have ih := itemsK d f g w js (fun k hk => h k (by simp [hk]))
    simp only [Op.eqItems, Sem.run_bind, Nat.mul_one, run_part_plain w he hx, run_part_plain w he hy, Result.andThen_ok, run_equalIn_int w d 5 .u8 .u8 _ _ Tryd.underlying5]
    by_cases e : f j = g j
    · have hb : (((f j : Nat) : Int) == ((g j : Nat) : Int)) = true := by rw [e]; simp
      rw [hb]
      simp only [Bool.not_true, Bool.false_eq_true, if_false, ih]
      congr 1
      rw [Bool.eq_iff_iff, decide_eq_true_eq, decide_eq_true_eq]
      simp [e]
    · have hb : (((f j : Nat) : Int) == ((g j : Nat) : Int)) = false := beq_eq_false_iff_ne.2 (by omega)
      rw [hb]
      simp [e]
theorem eqK (d : Nat) (f g : Nat → Nat) (w : World) : (Op.equalIn (d + 2) 24 (.agg (ab f 32).toArray) (.agg (ab g 32).toArray)).run Tryd.prog w = .ok (eqB f g 32) w := by
  obtain ⟨i, hi⟩ := Option.isSome_iff_exists.1 (show (Tryd.prog.info? 5).isSome = true by kernel_rfl)
  rw [run_equalIn_array w (d + 1) _ _ Tryd.underlying24 hi, show Tryd.prog.cellsOf 5 = 1 by kernel_rfl, itemsK d f g w _ (fun j hj => List.mem_range.1 hj)]
  congr 1
  unfold eqB
  rw [Bool.eq_iff_iff, decide_eq_true_eq, decide_eq_true_eq]
  simp
theorem part1 (q : HP) (w : World) : (part 24 (pq q).toArray 0).run Tryd.prog w = .ok (.agg (ab q.1 32).toArray) w := by
  have e : (pq q).toArray.extract 0 (0 + 32) = (ab q.1 32).toArray := by
    rw [List.extract_toArray]
    congr 1
  have h : (part 24 (pq q).toArray 0).run Tryd.prog w = .ok (.agg ((pq q).toArray.extract 0 (0 + 32))) w := by kernel_rfl
  rw [e] at h
  exact h
theorem part2 (q : HP) (w : World) : (part 24 (pq q).toArray 32).run Tryd.prog w = .ok (.agg (ab q.2 32).toArray) w := by
  have e : (pq q).toArray.extract 32 (32 + 32) = (ab q.2 32).toArray := by
    rw [List.extract_toArray]
    congr 1
  have h : (part 24 (pq q).toArray 32).run Tryd.prog w = .ok (.agg ((pq q).toArray.extract 32 (32 + 32))) w := by kernel_rfl
  rw [e] at h
  exact h
theorem fieldsQ : ∃ f g : Field, (Tryd.prog.fieldsOf 78).toList = [f, g] ∧ (f.name == "_") = false ∧ (g.name == "_") = false ∧ f.type = 24 ∧ g.type = 24 ∧ f.offset = 0 ∧ g.offset = 32 := by
  refine ⟨((Tryd.prog.fieldsOf 78)[0]?).getD default, ((Tryd.prog.fieldsOf 78)[1]?).getD default, ?_, ?_, ?_, ?_, ?_, ?_, ?_⟩ <;> kernel_rfl
theorem eqQ (q p : HP) (w : World) : (Op.equalIn 10000 78 (pval q) (pval p)).run Tryd.prog w = .ok (eqB q.1 p.1 32 && eqB q.2 p.2 32) w := by
  obtain ⟨f, g, hl, hf, hg, tf, tg, of', og⟩ := fieldsQ
  rw [run_equalIn_struct w 9999 78 _ _ (by kernel_rfl) (by kernel_rfl), hl]
  unfold Op.eqFields Op.eqFields Op.eqFields
  rw [if_pos (fun e => by rw [e] at hf; cases hf), if_pos (fun e => by rw [e] at hg; cases hg), tf, tg, of', og]
  simp only [Sem.run_bind, part1, part2, Result.andThen_ok, eqK 9997, Sem.run_ite, Sem.run_pure]
  cases eqB q.1 p.1 32 <;> cases eqB q.2 p.2 32 <;> rfl
end Go.Proofs.YtpokecijongkpaaDoor
namespace Go.Proofs.YtpokecijongkpaaDoor
set_option maxRecDepth 100000
open Go.RowKit
attribute [local go_sem ↓] Go.wp_at_zero Go.wp_at_succ

theorem ba_range {w : World} {b o : Nat} {f : Nat → Nat} (hf : ∀ i, f i < 256) (h : w.rangeAt b o (ab f 32)) : BA w (some ⟨b, o, none⟩) 32 f := ⟨hf, Or.inr ⟨b, o, rfl, ⟨fun i hi => h i _ (ab_at f hi)⟩⟩⟩
abbrev OB (w : World) (base : Nat) (v : Value) (n : Nat) (l : List Nat) : Prop := w.ownsRow base 5 1 v n (cells8 l)
theorem rowB_zero {w w' : World} {g cap : Nat} {cur : Array Value} (hg : w.heap.size ≤ g) (h : w'.heap[g]? = some (.cells cur 5 (0, 0))) (hc : cap ≤ maxLen) (hs : cur.size = cap * 1) : OB w' w.heap.size (.slice (some ⟨g, 0, none⟩) 0 cap) 0 [] :=
  ⟨rfl, Or.inr ⟨g, cap, cur, rfl, hg, h, Nat.zero_le _, hc, hs, by simp [cells8]⟩⟩
def GbP (w : World) (e : Ending) (w' : World) : Prop := ∃ v, e = .returned v ∧ OB w' w.heap.size v 0 [] ∧ Below w.heap.size w w'
set_option maxHeartbeats 4000000 in
set_option maxRecDepth 100000 in
theorem growB {k : Nat} (h0 : 0 < k) (hk : k ≤ 1000000) (w : World) : Calls Tryd.prog 69 #[.slice none 0 0, .int .i64 (k : Int)] w (GbP w) := by
  obtain ⟨i0, hi, hz0, hz1, hz2⟩ := info_parts info8
  have h1 : ¬ ((k : Int) < 0) := by omega
  have h3 : wrap64 ((k : Int)) = (k : Int) := by unfold wrap64; omega
  have h4 : (k : Int) > 0 := by omega
  have hrz : ∀ ty, (Builtin.append_ #[28, 3] ty #[.slice none 0 0, .int .i64 (k : Int)]).run Tryd.prog w =
      .ok (.slice (some ⟨w.heap.size, 0, none⟩) (0 + k) (grownCap w (0 + k) 0 5)) (w.drew.alloc (.cells (([] : List Value).toArray ++ Builtin.zeroCells (Value.int .u8 0).cells k ++ Builtin.zeroCells (Value.int .u8 0).cells (grownCap w (0 + k) 0 5 - (0 + k))) 5)) := fun ty =>
    Lib.run_append_grow_zeros w 28 3 ty 5 i0 (Value.int .u8 0) .i64 .i64 Tryd.underlying28 Tryd.underlying3 hi hz0 none 0 0 [] (run_firstCells_none w.drew i0.size 0 0 0) k h0 (by rw [hz1]; decide) (by omega) (by omega) (by rw [hz2]; omega) (growslice_fits (by omega) (by rw [hz2]; omega))
  have hG63 : grownCap w (0 + k) 0 5 ≤ maxLen := grownCap_le_maxLen w (0 + k) 0 5 (by unfold maxLen; omega)
  have hGn : 0 + k ≤ grownCap w (0 + k) 0 5 := grownCap_ge w _ _ _
  obtain ⟨G, hG⟩ : ∃ G, G = grownCap w (0 + k) 0 5 := ⟨_, rfl⟩
  rw [← hG] at hrz hGn hG63
  have hsz : (([] : List Value).toArray ++ Builtin.zeroCells (Value.int .u8 0).cells k ++ Builtin.zeroCells (Value.int .u8 0).cells (G - (0 + k))).size = G * 1 := by
    simp [Builtin.zeroCells, Value.cells]
    omega
  obtain ⟨C, hC⟩ : ∃ C, C = (([] : List Value).toArray ++ Builtin.zeroCells (Value.int .u8 0).cells k ++ Builtin.zeroCells (Value.int .u8 0).cells (G - (0 + k))) := ⟨_, rfl⟩
  rw [← hC] at hrz hsz
  have hG64 : G ≤ 9223372036854775807 := by unfold maxLen at hG63; omega
  clear hC hG
  go_enter Tryd.func69, Tryd.ntmps69
  go_wp2_with (at_builtin; refine Lib.wpList_append_run _ rfl _ _ _ _ rfl _ _ rfl rfl _ _ (hrz _) ?_)
  all_goals
    go_ret
    exact ⟨_, rfl, rowB_zero (Nat.le_refl _) (Array.getElem?_push_size ..) hG63 hsz, Below.alloc (Below.refl _ w).drew (by simp) _⟩
/-- Three texts, one behind the other, in memory that was made. -/
def C3P (w : World) (n : Nat) (l : List Nat) (e : Ending) (w' : World) : Prop := ∃ v, e = .returned v ∧ OB w' w.heap.size v n l ∧ Below w.heap.size w w'
set_option maxHeartbeats 8000000 in
set_option maxRecDepth 100000 in
theorem concat_three {w : World} {q cx cy cz : Nat} {x y z : Option Addr} {f g h : Nat → Nat} (h0 : w.cell? ⟨q, 0, none⟩ = some (.slice x 1 cx)) (h1 : w.cell? ⟨q, 1, none⟩ = some (.slice y 32 cy)) (h2 : w.cell? ⟨q, 2, none⟩ = some (.slice z 32 cz)) (hf : BA w x 1 f) (hg : BA w y 32 g) (hh : BA w z 32 h) :
    Calls Tryd.prog 64 #[.slice (some ⟨q, 0, none⟩) 3 3] w (C3P w 65 (fl f 1 ++ fl g 32 ++ fl h 32)) := by
  have HF := hide hf
  have HGg := hide hg
  have HHh := hide hh
  have HG := hide (growB (k := 65) (by omega) (by omega) w)
  clear hf hg hh
  go_enter Tryd.func64, Tryd.ntmps64
  go_wp2_with fail
  go_loopg [3, 11] 3 (fun g s3 s11 wr => wr = w ∧ ((g = 3 ∧ s3 = .int .i64 0 ∧ s11 = .int .i64 0) ∨ (g = 2 ∧ s3 = .int .i64 1 ∧ s11 = .int .i64 1) ∨ (g = 1 ∧ s3 = .int .i64 33 ∧ s11 = .int .i64 2) ∨ (g = 0 ∧ s3 = .int .i64 65 ∧ s11 = .int .i64 3)))
  case atStart => exact ⟨rfl, Or.inl ⟨rfl, rfl, rfl⟩⟩
  case round =>
    obtain ⟨rfl, ⟨rfl, rfl, rfl⟩ | ⟨rfl, rfl, rfl⟩ | ⟨rfl, rfl, rfl⟩ | ⟨rfl, rfl, rfl⟩⟩ := hrel
    · go_wp2_with fail
      go_roundg 2
      case measure => omega
      case rel => exact ⟨rfl, Or.inr (Or.inl ⟨rfl, rfl, rfl⟩)⟩
    · go_wp2_with fail
      go_roundg 1
      case measure => omega
      case rel => exact ⟨rfl, Or.inr (Or.inr (Or.inl ⟨rfl, rfl, rfl⟩))⟩
    · go_wp2_with fail
      go_roundg 0
      case measure => omega
      case rel => exact ⟨rfl, Or.inr (Or.inr (Or.inr ⟨rfl, rfl, rfl⟩))⟩
    · go_wp2_with fail
      with_reducible refine Calls.mono HG.out ?_
      rintro e W1 hG1
      obtain ⟨v1, rfl, hO1, hB1⟩ := hG1
      have HO1 := hide hO1
      have HB1 := hide hB1
      clear hO1 hB1 HG
      go_wp2_with fail
      go_loopg [6, 27] 3 (fun g' s6 s27 wr2 => Below wr.heap.size wr wr2 ∧ ((g' = 3 ∧ OB wr2 wr.heap.size s6 0 [] ∧ s27 = .int .i64 0) ∨ (g' = 2 ∧ OB wr2 wr.heap.size s6 1 (fl f 1) ∧ s27 = .int .i64 1) ∨ (g' = 1 ∧ OB wr2 wr.heap.size s6 33 (fl f 1 ++ fl g 32) ∧ s27 = .int .i64 2) ∨ (g' = 0 ∧ OB wr2 wr.heap.size s6 65 (fl f 1 ++ fl g 32 ++ fl h 32) ∧ s27 = .int .i64 3)))
      case atStart => exact ⟨HB1.out, Or.inl ⟨rfl, HO1.out, rfl⟩⟩
      case round =>
        obtain ⟨hB, ⟨rfl, hO, rfl⟩ | ⟨rfl, hO, rfl⟩ | ⟨rfl, hO, rfl⟩ | ⟨rfl, hO, rfl⟩⟩ := hrel
        · have c0 := later hB h0
          have HB := hide hB
          have HO := hide hO
          clear hB hO
          go_wp2_with (at_builtin; refine wpList_app rfl _ _ rfl rfl HO.out rfl (HF.out.keep HB.out) (by omega) HB.out.size ?_; intro v2 w2 hO2 hg2; have HB2 := hide (below_append HB.out HO.out hg2); have HO2 := hide hO2; clear hO2 hg2)
          go_roundg 2
          case measure => omega
          case rel => exact ⟨HB2.out, Or.inr (Or.inl ⟨rfl, HO2.out, rfl⟩)⟩
        · have c0 := later hB h1
          have HB := hide hB
          have HO := hide hO
          clear hB hO
          go_wp2_with (at_builtin; refine wpList_app rfl _ _ rfl rfl HO.out rfl (HGg.out.keep HB.out) (by omega) HB.out.size ?_; intro v2 w2 hO2 hg2; have HB2 := hide (below_append HB.out HO.out hg2); have HO2 := hide hO2; clear hO2 hg2)
          go_roundg 1
          case measure => omega
          case rel => exact ⟨HB2.out, Or.inr (Or.inr (Or.inl ⟨rfl, HO2.out, rfl⟩))⟩
        · have c0 := later hB h2
          have HB := hide hB
          have HO := hide hO
          clear hB hO
          go_wp2_with (at_builtin; refine wpList_app rfl _ _ rfl rfl HO.out rfl (HHh.out.keep HB.out) (by omega) HB.out.size ?_; intro v2 w2 hO2 hg2; have HB2 := hide (below_append HB.out HO.out hg2); have HO2 := hide hO2; clear hO2 hg2)
          go_roundg 0
          case measure => omega
          case rel => exact ⟨HB2.out, Or.inr (Or.inr (Or.inr ⟨rfl, HO2.out, rfl⟩))⟩
        · have HB := hide hB
          have HO := hide hO
          clear hB hO
          go_wp2_with fail
          go_ret
          exact ⟨_, rfl, HO.out, HB.out⟩
theorem fl_text (f g : Nat → Nat) : fl (fun _ => 1) 1 ++ fl f 32 ++ fl g 32 = fl (ndT f g) 65 := by
  rw [fl_cat, fl_cat]
  unfold ndT
  rw [← cat_assoc]
/-- A pair's text. -/
def TqP (w : World) (q : HP) (e : Ending) (w' : World) : Prop := ∃ a c, e = .returned (.slice a 65 c) ∧ BA w' a 65 (ndT q.1 q.2) ∧ Below w.heap.size w w'
set_option maxRecDepth 100000 in
set_option maxHeartbeats 4000000 in
theorem pairText_any {w : World} {q : HP} (hf : ∀ i, q.1 i < 256) (hg : ∀ i, q.2 i < 256) : Calls Tryd.prog 52 #[pval q] w (TqP w q) := by
  have HF := hide (And.intro hf hg)
  clear hf hg
  go_enter Tryd.func52, Tryd.ntmps52
  go_upto_region 1 with fail
  refine wp_world (fun X hX => ?_)
  have hB : Below w.heap.size w X := by rw [hX]; exact K.alloc (Below.refl _ _) _
  have hR : X.rangeAt w.heap.size 0 (pq q) := by
    rw [hX]
    exact (RowC.made w 78 (pq q)).c
  clear hX
  obtain ⟨b0, hb0⟩ : ∃ b0, w.heap.size = b0 := ⟨_, rfl⟩
  rw [hb0] at hR ⊢
  have HL := hide (pq_left hR)
  have HRr := hide (pq_right hR)
  have HB := hide hB
  clear hB hR
  refine wp_region_noPanic ?_
  refine wp_region_held_drew (S := fun _ => True) (by kernel_rfl) trivial (fun hS0 => ?_)
  refine wpAnyH_take (i := 1) (v := .pointer (some ⟨b0, 0, none⟩)) rfl (by kernel_rfl) (by kernel_rfl) (by kernel_rfl) (fun _ _ _ h => h) (Or.inl ⟨by rfl, fun w' _ => by go_simp⟩) hS0 ?_
  simp only [Act.put, List.getElem_toArray, List.getElem_cons_zero, List.getElem_cons_succ, List.setIfInBounds_toArray, List.set_cons_zero, List.set_cons_succ]
  refine wpAnyH_take (i := 2) (v := .slice (some ⟨b0, 0, none⟩) 32 32) rfl (by kernel_rfl) (by kernel_rfl) (by kernel_rfl) (fun _ _ _ h => h) (Or.inl ⟨by rfl, fun w' _ => by go_simp⟩) hS0 ?_
  simp only [Act.put, List.getElem_toArray, List.getElem_cons_zero, List.getElem_cons_succ, List.setIfInBounds_toArray, List.set_cons_zero, List.set_cons_succ]
  refine wpAnyH_take (i := 3) (v := .pointer (some ⟨b0, 32, none⟩)) rfl (by kernel_rfl) (by kernel_rfl) (by kernel_rfl) (fun _ _ _ h => h) (Or.inl ⟨by rfl, fun w' _ => by go_simp⟩) hS0 ?_
  simp only [Act.put, List.getElem_toArray, List.getElem_cons_zero, List.getElem_cons_succ, List.setIfInBounds_toArray, List.set_cons_zero, List.set_cons_succ]
  refine wpAnyH_take (i := 4) (v := .slice (some ⟨b0, 32, none⟩) 32 32) rfl (by kernel_rfl) (by kernel_rfl) (by kernel_rfl) (fun _ _ _ h => h) (Or.inl ⟨by rfl, fun w' _ => by go_simp⟩) hS0 ?_
  simp only [Act.put, List.getElem_toArray, List.getElem_cons_zero, List.getElem_cons_succ, List.setIfInBounds_toArray, List.set_cons_zero, List.set_cons_succ]
  refine wpAnyH_ready (rs := [0]) (by kernel_rfl) (by simp) (AllReadyH.cons rfl (fun Kt hK => ?_) AllReadyH.nil)
  refine wanted_pos rfl ?_
  refine wp_byte (b := 1) (by omega) rfl (fun q1 W1 _ ho1 hw1 => hK.out _ _ trivial (fun _ => ?_))
  clear hK Kt
  simp only [Act.put, List.getElem_toArray, List.getElem_cons_zero, List.setIfInBounds_toArray, List.set_cons_zero, List.set_cons_succ]
  have HK1 : Hid (Below X.heap.size X W1) := (Go.Proofs.YtpokecijongkpaaDoor.K.drew (Below.refl _ X)).trans (hw1.mono (Go.Proofs.YtpokecijongkpaaDoor.K.drew (Below.refl _ X)).size)
  have HO1 := hide ho1
  clear hw1 ho1
  refine wpAnyH_ready (rs := [5]) (by kernel_rfl) (by simp) (AllReadyH.cons rfl (fun Kt hK => ?_) AllReadyH.nil)
  refine wanted_pos rfl ?_
  refine wp_three rfl (by rfl) (by rfl) (by rfl) (fun q2 W2 _ hc0 hc1 hc2 hw2 => hK.out _ _ trivial (fun _ => ?_))
  clear hK Kt
  simp only [Act.put, List.getElem_toArray, List.getElem_cons_zero, List.getElem_cons_succ, List.setIfInBounds_toArray, List.set_cons_zero, List.set_cons_succ]
  have HK2 : Hid (Below X.heap.size X W2) := Go.Proofs.YtpokecijongkpaaDoor.K.call HK1.out hw2
  have HS := hide (concat_three hc0 hc1 hc2 (HO1.out.keep hw2) (ba_range HF.out.1 (range_keep HL.out HK2.out)) (ba_range HF.out.2 (range_keep HRr.out HK2.out)))
  rw [fl_text] at HS
  clear hw2 hc0 hc1 hc2 HO1 HK1
  refine wpAnyH_ready (rs := [6]) (by kernel_rfl) (by simp) (AllReadyH.cons rfl (fun Kt hK => ?_) AllReadyH.nil)
  refine wanted_pos rfl ?_
  refine wp_call (R := fun r w' => ∃ v, r = v ∧ OB w' W2.heap.size v 65 (fl (ndT q.1 q.2) 65) ∧ Below W2.heap.size W2 w') (vs := #[.slice (some ⟨q2, 0, none⟩) 3 3]) rfl (by simp only [List.map_toArray, List.map_cons, List.map_nil]; rfl) (by go_simp) (Calls.mono HS.out (fun e w' h => by obtain ⟨v, he, ho, hb⟩ := h; exact ⟨_, he, v, rfl, ho, hb⟩)) (fun r W3 hr => ?_)
  obtain ⟨v3, rfl, ho3, hb3⟩ := hr
  refine hK.out _ _ trivial (fun _ => ?_)
  clear hK Kt HS
  simp only [Act.put, List.getElem_toArray, List.getElem_cons_zero, List.getElem_cons_succ, List.setIfInBounds_toArray, List.set_cons_zero, List.set_cons_succ]
  obtain ⟨a3, c3, rfl⟩ := own_shape ho3
  have HA := hide (own_ba ho3 (ndT_lt HF.out.1 HF.out.2))
  have HB3 : Hid (Below b0 w W3) := by subst hb0; exact Go.Proofs.YtpokecijongkpaaDoor.K.call HB.out (Go.Proofs.YtpokecijongkpaaDoor.K.call HK2.out hb3)
  clear ho3 hb3
  refine wpAnyH_take (i := 7) (v := .slice a3 65 c3) rfl (by kernel_rfl) (by kernel_rfl) (by kernel_rfl) (fun _ _ _ h => h) (Or.inl ⟨by rfl, fun w' _ => by go_simp⟩) trivial ?_
  simp only [Act.put, List.getElem_toArray, List.getElem_cons_zero, List.getElem_cons_succ, List.setIfInBounds_toArray, List.set_cons_zero, List.set_cons_succ]
  refine wpAnyH_done (by kernel_rfl) ?_ _
  refine NoPanic.normal ?_
  go_wp2_with fail
  go_ret
  exact ⟨_, _, rfl, HA.out, by first | exact HB3.out | (rw [hb0]; exact HB3.out)⟩
theorem ov_all (f g : Nat → Nat) : ov (ab f 32) 0 (ab g 32) = ab g 32 := by
  unfold ov
  rw [List.take_zero, List.nil_append, List.drop_eq_nil_of_le (by rw [ab_len, ab_len]; omega), List.append_nil]
set_option maxRecDepth 100000 in
set_option maxHeartbeats 4000000 in
theorem pairHash_any {w : World} {q : HP} (hT : Tab w) (hf : ∀ i, q.1 i < 256) (hg : ∀ i, q.2 i < 256) : Calls Tryd.prog 50 #[pval q] w fun e w' => e = .returned (hv (nd q.1 q.2)) ∧ Below w.heap.size w w' := by
  have HF := hide (And.intro hf hg)
  have HT := hide hT
  clear hf hg hT
  go_enter Tryd.func50, Tryd.ntmps50
  go_upto_region 1 with fail
  refine wp_world (fun X hX => ?_)
  rw [zeros32] at hX
  have hvv : Vc w X [(w.heap.size + 1, ab (fun _ => 0) 32), (w.heap.size, pq q)] := by
    rw [hX]
    have h := ((Vc.nil w).made 78 (pq q)).made 24 (ab (fun _ => 0) 32)
    have e : ∀ o, (w.alloc o).heap.size = w.heap.size + 1 := fun o => by simp
    rw [e] at h
    exact h
  clear hX
  obtain ⟨b0, hb0⟩ : ∃ b0, w.heap.size = b0 := ⟨_, rfl⟩
  rw [hb0] at hvv ⊢
  have HL := hide (pq_left (hvv.row 1 rfl).c)
  have HRr := hide (pq_right (hvv.row 1 rfl).c)
  have HV := hide hvv
  have HN := hide (node_any (HT.out.keep hvv.k) HF.out.1 HF.out.2)
  unfold hv at HN
  obtain ⟨s2, hs2⟩ : ∃ s, nd q.1 q.2 = s := ⟨_, rfl⟩
  rw [hs2] at HN
  have HS2 := hide hs2
  clear hs2
  clear hvv
  go_wp2_with (first
    | (refine wpList_load_h rfl _ rfl (by rfl) HL.out ?_; simp only [Act.put, List.setIfInBounds_toArray, List.set_cons_zero, List.set_cons_succ]; clear HL)
    | (refine wpList_load_h rfl _ rfl (by rfl) HRr.out ?_; simp only [Act.put, List.setIfInBounds_toArray, List.set_cons_zero, List.set_cons_succ]; clear HRr)
    | (go_at_call 34; (with_reducible refine Calls.mono HN.out ?_); rintro e W1 ⟨rfl, hb⟩; have HV1 := hide (HV.out.keep hb); clear hb HN HV)
    | (refine HV1.out.listPutH 0 0 rfl rfl (by rfl) (by rfl) rfl (by rw [ab_len, ab_len]; omega) (fun W2 hv2 => ?_); simp only [Act.put]; have HV2 := hide hv2; clear hv2 HV1))
  exact bodyPost_ret (results_cell_mid Tryd.results50 _ _ (b0 + 1) (ab s2 32) _ rfl (by have h := (HV2.out.row 0 rfl).c; rwa [ov_all] at h) Tryd.underlying24 rfl (ilH _)) rfl ⟨by rw [HS2.out]; rfl, by first | exact HV2.out.k | (rw [hb0]; exact HV2.out.k)⟩
end Go.Proofs.YtpokecijongkpaaDoor
