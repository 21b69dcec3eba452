/- Layer 15, pure: where a parse fails. (Made ahead.) -/
import Derived.Test.YtjgpopjpmfkfmaaM15C
namespace Go.Proofs.Ytjgpopjpmfkfmaa
set_option maxRecDepth 100000

theorem prs_split {C : Nat → List Nat} {u k : Nat} : ∀ {l : List (List Nat)} {p : Nat}, lays C p l → p + tks l ≤ u → prs C u (l.length + k) p = (prs C u k (p + tks l)).map fun x => (l ++ x.1, x.2)
  | [], p, _, _ => by
    show prs C u (0 + k) p = (prs C u k (p + 0)).map _
    rw [Nat.zero_add, Nat.add_zero]
    cases prs C u k p with
    | none => rfl
    | some x => rfl
  | b :: r, p, h, hu => by
    have hp := tk_pos b.length
    have e : tks (b :: r) = tk b.length + tks r := rfl
    have hk := h.1.k
    rw [show (b :: r).length + k = (r.length + k) + 1 by rw [List.length_cons]; omega]
    show (if p < u ∧ elen C p ≤ 200 ∧ p + tk (elen C p) ≤ u then (prs C u (r.length + k) (p + tk (elen C p))).map fun x => (ent C p (elen C p) :: x.1, x.2) else none) = _
    rw [hk, if_pos ⟨by omega, h.1.m, by omega⟩, prs_split h.2 (by omega), h.1.e, e, Nat.add_assoc, Option.map_map]
    rfl
theorem prs_fail {C : Nat → List Nat} {u n : Nat} {l : List (List Nat)} (h : lays C 0 l) (hu : tks l ≤ u) (hn : l.length < n) (hc : ¬ (tks l < u ∧ elen C (tks l) ≤ 200 ∧ tks l + tk (elen C (tks l)) ≤ u)) : prs C u n 0 = none := by
  obtain ⟨k, rfl⟩ : ∃ k, n = l.length + (k + 1) := ⟨n - l.length - 1, by omega⟩
  rw [prs_split h (by omega), Nat.zero_add]
  show (if tks l < u ∧ elen C (tks l) ≤ 200 ∧ tks l + tk (elen C (tks l)) ≤ u then _ else none).map _ = none
  rw [if_neg hc]
  rfl
theorem prs_le {C : Nat → List Nat} {u : Nat} : ∀ {n p : Nat} {l : List (List Nat)} {e : Nat}, prs C u n p = some (l, e) → p ≤ u → e ≤ u
  | 0, p, l, e, h, hp => by
    have h : some (([] : List (List Nat)), p) = some (l, e) := h
    cases h
    exact hp
  | n + 1, p, l, e, h, hp => by
    have h : (if p < u ∧ elen C p ≤ 200 ∧ p + tk (elen C p) ≤ u then (prs C u n (p + tk (elen C p))).map fun x => (ent C p (elen C p) :: x.1, x.2) else none) = some (l, e) := h
    split at h
    · rename_i hh
      obtain ⟨⟨r, e2⟩, h1, h2⟩ := Option.map_eq_some_iff.1 h
      cases h2
      exact prs_le h1 hh.2.2
    · cases h
theorem opn_u {v : List Nat} {C : Nat → List Nat} {N : Nat} (h : N < mkU v + 3) : opn v C N = none := by
  unfold opn
  rw [if_neg (by omega)]
theorem opn_n {v : List Nat} {C : Nat → List Nat} {N : Nat} (hC : ∀ i, (C i).length = 64) (h : N ≤ mkN v) : opn v C N = none := by
  unfold opn
  split
  · rename_i hh
    split
    · rename_i l e hp
      obtain ⟨_, g2, g3⟩ := lays_prs hC hp
      have := prs_le hp (Nat.zero_le _)
      have := tks_len l
      have := hh.2
      omega
    · rfl
  · rfl
theorem opn_p {v : List Nat} {C : Nat → List Nat} {N : Nat} (h : prs C (mkU v) (mkN v) 0 = none) : opn v C N = none := by
  unfold opn
  split
  · rw [h]
  · rfl
theorem opn_e {v : List Nat} {C : Nat → List Nat} {N : Nat} {l : List (List Nat)} (h : lays C 0 l) (hu : tks l ≤ mkU v) (hl : l.length = mkN v) (hne : tks l ≠ mkU v) : opn v C N = none := by
  unfold opn
  split
  · rw [← hl, prs_lays h (by omega), Nat.zero_add]
    show (if tks l = mkU v then _ else none) = none
    rw [if_neg hne]
  · rfl
theorem opn_v {v : List Nat} {C : Nat → List Nat} {N : Nat} {l : List (List Nat)} (hl : l.length = mkN v) (he : tks l = mkU v) (hne : v ≠ mkv l) : opn v C N = none := by
  unfold opn
  rw [if_neg]
  rintro ⟨h1, _⟩
  apply hne
  unfold mkv
  rw [hl, he]
  exact h1
end Go.Proofs.Ytjgpopjpmfkfmaa
