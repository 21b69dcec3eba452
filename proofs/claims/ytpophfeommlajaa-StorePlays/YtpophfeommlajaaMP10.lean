/- Layer 13: what is known of a disk; sectors as values; the map of what was written, as the library's words for maps have it; the order of what was written. -/
import Derived.Test.YtpophfeommlajaaMP08
import Derived.Test.YtpophfeommlajaaMP09
import Derived.Maps.RangeWalk
import Derived.Maps.Ext
import Derived.Maps.OwnSet
import Derived.Lib.SlKeysI
namespace Go.Proofs.Ytpophfeommlajaa
set_option maxRecDepth 100000
open Go.RowKit Go.Maps

/-- What is known of a disk: how many sectors, what lasts, what was written since, the fuse, whether it is down. -/
structure DM : Type where
  n : Nat
  la : Nat → List Nat
  nw : Nat → Option (List Nat)
  fu : Option Nat
  dn : Bool
/-- A sector's bytes. -/
def sec (l : List Nat) : Prop := l.length = 64 ∧ ∀ x ∈ l, x < 256
structure DM.ok (D : DM) : Prop where
  n : D.n ≤ 4096
  la : ∀ i, sec (D.la i)
  nw : ∀ i l, D.nw i = some l → i < D.n ∧ sec l
  fu : ∀ k, D.fu = some k → k < 9223372036854775808
def secV (l : List Nat) : Value := .agg (cells8 l).toArray
def secD (l : List Nat) : DataW Unit := .agg (l.map fun (x : Nat) => .lit (.int .u8 (x : Int)))
def unS : List Value → Option (List Nat)
  | [] => some []
  | .int .u8 x :: r => if 0 ≤ x ∧ x < 256 then (unS r).map (x.toNat :: ·) else none
  | _ :: _ => none
theorem unS_mk : ∀ {l : List Nat}, (∀ x ∈ l, x < 256) → unS (cells8 l) = some l
  | [], _ => rfl
  | x :: r, h => by
    have h1 := h x (by simp)
    have h2 : unS (cells8 r) = some r := unS_mk (fun y hy => h y (by simp [hy]))
    show (if 0 ≤ (x : Int) ∧ (x : Int) < 256 then (unS (cells8 r)).map ((x : Int).toNat :: ·) else none) = _
    rw [if_pos ⟨by omega, by omega⟩, h2]
    simp
theorem unS_inv : ∀ {vs : List Value} {l : List Nat}, unS vs = some l → vs = cells8 l ∧ ∀ x ∈ l, x < 256
  | [], l, h => by cases h; exact ⟨rfl, fun x hx => by cases hx⟩
  | v :: r, l, h => by
    unfold unS at h
    split at h
    · rename_i e; cases e
    · rename_i e
      obtain ⟨e1, e2⟩ := List.cons.inj e
      split at h
      · rename_i hx
        obtain ⟨l', hl', rfl⟩ := Option.map_eq_some_iff.1 h
        obtain ⟨h1, h2⟩ := unS_inv (vs := r) (e2 ▸ hl')
        refine ⟨?_, fun y hy => ?_⟩
        · rw [e1, h1]
          show _ = Value.int .u8 _ :: _
          rw [Int.toNat_of_nonneg hx.1]
          rfl
        · rcases List.mem_cons.1 hy with rfl | hy
          · omega
          · exact h2 y hy
      · cases h
    · cases h
/-- How a sector in the map reads. -/
def secR (v : Value) : Option (DataW Unit × List MemPlace) := match v with
  | .agg vs => match unS vs.toList with
    | some l => if l.length = 64 then some (secD l, []) else none
    | none => none
  | _ => none
theorem secR_mk {l : List Nat} (h : sec l) : secR (secV l) = some (secD l, []) := by
  simp only [secR, secV, unS_mk h.2, h.1, if_true]
theorem secR_inv {v : Value} {z : DataW Unit × List MemPlace} (h : secR v = some z) : ∃ l, sec l ∧ v = secV l ∧ z = (secD l, []) := by
  unfold secR at h
  split at h
  · rename_i vs
    split at h
    · rename_i l hl
      split at h
      · rename_i h64
        cases h
        obtain ⟨h1, h2⟩ := unS_inv hl
        exact ⟨l, ⟨h64, h2⟩, by rw [secV, ← h1], rfl⟩
      · cases h
    · cases h
  · cases h
theorem secD_inj : ∀ {l m : List Nat}, secD l = secD m → l = m := by
  intro l m h
  have h : l.map (fun (x : Nat) => DataW.lit (H := Unit) (.int .u8 (x : Int))) = m.map (fun (x : Nat) => .lit (.int .u8 (x : Int))) := by
    simpa [secD] using h
  exact (List.map_inj_right (fun x y e => by
    have : (x : Int) = y := by simpa using e
    omega)).1 h
def kz (i : Nat) : Lit := .int .i64 (i : Int)
theorem kz_key (i : Nat) : WideAt.IsKeyLit (kz i) := by simp [kz, WideAt.IsKeyLit]
theorem kz_inj {i j : Nat} (h : kz i = kz j) : i = j := by
  have : (i : Int) = j := by simpa [kz] using h
  omega
def upd {α : Type} (f : Nat → α) (i : Nat) (v : α) : Nat → α := fun j => if j = i then v else f j
/-- The map's datum holds what was written. -/
structure MpD (E : DataW Unit) (N : Nat) (nw : Nat → Option (List Nat)) : Prop where
  a : ∀ i l, nw i = some l → Maps.has E (kz i) = true ∧ ∀ z, E.atKey (kz i) z = secD l
  b : ∀ kl, Maps.has E kl = true → ∃ i, i < N ∧ kl = kz i ∧ (nw i).isSome = true
theorem MpD.nil (N : Nat) : MpD (.map []) N (fun _ => none) := ⟨fun i l h => (by cases h), fun kl h => (by cases h)⟩
theorem MpD.put {E : DataW Unit} {N : Nat} {nw : Nat → Option (List Nat)} (h : MpD E N nw) (hE : IsMap E) (i : Nat) (hi : i < N) (l : List Nat) : MpD (E.put (kz i) (secD l)) N (upd nw i (some l)) := by
  refine ⟨fun j m hj => ?_, fun kl hk => ?_⟩
  · by_cases e : j = i
    · subst e
      simp only [upd, if_true, Option.some.injEq] at hj
      subst hj
      exact ⟨has_put_same hE (kz_key _) _, fun z => atKey_put_same hE (kz_key _) _ _⟩
    · simp only [upd, if_neg e] at hj
      have hne : kz j ≠ kz i := fun e2 => e (kz_inj e2)
      exact ⟨by rw [has_put_other hne]; exact (h.a j m hj).1, fun z => by rw [atKey_put_other hne]; exact (h.a j m hj).2 z⟩
  · by_cases e : kl = kz i
    · exact ⟨i, hi, e, by simp [upd]⟩
    · rw [has_put_other e] at hk
      obtain ⟨j, hj, rfl, hs⟩ := h.b kl hk
      refine ⟨j, hj, rfl, ?_⟩
      have : j ≠ i := fun e2 => e (by rw [e2])
      simpa [upd, this] using hs
theorem MpD.not {E : DataW Unit} {N : Nat} {nw : Nat → Option (List Nat)} (h : MpD E N nw) {i : Nat} (hi : nw i = none) : Maps.has E (kz i) = false := by
  cases hh : Maps.has E (kz i) with
  | false => rfl
  | true =>
    obtain ⟨j, _, e, hs⟩ := h.b _ hh
    rw [← kz_inj e, hi] at hs
    cases hs
/-- The places of what was written, rising. -/
def wrs (N : Nat) (nw : Nat → Option (List Nat)) : List Nat := (List.range N).filter fun i => (nw i).isSome
/-- How many were written of the first i. -/
def rk (nw : Nat → Option (List Nat)) (i : Nat) : Nat := (wrs i nw).length
theorem wrs_mem {N : Nat} {nw : Nat → Option (List Nat)} {i : Nat} : i ∈ wrs N nw ↔ i < N ∧ (nw i).isSome = true := by
  simp [wrs, List.mem_filter]
theorem wrs_lt (N : Nat) (nw : Nat → Option (List Nat)) : (wrs N nw).Pairwise (· < ·) := List.Pairwise.filter _ List.pairwise_lt_range
theorem wrs_le (N : Nat) (nw : Nat → Option (List Nat)) : (wrs N nw).length ≤ N := by
  have := List.length_filter_le (fun i => (nw i).isSome) (List.range N)
  simpa [wrs] using this
theorem wrs_at {N : Nat} {nw : Nat → Option (List Nat)} {i : Nat} (hi : i < N) (hs : (nw i).isSome = true) : (wrs N nw)[rk nw i]? = some i := by
  have e : List.range N = List.range i ++ (i :: (List.range (N - i - 1)).map (i + 1 + ·)) := by
    apply List.ext_getElem?
    intro j
    rcases Nat.lt_trichotomy j i with h | h | h
    · rw [List.getElem?_append_left (by simpa using h), List.getElem?_range (by omega), List.getElem?_range h]
    · subst h
      rw [List.getElem?_append_right (by simp), List.getElem?_range hi]
      simp
    · rw [List.getElem?_append_right (by simp; omega)]
      simp only [List.length_range]
      obtain ⟨k, rfl⟩ : ∃ k, j = i + 1 + k := ⟨j - (i + 1), by omega⟩
      rw [show i + 1 + k - i = k + 1 by omega, List.getElem?_cons_succ]
      by_cases hk : i + 1 + k < N
      · rw [List.getElem?_range hk, List.getElem?_map, List.getElem?_range (by omega)]
        rfl
      · rw [List.getElem?_eq_none (by simpa using hk), List.getElem?_eq_none (by simp; omega)]
  have e2 : wrs N nw = wrs i nw ++ (i :: ((List.range (N - i - 1)).map (i + 1 + ·)).filter fun i => (nw i).isSome) := by
    show (List.range N).filter _ = _
    rw [e, List.filter_append, List.filter_cons, if_pos hs]
    rfl
  rw [e2, rk, List.getElem?_append_right (Nat.le_refl _), Nat.sub_self]
  rfl
theorem wrs_rk {N : Nat} {nw : Nat → Option (List Nat)} {p i : Nat} (h : (wrs N nw)[p]? = some i) : i < N ∧ (nw i).isSome = true ∧ rk nw i = p := by
  have hm := wrs_mem.1 (List.mem_of_getElem? h)
  refine ⟨hm.1, hm.2, ?_⟩
  have h2 := wrs_at hm.1 hm.2
  obtain ⟨hp, e1⟩ := List.getElem?_eq_some_iff.1 h
  obtain ⟨hq, e2⟩ := List.getElem?_eq_some_iff.1 h2
  have hl := List.pairwise_iff_getElem.1 (wrs_lt N nw)
  rcases Nat.lt_trichotomy (rk nw i) p with hh | hh | hh
  · have := hl _ _ hq hp hh; omega
  · exact hh
  · have := hl _ _ hp hq hh; omega
theorem rk_lt {N : Nat} {nw : Nat → Option (List Nat)} {i : Nat} (hi : i < N) (hs : (nw i).isSome = true) : rk nw i < (wrs N nw).length := (List.getElem?_eq_some_iff.1 (wrs_at hi hs)).1
/-- Two rising lists of the same numbers are one. -/
theorem rising_eq : ∀ {a b : List Int}, a.Pairwise (· < ·) → b.Pairwise (· < ·) → (∀ x, x ∈ a ↔ x ∈ b) → a = b
  | [], [], _, _, _ => rfl
  | [], y :: b, _, _, h => by have := (h y).2 (by simp); cases this
  | x :: a, [], _, _, h => by have := (h x).1 (by simp); cases this
  | x :: a, y :: b, ha, hb, h => by
    have ha1 := List.pairwise_cons.1 ha
    have hb1 := List.pairwise_cons.1 hb
    have e : x = y := by
      have h1 := (h x).1 (by simp)
      have h2 := (h y).2 (by simp)
      rcases List.mem_cons.1 h1 with h1 | h1
      · exact h1
      · rcases List.mem_cons.1 h2 with h2 | h2
        · exact h2.symm
        · have := hb1.1 x h1
          have := ha1.1 y h2
          omega
    subst e
    refine congrArg (x :: ·) (rising_eq ha1.2 hb1.2 (fun z => ⟨fun hz => ?_, fun hz => ?_⟩))
    · rcases List.mem_cons.1 ((h z).1 (by simp [hz])) with e | e
      · have := ha1.1 z hz; omega
      · exact e
    · rcases List.mem_cons.1 ((h z).2 (by simp [hz])) with e | e
      · have := hb1.1 z hz; omega
      · exact e
theorem MpD.keys {E : DataW Unit} {N : Nat} {nw : Nat → Option (List Nat)} (h : MpD E N nw) (hT : Canon E) {ss : List Int} (hs : ss.Perm (intKeys E)) :
    ss.mergeSort (fun x y => decide (x ≤ y)) = (wrs N nw).map (fun (i : Nat) => (i : Int)) := by
  obtain ⟨es, rfl, hes, hk⟩ := hT
  have hap := apart_of_rising hes
  have hkey : ∀ p ∈ es, ∃ i, i < N ∧ p.1 = kz i ∧ (nw i).isSome = true := fun p hp => h.b p.1 (List.any_eq_true.2 ⟨p, hp, WideAt.sameKey_self (hk p hp)⟩)
  have hnd : (intKeys (DataW.map es)).Pairwise (· ≠ ·) := by
    show (es.map fun p => Go.intOf p.1).Pairwise (· ≠ ·)
    rw [List.pairwise_map]
    refine List.Pairwise.imp_of_mem (fun {p q} hp hq hne => ?_) hap
    obtain ⟨i, _, e1, _⟩ := hkey p hp
    obtain ⟨j, _, e2, _⟩ := hkey q hq
    rw [e1, e2] at hne ⊢
    intro e
    exact hne (by simpa [kz, Go.intOf] using e)
  have hP := List.mergeSort_perm ss (fun x y => decide (x ≤ y))
  have hle := List.pairwise_mergeSort (le := fun (x y : Int) => decide (x ≤ y)) (fun a b c h1 h2 => by simp at *; omega) (fun a b => by simp; omega) ss
  have hnd2 : (ss.mergeSort (fun x y => decide (x ≤ y))).Pairwise (· ≠ ·) := (hP.trans hs).symm.pairwise hnd (fun {a b} h => Ne.symm h)
  refine rising_eq ((hle.and hnd2).imp (fun {a b} ⟨h1, h2⟩ => by simp at h1; omega)) ?_ (fun x => ?_)
  · rw [List.pairwise_map]
    exact (wrs_lt N nw).imp (fun {a b} h => by omega)
  · rw [(hP.trans hs).mem_iff]
    constructor
    · intro hx
      obtain ⟨p, hp, rfl⟩ := List.mem_map.1 hx
      obtain ⟨i, hi, e, hsm⟩ := hkey p hp
      exact List.mem_map.2 ⟨i, wrs_mem.2 ⟨hi, hsm⟩, by rw [e]; rfl⟩
    · intro hx
      obtain ⟨i, hi, rfl⟩ := List.mem_map.1 hx
      obtain ⟨l, hl⟩ := Option.isSome_iff_exists.1 (wrs_mem.1 hi).2
      obtain ⟨p, hp, hps⟩ := List.any_eq_true.1 (h.a i l hl).1
      refine List.mem_map.2 ⟨p, hp, ?_⟩
      have := WideAt.sameKey_eq hps
      rw [this]
      rfl
theorem MpD.size {E : DataW Unit} {N : Nat} {nw : Nat → Option (List Nat)} (h : MpD E N nw) (hT : Canon E) : Maps.size E ≤ N := by
  have h1 := congrArg List.length (h.keys hT (List.Perm.refl _))
  obtain ⟨es, rfl, _⟩ := hT
  rw [List.length_mergeSort, List.length_map] at h1
  have h2 : (intKeys (DataW.map es)).length = es.length := by simp [intKeys]
  have h3 : Maps.size (DataW.map es) = es.length := rfl
  have h4 := wrs_le N nw
  omega
end Go.Proofs.Ytpophfeommlajaa
