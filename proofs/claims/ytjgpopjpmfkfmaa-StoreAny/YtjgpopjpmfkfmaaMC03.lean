/- Layer 13: what is known of a disk; sectors as values; the map of what was written, as the library's words for maps have it; the order of what was written. Layer 13: the program's disk in memory; its small methods. Layer 13: the fuse; what a fate leaves. Layer 13: the program's New. Layer 13: sectors in memory, and in the map, at the operations. Layer 13: the program's Read. -/
import Derived.Test.YtjgpopjpmfkfmaaMC01
import Derived.Test.YtjgpopjpmfkfmaaMC02
import Derived.Maps.RangeWalk
import Derived.Maps.Ext
import Derived.Maps.OwnSet
import Derived.Lib.SlKeysI
import Derived.Deep.Light
namespace Go.Proofs.Ytjgpopjpmfkfmaa
set_option maxRecDepth 100000
open Go.RowKit Go.Maps

/-- What is known of a disk: how many sectors, what lasts, what was written since, the fuse, whether it is down. -/
structure DM : Type where
  n : Nat
  la : Nat → List Nat
  nw : Nat → Option (List Nat)
  fu : Option Nat
  dn : Bool
/-- A sector's bytes. -/
def sec (l : List Nat) : Prop := l.length = 64 ∧ ∀ x ∈ l, x < 256
structure DM.ok (D : DM) : Prop where
  n : D.n ≤ 4096
  la : ∀ i, sec (D.la i)
  nw : ∀ i l, D.nw i = some l → i < D.n ∧ sec l
  fu : ∀ k, D.fu = some k → k < 9223372036854775808
def secV (l : List Nat) : Value := .agg (cells8 l).toArray
def secD (l : List Nat) : DataW Unit := .agg (l.map fun (x : Nat) => .lit (.int .u8 (x : Int)))
def unS : List Value → Option (List Nat)
  | [] => some []
  | .int .u8 x :: r => if 0 ≤ x ∧ x < 256 then (unS r).map (x.toNat :: ·) else none
  | _ :: _ => none
theorem unS_mk : ∀ {l : List Nat}, (∀ x ∈ l, x < 256) → unS (cells8 l) = some l
  | [], _ => rfl
  | x :: r, h => by
    have h1 := h x (by simp)
    have h2 : unS (cells8 r) = some r := unS_mk (fun y hy => h y (by simp [hy]))
    show (if 0 ≤ (x : Int) ∧ (x : Int) < 256 then (unS (cells8 r)).map ((x : Int).toNat :: ·) else none) = _
    rw [if_pos ⟨by omega, by omega⟩, h2]
    simp
theorem unS_inv : ∀ {vs : List Value} {l : List Nat}, unS vs = some l → vs = cells8 l ∧ ∀ x ∈ l, x < 256
  | [], l, h => by cases h; exact ⟨rfl, fun x hx => by cases hx⟩
  | v :: r, l, h => by
    unfold unS at h
    split at h
    · rename_i e; cases e
    · rename_i e
      obtain ⟨e1, e2⟩ := List.cons.inj e
      split at h
      · rename_i hx
        obtain ⟨l', hl', rfl⟩ := Option.map_eq_some_iff.1 h
        obtain ⟨h1, h2⟩ := unS_inv (vs := r) (e2 ▸ hl')
        refine ⟨?_, fun y hy => ?_⟩
        · rw [e1, h1]
          show _ = Value.int .u8 _ :: _
          rw [Int.toNat_of_nonneg hx.1]
          rfl
        · rcases List.mem_cons.1 hy with rfl | hy
          · omega
          · exact h2 y hy
      · cases h
    · cases h
/-- How a sector in the map reads. -/
def secR (v : Value) : Option (DataW Unit × List MemPlace) := match v with
  | .agg vs => match unS vs.toList with
    | some l => if l.length = 64 then some (secD l, []) else none
    | none => none
  | _ => none
theorem secR_mk {l : List Nat} (h : sec l) : secR (secV l) = some (secD l, []) := by
  simp only [secR, secV, unS_mk h.2, h.1, if_true]
theorem secR_inv {v : Value} {z : DataW Unit × List MemPlace} (h : secR v = some z) : ∃ l, sec l ∧ v = secV l ∧ z = (secD l, []) := by
  unfold secR at h
  split at h
  · rename_i vs
    split at h
    · rename_i l hl
      split at h
      · rename_i h64
        cases h
        obtain ⟨h1, h2⟩ := unS_inv hl
        exact ⟨l, ⟨h64, h2⟩, by rw [secV, ← h1], rfl⟩
      · cases h
    · cases h
  · cases h
theorem secD_inj : ∀ {l m : List Nat}, secD l = secD m → l = m := by
  intro l m h
  have h : l.map (fun (x : Nat) => DataW.lit (H := Unit) (.int .u8 (x : Int))) = m.map (fun (x : Nat) => .lit (.int .u8 (x : Int))) := by
    simpa [secD] using h
  exact (List.map_inj_right (fun x y e => by
    have : (x : Int) = y := by simpa using e
    omega)).1 h
def kz (i : Nat) : Lit := .int .i64 (i : Int)
theorem kz_key (i : Nat) : WideAt.IsKeyLit (kz i) := by simp [kz, WideAt.IsKeyLit]
theorem kz_inj {i j : Nat} (h : kz i = kz j) : i = j := by
  have : (i : Int) = j := by simpa [kz] using h
  omega
def upd {α : Type} (f : Nat → α) (i : Nat) (v : α) : Nat → α := fun j => if j = i then v else f j
/-- The map's datum holds what was written. -/
structure MpD (E : DataW Unit) (N : Nat) (nw : Nat → Option (List Nat)) : Prop where
  a : ∀ i l, nw i = some l → Maps.has E (kz i) = true ∧ ∀ z, E.atKey (kz i) z = secD l
  b : ∀ kl, Maps.has E kl = true → ∃ i, i < N ∧ kl = kz i ∧ (nw i).isSome = true
theorem MpD.nil (N : Nat) : MpD (.map []) N (fun _ => none) := ⟨fun i l h => (by cases h), fun kl h => (by cases h)⟩
theorem MpD.put {E : DataW Unit} {N : Nat} {nw : Nat → Option (List Nat)} (h : MpD E N nw) (hE : IsMap E) (i : Nat) (hi : i < N) (l : List Nat) : MpD (E.put (kz i) (secD l)) N (upd nw i (some l)) := by
  refine ⟨fun j m hj => ?_, fun kl hk => ?_⟩
  · by_cases e : j = i
    · subst e
      simp only [upd, if_true, Option.some.injEq] at hj
      subst hj
      exact ⟨has_put_same hE (kz_key _) _, fun z => atKey_put_same hE (kz_key _) _ _⟩
    · simp only [upd, if_neg e] at hj
      have hne : kz j ≠ kz i := fun e2 => e (kz_inj e2)
      exact ⟨by rw [has_put_other hne]; exact (h.a j m hj).1, fun z => by rw [atKey_put_other hne]; exact (h.a j m hj).2 z⟩
  · by_cases e : kl = kz i
    · exact ⟨i, hi, e, by simp [upd]⟩
    · rw [has_put_other e] at hk
      obtain ⟨j, hj, rfl, hs⟩ := h.b kl hk
      refine ⟨j, hj, rfl, ?_⟩
      have : j ≠ i := fun e2 => e (by rw [e2])
      simpa [upd, this] using hs
theorem MpD.not {E : DataW Unit} {N : Nat} {nw : Nat → Option (List Nat)} (h : MpD E N nw) {i : Nat} (hi : nw i = none) : Maps.has E (kz i) = false := by
  cases hh : Maps.has E (kz i) with
  | false => rfl
  | true =>
    obtain ⟨j, _, e, hs⟩ := h.b _ hh
    rw [← kz_inj e, hi] at hs
    cases hs
/-- The places of what was written, rising. -/
def wrs (N : Nat) (nw : Nat → Option (List Nat)) : List Nat := (List.range N).filter fun i => (nw i).isSome
/-- How many were written of the first i. -/
def rk (nw : Nat → Option (List Nat)) (i : Nat) : Nat := (wrs i nw).length
theorem wrs_mem {N : Nat} {nw : Nat → Option (List Nat)} {i : Nat} : i ∈ wrs N nw ↔ i < N ∧ (nw i).isSome = true := by
  simp [wrs, List.mem_filter]
theorem wrs_lt (N : Nat) (nw : Nat → Option (List Nat)) : (wrs N nw).Pairwise (· < ·) := List.Pairwise.filter _ List.pairwise_lt_range
theorem wrs_le (N : Nat) (nw : Nat → Option (List Nat)) : (wrs N nw).length ≤ N := by
  have := List.length_filter_le (fun i => (nw i).isSome) (List.range N)
  simpa [wrs] using this
/-- Two rising lists of the same numbers are one. -/
theorem rising_eq : ∀ {a b : List Int}, a.Pairwise (· < ·) → b.Pairwise (· < ·) → (∀ x, x ∈ a ↔ x ∈ b) → a = b
  | [], [], _, _, _ => rfl
  | [], y :: b, _, _, h => by have := (h y).2 (by simp); cases this
  | x :: a, [], _, _, h => by have := (h x).1 (by simp); cases this
  | x :: a, y :: b, ha, hb, h => by
    have ha1 := List.pairwise_cons.1 ha
    have hb1 := List.pairwise_cons.1 hb
    have e : x = y := by
      have h1 := (h x).1 (by simp)
      have h2 := (h y).2 (by simp)
      rcases List.mem_cons.1 h1 with h1 | h1
      · exact h1
      · rcases List.mem_cons.1 h2 with h2 | h2
        · exact h2.symm
        · have := hb1.1 x h1
          have := ha1.1 y h2
          omega
    subst e
    refine congrArg (x :: ·) (rising_eq ha1.2 hb1.2 (fun z => ⟨fun hz => ?_, fun hz => ?_⟩))
    · rcases List.mem_cons.1 ((h z).1 (by simp [hz])) with e | e
      · have := ha1.1 z hz; omega
      · exact e
    · rcases List.mem_cons.1 ((h z).2 (by simp [hz])) with e | e
      · have := hb1.1 z hz; omega
      · exact e
theorem MpD.keys {E : DataW Unit} {N : Nat} {nw : Nat → Option (List Nat)} (h : MpD E N nw) (hT : Canon E) {ss : List Int} (hs : ss.Perm (intKeys E)) :
    ss.mergeSort (fun x y => decide (x ≤ y)) = (wrs N nw).map (fun (i : Nat) => (i : Int)) := by
  obtain ⟨es, rfl, hes, hk⟩ := hT
  have hap := apart_of_rising hes
  have hkey : ∀ p ∈ es, ∃ i, i < N ∧ p.1 = kz i ∧ (nw i).isSome = true := fun p hp => h.b p.1 (List.any_eq_true.2 ⟨p, hp, WideAt.sameKey_self (hk p hp)⟩)
  have hnd : (intKeys (DataW.map es)).Pairwise (· ≠ ·) := by
    show (es.map fun p => Go.intOf p.1).Pairwise (· ≠ ·)
    rw [List.pairwise_map]
    refine List.Pairwise.imp_of_mem (fun {p q} hp hq hne => ?_) hap
    obtain ⟨i, _, e1, _⟩ := hkey p hp
    obtain ⟨j, _, e2, _⟩ := hkey q hq
    rw [e1, e2] at hne ⊢
    intro e
    exact hne (by simpa [kz, Go.intOf] using e)
  have hP := List.mergeSort_perm ss (fun x y => decide (x ≤ y))
  have hle := List.pairwise_mergeSort (le := fun (x y : Int) => decide (x ≤ y)) (fun a b c h1 h2 => by simp at *; omega) (fun a b => by simp; omega) ss
  have hnd2 : (ss.mergeSort (fun x y => decide (x ≤ y))).Pairwise (· ≠ ·) := (hP.trans hs).symm.pairwise hnd (fun {a b} h => Ne.symm h)
  refine rising_eq ((hle.and hnd2).imp (fun {a b} ⟨h1, h2⟩ => by simp at h1; omega)) ?_ (fun x => ?_)
  · rw [List.pairwise_map]
    exact (wrs_lt N nw).imp (fun {a b} h => by omega)
  · rw [(hP.trans hs).mem_iff]
    constructor
    · intro hx
      obtain ⟨p, hp, rfl⟩ := List.mem_map.1 hx
      obtain ⟨i, hi, e, hsm⟩ := hkey p hp
      exact List.mem_map.2 ⟨i, wrs_mem.2 ⟨hi, hsm⟩, by rw [e]; rfl⟩
    · intro hx
      obtain ⟨i, hi, rfl⟩ := List.mem_map.1 hx
      obtain ⟨l, hl⟩ := Option.isSome_iff_exists.1 (wrs_mem.1 hi).2
      obtain ⟨p, hp, hps⟩ := List.any_eq_true.1 (h.a i l hl).1
      refine List.mem_map.2 ⟨p, hp, ?_⟩
      have := WideAt.sameKey_eq hps
      rw [this]
      rfl
theorem MpD.size {E : DataW Unit} {N : Nat} {nw : Nat → Option (List Nat)} (h : MpD E N nw) (hT : Canon E) : Maps.size E ≤ N := by
  have h1 := congrArg List.length (h.keys hT (List.Perm.refl _))
  obtain ⟨es, rfl, _⟩ := hT
  rw [List.length_mergeSort, List.length_map] at h1
  have h2 : (intKeys (DataW.map es)).length = es.length := by simp [intKeys]
  have h3 : Maps.size (DataW.map es) = es.length := rfl
  have h4 := wrs_le N nw
  omega
end Go.Proofs.Ytjgpopjpmfkfmaa
namespace Go.Proofs.Ytjgpopjpmfkfmaa
set_option maxRecDepth 100000
open Go.RowKit Go.Maps
attribute [local go_sem ↓] Go.wp_at_zero Go.wp_at_succ

/-- The map of what was written lies in block mb. -/
def Mp (w : World) (mb : Nat) (D : DM) : Prop := ∃ E, w.ownsMap Try.prog 3 secR mb (Maps.size E) E ∧ MpD E D.n D.nw
/-- The program's disk lies in block b, what lasts in lb, what was written in mb. -/
structure Dsk (w : World) (b lb mb : Nat) (D : DM) : Prop where
  c0 : w.cell? ⟨b, 0, none⟩ = some (.slice (some ⟨lb, 0, none⟩) D.n D.n)
  c1 : w.cell? ⟨b, 1, none⟩ = some (.map (some mb))
  c2 : w.cell? ⟨b, 2, none⟩ = some (.bool D.fu.isSome)
  c3 : w.cell? ⟨b, 3, none⟩ = some (.int .i64 ((D.fu.getD 0 : Nat) : Int))
  c4 : w.cell? ⟨b, 4, none⟩ = some (.bool D.dn)
  z : ∀ i, i < 5 → w.frozen? ⟨b, i, none⟩ = false
  bl : b < w.heap.size
  ll : lb < w.heap.size
  rows : ∀ i, i < D.n → w.rangeAt lb (i * 64) (cells8 (D.la i))
  th : w.there lb 0 (D.n * 64)
  mp : Mp w mb D
  n1 : b ≠ lb
  n2 : b ≠ mb
  n3 : lb ≠ mb
  ok : D.ok
theorem Mp.lt {w : World} {mb : Nat} {D : DM} (h : Mp w mb D) : mb < w.heap.size := by
  obtain ⟨E, h, _⟩ := h
  exact h.lt
theorem Mp.keep {w w' : World} {mb : Nat} {D : DM} (h : Mp w mb D) (e : w'.heap[mb]? = w.heap[mb]?) : Mp w' mb D := by
  obtain ⟨E, ⟨es, clock, hb, r⟩, hE⟩ := h
  exact ⟨E, ⟨es, clock, e.trans hb, r⟩, hE⟩
/-- What a disk's calls may write. -/
def X3 (b lb mb : Nat) (k : Nat) : Bool := Nat.beq k b || Nat.beq k lb || Nat.beq k mb
theorem X3_of {b lb mb k : Nat} : X3 b lb mb k = true ↔ k = b ∨ k = lb ∨ k = mb := by
  simp only [X3, Bool.or_eq_true, Nat.beq_eq, or_assoc]
theorem Dsk.same {w w' : World} {b lb mb : Nat} {D : DM} (h : Dsk w b lb mb D) (hs : w.heap.size ≤ w'.heap.size) (hb : ∀ k, X3 b lb mb k = true → w'.heap[k]? = w.heap[k]?) : Dsk w' b lb mb D := by
  have e1 := hb b (X3_of.2 (Or.inl rfl))
  have e2 := hb lb (X3_of.2 (Or.inr (Or.inl rfl)))
  have e3 := hb mb (X3_of.2 (Or.inr (Or.inr rfl)))
  have c1 : ∀ o, w'.cell? ⟨b, o, none⟩ = w.cell? ⟨b, o, none⟩ := fun o => World.cell?_of_block (w := w) e1
  have c2 : ∀ o, w'.cell? ⟨lb, o, none⟩ = w.cell? ⟨lb, o, none⟩ := fun o => World.cell?_of_block (w := w) e2
  have f1 : ∀ o, w'.frozen? ⟨b, o, none⟩ = w.frozen? ⟨b, o, none⟩ := fun o => World.frozen?_of_block (w := w) e1
  have f2 : ∀ o, w'.frozen? ⟨lb, o, none⟩ = w.frozen? ⟨lb, o, none⟩ := fun o => World.frozen?_of_block (w := w) e2
  exact ⟨(c1 0).trans h.c0, (c1 1).trans h.c1, (c1 2).trans h.c2, (c1 3).trans h.c3, (c1 4).trans h.c4, fun i hi => (f1 i).trans (h.z i hi), Nat.lt_of_lt_of_le h.bl hs, Nat.lt_of_lt_of_le h.ll hs,
    fun i hi j v hv => (c2 _).trans (h.rows i hi j v hv), fun j hj => ⟨by rw [c2]; exact (h.th j hj).1, by rw [f2]; exact (h.th j hj).2⟩, h.mp.keep e3, h.n1, h.n2, h.n3, h.ok⟩
theorem Dsk.keep {w w' : World} {b lb mb : Nat} {D : DM} (h : Dsk w b lb mb D) (hb : Below w.heap.size w w') : Dsk w' b lb mb D :=
  h.same hb.size (fun k hk => hb.block k (by
    rcases X3_of.1 hk with rfl | rfl | rfl
    · exact h.bl
    · exact h.ll
    · exact h.mp.lt))
theorem Kp.of {X : Nat → Bool} {w w' : World} (hb : Below w.heap.size w w') : Kp X w w' := (Kp.refl X w).grow hb
theorem Kp.trans {X : Nat → Bool} {w w1 w2 : World} (h : Kp X w w1) (h2 : Kp X w1 w2) : Kp X w w2 :=
  ⟨h2.os.trans h.os, h2.tape.trans h.tape, h2.output.trans h.output, Nat.le_trans h.size h2.size, fun k hk hx => (h2.block k (Nat.lt_of_lt_of_le hk h.size) hx).trans (h.block k hk hx)⟩

abbrev pp (b : Nat) : Value := .pointer (some ⟨b, 0, none⟩)
theorem down_any {w : World} {b lb mb : Nat} {D : DM} (h : Dsk w b lb mb D) : Calls Try.prog 24 #[pp b] w fun e w' => e = .returned (.bool D.dn) ∧ w' = w := by
  have h4 := h.c4
  clear h
  go_enter Try.func24, Try.ntmps24
  go_wp2_with fail
  go_ret
  exact ⟨rfl, rfl⟩
theorem size_any {w : World} {b lb mb : Nat} {D : DM} (h : Dsk w b lb mb D) : Calls Try.prog 36 #[pp b] w fun e w' => e = .returned (.int .i64 (D.n : Int)) ∧ w' = w := by
  have h0 := h.c0
  clear h
  go_enter Try.func36, Try.ntmps36
  go_wp2_with fail
  go_ret
  exact ⟨rfl, rfl⟩
theorem has_any {w : World} {b lb mb : Nat} {D : DM} (h : Dsk w b lb mb D) (i : Int) : Calls Try.prog 58 #[pp b, .int .i64 i] w fun e w' => e = .returned (.bool (decide (0 ≤ i ∧ i < D.n))) ∧ w' = w := by
  have h0 := h.c0
  clear h
  by_cases hi : 0 ≤ i
  · go_enter Try.func58, Try.ntmps58
    go_wp2_with fail
    go_ret
    exact ⟨by simp [hi], rfl⟩
  · have hd : decide (0 ≤ i) = false := decide_eq_false hi
    go_enter Try.func58, Try.ntmps58
    go_wp2_with fail
    go_ret
    exact ⟨by simp, rfl⟩
end Go.Proofs.Ytjgpopjpmfkfmaa
namespace Go.Proofs.Ytjgpopjpmfkfmaa
set_option maxRecDepth 100000
open Go.RowKit Go.Maps
attribute [local go_sem ↓] Go.wp_at_zero Go.wp_at_succ

/-- Another world in which only the disk's own cells have turned. -/
theorem Dsk.head {w w' : World} {b lb mb : Nat} {D D' : DM} (h : Dsk w b lb mb D) (hs : w.heap.size ≤ w'.heap.size) (hb : ∀ k, k ≠ b → k < w.heap.size → w'.heap[k]? = w.heap[k]?) (hz : ∀ i, w'.frozen? ⟨b, i, none⟩ = w.frozen? ⟨b, i, none⟩)
    (c0 : w'.cell? ⟨b, 0, none⟩ = some (.slice (some ⟨lb, 0, none⟩) D.n D.n)) (c1 : w'.cell? ⟨b, 1, none⟩ = some (.map (some mb))) (c2 : w'.cell? ⟨b, 2, none⟩ = some (.bool D'.fu.isSome)) (c3 : w'.cell? ⟨b, 3, none⟩ = some (.int .i64 ((D'.fu.getD 0 : Nat) : Int))) (c4 : w'.cell? ⟨b, 4, none⟩ = some (.bool D'.dn))
    (e1 : D'.n = D.n) (e2 : D'.la = D.la) (e3 : D'.nw = D.nw) (hf : ∀ k, D'.fu = some k → k < 9223372036854775808) : Dsk w' b lb mb D' := by
  obtain ⟨n, la, nw, fu, dn⟩ := D
  obtain ⟨n', la', nw', fu', dn'⟩ := D'
  simp only at e1 e2 e3
  subst e1 e2 e3
  have e2 := hb lb (Ne.symm h.n1) h.ll
  have e3 := hb mb (Ne.symm h.n2) h.mp.lt
  have c2' : ∀ o, w'.cell? ⟨lb, o, none⟩ = w.cell? ⟨lb, o, none⟩ := fun o => World.cell?_of_block (w := w) e2
  have f2 : ∀ o, w'.frozen? ⟨lb, o, none⟩ = w.frozen? ⟨lb, o, none⟩ := fun o => World.frozen?_of_block (w := w) e2
  obtain ⟨E, ⟨es, clock, hbm, r⟩, hE⟩ := h.mp
  exact ⟨c0, c1, c2, c3, c4, fun i hi => (hz i).trans (h.z i hi), Nat.lt_of_lt_of_le h.bl hs, Nat.lt_of_lt_of_le h.ll hs,
    fun i hi j v hv => (c2' _).trans (h.rows i hi j v hv), fun j hj => ⟨by rw [c2']; exact (h.th j hj).1, by rw [f2]; exact (h.th j hj).2⟩, ⟨E, ⟨es, clock, e3.trans hbm, r⟩, hE⟩, h.n1, h.n2, h.n3, ⟨h.ok.n, h.ok.la, h.ok.nw, hf⟩⟩
theorem kp_set {b lb mb : Nat} {w : World} (o : Nat) (v : Value) : Kp (X3 b lb mb) w (w.setCell ⟨b, o, none⟩ v) := (Kp.refl _ w).setCell (p := ⟨b, o, none⟩) (Or.inr (X3_of.2 (Or.inl rfl))) v
/-- One operation more, by the fuse. -/
def DM.burn (D : DM) : DM := match D.fu with
  | none => D
  | some 0 => { D with dn := true }
  | some (k + 1) => { D with fu := some k }
def DM.may (D : DM) : Bool := match D.fu with
  | some 0 => false
  | _ => true
theorem burn_any {w : World} {b lb mb : Nat} {D : DM} (h : Dsk w b lb mb D) : Calls Try.prog 59 #[pp b] w fun e w' => e = .returned (.bool D.may) ∧ Dsk w' b lb mb D.burn ∧ Kp (X3 b lb mb) w w' := by
  have HD := hide h
  obtain ⟨n, la, nw, fu, dn⟩ := D
  have h0 := h.c0
  have h1 := h.c1
  have h2 := h.c2
  have h3 := h.c3
  have h4 := h.c4
  have z3 := h.z 3 (by omega)
  have z4 := h.z 4 (by omega)
  have hf := h.ok.fu
  clear h
  simp only at h0 h1 h2 h3 h4 hf
  cases fu with
  | none =>
    simp only [Option.isSome_none, Option.getD_none] at h2 h3
    go_enter Try.func59, Try.ntmps59
    go_wp2_with fail
    go_ret
    exact ⟨rfl, HD.out, Kp.refl _ _⟩
  | some k =>
    cases k with
    | zero =>
      simp only [Option.isSome_some, Option.getD_some] at h2 h3
      go_enter Try.func59, Try.ntmps59
      go_wp2_with fail
      go_ret
      refine ⟨rfl, HD.out.head (by simp) (fun k hk _ => Below.heap_setCell _ _ _ _ hk) (fun i => World.frozen?_setCell _ _ _ _) ?_ ?_ ?_ ?_ ?_ rfl rfl rfl hf, kp_set _ _⟩
      all_goals simp [go_sem, *, DM.burn]
    | succ k =>
      have hk := hf (k + 1) rfl
      simp only [Option.isSome_some, Option.getD_some] at h2 h3
      have hne : ((((k + 1 : Nat) : Int)) == 0) = false := by simp; omega
      obtain ⟨q, hq⟩ : ∃ q : Int, q = ((k + 1 : Nat) : Int) := ⟨_, rfl⟩
      rw [← hq] at h3 hne
      have hw : wrap64 (q - 1) = (k : Int) := by rw [hq]; unfold wrap64; omega
      clear hq
      go_enter Try.func59, Try.ntmps59
      go_wp2_with fail
      go_ret
      refine ⟨rfl, HD.out.head (by simp) (fun k hk _ => Below.heap_setCell _ _ _ _ hk) (fun i => World.frozen?_setCell _ _ _ _) ?_ ?_ ?_ ?_ ?_ rfl rfl rfl (fun j hj => by cases hj; omega), kp_set _ _⟩
      all_goals simp [go_sem, *, DM.burn]
/-- A fuse of n; none, if n is below 0. -/
def DM.fuse (D : DM) (i : Int) : DM := { D with fu := if 0 ≤ i then some i.toNat else none }
/-- Truths in memory. -/
def Kb (w : World) (z : Option Addr) (K : List Bool) : Prop := K = [] ∨ ∃ b o, z = some ⟨b, o, none⟩ ∧ ∀ i v, K[i]? = some v → w.cell? ⟨b, o + i, none⟩ = some (.bool v)
theorem Kb.keep {W w1 : World} {z : Option Addr} {K : List Bool} (h : Kb W z K) (hb : Below W.heap.size W w1) : Kb w1 z K :=
  h.elim Or.inl fun ⟨b, o, e, hr⟩ => Or.inr ⟨b, o, e, fun i v hv => later hb (hr i v hv)⟩
/-- How many bytes a fate leaves of what was written. -/
def lv (K : List Bool) (t at_ : Int) (p : Nat) : Nat := if (p : Int) = t then ((max at_ 0) % 65).toNat else if K.getD p false then 64 else 0
end Go.Proofs.Ytjgpopjpmfkfmaa
namespace Go.Proofs.Ytjgpopjpmfkfmaa
set_option maxRecDepth 100000
open Go.RowKit Go.Maps
attribute [local go_sem ↓] Go.wp_at_zero Go.wp_at_succ

def z64 : List Nat := List.replicate 64 0
theorem z64_sec : sec z64 := ⟨rfl, fun x hx => by have := List.eq_of_mem_replicate hx; omega⟩
theorem infoSec : (Try.prog.info? 98).map (fun i => (i.zero, i.size, i.bytes)) = some (some (secV z64), 64, 64) := by kernel_rfl
theorem sizeSec : (Try.prog.info? 98).map (·.size) = some 64 := by kernel_rfl
theorem made_at (n i : Nat) (h : i < n) : (madeCells (secV z64).cells n)[i]? = some (.int .u8 0) := by
  have e : (secV z64).cells = Array.replicate 64 (.int .u8 0) := by
    show ((List.replicate 64 0).map _).toArray = _
    rw [List.map_replicate, List.toArray_replicate]
    rfl
  rw [e]
  have hz : (Array.replicate 64 (Value.int .u8 0))[i % 64]! = .int .u8 0 := by
    rw [getElem!_pos (Array.replicate 64 (Value.int .u8 0)) (i % 64) (by simp; omega)]
    simp
  simp only [madeCells, Array.size_replicate, Array.getElem?_map, Array.getElem?_range, h, if_true, Option.map_some, hz]
/-- A disk that was just made. -/
def DM.new (n : Nat) : DM := ⟨n, fun _ => z64, fun _ => none, none, false⟩
theorem DM.new_ok {n : Nat} (h : n ≤ 4096) : (DM.new n).ok := ⟨h, fun _ => z64_sec, fun i l h => (by cases h), fun k h => (by cases h)⟩
theorem wpList_make_secs (w : World) {ops : Array Oper} {rest : List Oper} {o : Oper} {a : Act} {Q : Exit → Act → World → Prop} (hgd : o.guard = none) (l c : Operand) (hop : o.op = Op.makeSlice 67 l c)
    (L : Int) (n : Nat) (hl : a.eval l = .int .i64 L) (hc : a.eval c = .int .i64 L) (hL : L = (n : Int)) (hm : n ≤ 4096)
    (hK : ∀ w', w' = w.alloc (.cells (madeCells (secV z64).cells (n * 64)) 98) → wpList Try.prog ops Q rest (a.put o.dst (.slice (some ⟨w.heap.size, 0, none⟩) n n)) w') :
    wpList Try.prog ops Q (o :: rest) a w := by
  refine wpList_plain hgd fun K hK' => ?_
  subst hL
  obtain ⟨i0, hi, hz0, hz1, hz2⟩ := info_parts infoSec
  have hr := run_make (P := Try.prog) w 67 98 i0 (secV z64) Try.underlying67 hi hz0 .i64 .i64 n n (by omega) (by omega) (by rw [hz2]; omega) (by omega)
  simp only [Int.toNat_natCast, hz1] at hr
  unfold Oper.wp
  simp [execOp, hop, hl, hc, hr, Result.andThen]
  exact hK' _ _ (hK _ rfl)
/-- What New answers. -/
def NewD (w : World) (n : Nat) (e : Ending) (w' : World) : Prop := ∃ b lb mb, e = .returned (.tuple #[pp b, .int .i64 0]) ∧ Dsk w' b lb mb (.new n) ∧ w.heap.size ≤ b ∧ w.heap.size ≤ lb ∧ w.heap.size ≤ mb ∧ Below w.heap.size w w'
theorem new_dsk {n : Nat} (hn : n ≤ 4096) {w W1 : World} (h1 : W1 = w.alloc (.cells (madeCells (secV z64).cells (n * 64)) 98)) {o : Obj} (ho : o = .cells #[.slice (some ⟨w.heap.size, 0, none⟩) n n, .map (some W1.heap.size), .bool false, .int .i64 0, .bool false] 70) :
    Dsk ((W1.alloc (.map #[] 0)).alloc o) (W1.heap.size + 1) w.heap.size W1.heap.size (.new n) := by
  have hs : W1.heap.size = w.heap.size + 1 := by rw [h1]; simp
  have hB : Below W1.heap.size W1 ((W1.alloc (.map #[] 0)).alloc o) := K.alloc (K.alloc (Below.refl _ _) _) _
  have hl : W1.heap[w.heap.size]? = some (.cells (madeCells (secV z64).cells (n * 64)) 98) := by rw [h1]; exact heap_alloc_new w _
  have hl2 : ((W1.alloc (.map #[] 0)).alloc o).heap[w.heap.size]? = some (.cells (madeCells (secV z64).cells (n * 64)) 98) := (hB.block _ (by omega)).trans hl
  have hb2 : ((W1.alloc (.map #[] 0)).alloc o).heap[W1.heap.size + 1]? = some o := by
    have := heap_alloc_new (W1.alloc (.map #[] 0)) o
    simpa using this
  have hm : ((W1.alloc (.map #[] 0)).alloc o).ownsMap (H := Unit) Try.prog 3 secR W1.heap.size 0 (.map []) := (World.ownsMap_made W1 Try.prog 3 secR).alloc o
  have cl : ∀ j, j < n * 64 → ((W1.alloc (.map #[] 0)).alloc o).cell? ⟨w.heap.size, j, none⟩ = some (.int .u8 0) := fun j hj => by
    unfold World.cell?
    simp only [hl2]
    exact made_at _ _ hj
  have fl : ∀ j, ((W1.alloc (.map #[] 0)).alloc o).frozen? ⟨w.heap.size, j, none⟩ = false := fun j => by
    unfold World.frozen?
    simp [hl2]
  subst ho
  refine ⟨?_, ?_, ?_, ?_, ?_, ?_, by simp, by simp; omega, fun i hi j v hv => ?_, fun j hj => ?_, ⟨.map [], hm, MpD.nil n⟩, by omega, by omega, by omega, DM.new_ok hn⟩
  · unfold World.cell?
    simp only [hb2]
    rfl
  · unfold World.cell?
    simp only [hb2]
    rfl
  · unfold World.cell?
    simp only [hb2]
    rfl
  · unfold World.cell?
    simp only [hb2]
    rfl
  · unfold World.cell?
    simp only [hb2]
    rfl
  · intro i _
    unfold World.frozen?
    simp only [hb2]
    simp
  · have hj : j < 64 := by
      have := (List.getElem?_eq_some_iff.1 hv).1
      rw [cells8_len] at this
      exact this
    have hi' : i < n := hi
    rw [cl _ (by omega)]
    have : (cells8 z64)[j]? = some v := hv
    rw [cells8_at _ _ (by exact hj)] at this
    have e : z64.getD j 0 = 0 := by rw [z64, List.getD_eq_getElem?_getD, List.getElem?_replicate, if_pos hj]; rfl
    rw [e] at this
    exact this
  · have hj' : j < n * 64 := hj
    rw [Nat.zero_add, cl j hj', fl j]
    exact ⟨rfl, rfl⟩
set_option maxHeartbeats 4000000 in
theorem new_any {n : Nat} (h : n ≤ 4096) (w : World) : Calls Try.prog 10 #[.int .i64 (n : Int)] w (NewD w n) := by
  have HN := hide h
  have h0 : decide ((n : Int) < 0) = false := decide_eq_false (by omega)
  have h1 : decide ((4096 : Int) < (n : Int)) = false := decide_eq_false (by omega)
  have h2 : ¬ (4096 : Int) < (n : Int) := by omega
  have hmm := @run_makeMap Try.prog
  clear h
  go_enter Try.func10, Try.ntmps10
  go_wp2_with (first | (refine wpList_make_secs _ rfl _ _ rfl _ n (by rfl) (by rfl) rfl HN.out ?_; intro W1 hW1; replace hW1 := hide hW1))
  have hs : W1.heap.size = w.heap.size + 1 := by rw [hW1.out]; simp
  have hD := new_dsk HN.out hW1.out rfl
  have hB : Below w.heap.size w W1 := by rw [hW1.out]; exact K.alloc (Below.refl _ _) _
  exact bodyPost_ret (by simp [results, Try.results10]) rfl ⟨W1.heap.size + 1, w.heap.size, W1.heap.size, rfl, hD, by omega, Nat.le_refl _, by omega, K.alloc (K.alloc hB _) _⟩
end Go.Proofs.Ytjgpopjpmfkfmaa
namespace Go.Proofs.Ytjgpopjpmfkfmaa
set_option maxRecDepth 100000
open Go.RowKit Go.Maps

theorem wanted_pos {c : Bool} {A B : Prop} (h : c = true) (a : A) : if c = true then A else B := by rw [if_pos h]; exact a
theorem wp_call {F : Nat} {op : Oper} {a : Act} {w : World} {Kt : Act → World → Prop} {Q : Exit → Act → World → Prop} {xs : Array Operand} {ts : Array TypeId} {vs : Array Value} {R : Value → World → Prop} (ho : op.op = .call { callee := .value (.func F), args := xs, argTypes := ts }) (hx : xs.map a.eval = vs) (hE : (callFunc F vs).run Try.prog w = .ok (.enter F vs) w)
    (hC : Calls Try.prog F vs w fun e w' => ∃ r, e = .returned r ∧ R r w') (h : ∀ r w', R r w' → Kt (a.put op.dst r) w') : Oper.wp Try.prog op a w Kt Q := by
  have hf : a.eval (.func F) = .func (.func F) #[] #[] := rfl
  unfold Oper.wp execOp
  simp only [ho, resolve, invoke, hf, Deferred.ofValue, hx, Sem.run_bind, Sem.run_pure, Result.andThen_ok]
  rw [show (#[] ++ vs ++ #[] : Array Value) = vs by simp, hE, Oper.upon_enter]
  refine Calls.mono hC ?_
  rintro e w' ⟨r, rfl, hr⟩
  exact h r w' hr
theorem keyed3 : Keyed Try.prog 3 := int_keyed Try.underlying3
theorem key_of {i : Nat} (h : i < 4096) : keyOf Try.prog 3 (.int .i64 (i : Int)) = some (kz i) := keyOf_int_mk Try.underlying3 (WalkArith.wf_i64 (by omega))
theorem zeroSec (w : World) : (zeroValue 98).run Try.prog w = .ok (secV z64) w := by kernel_rfl
theorem cells8_len' {l : List Nat} (h : sec l) : (cells8 l).length = 64 := by rw [cells8_len]; exact h.1
/-- What stands in the cache, or what noughts are. -/
theorem Mp.look {w : World} {mb : Nat} {D : DM} (h : Mp w mb D) {i : Nat} (hi : i < 4096) (c : Bool) :
    (Instr.lookup 68 (.map (some mb)) (.int .i64 (i : Int)) c).run Try.prog w = .ok (if c then .tuple #[secV ((D.nw i).getD z64), .bool (D.nw i).isSome] else secV ((D.nw i).getD z64)) w := by
  obtain ⟨E, hown, hE⟩ := h
  have key : ∀ v ps, secR v = some (E.atKey (kz i) (secD z64), ps) → v = secV ((D.nw i).getD z64) ∧ Maps.has E (kz i) = (D.nw i).isSome := fun v ps hv => by
    obtain ⟨l, hl, rfl, e⟩ := secR_inv hv
    have e1 := congrArg Prod.fst e
    simp only at e1
    cases hn : D.nw i with
    | none =>
      have hh := hE.not hn
      rw [atKey_of_not_has hh] at e1
      rw [← secD_inj e1]
      exact ⟨rfl, hh⟩
    | some m =>
      obtain ⟨h1, h2⟩ := hE.a i m hn
      rw [h2] at e1
      rw [← secD_inj e1]
      exact ⟨rfl, h1⟩
  cases c with
  | false =>
    obtain ⟨v, ps, hr, hv⟩ := hown.lookup keyed3 Try.underlying68 (zeroSec w) (secR_mk z64_sec) (key_of hi)
    rw [hr, (key v ps hv).1]
    rfl
  | true =>
    obtain ⟨v, ps, hr, hv⟩ := hown.look_ok keyed3 Try.underlying68 (zeroSec w) (secR_mk z64_sec) (key_of hi)
    rw [hr, (key v ps hv).1, (key v ps hv).2]
    rfl
theorem own_size {w : World} {mb n : Nat} {E : DataW Unit} (h : w.ownsMap Try.prog 3 secR mb n E) : w.ownsMap Try.prog 3 secR mb (Maps.size E) E := by
  obtain ⟨es, clock, hb, F, hs, rfl⟩ := h
  exact ⟨es, clock, hb, F, by simp [Maps.size, length_sorted], rfl⟩
/-- A sector is written. -/
theorem Mp.write {w : World} {mb : Nat} {D : DM} (h : Mp w mb D) (hok : D.ok) {i : Nat} (hi : i < D.n) {l : List Nat} (hl : sec l) :
    ∃ w', (Instr.mapUpdate 68 (.map (some mb)) (.int .i64 (i : Int)) (secV l)).run Try.prog w = .ok () w' ∧ Mp w' mb { D with nw := upd D.nw i (some l) } ∧ w.grownBy w' (some mb) := by
  obtain ⟨E, hown, hE⟩ := h
  have hsz := hE.size (hown.canon keyed3)
  have hn := hok.n
  obtain ⟨w', hr, h1, h2⟩ := hown.update keyed3 Try.underlying68 (by unfold maxLen; omega) (key_of (i := i) (by omega)) (secR_mk hl)
  exact ⟨w', hr, ⟨_, own_size h1, hE.put hown.isMap i hi l⟩, h2⟩
/-- Nothing is written any more. -/
theorem Mp.clear {w : World} {mb : Nat} {D : DM} (h : Mp w mb D) (ty : TypeId) :
    ∃ w', (Builtin.clear_ #[68] ty #[.map (some mb)]).run Try.prog w = .ok (.tuple #[]) w' ∧ Mp w' mb { D with nw := fun _ => none } ∧ w.grownBy w' (some mb) := by
  obtain ⟨E, ⟨es, clock, hb, F, hs, rfl⟩, hE⟩ := h
  refine ⟨ChangeMaps.setBlock w mb (.map #[] clock), ?_, ⟨.map [], ⟨#[], clock, ChangeMaps.heap_setBlock_same hb _, ⟨by simp, MapKept.stamped_empty clock, by simp⟩, Nat.le_refl _, rfl⟩, MpD.nil _⟩, ⟨rfl, rfl, rfl, by simp [ChangeMaps.setBlock], fun i _ hi => ChangeMaps.heap_setBlock_other hb _ (fun e => hi (by rw [e]))⟩⟩
  simp [Builtin.clear_, run_underlying Try.underlying68, MapKept.run_getObj_map hb, MapKept.run_setObj_map _ hb, Result.andThen]
  rfl
/-- A variable that is a sector is put anew. -/
structure Var (w w' : World) (g : Nat) (l : List Nat) : Prop where
  bl : Below w.heap.size w w'
  ge : w.heap.size ≤ g
  lt : g < w'.heap.size
  r : w'.rangeAt g 0 (cells8 l)
  t : w'.there g 0 64
section
variable {w : World} {ops : Array Oper} {rest : List Oper} {o : Oper} {a : Act} {Q : Exit → Act → World → Prop}
theorem wpList_look_sec (hgd : o.guard = none) (m x : Operand) (c : Bool) (hop : o.op = Op.lookup 68 m x c) {mb : Nat} {D : DM} (h : Mp w mb D) (hm : a.eval m = .map (some mb)) {i : Nat} (hx : a.eval x = .int .i64 (i : Int)) (hi : i < 4096) (hK : wpList Try.prog ops Q rest (a.put o.dst (if c then .tuple #[secV ((D.nw i).getD z64), .bool (D.nw i).isSome] else secV ((D.nw i).getD z64))) w) : wpList Try.prog ops Q (o :: rest) a w := by
  refine wpList_plain hgd fun K' hK' => ?_
  have hrun := h.look hi c
  unfold Oper.wp
  simp only [execOp, hop, hm, hx, hrun, Sem.run_bind, Sem.run_pure, Result.andThen_ok]
  exact hK' _ _ hK
theorem wpList_alloc_sec (hgd : o.guard = none) (hop : o.op = Op.alloc 98) (hK : ∀ w', Var w w' w.heap.size z64 → wpList Try.prog ops Q rest (a.put o.dst (pp w.heap.size)) w') : wpList Try.prog ops Q (o :: rest) a w := by
  refine wpList_plain hgd fun K' hK' => ?_
  unfold Oper.wp
  have hrun : (execOp a.eval o).run Try.prog w = .ok (.value (pp w.heap.size)) (w.alloc (.cells (cells8 z64).toArray 98)) := by
    unfold execOp
    simp [hop, Instr.alloc, newVar, newRow, Result.andThen, Value.cells]
    rfl
  rw [hrun]
  have hh : (w.alloc (.cells (cells8 z64).toArray 98)).heap[w.heap.size]? = some (.cells (cells8 z64).toArray 98) := heap_alloc_new w _
  refine hK' _ _ (hK _ ⟨K.alloc (Below.refl _ _) _, Nat.le_refl _, by simp, fun j v hv => ?_, fun j hj => ⟨?_, ?_⟩⟩)
  · unfold World.cell?
    simp only [hh, Nat.zero_add]
    simpa using hv
  · unfold World.cell?
    simp only [hh, Nat.zero_add]
    rw [List.getElem?_toArray, cells8_at _ j (by exact hj)]
    rfl
  · unfold World.frozen?
    simp only [hh]
    simp
theorem wpList_store_sec (hgd : o.guard = none) (x y : Operand) (hop : o.op = Op.store 98 x y) {g off : Nat} {l : List Nat} (hx : a.eval x = .pointer (some ⟨g, off, none⟩)) (hy : a.eval y = secV l) (hl : sec l) (ht : w.there g off 64) (hK : ∀ w', Hid (w' = w.setCells g off (cells8 l)) → wpList Try.prog ops Q rest (a.put o.dst undef) w') : wpList Try.prog ops Q (o :: rest) a w :=
  wpList_store_mid hgd 98 x y hop g off (cells8 l).toArray hx hy (by rw [List.size_toArray, cells8_len' hl]; exact ht) (by rw [List.size_toArray, cells8_len' hl]; exact sizeSec) (all_oneCell_toArray (cells8_one l)) (hK _ rfl)
theorem wpList_load_sec (hgd : o.guard = none) (x : Operand) (hop : o.op = Op.load 98 x) {g off : Nat} {l : List Nat} (hx : a.eval x = .pointer (some ⟨g, off, none⟩)) (hl : sec l) (ht : w.rangeAt g off (cells8 l)) (hK : wpList Try.prog ops Q rest (a.put o.dst (secV l)) w) : wpList Try.prog ops Q (o :: rest) a w :=
  wpList_load_mid hgd 98 x hop g off hx (cells8 l) _ ht Try.underlying98 rfl (by rw [cells8_len' hl]; exact sizeSec) hK
end
theorem size_sets (g : Nat) : ∀ (vs : List Value) (o : Nat) (w : World), (w.setCells g o vs).heap.size = w.heap.size
  | [], _, _ => rfl
  | v :: r, o, w => by rw [World.setCells, size_sets g r]; simp
theorem below_sets {n : Nat} {w : World} (g : Nat) (hg : n ≤ g) : ∀ (vs : List Value) (o : Nat) (w1 : World), Below n w w1 → Below n w (w1.setCells g o vs)
  | [], _, _, h => h
  | v :: r, o, w1, h => by
    rw [World.setCells]
    exact below_sets g hg r (o + 1) _ (h.setCell (p := ⟨g, o, none⟩) hg v)
theorem kp_sets {X : Nat → Bool} {w : World} (g : Nat) (hg : X g = true) : ∀ (vs : List Value) (o : Nat) (w1 : World), Kp X w w1 → Kp X w (w1.setCells g o vs)
  | [], _, _, h => h
  | v :: r, o, w1, h => by
    rw [World.setCells]
    exact kp_sets g hg r (o + 1) _ (h.setCell (p := ⟨g, o, none⟩) (Or.inr hg) v)
theorem Var.put {w w1 w2 : World} {g : Nat} {l m : List Nat} (h : Var w w1 g l) (hm : sec m) (e : w2 = w1.setCells g 0 (cells8 m)) : Var w w2 g m := by
  subst e
  exact ⟨below_sets g h.ge _ _ _ h.bl, h.ge, by rw [size_sets]; exact h.lt, World.rangeAt_setCells_same _ _ _ _ (by rw [cells8_len' hm]; exact h.t), World.there_setCells h.t _ _ _⟩
end Go.Proofs.Ytjgpopjpmfkfmaa
namespace Go.Proofs.Ytjgpopjpmfkfmaa
set_option maxRecDepth 100000
open Go.RowKit Go.Maps
attribute [local go_sem ↓] Go.wp_at_zero Go.wp_at_succ

/-- New bytes: none, or in a block of their own. -/
def NewB (w w' : World) (v : Value) (l : List Nat) : Prop := (l = [] ∧ v = .slice none 0 0) ∨ ∃ g, v = .slice (some ⟨g, 0, none⟩) l.length l.length ∧ w.heap.size ≤ g ∧ g < w'.heap.size ∧ w'.rangeAt g 0 (cells8 l)
/-- What a sector has. -/
def DM.cur (D : DM) (i : Nat) : List Nat := (D.nw i).getD (D.la i)
theorem DM.cur_sec {D : DM} (h : D.ok) (i : Nat) : sec (D.cur i) := by
  unfold DM.cur
  cases hn : D.nw i with
  | none => exact h.la i
  | some l => exact (h.nw i l hn).2
/-- What Read answers: the bytes, and the error. -/
def DM.rdE (D : DM) (i : Int) : Int := if D.dn then 6 else if 0 ≤ i ∧ i < D.n then 0 else 3
def DM.rdB (D : DM) (i : Int) : List Nat := if D.dn then [] else if 0 ≤ i ∧ i < D.n then D.cur i.toNat else []
def RdP (w : World) (l : List Nat) (er : Int) (e : Ending) (w' : World) : Prop := ∃ v, e = .returned (.tuple #[v, .int .i64 er]) ∧ NewB w w' v l ∧ Below w.heap.size w w'
set_option maxHeartbeats 4000000 in
theorem read_any {w : World} {b lb mb : Nat} {D : DM} (h : Dsk w b lb mb D) (i : Int) : Calls Try.prog 77 #[pp b, .int .i64 i] w (RdP w (D.rdB i) (D.rdE i)) := by
  have HD := hide h
  cases hdn : D.dn with
  | true =>
    have e1 : D.rdB i = [] := if_pos hdn
    have e2 : D.rdE i = 6 := if_pos hdn
    rw [e1, e2]
    clear h e1 e2
    go_enter Try.func77, Try.ntmps77
    go_wp2_with (go_at_call 24; refine Calls.mono (down_any HD.out) ?_; rintro e w' ⟨rfl, rfl⟩)
    exact bodyPost_ret (by simp [results, Try.results77]) rfl ⟨_, rfl, Or.inl ⟨rfl, rfl⟩, Below.refl _ _⟩
  | false =>
    by_cases hi : 0 ≤ i ∧ i < D.n
    · obtain ⟨k, rfl⟩ : ∃ k : Nat, i = (k : Int) := ⟨i.toNat, by omega⟩
      have hk : k < D.n := by omega
      have e1 : D.rdB k = D.cur k := by
        unfold DM.rdB
        rw [if_neg (by simp [hdn]), if_pos hi]
        rfl
      have e2 : D.rdE k = 0 := by
        unfold DM.rdE
        rw [if_neg (by simp [hdn]), if_pos hi]
      have hC := DM.cur_sec h.ok k
      have HL := hide hC.1
      have hd : decide (0 ≤ (k : Int) ∧ (k : Int) < (D.n : Int)) = true := decide_eq_true hi
      have HK := hide (And.intro hk (Nat.lt_of_lt_of_le hk h.ok.n))
      rw [e1, e2]
      have h0 := h.c0
      have h1 := h.c1
      clear h e1 e2 hi
      cases hn : D.nw k with
      | some l =>
        have hl := HD.out.ok.nw k l hn
        have hcur : D.cur k = l := by unfold DM.cur; rw [hn]; rfl
        go_enter Try.func77, Try.ntmps77
        go_wp2_with (first
          | (go_at_call 24; refine Calls.mono (down_any HD.out) ?_; rintro e w' ⟨rfl, rfl⟩)
          | (go_at_call 58; refine Calls.mono (has_any HD.out _) ?_; rintro e w' ⟨rfl, rfl⟩)
          | (refine wpList_look_sec rfl _ _ true rfl HD.out.mp (by rfl) (by rfl) HK.out.2 ?_; rw [if_pos rfl, hn])
          | (refine wpList_alloc_sec rfl rfl ?_; intro W1 V1)
          | (refine wpList_store_sec rfl _ _ rfl (by rfl) (by rfl) hl.2 V1.t ?_; intro W2 hW2; have V2 := V1.put hl.2 hW2.out; clear hW2))
        exact bodyPost_ret (by simp [results, Try.results77]; rfl) rfl ⟨_, rfl, Or.inr ⟨_, by rw [HL.out], V2.ge, V2.lt, by rw [hcur]; exact V2.r⟩, V2.bl⟩
      | none =>
        have hl := HD.out.ok.la k
        have hcur : D.cur k = D.la k := by unfold DM.cur; rw [hn]; rfl
        have hkn : (k : Int) < (D.n : Int) := by omega
        go_enter Try.func77, Try.ntmps77
        go_wp2_with (first
          | (go_at_call 24; refine Calls.mono (down_any HD.out) ?_; rintro e w' ⟨rfl, rfl⟩)
          | (go_at_call 58; refine Calls.mono (has_any HD.out _) ?_; rintro e w' ⟨rfl, rfl⟩)
          | (refine wpList_look_sec rfl _ _ true rfl HD.out.mp (by rfl) (by rfl) HK.out.2 ?_; rw [if_pos rfl, hn])
          | (refine wpList_alloc_sec rfl rfl ?_; intro W1 V1)
          | (refine wpList_store_sec rfl _ _ rfl (by rfl) (by rfl) z64_sec V1.t ?_; intro W2 hW2; have V2 := V1.put z64_sec hW2.out; have h02 := (HD.out.keep V2.bl).c0; clear hW2)
          | (refine wpList_load_sec rfl _ rfl (by rfl) hl ((HD.out.keep V2.bl).rows k HK.out.1) ?_)
          | (refine wpList_store_sec rfl _ _ rfl (by rfl) (by rfl) hl V2.t ?_; intro W3 hW3; have V3 := V2.put hl hW3.out; clear hW3))
        exact bodyPost_ret (by simp [results, Try.results77]; rfl) rfl ⟨_, rfl, Or.inr ⟨_, by rw [HL.out], V3.ge, V3.lt, by rw [hcur]; exact V3.r⟩, V3.bl⟩
    · have e1 : D.rdB i = [] := by
        unfold DM.rdB
        rw [if_neg (by simp [hdn]), if_neg hi]
      have e2 : D.rdE i = 3 := by
        unfold DM.rdE
        rw [if_neg (by simp [hdn]), if_neg hi]
      have hd : decide (0 ≤ i ∧ i < (D.n : Int)) = false := decide_eq_false hi
      rw [e1, e2]
      clear h e1 e2 hi
      go_enter Try.func77, Try.ntmps77
      go_wp2_with (first
        | (go_at_call 24; refine Calls.mono (down_any HD.out) ?_; rintro e w' ⟨rfl, rfl⟩)
        | (go_at_call 58; refine Calls.mono (has_any HD.out _) ?_; rintro e w' ⟨rfl, rfl⟩))
      exact bodyPost_ret (by simp [results, Try.results77]) rfl ⟨_, rfl, Or.inl ⟨rfl, rfl⟩, Below.refl _ _⟩
end Go.Proofs.Ytjgpopjpmfkfmaa
