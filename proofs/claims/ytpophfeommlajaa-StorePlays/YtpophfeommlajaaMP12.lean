/- Layer 13: the fuse; what a fate leaves. -/
import Derived.Test.YtpophfeommlajaaMP11
namespace Go.Proofs.Ytpophfeommlajaa
set_option maxRecDepth 100000
open Go.RowKit Go.Maps
attribute [local go_sem ↓] Go.wp_at_zero Go.wp_at_succ

/-- Another world in which only the disk's own cells have turned. -/
theorem Dsk.head {w w' : World} {b lb mb : Nat} {D D' : DM} (h : Dsk w b lb mb D) (hs : w.heap.size ≤ w'.heap.size) (hb : ∀ k, k ≠ b → k < w.heap.size → w'.heap[k]? = w.heap[k]?) (hz : ∀ i, w'.frozen? ⟨b, i, none⟩ = w.frozen? ⟨b, i, none⟩)
    (c0 : w'.cell? ⟨b, 0, none⟩ = some (.slice (some ⟨lb, 0, none⟩) D.n D.n)) (c1 : w'.cell? ⟨b, 1, none⟩ = some (.map (some mb))) (c2 : w'.cell? ⟨b, 2, none⟩ = some (.bool D'.fu.isSome)) (c3 : w'.cell? ⟨b, 3, none⟩ = some (.int .i64 ((D'.fu.getD 0 : Nat) : Int))) (c4 : w'.cell? ⟨b, 4, none⟩ = some (.bool D'.dn))
    (e1 : D'.n = D.n) (e2 : D'.la = D.la) (e3 : D'.nw = D.nw) (hf : ∀ k, D'.fu = some k → k < 9223372036854775808) : Dsk w' b lb mb D' := by
  obtain ⟨n, la, nw, fu, dn⟩ := D
  obtain ⟨n', la', nw', fu', dn'⟩ := D'
  simp only at e1 e2 e3
  subst e1 e2 e3
  have e2 := hb lb (Ne.symm h.n1) h.ll
  have e3 := hb mb (Ne.symm h.n2) h.mp.lt
  have c2' : ∀ o, w'.cell? ⟨lb, o, none⟩ = w.cell? ⟨lb, o, none⟩ := fun o => World.cell?_of_block (w := w) e2
  have f2 : ∀ o, w'.frozen? ⟨lb, o, none⟩ = w.frozen? ⟨lb, o, none⟩ := fun o => World.frozen?_of_block (w := w) e2
  obtain ⟨E, ⟨es, clock, hbm, r⟩, hE⟩ := h.mp
  exact ⟨c0, c1, c2, c3, c4, fun i hi => (hz i).trans (h.z i hi), Nat.lt_of_lt_of_le h.bl hs, Nat.lt_of_lt_of_le h.ll hs,
    fun i hi j v hv => (c2' _).trans (h.rows i hi j v hv), fun j hj => ⟨by rw [c2']; exact (h.th j hj).1, by rw [f2]; exact (h.th j hj).2⟩, ⟨E, ⟨es, clock, e3.trans hbm, r⟩, hE⟩, h.n1, h.n2, h.n3, ⟨h.ok.n, h.ok.la, h.ok.nw, hf⟩⟩
theorem kp_set {b lb mb : Nat} {w : World} (o : Nat) (v : Value) : Kp (X3 b lb mb) w (w.setCell ⟨b, o, none⟩ v) := (Kp.refl _ w).setCell (p := ⟨b, o, none⟩) (Or.inr (X3_of.2 (Or.inl rfl))) v
/-- One operation more, by the fuse. -/
def DM.burn (D : DM) : DM := match D.fu with
  | none => D
  | some 0 => { D with dn := true }
  | some (k + 1) => { D with fu := some k }
def DM.may (D : DM) : Bool := match D.fu with
  | some 0 => false
  | _ => true
theorem burn_any {w : World} {b lb mb : Nat} {D : DM} (h : Dsk w b lb mb D) : Calls Try.prog 55 #[pp b] w fun e w' => e = .returned (.bool D.may) ∧ Dsk w' b lb mb D.burn ∧ Kp (X3 b lb mb) w w' := by
  have HD := hide h
  obtain ⟨n, la, nw, fu, dn⟩ := D
  have h0 := h.c0
  have h1 := h.c1
  have h2 := h.c2
  have h3 := h.c3
  have h4 := h.c4
  have z3 := h.z 3 (by omega)
  have z4 := h.z 4 (by omega)
  have hf := h.ok.fu
  clear h
  simp only at h0 h1 h2 h3 h4 hf
  cases fu with
  | none =>
    simp only [Option.isSome_none, Option.getD_none] at h2 h3
    go_enter Try.func55, Try.ntmps55
    go_wp2_with fail
    go_ret
    exact ⟨rfl, HD.out, Kp.refl _ _⟩
  | some k =>
    cases k with
    | zero =>
      simp only [Option.isSome_some, Option.getD_some] at h2 h3
      go_enter Try.func55, Try.ntmps55
      go_wp2_with fail
      go_ret
      refine ⟨rfl, HD.out.head (by simp) (fun k hk _ => Below.heap_setCell _ _ _ _ hk) (fun i => World.frozen?_setCell _ _ _ _) ?_ ?_ ?_ ?_ ?_ rfl rfl rfl hf, kp_set _ _⟩
      all_goals simp [go_sem, *, DM.burn]
    | succ k =>
      have hk := hf (k + 1) rfl
      simp only [Option.isSome_some, Option.getD_some] at h2 h3
      have hne : ((((k + 1 : Nat) : Int)) == 0) = false := by simp; omega
      obtain ⟨q, hq⟩ : ∃ q : Int, q = ((k + 1 : Nat) : Int) := ⟨_, rfl⟩
      rw [← hq] at h3 hne
      have hw : wrap64 (q - 1) = (k : Int) := by rw [hq]; unfold wrap64; omega
      clear hq
      go_enter Try.func55, Try.ntmps55
      go_wp2_with fail
      go_ret
      refine ⟨rfl, HD.out.head (by simp) (fun k hk _ => Below.heap_setCell _ _ _ _ hk) (fun i => World.frozen?_setCell _ _ _ _) ?_ ?_ ?_ ?_ ?_ rfl rfl rfl (fun j hj => by cases hj; omega), kp_set _ _⟩
      all_goals simp [go_sem, *, DM.burn]
/-- A fuse of n; none, if n is below 0. -/
def DM.fuse (D : DM) (i : Int) : DM := { D with fu := if 0 ≤ i then some i.toNat else none }
theorem fuse_any {w : World} {b lb mb : Nat} {D : DM} (h : Dsk w b lb mb D) (i : Int) (hi : i < 9223372036854775808) : Calls Try.prog 15 #[pp b, .int .i64 i] w fun e w' => (∃ v, e = .returned v) ∧ Dsk w' b lb mb (D.fuse i) ∧ Kp (X3 b lb mb) w w' := by
  have HD := hide h
  have h0 := h.c0
  have h1 := h.c1
  have h2 := h.c2
  have h3 := h.c3
  have h4 := h.c4
  have z2 := h.z 2 (by omega)
  have z3 := h.z 3 (by omega)
  have HI := hide hi
  clear h hi
  go_enter Try.func15, Try.ntmps15
  go_wp2_with fail
  · have hneg : i < 0 := by assumption
    have e : (D.fuse i).fu = none := if_neg (by omega)
    refine bodyPost_end (by simp [results, Try.results15]; rfl) rfl ⟨⟨_, rfl⟩, HD.out.head (by simp) (fun k hk _ => (Below.heap_setCell _ _ _ _ hk).trans (Below.heap_setCell _ _ _ _ hk)) (fun i => (World.frozen?_setCell _ _ _ _).trans (World.frozen?_setCell _ _ _ _)) ?_ ?_ ?_ ?_ ?_ rfl rfl rfl (fun j hj => ?_), (kp_set _ _).trans (kp_set _ _)⟩
    · simp [go_sem, *]
    · simp [go_sem, *]
    · simp [go_sem, *]
    · simp [go_sem, *]
    · simp [go_sem, *]; rfl
    · rw [e] at hj
      cases hj
  · have hpos : 0 ≤ i := by assumption
    have e : (D.fuse i).fu = some i.toNat := if_pos (by omega)
    refine bodyPost_end (by simp [results, Try.results15]; rfl) rfl ⟨⟨_, rfl⟩, HD.out.head (by simp) (fun k hk _ => (Below.heap_setCell _ _ _ _ hk).trans (Below.heap_setCell _ _ _ _ hk)) (fun i => (World.frozen?_setCell _ _ _ _).trans (World.frozen?_setCell _ _ _ _)) ?_ ?_ ?_ ?_ ?_ rfl rfl rfl (fun j hj => ?_), (kp_set _ _).trans (kp_set _ _)⟩
    · simp [go_sem, *]
    · simp [go_sem, *]
    · simp [go_sem, *]
    · simp [go_sem, *]; omega
    · simp [go_sem, *]; rfl
    · have := HI.out
      rw [e] at hj
      cases hj
      omega
/-- Truths in memory. -/
def Kb (w : World) (z : Option Addr) (K : List Bool) : Prop := K = [] ∨ ∃ b o, z = some ⟨b, o, none⟩ ∧ ∀ i v, K[i]? = some v → w.cell? ⟨b, o + i, none⟩ = some (.bool v)
theorem Kb.keep {W w1 : World} {z : Option Addr} {K : List Bool} (h : Kb W z K) (hb : Below W.heap.size W w1) : Kb w1 z K :=
  h.elim Or.inl fun ⟨b, o, e, hr⟩ => Or.inr ⟨b, o, e, fun i v hv => later hb (hr i v hv)⟩
/-- How many bytes a fate leaves of what was written. -/
def lv (K : List Bool) (t at_ : Int) (p : Nat) : Nat := if (p : Int) = t then ((max at_ 0) % 65).toNat else if K.getD p false then 64 else 0
theorem lv_le (K : List Bool) (t at_ : Int) (p : Nat) : lv K t at_ p ≤ 64 := by
  unfold lv
  split
  · omega
  · split <;> omega
set_option maxHeartbeats 4000000 in
theorem leaves_any {w : World} {z : Option Addr} {K : List Bool} {c : Nat} (hK : Kb w z K) (t at_ : Int) (p : Nat) :
    Calls Try.prog 52 #[.agg #[.slice z K.length c, .int .i64 t, .int .i64 at_], .int .i64 (p : Int)] w fun e w' => e = .returned (.int .i64 (lv K t at_ p : Int)) ∧ Below w.heap.size w w' := by
  by_cases ht : (p : Int) = t
  · have HR : Hid (lv K t at_ p = ((max at_ 0) % 65).toNat) := if_pos ht
    have HT := hide ht
    have hte : ((p : Int) == t) = true := by simp [ht]
    clear hK
    go_enter Try.func52, Try.ntmps52
    go_wp2_with fail
    all_goals (go_ret; exact ⟨ret_int (by rw [HR.out]; omega), Go.Proofs.Ytpophfeommlajaa.K.alloc (Below.refl _ _) _⟩)
  · have hte : ((p : Int) == t) = false := by simp [ht]
    by_cases hlt : p < K.length
    · obtain ⟨v, hv⟩ : ∃ v, K[p]? = some v := ⟨_, List.getElem?_eq_getElem hlt⟩
      have HR : Hid (lv K t at_ p = if v then 64 else 0) := by
        show lv K t at_ p = _
        unfold lv
        rw [if_neg ht, List.getD_eq_getElem?_getD, hv]
        rfl
      rcases hK with rfl | ⟨b, o, rfl, hr⟩
      · simp at hlt
      have hc := hr p v hv
      have hlt' : (p : Int) < (K.length : Int) := by omega
      have hbl := World.block_lt_of_cell? w _ hc
      clear hr
      cases v with
      | true =>
        go_enter Try.func52, Try.ntmps52
        go_wp2_with fail
        go_ret
        exact ⟨ret_int (by rw [HR.out]; rfl), Go.Proofs.Ytpophfeommlajaa.K.alloc (Below.refl _ _) _⟩
      | false =>
        go_enter Try.func52, Try.ntmps52
        go_wp2_with fail
        go_ret
        exact ⟨ret_int (by rw [HR.out]; rfl), Go.Proofs.Ytpophfeommlajaa.K.alloc (Below.refl _ _) _⟩
    · have HR : Hid (lv K t at_ p = 0) := by
        show lv K t at_ p = _
        unfold lv
        rw [if_neg ht, List.getD_eq_getElem?_getD, List.getElem?_eq_none (by omega)]
        rfl
      have hd : decide ((p : Int) < (K.length : Int)) = false := decide_eq_false (by omega)
      go_enter Try.func52, Try.ntmps52
      go_wp2_with fail
      go_ret
      exact ⟨ret_int (by rw [HR.out]; rfl), Go.Proofs.Ytpophfeommlajaa.K.alloc (Below.refl _ _) _⟩
end Go.Proofs.Ytpophfeommlajaa
