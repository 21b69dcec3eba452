/- Layer 14, pure: marks on a disk that is up and without a fuse; how many operations a Save takes. -/
import Derived.Test.YtjgpopjpmfkfmaaN14D
namespace Go.Proofs.Ytjgpopjpmfkfmaa
set_option maxRecDepth 100000

/-- A disk that is up, without a fuse. -/
structure DM.free (D : DM) : Prop where
  dn : D.dn = false
  fu : D.fu = none
theorem new_free (n : Nat) : (DM.new n).free := ⟨rfl, rfl⟩
theorem new_calm (n : Nat) : (DM.new n).calm := ⟨rfl, rfl⟩
theorem wr_free {D : DM} (h : D.free) {i : Nat} (hi : i < D.n) {l : List Nat} (hl : sec l) : D.wrE (i : Int) l.length = 0 ∧ (D.wr (i : Int) l).free ∧ (D.wr (i : Int) l).n = D.n ∧ ∀ j, (D.wr (i : Int) l).cur j = if j = i then l else D.cur j := by
  obtain ⟨n, la, nw, fu, dn⟩ := D
  obtain ⟨h1, h2⟩ := h
  simp only at h1 h2 hi
  subst h1 h2
  have hi' : (0 : Int) ≤ (i : Int) ∧ (i : Int) < (n : Int) := by omega
  have hl1 := hl.1
  have e : (⟨n, la, nw, none, false⟩ : DM).wr (i : Int) l = ⟨n, la, upd nw i (some l), none, false⟩ := by simp [DM.wr, DM.may, DM.burn, hi', hl1]
  refine ⟨by simp [DM.wrE, DM.may, hi', hl1], ?_, ?_, fun j => ?_⟩
  · rw [e]; exact ⟨rfl, rfl⟩
  · rw [e]
  · rw [e]
    unfold DM.cur upd
    by_cases e2 : j = i
    · simp [e2]
    · simp [e2]
theorem sy_free' {D : DM} (h : D.free) : D.syE = 0 ∧ D.sy.free ∧ D.sy.n = D.n ∧ ∀ j, D.sy.cur j = D.cur j := by
  obtain ⟨n, la, nw, fu, dn⟩ := D
  obtain ⟨h1, h2⟩ := h
  simp only at h1 h2
  subst h1 h2
  exact ⟨rfl, ⟨rfl, rfl⟩, rfl, fun j => rfl⟩
theorem ws_free {D : DM} (h : D.free) {i : Nat} (hi : i < D.n) {l : List Nat} (hl : sec l) : D.wsE (i : Int) l = 0 ∧ (D.ws (i : Int) l).free ∧ (D.ws (i : Int) l).n = D.n ∧ ∀ j, (D.ws (i : Int) l).cur j = if j = i then l else D.cur j := by
  obtain ⟨h1, h2, h3, h4⟩ := wr_free h hi hl
  obtain ⟨g1, g2, g3, g4⟩ := sy_free' h2
  have e1 : D.wsE (i : Int) l = (D.wr (i : Int) l).syE := if_pos h1
  have e2 : D.ws (i : Int) l = (D.wr (i : Int) l).sy := if_pos h1
  rw [e1, e2]
  exact ⟨g1, g2, g3.trans h3, fun j => (g4 j).trans (h4 j)⟩
theorem rd_free {D : DM} (h : D.free) {i : Nat} (hi : i < D.n) : D.rdE (i : Int) = 0 ∧ D.rdB (i : Int) = D.cur i := by
  have hi' : (0 : Int) ≤ (i : Int) ∧ (i : Int) < (D.n : Int) := by omega
  refine ⟨by simp [DM.rdE, h.dn, hi'], ?_⟩
  simp [DM.rdB, h.dn, hi']
theorem ld_free {D : DM} (h : D.free) {a : Nat} (ha : a + 2 < D.n) : D.ldE (a : Int) = 0 ∧ D.ldB (a : Int) = vl (D.cur a) (D.cur (a + 1)) (D.cur (a + 2)) := by
  obtain ⟨e0, b0⟩ := rd_free h (i := a) (by omega)
  obtain ⟨e1, b1⟩ := rd_free h (i := a + 1) (by omega)
  obtain ⟨e2, b2⟩ := rd_free h (i := a + 2) ha
  have c1 : ((a : Int) + 1) = ((a + 1 : Nat) : Int) := by omega
  have c2 : ((a : Int) + 2) = ((a + 2 : Nat) : Int) := by omega
  have e : D.ldE (a : Int) = 0 := by
    unfold DM.ldE
    rw [c1, c2, if_pos e0, if_pos e1, e2]
  exact ⟨e, by rw [ldB_of e, c1, c2, b0, b1, b2]⟩
/-- A Save on such a disk. -/
theorem sv_free {D : DM} (h : D.free) {a : Nat} (ha : a + 2 < D.n) {v : List Nat} (hv : sec v) : ∀ j, j ≤ 3 → (sv D a v j).2 = 0 ∧ (sv D a v j).1.free ∧ (sv D a v j).1.n = D.n ∧ ∀ k, (sv D a v j).1.cur k = if a ≤ k ∧ k < a + j then v else D.cur k
  | 0, _ => ⟨rfl, h, rfl, fun k => (if_neg (by omega)).symm⟩
  | j + 1, hj => by
    obtain ⟨e, h1, h2, h3⟩ := sv_free h ha hv j (by omega)
    have es : sv D a v (j + 1) = ((sv D a v j).1.ws ((a : Int) + (j : Int)) v, (sv D a v j).1.wsE ((a : Int) + (j : Int)) v) := if_pos e
    have c : ((a : Int) + (j : Int)) = ((a + j : Nat) : Int) := by omega
    rw [es, c]
    obtain ⟨g1, g2, g3, g4⟩ := ws_free h1 (i := a + j) (by rw [h2]; omega) hv
    refine ⟨g1, g2, g3.trans h2, fun k => ?_⟩
    show DM.cur _ k = _
    rw [g4, h3]
    by_cases e1 : k = a + j
    · rw [if_pos e1, if_pos (by omega)]
    · rw [if_neg e1]
      by_cases e2 : a ≤ k ∧ k < a + j
      · rw [if_pos e2, if_pos (by omega)]
      · rw [if_neg e2, if_neg (by omega)]
/-- What a Save of at most 64 bytes does on such a disk. -/
theorem save_free {D : DM} (h : D.free) {a : Nat} (ha : a + 2 < D.n) {f : Nat → Nat} (hf : ∀ i, f i < 256) {m : Nat} (hm : m ≤ 64) : D.saveE a f m = 0 ∧ D.saveD a f m = (sv D a (pd f m) 3).1 := by
  have e := (ld_free h ha).1
  have hm' : ¬ 64 < m := by omega
  exact ⟨(if_neg hm').trans ((if_pos e).trans (sv_free h ha (pd_sec hf m) 3 (by omega)).1), (if_neg hm').trans (if_pos e)⟩
/-- A Write and a Sync take two of the fuse. -/
theorem ws_fu {D : DM} (h : D.calm) {i : Nat} (hi : i < D.n) {l : List Nat} (hl : sec l) (he : D.wsE (i : Int) l = 0) {F : Nat} (hF : D.fu = some F) : 2 ≤ F ∧ (D.ws (i : Int) l).fu = some (F - 2) := by
  obtain ⟨n, la, nw, fu, dn⟩ := D
  obtain ⟨h1, h2⟩ := h
  simp only at h1 h2 hi hF
  subst h1 h2 hF
  have hi' : (0 : Int) ≤ (i : Int) ∧ (i : Int) < (n : Int) := by omega
  have hl1 := hl.1
  match F with
  | 0 => simp [DM.wsE, DM.wrE, DM.may, hi', hl1] at he
  | 1 => simp [DM.wsE, DM.wrE, DM.wr, DM.syE, DM.may, DM.burn, hi', hl1] at he
  | F + 2 => exact ⟨by omega, by simp [DM.ws, DM.wrE, DM.wr, DM.sy, DM.may, DM.burn, hi', hl1]⟩
theorem sv_fu {D : DM} (h : D.calm) {a : Nat} (ha : a + 2 < D.n) {v : List Nat} (hv : sec v) {F : Nat} (hF : D.fu = some F) : ∀ j, j ≤ 3 → (sv D a v j).2 = 0 → 2 * j ≤ F ∧ (sv D a v j).1.fu = some (F - 2 * j)
  | 0, _, _ => ⟨by omega, hF⟩
  | j + 1, hj, he => by
    by_cases e : (sv D a v j).2 = 0
    · obtain ⟨h1, h2⟩ := sv_fu h ha hv hF j (by omega) e
      have es : sv D a v (j + 1) = ((sv D a v j).1.ws ((a : Int) + (j : Int)) v, (sv D a v j).1.wsE ((a : Int) + (j : Int)) v) := if_pos e
      have c : ((a : Int) + (j : Int)) = ((a + j : Nat) : Int) := by omega
      rw [es, c] at he ⊢
      rcases sv_steps h ha hv j (by omega) with ⟨_, hw⟩ | ⟨e6, _⟩
      · obtain ⟨g1, g2⟩ := ws_fu hw.c (i := a + j) (by rw [hw.n]; omega) hv he h2
        exact ⟨by omega, by show DM.fu _ = _; rw [g2]; exact congrArg some (by omega)⟩
      · rw [e] at e6; cases e6
    · have es : sv D a v (j + 1) = sv D a v j := if_neg e
      rw [es] at he
      exact absurd he e
end Go.Proofs.Ytjgpopjpmfkfmaa
