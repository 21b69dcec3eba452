/- Layer 14, pure: marks over the disk's model. (Made ahead; it speaks of the model alone.) -/
import Derived.Test.YtjgpopjpmfkfmaaD13T
namespace Go.Proofs.Ytjgpopjpmfkfmaa
set_option maxRecDepth 100000

/-- A Write, and a Sync behind it. -/
def DM.wsE (D : DM) (i : Int) (l : List Nat) : Int := if D.wrE i l.length = 0 then (D.wr i l).syE else D.wrE i l.length
def DM.ws (D : DM) (i : Int) (l : List Nat) : DM := if D.wrE i l.length = 0 then (D.wr i l).sy else D.wr i l
/-- The first j sectors of a mark are saved: the disk, and the error. -/
def sv (D : DM) (at_ : Int) (l : List Nat) : Nat → DM × Int
  | 0 => (D, 0)
  | j + 1 => if (sv D at_ l j).2 = 0 then ((sv D at_ l j).1.ws (at_ + (j : Int)) l, (sv D at_ l j).1.wsE (at_ + (j : Int)) l) else sv D at_ l j
/-- .. are mended. -/
def md (D : DM) (at_ : Int) (v : List Nat) : Nat → DM × Int
  | 0 => (D, 0)
  | j + 1 => if (md D at_ v j).2 = 0 then (if (md D at_ v j).1.rdE (at_ + (j : Int)) = 0 then (if (md D at_ v j).1.rdB (at_ + (j : Int)) = v then md D at_ v j else ((md D at_ v j).1.ws (at_ + (j : Int)) v, (md D at_ v j).1.wsE (at_ + (j : Int)) v)) else ((md D at_ v j).1, (md D at_ v j).1.rdE (at_ + (j : Int)))) else md D at_ v j
/-- What is loaded. -/
def DM.ldE (D : DM) (at_ : Int) : Int := if D.rdE at_ = 0 then (if D.rdE (at_ + 1) = 0 then D.rdE (at_ + 2) else D.rdE (at_ + 1)) else D.rdE at_
def DM.ldB (D : DM) (at_ : Int) : List Nat := if D.ldE at_ = 0 then (if D.rdB (at_ + 1) = D.rdB (at_ + 2) then D.rdB (at_ + 2) else D.rdB at_) else []
theorem sv_err {D : DM} {at_ : Int} {l : List Nat} {j : Nat} (h : (sv D at_ l j).2 ≠ 0) : ∀ k, j ≤ k → sv D at_ l k = sv D at_ l j := by
  intro k hk
  induction k with
  | zero => rw [show j = 0 by omega]
  | succ k ih =>
    by_cases e : j = k + 1
    · rw [e]
    · have ih := ih (by omega)
      show (if (sv D at_ l k).2 = 0 then _ else sv D at_ l k) = _
      rw [ih, if_neg h]
theorem md_err {D : DM} {at_ : Int} {l : List Nat} {j : Nat} (h : (md D at_ l j).2 ≠ 0) : ∀ k, j ≤ k → md D at_ l k = md D at_ l j := by
  intro k hk
  induction k with
  | zero => rw [show j = 0 by omega]
  | succ k ih =>
    by_cases e : j = k + 1
    · rw [e]
    · have ih := ih (by omega)
      show (if (md D at_ l k).2 = 0 then _ else md D at_ l k) = _
      rw [ih, if_neg h]
/-- A disk of which nothing is unsynced, and which is up. -/
structure DM.calm (D : DM) : Prop where
  nw : D.nw = fun _ => none
  dn : D.dn = false
/-- What a Write and a Sync of a calm disk leave: all of it, or a disk that is down. -/
theorem ws_calm {D : DM} (h : D.calm) {i : Nat} (hi : i < D.n) {l : List Nat} (hl : sec l) :
    (D.wsE (i : Int) l = 0 ∧ (D.ws (i : Int) l).calm ∧ (D.ws (i : Int) l).la = upd D.la i l ∧ (D.ws (i : Int) l).n = D.n) ∨
    (D.wsE (i : Int) l = 6 ∧ (D.ws (i : Int) l).dn = true ∧ (D.ws (i : Int) l).la = D.la ∧ (D.ws (i : Int) l).n = D.n ∧ ((D.ws (i : Int) l).nw = (fun _ => none) ∨ (D.ws (i : Int) l).nw = upd (fun _ => none) i (some l))) := by
  obtain ⟨n, la, nw, fu, dn⟩ := D
  obtain ⟨h1, h2⟩ := h
  simp only at h1 h2 hi
  subst h1 h2
  have hi' : (0 : Int) ≤ (i : Int) ∧ (i : Int) < (n : Int) := by omega
  have hl1 := hl.1
  have hla : (fun j => (upd (fun _ => none) i (some l) j).getD (la j)) = upd la i l := by
    funext j
    by_cases e : j = i
    · subst e; simp [upd]
    · simp [upd, e]
  cases fu with
  | none =>
    left
    refine ⟨?_, ?_, ?_, ?_⟩ <;> simp [DM.wsE, DM.ws, DM.wrE, DM.wr, DM.syE, DM.sy, DM.may, DM.burn, hi', hl1, hla]
    exact ⟨rfl, rfl⟩
  | some k =>
    match k with
    | 0 =>
      right
      refine ⟨?_, ?_, ?_, ?_, ?_⟩ <;> simp [DM.wsE, DM.ws, DM.wrE, DM.wr, DM.may, DM.burn, hi', hl1]
    | 1 =>
      right
      refine ⟨?_, ?_, ?_, ?_, ?_⟩ <;> simp [DM.wsE, DM.ws, DM.wrE, DM.wr, DM.syE, DM.sy, DM.may, DM.burn, hi', hl1]
    | k + 2 =>
      left
      refine ⟨?_, ?_, ?_, ?_⟩ <;> simp [DM.wsE, DM.ws, DM.wrE, DM.wr, DM.syE, DM.sy, DM.may, DM.burn, hi', hl1, hla]
      exact ⟨rfl, rfl⟩
/-- The three sectors from 'a' on, with an old and a new value, one of them perhaps in the midst of being written. -/
def Tri (x y z o n : List Nat) : Prop := (y = o ∧ z = o) ∨ (x = n ∧ z = o) ∨ (x = n ∧ y = n)
def MidP (la : Nat → List Nat) (a : Nat) (o n : List Nat) : Option Nat → Prop
  | none => Tri (la a) (la (a + 1)) (la (a + 2)) o n
  | some q => (q = a ∧ la (a + 1) = o ∧ la (a + 2) = o) ∨ (q = a + 1 ∧ la a = n ∧ la (a + 2) = o) ∨ (q = a + 2 ∧ la a = n ∧ la (a + 1) = n)
structure Mid (D : DM) (a : Nat) (o n : List Nat) (p : Option Nat) : Prop where
  lt : a + 2 < D.n
  nw : ∀ i, p ≠ some i → D.nw i = none
  h : MidP D.la a o n p
/-- Whatever a crash keeps or tears, the three are told. -/
theorem Mid.crash {D : DM} {a : Nat} {o n : List Nat} {p : Option Nat} (h : Mid D a o n p) (K : List Bool) (t at_ : Int) : Mid (D.cr K t at_) a o n none := by
  have same : ∀ i, p ≠ some i → (D.cr K t at_).la i = D.la i := fun i hi => by
    show D.crA K t at_ i = D.la i
    unfold DM.crA
    rw [h.nw i hi]
  refine ⟨h.lt, fun _ _ => rfl, ?_⟩
  show Tri _ _ _ o n
  have hh := h.h
  cases p with
  | none =>
    rw [same a (by simp), same (a + 1) (by simp), same (a + 2) (by simp)]
    exact hh
  | some q =>
    rcases hh with ⟨rfl, h1, h2⟩ | ⟨rfl, h1, h2⟩ | ⟨rfl, h1, h2⟩
    · exact Or.inl ⟨(same _ (by simp)).trans h1, (same _ (by simp)).trans h2⟩
    · exact Or.inr (Or.inl ⟨(same _ (by simp)).trans h1, (same _ (by simp)).trans h2⟩)
    · exact Or.inr (Or.inr ⟨(same _ (by simp)).trans h1, (same _ (by simp)).trans h2⟩)
theorem cr_calm (D : DM) (K : List Bool) (t at_ : Int) : (D.cr K t at_).calm := ⟨rfl, rfl⟩
theorem rd_calm {D : DM} (h : D.calm) {i : Nat} (hi : i < D.n) : D.rdE (i : Int) = 0 ∧ D.rdB (i : Int) = D.la i := by
  have h1 := h.nw
  have h2 := h.dn
  have hi' : (0 : Int) ≤ (i : Int) ∧ (i : Int) < (D.n : Int) := by omega
  refine ⟨by simp [DM.rdE, h2, hi'], ?_⟩
  simp [DM.rdB, DM.cur, h1, h2, hi']
/-- The value of a calm disk's mark. -/
def mv (D : DM) (a : Nat) : List Nat := if D.la (a + 1) = D.la (a + 2) then D.la (a + 2) else D.la a
theorem ld_calm {D : DM} (h : D.calm) {a : Nat} (ha : a + 2 < D.n) : D.ldE (a : Int) = 0 ∧ D.ldB (a : Int) = mv D a := by
  obtain ⟨e0, b0⟩ := rd_calm h (i := a) (by omega)
  obtain ⟨e1, b1⟩ := rd_calm h (i := a + 1) (by omega)
  obtain ⟨e2, b2⟩ := rd_calm h (i := a + 2) ha
  have c1 : ((a : Int) + 1) = ((a + 1 : Nat) : Int) := by omega
  have c2 : ((a : Int) + 2) = ((a + 2 : Nat) : Int) := by omega
  have e : D.ldE (a : Int) = 0 := by
    unfold DM.ldE
    rw [c1, c2, if_pos e0, if_pos e1, e2]
  refine ⟨e, ?_⟩
  unfold DM.ldB mv
  rw [if_pos e, c1, c2, b0, b1, b2]
theorem Mid.value {D : DM} {a : Nat} {o n : List Nat} (h : Mid D a o n none) : mv D a = o ∨ mv D a = n := by
  have hh : Tri (D.la a) (D.la (a + 1)) (D.la (a + 2)) o n := h.h
  unfold mv
  rcases hh with ⟨h1, h2⟩ | ⟨h1, h2⟩ | ⟨h1, h2⟩
  · rw [if_pos (h1.trans h2.symm)]; exact Or.inl h2
  · split
    · exact Or.inl h2
    · exact Or.inr h1
  · split
    · rename_i e; exact Or.inr (e.symm.trans h2)
    · exact Or.inr h1
theorem fuse_calm {D : DM} (h : D.calm) (i : Int) : (D.fuse i).calm := ⟨h.nw, h.dn⟩
theorem Mid.fuse {D : DM} {a : Nat} {o n : List Nat} {p : Option Nat} (h : Mid D a o n p) (i : Int) : Mid (D.fuse i) a o n p := ⟨h.lt, h.nw, h.h⟩
/-- The first j of the three have v. -/
def upTo (f : Nat → List Nat) (a : Nat) (v : List Nat) (j : Nat) : Nat → List Nat := fun i => if a ≤ i ∧ i < a + j then v else f i
theorem upTo_zero (f : Nat → List Nat) (a : Nat) (v : List Nat) : upTo f a v 0 = f := funext fun i => if_neg (by omega)
theorem upTo_succ (f : Nat → List Nat) (a : Nat) (v : List Nat) (j : Nat) : upd (upTo f a v j) (a + j) v = upTo f a v (j + 1) := by
  funext i
  unfold upd upTo
  by_cases e : i = a + j
  · rw [if_pos e, if_pos (by omega)]
  · rw [if_neg e]
    by_cases h : a ≤ i ∧ i < a + j
    · rw [if_pos h, if_pos (by omega)]
    · rw [if_neg h, if_neg (by omega)]
theorem upTo_same {f : Nat → List Nat} {a : Nat} {v : List Nat} {j : Nat} (h : f (a + j) = v) : upTo f a v (j + 1) = upTo f a v j := by
  funext i
  unfold upTo
  by_cases e : i = a + j
  · rw [if_pos (by omega), if_neg (by omega), e, h]
  · by_cases h : a ≤ i ∧ i < a + j
    · rw [if_pos h, if_pos (by omega)]
    · rw [if_neg h, if_neg (by omega)]
theorem upTo_in {f : Nat → List Nat} {a : Nat} {v : List Nat} {j i : Nat} (h : a ≤ i ∧ i < a + j) : upTo f a v j i = v := if_pos h
theorem upTo_out {f : Nat → List Nat} {a : Nat} {v : List Nat} {j i : Nat} (h : ¬ (a ≤ i ∧ i < a + j)) : upTo f a v j i = f i := if_neg h
/-- A disk that went down at a Write or a Sync of the j-th of the three. -/
structure Fell (D E : DM) (a j : Nat) (v : List Nat) : Prop where
  dn : E.dn = true
  n : E.n = D.n
  la : E.la = upTo D.la a v j
  nw : E.nw = (fun _ => none) ∨ E.nw = upd (fun _ => none) (a + j) (some v)
structure Went (D E : DM) (a j : Nat) (v : List Nat) : Prop where
  c : E.calm
  n : E.n = D.n
  la : E.la = upTo D.la a v j
theorem Went.ws {D E : DM} {a j : Nat} {v : List Nat} (h : Went D E a j v) (hj : a + j < D.n) (hv : sec v) : (E.wsE ((a : Int) + (j : Int)) v = 0 ∧ Went D (E.ws ((a : Int) + (j : Int)) v) a (j + 1) v) ∨ (E.wsE ((a : Int) + (j : Int)) v = 6 ∧ Fell D (E.ws ((a : Int) + (j : Int)) v) a j v) := by
  have c : ((a : Int) + (j : Int)) = ((a + j : Nat) : Int) := by omega
  rw [c]
  rcases ws_calm h.c (i := a + j) (by rw [h.n]; exact hj) hv with ⟨e, h1, h2, h3⟩ | ⟨e, h1, h2, h3, h4⟩
  · exact Or.inl ⟨e, h1, h3.trans h.n, by rw [h2, h.la, upTo_succ]⟩
  · exact Or.inr ⟨e, h1, h3.trans h.n, by rw [h2, h.la], h4⟩
/-- A Save on a calm disk: done so far, or fallen at one of the three. -/
theorem sv_steps {D : DM} (h : D.calm) {a : Nat} (ha : a + 2 < D.n) {v : List Nat} (hv : sec v) : ∀ j, j ≤ 3 → ((sv D a v j).2 = 0 ∧ Went D (sv D a v j).1 a j v) ∨ ((sv D a v j).2 = 6 ∧ ∃ q, q < j ∧ Fell D (sv D a v j).1 a q v)
  | 0, _ => Or.inl ⟨rfl, h, rfl, (upTo_zero _ _ _).symm⟩
  | j + 1, hj => by
    rcases sv_steps h ha hv j (by omega) with ⟨e, hw⟩ | ⟨e, q, hq, hf⟩
    · have es : sv D a v (j + 1) = ((sv D a v j).1.ws ((a : Int) + (j : Int)) v, (sv D a v j).1.wsE ((a : Int) + (j : Int)) v) := if_pos e
      rw [es]
      rcases hw.ws (by omega) hv with ⟨e1, h1⟩ | ⟨e1, h1⟩
      · exact Or.inl ⟨e1, h1⟩
      · exact Or.inr ⟨e1, j, by omega, h1⟩
    · have es : sv D a v (j + 1) = sv D a v j := if_neg (by rw [e]; decide)
      rw [es]
      exact Or.inr ⟨e, q, by omega, hf⟩
/-- A Mend on a calm disk. -/
theorem md_steps {D : DM} (h : D.calm) {a : Nat} (ha : a + 2 < D.n) {v : List Nat} (hv : sec v) : ∀ j, j ≤ 3 → ((md D a v j).2 = 0 ∧ Went D (md D a v j).1 a j v) ∨ ((md D a v j).2 = 6 ∧ ∃ q, q < j ∧ D.la (a + q) ≠ v ∧ Fell D (md D a v j).1 a q v)
  | 0, _ => Or.inl ⟨rfl, h, rfl, (upTo_zero _ _ _).symm⟩
  | j + 1, hj => by
    rcases md_steps h ha hv j (by omega) with ⟨e, hw⟩ | ⟨e, q, hq, hf⟩
    · have c : ((a : Int) + (j : Int)) = ((a + j : Nat) : Int) := by omega
      obtain ⟨r1, r2⟩ := rd_calm hw.c (i := a + j) (by rw [hw.n]; omega)
      rw [hw.la, upTo_out (by omega)] at r2
      by_cases hs : D.la (a + j) = v
      · have es : md D a v (j + 1) = md D a v j := (if_pos e).trans ((if_pos (by rw [c]; exact r1)).trans (if_pos (by rw [c, r2]; exact hs)))
        rw [es]
        exact Or.inl ⟨e, hw.c, hw.n, by rw [hw.la, upTo_same hs]⟩
      · have es : md D a v (j + 1) = ((md D a v j).1.ws ((a : Int) + (j : Int)) v, (md D a v j).1.wsE ((a : Int) + (j : Int)) v) := (if_pos e).trans ((if_pos (by rw [c]; exact r1)).trans (if_neg (by rw [c, r2]; exact hs)))
        rw [es]
        rcases hw.ws (by omega) hv with ⟨e1, h1⟩ | ⟨e1, h1⟩
        · exact Or.inl ⟨e1, h1⟩
        · exact Or.inr ⟨e1, j, by omega, hs, h1⟩
    · have es : md D a v (j + 1) = md D a v j := if_neg (by rw [e]; decide)
      rw [es]
      exact Or.inr ⟨e, q, by omega, hf⟩
theorem Fell.mid {D E : DM} {a j : Nat} {v o n : List Nat} (h : Fell D E a j v) (ha : a + 2 < D.n) (h0 : Tri (upTo D.la a v j a) (upTo D.la a v j (a + 1)) (upTo D.la a v j (a + 2)) o n)
    (h1 : (j = 0 ∧ upTo D.la a v j (a + 1) = o ∧ upTo D.la a v j (a + 2) = o) ∨ (j = 1 ∧ upTo D.la a v j a = n ∧ upTo D.la a v j (a + 2) = o) ∨ (j = 2 ∧ upTo D.la a v j a = n ∧ upTo D.la a v j (a + 1) = n)) : ∃ p, Mid E a o n p := by
  rcases h.nw with e | e
  · refine ⟨none, by rw [h.n]; exact ha, fun i _ => by rw [e], ?_⟩
    show Tri _ _ _ o n
    rw [h.la]
    exact h0
  · refine ⟨some (a + j), by rw [h.n]; exact ha, fun i hi => ?_, ?_⟩
    · rw [e]
      exact if_neg (fun e2 => hi (by rw [e2]))
    · show _ ∨ _ ∨ _
      rw [h.la]
      rcases h1 with ⟨e1, e2⟩ | ⟨e1, e2⟩ | ⟨e1, e2⟩
      · exact Or.inl ⟨by omega, e2⟩
      · exact Or.inr (Or.inl ⟨by omega, e2⟩)
      · exact Or.inr (Or.inr ⟨by omega, e2⟩)
/-- Where the power goes within a Save of a steady mark. -/
theorem save_fell {D E : DM} {a q : Nat} {o n : List Nat} (ha : a + 2 < D.n) (ho : D.la a = o ∧ D.la (a + 1) = o ∧ D.la (a + 2) = o) (hq : q < 3) (h : Fell D E a q n) : ∃ p, Mid E a o n p := by
  obtain ⟨o0, o1, o2⟩ := ho
  have hc : q = 0 ∨ q = 1 ∨ q = 2 := by omega
  rcases hc with rfl | rfl | rfl
  · have u1 : upTo D.la a n 0 (a + 1) = o := (upTo_out (by omega)).trans o1
    have u2 : upTo D.la a n 0 (a + 2) = o := (upTo_out (by omega)).trans o2
    exact h.mid ha (Or.inl ⟨u1, u2⟩) (Or.inl ⟨rfl, u1, u2⟩)
  · have u0 : upTo D.la a n 1 a = n := upTo_in (by omega)
    have u2 : upTo D.la a n 1 (a + 2) = o := (upTo_out (by omega)).trans o2
    exact h.mid ha (Or.inr (Or.inl ⟨u0, u2⟩)) (Or.inr (Or.inl ⟨rfl, u0, u2⟩))
  · have u0 : upTo D.la a n 2 a = n := upTo_in (by omega)
    have u1 : upTo D.la a n 2 (a + 1) = n := upTo_in (by omega)
    exact h.mid ha (Or.inr (Or.inr ⟨u0, u1⟩)) (Or.inr (Or.inr ⟨rfl, u0, u1⟩))
/-- .. and within a Mend of what a crash left. -/
theorem mend_fell {D E : DM} {a q : Nat} {o n : List Nat} (hm : Mid D a o n none) (hq : q < 3) (hne : D.la (a + q) ≠ mv D a) (h : Fell D E a q (mv D a)) : ∃ p, Mid E a o n p := by
  have ha := hm.lt
  have hh : Tri (D.la a) (D.la (a + 1)) (D.la (a + 2)) o n := hm.h
  have hc : q = 0 ∨ q = 1 ∨ q = 2 := by omega
  by_cases hA : D.la (a + 1) = o ∧ D.la (a + 2) = o
  · obtain ⟨o1, o2⟩ := hA
    have hv : mv D a = o := by unfold mv; rw [if_pos (o1.trans o2.symm)]; exact o2
    rcases hc with rfl | rfl | rfl
    · have u1 : upTo D.la a (mv D a) 0 (a + 1) = o := (upTo_out (by omega)).trans o1
      have u2 : upTo D.la a (mv D a) 0 (a + 2) = o := (upTo_out (by omega)).trans o2
      exact h.mid ha (Or.inl ⟨u1, u2⟩) (Or.inl ⟨rfl, u1, u2⟩)
    · exact absurd (o1.trans hv.symm) hne
    · exact absurd (o2.trans hv.symm) hne
  · have hx : D.la a = n := by
      rcases hh with h' | ⟨h', _⟩ | ⟨h', _⟩
      · exact absurd h' hA
      · exact h'
      · exact h'
    have hv : mv D a = n := by
      unfold mv
      split
      · rename_i e
        rcases hh with h' | ⟨_, h'⟩ | ⟨_, h'⟩
        · exact absurd h' hA
        · exact absurd ⟨e.trans h', h'⟩ hA
        · exact e.symm.trans h'
      · exact hx
    rcases hc with rfl | rfl | rfl
    · exact absurd (hx.trans hv.symm) hne
    · have u0 : upTo D.la a (mv D a) 1 a = n := (upTo_in (by omega)).trans hv
      have u2 : upTo D.la a (mv D a) 1 (a + 2) = o := (upTo_out (by omega)).trans (by
        rcases hh with h' | ⟨_, h'⟩ | ⟨_, h'⟩
        · exact absurd h' hA
        · exact h'
        · exact absurd (h'.trans hv.symm) hne)
      exact h.mid ha (Or.inr (Or.inl ⟨u0, u2⟩)) (Or.inr (Or.inl ⟨rfl, u0, u2⟩))
    · have u0 : upTo D.la a (mv D a) 2 a = n := (upTo_in (by omega)).trans hv
      have u1 : upTo D.la a (mv D a) 2 (a + 1) = n := (upTo_in (by omega)).trans hv
      exact h.mid ha (Or.inr (Or.inr ⟨u0, u1⟩)) (Or.inr (Or.inr ⟨rfl, u0, u1⟩))
/-- Behind a Save, or a Mend, that went through, it is steady. -/
theorem Went.steady {D E : DM} {a : Nat} {v : List Nat} (h : Went D E a 3 v) : E.la a = v ∧ E.la (a + 1) = v ∧ E.la (a + 2) = v ∧ mv E a = v := by
  have u0 : E.la a = v := by rw [h.la]; exact upTo_in (by omega)
  have u1 : E.la (a + 1) = v := by rw [h.la]; exact upTo_in (by omega)
  have u2 : E.la (a + 2) = v := by rw [h.la]; exact upTo_in (by omega)
  exact ⟨u0, u1, u2, by unfold mv; rw [if_pos (u1.trans u2.symm)]; exact u2⟩
end Go.Proofs.Ytjgpopjpmfkfmaa
