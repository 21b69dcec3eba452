/- Layer 14, pure: marks over the disk's model. (Made ahead; it speaks of the model alone.) Layer 14: the program's small functions. Layer 14: the three sectors are read; Load. Layer 14: Save. -/
import Derived.Test.YtpophfeommlajaaMP28
import Derived.Laws.BytesArg
import Derived.Lib.Bytes
namespace Go.Proofs.Ytpophfeommlajaa
set_option maxRecDepth 100000

/-- A Write, and a Sync behind it. -/
def DM.wsE (D : DM) (i : Int) (l : List Nat) : Int := if D.wrE i l.length = 0 then (D.wr i l).syE else D.wrE i l.length
def DM.ws (D : DM) (i : Int) (l : List Nat) : DM := if D.wrE i l.length = 0 then (D.wr i l).sy else D.wr i l
/-- The first j sectors of a mark are saved: the disk, and the error. -/
def sv (D : DM) (at_ : Int) (l : List Nat) : Nat → DM × Int
  | 0 => (D, 0)
  | j + 1 => if (sv D at_ l j).2 = 0 then ((sv D at_ l j).1.ws (at_ + (j : Int)) l, (sv D at_ l j).1.wsE (at_ + (j : Int)) l) else sv D at_ l j
/-- What is loaded. -/
def DM.ldE (D : DM) (at_ : Int) : Int := if D.rdE at_ = 0 then (if D.rdE (at_ + 1) = 0 then D.rdE (at_ + 2) else D.rdE (at_ + 1)) else D.rdE at_
def DM.ldB (D : DM) (at_ : Int) : List Nat := if D.ldE at_ = 0 then (if D.rdB (at_ + 1) = D.rdB (at_ + 2) then D.rdB (at_ + 2) else D.rdB at_) else []
theorem sv_err {D : DM} {at_ : Int} {l : List Nat} {j : Nat} (h : (sv D at_ l j).2 ≠ 0) : ∀ k, j ≤ k → sv D at_ l k = sv D at_ l j := by
  intro k hk
  induction k with
  | zero => rw [show j = 0 by omega]
  | succ k ih =>
    by_cases e : j = k + 1
    · rw [e]
    · have ih := ih (by omega)
      show (if (sv D at_ l k).2 = 0 then _ else sv D at_ l k) = _
      rw [ih, if_neg h]
/-- A disk of which nothing is unsynced, and which is up. -/
structure DM.calm (D : DM) : Prop where
  nw : D.nw = fun _ => none
  dn : D.dn = false
/-- What a Write and a Sync of a calm disk leave: all of it, or a disk that is down. -/
theorem ws_calm {D : DM} (h : D.calm) {i : Nat} (hi : i < D.n) {l : List Nat} (hl : sec l) :
    (D.wsE (i : Int) l = 0 ∧ (D.ws (i : Int) l).calm ∧ (D.ws (i : Int) l).la = upd D.la i l ∧ (D.ws (i : Int) l).n = D.n) ∨
    (D.wsE (i : Int) l = 6 ∧ (D.ws (i : Int) l).dn = true ∧ (D.ws (i : Int) l).la = D.la ∧ (D.ws (i : Int) l).n = D.n ∧ ((D.ws (i : Int) l).nw = (fun _ => none) ∨ (D.ws (i : Int) l).nw = upd (fun _ => none) i (some l))) := by
  obtain ⟨n, la, nw, fu, dn⟩ := D
  obtain ⟨h1, h2⟩ := h
  simp only at h1 h2 hi
  subst h1 h2
  have hi' : (0 : Int) ≤ (i : Int) ∧ (i : Int) < (n : Int) := by omega
  have hl1 := hl.1
  have hla : (fun j => (upd (fun _ => none) i (some l) j).getD (la j)) = upd la i l := by
    funext j
    by_cases e : j = i
    · subst e; simp [upd]
    · simp [upd, e]
  cases fu with
  | none =>
    left
    refine ⟨?_, ?_, ?_, ?_⟩ <;> simp [DM.wsE, DM.ws, DM.wrE, DM.wr, DM.syE, DM.sy, DM.may, DM.burn, hi', hl1, hla]
    exact ⟨rfl, rfl⟩
  | some k =>
    match k with
    | 0 =>
      right
      refine ⟨?_, ?_, ?_, ?_, ?_⟩ <;> simp [DM.wsE, DM.ws, DM.wrE, DM.wr, DM.may, DM.burn, hi', hl1]
    | 1 =>
      right
      refine ⟨?_, ?_, ?_, ?_, ?_⟩ <;> simp [DM.wsE, DM.ws, DM.wrE, DM.wr, DM.syE, DM.sy, DM.may, DM.burn, hi', hl1]
    | k + 2 =>
      left
      refine ⟨?_, ?_, ?_, ?_⟩ <;> simp [DM.wsE, DM.ws, DM.wrE, DM.wr, DM.syE, DM.sy, DM.may, DM.burn, hi', hl1, hla]
      exact ⟨rfl, rfl⟩
/-- The three sectors from 'a' on, with an old and a new value, one of them perhaps in the midst of being written. -/
def Tri (x y z o n : List Nat) : Prop := (y = o ∧ z = o) ∨ (x = n ∧ z = o) ∨ (x = n ∧ y = n)
def MidP (la : Nat → List Nat) (a : Nat) (o n : List Nat) : Option Nat → Prop
  | none => Tri (la a) (la (a + 1)) (la (a + 2)) o n
  | some q => (q = a ∧ la (a + 1) = o ∧ la (a + 2) = o) ∨ (q = a + 1 ∧ la a = n ∧ la (a + 2) = o) ∨ (q = a + 2 ∧ la a = n ∧ la (a + 1) = n)
structure Mid (D : DM) (a : Nat) (o n : List Nat) (p : Option Nat) : Prop where
  lt : a + 2 < D.n
  nw : ∀ i, p ≠ some i → D.nw i = none
  h : MidP D.la a o n p
/-- Whatever a crash keeps or tears, the three are told. -/
theorem Mid.crash {D : DM} {a : Nat} {o n : List Nat} {p : Option Nat} (h : Mid D a o n p) (K : List Bool) (t at_ : Int) : Mid (D.cr K t at_) a o n none := by
  have same : ∀ i, p ≠ some i → (D.cr K t at_).la i = D.la i := fun i hi => by
    show D.crA K t at_ i = D.la i
    unfold DM.crA
    rw [h.nw i hi]
  refine ⟨h.lt, fun _ _ => rfl, ?_⟩
  show Tri _ _ _ o n
  have hh := h.h
  cases p with
  | none =>
    rw [same a (by simp), same (a + 1) (by simp), same (a + 2) (by simp)]
    exact hh
  | some q =>
    rcases hh with ⟨rfl, h1, h2⟩ | ⟨rfl, h1, h2⟩ | ⟨rfl, h1, h2⟩
    · exact Or.inl ⟨(same _ (by simp)).trans h1, (same _ (by simp)).trans h2⟩
    · exact Or.inr (Or.inl ⟨(same _ (by simp)).trans h1, (same _ (by simp)).trans h2⟩)
    · exact Or.inr (Or.inr ⟨(same _ (by simp)).trans h1, (same _ (by simp)).trans h2⟩)
theorem cr_calm (D : DM) (K : List Bool) (t at_ : Int) : (D.cr K t at_).calm := ⟨rfl, rfl⟩
theorem rd_calm {D : DM} (h : D.calm) {i : Nat} (hi : i < D.n) : D.rdE (i : Int) = 0 ∧ D.rdB (i : Int) = D.la i := by
  have h1 := h.nw
  have h2 := h.dn
  have hi' : (0 : Int) ≤ (i : Int) ∧ (i : Int) < (D.n : Int) := by omega
  refine ⟨by simp [DM.rdE, h2, hi'], ?_⟩
  simp [DM.rdB, DM.cur, h1, h2, hi']
/-- The value of a calm disk's mark. -/
def mv (D : DM) (a : Nat) : List Nat := if D.la (a + 1) = D.la (a + 2) then D.la (a + 2) else D.la a
theorem ld_calm {D : DM} (h : D.calm) {a : Nat} (ha : a + 2 < D.n) : D.ldE (a : Int) = 0 ∧ D.ldB (a : Int) = mv D a := by
  obtain ⟨e0, b0⟩ := rd_calm h (i := a) (by omega)
  obtain ⟨e1, b1⟩ := rd_calm h (i := a + 1) (by omega)
  obtain ⟨e2, b2⟩ := rd_calm h (i := a + 2) ha
  have c1 : ((a : Int) + 1) = ((a + 1 : Nat) : Int) := by omega
  have c2 : ((a : Int) + 2) = ((a + 2 : Nat) : Int) := by omega
  have e : D.ldE (a : Int) = 0 := by
    unfold DM.ldE
    rw [c1, c2, if_pos e0, if_pos e1, e2]
  refine ⟨e, ?_⟩
  unfold DM.ldB mv
  rw [if_pos e, c1, c2, b0, b1, b2]
theorem Mid.value {D : DM} {a : Nat} {o n : List Nat} (h : Mid D a o n none) : mv D a = o ∨ mv D a = n := by
  have hh : Tri (D.la a) (D.la (a + 1)) (D.la (a + 2)) o n := h.h
  unfold mv
  rcases hh with ⟨h1, h2⟩ | ⟨h1, h2⟩ | ⟨h1, h2⟩
  · rw [if_pos (h1.trans h2.symm)]; exact Or.inl h2
  · split
    · exact Or.inl h2
    · exact Or.inr h1
  · split
    · rename_i e; exact Or.inr (e.symm.trans h2)
    · exact Or.inr h1
theorem fuse_calm {D : DM} (h : D.calm) (i : Int) : (D.fuse i).calm := ⟨h.nw, h.dn⟩
theorem Mid.fuse {D : DM} {a : Nat} {o n : List Nat} {p : Option Nat} (h : Mid D a o n p) (i : Int) : Mid (D.fuse i) a o n p := ⟨h.lt, h.nw, h.h⟩
/-- The first j of the three have v. -/
def upTo (f : Nat → List Nat) (a : Nat) (v : List Nat) (j : Nat) : Nat → List Nat := fun i => if a ≤ i ∧ i < a + j then v else f i
theorem upTo_zero (f : Nat → List Nat) (a : Nat) (v : List Nat) : upTo f a v 0 = f := funext fun i => if_neg (by omega)
theorem upTo_succ (f : Nat → List Nat) (a : Nat) (v : List Nat) (j : Nat) : upd (upTo f a v j) (a + j) v = upTo f a v (j + 1) := by
  funext i
  unfold upd upTo
  by_cases e : i = a + j
  · rw [if_pos e, if_pos (by omega)]
  · rw [if_neg e]
    by_cases h : a ≤ i ∧ i < a + j
    · rw [if_pos h, if_pos (by omega)]
    · rw [if_neg h, if_neg (by omega)]
theorem upTo_same {f : Nat → List Nat} {a : Nat} {v : List Nat} {j : Nat} (h : f (a + j) = v) : upTo f a v (j + 1) = upTo f a v j := by
  funext i
  unfold upTo
  by_cases e : i = a + j
  · rw [if_pos (by omega), if_neg (by omega), e, h]
  · by_cases h : a ≤ i ∧ i < a + j
    · rw [if_pos h, if_pos (by omega)]
    · rw [if_neg h, if_neg (by omega)]
theorem upTo_in {f : Nat → List Nat} {a : Nat} {v : List Nat} {j i : Nat} (h : a ≤ i ∧ i < a + j) : upTo f a v j i = v := if_pos h
theorem upTo_out {f : Nat → List Nat} {a : Nat} {v : List Nat} {j i : Nat} (h : ¬ (a ≤ i ∧ i < a + j)) : upTo f a v j i = f i := if_neg h
/-- A disk that went down at a Write or a Sync of the j-th of the three. -/
structure Fell (D E : DM) (a j : Nat) (v : List Nat) : Prop where
  dn : E.dn = true
  n : E.n = D.n
  la : E.la = upTo D.la a v j
  nw : E.nw = (fun _ => none) ∨ E.nw = upd (fun _ => none) (a + j) (some v)
structure Went (D E : DM) (a j : Nat) (v : List Nat) : Prop where
  c : E.calm
  n : E.n = D.n
  la : E.la = upTo D.la a v j
theorem Went.ws {D E : DM} {a j : Nat} {v : List Nat} (h : Went D E a j v) (hj : a + j < D.n) (hv : sec v) : (E.wsE ((a : Int) + (j : Int)) v = 0 ∧ Went D (E.ws ((a : Int) + (j : Int)) v) a (j + 1) v) ∨ (E.wsE ((a : Int) + (j : Int)) v = 6 ∧ Fell D (E.ws ((a : Int) + (j : Int)) v) a j v) := by
  have c : ((a : Int) + (j : Int)) = ((a + j : Nat) : Int) := by omega
  rw [c]
  rcases ws_calm h.c (i := a + j) (by rw [h.n]; exact hj) hv with ⟨e, h1, h2, h3⟩ | ⟨e, h1, h2, h3, h4⟩
  · exact Or.inl ⟨e, h1, h3.trans h.n, by rw [h2, h.la, upTo_succ]⟩
  · exact Or.inr ⟨e, h1, h3.trans h.n, by rw [h2, h.la], h4⟩
/-- A Save on a calm disk: done so far, or fallen at one of the three. -/
theorem sv_steps {D : DM} (h : D.calm) {a : Nat} (ha : a + 2 < D.n) {v : List Nat} (hv : sec v) : ∀ j, j ≤ 3 → ((sv D a v j).2 = 0 ∧ Went D (sv D a v j).1 a j v) ∨ ((sv D a v j).2 = 6 ∧ ∃ q, q < j ∧ Fell D (sv D a v j).1 a q v)
  | 0, _ => Or.inl ⟨rfl, h, rfl, (upTo_zero _ _ _).symm⟩
  | j + 1, hj => by
    rcases sv_steps h ha hv j (by omega) with ⟨e, hw⟩ | ⟨e, q, hq, hf⟩
    · have es : sv D a v (j + 1) = ((sv D a v j).1.ws ((a : Int) + (j : Int)) v, (sv D a v j).1.wsE ((a : Int) + (j : Int)) v) := if_pos e
      rw [es]
      rcases hw.ws (by omega) hv with ⟨e1, h1⟩ | ⟨e1, h1⟩
      · exact Or.inl ⟨e1, h1⟩
      · exact Or.inr ⟨e1, j, by omega, h1⟩
    · have es : sv D a v (j + 1) = sv D a v j := if_neg (by rw [e]; decide)
      rw [es]
      exact Or.inr ⟨e, q, by omega, hf⟩
theorem Fell.mid {D E : DM} {a j : Nat} {v o n : List Nat} (h : Fell D E a j v) (ha : a + 2 < D.n) (h0 : Tri (upTo D.la a v j a) (upTo D.la a v j (a + 1)) (upTo D.la a v j (a + 2)) o n)
    (h1 : (j = 0 ∧ upTo D.la a v j (a + 1) = o ∧ upTo D.la a v j (a + 2) = o) ∨ (j = 1 ∧ upTo D.la a v j a = n ∧ upTo D.la a v j (a + 2) = o) ∨ (j = 2 ∧ upTo D.la a v j a = n ∧ upTo D.la a v j (a + 1) = n)) : ∃ p, Mid E a o n p := by
  rcases h.nw with e | e
  · refine ⟨none, by rw [h.n]; exact ha, fun i _ => by rw [e], ?_⟩
    show Tri _ _ _ o n
    rw [h.la]
    exact h0
  · refine ⟨some (a + j), by rw [h.n]; exact ha, fun i hi => ?_, ?_⟩
    · rw [e]
      exact if_neg (fun e2 => hi (by rw [e2]))
    · show _ ∨ _ ∨ _
      rw [h.la]
      rcases h1 with ⟨e1, e2⟩ | ⟨e1, e2⟩ | ⟨e1, e2⟩
      · exact Or.inl ⟨by omega, e2⟩
      · exact Or.inr (Or.inl ⟨by omega, e2⟩)
      · exact Or.inr (Or.inr ⟨by omega, e2⟩)
/-- Where the power goes within a Save of a steady mark. -/
theorem save_fell {D E : DM} {a q : Nat} {o n : List Nat} (ha : a + 2 < D.n) (ho : D.la a = o ∧ D.la (a + 1) = o ∧ D.la (a + 2) = o) (hq : q < 3) (h : Fell D E a q n) : ∃ p, Mid E a o n p := by
  obtain ⟨o0, o1, o2⟩ := ho
  have hc : q = 0 ∨ q = 1 ∨ q = 2 := by omega
  rcases hc with rfl | rfl | rfl
  · have u1 : upTo D.la a n 0 (a + 1) = o := (upTo_out (by omega)).trans o1
    have u2 : upTo D.la a n 0 (a + 2) = o := (upTo_out (by omega)).trans o2
    exact h.mid ha (Or.inl ⟨u1, u2⟩) (Or.inl ⟨rfl, u1, u2⟩)
  · have u0 : upTo D.la a n 1 a = n := upTo_in (by omega)
    have u2 : upTo D.la a n 1 (a + 2) = o := (upTo_out (by omega)).trans o2
    exact h.mid ha (Or.inr (Or.inl ⟨u0, u2⟩)) (Or.inr (Or.inl ⟨rfl, u0, u2⟩))
  · have u0 : upTo D.la a n 2 a = n := upTo_in (by omega)
    have u1 : upTo D.la a n 2 (a + 1) = n := upTo_in (by omega)
    exact h.mid ha (Or.inr (Or.inr ⟨u0, u1⟩)) (Or.inr (Or.inr ⟨rfl, u0, u1⟩))
/-- .. and within a Mend of what a crash left. -/
theorem mend_fell {D E : DM} {a q : Nat} {o n : List Nat} (hm : Mid D a o n none) (hq : q < 3) (hne : D.la (a + q) ≠ mv D a) (h : Fell D E a q (mv D a)) : ∃ p, Mid E a o n p := by
  have ha := hm.lt
  have hh : Tri (D.la a) (D.la (a + 1)) (D.la (a + 2)) o n := hm.h
  have hc : q = 0 ∨ q = 1 ∨ q = 2 := by omega
  by_cases hA : D.la (a + 1) = o ∧ D.la (a + 2) = o
  · obtain ⟨o1, o2⟩ := hA
    have hv : mv D a = o := by unfold mv; rw [if_pos (o1.trans o2.symm)]; exact o2
    rcases hc with rfl | rfl | rfl
    · have u1 : upTo D.la a (mv D a) 0 (a + 1) = o := (upTo_out (by omega)).trans o1
      have u2 : upTo D.la a (mv D a) 0 (a + 2) = o := (upTo_out (by omega)).trans o2
      exact h.mid ha (Or.inl ⟨u1, u2⟩) (Or.inl ⟨rfl, u1, u2⟩)
    · exact absurd (o1.trans hv.symm) hne
    · exact absurd (o2.trans hv.symm) hne
  · have hx : D.la a = n := by
      rcases hh with h' | ⟨h', _⟩ | ⟨h', _⟩
      · exact absurd h' hA
      · exact h'
      · exact h'
    have hv : mv D a = n := by
      unfold mv
      split
      · rename_i e
        rcases hh with h' | ⟨_, h'⟩ | ⟨_, h'⟩
        · exact absurd h' hA
        · exact absurd ⟨e.trans h', h'⟩ hA
        · exact e.symm.trans h'
      · exact hx
    rcases hc with rfl | rfl | rfl
    · exact absurd (hx.trans hv.symm) hne
    · have u0 : upTo D.la a (mv D a) 1 a = n := (upTo_in (by omega)).trans hv
      have u2 : upTo D.la a (mv D a) 1 (a + 2) = o := (upTo_out (by omega)).trans (by
        rcases hh with h' | ⟨_, h'⟩ | ⟨_, h'⟩
        · exact absurd h' hA
        · exact h'
        · exact absurd (h'.trans hv.symm) hne)
      exact h.mid ha (Or.inr (Or.inl ⟨u0, u2⟩)) (Or.inr (Or.inl ⟨rfl, u0, u2⟩))
    · have u0 : upTo D.la a (mv D a) 2 a = n := (upTo_in (by omega)).trans hv
      have u1 : upTo D.la a (mv D a) 2 (a + 1) = n := (upTo_in (by omega)).trans hv
      exact h.mid ha (Or.inr (Or.inr ⟨u0, u1⟩)) (Or.inr (Or.inr ⟨rfl, u0, u1⟩))
/-- Behind a Save, or a Mend, that went through, it is steady. -/
theorem Went.steady {D E : DM} {a : Nat} {v : List Nat} (h : Went D E a 3 v) : E.la a = v ∧ E.la (a + 1) = v ∧ E.la (a + 2) = v ∧ mv E a = v := by
  have u0 : E.la a = v := by rw [h.la]; exact upTo_in (by omega)
  have u1 : E.la (a + 1) = v := by rw [h.la]; exact upTo_in (by omega)
  have u2 : E.la (a + 2) = v := by rw [h.la]; exact upTo_in (by omega)
  exact ⟨u0, u1, u2, by unfold mv; rw [if_pos (u1.trans u2.symm)]; exact u2⟩
end Go.Proofs.Ytpophfeommlajaa
namespace Go.Proofs.Ytpophfeommlajaa
set_option maxRecDepth 100000
open Go.RowKit Go.Maps
attribute [local go_sem ↓] Go.wp_at_zero Go.wp_at_succ

/-- Sixty-four bytes from a block's beginning on. -/
abbrev s64 (g : Nat) : Value := .slice (some ⟨g, 0, none⟩) 64 64
theorem conv64 {w : World} {g : Nat} {l : List Nat} (h : w.rangeAt g 0 (cells8 l)) (hl : sec l) : (convert 38 9 (s64 g)).run Try.prog w = .ok (.string (strOfNums (l.map fun (x : Nat) => (x : Int)))) w := by
  refine run_convert_bytes_arg (P := Try.prog) w 38 5 Try.underlying38 Try.underlying5 g 0 64 64 _ (by rw [List.length_map]; exact hl.1) (fun i hi => ?_) 9 Try.underlying9
  have hi' : i < l.length := by rw [hl.1]; exact hi
  rw [h i _ (cells8_at l i hi')]
  simp [List.getD_eq_getElem?_getD, List.getElem?_eq_getElem hi']
theorem str_eq {l m : List Nat} (hl : ∀ x ∈ l, x < 256) (hm : ∀ x ∈ m, x < 256) : ((strOfNums (l.map fun (x : Nat) => (x : Int))).toList == (strOfNums (m.map fun (x : Nat) => (x : Int))).toList) = decide (l = m) := by
  have e : ∀ l : List Nat, (∀ x ∈ l, x < 256) → ((strOfNums (l.map fun (x : Nat) => (x : Int))).toList).map UInt8.toNat = l := by
    intro l hl
    rw [Lib.strOfNums_toList, Lib.bytesOf, List.map_map, List.map_map]
    refine (List.map_congr_left (fun x hx => ?_)).trans (List.map_id l)
    have := hl x hx
    simp
    omega
  by_cases h : l = m
  · subst h; simp
  · rw [decide_eq_false h]
    exact beq_eq_false_iff_ne.2 (fun h2 => h (by rw [← e l hl, ← e m hm, h2]))
theorem eq_any {w : World} {g q : Nat} {l m : List Nat} (h : w.rangeAt g 0 (cells8 l)) (hl : sec l) (h2 : w.rangeAt q 0 (cells8 m)) (hm : sec m) :
    Calls Try.prog 59 #[s64 g, s64 q] w fun e w' => e = .returned (.bool (decide (l = m))) ∧ w' = w := by
  have c1 := conv64 h hl
  have c2 := conv64 h2 hm
  rw [← str_eq hl.2 hm.2]
  clear h h2
  go_enter Try.func59, Try.ntmps59
  go_wp2_with fail
  go_ret
  exact ⟨rfl, rfl⟩
theorem results_cell_mid {P : Program} {fn : Func} {p : Tmp} {ty : TypeId} (h : fn.results = #[.cell p ty]) (tmps : Array Value) (w : World) (b : Nat) (cs : List Value) (d : TypeDesc)
    (hp : tmps.getD p undef = .pointer (some ⟨b, 0, none⟩)) (hc : w.rangeAt b 0 cs) (hu : P.underlying ty = some d) (hd : d.isRow = true) (hi : (P.info? ty).map (·.size) = some cs.length) :
    (results fn tmps).run P w = .ok (.agg cs.toArray) w := by
  have hp' : tmps[p]?.getD undef = .pointer (some ⟨b, 0, none⟩) := by simpa using hp
  simp [results, h, hp', asAddr, run_loadVar_mid w b 0 ty cs d hc hu hd hi]
theorem results_cell_two {P : Program} {fn : Func} {p u : Tmp} {ty : TypeId} (h : fn.results = #[.cell p ty, .tmp u]) (tmps : Array Value) (w : World) (b : Nat) (cs : List Value) (d : TypeDesc)
    (hp : tmps.getD p undef = .pointer (some ⟨b, 0, none⟩)) (hc : w.rangeAt b 0 cs) (hu : P.underlying ty = some d) (hd : d.isRow = true) (hi : (P.info? ty).map (·.size) = some cs.length) :
    (results fn tmps).run P w = .ok (.tuple #[.agg cs.toArray, tmps.getD u undef]) w := by
  have hp' : tmps[p]?.getD undef = .pointer (some ⟨b, 0, none⟩) := by simpa using hp
  simp [results, h, hp', asAddr, run_loadVar_mid w b 0 ty cs d hc hu hd hi, Result.andThen]
theorem size3I : (Try.prog.info? 100).map (·.size) = some 3 := by kernel_rfl
theorem size3B : (Try.prog.info? 97).map (·.size) = some 3 := by kernel_rfl
theorem range_new (w : World) (cs : List Value) (t : TypeId) : (w.alloc (.cells cs.toArray t)).rangeAt w.heap.size 0 cs := fun j v hv => by
  have hh : (w.alloc (.cells cs.toArray t)).heap[w.heap.size]? = some (.cells cs.toArray t) := heap_alloc_new w _
  unfold World.cell?
  simp only [hh, Nat.zero_add]
  simpa using hv
/-- Places that do not wrap. -/
def few9 (i : Int) : Prop := -1000000 ≤ i ∧ i ≤ 1000000
theorem places_any (w : World) {i : Int} (hi : few9 i) : Calls Try.prog 58 #[.int .i64 i] w fun e w' => e = .returned (.agg #[.int .i64 i, .int .i64 (i + 1), .int .i64 (i + 2)]) ∧ Below w.heap.size w w' := by
  have w1 : wrap64 (i + 1) = i + 1 := by unfold few9 at hi; unfold wrap64; omega
  have w2 : wrap64 (i + 2) = i + 2 := by unfold few9 at hi; unfold wrap64; omega
  clear hi
  go_enter Try.func58, Try.ntmps58
  go_wp2_with fail
  exact bodyPost_ret (results_cell_mid Try.results58 _ _ w.heap.size [.int .i64 i, .int .i64 (i + 1), .int .i64 (i + 2)] _ rfl (range_new w _ _) Try.underlying100 rfl size3I) rfl ⟨rfl, K.alloc (Below.refl _ _) _⟩
/-- The value of three sectors, and where it lies. -/
def vl (l0 l1 l2 : List Nat) : List Nat := if l1 = l2 then l2 else l0
def vg (l1 l2 : List Nat) (g0 g2 : Nat) : Nat := if l1 = l2 then g2 else g0
theorem value_any {w : World} {g0 g1 g2 : Nat} {l1 l2 : List Nat} (h1 : w.rangeAt g1 0 (cells8 l1)) (s1 : sec l1) (h2 : w.rangeAt g2 0 (cells8 l2)) (s2 : sec l2) :
    Calls Try.prog 60 #[.agg #[s64 g0, s64 g1, s64 g2]] w fun e w' => e = .returned (s64 (vg l1 l2 g0 g2)) ∧ Below w.heap.size w w' := by
  have H1 := hide h1
  have H2 := hide h2
  have HS := hide (And.intro s1 s2)
  clear h1 h2 s1 s2
  have hle : ∀ {o : Obj}, Below w.heap.size w (w.alloc o) := fun {o} => K.alloc (Below.refl _ _) o
  by_cases e : l1 = l2
  · have HV : Hid (vg l1 l2 g0 g2 = g2) := if_pos e
    have hd : decide (l2 = l1) = true := decide_eq_true e.symm
    clear e
    go_enter Try.func60, Try.ntmps60
    go_wp2_with (go_at_call 59; refine Calls.mono (eq_any (fun j v hv => later hle (H2.out j v hv)) HS.out.2 (fun j v hv => later hle (H1.out j v hv)) HS.out.1) ?_; rintro e w' ⟨rfl, rfl⟩)
    go_ret
    exact ⟨by rw [HV.out]; rfl, hle⟩
  · have HV : Hid (vg l1 l2 g0 g2 = g0) := if_neg e
    have hd : decide (l2 = l1) = false := decide_eq_false (fun h => e h.symm)
    clear e
    go_enter Try.func60, Try.ntmps60
    go_wp2_with (go_at_call 59; refine Calls.mono (eq_any (fun j v hv => later hle (H2.out j v hv)) HS.out.2 (fun j v hv => later hle (H1.out j v hv)) HS.out.1) ?_; rintro e w' ⟨rfl, rfl⟩)
    go_ret
    exact ⟨by rw [HV.out]; rfl, hle⟩
/-- A Write, and a Sync behind it. -/
theorem put_any {w : World} {b lb mb : Nat} {D : DM} (h : Dsk w b lb mb D) (i : Int) {z : Option Addr} {m c : Nat} {f : Nat → Nat} (hb : BA w z m f) (hz : 0 < m → ∀ p, z = some p → X3 b lb mb p.block = false) :
    Calls Try.prog 61 #[pp b, .int .i64 i, .slice z m c] w (WrP w b lb mb (D.ws i (fl f m)) (D.wsE i (fl f m))) := by
  have HC := hide (write_any (c := c) h i hb hz)
  clear h hb hz
  by_cases he : D.wrE i m = 0
  · have e1 : D.ws i (fl f m) = (D.wr i (fl f m)).sy := if_pos (by rw [fl_len]; exact he)
    have e2 : D.wsE i (fl f m) = (D.wr i (fl f m)).syE := if_pos (by rw [fl_len]; exact he)
    rw [e1, e2]
    rw [he] at HC
    clear e1 e2 he
    go_enter Try.func61, Try.ntmps61
    go_wp2_with (first
      | (go_at_call 18; refine Calls.mono HC.out ?_; rintro e W1 ⟨rfl, hD1, hK1⟩; have HD1 := hide hD1; have HK1 := hide hK1; clear hD1 hK1)
      | (go_at_call 68; refine Calls.mono (sync_any HD1.out) ?_; rintro e W2 ⟨rfl, hD2, hK2⟩; have HD2 := hide hD2; have HK2 := hide hK2; clear hD2 hK2))
    go_ret
    exact ⟨rfl, HD2.out, HK1.out.trans HK2.out⟩
  · have e1 : D.ws i (fl f m) = D.wr i (fl f m) := if_neg (by rw [fl_len]; exact he)
    have e2 : D.wsE i (fl f m) = D.wrE i m := (if_neg (by rw [fl_len]; exact he)).trans (by rw [fl_len])
    rw [e1, e2]
    have hne : (D.wrE i m != 0) = true := by simp [he]
    have hne' : (D.wrE i m == 0) = false := by simp [he]
    clear e1 e2 he
    go_enter Try.func61, Try.ntmps61
    go_wp2_with (first
      | (go_at_call 18; refine Calls.mono HC.out ?_; rintro e W1 ⟨rfl, hD1, hK1⟩; have HD1 := hide hD1; have HK1 := hide hK1; clear hD1 hK1))
    go_ret
    exact ⟨rfl, HD1.out, HK1.out⟩
end Go.Proofs.Ytpophfeommlajaa
namespace Go.Proofs.Ytpophfeommlajaa
set_option maxRecDepth 100000
open Go.RowKit Go.Maps
attribute [local go_sem ↓] Go.wp_at_zero Go.wp_at_succ

theorem rdB_sec {D : DM} (h : D.ok) {i : Int} (he : D.rdE i = 0) : sec (D.rdB i) := by
  unfold DM.rdE at he
  unfold DM.rdB
  split at he
  · cases he
  · rename_i h1
    rw [if_neg h1]
    split at he
    · rename_i h2
      rw [if_pos h2]
      exact DM.cur_sec h _
    · cases he
/-- A sector that was read, in a block of its own. -/
structure Got (w wr : World) (g : Nat) (l : List Nat) : Prop where
  ge : w.heap.size ≤ g
  lt : g < wr.heap.size
  r : wr.rangeAt g 0 (cells8 l)
theorem Got.keep {w wr w' : World} {g : Nat} {l : List Nat} (h : Got w wr g l) (hb : Below wr.heap.size wr w') : Got w w' g l := ⟨h.ge, Nat.lt_of_lt_of_le h.lt hb.size, fun j v hv => later hb (h.r j v hv)⟩
/-- While the three are read: what is there of them, in block hb; the answer's block is rb. -/
structure RdL (w wr : World) (rb hb : Nat) (D : DM) (a : Int) (i : Nat) : Prop where
  k : Below w.heap.size w wr
  rg : w.heap.size ≤ rb
  hg : w.heap.size ≤ hb
  ne : rb ≠ hb
  rl : rb < wr.heap.size
  hl : hb < wr.heap.size
  rt : wr.there rb 0 3
  ht : wr.there hb 0 3
  c : ∀ j : Nat, j < i → ∃ g, wr.cell? ⟨hb, j, none⟩ = some (s64 g) ∧ g ≠ hb ∧ g ≠ rb ∧ Got w wr g (D.rdB (a + j))
  z : ∀ j : Nat, i ≤ j → j < 3 → wr.cell? ⟨hb, j, none⟩ = some (.slice none 0 0)
  ok : ∀ j : Nat, j < i → D.rdE (a + j) = 0
theorem RdL.grow {w wr w' : World} {rb hb : Nat} {D : DM} {a : Int} {i : Nat} (h : RdL w wr rb hb D a i) (hB : Below wr.heap.size wr w') : RdL w w' rb hb D a i := by
  have e1 := hB.block rb h.rl
  have e2 := hB.block hb h.hl
  have c1 : ∀ o, w'.cell? ⟨rb, o, none⟩ = wr.cell? ⟨rb, o, none⟩ := fun o => World.cell?_of_block (w := wr) e1
  have c2 : ∀ o, w'.cell? ⟨hb, o, none⟩ = wr.cell? ⟨hb, o, none⟩ := fun o => World.cell?_of_block (w := wr) e2
  have f1 : ∀ o, w'.frozen? ⟨rb, o, none⟩ = wr.frozen? ⟨rb, o, none⟩ := fun o => World.frozen?_of_block (w := wr) e1
  have f2 : ∀ o, w'.frozen? ⟨hb, o, none⟩ = wr.frozen? ⟨hb, o, none⟩ := fun o => World.frozen?_of_block (w := wr) e2
  exact ⟨K.call h.k hB, h.rg, h.hg, h.ne, Nat.lt_of_lt_of_le h.rl hB.size, Nat.lt_of_lt_of_le h.hl hB.size, fun j hj => ⟨by rw [c1]; exact (h.rt j hj).1, by rw [f1]; exact (h.rt j hj).2⟩, fun j hj => ⟨by rw [c2]; exact (h.ht j hj).1, by rw [f2]; exact (h.ht j hj).2⟩,
    fun j hj => by obtain ⟨g, h1, h2, h3, h4⟩ := h.c j hj; exact ⟨g, (c2 _).trans h1, h2, h3, h4.keep hB⟩, fun j h1 h2 => (c2 _).trans (h.z j h1 h2), h.ok⟩
theorem below_set {n : Nat} {w w1 : World} {g o : Nat} (hg : n ≤ g) (v : Value) (h : Below n w w1) : Below n w (w1.setCell ⟨g, o, none⟩ v) := h.setCell (p := ⟨g, o, none⟩) hg v
theorem far_set {w : World} {g o q p : Nat} (h : q ≠ g) (v : Value) : (w.setCell ⟨g, o, none⟩ v).cell? ⟨q, p, none⟩ = w.cell? ⟨q, p, none⟩ := World.cell?_setCell_far w ⟨g, o, none⟩ ⟨q, p, none⟩ v (fun e => h e.symm)
theorem RdL.put {w wr : World} {rb hb : Nat} {D : DM} {a : Int} {i : Nat} (h : RdL w wr rb hb D a i) (hi : i < 3) {g : Nat} (h1 : g ≠ hb) (h2 : g ≠ rb) (hG : Got w wr g (D.rdB (a + i))) (he : D.rdE (a + i) = 0) : RdL w (wr.setCell ⟨hb, i, none⟩ (s64 g)) rb hb D a (i + 1) := by
  have hs : (wr.setCell ⟨hb, i, none⟩ (s64 g)).heap.size = wr.heap.size := by simp
  have hthere := h.ht i hi
  rw [Nat.zero_add] at hthere
  have hsame : (wr.setCell ⟨hb, i, none⟩ (s64 g)).cell? ⟨hb, i, none⟩ = some (s64 g) := World.cell?_setCell_same' wr _ _ hthere.1
  have hoth : ∀ j, j ≠ i → (wr.setCell ⟨hb, i, none⟩ (s64 g)).cell? ⟨hb, j, none⟩ = wr.cell? ⟨hb, j, none⟩ := fun j hj => by
    rw [World.cell?_setCell_other]
    exact fun e => hj (by cases e; rfl)
  refine ⟨below_set h.hg _ h.k, h.rg, h.hg, h.ne, by rw [hs]; exact h.rl, by rw [hs]; exact h.hl, fun j hj => ⟨by rw [far_set h.ne]; exact (h.rt j hj).1, by rw [World.frozen?_setCell]; exact (h.rt j hj).2⟩, fun j hj => ⟨?_, by rw [World.frozen?_setCell]; exact (h.ht j hj).2⟩, fun j hj => ?_, fun j hj1 hj2 => (hoth j (by omega)).trans (h.z j (by omega) hj2), fun j hj => ?_⟩
  · by_cases e : j = i
    · subst e; rw [Nat.zero_add, hsame]; rfl
    · rw [Nat.zero_add, hoth j e]
      have := (h.ht j hj).1
      rwa [Nat.zero_add] at this
  · by_cases e : j = i
    · subst e
      exact ⟨g, hsame, h1, h2, hG.ge, by rw [hs]; exact hG.lt, fun k v hv => (far_set h1 _).trans (hG.r k v hv)⟩
    · obtain ⟨q, q1, q2, q3, q4⟩ := h.c j (by omega)
      exact ⟨q, (hoth j e).trans q1, q2, q3, q4.ge, by rw [hs]; exact q4.lt, fun k v hv => (far_set q2 _).trans (q4.r k v hv)⟩
  · by_cases e : j = i
    · subst e; exact he
    · exact h.ok j (by omega)
/-- The three cells of what is read. -/
theorem RdL.cells {w wr : World} {rb hb : Nat} {D : DM} {a : Int} {i : Nat} (h : RdL w wr rb hb D a i) : ∃ p0 n0 c0 p1 n1 c1 p2 n2 c2, wr.rangeAt hb 0 [.slice p0 n0 c0, .slice p1 n1 c1, .slice p2 n2 c2] := by
  have key : ∀ j, j < 3 → ∃ p n c, wr.cell? ⟨hb, j, none⟩ = some (.slice p n c) := fun j hj => by
    by_cases e : j < i
    · obtain ⟨g, h1, _⟩ := h.c j e
      exact ⟨_, _, _, h1⟩
    · exact ⟨_, _, _, h.z j (by omega) hj⟩
  obtain ⟨p0, n0, c0, h0⟩ := key 0 (by omega)
  obtain ⟨p1, n1, c1, h1⟩ := key 1 (by omega)
  obtain ⟨p2, n2, c2, h2⟩ := key 2 (by omega)
  refine ⟨p0, n0, c0, p1, n1, c1, p2, n2, c2, fun j v hv => ?_⟩
  match j, hv with
  | 0, hv => simp at hv; rw [← hv]; exact h0
  | 1, hv => simp at hv; rw [← hv]; exact h1
  | 2, hv => simp at hv; rw [← hv]; exact h2
  | j + 3, hv => simp at hv
/-- What the reading of the three answers. -/
def R3P (w : World) (D : DM) (a : Int) (e : Ending) (w' : World) : Prop := Below w.heap.size w w' ∧ if D.ldE a = 0 then ∃ g0 g1 g2, e = .returned (.tuple #[.agg #[s64 g0, s64 g1, s64 g2], .int .i64 0]) ∧ Got w w' g0 (D.rdB a) ∧ Got w w' g1 (D.rdB (a + 1)) ∧ Got w w' g2 (D.rdB (a + 2))
  else ∃ p0 n0 c0 p1 n1 c1 p2 n2 c2, e = .returned (.tuple #[.agg #[.slice p0 n0 c0, .slice p1 n1 c1, .slice p2 n2 c2], .int .i64 (D.ldE a)])
/-- One of three places. -/
theorem run_idx3 (a : Int) {i : Nat} (hi : i < 3) (w : World) : (Instr.index 100 (.agg #[.int .i64 a, .int .i64 (a + 1), .int .i64 (a + 2)]) (.int .i64 (i : Int))).run Try.prog w = .ok (.int .i64 (a + (i : Int))) w := by
  have hx : (#[.int .i64 a, .int .i64 (a + 1), .int .i64 (a + 2)] : Array Value)[i]? = some (.int .i64 (a + (i : Int))) := by
    have hc : i = 0 ∨ i = 1 ∨ i = 2 := by omega
    rcases hc with rfl | rfl | rfl <;> simp
  have he : Try.prog.plainKey 3 = true := by kernel_rfl
  have h1 : (sizeOf 3).run Try.prog w = .ok 1 w := by
    obtain ⟨i, hi⟩ := Option.isSome_iff_exists.1 (show (Try.prog.info? 3).isSome = true by kernel_rfl)
    have : (Try.prog.info? 3).map (·.size) = some 1 := by kernel_rfl
    rw [hi] at this
    simp [sizeOf, typeInfo, hi]
    simpa using this
  have h2 := run_part_plain w he hx
  simp [Instr.index, asIntOf, run_underlying Try.underlying100, h1, h2, hi]
section
variable {w : World} {ops : Array Oper} {rest : List Oper} {o : Oper} {a : Act} {Q : Exit → Act → World → Prop}
theorem wpList_ld3 (hgd : o.guard = none) (x : Operand) (hop : o.op = Op.load 97 x) {g : Nat} {v0 v1 v2 : Value} (hx : a.eval x = .pointer (some ⟨g, 0, none⟩)) (ht : w.rangeAt g 0 [v0, v1, v2]) (hK : wpList Try.prog ops Q rest (a.put o.dst (.agg #[v0, v1, v2])) w) : wpList Try.prog ops Q (o :: rest) a w :=
  wpList_load_mid hgd 97 x hop g 0 hx [v0, v1, v2] _ ht Try.underlying97 rfl size3B hK
theorem wpList_st3 (hgd : o.guard = none) (x y : Operand) (hop : o.op = Op.store 97 x y) {g : Nat} {p0 p1 p2 : Option Addr} {n0 n1 n2 c0 c1 c2 : Nat} (hx : a.eval x = .pointer (some ⟨g, 0, none⟩)) (hy : a.eval y = .agg #[.slice p0 n0 c0, .slice p1 n1 c1, .slice p2 n2 c2]) (ht : w.there g 0 3)
    (hK : ∀ w', Hid (w' = w.setCells g 0 [.slice p0 n0 c0, .slice p1 n1 c1, .slice p2 n2 c2]) → wpList Try.prog ops Q rest (a.put o.dst undef) w') : wpList Try.prog ops Q (o :: rest) a w :=
  wpList_store_mid hgd 97 x y hop g 0 #[.slice p0 n0 c0, .slice p1 n1 c1, .slice p2 n2 c2] hx hy ht size3B (by simp [Value.oneCell']) (hK _ rfl)
theorem wpList_idx3 (hgd : o.guard = none) (x y : Operand) (hop : o.op = Op.index 100 x y) {p : Int} {i : Nat} (hx : a.eval x = .agg #[.int .i64 p, .int .i64 (p + 1), .int .i64 (p + 2)]) (hy : a.eval y = .int .i64 (i : Int)) (hi : i < 3) (hK : wpList Try.prog ops Q rest (a.put o.dst (.int .i64 (p + (i : Int)))) w) : wpList Try.prog ops Q (o :: rest) a w := by
  refine wpList_plain hgd fun K hK' => ?_
  unfold Oper.wp execOp
  simp only [hop, hx, hy, Sem.run_bind, Sem.run_pure, Result.andThen_ok, run_idx3 p hi w]
  exact hK' _ _ hK
end
theorem RdL.start (w : World) (D : DM) (a : Int) (t : TypeId) {W1 : World} (hB : Below ((w.alloc (.cells #[.slice none 0 0, .slice none 0 0, .slice none 0 0] t)).alloc (.cells #[.slice none 0 0, .slice none 0 0, .slice none 0 0] t)).heap.size ((w.alloc (.cells #[.slice none 0 0, .slice none 0 0, .slice none 0 0] t)).alloc (.cells #[.slice none 0 0, .slice none 0 0, .slice none 0 0] t)) W1) :
    RdL w W1 w.heap.size (w.heap.size + 1) D a 0 := by
  refine RdL.grow ?_ hB
  have e1 : ∀ w : World, (w.alloc (.cells #[.slice none 0 0, .slice none 0 0, .slice none 0 0] t)).heap[w.heap.size]? = some (.cells #[.slice none 0 0, .slice none 0 0, .slice none 0 0] t) := fun w => heap_alloc_new w _
  have e2 := e1 (w.alloc (.cells #[.slice none 0 0, .slice none 0 0, .slice none 0 0] t))
  have e3 := (Below.heap_alloc (w.alloc (.cells #[.slice none 0 0, .slice none 0 0, .slice none 0 0] t)) (.cells #[.slice none 0 0, .slice none 0 0, .slice none 0 0] t) w.heap.size (by simp)).trans (e1 w)
  have hs : (w.alloc (.cells #[.slice none 0 0, .slice none 0 0, .slice none 0 0] t)).heap.size = w.heap.size + 1 := by simp
  rw [hs] at e2
  have key : ∀ (W : World) (g : Nat), W.heap[g]? = some (.cells #[.slice none 0 0, .slice none 0 0, .slice none 0 0] t) → ∀ j, j < 3 → W.cell? ⟨g, j, none⟩ = some (.slice none 0 0) ∧ W.frozen? ⟨g, j, none⟩ = false := by
    intro W g hg j hj
    have hj : j = 0 ∨ j = 1 ∨ j = 2 := by omega
    rcases hj with rfl | rfl | rfl <;> exact ⟨by simp [World.cell?, hg], by simp [World.frozen?, hg]⟩
  refine ⟨K.alloc (K.alloc (Below.refl _ _) _) _, Nat.le_refl _, by omega, by omega, by simp; omega, by simp, fun j hj => ?_, fun j hj => ?_, fun j hj => by omega, fun j _ hj => (key _ _ e2 j hj).1, fun j hj => by omega⟩
  · rw [Nat.zero_add]; exact ⟨by rw [(key _ _ e3 j hj).1]; rfl, (key _ _ e3 j hj).2⟩
  · rw [Nat.zero_add]; exact ⟨by rw [(key _ _ e2 j hj).1]; rfl, (key _ _ e2 j hj).2⟩
theorem ld_no {D : DM} {a : Int} {i : Nat} (hi : i < 3) (h : ∀ j : Nat, j < i → D.rdE (a + j) = 0) (he : D.rdE (a + i) ≠ 0) : D.ldE a = D.rdE (a + i) := by
  have hc : i = 0 ∨ i = 1 ∨ i = 2 := by omega
  unfold DM.ldE
  rcases hc with rfl | rfl | rfl
  · rw [show a + ((0 : Nat) : Int) = a by omega] at he ⊢
    rw [if_neg he]
  · have h0 := h 0 (by omega)
    rw [show a + ((0 : Nat) : Int) = a by omega] at h0
    rw [if_pos h0]
    exact if_neg he
  · have h0 := h 0 (by omega)
    have h1 := h 1 (by omega)
    rw [show a + ((0 : Nat) : Int) = a by omega] at h0
    rw [if_pos h0]
    exact if_pos h1
theorem ld_yes {D : DM} {a : Int} (h : ∀ j : Nat, j < 3 → D.rdE (a + j) = 0) : D.ldE a = 0 := by
  have h0 := h 0 (by omega)
  have h1 : D.rdE (a + 1) = 0 := h 1 (by omega)
  have h2 : D.rdE (a + 2) = 0 := h 2 (by omega)
  rw [show a + ((0 : Nat) : Int) = a by omega] at h0
  unfold DM.ldE
  rw [if_pos h0, if_pos h1, h2]
set_option maxRecDepth 100000 in
set_option maxHeartbeats 8000000 in
theorem read3_any {w : World} {b lb mb : Nat} {D : DM} (h : Dsk w b lb mb D) {a : Int} (ha : few9 a) : Calls Try.prog 57 #[pp b, .int .i64 a] w (R3P w D a) := by
  have HD := hide h
  have HA := hide ha
  clear h ha
  go_enter Try.func57, Try.ntmps57
  go_wp2_with (go_at_call 58; refine Calls.mono (places_any _ HA.out) ?_; rintro e W1 ⟨rfl, hB1⟩)
  have HS := hide (RdL.start w D a _ hB1)
  clear hB1
  obtain ⟨rb, hrb⟩ : ∃ rb, rb = w.heap.size := ⟨_, rfl⟩
  obtain ⟨hb, hhb⟩ : ∃ hb, hb = w.heap.size + 1 := ⟨_, rfl⟩
  rw [← hhb, ← hrb] at HS
  rw [← hhb, ← hrb]
  clear hrb hhb
  go_loopg [16] 3 (fun g' s16 wr => ∃ i : Nat, g' = 3 - i ∧ i ≤ 3 ∧ s16 = .int .i64 (i : Int) ∧ RdL w wr rb hb D a i)
  case atStart => exact ⟨0, rfl, by omega, rfl, HS.out⟩
  case round =>
    clear HS
    obtain ⟨i, rfl, hi3, rfl, hR⟩ := hrel
    have HR := hide hR
    clear hR
    by_cases hlt : i < 3
    · have hlt' : (i : Int) < 3 := by omega
      have HC := hide (read_any (HD.out.keep HR.out.k) (a + (i : Int)))
      by_cases he : D.rdE (a + (i : Int)) = 0
      · have HL := hide (rdB_sec HD.out.ok he)
        rw [he] at HC
        have HE := hide he
        clear he
        go_wp2_with (first
          | (refine wpList_idx3 rfl _ _ rfl (by rfl) (by rfl) hlt ?_)
          | (go_at_call 73; refine Calls.mono HC.out ?_; rintro e W2 ⟨vr, rfl, hN, hB2⟩; obtain ⟨g, rfl, hg1, hg2, hg3⟩ := hN.resolve_left (fun h => by have := HL.out.1; rw [h.1] at this; cases this); rw [HL.out.1]; have HG := hide (And.intro hg1 (And.intro hg2 hg3)); have HR2 := hide (HR.out.grow hB2); have hcz := HR2.out.z i (by omega) (by omega); have hcf := (HR2.out.ht i (by omega)).2; simp only [Nat.zero_add] at hcf; clear hg1 hg2 hg3 hN hB2))
        go_roundg (3 - (i + 1))
        case measure => omega
        case rel => exact ⟨i + 1, rfl, by omega, by simp, HR2.out.put (by omega) (fun e => by have := HG.out.1; have := HR.out.hl; omega) (fun e => by have := HG.out.1; have := HR.out.rl; omega) ⟨Nat.le_trans HR.out.k.size HG.out.1, HG.out.2.1, HG.out.2.2⟩ HE.out⟩
      · have hne : (D.rdE (a + (i : Int)) != 0) = true := by simp [he]
        have hne' : (D.rdE (a + (i : Int)) == 0) = false := by simp [he]
        have HE : Hid (D.ldE a = D.rdE (a + (i : Int)) ∧ D.ldE a ≠ 0) := by
          have e1 := ld_no (i := i) (by omega) HR.out.ok he
          exact ⟨e1, by rw [e1]; exact he⟩
        clear he
        go_wp2_with (first
          | (refine wpList_idx3 rfl _ _ rfl (by rfl) (by rfl) hlt ?_)
          | (go_at_call 73; refine Calls.mono HC.out ?_; rintro e W2 ⟨vr, rfl, hN, hB2⟩; have HR2 := hide (HR.out.grow hB2); obtain ⟨p0, n0, c0, p1, n1, c1, p2, n2, c2, hce⟩ := HR2.out.cells; have HCE := hide hce; clear hN hB2 hce)
          | (refine wpList_ld3 rfl _ rfl (by rfl) HCE.out ?_)
          | (refine wpList_st3 rfl _ _ rfl (by rfl) (by rfl) HR2.out.rt ?_; intro W3 hW3))
        have hRR : W3.rangeAt rb 0 [.slice p0 n0 c0, .slice p1 n1 c1, .slice p2 n2 c2] := by rw [hW3.out]; exact World.rangeAt_setCells_same _ _ _ _ HR2.out.rt
        refine bodyPost_ret (results_cell_two Try.results57 _ _ rb [.slice p0 n0 c0, .slice p1 n1 c1, .slice p2 n2 c2] _ rfl hRR Try.underlying97 rfl size3B) rfl ⟨by rw [hW3.out]; exact below_sets rb HR2.out.rg _ _ _ HR2.out.k, ?_⟩
        rw [if_neg HE.out.2]
        exact ⟨p0, n0, c0, p1, n1, c1, p2, n2, c2, by rw [HE.out.1]; rfl⟩
    · obtain rfl : i = 3 := by omega
      obtain ⟨g0, a0, b0, d0, G0⟩ := HR.out.c 0 (by omega)
      obtain ⟨g1, a1, b1, d1, G1⟩ := HR.out.c 1 (by omega)
      obtain ⟨g2, a2, b2, d2, G2⟩ := HR.out.c 2 (by omega)
      rw [show a + ((0 : Nat) : Int) = a by omega] at G0
      have hce : Hid (wr.rangeAt hb 0 [s64 g0, s64 g1, s64 g2]) := fun j v hv => by
        match j, hv with
        | 0, hv => simp at hv; rw [← hv]; exact a0
        | 1, hv => simp at hv; rw [← hv]; exact a1
        | 2, hv => simp at hv; rw [← hv]; exact a2
        | j + 3, hv => simp at hv
      have HE := hide (ld_yes HR.out.ok)
      have HGG := hide (And.intro (And.intro d0 (And.intro d1 d2)) (And.intro G0 (And.intro G1 G2)))
      clear a0 a1 a2 b0 b1 b2 d0 d1 d2 G0 G1 G2
      go_wp2_with (first
        | (refine wpList_ld3 rfl _ rfl (by rfl) hce.out ?_)
        | (refine wpList_st3 rfl _ _ rfl (by rfl) (by rfl) HR.out.rt ?_; intro W3 hW3))
      obtain ⟨⟨d0, d1, d2⟩, G0, G1, G2⟩ := HGG.out
      have hRR : W3.rangeAt rb 0 [s64 g0, s64 g1, s64 g2] := by rw [hW3.out]; exact World.rangeAt_setCells_same _ _ _ _ HR.out.rt
      have hGG : ∀ {g : Nat} {l : List Nat}, g ≠ rb → Got w wr g l → Got w W3 g l := fun hne hG => by
        refine ⟨hG.ge, by rw [hW3.out, size_sets]; exact hG.lt, fun j v hv => ?_⟩
        rw [hW3.out, World.cell?_setCells_out]
        · exact hG.r j v hv
        · exact fun e => absurd e hne
      refine bodyPost_ret (results_cell_two Try.results57 _ _ rb [s64 g0, s64 g1, s64 g2] _ rfl hRR Try.underlying97 rfl size3B) rfl ⟨by rw [hW3.out]; exact below_sets rb HR.out.rg _ _ _ HR.out.k, ?_⟩
      rw [if_pos HE.out]
      exact ⟨g0, g1, g2, rfl, hGG d0 G0, hGG d1 G1, hGG d2 G2⟩
theorem ldB_of {D : DM} {a : Int} (h : D.ldE a = 0) : D.ldB a = vl (D.rdB a) (D.rdB (a + 1)) (D.rdB (a + 2)) := if_pos h
theorem ldB_not {D : DM} {a : Int} (h : D.ldE a ≠ 0) : D.ldB a = [] := if_neg h
theorem ld_rd {D : DM} {a : Int} (h : D.ldE a = 0) : D.rdE a = 0 ∧ D.rdE (a + 1) = 0 ∧ D.rdE (a + 2) = 0 := by
  unfold DM.ldE at h
  by_cases h0 : D.rdE a = 0
  · rw [if_pos h0] at h
    by_cases h1 : D.rdE (a + 1) = 0
    · rw [if_pos h1] at h
      exact ⟨h0, h1, h⟩
    · rw [if_neg h1] at h
      exact absurd h h1
  · rw [if_neg h0] at h
    exact absurd h h0
theorem vl_sec {l0 l1 l2 : List Nat} (h0 : sec l0) (h2 : sec l2) : sec (vl l0 l1 l2) := by
  unfold vl
  split
  · exact h2
  · exact h0
/-- The value lies in one of them. -/
theorem Got.val {w wr : World} {g0 g2 : Nat} {l0 l1 l2 : List Nat} (h0 : Got w wr g0 l0) (h2 : Got w wr g2 l2) : Got w wr (vg l1 l2 g0 g2) (vl l0 l1 l2) := by
  unfold vg vl
  split
  · exact h2
  · exact h0
theorem load_any {w : World} {b lb mb : Nat} {D : DM} (h : Dsk w b lb mb D) {a : Int} (ha : few9 a) : Calls Try.prog 23 #[pp b, .int .i64 a] w (RdP w (D.ldB a) (D.ldE a)) := by
  have HC := hide (read3_any h ha)
  have HO := hide h.ok
  clear h ha
  by_cases he : D.ldE a = 0
  · obtain ⟨e0, e1, e2⟩ := ld_rd he
    have HS := hide (And.intro (rdB_sec HO.out e0) (And.intro (rdB_sec HO.out e1) (rdB_sec HO.out e2)))
    have HV := hide (ldB_of he)
    have HE := hide he
    clear e0 e1 e2
    rw [he]
    clear he
    go_enter Try.func23, Try.ntmps23
    go_wp2_with (first
      | (go_at_call 57; refine Calls.mono HC.out ?_; rintro e W1 ⟨hB1, hR⟩; rw [if_pos HE.out] at hR; obtain ⟨g0, g1, g2, rfl, G0, G1, G2⟩ := hR; have HB1 := hide hB1; have HG := hide (And.intro G0 (And.intro G1 G2)); clear hB1 G0 G1 G2)
      | (go_at_call 60; refine Calls.mono (value_any (HG.out.2.1.keep (K.alloc (Below.refl _ _) _)).r HS.out.2.1 (HG.out.2.2.keep (K.alloc (Below.refl _ _) _)).r HS.out.2.2) ?_; rintro e W2 ⟨rfl, hB2⟩; have HB2 := hide hB2; clear hB2))
    have hB := K.call (K.alloc (Below.refl W1.heap.size W1) _) HB2.out
    have hG := (HG.out.1.val (l1 := D.rdB (a + 1)) HG.out.2.2).keep hB
    rw [← HV.out] at hG
    have hl : (D.ldB a).length = 64 := by rw [HV.out]; exact (vl_sec HS.out.1 HS.out.2.2).1
    exact bodyPost_ret (by simp [results, Try.results23]; rfl) rfl ⟨_, rfl, Or.inr ⟨_, by rw [hl], hG.ge, hG.lt, hG.r⟩, K.call HB1.out hB⟩
  · have HE := hide he
    have HV := hide (ldB_not he)
    have hne : (D.ldE a != 0) = true := by simp [he]
    have hne' : (D.ldE a == 0) = false := by simp [he]
    clear he
    go_enter Try.func23, Try.ntmps23
    go_wp2_with (first
      | (go_at_call 57; refine Calls.mono HC.out ?_; rintro e W1 ⟨hB1, hR⟩; rw [if_neg HE.out] at hR; obtain ⟨p0, n0, c0, p1, n1, c1, p2, n2, c2, rfl⟩ := hR; have HB1 := hide hB1; clear hB1))
    exact bodyPost_ret (by simp [results, Try.results23]) rfl ⟨_, rfl, Or.inl ⟨HV.out, rfl⟩, K.alloc HB1.out _⟩
end Go.Proofs.Ytpophfeommlajaa
namespace Go.Proofs.Ytpophfeommlajaa
set_option maxRecDepth 100000
open Go.RowKit Go.Maps
attribute [local go_sem ↓] Go.wp_at_zero Go.wp_at_succ

/-- Bytes, with noughts behind them. -/
def pz (f : Nat → Nat) (m i : Nat) : Nat := if i < m then f i else 0
def pd (f : Nat → Nat) (m : Nat) : List Nat := fl (pz f m) 64
theorem pd_sec {f : Nat → Nat} (h : ∀ i, f i < 256) (m : Nat) : sec (pd f m) := by
  refine ⟨fl_len _ _, fun x hx => ?_⟩
  obtain ⟨i, _, rfl⟩ := List.mem_map.1 hx
  unfold pz
  split
  · exact h i
  · omega
theorem Dsk.out {w : World} {b lb mb : Nat} {D : DM} (h : Dsk w b lb mb D) {g : Nat} (hg : w.heap.size ≤ g) : X3 b lb mb g = false := by
  cases hx : X3 b lb mb g with
  | false => rfl
  | true =>
    have h1 := h.bl
    have h2 := h.ll
    have h3 := h.mp.lt
    rcases X3_of.1 hx with e | e | e <;> omega
theorem run_copyB {W : World} {b o dLen dCap n c : Nat} {x : Option Addr} {g : Nat → Nat} (hx : BA W x n g) (hk : n ≤ dLen) (ht : W.there b o n) (ty : TypeId) :
    (Builtin.copy_ #[38, 38] ty #[.slice (some ⟨b, o, none⟩) dLen dCap, .slice x n c]).run Try.prog W = .ok (goInt n) (W.setCells b o (cells8 (fl g n))) := by
  have hl : (cells8 (fl g n)).length = n := by rw [cells8_len, fl_len]
  rcases hx.at_ with h0 | ⟨xb, xo, rfl, hr⟩
  · subst h0
    exact run_copy_none (P := Try.prog) W 38 38 ty 5 (some ⟨b, o, none⟩) x dLen dCap 0 c Try.underlying38 (by kernel_rfl) (Nat.zero_min _)
  · have h := run_copy_cells (P := Try.prog) W 38 38 ty 5 b o dLen dCap ⟨xb, xo, none⟩ n c (cells8 (fl g n)) Try.underlying38 (by kernel_rfl) (by rw [hl]; exact (Nat.min_eq_left hk).symm) (fun j v hv => by
      have hj : j < n := by
        rcases Nat.lt_or_ge j n with h' | h'
        · exact h'
        · rw [List.getElem?_eq_none (by rw [hl]; exact h')] at hv; cases hv
      rw [cells8_at _ j (by rw [fl_len]; exact hj), List.getD_eq_getElem?_getD, fl_at g hj] at hv
      rw [Addr.add_mid, hr.c j hj]
      simpa using hv) (fun j hj => (ht j (by rw [hl] at hj; exact hj)).1) (fun j hj => (ht j (by rw [hl] at hj; exact hj)).2) (cells8_one _)
    rw [hl] at h
    exact h
theorem o64_there (w : World) : (w.alloc o64).there w.heap.size 0 64 ∧ ∀ j, j < 64 → (w.alloc o64).cell? ⟨w.heap.size, j, none⟩ = some (.int .u8 0) := by
  have hh : (w.alloc o64).heap[w.heap.size]? = some o64 := heap_alloc_new w _
  have key : ∀ j, j < 64 → (w.alloc o64).cell? ⟨w.heap.size, j, none⟩ = some (.int .u8 0) := fun j hj => by
    have hm : (madeCells #[.int .u8 0] 64)[j]? = some (.int .u8 0) := by simp [madeCells, hj, Nat.mod_one]
    unfold World.cell?
    simp only [hh]
    exact hm
  refine ⟨fun j hj => ⟨by rw [Nat.zero_add, key j hj]; rfl, ?_⟩, key⟩
  unfold World.frozen?
  simp only [hh]
  show (decide (0 ≤ 0 + j) && decide (0 + j < 0)) = false
  simp
/-- Noughts are made, and bytes are put into them. -/
theorem pad_range {w : World} {f : Nat → Nat} {m : Nat} (hm : m ≤ 64) : ((w.alloc o64).setCells w.heap.size 0 (cells8 (fl f m))).rangeAt w.heap.size 0 (cells8 (pd f m)) := fun j v hv => by
  have hlen : (cells8 (pd f m)).length = 64 := by rw [cells8_len]; exact fl_len _ _
  have hj : j < 64 := by
    rcases Nat.lt_or_ge j 64 with h' | h'
    · exact h'
    · rw [List.getElem?_eq_none (by rw [hlen]; exact h')] at hv; cases hv
  have hv' : v = .int .u8 ((pz f m j : Nat) : Int) := by
    rw [cells8_at _ j (by unfold pd; rw [fl_len]; exact hj)] at hv
    have hx : (pd f m).getD j 0 = pz f m j := by
      rw [List.getD_eq_getElem?_getD]
      unfold pd
      rw [fl_at _ hj]
      rfl
    rw [hx] at hv
    exact (Option.some.inj hv).symm
  rw [hv']
  have ht := (o64_there w).1
  have hl : (cells8 (fl f m)).length = m := by rw [cells8_len, fl_len]
  by_cases h : j < m
  · have h2 := World.rangeAt_setCells_same (w.alloc o64) w.heap.size 0 (cells8 (fl f m)) (fun i hi => ht i (by omega)) j (.int .u8 ((f j : Nat) : Int)) (by
      rw [cells8_at _ j (by rw [fl_len]; exact h), List.getD_eq_getElem?_getD, fl_at f h]
      rfl)
    rw [h2]
    unfold pz
    rw [if_pos h]
  · rw [World.cell?_setCells_out _ _ _ _ _ (fun _ _ => Or.inr (by rw [hl]; show 0 + m ≤ 0 + j; omega))]
    rw [Nat.zero_add, (o64_there w).2 j hj]
    unfold pz
    rw [if_neg h]
    rfl
theorem wpList_copyP {w : World} {ops : Array Oper} {rest : List Oper} {op : Oper} {a : Act} {Q : Exit → Act → World → Prop} (hgd : op.guard = none) (d s : Operand)
    (ho : op.op = .call { callee := .builtin .copy, args := #[d, s], argTypes := #[38, 38] })
    {n c : Nat} {x : Option Addr} {f : Nat → Nat} (hd : a.eval d = s64 w.heap.size) (hs : a.eval s = .slice x n c) (hx : BA (w.alloc o64) x n f) (hn : n ≤ 64)
    (h : ∀ w', Below w.heap.size w w' → w.heap.size < w'.heap.size → w'.rangeAt w.heap.size 0 (cells8 (pd f n)) → wpList Try.prog ops Q rest (a.put op.dst (goInt n)) w') : wpList Try.prog ops Q (op :: rest) a (w.alloc o64) := by
  refine wpList_plain hgd fun _ hK => ?_
  have hr := run_copyB (c := c) (dCap := 64) (b := w.heap.size) (o := 0) hx hn (fun j hj => (o64_there w).1 j (by omega)) op.type
  unfold Oper.wp execOp
  simp only [ho, resolve, invoke, builtin, Sem.run_bind, Sem.run_pure, Result.andThen_ok, List.map_toArray, List.map_cons, List.map_nil, hd, hs, hr]
  exact hK _ _ (h _ (below_sets _ (Nat.le_refl _) _ _ _ (K.alloc (Below.refl _ _) _)) (by rw [size_sets]; simp) (pad_range hn))
/-- What Save leaves, and answers. -/
def DM.saveD (D : DM) (a : Int) (f : Nat → Nat) (m : Nat) : DM := if 64 < m then D else if D.ldE a = 0 then (sv D a (pd f m) 3).1 else D
def DM.saveE (D : DM) (a : Int) (f : Nat → Nat) (m : Nat) : Int := if 64 < m then 1 else if D.ldE a = 0 then (sv D a (pd f m) 3).2 else D.ldE a
/-- While the three are written. -/
structure SvR (w wr : World) (b lb mb g : Nat) (D : DM) (a : Int) (l : List Nat) (i : Nat) : Prop where
  d : Dsk wr b lb mb (sv D a l i).1
  k : Kp (X3 b lb mb) w wr
  r : wr.rangeAt g 0 (cells8 l)
  lt : g < wr.heap.size
  x : X3 b lb mb g = false
  e : (sv D a l i).2 = 0
theorem Kp.range {X : Nat → Bool} {w w' : World} (h : Kp X w w') {g : Nat} {cs : List Value} (hr : w.rangeAt g 0 cs) (hl : g < w.heap.size) (hx : X g = false) : w'.rangeAt g 0 cs := fun j v hv => (h.cell (p := ⟨g, 0 + j, none⟩) hl hx).trans (hr j v hv)
set_option maxRecDepth 100000 in
set_option maxHeartbeats 8000000 in
theorem save_any {w : World} {b lb mb : Nat} {D : DM} (h : Dsk w b lb mb D) {a : Int} (ha : few9 a) {z : Option Addr} {m c : Nat} {f : Nat → Nat} (hb : BA w z m f) :
    Calls Try.prog 69 #[pp b, .int .i64 a, .slice z m c] w (WrP w b lb mb (D.saveD a f m) (D.saveE a f m)) := by
  have HD := hide h
  have HA := hide ha
  have HB := hide hb
  have HC := hide (read3_any h ha)
  have hmk := run_mk64
  clear h ha hb
  by_cases hm : 64 < m
  · have e1 : D.saveD a f m = D := if_pos hm
    have e2 : D.saveE a f m = 1 := if_pos hm
    rw [e1, e2]
    have hm' : (64 : Int) < (m : Int) := by omega
    clear e1 e2
    go_enter Try.func69, Try.ntmps69
    go_wp2_with fail
    go_ret
    exact ⟨rfl, HD.out, Kp.refl _ _⟩
  · have hm' : decide ((64 : Int) < (m : Int)) = false := decide_eq_false (by omega)
    have hm64 : m ≤ 64 := by omega
    by_cases he : D.ldE a = 0
    · have e1 : D.saveD a f m = (sv D a (pd f m) 3).1 := (if_neg hm).trans (if_pos he)
      have e2 : D.saveE a f m = (sv D a (pd f m) 3).2 := (if_neg hm).trans (if_pos he)
      rw [e1, e2]
      have HE := hide he
      have HL := hide (pd_sec HB.out.lt m)
      obtain ⟨l, hl⟩ : ∃ l, l = pd f m := ⟨_, rfl⟩
      rw [← hl] at HL
      rw [← hl]
      have HLl := hide hl
      clear e1 e2 he hm hl
      go_enter Try.func69, Try.ntmps69
      go_upto_region 6 with (first
        | (go_at_call 57; refine Calls.mono HC.out ?_; rintro e W1 ⟨hB1, hR⟩; rw [if_pos HE.out] at hR; obtain ⟨g0, g1, g2, rfl, G0, G1, G2⟩ := hR; have HB1 := hide hB1; clear hB1 G0 G1 G2))
      have HBX := hide (K.alloc HB1.out (.cells #[s64 g0, s64 g1, s64 g2] 97))
      refine wp_let (fun X hX => ?_)
      rw [← hX] at HBX
      clear hX HB1
      go_wp2_with (first
        | (go_at_call 58; refine Calls.mono (places_any _ HA.out) ?_; rintro e W2 ⟨rfl, hB2⟩; have HB2 := hide hB2; clear hB2)
        | (refine wpList_copyP rfl _ _ rfl (by rfl) (by rfl) (HB.out.keep (K.alloc HBX.out _)) hm64 ?_; rw [← HLl.out]; intro W4 hB4 hl4 hr4; have H4 := hide (And.intro hB4 (And.intro hl4 hr4)); clear hB4 hl4 hr4))
      have HS : Hid (SvR w W2 b lb mb X.heap.size D a l 0) := ⟨HD.out.keep (K.call (K.call HBX.out H4.out.1) HB2.out), Kp.of (K.call (K.call HBX.out H4.out.1) HB2.out), fun j v hv => later HB2.out (H4.out.2.2 j v hv), Nat.lt_of_lt_of_le H4.out.2.1 HB2.out.size, HD.out.out HBX.out.size, rfl⟩
      obtain ⟨g, hg⟩ : ∃ g, g = X.heap.size := ⟨_, rfl⟩
      rw [← hg] at HS
      rw [← hg]
      clear hg H4 HB2 HBX
      go_loopg [31] 3 (fun g' s31 wr => ∃ i : Nat, g' = 3 - i ∧ i ≤ 3 ∧ s31 = .int .i64 (i : Int) ∧ SvR w wr b lb mb g D a l i)
      case atStart => exact ⟨0, rfl, by omega, rfl, HS.out⟩
      case round =>
        clear HS
        obtain ⟨i, rfl, hi3, rfl, hR⟩ := hrel
        have HR := hide hR
        clear hR
        by_cases hlt : i < 3
        · have hlt' : (i : Int) < 3 := by omega
          have hf := fl_of HL.out.1
          have HP := hide (put_any (c := 64) HR.out.d (a + (i : Int)) (ba_sec HR.out.r HL.out) (fun _ p hp => by cases hp; exact HR.out.x))
          rw [hf] at HP
          have HN : Hid (sv D a l (i + 1) = ((sv D a l i).1.ws (a + (i : Int)) l, (sv D a l i).1.wsE (a + (i : Int)) l)) := if_pos HR.out.e
          clear hf
          by_cases he : (sv D a l i).1.wsE (a + (i : Int)) l = 0
          · have HE2 := hide he
            rw [he] at HP
            clear he
            go_wp2_with (first
              | (refine wpList_idx3 rfl _ _ rfl (by rfl) (by rfl) hlt ?_)
              | (go_at_call 61; refine Calls.mono HP.out ?_; rintro e W5 ⟨rfl, hD5, hK5⟩; have H5 := hide (And.intro hD5 hK5); clear hD5 hK5))
            go_roundg (3 - (i + 1))
            case measure => omega
            case rel => exact ⟨i + 1, rfl, by omega, by simp, by
              obtain ⟨hD5, hK5⟩ := H5.out
              refine ⟨?_, HR.out.k.trans hK5, hK5.range HR.out.r HR.out.lt HR.out.x, Nat.lt_of_lt_of_le HR.out.lt hK5.size, HR.out.x, ?_⟩
              · rw [HN.out]; exact hD5
              · rw [HN.out]; exact HE2.out⟩
          · have hne : ((sv D a l i).1.wsE (a + (i : Int)) l != 0) = true := by simp [he]
            have hne' : ((sv D a l i).1.wsE (a + (i : Int)) l == 0) = false := by simp [he]
            have HE2 := hide he
            clear he
            go_wp2_with (first
              | (refine wpList_idx3 rfl _ _ rfl (by rfl) (by rfl) hlt ?_)
              | (go_at_call 61; refine Calls.mono HP.out ?_; rintro e W5 ⟨rfl, hD5, hK5⟩; have H5 := hide (And.intro hD5 hK5); clear hD5 hK5))
            go_ret
            have e3 : sv D a l 3 = sv D a l (i + 1) := sv_err (by rw [HN.out]; exact HE2.out) 3 (by omega)
            rw [HN.out] at e3
            rw [e3]
            exact ⟨rfl, H5.out.1, HR.out.k.trans H5.out.2⟩
        · obtain rfl : i = 3 := by omega
          go_wp2_with fail
          go_ret
          exact ⟨by rw [HR.out.e]; rfl, HR.out.d, HR.out.k⟩
    · have e1 : D.saveD a f m = D := (if_neg hm).trans (if_neg he)
      have e2 : D.saveE a f m = D.ldE a := (if_neg hm).trans (if_neg he)
      rw [e1, e2]
      have hne : (D.ldE a != 0) = true := by simp [he]
      have hne' : (D.ldE a == 0) = false := by simp [he]
      have HE := hide he
      clear e1 e2 he hm
      go_enter Try.func69, Try.ntmps69
      go_wp2_with (first
        | (go_at_call 57; refine Calls.mono HC.out ?_; rintro e W1 ⟨hB1, hR⟩; rw [if_neg HE.out] at hR; obtain ⟨p0, n0, c0, p1, n1, c1, p2, n2, c2, rfl⟩ := hR; have HB1 := hide hB1; clear hB1))
      go_ret
      exact ⟨rfl, HD.out.keep (K.alloc HB1.out _), Kp.of (K.alloc HB1.out _)⟩
end Go.Proofs.Ytpophfeommlajaa
