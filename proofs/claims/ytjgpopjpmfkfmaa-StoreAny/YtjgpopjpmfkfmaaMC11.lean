/- Layer 13: the document's New. Layer 15, pure: what is kept behind crashes. (Made ahead.) Layer 15, pure: where a parse fails. (Made ahead.) -/
import Derived.Test.YtjgpopjpmfkfmaaMC10
import Derived.Test.YtjgpopjpmfkfmaaMC09
namespace Go.Proofs.Ytjgpopjpmfkfmaa
set_option maxRecDepth 100000
open Go.RowKit Go.Maps
attribute [local go_sem ↓] Go.wp_at_zero Go.wp_at_succ

section
variable {op : Oper} {a : Act} {w : World} {Kt : Act → World → Prop} {Q : Exit → Act → World → Prop}
theorem wp_store2 {x y : Operand} {g o m c : Nat} {p : Option Addr} {u : Value} (ho : op.op = .store 47 x y) (hx : a.eval x = .pointer (some ⟨g, o, none⟩)) (hy : a.eval y = .slice p m c)
    (hc : w.cell? ⟨g, o, none⟩ = some u) (hz : w.frozen? ⟨g, o, none⟩ = false) (h : Kt (a.put op.dst undef) (w.setCell ⟨g, o, none⟩ (.slice p m c))) : Oper.wp Try.prog op a w Kt Q := by
  unfold Oper.wp execOp
  simp only [ho, hx, hy]
  go_simp
  exact h
theorem wp_load2 {x : Operand} {g o : Nat} {v : Value} (ho : op.op = .load 47 x) (hx : a.eval x = .pointer (some ⟨g, o, none⟩))
    (hc : w.cell? ⟨g, o, none⟩ = some v) (h : Kt (a.put op.dst v) w) : Oper.wp Try.prog op a w Kt Q := by
  unfold Oper.wp execOp
  simp only [ho, hx]
  go_simp
  exact h
theorem wp_app1 (s x : Operand) (hop : op.op = .call { callee := .builtin .append, args := #[s, x], argTypes := #[47, 47] })
    {base : Nat} {v : Value} {n : Nat} {xs : List Value} (hs : a.eval s = v) (hown : w.ownsRow base 38 1 v n xs) {q : Nat} (hx : a.eval x = .slice (some ⟨q, 0, none⟩) 1 1) {e : Value} (he : w.cell? ⟨q, 0, none⟩ = some e) (h1 : e.oneCell' = true) (hb : n ≤ 100000) (hbase : base ≤ w.heap.size)
    (hK : ∀ v' w', w'.ownsRow base 38 1 v' (n + 1) (xs ++ [e]) → w.grownBy w' v.ownBlock → (v'.ownBlock = v.ownBlock ∨ v'.ownBlock = some w.heap.size) → Kt (a.put op.dst v') w') : Oper.wp Try.prog op a w Kt Q := by
  obtain ⟨v', w', hr, h2, h3, h4⟩ := run_app1 hown he h1 hb hbase op.type
  unfold Oper.wp execOp
  simp only [hop, resolve, invoke, builtin, Sem.run_bind, Sem.run_pure, Result.andThen_ok, List.map_toArray, List.map_cons, List.map_nil, hs, hx, hr]
  exact hK v' w' h2 h3 h4
end
/-- While a disk is made. -/
structure NwR (w wr : World) (r i j : Nat) (vl vn : Value) (cs : List Value) : Prop where
  rr : r = w.heap.size
  lt : r < wr.heap.size
  c0 : wr.cell? ⟨r, 0, none⟩ = some vl
  c1 : wr.cell? ⟨r, 1, none⟩ = some vn
  c2 : wr.cell? ⟨r, 2, none⟩ = some (.int .i64 (-1))
  c3 : wr.cell? ⟨r, 3, none⟩ = some (.bool false)
  z : ∀ k, k < 4 → wr.frozen? ⟨r, k, none⟩ = false
  o : wr.ownsRow (r + 1) 38 1 vl i cs
  p : wr.ownsRow (r + 1) 38 1 vn j (List.replicate j (.slice none 0 0))
  ne : ∀ g, vl.ownBlock = some g → vn.ownBlock ≠ some g
  e : ∀ k, k < i → ∃ g, cs[k]? = some (.slice (some ⟨g, 0, none⟩) 64 64) ∧ wr.rangeAt g 0 (cells8 z64) ∧ r < g ∧ g < wr.heap.size ∧ vl.ownBlock ≠ some g ∧ vn.ownBlock ≠ some g
  k : Below w.heap.size w wr
section
variable {w wr w' : World} {r i j : Nat} {vl vn : Value} {cs : List Value}
theorem NwR.to (h : NwR w wr r i j vl vn cs) (hs : wr.heap.size ≤ w'.heap.size) (hb : ∀ k, r ≤ k → k < wr.heap.size → w'.heap[k]? = wr.heap[k]?) (hk : Below w.heap.size w w') : NwR w w' r i j vl vn cs := by
  have e1 := hb r (Nat.le_refl _) h.lt
  refine ⟨h.rr, Nat.lt_of_lt_of_le h.lt hs, (World.cell?_of_block (w := wr) e1).trans h.c0, (World.cell?_of_block (w := wr) e1).trans h.c1, (World.cell?_of_block (w := wr) e1).trans h.c2, (World.cell?_of_block (w := wr) e1).trans h.c3, fun k hk => (World.frozen?_of_block (w := wr) e1).trans (h.z k hk), own_block h.o (fun g hg => hb g (by have := (h.o.lt g hg).1; omega) (h.o.lt g hg).2), own_block h.p (fun g hg => hb g (by have := (h.p.lt g hg).1; omega) (h.p.lt g hg).2), h.ne, fun k hk => ?_, hk⟩
  obtain ⟨g, h1, h2, h3, h4, h5⟩ := h.e k hk
  exact ⟨g, h1, fun q u hu => (World.cell?_of_block (w := wr) (hb g (by omega) h4)).trans (h2 q u hu), h3, Nat.lt_of_lt_of_le h4 hs, h5⟩
theorem NwR.grow (h : NwR w wr r i j vl vn cs) (hB : Below wr.heap.size wr w') : NwR w w' r i j vl vn cs := h.to hB.size (fun k _ hk => hB.block k hk) (K.call h.k hB)
theorem NwR.at1 (h : NwR w wr r i j vl vn cs) (hG : wr.grownBy w' vl.ownBlock) (o : Nat) (v : Value) (hv : wr.cell? ⟨r, o, none⟩ = some v) : w'.cell? ⟨r, o, none⟩ = some v :=
  (World.cell?_of_block (w := wr) (hG.block r h.lt (fun e => by have := (h.o.lt r e.symm).1; omega))).trans hv
theorem NwR.at1z (h : NwR w wr r i j vl vn cs) (hG : wr.grownBy w' vl.ownBlock) (o : Nat) (ho : o < 4) : w'.frozen? ⟨r, o, none⟩ = false :=
  (World.frozen?_of_block (w := wr) (hG.block r h.lt (fun e => by have := (h.o.lt r e.symm).1; omega))).trans (h.z o ho)
theorem own_thaw {n base : Nat} {e : TypeId} {v : Value} {xs : List Value} (h : w.ownsRow base e 1 v n xs) {q cap : Nat} (hv : v = .slice (some ⟨q, 0, none⟩) n cap) (hn : 0 < n) (k : Nat) : w.frozen? ⟨q, k, none⟩ = false := by
  rcases h.2 with ⟨_, h0⟩ | ⟨g, cap, cur, rfl, _, hh, _⟩
  · omega
  · cases hv
    unfold World.frozen?
    simp only [hh]
    simp
/-- What the document's New answers. -/
def NwP (w : World) (n : Nat) (e : Ending) (w' : World) : Prop := ∃ r la na cl cn zl zn G, e = .returned (pp r) ∧ RDk w' r la na cl cn zl zn (.new n) G ∧ Below w.heap.size w w' ∧ ∀ k, G k = true → w.heap.size ≤ k
theorem NwR.done {n : Nat} (hn : n ≤ 4096) (h : NwR w wr r n n vl vn cs) : NwP w n (.returned (pp r)) wr := by
  have hr := h.rr
  have hlt := h.lt
  by_cases h0 : n = 0
  · subst h0
    have f1 : ∃ z c, vl = .slice z 0 c := by
      rcases h.o.2 with ⟨rfl, _⟩ | ⟨g, cap, cur, rfl, _⟩ <;> exact ⟨_, _, rfl⟩
    have f2 : ∃ z c, vn = .slice z 0 c := by
      rcases h.p.2 with ⟨rfl, _⟩ | ⟨g, cap, cur, rfl, _⟩ <;> exact ⟨_, _, rfl⟩
    obtain ⟨z1, k1, rfl⟩ := f1
    obtain ⟨z2, k2, rfl⟩ := f2
    refine ⟨r, r, r, k1, k2, z1, z2, fun k => decide (w.heap.size ≤ k ∧ k < wr.heap.size), rfl, ⟨h.c0, h.c1, h.c2, h.c3, h.z, fun h' => absurd h' (Nat.lt_irrefl 0), fun i hi => absurd hi (Nat.not_lt_zero i), fun i hi => absurd hi (Nat.not_lt_zero i), fun i hi => absurd hi (Nat.not_lt_zero i), fun i hi => absurd hi (Nat.not_lt_zero i), fun k hk => ?_, fun k hk => (of_decide_eq_true hk).2, DM.new_ok hn⟩, h.k, fun k hk => (of_decide_eq_true hk).1⟩
    have : k = r := by rcases X3_of.1 hk with e | e | e <;> exact e
    subst this
    exact decide_eq_true ⟨by omega, hlt⟩
  · have hpos : 0 < n := by omega
    obtain ⟨q1, k1, rfl, f1⟩ := own_form h.o hpos
    obtain ⟨q2, k2, rfl, f2⟩ := own_form h.p hpos
    have l1 := h.o.lt q1 rfl
    have l2 := h.p.lt q2 rfl
    refine ⟨r, q1, q2, k1, k2, _, _, fun k => decide (w.heap.size ≤ k ∧ k < wr.heap.size), rfl, ⟨h.c0, h.c1, h.c2, h.c3, h.z, fun _ => ⟨rfl, rfl, by omega, by omega, fun e => h.ne q1 rfl (by rw [e]; rfl)⟩, fun i hi => own_thaw h.o rfl hpos i, fun i hi => own_thaw h.p rfl hpos i, fun i hi => ?_, fun i hi => ?_, fun k hk => ?_, fun k hk => (of_decide_eq_true hk).2, DM.new_ok hn⟩, h.k, fun k hk => (of_decide_eq_true hk).1⟩
    · obtain ⟨g, g1, g2, g3, g4, g5, g6⟩ := h.e i hi
      refine ⟨_, (f1 i hi).trans g1, g, 64, rfl, g2, decide_eq_true ⟨by omega, g4⟩, ?_, Nat.le_refl _⟩
      cases hx : X3 r q1 q2 g with
      | false => rfl
      | true =>
        rcases X3_of.1 hx with e | e | e
        · omega
        · exact absurd (by rw [e]; rfl) g5
        · exact absurd (by rw [e]; rfl) g6
    · refine ⟨.slice none 0 0, (f2 i hi).trans ?_, Or.inl ⟨rfl, rfl⟩⟩
      have hi' : i < n := hi
      rw [List.getElem?_replicate, if_pos hi']
    · refine decide_eq_true ?_
      rcases X3_of.1 hk with e | e | e <;> omega
end
end Go.Proofs.Ytjgpopjpmfkfmaa
namespace Go.Proofs.Ytjgpopjpmfkfmaa
set_option maxRecDepth 100000

/-- A store at work: S is kept, M with what waits; the mark is steady. -/
structure WkA (N : Nat) (D : DM) (S M : List (List Nat)) : Prop where
  n : D.n = N
  km : ∀ j, j < 3 → D.la j = mkv S ∧ D.nw j = none
  ds : lays D.la 0 S
  nw : ∀ k, 3 ≤ k → k < 3 + tks S → D.nw k = none
  sm : tks S ≤ tks M
  lm : lays D.cur 0 M
  rm : tks M + 3 ≤ N
/-- The power went within the Commit of M. -/
structure WkB (N : Nat) (D : DM) (S M : List (List Nat)) : Prop where
  n : D.n = N
  km : ∃ p, Mid D 0 (mkv S) (mkv M) p
  ds : lays D.la 0 S
  dm : lays D.la 0 M
  rs : tks S + 3 ≤ N
  rm : tks M + 3 ≤ N
/-- Behind a crash. -/
structure Pst (N : Nat) (D : DM) (S T : List (List Nat)) : Prop where
  n : D.n = N
  c : D.calm
  km : Mid D 0 (mkv S) (mkv T) none
  ds : lays D.la 0 S
  dt : lays D.la 0 T
  rs : tks S + 3 ≤ N
  rt : tks T + 3 ≤ N
theorem cr_la {D : DM} {K : List Bool} {t a : Int} {k : Nat} (h : D.nw k = none) : (D.cr K t a).la k = D.la k := by
  show D.crA K t a k = D.la k
  unfold DM.crA
  rw [h]
theorem WkA.crash {N : Nat} {D : DM} {S M : List (List Nat)} (h : WkA N D S M) (K : List Bool) (t a : Int) : Pst N (D.cr K t a) S S := by
  have hl : lays (D.cr K t a).la 0 S := lays_congr h.ds (fun i h1 h2 => cr_la (h.nw i (by omega) (by omega)))
  have hr := h.rm
  have hs := h.sm
  refine ⟨h.n, cr_calm _ _ _ _, ⟨by show 0 + 2 < D.n; rw [h.n]; omega, fun _ _ => rfl, ?_⟩, hl, hl, by omega, by omega⟩
  exact Or.inl ⟨(cr_la (h.km 1 (by omega)).2).trans (h.km 1 (by omega)).1, (cr_la (h.km 2 (by omega)).2).trans (h.km 2 (by omega)).1⟩
theorem Mid.nw3 {D : DM} {o n : List Nat} {p : Option Nat} (h : Mid D 0 o n p) {k : Nat} (hk : 3 ≤ k) : D.nw k = none := by
  refine h.nw k (fun e => ?_)
  subst e
  rcases h.h with ⟨e, _⟩ | ⟨e, _⟩ | ⟨e, _⟩ <;> omega
theorem WkB.crash {N : Nat} {D : DM} {S M : List (List Nat)} (h : WkB N D S M) (K : List Bool) (t a : Int) : Pst N (D.cr K t a) S M := by
  obtain ⟨p, hp⟩ := h.km
  exact ⟨h.n, cr_calm _ _ _ _, hp.crash K t a, lays_congr h.ds (fun i h1 _ => cr_la (hp.nw3 (by omega))), lays_congr h.dm (fun i h1 _ => cr_la (hp.nw3 (by omega))), h.rs, h.rm⟩
theorem Pst.fuse {N : Nat} {D : DM} {S T : List (List Nat)} (h : Pst N D S T) (i : Int) : Pst N (D.fuse i) S T := ⟨h.n, fuse_calm h.c i, h.km.fuse i, h.ds, h.dt, h.rs, h.rt⟩
theorem WkA.fuse {N : Nat} {D : DM} {S M : List (List Nat)} (h : WkA N D S M) (i : Int) : WkA N (D.fuse i) S M := ⟨h.n, h.km, h.ds, h.nw, h.sm, h.lm, h.rm⟩
theorem WkB.fuse {N : Nat} {D : DM} {S M : List (List Nat)} (h : WkB N D S M) (i : Int) : WkB N (D.fuse i) S M := by
  obtain ⟨p, hp⟩ := h.km
  exact ⟨h.n, ⟨p, hp.fuse i⟩, h.ds, h.dm, h.rs, h.rm⟩
/-- An entry is appended, as far as it goes. -/
theorem WkA.app {N : Nat} {D : DM} {S M : List (List Nat)} (h : WkA N D S M) (f : Nat → Nat) (m j : Nat) : WkA N (apw D (3 + tks M) f m j).1 S M := by
  obtain ⟨h1, h2, h3⟩ := apw_la D (3 + tks M) f m j
  have hs := h.sm
  have hc : ∀ k, k < 3 + tks M → (apw D (3 + tks M) f m j).1.cur k = D.cur k := fun k hk => by
    unfold DM.cur
    rw [h1, h3 k (Or.inl hk)]
  exact ⟨h2.trans h.n, fun i hi => ⟨by rw [h1]; exact (h.km i hi).1, (h3 i (by omega)).trans (h.km i hi).2⟩, by rw [h1]; exact h.ds, fun k hk1 hk2 => (h3 k (by omega)).trans (h.nw k hk1 hk2), h.sm, lays_congr h.lm (fun i _ h2 => hc i (by omega)), h.rm⟩
end Go.Proofs.Ytjgpopjpmfkfmaa
namespace Go.Proofs.Ytjgpopjpmfkfmaa
set_option maxRecDepth 100000

theorem prs_split {C : Nat → List Nat} {u k : Nat} : ∀ {l : List (List Nat)} {p : Nat}, lays C p l → p + tks l ≤ u → prs C u (l.length + k) p = (prs C u k (p + tks l)).map fun x => (l ++ x.1, x.2)
  | [], p, _, _ => by
    show prs C u (0 + k) p = (prs C u k (p + 0)).map _
    rw [Nat.zero_add, Nat.add_zero]
    cases prs C u k p with
    | none => rfl
    | some x => rfl
  | b :: r, p, h, hu => by
    have hp := tk_pos b.length
    have e : tks (b :: r) = tk b.length + tks r := rfl
    have hk := h.1.k
    rw [show (b :: r).length + k = (r.length + k) + 1 by rw [List.length_cons]; omega]
    show (if p < u ∧ elen C p ≤ 200 ∧ p + tk (elen C p) ≤ u then (prs C u (r.length + k) (p + tk (elen C p))).map fun x => (ent C p (elen C p) :: x.1, x.2) else none) = _
    rw [hk, if_pos ⟨by omega, h.1.m, by omega⟩, prs_split h.2 (by omega), h.1.e, e, Nat.add_assoc, Option.map_map]
    rfl
theorem prs_fail {C : Nat → List Nat} {u n : Nat} {l : List (List Nat)} (h : lays C 0 l) (hu : tks l ≤ u) (hn : l.length < n) (hc : ¬ (tks l < u ∧ elen C (tks l) ≤ 200 ∧ tks l + tk (elen C (tks l)) ≤ u)) : prs C u n 0 = none := by
  obtain ⟨k, rfl⟩ : ∃ k, n = l.length + (k + 1) := ⟨n - l.length - 1, by omega⟩
  rw [prs_split h (by omega), Nat.zero_add]
  show (if tks l < u ∧ elen C (tks l) ≤ 200 ∧ tks l + tk (elen C (tks l)) ≤ u then _ else none).map _ = none
  rw [if_neg hc]
  rfl
end Go.Proofs.Ytjgpopjpmfkfmaa
