/- Layer 13: whether a script is looked at. -/
import Derived.Test.YtpophfeommlajaaMP22
import Derived.Test.YtpophfeommlajaaMP23
namespace Go.Proofs.Ytpophfeommlajaa
set_option maxRecDepth 100000
open Go.RowKit Go.Maps
attribute [local go_sem ↓] Go.wp_at_zero Go.wp_at_succ

theorem OpsAt.cells {W : World} {z : Option Addr} {n : Nat} {O : Nat → OpV} (h : OpsAt W z n O) (hn : 0 < n) : ∃ b o, z = some ⟨b, o, none⟩ ∧ ∀ i, i < n → W.rangeAt b (o + i * 6) (O i).cells :=
  h.at_.elim (fun e => by omega) id
theorem infoBy : (Try.prog.info? 38).map (fun i => (i.zero, i.size, i.bytes)) = some (some (.slice none 0 0), 1, 24) := by kernel_rfl
/-- One slice more at the end of a list of one's own. -/
theorem run_app1 {w : World} {base : Nat} {v : Value} {n : Nat} {xs : List Value} (hown : w.ownsRow base 38 1 v n xs) {q : Nat} {e : Value} (he : w.cell? ⟨q, 0, none⟩ = some e) (h1 : e.oneCell' = true) (hb : n ≤ 100000) (hbase : base ≤ w.heap.size) (ty : TypeId) :
    ∃ v' w', (Builtin.append_ #[47, 47] ty #[v, .slice (some ⟨q, 0, none⟩) 1 1]).run Try.prog w = .ok v' w' ∧ w'.ownsRow base 38 1 v' (n + 1) (xs ++ [e]) ∧ w.grownBy w' v.ownBlock ∧ (v'.ownBlock = v.ownBlock ∨ v'.ownBlock = some w.heap.size) := by
  obtain ⟨i0, hi, hz0, hz1, hz2⟩ := info_parts infoBy
  obtain ⟨v', w', h1', h2, h3, _, h5⟩ := run_append_own_at (P := Try.prog) w base 47 ty 38 i0 (.slice none 0 0) 1 24 Try.underlying47 hi hz0 hz1 hz2 rfl (by decide) v n _ hown ⟨q, 0, none⟩ 1 1 [e] rfl (fun j u hu => by
    have hj : j = 0 := by have := (List.getElem?_eq_some_iff.1 hu).1; simp at this; omega
    subst hj
    rw [Addr.add_mid]
    simp at hu
    rw [he, hu]) (fun x hx => by simp at hx; rw [hx]; exact h1) (by unfold maxLen; omega) (by omega) hbase
  exact ⟨v', w', h1', h2, h3, h5⟩
theorem wpList_app1 {w : World} {ops : Array Oper} {rest : List Oper} {o : Oper} {a : Act} {Q : Exit → Act → World → Prop} (hgd : o.guard = none) (s x : Operand) (hop : o.op = .call { callee := .builtin .append, args := #[s, x], argTypes := #[47, 47] })
    {base : Nat} {v : Value} {n : Nat} {xs : List Value} (hs : a.eval s = v) (hown : w.ownsRow base 38 1 v n xs) {q : Nat} (hx : a.eval x = .slice (some ⟨q, 0, none⟩) 1 1) {e : Value} (he : w.cell? ⟨q, 0, none⟩ = some e) (h1 : e.oneCell' = true) (hb : n ≤ 100000) (hbase : base ≤ w.heap.size)
    (hK : ∀ v' w', w'.ownsRow base 38 1 v' (n + 1) (xs ++ [e]) → w.grownBy w' v.ownBlock → (v'.ownBlock = v.ownBlock ∨ v'.ownBlock = some w.heap.size) → wpList Try.prog ops Q rest (a.put o.dst v') w') : wpList Try.prog ops Q (o :: rest) a w := by
  refine wpList_plain hgd fun K' hK' => ?_
  obtain ⟨v', w', hr, h2, h3, h4⟩ := run_app1 hown he h1 hb hbase o.type
  unfold Oper.wp execOp
  simp only [hop, resolve, invoke, builtin, Sem.run_bind, Sem.run_pure, Result.andThen_ok, List.map_toArray, List.map_cons, List.map_nil, hs, hx, hr]
  exact hK' _ _ (hK v' w' h2 h3 h4)
/-- Sectors that were read, gathered in a list. -/
structure AllR (w wr : World) (b lb mb : Nat) (v : Value) (m : Nat) (B : Nat → List Nat) (cs : List Value) : Prop where
  o : wr.ownsRow w.heap.size 38 1 v m cs
  x : ∀ g, v.ownBlock = some g → X3 b lb mb g = false
  e : ∀ j, j < m → ∃ g, cs[j]? = some (.slice (some ⟨g, 0, none⟩) 64 64) ∧ wr.rangeAt g 0 (cells8 (B j)) ∧ g < wr.heap.size ∧ X3 b lb mb g = false ∧ v.ownBlock ≠ some g
theorem own_block {w w' : World} {base n : Nat} {e : TypeId} {v : Value} {xs : List Value} (h : w.ownsRow base e 1 v n xs) (hb : ∀ g, v.ownBlock = some g → w'.heap[g]? = w.heap[g]?) : w'.ownsRow base e 1 v n xs := by
  refine ⟨h.1, ?_⟩
  rcases h.2 with h0 | ⟨g, cap, cur, rfl, hg, hh, r⟩
  · exact Or.inl h0
  · exact Or.inr ⟨g, cap, cur, rfl, hg, by rw [hb g rfl]; exact hh, r⟩
theorem AllR.kp {w wr w' : World} {b lb mb : Nat} {v : Value} {m : Nat} {B : Nat → List Nat} {cs : List Value} (h : AllR w wr b lb mb v m B cs) (hK : Kp (X3 b lb mb) wr w') : AllR w w' b lb mb v m B cs := by
  refine ⟨own_block h.o (fun g hg => hK.block g (h.o.lt g hg).2 (h.x g hg)), h.x, fun j hj => ?_⟩
  obtain ⟨g, h1, h2, h3, h4, h5⟩ := h.e j hj
  exact ⟨g, h1, fun q u hu => (World.cell?_of_block (w := wr) (hK.block g h3 h4)).trans (h2 q u hu), Nat.lt_of_lt_of_le h3 hK.size, h4, h5⟩
theorem AllR.nil (w wr : World) (b lb mb : Nat) (B : Nat → List Nat) : AllR w wr b lb mb (.slice none 0 0) 0 B [] :=
  ⟨World.ownsRow_nil _ _ _ _, fun g h => (by cases h), fun j hj => absurd hj (by omega)⟩
/-- One more. -/
theorem AllR.add {w wr w' : World} {b lb mb : Nat} {v v' : Value} {m : Nat} {B : Nat → List Nat} {cs : List Value} (h : AllR w wr b lb mb v m B cs) {g : Nat} (hr : wr.rangeAt g 0 (cells8 (B m))) (hg : g < wr.heap.size) (hx : X3 b lb mb g = false) (hne : v.ownBlock ≠ some g) (ho : w'.ownsRow w.heap.size 38 1 v' (m + 1) (cs ++ [.slice (some ⟨g, 0, none⟩) 64 64])) (hG : wr.grownBy w' v.ownBlock) (hat : v'.ownBlock = v.ownBlock ∨ v'.ownBlock = some wr.heap.size) (hX : X3 b lb mb wr.heap.size = false) : AllR w w' b lb mb v' (m + 1) B (cs ++ [.slice (some ⟨g, 0, none⟩) 64 64]) := by
  have hl : cs.length = m := by have := h.o.1; omega
  have old : ∀ k, k < wr.heap.size → v.ownBlock ≠ some k → v'.ownBlock ≠ some k := fun k hk hn e => by
    rcases hat with e2 | e2
    · exact hn (e2.symm.trans e)
    · rw [e2] at e; have := Option.some.inj e; omega
  refine ⟨ho, fun k hk => ?_, fun j hj => ?_⟩
  · rcases hat with e | e
    · exact h.x k (e.symm.trans hk)
    · rw [e] at hk; cases hk; exact hX
  · by_cases e : j < m
    · obtain ⟨q, h1, h2, h3, h4, h5⟩ := h.e j e
      exact ⟨q, by rw [List.getElem?_append_left (by omega)]; exact h1, fun i u hu => (World.cell?_of_block (w := wr) (hG.block q h3 (fun e2 => h5 e2.symm))).trans (h2 i u hu), Nat.lt_of_lt_of_le h3 hG.size, h4, old q h3 h5⟩
    · obtain rfl : j = m := by omega
      exact ⟨g, by rw [List.getElem?_append_right (by omega), hl, Nat.sub_self]; rfl, fun i u hu => (World.cell?_of_block (w := wr) (hG.block g hg (fun e2 => hne e2.symm))).trans (hr i u hu), Nat.lt_of_lt_of_le hg hG.size, hx, old g hg hne⟩
end Go.Proofs.Ytpophfeommlajaa
