/- Layer 15: the document's Open. -/
import Derived.Test.YtjgpopjpmfkfmaaMD31
import Derived.Test.YtjgpopjpmfkfmaaMD34
import Derived.Test.YtjgpopjpmfkfmaaMD35
namespace Go.Proofs.Ytjgpopjpmfkfmaa
set_option maxRecDepth 100000
open Go.RowKit Go.Maps
attribute [local go_sem ↓] Go.wp_at_zero Go.wp_at_succ

theorem wrapI (x : Int) : IntKind.i64.wrap x = wrap64 x := by
  unfold wrap64
  exact IntKind.wrap_i64 x
theorem w_id {x : Int} (h1 : -4611686018427387904 ≤ x) (h2 : x < 4611686018427387904) : wrap64 x = x := by unfold wrap64; omega
theorem meet {G X : Prop} (main : X → G) (x : X) : G := main x
/-- Blocks that are older, or the store's own. -/
def Xo (bs t g : Nat) : Bool := decide (g < bs) || Nat.beq g t
theorem Xo_of {bs t g : Nat} : Xo bs t g = true ↔ g < bs ∨ g = t := by simp [Xo]
/-- A store that was opened, in memory that is new since W. -/
structure OpR (W wr : World) (t : Nat) (r : Nat) (vk : Value) (l : List (List Nat)) (ck : List Value) : Prop where
  k : Below W.heap.size W wr
  c0 : wr.cell? ⟨t, 0, none⟩ = some (pp r)
  c1 : wr.cell? ⟨t, 1, none⟩ = some vk
  c2 : wr.cell? ⟨t, 2, none⟩ = some (.slice none 0 0)
  c3 : wr.cell? ⟨t, 3, none⟩ = some (.bool false)
  z : ∀ i, i < 4 → wr.frozen? ⟨t, i, none⟩ = false
  tg : W.heap.size ≤ t
  tl : t < wr.heap.size
  s : Lst wr W.heap.size (Xo W.heap.size t) vk l ck
theorem OpR.grow {W wr w' : World} {t r : Nat} {vk : Value} {l : List (List Nat)} {ck : List Value} (h : OpR W wr t r vk l ck) (hB : Below wr.heap.size wr w') : OpR W w' t r vk l ck := by
  have e := hB.block t h.tl
  exact ⟨K.call h.k hB, (World.cell?_of_block (w := wr) e).trans h.c0, (World.cell?_of_block (w := wr) e).trans h.c1, (World.cell?_of_block (w := wr) e).trans h.c2, (World.cell?_of_block (w := wr) e).trans h.c3, fun i hi => (World.frozen?_of_block (w := wr) e).trans (h.z i hi), h.tg, Nat.lt_of_lt_of_le h.tl hB.size, h.s.keep hB⟩
theorem wp_buildS {op : Oper} {a : Act} {w : World} {Kt : Act → World → Prop} {Q : Exit → Act → World → Prop} {t : Nat} {x : Option Addr} {m c : Nat} (ho : op.op = .buildSlice 47 1 #[(0, .tmp t)]) (hx : a.eval (.tmp t) = .slice x m c)
    (h : Kt (a.put op.dst (.slice (some ⟨w.heap.size, 0, none⟩) 1 1)) (w.alloc (.cells #[.slice x m c] 38))) : Oper.wp Try.prog op a w Kt Q := by
  have hx' : a.tmps[t]?.getD undef = .slice x m c := by simpa [Act.eval] using hx
  unfold Oper.wp execOp
  simp only [ho]
  go_simp
  exact h
theorem run_appA {W : World} {base : Nat} {v : Value} {n : Nat} {l : List Nat} (hown : W.ownsRow base 5 1 v n (cells8 l)) {x : Option Addr} {m c : Nat} {f : Nat → Nat} (hx : BA W x m f) (hb : n + m ≤ 1000000) (hbase : base ≤ W.heap.size) (ty : TypeId) :
    ∃ v' w', (Builtin.append_ #[38, 38] ty #[v, .slice x m c]).run Try.prog W = .ok v' w' ∧ w'.ownsRow base 5 1 v' (n + m) (cells8 (l ++ fl f m)) ∧ W.grownBy w' v.ownBlock ∧ (v'.ownBlock = v.ownBlock ∨ v'.ownBlock = some W.heap.size) := by
  obtain ⟨i0, hi, hz0, hz1, hz2⟩ := info_parts info8
  rcases hx.at_ with rfl | ⟨b, o, rfl, hr⟩
  · refine ⟨v, W, run_append_zero W base _ _ 5 i0 1 Try.underlying38 hi v n _ hown x c, ?_, World.grownBy.refl _ _, Or.inl rfl⟩
    rw [show fl f 0 = [] from rfl, List.append_nil]
    exact hown
  · obtain ⟨v', w', h1, h2, h3, _, h5⟩ := run_append_own_at (P := Try.prog) W base 38 ty 5 i0 (.int .u8 0) 1 1 Try.underlying38 hi hz0 hz1 hz2 rfl (by decide) v n _ hown ⟨b, o, none⟩ m c (cells8 (fl f m)) (by rw [cells8_len, fl_len]; omega) (fun j u hu => by
      have hj : j < m := by
        rcases Nat.lt_or_ge j m with h' | h'
        · exact h'
        · rw [List.getElem?_eq_none (by rw [cells8_len, fl_len]; exact h')] at hu; cases hu
      have hc := hr.c j hj
      rw [cells8_at _ j (by rw [fl_len]; exact hj), List.getD_eq_getElem?_getD, fl_at f hj] at hu
      rw [Addr.add_mid, hc]
      simpa using hu) (cells8_one _) (by unfold maxLen; omega) (by omega) hbase
    refine ⟨v', w', h1, ?_, h3, h5⟩
    rw [show cells8 (l ++ fl f m) = cells8 l ++ cells8 (fl f m) from List.map_append]
    exact h2
theorem getD_ba {w : World} {g o k : Nat} {v : List Nat} (h : w.rangeAt g 0 (cells8 v)) (hv : ∀ x ∈ v, x < 256) (hk : o + k ≤ v.length) : BA w (some ⟨g, o, none⟩) k (fun i => v.getD (o + i) 0) := by
  refine ⟨fun i => getD_lt hv _, Or.inr ⟨g, o, rfl, ⟨fun i hi => ?_⟩⟩⟩
  have := h (o + i) _ (cells8_at v (o + i) (by omega))
  rwa [Nat.zero_add] at this
theorem cat64_len {C : Nat → List Nat} (hC : ∀ i, (C i).length = 64) (p : Nat) : ∀ j, (cat64 C p j).length = 64 * j
  | 0 => rfl
  | j + 1 => by show (_ ++ _ : List Nat).length = _; rw [List.length_append, cat64_len hC p j, hC]; omega
theorem Lst.more {w : World} {base : Nat} {X Y : Nat → Bool} {v : Value} {L : List (List Nat)} {cs : List Value} (h : Lst w base X v L cs) (hY : ∀ k, Y k = true → X k = true ∨ w.heap.size ≤ k) : Lst w base Y v L cs := by
  have hf : ∀ g, g < w.heap.size → X g = false → Y g = false := fun g hl hg => by
    cases hy : Y g with
    | false => rfl
    | true =>
      rcases hY g hy with e | e
      · rw [e] at hg; cases hg
      · omega
  refine ⟨h.o, fun g hg => hf g (h.o.lt g hg).2 (h.x g hg), fun j l hl => ?_⟩
  obtain ⟨x, m, c, f, h1, h2, h3, h4⟩ := h.e j l hl
  refine ⟨x, m, c, f, h1, h2, h3, fun hm p hp => ⟨?_, (h4 hm p hp).2⟩⟩
  obtain ⟨b, o, e, hlt⟩ := ba_lt h2 hm
  rw [hp] at e
  obtain rfl := Option.some.inj e
  exact hf b hlt (h4 hm _ hp).1
/-- While an entry's sectors are gathered. -/
def Xa (bs t : Nat) (va : Value) (g : Nat) : Bool := Xo bs t g || decide (va.ownBlock = some g)
structure AlR (W wr : World) (t r : Nat) (vk : Value) (l : List (List Nat)) (ck : List Value) (va : Value) (L : List Nat) : Prop where
  o : OpR W wr t r vk l ck
  a : wr.ownsRow W.heap.size 5 1 va L.length (cells8 L)
  s : Lst wr W.heap.size (Xa W.heap.size t va) vk l ck
  t : va.ownBlock ≠ some t
theorem AlR.step {W wr w1 : World} {t r : Nat} {vk va v' : Value} {l : List (List Nat)} {ck : List Value} {L M : List Nat} (h : AlR W wr t r vk l ck va L) (ho : w1.ownsRow W.heap.size 5 1 v' (L.length + M.length) (cells8 (L ++ M))) (hG : wr.grownBy w1 va.ownBlock) (hat : v'.ownBlock = va.ownBlock ∨ v'.ownBlock = some wr.heap.size) : AlR W w1 t r vk l ck v' (L ++ M) := by
  have e := hG.block t h.o.tl (fun e => h.t e.symm)
  have hK : Kp (Xa W.heap.size t va) wr w1 := ⟨hG.os, hG.tape, hG.output, hG.size, fun k hk hx => hG.block k hk (fun e => by
    have : Xa W.heap.size t va k = true := by unfold Xa; rw [decide_eq_true e.symm, Bool.or_true]
    rw [this] at hx
    cases hx)⟩
  have hs1 := h.s.kp hK
  have hY : ∀ k, Xa W.heap.size t v' k = true → Xa W.heap.size t va k = true ∨ wr.heap.size ≤ k := fun k hk => by
    unfold Xa at hk ⊢
    rcases hat with e1 | e1
    · rw [e1] at hk; exact Or.inl hk
    · rw [e1] at hk
      rcases Bool.or_eq_true _ _ |>.mp hk with h1 | h1
      · exact Or.inl (by rw [h1, Bool.true_or])
      · have := of_decide_eq_true h1
        cases this
        exact Or.inr (Nat.le_refl _)
  have hs2 := (h.s.more hY)
  have hB : Below W.heap.size W w1 := below_append h.o.k h.a hG
  refine ⟨⟨hB, (World.cell?_of_block (w := wr) e).trans h.o.c0, (World.cell?_of_block (w := wr) e).trans h.o.c1, (World.cell?_of_block (w := wr) e).trans h.o.c2, (World.cell?_of_block (w := wr) e).trans h.o.c3, fun i hi => (World.frozen?_of_block (w := wr) e).trans (h.o.z i hi), h.o.tg, Nat.lt_of_lt_of_le h.o.tl hG.size, hs1.sub (fun k hk => by unfold Xa; rw [hk, Bool.true_or])⟩, by rw [List.length_append]; exact ho, ?_, ?_⟩
  · refine ⟨hs1.o, hs2.x, fun j lx hl => ?_⟩
    obtain ⟨x, m, c, f, h1, h2, h3, h4⟩ := hs1.e j lx hl
    obtain ⟨x', m', c', f', h1', h2', h3', h4'⟩ := hs2.e j lx hl
    rw [h1] at h1'
    have := Option.some.inj h1'
    cases this
    exact ⟨x, m, c, f, h1, h2, h3, h4'⟩
  · intro e1
    rcases hat with e2 | e2
    · exact h.t (e2.symm.trans e1)
    · rw [e2] at e1
      have := Option.some.inj e1
      have := h.o.tl
      omega
theorem OpR.own_ne {W wr : World} {t r : Nat} {vk : Value} {l : List (List Nat)} {ck : List Value} (h : OpR W wr t r vk l ck) : vk.ownBlock ≠ some t := fun e => by
  have := h.s.x t e
  rw [Xo_of.2 (Or.inr rfl)] at this
  cases this
theorem OpR.at1 {W wr w1 : World} {t r : Nat} {vk v : Value} {l : List (List Nat)} {ck : List Value} (h : OpR W wr t r vk l ck) (hG : wr.grownBy w1 vk.ownBlock) (o : Nat) (hc : wr.cell? ⟨t, o, none⟩ = some v) : w1.cell? ⟨t, o, none⟩ = some v := (World.cell?_of_block (w := wr) (hG.block t h.tl (fun e => h.own_ne e.symm))).trans hc
theorem OpR.at1z {W wr w1 : World} {t r : Nat} {vk : Value} {l : List (List Nat)} {ck : List Value} (h : OpR W wr t r vk l ck) (hG : wr.grownBy w1 vk.ownBlock) (o : Nat) (ho : o < 4) : w1.frozen? ⟨t, o, none⟩ = false := (World.frozen?_of_block (w := wr) (hG.block t h.tl (fun e => h.own_ne e.symm))).trans (h.z o ho)
/-- One entry more is kept. -/
theorem OpR.push {W wr w1 : World} {t r : Nat} {vk v' : Value} {l : List (List Nat)} {ck : List Value} (h : OpR W wr t r vk l ck) {x : Option Addr} {m c : Nat} {f : Nat → Nat} (hb : BA wr x m f) (hx : 0 < m → ∀ p, x = some p → Xo W.heap.size t p.block = false ∧ vk.ownBlock ≠ some p.block)
    (ho : w1.ownsRow W.heap.size 38 1 v' (l.length + 1) (ck ++ [.slice x m c])) (hG : wr.grownBy w1 vk.ownBlock) (hat : v'.ownBlock = vk.ownBlock ∨ v'.ownBlock = some wr.heap.size) : OpR W (w1.setCell ⟨t, 1, none⟩ v') t r v' (l ++ [fl f m]) (ck ++ [.slice x m c]) := by
  have hX : ∀ k, Xo W.heap.size t k = true → k < wr.heap.size := fun k hk => by
    rcases Xo_of.1 hk with e | e
    · exact Nat.lt_of_lt_of_le e h.k.size
    · rw [e]; exact h.tl
  have hL := h.s.push hX hb hx ho hG hat
  have hB : Below W.heap.size W w1 := h.k.grown hG h.k.size (fun k hk => (h.s.o.lt k hk).1)
  have oth : ∀ o, o ≠ 1 → (w1.setCell ⟨t, 1, none⟩ v').cell? ⟨t, o, none⟩ = w1.cell? ⟨t, o, none⟩ := fun o ho => by
    rw [World.cell?_setCell_other]
    exact fun e => ho (by cases e; rfl)
  have hK : Kp (Xo W.heap.size t) w1 (w1.setCell ⟨t, 1, none⟩ v') := (Kp.refl _ w1).setCell (p := ⟨t, 1, none⟩) (Or.inr (Xo_of.2 (Or.inr rfl))) v'
  exact ⟨below_set h.tg v' hB, (oth 0 (by decide)).trans (h.at1 hG 0 h.c0), World.cell?_setCell_same' _ _ _ (by rw [h.at1 hG 1 h.c1]; rfl), (oth 2 (by decide)).trans (h.at1 hG 2 h.c2), (oth 3 (by decide)).trans (h.at1 hG 3 h.c3), fun i hi => by rw [World.frozen?_setCell]; exact h.at1z hG i hi, h.tg, by simp; exact Nat.lt_of_lt_of_le h.tl hG.size, hL.kp hK⟩
end Go.Proofs.Ytjgpopjpmfkfmaa
