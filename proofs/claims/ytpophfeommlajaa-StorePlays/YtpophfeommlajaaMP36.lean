/- Layer 15: the document's Open. -/
import Derived.Test.YtpophfeommlajaaMP31
import Derived.Test.YtpophfeommlajaaMP34
import Derived.Test.YtpophfeommlajaaMP35
namespace Go.Proofs.Ytpophfeommlajaa
set_option maxRecDepth 100000
open Go.RowKit Go.Maps
attribute [local go_sem ↓] Go.wp_at_zero Go.wp_at_succ

theorem wrapI (x : Int) : IntKind.i64.wrap x = wrap64 x := by
  unfold wrap64
  exact IntKind.wrap_i64 x
theorem w_id {x : Int} (h1 : -4611686018427387904 ≤ x) (h2 : x < 4611686018427387904) : wrap64 x = x := by unfold wrap64; omega
theorem arith17 {b0 b1 : Nat} (h0 : b0 < 256) (h1 : b1 < 256) : wrap64 (b0 : Int) = (b0 : Int) ∧ wrap64 (b1 : Int) = (b1 : Int) ∧ wrap64 (256 * (b1 : Int)) = ((256 * b1 : Nat) : Int) ∧ wrap64 ((b0 : Int) + ((256 * b1 : Nat) : Int)) = ((b0 + 256 * b1 : Nat) : Int) ∧ b0 + 256 * b1 < 65536 := by
  refine ⟨w_id (by omega) (by omega), w_id (by omega) (by omega), (w_id (by omega) (by omega)).trans (by simp), (w_id (by omega) (by omega)).trans (by simp), by omega⟩
theorem arith18 {k p u : Nat} (hk : k < 65536) (hp : p < u) (hu : u ≤ 4093) : wrap64 ((k : Int) + 65) = (k : Int) + 65 ∧ wrap64 (((k : Int) + 65).tdiv 64) = (tk k : Int) ∧ wrap64 ((p : Int) + (tk k : Int)) = (p : Int) + (tk k : Int) := by
  have : tk k ≤ 1030 := by unfold tk; omega
  refine ⟨w_id (by omega) (by omega), ?_, w_id (by omega) (by omega)⟩
  rw [Int.tdiv_eq_ediv_of_nonneg (by omega), w_id (by omega) (by omega)]
  unfold tk
  omega
theorem arith22 {p j : Nat} (hp : p ≤ 5000) (hj : j ≤ 5000) : wrap64 (3 + (p : Int)) = 3 + (p : Int) ∧ wrap64 (3 + (p : Int) + (j : Int)) = 3 + (p : Int) + (j : Int) :=
  ⟨w_id (by omega) (by omega), w_id (by omega) (by omega)⟩
theorem dec_le {a b : Nat} (h : a ≤ b) : decide ((b : Int) < (a : Int)) = false := decide_eq_false (by omega)
theorem dec_sum {a c b : Nat} (h : a + c ≤ b) : decide ((b : Int) < (a : Int) + (c : Int)) = false := decide_eq_false (by omega)
theorem lt_sum {a c b : Nat} (h : ¬ a + c ≤ b) : (b : Int) < (a : Int) + (c : Int) := by omega
theorem lt_int {a b : Nat} (h : ¬ a ≤ b) : (b : Int) < (a : Int) := by omega
theorem tk_le {k p u : Nat} (h1 : k ≤ 200) (h2 : p + tk k ≤ u) : tk k ≤ 4 ∧ k ≤ 200 ∧ p + tk k ≤ u := ⟨by unfold tk; omega, h1, h2⟩
theorem rd_lt {p j z u N : Nat} (h1 : p + z ≤ u) (h2 : u + 3 ≤ N) (h3 : j < z) : 3 + p + j < N := by omega
theorem le5 {p u : Nat} (h : p ≤ u) (h2 : u ≤ 4093) : p ≤ 5000 := by omega
theorem le6 {j z : Nat} (h : j < z) (h2 : z ≤ 4) : j ≤ 5000 ∧ 64 * j + 64 ≤ 1000000 := by omega
theorem w_succ {j z : Nat} (h : j < z) (h2 : z ≤ 2147483648) : wrap64 ((j : Int) + 1) = (j : Int) + 1 := w_id (by omega) (by omega)
theorem tk_len (k : Nat) : 0 < 64 * tk k ∧ 2 + k ≤ 64 * tk k := by unfold tk; omega
theorem w_two {k : Nat} (h : k ≤ 200) : wrap64 (2 + (k : Int)) = 2 + (k : Int) := w_id (by omega) (by omega)
theorem cap_ne {k c n j : Nat} (_ : 2 + k ≤ c) (h0 : 0 < n) (h : n ≤ c) (hn : n = 64 * j) : ¬ c = 2 := by omega
theorem meet {G X : Prop} (main : X → G) (x : X) : G := main x
/-- Blocks that are older, or the store's own. -/
def Xo (bs t g : Nat) : Bool := decide (g < bs) || Nat.beq g t
theorem Xo_of {bs t g : Nat} : Xo bs t g = true ↔ g < bs ∨ g = t := by simp [Xo]
theorem Xo_not {bs t g : Nat} : Xo bs t g = false ↔ bs ≤ g ∧ g ≠ t := by
  cases h : Xo bs t g with
  | true => have := Xo_of.1 h; simp; omega
  | false =>
    have : ¬ (g < bs ∨ g = t) := fun hh => by rw [Xo_of.2 hh] at h; cases h
    simp
    omega
/-- A store that was opened, in memory that is new since W. -/
structure OpR (W wr : World) (t : Nat) (r : Nat) (vk : Value) (l : List (List Nat)) (ck : List Value) : Prop where
  k : Below W.heap.size W wr
  c0 : wr.cell? ⟨t, 0, none⟩ = some (pp r)
  c1 : wr.cell? ⟨t, 1, none⟩ = some vk
  c2 : wr.cell? ⟨t, 2, none⟩ = some (.slice none 0 0)
  c3 : wr.cell? ⟨t, 3, none⟩ = some (.bool false)
  z : ∀ i, i < 4 → wr.frozen? ⟨t, i, none⟩ = false
  tg : W.heap.size ≤ t
  tl : t < wr.heap.size
  s : Lst wr W.heap.size (Xo W.heap.size t) vk l ck
theorem OpR.grow {W wr w' : World} {t r : Nat} {vk : Value} {l : List (List Nat)} {ck : List Value} (h : OpR W wr t r vk l ck) (hB : Below wr.heap.size wr w') : OpR W w' t r vk l ck := by
  have e := hB.block t h.tl
  exact ⟨K.call h.k hB, (World.cell?_of_block (w := wr) e).trans h.c0, (World.cell?_of_block (w := wr) e).trans h.c1, (World.cell?_of_block (w := wr) e).trans h.c2, (World.cell?_of_block (w := wr) e).trans h.c3, fun i hi => (World.frozen?_of_block (w := wr) e).trans (h.z i hi), h.tg, Nat.lt_of_lt_of_le h.tl hB.size, h.s.keep hB⟩
theorem wp_buildS {op : Oper} {a : Act} {w : World} {Kt : Act → World → Prop} {Q : Exit → Act → World → Prop} {t : Nat} {x : Option Addr} {m c : Nat} (ho : op.op = .buildSlice 47 1 #[(0, .tmp t)]) (hx : a.eval (.tmp t) = .slice x m c)
    (h : Kt (a.put op.dst (.slice (some ⟨w.heap.size, 0, none⟩) 1 1)) (w.alloc (.cells #[.slice x m c] 38))) : Oper.wp Try.prog op a w Kt Q := by
  have hx' : a.tmps[t]?.getD undef = .slice x m c := by simpa [Act.eval] using hx
  unfold Oper.wp execOp
  simp only [ho]
  go_simp
  exact h
def RoP (w : World) (r la na cl cn : Nat) (zl zn : Option Addr) (D : DM) (G : Nat → Bool) (e : Ending) (w' : World) : Prop := ∃ W G1, RsR w W r la na cl cn zl zn (D.mendD 0) G G1 ∧ Below W.heap.size W w' ∧ ((D.opE = 0 ∧ ∃ t vk ck, e = .returned (.tuple #[pp t, .int .i64 0]) ∧ OpR W w' t r vk D.opL ck) ∨ (D.opE ≠ 0 ∧ e = .returned (.tuple #[.pointer none, .int .i64 D.opE])))
theorem run_appA {W : World} {base : Nat} {v : Value} {n : Nat} {l : List Nat} (hown : W.ownsRow base 5 1 v n (cells8 l)) {x : Option Addr} {m c : Nat} {f : Nat → Nat} (hx : BA W x m f) (hb : n + m ≤ 1000000) (hbase : base ≤ W.heap.size) (ty : TypeId) :
    ∃ v' w', (Builtin.append_ #[38, 38] ty #[v, .slice x m c]).run Try.prog W = .ok v' w' ∧ w'.ownsRow base 5 1 v' (n + m) (cells8 (l ++ fl f m)) ∧ W.grownBy w' v.ownBlock ∧ (v'.ownBlock = v.ownBlock ∨ v'.ownBlock = some W.heap.size) := by
  obtain ⟨i0, hi, hz0, hz1, hz2⟩ := info_parts info8
  rcases hx.at_ with rfl | ⟨b, o, rfl, hr⟩
  · refine ⟨v, W, run_append_zero W base _ _ 5 i0 1 Try.underlying38 hi v n _ hown x c, ?_, World.grownBy.refl _ _, Or.inl rfl⟩
    rw [show fl f 0 = [] from rfl, List.append_nil]
    exact hown
  · obtain ⟨v', w', h1, h2, h3, _, h5⟩ := run_append_own_at (P := Try.prog) W base 38 ty 5 i0 (.int .u8 0) 1 1 Try.underlying38 hi hz0 hz1 hz2 rfl (by decide) v n _ hown ⟨b, o, none⟩ m c (cells8 (fl f m)) (by rw [cells8_len, fl_len]; omega) (fun j u hu => by
      have hj : j < m := by
        rcases Nat.lt_or_ge j m with h' | h'
        · exact h'
        · rw [List.getElem?_eq_none (by rw [cells8_len, fl_len]; exact h')] at hu; cases hu
      have hc := hr.c j hj
      rw [cells8_at _ j (by rw [fl_len]; exact hj), List.getD_eq_getElem?_getD, fl_at f hj] at hu
      rw [Addr.add_mid, hc]
      simpa using hu) (cells8_one _) (by unfold maxLen; omega) (by omega) hbase
    refine ⟨v', w', h1, ?_, h3, h5⟩
    rw [show cells8 (l ++ fl f m) = cells8 l ++ cells8 (fl f m) from List.map_append]
    exact h2
theorem wpList_appA {W : World} {ops : Array Oper} {rest : List Oper} {op : Oper} {a : Act} {Q : Exit → Act → World → Prop} (hgd : op.guard = none) (s x : Operand)
    (ho : op.op = .call { callee := .builtin .append, args := #[s, x], argTypes := #[38, 38] })
    {base : Nat} {v : Value} {n : Nat} {l : List Nat} (hs : a.eval s = v) (hown : W.ownsRow base 5 1 v n (cells8 l)) {y : Option Addr} {m c : Nat} {f : Nat → Nat} (hx : a.eval x = .slice y m c) (hy : BA W y m f) (hb : n + m ≤ 1000000) (hbase : base ≤ W.heap.size)
    (h : ∀ v' w', w'.ownsRow base 5 1 v' (n + m) (cells8 (l ++ fl f m)) → W.grownBy w' v.ownBlock → (v'.ownBlock = v.ownBlock ∨ v'.ownBlock = some W.heap.size) → wpList Try.prog ops Q rest (a.put op.dst v') w') : wpList Try.prog ops Q (op :: rest) a W := by
  refine wpList_plain hgd fun K hK => ?_
  obtain ⟨v', w', hr, h2, h3, h4⟩ := run_appA (c := c) hown hy hb hbase op.type
  unfold Oper.wp execOp
  simp only [ho, resolve, invoke, builtin, Sem.run_bind, Sem.run_pure, Result.andThen_ok, List.map_toArray, List.map_cons, List.map_nil, hs, hx, hr]
  exact hK _ _ (h v' w' h2 h3 h4)
theorem getD_ba {w : World} {g o k : Nat} {v : List Nat} (h : w.rangeAt g 0 (cells8 v)) (hv : ∀ x ∈ v, x < 256) (hk : o + k ≤ v.length) : BA w (some ⟨g, o, none⟩) k (fun i => v.getD (o + i) 0) := by
  refine ⟨fun i => getD_lt hv _, Or.inr ⟨g, o, rfl, ⟨fun i hi => ?_⟩⟩⟩
  have := h (o + i) _ (cells8_at v (o + i) (by omega))
  rwa [Nat.zero_add] at this
theorem opE_none {D : DM} (h : D.mendE 0 = 0) (ho : D.opO = none) : D.opE = 2 := by
  unfold DM.opE
  rw [if_pos h, ho]
  rfl
theorem opE_some {D : DM} (h : D.mendE 0 = 0) {l : List (List Nat)} (ho : D.opO = some l) : D.opE = 0 ∧ D.opL = l := by
  unfold DM.opE DM.opL
  rw [if_pos h, ho]
  exact ⟨rfl, rfl⟩
theorem cat64_len {C : Nat → List Nat} (hC : ∀ i, (C i).length = 64) (p : Nat) : ∀ j, (cat64 C p j).length = 64 * j
  | 0 => rfl
  | j + 1 => by show (_ ++ _ : List Nat).length = _; rw [List.length_append, cat64_len hC p j, hC]; omega
theorem ent_holds {C : Nat → List Nat} (hC : ∀ i, (C i).length = 64) {p : Nat} (hk : elen C p ≤ 200) : (ent C p (elen C p)).length = elen C p ∧ Holds C p (ent C p (elen C p)) := by
  have he : (ent C p (elen C p)).length = elen C p := by
    unfold ent
    rw [List.length_take, List.length_drop, cat64_len hC]
    unfold tk
    omega
  exact ⟨he, he.symm, by rw [he], by rw [he]; exact hk⟩
theorem fl_mid {L : List Nat} {k : Nat} (h : 2 + k ≤ L.length) : fl (fun i => L.getD (2 + i) 0) k = (L.drop 2).take k := by
  apply List.ext_getElem?
  intro i
  by_cases hi : i < k
  · rw [fl_at _ hi, List.getElem?_take, if_pos hi, List.getElem?_drop, List.getD_eq_getElem?_getD, List.getElem?_eq_getElem (by omega)]
    rfl
  · rw [List.getElem?_eq_none (by rw [fl_len]; omega), List.getElem?_take, if_neg hi]
theorem Lst.more {w : World} {base : Nat} {X Y : Nat → Bool} {v : Value} {L : List (List Nat)} {cs : List Value} (h : Lst w base X v L cs) (hY : ∀ k, Y k = true → X k = true ∨ w.heap.size ≤ k) : Lst w base Y v L cs := by
  have hf : ∀ g, g < w.heap.size → X g = false → Y g = false := fun g hl hg => by
    cases hy : Y g with
    | false => rfl
    | true =>
      rcases hY g hy with e | e
      · rw [e] at hg; cases hg
      · omega
  refine ⟨h.o, fun g hg => hf g (h.o.lt g hg).2 (h.x g hg), fun j l hl => ?_⟩
  obtain ⟨x, m, c, f, h1, h2, h3, h4⟩ := h.e j l hl
  refine ⟨x, m, c, f, h1, h2, h3, fun hm p hp => ⟨?_, (h4 hm p hp).2⟩⟩
  obtain ⟨b, o, e, hlt⟩ := ba_lt h2 hm
  rw [hp] at e
  obtain rfl := Option.some.inj e
  exact hf b hlt (h4 hm _ hp).1
/-- While an entry's sectors are gathered. -/
def Xa (bs t : Nat) (va : Value) (g : Nat) : Bool := Xo bs t g || decide (va.ownBlock = some g)
structure AlR (W wr : World) (t r : Nat) (vk : Value) (l : List (List Nat)) (ck : List Value) (va : Value) (L : List Nat) : Prop where
  o : OpR W wr t r vk l ck
  a : wr.ownsRow W.heap.size 5 1 va L.length (cells8 L)
  s : Lst wr W.heap.size (Xa W.heap.size t va) vk l ck
  t : va.ownBlock ≠ some t
theorem AlR.step {W wr w1 : World} {t r : Nat} {vk va v' : Value} {l : List (List Nat)} {ck : List Value} {L M : List Nat} (h : AlR W wr t r vk l ck va L) (ho : w1.ownsRow W.heap.size 5 1 v' (L.length + M.length) (cells8 (L ++ M))) (hG : wr.grownBy w1 va.ownBlock) (hat : v'.ownBlock = va.ownBlock ∨ v'.ownBlock = some wr.heap.size) : AlR W w1 t r vk l ck v' (L ++ M) := by
  have e := hG.block t h.o.tl (fun e => h.t e.symm)
  have hK : Kp (Xa W.heap.size t va) wr w1 := ⟨hG.os, hG.tape, hG.output, hG.size, fun k hk hx => hG.block k hk (fun e => by
    have : Xa W.heap.size t va k = true := by unfold Xa; rw [decide_eq_true e.symm, Bool.or_true]
    rw [this] at hx
    cases hx)⟩
  have hs1 := h.s.kp hK
  have hY : ∀ k, Xa W.heap.size t v' k = true → Xa W.heap.size t va k = true ∨ wr.heap.size ≤ k := fun k hk => by
    unfold Xa at hk ⊢
    rcases hat with e1 | e1
    · rw [e1] at hk; exact Or.inl hk
    · rw [e1] at hk
      rcases Bool.or_eq_true _ _ |>.mp hk with h1 | h1
      · exact Or.inl (by rw [h1, Bool.true_or])
      · have := of_decide_eq_true h1
        cases this
        exact Or.inr (Nat.le_refl _)
  have hs2 := (h.s.more hY)
  have hB : Below W.heap.size W w1 := below_append h.o.k h.a hG
  refine ⟨⟨hB, (World.cell?_of_block (w := wr) e).trans h.o.c0, (World.cell?_of_block (w := wr) e).trans h.o.c1, (World.cell?_of_block (w := wr) e).trans h.o.c2, (World.cell?_of_block (w := wr) e).trans h.o.c3, fun i hi => (World.frozen?_of_block (w := wr) e).trans (h.o.z i hi), h.o.tg, Nat.lt_of_lt_of_le h.o.tl hG.size, hs1.sub (fun k hk => by unfold Xa; rw [hk, Bool.true_or])⟩, by rw [List.length_append]; exact ho, ?_, ?_⟩
  · refine ⟨hs1.o, hs2.x, fun j lx hl => ?_⟩
    obtain ⟨x, m, c, f, h1, h2, h3, h4⟩ := hs1.e j lx hl
    obtain ⟨x', m', c', f', h1', h2', h3', h4'⟩ := hs2.e j lx hl
    rw [h1] at h1'
    have := Option.some.inj h1'
    cases this
    exact ⟨x, m, c, f, h1, h2, h3, h4'⟩
  · intro e1
    rcases hat with e2 | e2
    · exact h.t (e2.symm.trans e1)
    · rw [e2] at e1
      have := Option.some.inj e1
      have := h.o.tl
      omega
theorem lays_short {C : Nat → List Nat} : ∀ {l : List (List Nat)} {p : Nat}, lays C p l → short l
  | [], _, _ => fun x hx => by cases hx
  | b :: r, p, h => fun x hx => by
    rcases List.mem_cons.1 hx with e | e
    · rw [e]; exact Nat.le_trans h.1.m (by decide)
    · exact lays_short h.2 x e
theorem ne_int {a b : Nat} (h : a ≠ b) : ((a : Int) != (b : Int)) = true := by simp; omega
theorem same_v {w : World} {x y : Option Addr} {c c2 : Nat} {f : Nat → Nat} {v : List Nat} {l : List (List Nat)} (h : BA w x 64 f) (h2 : BA w y 64 (pz (mkf l.length (tks l)) 16)) (e1 : fl f 64 = v) (e : v = mkv l) : Calls Try.prog 31 #[.slice x 64 c, .slice y 64 c2] w fun e w' => e = .returned (.bool true) ∧ Below w.heap.size w w' := by
  have hh := same_fl (c := c) (c2 := c2) h h2 (by decide)
  rw [e1, decide_eq_true (show v = fl (pz (mkf l.length (tks l)) 16) 64 from e)] at hh
  exact hh
theorem same_n {w : World} {x y : Option Addr} {c c2 : Nat} {f : Nat → Nat} {v : List Nat} {l : List (List Nat)} (h : BA w x 64 f) (h2 : BA w y 64 (pz (mkf l.length (tks l)) 16)) (e1 : fl f 64 = v) (e : v ≠ mkv l) : Calls Try.prog 31 #[.slice x 64 c, .slice y 64 c2] w fun e w' => e = .returned (.bool false) ∧ Below w.heap.size w w' := by
  have hh := same_fl (c := c) (c2 := c2) h h2 (by decide)
  rw [e1, decide_eq_false (show ¬ v = fl (pz (mkf l.length (tks l)) 16) 64 from e)] at hh
  exact hh
theorem AlR.mid_ba {W wr : World} {t r q ca : Nat} {vk : Value} {l : List (List Nat)} {ck : List Value} {C : Nat → List Nat} {p j k n : Nat} (h : AlR W wr t r vk l ck (.slice (some ⟨q, 0, none⟩) n ca) (cat64 C p j)) (_ : n = (cat64 C p j).length) (hC : ∀ i, sec (C i)) (hk : 2 + k ≤ (cat64 C p j).length) : BA wr (some ⟨q, 2, none⟩) k (fun i => (cat64 C p j).getD (2 + i) 0) := by
  have hlt : ∀ j, ∀ x ∈ cat64 C p j, x < 256 := fun j => by
    induction j with
    | zero => intro x hx; cases hx
    | succ j ih =>
      intro x hx
      rcases List.mem_append.1 hx with h1 | h1
      · exact ih x h1
      · exact (hC _).2 x h1
  obtain ⟨g, cap, e, hc⟩ := own_form h.a (by omega)
  cases e
  refine getD_ba (fun i v hv => ?_) (hlt j) hk
  rw [Nat.zero_add, hc i (by have := (List.getElem?_eq_some_iff.1 hv).1; rw [cells8_len] at this; exact this)]
  exact hv
theorem AlR.mid_x {W wr : World} {t r q ca n : Nat} {vk : Value} {l : List (List Nat)} {ck : List Value} {L : List Nat} (h : AlR W wr t r vk l ck (.slice (some ⟨q, 0, none⟩) n ca) L) {b : Nat} (hb : b = q) : Xo W.heap.size t b = false ∧ vk.ownBlock ≠ some b := by
  subst hb
  have h1 := (h.a.lt b rfl).1
  refine ⟨Xo_not.2 ⟨h1, fun e => h.t (by rw [e]; rfl)⟩, fun e => ?_⟩
  have := h.s.x b e
  unfold Xa at this
  rw [show decide ((Value.slice (some ⟨b, 0, none⟩) n ca).ownBlock = some b) = true from decide_eq_true rfl, Bool.or_true] at this
  cases this
theorem OpR.own_ne {W wr : World} {t r : Nat} {vk : Value} {l : List (List Nat)} {ck : List Value} (h : OpR W wr t r vk l ck) : vk.ownBlock ≠ some t := fun e => by
  have := h.s.x t e
  rw [Xo_of.2 (Or.inr rfl)] at this
  cases this
theorem OpR.at1 {W wr w1 : World} {t r : Nat} {vk v : Value} {l : List (List Nat)} {ck : List Value} (h : OpR W wr t r vk l ck) (hG : wr.grownBy w1 vk.ownBlock) (o : Nat) (hc : wr.cell? ⟨t, o, none⟩ = some v) : w1.cell? ⟨t, o, none⟩ = some v := (World.cell?_of_block (w := wr) (hG.block t h.tl (fun e => h.own_ne e.symm))).trans hc
theorem OpR.at1z {W wr w1 : World} {t r : Nat} {vk : Value} {l : List (List Nat)} {ck : List Value} (h : OpR W wr t r vk l ck) (hG : wr.grownBy w1 vk.ownBlock) (o : Nat) (ho : o < 4) : w1.frozen? ⟨t, o, none⟩ = false := (World.frozen?_of_block (w := wr) (hG.block t h.tl (fun e => h.own_ne e.symm))).trans (h.z o ho)
/-- One entry more is kept. -/
theorem OpR.push {W wr w1 : World} {t r : Nat} {vk v' : Value} {l : List (List Nat)} {ck : List Value} (h : OpR W wr t r vk l ck) {x : Option Addr} {m c : Nat} {f : Nat → Nat} (hb : BA wr x m f) (hx : 0 < m → ∀ p, x = some p → Xo W.heap.size t p.block = false ∧ vk.ownBlock ≠ some p.block)
    (ho : w1.ownsRow W.heap.size 38 1 v' (l.length + 1) (ck ++ [.slice x m c])) (hG : wr.grownBy w1 vk.ownBlock) (hat : v'.ownBlock = vk.ownBlock ∨ v'.ownBlock = some wr.heap.size) : OpR W (w1.setCell ⟨t, 1, none⟩ v') t r v' (l ++ [fl f m]) (ck ++ [.slice x m c]) := by
  have hX : ∀ k, Xo W.heap.size t k = true → k < wr.heap.size := fun k hk => by
    rcases Xo_of.1 hk with e | e
    · exact Nat.lt_of_lt_of_le e h.k.size
    · rw [e]; exact h.tl
  have hL := h.s.push hX hb hx ho hG hat
  have hB : Below W.heap.size W w1 := h.k.grown hG h.k.size (fun k hk => (h.s.o.lt k hk).1)
  have oth : ∀ o, o ≠ 1 → (w1.setCell ⟨t, 1, none⟩ v').cell? ⟨t, o, none⟩ = w1.cell? ⟨t, o, none⟩ := fun o ho => by
    rw [World.cell?_setCell_other]
    exact fun e => ho (by cases e; rfl)
  have hK : Kp (Xo W.heap.size t) w1 (w1.setCell ⟨t, 1, none⟩ v') := (Kp.refl _ w1).setCell (p := ⟨t, 1, none⟩) (Or.inr (Xo_of.2 (Or.inr rfl))) v'
  exact ⟨below_set h.tg v' hB, (oth 0 (by decide)).trans (h.at1 hG 0 h.c0), World.cell?_setCell_same' _ _ _ (by rw [h.at1 hG 1 h.c1]; rfl), (oth 2 (by decide)).trans (h.at1 hG 2 h.c2), (oth 3 (by decide)).trans (h.at1 hG 3 h.c3), fun i hi => by rw [World.frozen?_setCell]; exact h.at1z hG i hi, h.tg, by simp; exact Nat.lt_of_lt_of_le h.tl hG.size, hL.kp hK⟩
set_option maxRecDepth 100000 in
set_option maxHeartbeats 4000000 in
theorem ref_open {w : World} {r la na cl cn : Nat} {zl zn : Option Addr} {D : DM} {G : Nat → Bool} (h : RDk w r la na cl cn zl zn D G) : Calls Try.prog 9 #[pp r] w (RoP w r la na cl cn zl zn D G) := by
  have HD := hide h
  have HM : Hid (Calls Try.prog 27 #[pp r, .int .i64 0] w (RwP w r la na cl cn zl zn (D.mendD 0) G (D.mendE 0))) := ref_mend h (a := 0) (by omega)
  clear h
  by_cases he : D.mendE 0 = 0
  · have HOK := hide (mend_ok (a := 0) he)
    rw [he] at HM
    have HE := hide he
    clear he
    go_enter Try.func9, Try.ntmps9
    go_upto_region 4 with (go_at_call 27; refine Calls.mono HM.out ?_; rintro e W1 ⟨rfl, G1, hd1, hK1, hg1⟩; have HR1 : Hid (RsR w W1 r la na cl cn zl zn (D.mendD 0) G G1) := ⟨hd1, hK1, hg1⟩; clear hd1 hK1 hg1)
    have HL : Hid (Calls Try.prog 28 #[pp r, .int .i64 0] W1 (RlP W1 G1 r la na (D.ldB 0) 0)) := by
      have h := ref_load HR1.out.d (a := 0) ⟨by omega, by omega⟩
      rw [show (D.mendD 0).ldE 0 = 0 from HOK.out.2.2.2.2.2.1, show (D.mendD 0).ldB 0 = D.ldB 0 from HOK.out.2.2.2.2.2.2] at h
      exact h
    have HVs : Hid (sec (D.ldB 0)) := by
      have e0 := ld_up (D := D) HOK.out.1 (a := 0) HOK.out.2.1
      obtain ⟨r0, _, r2⟩ := ld_rd e0.1
      have h := vl_sec (l1 := D.rdB (((0 : Nat) : Int) + 1)) (rdB_sec HD.out.ok r0) (rdB_sec HD.out.ok r2)
      rw [← ldB_of e0.1] at h
      exact h
    obtain ⟨v, hv⟩ : ∃ v, v = D.ldB 0 := ⟨_, rfl⟩
    rw [← hv] at HL HVs
    have HEv := hide hv
    clear hv
    go_upto_region 5 with (go_at_call 28; refine Calls.mono HL.out ?_; rintro e W2 ⟨v1, rfl, hB2, hv1⟩; obtain ⟨gv, cv, rfl, hrv, hGv, hXv, hcv⟩ := (hv1.resolve_left (fun h => by have := HVs.out.1; rw [h.1] at this; cases this)).2; have HR2 := hide (HR1.out.grow hB2); have HGV := hide hrv; have HCV := hide hcv; have HGX := hide (And.intro hGv hXv); clear hB2 hv1 hrv hGv hXv hcv)
    have hsl1 : ∀ W : World, (Instr.sliceAt 38 (.slice (some ⟨gv, 0, none⟩) 64 cv) none (some (.int .i64 8)) none).run Try.prog W = .ok (.slice (some ⟨gv, 0, none⟩) 8 cv) W := fun W => by
      have h := run_toS (a := some ⟨gv, 0, none⟩) (n := 64) (c := cv) (m := 8) (by have := HCV.out; omega) W
      rw [cutA, if_neg (by have := HCV.out; omega), Option.map_some, Addr.add_mid] at h
      exact h
    have hsl2 : ∀ W : World, (Instr.sliceAt 38 (.slice (some ⟨gv, 0, none⟩) 64 cv) (some (.int .i64 8)) (some (.int .i64 16)) none).run Try.prog W = .ok (.slice (some ⟨gv, 8, none⟩) 8 (cv - 8)) W := fun W => by
      have h := run_midS (a := some ⟨gv, 0, none⟩) (n := 64) (c := cv) (k := 8) (m := 16) (by omega) (by have := HCV.out; omega) W
      rw [cutA, if_neg (by have := HCV.out; omega), Option.map_some, Addr.add_mid] at h
      exact h
    have HN1 : Hid (∀ W, Below W2.heap.size W2 W → Calls Try.prog 29 #[.slice (some ⟨gv, 0, none⟩) 8 cv] W fun e w' => e = .returned (.int .i64 (numR fun i => v.getD i 0)) ∧ w' = W) := fun W hW => by
      have h := number_any (c := cv) (getD_ba (o := 0) (k := 8) (fun j u hu => later hW (HGV.out j u hu)) HVs.out.2 (by rw [HVs.out.1]; omega))
      simp only [Nat.zero_add] at h
      exact h
    have HN2 : Hid (∀ W, Below W2.heap.size W2 W → Calls Try.prog 29 #[.slice (some ⟨gv, 8, none⟩) 8 (cv - 8)] W fun e w' => e = .returned (.int .i64 (numR fun i => v.getD (8 + i) 0)) ∧ w' = W) := fun W hW => number_any (getD_ba (o := 8) (k := 8) (fun j u hu => later hW (HGV.out j u hu)) HVs.out.2 (by rw [HVs.out.1]; omega))
    refine wp_region_noPanic ?_
    refine wp_region_held_drew (S := fun w' => w'.rangeAt gv 0 (cells8 v)) (by kernel_rfl) HGV.out (fun hS0 => ?_)
    refine wpAnyH_take (i := 0) (v := .slice (some ⟨gv, 0, none⟩) 64 cv) rfl (by kernel_rfl) (by kernel_rfl) (by kernel_rfl) (fun _ _ _ h => h) (Or.inl ⟨by rfl, fun w' _ => by go_simp⟩) hS0 ?_
    simp only [Act.put, List.getElem_toArray, List.getElem_cons_zero, List.setIfInBounds_toArray, List.set_cons_zero, List.set_cons_succ]
    refine wpAnyH_take (i := 1) (v := .slice (some ⟨gv, 0, none⟩) 8 cv) rfl (by kernel_rfl) (by kernel_rfl) (by kernel_rfl) (fun _ _ _ h => h) (Or.inl ⟨by rfl, fun w' _ => by have hc := hsl1 w'; go_simp⟩) hS0 ?_
    simp only [Act.put, List.getElem_toArray, List.getElem_cons_zero, List.getElem_cons_succ, List.setIfInBounds_toArray, List.set_cons_zero, List.set_cons_succ]
    refine wpAnyH_take (i := 3) (v := .slice (some ⟨gv, 0, none⟩) 64 cv) rfl (by kernel_rfl) (by kernel_rfl) (by kernel_rfl) (fun _ _ _ h => h) (Or.inl ⟨by rfl, fun w' _ => by go_simp⟩) hS0 ?_
    simp only [Act.put, List.getElem_toArray, List.getElem_cons_zero, List.getElem_cons_succ, List.setIfInBounds_toArray, List.set_cons_zero, List.set_cons_succ]
    refine wpAnyH_take (i := 4) (v := .slice (some ⟨gv, 8, none⟩) 8 (cv - 8)) rfl (by kernel_rfl) (by kernel_rfl) (by kernel_rfl) (fun _ _ _ h => h) (Or.inl ⟨by rfl, fun w' _ => by have hc := hsl2 w'; go_simp⟩) hS0 ?_
    simp only [Act.put, List.getElem_toArray, List.getElem_cons_zero, List.getElem_cons_succ, List.setIfInBounds_toArray, List.set_cons_zero, List.set_cons_succ]
    refine wpAnyH_ready (rs := [2]) (by kernel_rfl) (by simp) (AllReadyH.cons rfl (fun Kt hK => ?_) AllReadyH.nil)
    refine wanted_pos rfl ?_
    refine wp_call (R := fun x w' => x = .int .i64 (numR fun i => v.getD i 0) ∧ w' = W2.drew) (vs := #[.slice (some ⟨gv, 0, none⟩) 8 cv]) rfl (by simp only [List.map_toArray, List.map_cons, List.map_nil]; rfl) (by go_simp) (Calls.mono (HN1.out _ (K.drew (Below.refl _ _))) (fun e w' he => ⟨_, he.1, rfl, he.2⟩)) (fun x W6 hr => ?_)
    obtain ⟨hx, rfl⟩ := hr
    subst hx
    refine hK.out _ _ hS0 (fun _ => ?_)
    clear hK Kt
    simp only [Act.put, List.getElem_toArray, List.getElem_cons_zero, List.getElem_cons_succ, List.setIfInBounds_toArray, List.set_cons_zero, List.set_cons_succ]
    refine wpAnyH_ready (rs := [5]) (by kernel_rfl) (by simp) (AllReadyH.cons rfl (fun Kt hK => ?_) AllReadyH.nil)
    refine wanted_pos rfl ?_
    refine wp_call (R := fun x w' => x = .int .i64 (numR fun i => v.getD (8 + i) 0) ∧ w' = W2.drew) (vs := #[.slice (some ⟨gv, 8, none⟩) 8 (cv - 8)]) rfl (by simp only [List.map_toArray, List.map_cons, List.map_nil]; rfl) (by go_simp) (Calls.mono (HN2.out _ (K.drew (Below.refl _ _))) (fun e w' he => ⟨_, he.1, rfl, he.2⟩)) (fun x W6 hr => ?_)
    obtain ⟨hx, rfl⟩ := hr
    subst hx
    refine hK.out _ _ hS0 (fun _ => ?_)
    clear hK Kt
    simp only [Act.put, List.getElem_toArray, List.getElem_cons_zero, List.getElem_cons_succ, List.setIfInBounds_toArray, List.set_cons_zero, List.set_cons_succ]
    refine wpAnyH_take (i := 6) (v := .int .i64 (numR fun i => v.getD i 0)) rfl (by kernel_rfl) (by kernel_rfl) (by kernel_rfl) (fun _ _ _ h => h) (Or.inl ⟨by rfl, fun w' _ => by go_simp⟩) hS0 ?_
    simp only [Act.put, List.getElem_toArray, List.getElem_cons_zero, List.getElem_cons_succ, List.setIfInBounds_toArray, List.set_cons_zero, List.set_cons_succ]
    refine wpAnyH_take (i := 7) (v := .int .i64 (numR fun i => v.getD (8 + i) 0)) rfl (by kernel_rfl) (by kernel_rfl) (by kernel_rfl) (fun _ _ _ h => h) (Or.inl ⟨by rfl, fun w' _ => by go_simp⟩) hS0 ?_
    simp only [Act.put, List.getElem_toArray, List.getElem_cons_zero, List.getElem_cons_succ, List.setIfInBounds_toArray, List.set_cons_zero, List.set_cons_succ]
    refine wpAnyH_done (by kernel_rfl) ?_ _
    refine NoPanic.normal ?_
    have HBd := hide (K.drew (Below.refl W2.heap.size W2))
    clear hS0 hsl1 hsl2 HN1 HN2 HL HM
    go_upto_region 6 with fail
    refine wp_let (fun X0 hX0 => ?_)
    rw [← hX0] at HBd
    have hXs : X0.heap.size = W2.heap.size := by rw [hX0]; rfl
    clear hX0
    obtain ⟨C, hC⟩ : ∃ C, C = (D.mendD 0).cur := ⟨_, rfl⟩
    have HO : Hid (D.opO = opn v C D.n) := by
      show D.opO = _
      unfold DM.opO
      rw [show (D.mendD 0).ldB 0 = D.ldB 0 from HOK.out.2.2.2.2.2.2, ← HEv.out, ← hC]
    have HC64 : Hid (∀ i, sec (C i)) := fun i => by rw [hC]; exact DM.cur_sec HR2.out.d.ok i
    have HRd : Hid (∀ W, Below W2.heap.size W2 W → ∀ i : Nat, i < D.n → Calls Try.prog 30 #[pp r, .int .i64 (i : Int)] W (SgP W G1 r la na (C i))) := fun W hW i hi => by
      obtain ⟨r1, r2⟩ := rd_up (D := D.mendD 0) HOK.out.2.2.1 (i := i) (by rw [show (D.mendD 0).n = D.n from HOK.out.2.2.2.1]; exact hi)
      have h := ref_got (HR2.out.d.keep hW) r1
      rw [r2, ← hC] at h
      exact h
    have HN3 : Hid (3 ≤ D.n ∧ D.n ≤ 4096) := ⟨by have := HOK.out.2.1; omega, HD.out.ok.n⟩
    have hl0 := (HR2.out.d.keep HBd.out).c0
    rw [show (D.mendD 0).n = D.n from HOK.out.2.2.2.1] at hl0
    clear hC
    have hsub : wrap64 ((D.n : Int) - 3) = (D.n : Int) - 3 := by have := HN3.out; unfold wrap64; omega
    have HPost : Hid (∀ W', Below W2.heap.size W2 W' → D.opO = none → RoP w r la na cl cn zl zn D G (.returned (.tuple #[.pointer none, .int .i64 2])) W') := fun W' hW' ho => by
      have e2 := opE_none HE.out ho
      exact ⟨W2, G1, HR2.out, hW', Or.inr ⟨by rw [e2]; decide, by rw [e2]⟩⟩
    by_cases hn : mkN v ≤ 1073741824
    · have en : (numR fun i => v.getD i 0) = (mkN v : Int) := if_pos hn
      rw [en]
      clear en
      by_cases hu : mkU v ≤ 1073741824
      · have eu : (numR fun i => v.getD (8 + i) 0) = (mkU v : Int) := if_pos hu
        rw [eu]
        clear eu
        by_cases hr : mkU v + 3 ≤ D.n
        · have hd3 : decide ((D.n : Int) - 3 < (mkU v : Int)) = false := decide_eq_false (by omega)
          have h0n : decide ((mkN v : Int) < 0) = false := decide_eq_false (by omega)
          have h0u : decide ((mkU v : Int) < 0) = false := decide_eq_false (by omega)
          have HUN := hide (And.intro hn (And.intro hu hr))
          clear hn hu hr
          obtain ⟨u, hu⟩ : ∃ u, u = mkU v := ⟨_, rfl⟩
          obtain ⟨nn, hnn⟩ : ∃ nn, nn = mkN v := ⟨_, rfl⟩
          rw [← hu, ← hnn] at HUN
          rw [← hu] at hd3 h0u
          rw [← hnn] at h0n
          rw [← hu, ← hnn]
          have HEU := hide (And.intro hu hnn)
          clear hu hnn
          go_upto_region 9 with fail
          have HOp0 : Hid (OpR W2 (X0.alloc (.cells #[pp r, .slice none 0 0, .slice none 0 0, .bool false] 73)) W2.heap.size r (.slice none 0 0) [] []) := by
            have hr : (X0.alloc (.cells #[pp r, .slice none 0 0, .slice none 0 0, .bool false] 73)).rangeAt W2.heap.size 0 [pp r, .slice none 0 0, .slice none 0 0, .bool false] := by rw [← hXs]; exact range_new X0 [pp r, .slice none 0 0, .slice none 0 0, .bool false] 73
            have hh : (X0.alloc (.cells #[pp r, .slice none 0 0, .slice none 0 0, .bool false] 73)).heap[W2.heap.size]? = some (.cells #[pp r, .slice none 0 0, .slice none 0 0, .bool false] 73) := by rw [← hXs]; exact heap_alloc_new X0 _
            refine ⟨K.alloc HBd.out _, hr 0 _ rfl, hr 1 _ rfl, hr 2 _ rfl, hr 3 _ rfl, fun i hi => ?_, Nat.le_refl _, by rw [← hXs]; simp, Lst.nil _ _ _⟩
            unfold World.frozen?
            simp only [hh]
            simp
          clear HBd hl0 hd3 h0n h0u hsub
          go_wp2_with fail
          refine wp_let (fun X1 hX1 => ?_)
          obtain ⟨t, ht⟩ : ∃ t, t = W2.heap.size := ⟨_, rfl⟩
          rw [← hX1, ← ht] at HOp0
          rw [← ht]
          clear hX1 ht hXs X0
          go_loopg [10, 11] nn (fun g' s10 s11 wr => ∃ (l : List (List Nat)) (vk : Value) (ck : List Value), g' = nn - l.length ∧ l.length ≤ nn ∧ tks l ≤ u ∧ s11 = .int .i64 (l.length : Int) ∧ s10 = .int .i64 (tks l : Int) ∧ lays C 0 l ∧ OpR W2 wr t r vk l ck)
          case atStart => exact ⟨[], _, [], rfl, Nat.zero_le _, Nat.zero_le _, rfl, rfl, trivial, HOp0.out⟩
          case round =>
            clear HOp0
            obtain ⟨l, vk, ck, rfl, hln, hlu, rfl, rfl, hlay, hR⟩ := hrel
            have HR := hide hR
            have HLy := hide hlay
            clear hR hlay
            have HU4 : Hid (u ≤ 4093 ∧ u + 3 ≤ D.n) := ⟨by have := HUN.out.2.2; have := HN3.out; omega, HUN.out.2.2⟩
            obtain ⟨p, hp⟩ : ∃ p, p = tks l := ⟨_, rfl⟩
            rw [← hp] at hlu
            rw [← hp]
            have HEp := hide hp
            clear hp
            by_cases hlt : l.length < nn
            · have hlt' : (l.length : Int) < (nn : Int) := by omega
              by_cases hpu : p < u
              · have hpu' : decide ((u : Int) ≤ (p : Int)) = false := decide_eq_false (by omega)
                have hw3 : wrap64 (3 + (p : Int)) = 3 + (p : Int) := (arith22 (p := p) (j := 0) (le5 hlu HU4.out.1) (by decide)).1
                have HCR : Hid (Calls Try.prog 30 #[pp r, .int .i64 (3 + (p : Int))] wr (SgP wr G1 r la na (C (3 + p)))) := by
                  have h := HRd.out wr HR.out.k (3 + p) (by have := HU4.out; omega)
                  rwa [show ((3 + p : Nat) : Int) = 3 + (p : Int) by simp] at h
                go_upto_region 17 with (go_at_call 30; refine Calls.mono HCR.out ?_; rintro e W3 ⟨g1, c1, rfl, rfl, hs⟩; have HS1 := hide hs; clear hs)
                obtain ⟨b0, hb0⟩ : ∃ b0, b0 = (C (3 + p)).getD 0 0 := ⟨_, rfl⟩
                obtain ⟨b1, hb1⟩ : ∃ b1, b1 = (C (3 + p)).getD 1 0 := ⟨_, rfl⟩
                obtain ⟨k, hk⟩ : ∃ k, k = elen C p := ⟨_, rfl⟩
                have hk2 : k = b0 + 256 * b1 := by rw [hk]; unfold elen; rw [hb0, hb1]
                have hl0 : b0 < 256 := by rw [hb0]; exact getD_lt (HC64.out _).2 0
                have hl1 : b1 < 256 := by rw [hb1]; exact getD_lt (HC64.out _).2 1
                have HCC : Hid (W3.cell? ⟨g1, 0, none⟩ = some (.int .u8 (b0 : Int)) ∧ W3.cell? ⟨g1, 1, none⟩ = some (.int .u8 (b1 : Int))) := by
                  obtain ⟨g', c', e, hrg, _⟩ := HS1.out
                  cases e
                  rw [hb0, hb1]
                  exact ⟨hrg 0 _ (cells8_at _ 0 (by rw [(HC64.out _).1]; omega)), hrg 1 _ (cells8_at _ 1 (by rw [(HC64.out _).1]; omega))⟩
                have HKe := hide hk
                clear hk hb0 hb1
                obtain ⟨f0, f1, f2, f3, hk9⟩ := arith17 hl0 hl1
                rw [← hk2] at f3 hk9
                obtain ⟨m1, hm1⟩ : ∃ m1, m1 = 256 * b1 := ⟨_, rfl⟩
                rw [← hm1] at f2 f3
                have HK9 : Hid (k = elen C p ∧ k < 65536) := ⟨HKe.out, hk9⟩
                have hc0 := HCC.out.1
                have hc1 := HCC.out.2
                clear hk2 hm1 HCR hw3 hpu' hk9 HKe
                refine wp_region_noPanic ?_
                refine wp_region_held_drew (S := fun w' => w'.cell? ⟨g1, 0, none⟩ = some (.int .u8 (b0 : Int)) ∧ w'.cell? ⟨g1, 1, none⟩ = some (.int .u8 (b1 : Int))) (by kernel_rfl) ⟨hc0, hc1⟩ (fun hS0 => ?_)
                refine wpAnyH_take (i := 0) (v := .slice (some ⟨g1, 0, none⟩) 64 c1) rfl (by kernel_rfl) (by kernel_rfl) (by kernel_rfl) (fun _ _ _ h => h) (Or.inl ⟨by rfl, fun w' _ => by go_simp⟩) hS0 ?_
                simp only [Act.put, List.getElem_toArray, List.getElem_cons_zero, List.setIfInBounds_toArray, List.set_cons_zero, List.set_cons_succ]
                refine wpAnyH_take (i := 1) (v := .pointer (some ⟨g1, 0, none⟩)) rfl (by kernel_rfl) (by kernel_rfl) (by kernel_rfl) (fun _ _ _ h => h) (Or.inl ⟨by rfl, fun w' _ => by go_simp⟩) hS0 ?_
                simp only [Act.put, List.getElem_toArray, List.getElem_cons_zero, List.getElem_cons_succ, List.setIfInBounds_toArray, List.set_cons_zero, List.set_cons_succ]
                refine wpAnyH_take (i := 2) (v := .int .u8 (b0 : Int)) rfl (by kernel_rfl) (by kernel_rfl) (by kernel_rfl) (fun _ _ _ h => h) (Or.inl ⟨by rfl, fun w' hS => by have hc := hS.1; go_simp⟩) hS0 ?_
                simp only [Act.put, List.getElem_toArray, List.getElem_cons_zero, List.getElem_cons_succ, List.setIfInBounds_toArray, List.set_cons_zero, List.set_cons_succ]
                refine wpAnyH_take (i := 3) (v := .int .i64 (b0 : Int)) rfl (by kernel_rfl) (by kernel_rfl) (by kernel_rfl) (fun _ _ _ h => h) (Or.inl ⟨by rfl, fun w' _ => by go_simp; exact (wrapI _).trans f0⟩) hS0 ?_
                simp only [Act.put, List.getElem_toArray, List.getElem_cons_zero, List.getElem_cons_succ, List.setIfInBounds_toArray, List.set_cons_zero, List.set_cons_succ]
                refine wpAnyH_take (i := 4) (v := .slice (some ⟨g1, 0, none⟩) 64 c1) rfl (by kernel_rfl) (by kernel_rfl) (by kernel_rfl) (fun _ _ _ h => h) (Or.inl ⟨by rfl, fun w' _ => by go_simp⟩) hS0 ?_
                simp only [Act.put, List.getElem_toArray, List.getElem_cons_zero, List.getElem_cons_succ, List.setIfInBounds_toArray, List.set_cons_zero, List.set_cons_succ]
                refine wpAnyH_take (i := 5) (v := .pointer (some ⟨g1, 1, none⟩)) rfl (by kernel_rfl) (by kernel_rfl) (by kernel_rfl) (fun _ _ _ h => h) (Or.inl ⟨by rfl, fun w' _ => by go_simp⟩) hS0 ?_
                simp only [Act.put, List.getElem_toArray, List.getElem_cons_zero, List.getElem_cons_succ, List.setIfInBounds_toArray, List.set_cons_zero, List.set_cons_succ]
                refine wpAnyH_take (i := 6) (v := .int .u8 (b1 : Int)) rfl (by kernel_rfl) (by kernel_rfl) (by kernel_rfl) (fun _ _ _ h => h) (Or.inl ⟨by rfl, fun w' hS => by have hc := hS.2; go_simp⟩) hS0 ?_
                simp only [Act.put, List.getElem_toArray, List.getElem_cons_zero, List.getElem_cons_succ, List.setIfInBounds_toArray, List.set_cons_zero, List.set_cons_succ]
                refine wpAnyH_take (i := 7) (v := .int .i64 (b1 : Int)) rfl (by kernel_rfl) (by kernel_rfl) (by kernel_rfl) (fun _ _ _ h => h) (Or.inl ⟨by rfl, fun w' _ => by go_simp; exact (wrapI _).trans f1⟩) hS0 ?_
                simp only [Act.put, List.getElem_toArray, List.getElem_cons_zero, List.getElem_cons_succ, List.setIfInBounds_toArray, List.set_cons_zero, List.set_cons_succ]
                refine wpAnyH_take (i := 8) (v := .int .i64 (m1 : Int)) rfl (by kernel_rfl) (by kernel_rfl) (by kernel_rfl) (fun _ _ _ h => h) (Or.inl ⟨by rfl, fun w' _ => by go_simp; exact (wrapI _).trans f2⟩) hS0 ?_
                simp only [Act.put, List.getElem_toArray, List.getElem_cons_zero, List.getElem_cons_succ, List.setIfInBounds_toArray, List.set_cons_zero, List.set_cons_succ]
                refine wpAnyH_take (i := 9) (v := .int .i64 (k : Int)) rfl (by kernel_rfl) (by kernel_rfl) (by kernel_rfl) (fun _ _ _ h => h) (Or.inl ⟨by rfl, fun w' _ => by go_simp; exact (wrapI _).trans f3⟩) hS0 ?_
                simp only [Act.put, List.getElem_toArray, List.getElem_cons_zero, List.getElem_cons_succ, List.setIfInBounds_toArray, List.set_cons_zero, List.set_cons_succ]
                refine wpAnyH_take (i := 10) (v := .int .i64 (k : Int)) rfl (by kernel_rfl) (by kernel_rfl) (by kernel_rfl) (fun _ _ _ h => h) (Or.inl ⟨by rfl, fun w' _ => by go_simp⟩) hS0 ?_
                simp only [Act.put, List.getElem_toArray, List.getElem_cons_zero, List.getElem_cons_succ, List.setIfInBounds_toArray, List.set_cons_zero, List.set_cons_succ]
                refine wpAnyH_done (by kernel_rfl) ?_ _
                refine NoPanic.normal ?_
                have HRd3 := hide (HR.out.grow (K.drew (Below.refl _ W3)))
                clear hS0 hc0 hc1 HCC f0 f1 f2 f3 hl0 hl1 HR
                obtain ⟨hw65, htk, hws⟩ := arith18 HK9.out.2 hpu HU4.out.1
                go_upto_region 19 with fail
                rw [htk]
                clear htk hw65
                by_cases hk200 : k ≤ 200
                · have hk' : decide ((200 : Int) < (k : Int)) = false := dec_le hk200
                  by_cases hsz : p + tk k ≤ u
                  · have hsz' : decide ((u : Int) < (p : Int) + (tk k : Int)) = false := dec_sum hsz
                    have HAl0 : Hid (AlR W2 W3.drew t r vk l ck (.slice none 0 0) []) := ⟨HRd3.out, World.ownsRow_nil _ _ _ _, HRd3.out.s.more (fun g hg => Or.inl (by
                      rcases Bool.or_eq_true _ _ |>.mp hg with h1 | h1
                      · exact h1
                      · have := of_decide_eq_true h1; cases this)), fun e => by cases e⟩
                    go_wp2_with fail
                    have HTk : Hid (tk k ≤ 4 ∧ k ≤ 200 ∧ p + tk k ≤ u) := tk_le hk200 hsz
                    obtain ⟨z, hz⟩ : ∃ z, z = tk k := ⟨_, rfl⟩
                    rw [← hz] at HTk
                    rw [← hz] at hws
                    rw [← hz]
                    rw [hws]
                    have HEz := hide hz
                    clear hz hk' hsz' hk200 hsz
                    go_loopg [12, 17] z (fun g' s12 s17 wr => ∃ j : Nat, g' = z - j ∧ j ≤ z ∧ s17 = .int .i64 (j : Int) ∧ AlR W2 wr t r vk l ck s12 (cat64 C (3 + p) j))
                    case atStart => exact ⟨0, rfl, Nat.zero_le _, rfl, HAl0.out⟩
                    case round =>
                      clear HAl0 HRd3
                      obtain ⟨j, rfl, hjz, rfl, hA⟩ := hrel
                      obtain ⟨pa, ca, rfl, _, _⟩ := own_max hA.a
                      have HA := hide hA
                      have HLn := hide (cat64_len (fun i => (HC64.out i).1) (3 + p) j)
                      clear hA
                      by_cases hjl : j < z
                      · have hjl' : (j : Int) < (z : Int) := Int.ofNat_lt.2 hjl
                        obtain ⟨hw1, hw2⟩ := arith22 (p := p) (j := j) (le5 hlu HU4.out.1) (le6 hjl HTk.out.1).1
                        have HCR2 : Hid (Calls Try.prog 30 #[pp r, .int .i64 (3 + (p : Int) + (j : Int))] wr (SgP wr G1 r la na (C (3 + p + j)))) := by
                          have h := HRd.out wr HA.out.o.k (3 + p + j) (rd_lt HTk.out.2.2 HU4.out.2 hjl)
                          rwa [show ((3 + p + j : Nat) : Int) = 3 + (p : Int) + (j : Int) by simp] at h
                        have HMj : Hid (64 * j + 64 ≤ 1000000) := (le6 hjl HTk.out.1).2
                        go_upto_region 25 with (go_at_call 30; refine Calls.mono HCR2.out ?_; rintro e W5 ⟨g2, c2, rfl, rfl, hs⟩; have HS2 := hide hs; clear hs)
                        obtain ⟨g2', c2', q2, b2, _⟩ := HS2.out.ba (HC64.out (3 + p + j))
                        cases q2
                        have HB2 := hide b2
                        have HFl := hide (fl_of (HC64.out (3 + p + j)).1)
                        clear b2 hw1 hw2 HS2 HCR2
                        have hj1 : wrap64 ((j : Int) + 1) = (j : Int) + 1 := w_succ hjl (Nat.le_trans HTk.out.1 (by decide))
                        go_wp2_with (refine wpList_appA rfl _ _ rfl rfl HA.out.a rfl HB2.out (by rw [HLn.out]; exact HMj.out) HA.out.o.k.size ?_; intro v1 w1 ho1 hg1 hat1; have HA1 := hide (HA.out.step (M := fl (fun i => (C (3 + p + j)).getD i 0) 64) (by rw [fl_len]; exact ho1) hg1 hat1); clear ho1 hg1 hat1)
                        go_roundg (z - (j + 1))
                        case measure => exact Nat.sub_lt_sub_left hjl (Nat.lt_succ_self _)
                        case rel => exact ⟨j + 1, rfl, hjl, by simp [hj1], by have h := HA1.out; rw [HFl.out] at h; exact h⟩
                      · obtain rfl : j = z := Nat.le_antisymm hjz (Nat.le_of_not_lt hjl)
                        have HL64 : Hid (0 < (cat64 C (3 + p) j).length ∧ 2 + k ≤ (cat64 C (3 + p) j).length) := by
                          show _ ∧ _
                          rw [HLn.out, HEz.out]
                          exact tk_len k
                        obtain ⟨q, ca', e, _⟩ := own_form HA.out.a HL64.out.1
                        cases e
                        have hca := own_cap HA.out.a
                        have hw2k : wrap64 (2 + (k : Int)) = 2 + (k : Int) := w_two HTk.out.2.1
                        have hsl : ∀ W : World, (Instr.sliceAt 38 (.slice (some ⟨q, 0, none⟩) (cat64 C (3 + p) j).length ca) (some (.int .i64 2)) (some (.int .i64 (2 + (k : Int)))) none).run Try.prog W = .ok (.slice (some ⟨q, 2, none⟩) k (ca - 2)) W := fun W => by
                          have h := run_midS (a := some ⟨q, 0, none⟩) (n := (cat64 C (3 + p) j).length) (c := ca) (k := 2) (m := 2 + k) (Nat.le_add_right 2 k) (Nat.le_trans HL64.out.2 hca) W
                          rw [cutA, if_neg (cap_ne (Nat.le_trans HL64.out.2 hca) HL64.out.1 hca (by rw [HLn.out])), Option.map_some, Addr.add_mid, Nat.add_sub_cancel_left] at h
                          rwa [show ((2 + k : Nat) : Int) = 2 + (k : Int) by simp] at h
                        have HC1a := hide HA.out.o.c1
                        have HC1b : Hid ((wr.drew.alloc (.cells #[.slice (some ⟨q, 2, none⟩) k (ca - 2)] 38)).cell? ⟨t, 1, none⟩ = some vk) := later (K.alloc (K.drew (Below.refl _ wr)) _) HA.out.o.c1
                        go_upto_region 26 with fail
                        refine wp_region_noPanic ?_
                        refine wp_region_held_drew (S := fun _ => True) (by kernel_rfl) trivial (fun hS0 => ?_)
                        refine wpAnyH_take (i := 0) (v := pp t) rfl (by kernel_rfl) (by kernel_rfl) (by kernel_rfl) (fun _ _ _ h => h) (Or.inl ⟨by rfl, fun w' _ => by go_simp⟩) hS0 ?_
                        simp only [Act.put, List.getElem_toArray, List.getElem_cons_zero, List.setIfInBounds_toArray, List.set_cons_zero, List.set_cons_succ]
                        refine wpAnyH_take (i := 1) (v := pp t) rfl (by kernel_rfl) (by kernel_rfl) (by kernel_rfl) (fun _ _ _ h => h) (Or.inl ⟨by rfl, fun w' _ => by go_simp⟩) hS0 ?_
                        simp only [Act.put, List.getElem_toArray, List.getElem_cons_zero, List.getElem_cons_succ, List.setIfInBounds_toArray, List.set_cons_zero, List.set_cons_succ]
                        refine wpAnyH_take (i := 2) (v := pp t) rfl (by kernel_rfl) (by kernel_rfl) (by kernel_rfl) (fun _ _ _ h => h) (Or.inl ⟨by rfl, fun w' _ => by go_simp⟩) hS0 ?_
                        simp only [Act.put, List.getElem_toArray, List.getElem_cons_zero, List.getElem_cons_succ, List.setIfInBounds_toArray, List.set_cons_zero, List.set_cons_succ]
                        refine wpAnyH_take (i := 3) (v := .pointer (some ⟨t, 1, none⟩)) rfl (by kernel_rfl) (by kernel_rfl) (by kernel_rfl) (fun _ _ _ h => h) (Or.inl ⟨by rfl, fun w' _ => by go_simp⟩) hS0 ?_
                        simp only [Act.put, List.getElem_toArray, List.getElem_cons_zero, List.getElem_cons_succ, List.setIfInBounds_toArray, List.set_cons_zero, List.set_cons_succ]
                        refine wpAnyH_take (i := 5) (v := .slice (some ⟨q, 0, none⟩) (cat64 C (3 + p) j).length ca) rfl (by kernel_rfl) (by kernel_rfl) (by kernel_rfl) (fun _ _ _ h => h) (Or.inl ⟨by rfl, fun w' _ => by go_simp⟩) hS0 ?_
                        simp only [Act.put, List.getElem_toArray, List.getElem_cons_zero, List.getElem_cons_succ, List.setIfInBounds_toArray, List.set_cons_zero, List.set_cons_succ]
                        refine wpAnyH_take (i := 6) (v := .int .i64 (k : Int)) rfl (by kernel_rfl) (by kernel_rfl) (by kernel_rfl) (fun _ _ _ h => h) (Or.inl ⟨by rfl, fun w' _ => by go_simp⟩) hS0 ?_
                        simp only [Act.put, List.getElem_toArray, List.getElem_cons_zero, List.getElem_cons_succ, List.setIfInBounds_toArray, List.set_cons_zero, List.set_cons_succ]
                        refine wpAnyH_take (i := 7) (v := .int .i64 (2 + (k : Int))) rfl (by kernel_rfl) (by kernel_rfl) (by kernel_rfl) (fun _ _ _ h => h) (Or.inl ⟨by rfl, fun w' _ => by go_simp; exact (wrapI _).trans hw2k⟩) hS0 ?_
                        simp only [Act.put, List.getElem_toArray, List.getElem_cons_zero, List.getElem_cons_succ, List.setIfInBounds_toArray, List.set_cons_zero, List.set_cons_succ]
                        refine wpAnyH_take (i := 8) (v := .slice (some ⟨q, 2, none⟩) k (ca - 2)) rfl (by kernel_rfl) (by kernel_rfl) (by kernel_rfl) (fun _ _ _ h => h) (Or.inl ⟨by rfl, fun w' _ => by have hc := hsl w'; go_simp⟩) hS0 ?_
                        simp only [Act.put, List.getElem_toArray, List.getElem_cons_zero, List.getElem_cons_succ, List.setIfInBounds_toArray, List.set_cons_zero, List.set_cons_succ]
                        apply meet
                        · intro hcut
                          refine wpAnyH_ready (rs := [4, 9]) (by kernel_rfl) (by simp) (AllReadyH.cons rfl (fun Kt hK => ?_) (AllReadyH.cons rfl (fun Kt hK => ?_) AllReadyH.nil))
                          · skip
                            refine wanted_pos rfl ?_
                            refine wp_load2 rfl (by rfl) HC1a.out (hK.out _ _ trivial (fun _ => ?_))
                            clear hK Kt
                            simp only [Act.put, List.getElem_toArray, List.getElem_cons_zero, List.getElem_cons_succ, List.setIfInBounds_toArray, List.set_cons_zero, List.set_cons_succ]
                            refine wpAnyH_ready (rs := [9]) (by kernel_rfl) (by simp) (AllReadyH.cons rfl (fun Kt hK => ?_) AllReadyH.nil)
                            refine wanted_pos rfl ?_
                            refine wp_buildS rfl (by rfl) (hK.out _ _ trivial (fun _ => ?_))
                            clear hK Kt
                            simp only [Act.put, List.getElem_toArray, List.getElem_cons_zero, List.getElem_cons_succ, List.setIfInBounds_toArray, List.set_cons_zero, List.set_cons_succ]
                            exact hcut
                          · skip
                            refine wanted_pos rfl ?_
                            refine wp_buildS rfl (by rfl) (hK.out _ _ trivial (fun _ => ?_))
                            clear hK Kt
                            simp only [Act.put, List.getElem_toArray, List.getElem_cons_zero, List.getElem_cons_succ, List.setIfInBounds_toArray, List.set_cons_zero, List.set_cons_succ]
                            refine wpAnyH_ready (rs := [4]) (by kernel_rfl) (by simp) (AllReadyH.cons rfl (fun Kt hK => ?_) AllReadyH.nil)
                            refine wanted_pos rfl ?_
                            refine wp_load2 rfl (by rfl) HC1b.out (hK.out _ _ trivial (fun _ => ?_))
                            clear hK Kt
                            simp only [Act.put, List.getElem_toArray, List.getElem_cons_zero, List.getElem_cons_succ, List.setIfInBounds_toArray, List.set_cons_zero, List.set_cons_succ]
                            exact hcut
                        refine wpAnyH_ready (rs := [10]) (by kernel_rfl) (by simp) (AllReadyH.cons rfl (fun Kt hK => ?_) AllReadyH.nil)
                        refine wanted_pos rfl ?_
                        have HX2 := hide (HA.out.o.s.keep (K.alloc (K.drew (Below.refl _ wr)) (.cells #[.slice (some ⟨q, 2, none⟩) k (ca - 2)] 38)))
                        have HOp2 := hide (HA.out.o.grow (K.alloc (K.drew (Below.refl _ wr)) (.cells #[.slice (some ⟨q, 2, none⟩) k (ca - 2)] 38)))
                        have HB3 : Hid (BA (wr.drew.alloc (.cells #[.slice (some ⟨q, 2, none⟩) k (ca - 2)] 38)) (some ⟨q, 2, none⟩) k (fun i => (cat64 C (3 + p) j).getD (2 + i) 0)) := (HA.out.mid_ba rfl (HC64.out) HL64.out.2).keep (K.alloc (K.drew (Below.refl _ wr)) _)
                        refine wp_app1 (e := .slice (some ⟨q, 2, none⟩) k (ca - 2)) (q := wr.drew.heap.size) (n := l.length) (xs := ck) _ _ rfl (by rfl) HX2.out.o (by rfl) (by simp [go_sem]) rfl (Nat.le_trans (Nat.le_trans (tks_len l) (by rw [← HEp.out]; exact hlu)) (Nat.le_trans HU4.out.1 (by decide))) HOp2.out.k.size (fun v' W6 ho hG hat => ?_)
                        have HPu := hide (HOp2.out.push HB3.out (fun _ b hb => by cases hb; exact HA.out.mid_x rfl) ho hG hat)
                        have hc6 : W6.cell? ⟨t, 1, none⟩ = some vk := HOp2.out.at1 hG 1 HOp2.out.c1
                        have hz6 : W6.frozen? ⟨t, 1, none⟩ = false := HOp2.out.at1z hG 1 (by decide)
                        obtain ⟨lq, lc, e6, _⟩ := own_form ho (Nat.succ_pos _)
                        subst e6
                        clear ho hG hat
                        refine hK.out _ _ trivial (fun _ => ?_)
                        clear hK Kt
                        simp only [Act.put, List.getElem_toArray, List.getElem_cons_zero, List.getElem_cons_succ, List.setIfInBounds_toArray, List.set_cons_zero, List.set_cons_succ]
                        refine wpAnyH_take (i := 11) (v := pp t) rfl (by kernel_rfl) (by kernel_rfl) (by kernel_rfl) (fun _ _ _ h => h) (Or.inl ⟨by rfl, fun w' _ => by go_simp⟩) trivial ?_
                        simp only [Act.put, List.getElem_toArray, List.getElem_cons_zero, List.getElem_cons_succ, List.setIfInBounds_toArray, List.set_cons_zero, List.set_cons_succ]
                        refine wpAnyH_take (i := 12) (v := .pointer (some ⟨t, 1, none⟩)) rfl (by kernel_rfl) (by kernel_rfl) (by kernel_rfl) (fun _ _ _ h => h) (Or.inl ⟨by rfl, fun w' _ => by go_simp⟩) trivial ?_
                        simp only [Act.put, List.getElem_toArray, List.getElem_cons_zero, List.getElem_cons_succ, List.setIfInBounds_toArray, List.set_cons_zero, List.set_cons_succ]
                        refine wpAnyH_ready (rs := [13]) (by kernel_rfl) (by simp) (AllReadyH.cons rfl (fun Kt hK => ?_) AllReadyH.nil)
                        refine wanted_pos rfl ?_
                        refine wp_store2 rfl (by rfl) (by rfl) hc6 hz6 (hK.out _ _ trivial (fun _ => ?_))
                        clear hK Kt
                        refine wpAnyH_done (by kernel_rfl) ?_ _
                        refine NoPanic.normal ?_
                        simp only [Act.put, List.getElem_toArray, List.getElem_cons_zero, List.getElem_cons_succ]
                        clear hS0 hc6 hz6 HX2 HOp2 HB3 hsl
                        generalize W6.setCell ⟨t, 1, none⟩ (.slice (some ⟨lq, 0, none⟩) (l.length + 1) lc) = W7 at HPu ⊢
                        have HNw : Hid (lays C 0 (l ++ [ent C p k]) ∧ tks (l ++ [ent C p k]) = p + j ∧ fl (fun i => (cat64 C (3 + p) j).getD (2 + i) 0) k = ent C p k) := by
                          show _ ∧ _
                          have hh := ent_holds (fun i => (HC64.out i).1) (p := p) (by rw [← HK9.out.1]; exact HTk.out.2.1)
                          rw [← HK9.out.1] at hh
                          refine ⟨lays_app.2 ⟨HLy.out, by rw [Nat.zero_add, ← HEp.out]; exact hh.2, trivial⟩, ?_, ?_⟩
                          · rw [tks_app, ← HEp.out, HEz.out]
                            show p + (tk (ent C p k).length + 0) = p + tk k
                            rw [hh.1, Nat.add_zero]
                          · rw [fl_mid HL64.out.2]
                            show _ = ((cat64 C (3 + p) (tk k)).drop 2).take k
                            rw [← HEz.out]
                        have hln1 : wrap64 ((l.length : Int) + 1) = (l.length : Int) + 1 := w_succ hlt (Nat.le_trans HUN.out.1 (by decide))
                        rw [HNw.out.2.2] at HPu
                        go_wp2_with fail
                        go_roundg (nn - (l.length + 1))
                        case measure => exact Nat.sub_lt_sub_left hlt (Nat.lt_succ_self _)
                        case rel => exact ⟨l ++ [ent C p k], _, _, by rw [List.length_append]; rfl, by rw [List.length_append]; exact hlt, by rw [HNw.out.2.1]; exact HTk.out.2.2, by rw [List.length_append]; simp [hln1], by rw [HNw.out.2.1]; simp [hws], HNw.out.1, HPu.out⟩
                  · have hsz' : (u : Int) < (p : Int) + (tk k : Int) := lt_sum hsz
                    have HNo : Hid (D.opO = none) := HO.out.trans (opn_p (by
                      rw [← HEU.out.1, ← HEU.out.2]
                      exact prs_fail HLy.out (by rw [← HEp.out]; exact hlu) hlt (by rw [← HEp.out, ← HK9.out.1]; omega)))
                    go_wp2_with fail
                    exact bodyPost_ret (by simp [results, Try.results9]) rfl (HPost.out _ HRd3.out.k HNo.out)
                · have hk' : (200 : Int) < (k : Int) := lt_int hk200
                  have HNo : Hid (D.opO = none) := HO.out.trans (opn_p (by
                    rw [← HEU.out.1, ← HEU.out.2]
                    exact prs_fail HLy.out (by rw [← HEp.out]; exact hlu) hlt (by rw [← HEp.out, ← HK9.out.1]; omega)))
                  go_wp2_with fail
                  exact bodyPost_ret (by simp [results, Try.results9]) rfl (HPost.out _ HRd3.out.k HNo.out)
              · have hpu' : (u : Int) ≤ (p : Int) := by omega
                have HNo : Hid (D.opO = none) := HO.out.trans (opn_p (by
                  rw [← HEU.out.1, ← HEU.out.2]
                  exact prs_fail HLy.out (by rw [← HEp.out]; exact hlu) hlt (by rw [← HEp.out]; omega)))
                go_wp2_with fail
                exact bodyPost_ret (by simp [results, Try.results9]) rfl (HPost.out _ HR.out.k HNo.out)
            · have hleq : l.length = nn := Nat.le_antisymm hln (Nat.le_of_not_lt hlt)
              have hlt' : decide ((l.length : Int) < (nn : Int)) = false := by rw [hleq]; exact decide_eq_false (Int.lt_irrefl _)
              have HLq : Hid (l.length = mkN v) := hleq.trans HEU.out.2
              by_cases hpe : p = u
              · have hpe' : ((p : Int) != (u : Int)) = false := by rw [hpe]; simp
                have HPe : Hid (tks l = mkU v) := (HEp.out.symm.trans hpe).trans HEU.out.1
                have HSh := hide (lays_short HLy.out)
                obtain ⟨zk, kc, ek, hvw⟩ := HR.out.s.shape
                have HVw := hide hvw
                have hc1 : wr.cell? ⟨t, 1, none⟩ = some (.slice zk l.length kc) := by rw [← ek]; exact HR.out.c1
                have HLb : Hid (l.length ≤ 1000000) := Nat.le_trans (tks_len l) (by rw [← HEp.out]; exact Nat.le_trans hlu (Nat.le_trans HU4.out.1 (by decide)))
                have HGw : Hid (∀ W, Below W2.heap.size W2 W → BA W (some ⟨gv, 0, none⟩) 64 (fun i => v.getD i 0)) := fun W hW => ba_sec (fun j x hx => later hW (HGV.out j x hx)) HVs.out
                clear hvw hleq
                by_cases hvv : v = mkv l
                · have HOk : Hid (D.opO = some l) := by
                    show _ = _
                    rw [HO.out, hvv]
                    exact opn_lays HLy.out (by rw [HPe.out, ← HEU.out.1]; exact HU4.out.2) HN3.out.2
                  have HVV := hide hvv
                  clear hvv
                  go_wp2_with (first
                    | (go_at_call 33; refine Calls.mono (mark_any HVw.out HSh.out HLb.out) ?_; rintro e W4 ⟨z4, c4, rfl, ho4, hB4⟩; have HB4 := hide hB4; have HO4 := hide (own_ba ho4 (mkf_lt _ _)); clear ho4 hB4)
                    | (go_at_call 32; refine Calls.mono (full_any HO4.out (by decide)) ?_; rintro e W5 ⟨z5, c5, rfl, hb5, _, hB5⟩; have HB5 := hide (K.call HB4.out hB5); have HF5 := hide hb5; clear hb5 hB5)
                    | (go_at_call 31; refine Calls.mono (same_v (HGw.out _ (K.call HR.out.k HB5.out)) HF5.out (fl_of HVs.out.1) HVV.out) ?_; rintro e W6 ⟨rfl, hB6⟩; have HB6 := hide (K.call HB5.out hB6); clear hB6))
                  have hE := opE_some HE.out HOk.out
                  exact bodyPost_ret (by simp [results, Try.results9]) rfl ⟨W2, G1, HR2.out, K.call HR.out.k HB6.out, Or.inl ⟨hE.1, t, vk, ck, rfl, by rw [hE.2]; exact HR.out.grow HB6.out⟩⟩
                · have HNo : Hid (D.opO = none) := HO.out.trans (opn_v HLq.out HPe.out hvv)
                  have HVV := hide hvv
                  clear hvv
                  go_wp2_with (first
                    | (go_at_call 33; refine Calls.mono (mark_any HVw.out HSh.out HLb.out) ?_; rintro e W4 ⟨z4, c4, rfl, ho4, hB4⟩; have HB4 := hide hB4; have HO4 := hide (own_ba ho4 (mkf_lt _ _)); clear ho4 hB4)
                    | (go_at_call 32; refine Calls.mono (full_any HO4.out (by decide)) ?_; rintro e W5 ⟨z5, c5, rfl, hb5, _, hB5⟩; have HB5 := hide (K.call HB4.out hB5); have HF5 := hide hb5; clear hb5 hB5)
                    | (go_at_call 31; refine Calls.mono (same_n (HGw.out _ (K.call HR.out.k HB5.out)) HF5.out (fl_of HVs.out.1) HVV.out) ?_; rintro e W6 ⟨rfl, hB6⟩; have HB6 := hide (K.call HB5.out hB6); clear hB6))
                  exact bodyPost_ret (by simp [results, Try.results9]) rfl (HPost.out _ (K.call HR.out.k HB6.out) HNo.out)
              · have hpe' : ((p : Int) != (u : Int)) = true := ne_int hpe
                have HNo : Hid (D.opO = none) := HO.out.trans (opn_e HLy.out (by rw [← HEp.out, ← HEU.out.1]; exact hlu) HLq.out (by rw [← HEp.out, ← HEU.out.1]; exact hpe))
                go_wp2_with fail
                exact bodyPost_ret (by simp [results, Try.results9]) rfl (HPost.out _ HR.out.k HNo.out)
        · have hd3 : (D.n : Int) - 3 < (mkU v : Int) := by omega
          have h0n : decide ((mkN v : Int) < 0) = false := decide_eq_false (by omega)
          have h0u : decide ((mkU v : Int) < 0) = false := decide_eq_false (by omega)
          have HNo : Hid (D.opO = none) := HO.out.trans (opn_u (by omega))
          go_wp2_with fail
          exact bodyPost_ret (by simp [results, Try.results9]) rfl (HPost.out _ HBd.out HNo.out)
      · have eu : (numR fun i => v.getD (8 + i) 0) = -1 := if_neg hu
        rw [eu]
        have h0n : decide ((mkN v : Int) < 0) = false := decide_eq_false (by omega)
        have HNo : Hid (D.opO = none) := HO.out.trans (opn_u (by have := HN3.out; omega))
        clear eu
        go_wp2_with fail
        exact bodyPost_ret (by simp [results, Try.results9]) rfl (HPost.out _ HBd.out HNo.out)
    · have en : (numR fun i => v.getD i 0) = -1 := if_neg hn
      rw [en]
      have HNo : Hid (D.opO = none) := HO.out.trans (opn_n (fun i => (HC64.out i).1) (by have := HN3.out; omega))
      clear en
      go_wp2_with fail
      exact bodyPost_ret (by simp [results, Try.results9]) rfl (HPost.out _ HBd.out HNo.out)
  · have e1 : D.opE = D.mendE 0 := if_neg he
    have hne : (D.mendE 0 != 0) = true := by simp [he]
    have hne' : (D.mendE 0 == 0) = false := by simp [he]
    have HE := hide (And.intro he e1)
    clear he e1
    go_enter Try.func9, Try.ntmps9
    go_wp2_with (go_at_call 27; refine Calls.mono HM.out ?_; rintro e W1 ⟨rfl, G1, hd1, hK1, hg1⟩; have HR1 : Hid (RsR w W1 r la na cl cn zl zn (D.mendD 0) G G1) := ⟨hd1, hK1, hg1⟩; clear hd1 hK1 hg1)
    exact bodyPost_ret (by simp [results, Try.results9]; rfl) rfl ⟨W1, G1, HR1.out, Below.refl _ _, Or.inr ⟨by rw [HE.out.2]; exact HE.out.1, by rw [HE.out.2]⟩⟩
end Go.Proofs.Ytpophfeommlajaa
