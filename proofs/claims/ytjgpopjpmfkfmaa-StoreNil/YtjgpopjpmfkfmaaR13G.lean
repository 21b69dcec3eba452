/- Layer 13: the document's New. -/
import Derived.Test.YtjgpopjpmfkfmaaR13F
namespace Go.Proofs.Ytjgpopjpmfkfmaa
set_option maxRecDepth 100000
open Go.RowKit Go.Maps
attribute [local go_sem ↓] Go.wp_at_zero Go.wp_at_succ

section
variable {op : Oper} {a : Act} {w : World} {Kt : Act → World → Prop} {Q : Exit → Act → World → Prop}
theorem wp_store2 {x y : Operand} {g o m c : Nat} {p : Option Addr} {u : Value} (ho : op.op = .store 47 x y) (hx : a.eval x = .pointer (some ⟨g, o, none⟩)) (hy : a.eval y = .slice p m c)
    (hc : w.cell? ⟨g, o, none⟩ = some u) (hz : w.frozen? ⟨g, o, none⟩ = false) (h : Kt (a.put op.dst undef) (w.setCell ⟨g, o, none⟩ (.slice p m c))) : Oper.wp Try.prog op a w Kt Q := by
  unfold Oper.wp execOp
  simp only [ho, hx, hy]
  go_simp
  exact h
theorem wp_load2 {x : Operand} {g o : Nat} {v : Value} (ho : op.op = .load 47 x) (hx : a.eval x = .pointer (some ⟨g, o, none⟩))
    (hc : w.cell? ⟨g, o, none⟩ = some v) (h : Kt (a.put op.dst v) w) : Oper.wp Try.prog op a w Kt Q := by
  unfold Oper.wp execOp
  simp only [ho, hx]
  go_simp
  exact h
theorem wp_build1 {t : Nat} {g : Nat} (ho : op.op = .buildSlice 47 1 #[(0, .tmp t)]) (hx : a.eval (.tmp t) = .slice (some ⟨g, 0, none⟩) 64 64)
    (h : Kt (a.put op.dst (.slice (some ⟨w.heap.size, 0, none⟩) 1 1)) (w.alloc (.cells #[.slice (some ⟨g, 0, none⟩) 64 64] 38))) : Oper.wp Try.prog op a w Kt Q := by
  have hx' : a.tmps[t]?.getD undef = .slice (some ⟨g, 0, none⟩) 64 64 := by simpa [Act.eval] using hx
  unfold Oper.wp execOp
  simp only [ho]
  go_simp
  exact h
theorem wp_app1 (s x : Operand) (hop : op.op = .call { callee := .builtin .append, args := #[s, x], argTypes := #[47, 47] })
    {base : Nat} {v : Value} {n : Nat} {xs : List Value} (hs : a.eval s = v) (hown : w.ownsRow base 38 1 v n xs) {q : Nat} (hx : a.eval x = .slice (some ⟨q, 0, none⟩) 1 1) {e : Value} (he : w.cell? ⟨q, 0, none⟩ = some e) (h1 : e.oneCell' = true) (hb : n ≤ 100000) (hbase : base ≤ w.heap.size)
    (hK : ∀ v' w', w'.ownsRow base 38 1 v' (n + 1) (xs ++ [e]) → w.grownBy w' v.ownBlock → (v'.ownBlock = v.ownBlock ∨ v'.ownBlock = some w.heap.size) → Kt (a.put op.dst v') w') : Oper.wp Try.prog op a w Kt Q := by
  obtain ⟨v', w', hr, h2, h3, h4⟩ := run_app1 hown he h1 hb hbase op.type
  unfold Oper.wp execOp
  simp only [hop, resolve, invoke, builtin, Sem.run_bind, Sem.run_pure, Result.andThen_ok, List.map_toArray, List.map_cons, List.map_nil, hs, hx, hr]
  exact hK v' w' h2 h3 h4
end
theorem r64 (w : World) : (w.alloc o64).rangeAt w.heap.size 0 (cells8 z64) := by
  rcases (ba64 w).at_ with h | ⟨b, o, e, hr⟩
  · cases h
  · cases e
    intro j u hu
    have hj : j < 64 := by
      have := (List.getElem?_eq_some_iff.1 hu).1
      rwa [cells8_len' z64_sec] at this
    rw [cells8_at _ j (by rw [z64_sec.1]; exact hj)] at hu
    have e0 : z64.getD j 0 = 0 := by
      rw [List.getD_eq_getElem?_getD, show z64 = List.replicate 64 0 from rfl, List.getElem?_replicate]
      simp [hj]
    rw [e0] at hu
    exact (hr.c j hj).trans hu
/-- While a disk is made. -/
structure NwR (w wr : World) (r i j : Nat) (vl vn : Value) (cs : List Value) : Prop where
  rr : r = w.heap.size
  lt : r < wr.heap.size
  c0 : wr.cell? ⟨r, 0, none⟩ = some vl
  c1 : wr.cell? ⟨r, 1, none⟩ = some vn
  c2 : wr.cell? ⟨r, 2, none⟩ = some (.int .i64 (-1))
  c3 : wr.cell? ⟨r, 3, none⟩ = some (.bool false)
  z : ∀ k, k < 4 → wr.frozen? ⟨r, k, none⟩ = false
  o : wr.ownsRow (r + 1) 38 1 vl i cs
  p : wr.ownsRow (r + 1) 38 1 vn j (List.replicate j (.slice none 0 0))
  ne : ∀ g, vl.ownBlock = some g → vn.ownBlock ≠ some g
  e : ∀ k, k < i → ∃ g, cs[k]? = some (.slice (some ⟨g, 0, none⟩) 64 64) ∧ wr.rangeAt g 0 (cells8 z64) ∧ r < g ∧ g < wr.heap.size ∧ vl.ownBlock ≠ some g ∧ vn.ownBlock ≠ some g
  k : Below w.heap.size w wr
section
variable {w wr w' : World} {r i j : Nat} {vl vn : Value} {cs : List Value}
theorem NwR.to (h : NwR w wr r i j vl vn cs) (hs : wr.heap.size ≤ w'.heap.size) (hb : ∀ k, r ≤ k → k < wr.heap.size → w'.heap[k]? = wr.heap[k]?) (hk : Below w.heap.size w w') : NwR w w' r i j vl vn cs := by
  have e1 := hb r (Nat.le_refl _) h.lt
  refine ⟨h.rr, Nat.lt_of_lt_of_le h.lt hs, (World.cell?_of_block (w := wr) e1).trans h.c0, (World.cell?_of_block (w := wr) e1).trans h.c1, (World.cell?_of_block (w := wr) e1).trans h.c2, (World.cell?_of_block (w := wr) e1).trans h.c3, fun k hk => (World.frozen?_of_block (w := wr) e1).trans (h.z k hk), own_block h.o (fun g hg => hb g (by have := (h.o.lt g hg).1; omega) (h.o.lt g hg).2), own_block h.p (fun g hg => hb g (by have := (h.p.lt g hg).1; omega) (h.p.lt g hg).2), h.ne, fun k hk => ?_, hk⟩
  obtain ⟨g, h1, h2, h3, h4, h5⟩ := h.e k hk
  exact ⟨g, h1, fun q u hu => (World.cell?_of_block (w := wr) (hb g (by omega) h4)).trans (h2 q u hu), h3, Nat.lt_of_lt_of_le h4 hs, h5⟩
theorem NwR.grow (h : NwR w wr r i j vl vn cs) (hB : Below wr.heap.size wr w') : NwR w w' r i j vl vn cs := h.to hB.size (fun k _ hk => hB.block k hk) (K.call h.k hB)
theorem NwR.at1 (h : NwR w wr r i j vl vn cs) (hG : wr.grownBy w' vl.ownBlock) (o : Nat) (v : Value) (hv : wr.cell? ⟨r, o, none⟩ = some v) : w'.cell? ⟨r, o, none⟩ = some v :=
  (World.cell?_of_block (w := wr) (hG.block r h.lt (fun e => by have := (h.o.lt r e.symm).1; omega))).trans hv
theorem NwR.at1z (h : NwR w wr r i j vl vn cs) (hG : wr.grownBy w' vl.ownBlock) (o : Nat) (ho : o < 4) : w'.frozen? ⟨r, o, none⟩ = false :=
  (World.frozen?_of_block (w := wr) (hG.block r h.lt (fun e => by have := (h.o.lt r e.symm).1; omega))).trans (h.z o ho)
theorem NwR.at2 (h : NwR w wr r i j vl vn cs) (hG : wr.grownBy w' vn.ownBlock) (o : Nat) (v : Value) (hv : wr.cell? ⟨r, o, none⟩ = some v) : w'.cell? ⟨r, o, none⟩ = some v :=
  (World.cell?_of_block (w := wr) (hG.block r h.lt (fun e => by have := (h.p.lt r e.symm).1; omega))).trans hv
theorem NwR.at2z (h : NwR w wr r i j vl vn cs) (hG : wr.grownBy w' vn.ownBlock) (o : Nat) (ho : o < 4) : w'.frozen? ⟨r, o, none⟩ = false :=
  (World.frozen?_of_block (w := wr) (hG.block r h.lt (fun e => by have := (h.p.lt r e.symm).1; omega))).trans (h.z o ho)
theorem NwR.add1 (h : NwR w wr r i j vl vn cs) {g : Nat} (hr : wr.rangeAt g 0 (cells8 z64)) (hg : r < g) (hgl : g < wr.heap.size) (hn1 : vl.ownBlock ≠ some g) (hn2 : vn.ownBlock ≠ some g)
    {vl' : Value} (ho : w'.ownsRow (r + 1) 38 1 vl' (i + 1) (cs ++ [.slice (some ⟨g, 0, none⟩) 64 64])) (hG : wr.grownBy w' vl.ownBlock) (hat : vl'.ownBlock = vl.ownBlock ∨ vl'.ownBlock = some wr.heap.size) :
    NwR w (w'.setCell ⟨r, 0, none⟩ vl') r (i + 1) j vl' vn (cs ++ [.slice (some ⟨g, 0, none⟩) 64 64]) := by
  have hl : cs.length = i := by have := h.o.1; omega
  have hb : ∀ k, k ≠ r → k < wr.heap.size → vl.ownBlock ≠ some k → (w'.setCell ⟨r, 0, none⟩ vl').heap[k]? = wr.heap[k]? := fun k h1 h2 h3 => (Below.heap_setCell _ _ _ _ h1).trans (hG.block k h2 (fun e => h3 e.symm))
  have new : ∀ k, k < wr.heap.size → vl.ownBlock ≠ some k → vl'.ownBlock ≠ some k := fun k hk hn e => by
    rcases hat with e2 | e2
    · exact hn (e2.symm.trans e)
    · rw [e2] at e; have := Option.some.inj e; omega
  have hsz : (w'.setCell ⟨r, 0, none⟩ vl').heap.size = w'.heap.size := by simp
  refine ⟨h.rr, by rw [hsz]; exact Nat.lt_of_lt_of_le h.lt hG.size, World.cell?_setCell_same _ _ _ (h.at1 hG 0 _ h.c0), (World.cell?_setCell_other _ _ _ _ (by simp)).trans (h.at1 hG 1 _ h.c1), (World.cell?_setCell_other _ _ _ _ (by simp)).trans (h.at1 hG 2 _ h.c2), (World.cell?_setCell_other _ _ _ _ (by simp)).trans (h.at1 hG 3 _ h.c3), fun k hk => (World.frozen?_setCell _ _ _ _).trans (h.at1z hG k hk),
    own_block ho (fun q hq => Below.heap_setCell _ _ _ _ (by have := (ho.lt q hq).1; intro e; have e2 : q = r := e; omega)), own_block h.p (fun q hq => hb q (by have := (h.p.lt q hq).1; omega) (h.p.lt q hq).2 (fun e => h.ne q e hq)), fun q hq e => ?_, fun k hk => ?_, ⟨hG.os.trans h.k.os, hG.tape.trans h.k.tape, hG.output.trans h.k.output, by rw [hsz]; exact Nat.le_trans h.k.size hG.size, fun k hk => (hb k (by have := h.rr; omega) (Nat.lt_of_lt_of_le hk h.k.size) (fun e => by have := (h.o.lt k e).1; have := h.rr; omega)).trans (h.k.block k hk)⟩⟩
  · exact new q (h.p.lt q e).2 (fun e2 => h.ne q e2 e) hq
  · by_cases e : k < i
    · obtain ⟨q, h1, h2, h3, h4, h5, h6⟩ := h.e k e
      exact ⟨q, by rw [List.getElem?_append_left (by omega)]; exact h1, fun x u hu => (World.cell?_of_block (w := wr) (hb q (by omega) h4 h5)).trans (h2 x u hu), h3, by rw [hsz]; exact Nat.lt_of_lt_of_le h4 hG.size, new q h4 h5, h6⟩
    · obtain rfl : k = i := by omega
      exact ⟨g, by rw [List.getElem?_append_right (by omega), hl, Nat.sub_self]; rfl, fun x u hu => (World.cell?_of_block (w := wr) (hb g (by omega) hgl hn1)).trans (hr x u hu), by omega, by rw [hsz]; exact Nat.lt_of_lt_of_le hgl hG.size, new g hgl hn1, hn2⟩
theorem NwR.add2 (h : NwR w wr r i j vl vn cs) {vn' : Value} (ho : w'.ownsRow (r + 1) 38 1 vn' (j + 1) (List.replicate j (.slice none 0 0) ++ [.slice none 0 0])) (hG : wr.grownBy w' vn.ownBlock) (hat : vn'.ownBlock = vn.ownBlock ∨ vn'.ownBlock = some wr.heap.size) :
    NwR w (w'.setCell ⟨r, 1, none⟩ vn') r i (j + 1) vl vn' cs := by
  have hb : ∀ k, k ≠ r → k < wr.heap.size → vn.ownBlock ≠ some k → (w'.setCell ⟨r, 1, none⟩ vn').heap[k]? = wr.heap[k]? := fun k h1 h2 h3 => (Below.heap_setCell _ _ _ _ h1).trans (hG.block k h2 (fun e => h3 e.symm))
  have new : ∀ k, k < wr.heap.size → vn.ownBlock ≠ some k → vn'.ownBlock ≠ some k := fun k hk hn e => by
    rcases hat with e2 | e2
    · exact hn (e2.symm.trans e)
    · rw [e2] at e; have := Option.some.inj e; omega
  have hsz : (w'.setCell ⟨r, 1, none⟩ vn').heap.size = w'.heap.size := by simp
  rw [← List.replicate_succ'] at ho
  refine ⟨h.rr, by rw [hsz]; exact Nat.lt_of_lt_of_le h.lt hG.size, (World.cell?_setCell_other _ _ _ _ (by simp)).trans (h.at2 hG 0 _ h.c0), World.cell?_setCell_same _ _ _ (h.at2 hG 1 _ h.c1), (World.cell?_setCell_other _ _ _ _ (by simp)).trans (h.at2 hG 2 _ h.c2), (World.cell?_setCell_other _ _ _ _ (by simp)).trans (h.at2 hG 3 _ h.c3), fun k hk => (World.frozen?_setCell _ _ _ _).trans (h.at2z hG k hk),
    own_block h.o (fun q hq => hb q (by have := (h.o.lt q hq).1; omega) (h.o.lt q hq).2 (h.ne q hq)), own_block ho (fun q hq => Below.heap_setCell _ _ _ _ (by have := (ho.lt q hq).1; intro e; have e2 : q = r := e; omega)), fun q hq => new q (h.o.lt q hq).2 (h.ne q hq), fun k hk => ?_, ⟨hG.os.trans h.k.os, hG.tape.trans h.k.tape, hG.output.trans h.k.output, by rw [hsz]; exact Nat.le_trans h.k.size hG.size, fun k hk => (hb k (by have := h.rr; omega) (Nat.lt_of_lt_of_le hk h.k.size) (fun e => by have := (h.p.lt k e).1; have := h.rr; omega)).trans (h.k.block k hk)⟩⟩
  obtain ⟨q, h1, h2, h3, h4, h5, h6⟩ := h.e k hk
  exact ⟨q, h1, fun x u hu => (World.cell?_of_block (w := wr) (hb q (by omega) h4 h6)).trans (h2 x u hu), h3, by rw [hsz]; exact Nat.lt_of_lt_of_le h4 hG.size, h5, new q h4 h6⟩
theorem own_thaw {n base : Nat} {e : TypeId} {v : Value} {xs : List Value} (h : w.ownsRow base e 1 v n xs) {q cap : Nat} (hv : v = .slice (some ⟨q, 0, none⟩) n cap) (hn : 0 < n) (k : Nat) : w.frozen? ⟨q, k, none⟩ = false := by
  rcases h.2 with ⟨_, h0⟩ | ⟨g, cap, cur, rfl, _, hh, _⟩
  · omega
  · cases hv
    unfold World.frozen?
    simp only [hh]
    simp
/-- What the document's New answers. -/
def NwP (w : World) (n : Nat) (e : Ending) (w' : World) : Prop := ∃ r la na cl cn zl zn G, e = .returned (pp r) ∧ RDk w' r la na cl cn zl zn (.new n) G ∧ Below w.heap.size w w' ∧ ∀ k, G k = true → w.heap.size ≤ k
theorem NwR.done {n : Nat} (hn : n ≤ 4096) (h : NwR w wr r n n vl vn cs) : NwP w n (.returned (pp r)) wr := by
  have hr := h.rr
  have hlt := h.lt
  by_cases h0 : n = 0
  · subst h0
    have f1 : ∃ z c, vl = .slice z 0 c := by
      rcases h.o.2 with ⟨rfl, _⟩ | ⟨g, cap, cur, rfl, _⟩ <;> exact ⟨_, _, rfl⟩
    have f2 : ∃ z c, vn = .slice z 0 c := by
      rcases h.p.2 with ⟨rfl, _⟩ | ⟨g, cap, cur, rfl, _⟩ <;> exact ⟨_, _, rfl⟩
    obtain ⟨z1, k1, rfl⟩ := f1
    obtain ⟨z2, k2, rfl⟩ := f2
    refine ⟨r, r, r, k1, k2, z1, z2, fun k => decide (w.heap.size ≤ k ∧ k < wr.heap.size), rfl, ⟨h.c0, h.c1, h.c2, h.c3, h.z, fun h' => absurd h' (Nat.lt_irrefl 0), fun i hi => absurd hi (Nat.not_lt_zero i), fun i hi => absurd hi (Nat.not_lt_zero i), fun i hi => absurd hi (Nat.not_lt_zero i), fun i hi => absurd hi (Nat.not_lt_zero i), fun k hk => ?_, fun k hk => (of_decide_eq_true hk).2, DM.new_ok hn⟩, h.k, fun k hk => (of_decide_eq_true hk).1⟩
    have : k = r := by rcases X3_of.1 hk with e | e | e <;> exact e
    subst this
    exact decide_eq_true ⟨by omega, hlt⟩
  · have hpos : 0 < n := by omega
    obtain ⟨q1, k1, rfl, f1⟩ := own_form h.o hpos
    obtain ⟨q2, k2, rfl, f2⟩ := own_form h.p hpos
    have l1 := h.o.lt q1 rfl
    have l2 := h.p.lt q2 rfl
    refine ⟨r, q1, q2, k1, k2, _, _, fun k => decide (w.heap.size ≤ k ∧ k < wr.heap.size), rfl, ⟨h.c0, h.c1, h.c2, h.c3, h.z, fun _ => ⟨rfl, rfl, by omega, by omega, fun e => h.ne q1 rfl (by rw [e]; rfl)⟩, fun i hi => own_thaw h.o rfl hpos i, fun i hi => own_thaw h.p rfl hpos i, fun i hi => ?_, fun i hi => ?_, fun k hk => ?_, fun k hk => (of_decide_eq_true hk).2, DM.new_ok hn⟩, h.k, fun k hk => (of_decide_eq_true hk).1⟩
    · obtain ⟨g, g1, g2, g3, g4, g5, g6⟩ := h.e i hi
      refine ⟨_, (f1 i hi).trans g1, g, 64, rfl, g2, decide_eq_true ⟨by omega, g4⟩, ?_, Nat.le_refl _⟩
      cases hx : X3 r q1 q2 g with
      | false => rfl
      | true =>
        rcases X3_of.1 hx with e | e | e
        · omega
        · exact absurd (by rw [e]; rfl) g5
        · exact absurd (by rw [e]; rfl) g6
    · refine ⟨.slice none 0 0, (f2 i hi).trans ?_, Or.inl ⟨rfl, rfl⟩⟩
      have hi' : i < n := hi
      rw [List.getElem?_replicate, if_pos hi']
    · refine decide_eq_true ?_
      rcases X3_of.1 hk with e | e | e <;> omega
end
def NwS (w wr : World) (r i : Nat) : Prop := ∃ vl vn cs, NwR w wr r i i vl vn cs
set_option maxRecDepth 100000 in
set_option maxHeartbeats 8000000 in
theorem ref_new {n : Nat} (hn : n ≤ 4096) (w : World) : Calls Try.prog 11 #[.int .i64 (n : Int)] w (NwP w n) := by
  have HN := hide hn
  clear hn
  go_enter Try.func11, Try.ntmps11
  go_upto_region 2 with fail
  refine wp_let (fun W1 hW1 => ?_)
  obtain ⟨r, hr⟩ : ∃ r, r = w.heap.size := ⟨_, rfl⟩
  rw [← hr]
  have HW1 : Hid (NwR w W1 r 0 0 (.slice none 0 0) (.slice none 0 0) []) := by
    have hh : W1.heap[r]? = some (.cells #[.slice none 0 0, .slice none 0 0, .int .i64 (-1), .bool false] 49) := by rw [hW1, hr]; exact heap_alloc_new w _
    have hc : ∀ k v, [Value.slice none 0 0, .slice none 0 0, .int .i64 (-1), .bool false][k]? = some v → W1.cell? ⟨r, k, none⟩ = some v := fun k v hv => by
      unfold World.cell?
      simp only [hh]
      simpa using hv
    refine ⟨hr, (Array.getElem?_eq_some_iff.1 hh).1, hc 0 _ rfl, hc 1 _ rfl, hc 2 _ rfl, hc 3 _ rfl, fun k _ => ?_, World.ownsRow_nil _ _ _ _, World.ownsRow_nil _ _ _ _, fun g hg => (by cases hg), fun k hk => absurd hk (Nat.not_lt_zero k), by rw [hW1]; exact K.alloc (Below.refl _ _) _⟩
    unfold World.frozen?
    simp only [hh]
    simp
  clear hW1 hr
  go_wp2_with fail
  go_loopg [4] n (fun g' s4 wr => ∃ i : Nat, g' = n - i ∧ i ≤ n ∧ s4 = .int .i64 (i : Int) ∧ NwS w wr r i)
  case atStart => exact ⟨0, rfl, Nat.zero_le _, rfl, _, _, _, HW1.out⟩
  case round =>
    obtain ⟨i, rfl, hp, rfl, vl, vn, cs, hNr⟩ := hrel
    have HNr := hide hNr
    clear hNr
    by_cases hlt : i < n
    · have hlt' : (i : Int) < (n : Int) := by omega
      have hn4 := HN.out
      have HN4 := hide (HNr.out.grow (K.drew (Below.refl _ wr)))
      have hw : wrap64 ((i : Int) + 1) = ((i + 1 : Nat) : Int) := by unfold wrap64; omega
      go_upto_region 5 with fail
      refine wp_region_noPanic ?_
      refine wp_region_held_drew (S := fun _ => True) (by kernel_rfl) trivial (fun hS0 => ?_)
      refine wpAnyH_take (i := 0) (v := pp r) rfl (by kernel_rfl) (by kernel_rfl) (by kernel_rfl) (fun _ _ _ h => h) (Or.inl ⟨by rfl, fun w' _ => by go_simp⟩) hS0 ?_
      simp only [Act.put, List.getElem_toArray, List.getElem_cons_zero, List.setIfInBounds_toArray, List.set_cons_zero, List.set_cons_succ]
      refine wpAnyH_take (i := 1) (v := pp r) rfl (by kernel_rfl) (by kernel_rfl) (by kernel_rfl) (fun _ _ _ h => h) (Or.inl ⟨by rfl, fun w' _ => by go_simp⟩) hS0 ?_
      simp only [Act.put, List.getElem_toArray, List.getElem_cons_zero, List.getElem_cons_succ, List.setIfInBounds_toArray, List.set_cons_zero, List.set_cons_succ]
      refine wpAnyH_take (i := 2) (v := pp r) rfl (by kernel_rfl) (by kernel_rfl) (by kernel_rfl) (fun _ _ _ h => h) (Or.inl ⟨by rfl, fun w' _ => by go_simp⟩) hS0 ?_
      simp only [Act.put, List.getElem_toArray, List.getElem_cons_zero, List.getElem_cons_succ, List.setIfInBounds_toArray, List.set_cons_zero, List.set_cons_succ]
      refine wpAnyH_take (i := 3) (v := pp r) rfl (by kernel_rfl) (by kernel_rfl) (by kernel_rfl) (fun _ _ _ h => h) (Or.inl ⟨by rfl, fun w' _ => by go_simp⟩) hS0 ?_
      simp only [Act.put, List.getElem_toArray, List.getElem_cons_zero, List.getElem_cons_succ, List.setIfInBounds_toArray, List.set_cons_zero, List.set_cons_succ]
      refine wpAnyH_ready (rs := [4, 5]) (by kernel_rfl) (by simp) (AllReadyH.cons rfl (fun Kt hK => ?_) (AllReadyH.cons rfl (fun Kt hK => ?_) AllReadyH.nil))
      · refine wanted_pos rfl ?_
        refine wp_load2 rfl (by rfl) HN4.out.c0 (hK.out _ _ trivial (fun _ => ?_))
        clear hK Kt
        simp only [Act.put, List.getElem_toArray, List.getElem_cons_zero, List.getElem_cons_succ, List.setIfInBounds_toArray, List.set_cons_zero, List.set_cons_succ]
        refine wpAnyH_ready (rs := [5]) (by kernel_rfl) (by simp) (AllReadyH.cons rfl (fun Kt hK => ?_) AllReadyH.nil)
        refine wanted_pos rfl ?_
        refine wp_mk64 _ _ rfl (by rfl) (by rfl) (hK.out _ _ trivial (fun _ => ?_))
        clear hK Kt
        simp only [Act.put, List.getElem_toArray, List.getElem_cons_zero, List.getElem_cons_succ, List.setIfInBounds_toArray, List.set_cons_zero, List.set_cons_succ]
        refine wpAnyH_ready (rs := [6]) (by kernel_rfl) (by simp) (AllReadyH.cons rfl (fun Kt hK => ?_) AllReadyH.nil)
        refine wanted_pos rfl ?_
        refine wp_build1 rfl (by rfl) (hK.out _ _ trivial (fun _ => ?_))
        clear hK Kt
        simp only [Act.put, List.getElem_toArray, List.getElem_cons_zero, List.getElem_cons_succ, List.setIfInBounds_toArray, List.set_cons_zero, List.set_cons_succ]
        refine wpAnyH_ready (rs := [7]) (by kernel_rfl) (by simp) (AllReadyH.cons rfl (fun Kt hK => ?_) AllReadyH.nil)
        refine wanted_pos rfl ?_
        have HNc := hide ((HNr.out.grow (K.alloc (K.drew (Below.refl _ wr)) o64)).grow (K.alloc (Below.refl _ (wr.drew.alloc o64)) (.cells #[.slice (some ⟨wr.heap.size, 0, none⟩) 64 64] 38)))
        refine wp_app1 (e := .slice (some ⟨wr.heap.size, 0, none⟩) 64 64) (q := (wr.drew.alloc o64).heap.size) (n := i) (xs := cs) _ _ rfl (by rfl) HNc.out.o (by rfl) (by simp [go_sem]) rfl (by omega) (Nat.succ_le_of_lt HNc.out.lt) (fun vl' W3 ho hG hat => ?_)
        have HN3 := hide (HNc.out.add1 (g := wr.heap.size) (fun j v hv => later (K.alloc (Below.refl _ (wr.drew.alloc o64)) _) (r64 wr.drew j v hv)) HNr.out.lt (by have : wr.drew.heap.size = wr.heap.size := rfl; simp; omega) (fun e => by have := (HNr.out.o.lt _ e).2; omega) (fun e => by have := (HNr.out.p.lt _ e).2; omega) ho hG hat)
        have hc3 : W3.cell? ⟨r, 0, none⟩ = some vl := HNc.out.at1 hG 0 _ HNc.out.c0
        have hz3 : W3.frozen? ⟨r, 0, none⟩ = false := HNc.out.at1z hG 0 (by omega)
        obtain ⟨lq, lc, rfl, _⟩ := own_form ho (by omega)
        clear ho hG hat
        refine hK.out _ _ trivial (fun _ => ?_)
        clear hK Kt
        simp only [Act.put, List.getElem_toArray, List.getElem_cons_zero, List.getElem_cons_succ, List.setIfInBounds_toArray, List.set_cons_zero, List.set_cons_succ]
        refine wpAnyH_take (i := 8) (v := pp r) rfl (by kernel_rfl) (by kernel_rfl) (by kernel_rfl) (fun _ _ _ h => h) (Or.inl ⟨by rfl, fun w' _ => by go_simp⟩) trivial ?_
        simp only [Act.put, List.getElem_toArray, List.getElem_cons_zero, List.getElem_cons_succ, List.setIfInBounds_toArray, List.set_cons_zero, List.set_cons_succ]
        refine wpAnyH_take (i := 9) (v := pp r) rfl (by kernel_rfl) (by kernel_rfl) (by kernel_rfl) (fun _ _ _ h => h) (Or.inl ⟨by rfl, fun w' _ => by go_simp⟩) trivial ?_
        simp only [Act.put, List.getElem_toArray, List.getElem_cons_zero, List.getElem_cons_succ, List.setIfInBounds_toArray, List.set_cons_zero, List.set_cons_succ]
        refine wpAnyH_ready (rs := [10]) (by kernel_rfl) (by simp) (AllReadyH.cons rfl (fun Kt hK => ?_) AllReadyH.nil)
        refine wanted_pos rfl ?_
        refine wp_store2 rfl (by rfl) (by rfl) hc3 hz3 (hK.out _ _ trivial (fun _ => ?_))
        clear hK Kt
        refine wpAnyH_done (by kernel_rfl) ?_ _
        refine NoPanic.normal ?_
        simp only [Act.put, List.getElem_toArray, List.getElem_cons_zero, List.getElem_cons_succ]
        clear hS0 HNc hc3 hz3 HN4
        generalize W3.setCell ⟨r, 0, none⟩ (.slice (some ⟨lq, 0, none⟩) (i + 1) lc) = W5 at HN3 ⊢
        have d1 := HN3.out.c1
        have HN5 := hide (HN3.out.grow (K.alloc (Below.refl _ W5) (.cells #[.slice none 0 0] 38)))
        go_wp2_with (refine wpList_app1 (e := .slice none 0 0) (q := W5.heap.size) (n := i) (xs := List.replicate i (.slice none 0 0)) rfl _ _ rfl (by rfl) HN5.out.p (by rfl) (by simp [go_sem]) rfl (by omega) (by have := HN5.out.lt; omega) ?_; intro vn' W6 ho hG hat; have HN6 := hide (HN5.out.add2 ho hG hat); have hc6 := HN5.out.at2 hG 1 _ HN5.out.c1; have hz6 := HN5.out.at2z hG 1 (by omega); obtain ⟨nq, nc, rfl, hx⟩ := own_form ho (by omega); clear ho hG hat hx)
        go_roundg (n - (i + 1))
        case measure => omega
        case rel => exact ⟨i + 1, rfl, hlt, by simp, _, _, _, HN6.out⟩
      · refine wanted_pos rfl ?_
        refine wp_mk64 _ _ rfl (by rfl) (by rfl) (hK.out _ _ trivial (fun _ => ?_))
        clear hK Kt
        simp only [Act.put, List.getElem_toArray, List.getElem_cons_zero, List.getElem_cons_succ, List.setIfInBounds_toArray, List.set_cons_zero, List.set_cons_succ]
        refine wpAnyH_ready (rs := [4, 6]) (by kernel_rfl) (by simp) (AllReadyH.cons rfl (fun Kt hK => ?_) (AllReadyH.cons rfl (fun Kt hK => ?_) AllReadyH.nil))
        · refine wanted_pos rfl ?_
          refine wp_load2 rfl (by rfl) (later (K.alloc (Below.refl _ wr.drew) o64) HN4.out.c0) (hK.out _ _ trivial (fun _ => ?_))
          clear hK Kt
          simp only [Act.put, List.getElem_toArray, List.getElem_cons_zero, List.getElem_cons_succ, List.setIfInBounds_toArray, List.set_cons_zero, List.set_cons_succ]
          refine wpAnyH_ready (rs := [6]) (by kernel_rfl) (by simp) (AllReadyH.cons rfl (fun Kt hK => ?_) AllReadyH.nil)
          refine wanted_pos rfl ?_
          refine wp_build1 rfl (by rfl) (hK.out _ _ trivial (fun _ => ?_))
          clear hK Kt
          simp only [Act.put, List.getElem_toArray, List.getElem_cons_zero, List.getElem_cons_succ, List.setIfInBounds_toArray, List.set_cons_zero, List.set_cons_succ]
          refine wpAnyH_ready (rs := [7]) (by kernel_rfl) (by simp) (AllReadyH.cons rfl (fun Kt hK => ?_) AllReadyH.nil)
          refine wanted_pos rfl ?_
          have HNc := hide ((HNr.out.grow (K.alloc (K.drew (Below.refl _ wr)) o64)).grow (K.alloc (Below.refl _ (wr.drew.alloc o64)) (.cells #[.slice (some ⟨wr.heap.size, 0, none⟩) 64 64] 38)))
          refine wp_app1 (e := .slice (some ⟨wr.heap.size, 0, none⟩) 64 64) (q := (wr.drew.alloc o64).heap.size) (n := i) (xs := cs) _ _ rfl (by rfl) HNc.out.o (by rfl) (by simp [go_sem]) rfl (by omega) (Nat.succ_le_of_lt HNc.out.lt) (fun vl' W3 ho hG hat => ?_)
          have HN3 := hide (HNc.out.add1 (g := wr.heap.size) (fun j v hv => later (K.alloc (Below.refl _ (wr.drew.alloc o64)) _) (r64 wr.drew j v hv)) HNr.out.lt (by have : wr.drew.heap.size = wr.heap.size := rfl; simp; omega) (fun e => by have := (HNr.out.o.lt _ e).2; omega) (fun e => by have := (HNr.out.p.lt _ e).2; omega) ho hG hat)
          have hc3 : W3.cell? ⟨r, 0, none⟩ = some vl := HNc.out.at1 hG 0 _ HNc.out.c0
          have hz3 : W3.frozen? ⟨r, 0, none⟩ = false := HNc.out.at1z hG 0 (by omega)
          obtain ⟨lq, lc, rfl, _⟩ := own_form ho (by omega)
          clear ho hG hat
          refine hK.out _ _ trivial (fun _ => ?_)
          clear hK Kt
          simp only [Act.put, List.getElem_toArray, List.getElem_cons_zero, List.getElem_cons_succ, List.setIfInBounds_toArray, List.set_cons_zero, List.set_cons_succ]
          refine wpAnyH_take (i := 8) (v := pp r) rfl (by kernel_rfl) (by kernel_rfl) (by kernel_rfl) (fun _ _ _ h => h) (Or.inl ⟨by rfl, fun w' _ => by go_simp⟩) trivial ?_
          simp only [Act.put, List.getElem_toArray, List.getElem_cons_zero, List.getElem_cons_succ, List.setIfInBounds_toArray, List.set_cons_zero, List.set_cons_succ]
          refine wpAnyH_take (i := 9) (v := pp r) rfl (by kernel_rfl) (by kernel_rfl) (by kernel_rfl) (fun _ _ _ h => h) (Or.inl ⟨by rfl, fun w' _ => by go_simp⟩) trivial ?_
          simp only [Act.put, List.getElem_toArray, List.getElem_cons_zero, List.getElem_cons_succ, List.setIfInBounds_toArray, List.set_cons_zero, List.set_cons_succ]
          refine wpAnyH_ready (rs := [10]) (by kernel_rfl) (by simp) (AllReadyH.cons rfl (fun Kt hK => ?_) AllReadyH.nil)
          refine wanted_pos rfl ?_
          refine wp_store2 rfl (by rfl) (by rfl) hc3 hz3 (hK.out _ _ trivial (fun _ => ?_))
          clear hK Kt
          refine wpAnyH_done (by kernel_rfl) ?_ _
          refine NoPanic.normal ?_
          simp only [Act.put, List.getElem_toArray, List.getElem_cons_zero, List.getElem_cons_succ]
          clear hS0 HNc hc3 hz3 HN4
          generalize W3.setCell ⟨r, 0, none⟩ (.slice (some ⟨lq, 0, none⟩) (i + 1) lc) = W5 at HN3 ⊢
          have d1 := HN3.out.c1
          have HN5 := hide (HN3.out.grow (K.alloc (Below.refl _ W5) (.cells #[.slice none 0 0] 38)))
          go_wp2_with (refine wpList_app1 (e := .slice none 0 0) (q := W5.heap.size) (n := i) (xs := List.replicate i (.slice none 0 0)) rfl _ _ rfl (by rfl) HN5.out.p (by rfl) (by simp [go_sem]) rfl (by omega) (by have := HN5.out.lt; omega) ?_; intro vn' W6 ho hG hat; have HN6 := hide (HN5.out.add2 ho hG hat); have hc6 := HN5.out.at2 hG 1 _ HN5.out.c1; have hz6 := HN5.out.at2z hG 1 (by omega); obtain ⟨nq, nc, rfl, hx⟩ := own_form ho (by omega); clear ho hG hat hx)
          go_roundg (n - (i + 1))
          case measure => omega
          case rel => exact ⟨i + 1, rfl, hlt, by simp, _, _, _, HN6.out⟩
        · refine wanted_pos rfl ?_
          refine wp_build1 rfl (by rfl) (hK.out _ _ trivial (fun _ => ?_))
          clear hK Kt
          simp only [Act.put, List.getElem_toArray, List.getElem_cons_zero, List.getElem_cons_succ, List.setIfInBounds_toArray, List.set_cons_zero, List.set_cons_succ]
          refine wpAnyH_ready (rs := [4]) (by kernel_rfl) (by simp) (AllReadyH.cons rfl (fun Kt hK => ?_) AllReadyH.nil)
          refine wanted_pos rfl ?_
          refine wp_load2 rfl (by rfl) (later (K.alloc (Below.refl _ (wr.drew.alloc o64)) _) (later (K.alloc (Below.refl _ wr.drew) o64) HN4.out.c0)) (hK.out _ _ trivial (fun _ => ?_))
          clear hK Kt
          simp only [Act.put, List.getElem_toArray, List.getElem_cons_zero, List.getElem_cons_succ, List.setIfInBounds_toArray, List.set_cons_zero, List.set_cons_succ]
          refine wpAnyH_ready (rs := [7]) (by kernel_rfl) (by simp) (AllReadyH.cons rfl (fun Kt hK => ?_) AllReadyH.nil)
          refine wanted_pos rfl ?_
          have HNc := hide ((HNr.out.grow (K.alloc (K.drew (Below.refl _ wr)) o64)).grow (K.alloc (Below.refl _ (wr.drew.alloc o64)) (.cells #[.slice (some ⟨wr.heap.size, 0, none⟩) 64 64] 38)))
          refine wp_app1 (e := .slice (some ⟨wr.heap.size, 0, none⟩) 64 64) (q := (wr.drew.alloc o64).heap.size) (n := i) (xs := cs) _ _ rfl (by rfl) HNc.out.o (by rfl) (by simp [go_sem]) rfl (by omega) (Nat.succ_le_of_lt HNc.out.lt) (fun vl' W3 ho hG hat => ?_)
          have HN3 := hide (HNc.out.add1 (g := wr.heap.size) (fun j v hv => later (K.alloc (Below.refl _ (wr.drew.alloc o64)) _) (r64 wr.drew j v hv)) HNr.out.lt (by have : wr.drew.heap.size = wr.heap.size := rfl; simp; omega) (fun e => by have := (HNr.out.o.lt _ e).2; omega) (fun e => by have := (HNr.out.p.lt _ e).2; omega) ho hG hat)
          have hc3 : W3.cell? ⟨r, 0, none⟩ = some vl := HNc.out.at1 hG 0 _ HNc.out.c0
          have hz3 : W3.frozen? ⟨r, 0, none⟩ = false := HNc.out.at1z hG 0 (by omega)
          obtain ⟨lq, lc, rfl, _⟩ := own_form ho (by omega)
          clear ho hG hat
          refine hK.out _ _ trivial (fun _ => ?_)
          clear hK Kt
          simp only [Act.put, List.getElem_toArray, List.getElem_cons_zero, List.getElem_cons_succ, List.setIfInBounds_toArray, List.set_cons_zero, List.set_cons_succ]
          refine wpAnyH_take (i := 8) (v := pp r) rfl (by kernel_rfl) (by kernel_rfl) (by kernel_rfl) (fun _ _ _ h => h) (Or.inl ⟨by rfl, fun w' _ => by go_simp⟩) trivial ?_
          simp only [Act.put, List.getElem_toArray, List.getElem_cons_zero, List.getElem_cons_succ, List.setIfInBounds_toArray, List.set_cons_zero, List.set_cons_succ]
          refine wpAnyH_take (i := 9) (v := pp r) rfl (by kernel_rfl) (by kernel_rfl) (by kernel_rfl) (fun _ _ _ h => h) (Or.inl ⟨by rfl, fun w' _ => by go_simp⟩) trivial ?_
          simp only [Act.put, List.getElem_toArray, List.getElem_cons_zero, List.getElem_cons_succ, List.setIfInBounds_toArray, List.set_cons_zero, List.set_cons_succ]
          refine wpAnyH_ready (rs := [10]) (by kernel_rfl) (by simp) (AllReadyH.cons rfl (fun Kt hK => ?_) AllReadyH.nil)
          refine wanted_pos rfl ?_
          refine wp_store2 rfl (by rfl) (by rfl) hc3 hz3 (hK.out _ _ trivial (fun _ => ?_))
          clear hK Kt
          refine wpAnyH_done (by kernel_rfl) ?_ _
          refine NoPanic.normal ?_
          simp only [Act.put, List.getElem_toArray, List.getElem_cons_zero, List.getElem_cons_succ]
          clear hS0 HNc hc3 hz3 HN4
          generalize W3.setCell ⟨r, 0, none⟩ (.slice (some ⟨lq, 0, none⟩) (i + 1) lc) = W5 at HN3 ⊢
          have d1 := HN3.out.c1
          have HN5 := hide (HN3.out.grow (K.alloc (Below.refl _ W5) (.cells #[.slice none 0 0] 38)))
          go_wp2_with (refine wpList_app1 (e := .slice none 0 0) (q := W5.heap.size) (n := i) (xs := List.replicate i (.slice none 0 0)) rfl _ _ rfl (by rfl) HN5.out.p (by rfl) (by simp [go_sem]) rfl (by omega) (by have := HN5.out.lt; omega) ?_; intro vn' W6 ho hG hat; have HN6 := hide (HN5.out.add2 ho hG hat); have hc6 := HN5.out.at2 hG 1 _ HN5.out.c1; have hz6 := HN5.out.at2z hG 1 (by omega); obtain ⟨nq, nc, rfl, hx⟩ := own_form ho (by omega); clear ho hG hat hx)
          go_roundg (n - (i + 1))
          case measure => omega
          case rel => exact ⟨i + 1, rfl, hlt, by simp, _, _, _, HN6.out⟩
    · obtain rfl : i = n := by omega
      go_wp2_with fail
      go_ret
      exact HNr.out.done HN.out
end Go.Proofs.Ytjgpopjpmfkfmaa
