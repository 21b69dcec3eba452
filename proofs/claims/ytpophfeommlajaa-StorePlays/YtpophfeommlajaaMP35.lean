/- Layer 13: the document's New. Layer 15, pure: what is kept behind crashes. (Made ahead.) Layer 15, pure: where a parse fails. (Made ahead.) -/
import Derived.Test.YtpophfeommlajaaMP34
import Derived.Test.YtpophfeommlajaaMP33
namespace Go.Proofs.Ytpophfeommlajaa
set_option maxRecDepth 100000
open Go.RowKit Go.Maps
attribute [local go_sem ↓] Go.wp_at_zero Go.wp_at_succ

section
variable {op : Oper} {a : Act} {w : World} {Kt : Act → World → Prop} {Q : Exit → Act → World → Prop}
theorem wp_store2 {x y : Operand} {g o m c : Nat} {p : Option Addr} {u : Value} (ho : op.op = .store 47 x y) (hx : a.eval x = .pointer (some ⟨g, o, none⟩)) (hy : a.eval y = .slice p m c)
    (hc : w.cell? ⟨g, o, none⟩ = some u) (hz : w.frozen? ⟨g, o, none⟩ = false) (h : Kt (a.put op.dst undef) (w.setCell ⟨g, o, none⟩ (.slice p m c))) : Oper.wp Try.prog op a w Kt Q := by
  unfold Oper.wp execOp
  simp only [ho, hx, hy]
  go_simp
  exact h
theorem wp_load2 {x : Operand} {g o : Nat} {v : Value} (ho : op.op = .load 47 x) (hx : a.eval x = .pointer (some ⟨g, o, none⟩))
    (hc : w.cell? ⟨g, o, none⟩ = some v) (h : Kt (a.put op.dst v) w) : Oper.wp Try.prog op a w Kt Q := by
  unfold Oper.wp execOp
  simp only [ho, hx]
  go_simp
  exact h
theorem wp_build1 {t : Nat} {g : Nat} (ho : op.op = .buildSlice 47 1 #[(0, .tmp t)]) (hx : a.eval (.tmp t) = .slice (some ⟨g, 0, none⟩) 64 64)
    (h : Kt (a.put op.dst (.slice (some ⟨w.heap.size, 0, none⟩) 1 1)) (w.alloc (.cells #[.slice (some ⟨g, 0, none⟩) 64 64] 38))) : Oper.wp Try.prog op a w Kt Q := by
  have hx' : a.tmps[t]?.getD undef = .slice (some ⟨g, 0, none⟩) 64 64 := by simpa [Act.eval] using hx
  unfold Oper.wp execOp
  simp only [ho]
  go_simp
  exact h
theorem wp_app1 (s x : Operand) (hop : op.op = .call { callee := .builtin .append, args := #[s, x], argTypes := #[47, 47] })
    {base : Nat} {v : Value} {n : Nat} {xs : List Value} (hs : a.eval s = v) (hown : w.ownsRow base 38 1 v n xs) {q : Nat} (hx : a.eval x = .slice (some ⟨q, 0, none⟩) 1 1) {e : Value} (he : w.cell? ⟨q, 0, none⟩ = some e) (h1 : e.oneCell' = true) (hb : n ≤ 100000) (hbase : base ≤ w.heap.size)
    (hK : ∀ v' w', w'.ownsRow base 38 1 v' (n + 1) (xs ++ [e]) → w.grownBy w' v.ownBlock → (v'.ownBlock = v.ownBlock ∨ v'.ownBlock = some w.heap.size) → Kt (a.put op.dst v') w') : Oper.wp Try.prog op a w Kt Q := by
  obtain ⟨v', w', hr, h2, h3, h4⟩ := run_app1 hown he h1 hb hbase op.type
  unfold Oper.wp execOp
  simp only [hop, resolve, invoke, builtin, Sem.run_bind, Sem.run_pure, Result.andThen_ok, List.map_toArray, List.map_cons, List.map_nil, hs, hx, hr]
  exact hK v' w' h2 h3 h4
end
theorem r64 (w : World) : (w.alloc o64).rangeAt w.heap.size 0 (cells8 z64) := by
  rcases (ba64 w).at_ with h | ⟨b, o, e, hr⟩
  · cases h
  · cases e
    intro j u hu
    have hj : j < 64 := by
      have := (List.getElem?_eq_some_iff.1 hu).1
      rwa [cells8_len' z64_sec] at this
    rw [cells8_at _ j (by rw [z64_sec.1]; exact hj)] at hu
    have e0 : z64.getD j 0 = 0 := by
      rw [List.getD_eq_getElem?_getD, show z64 = List.replicate 64 0 from rfl, List.getElem?_replicate]
      simp [hj]
    rw [e0] at hu
    exact (hr.c j hj).trans hu
/-- While a disk is made. -/
structure NwR (w wr : World) (r i j : Nat) (vl vn : Value) (cs : List Value) : Prop where
  rr : r = w.heap.size
  lt : r < wr.heap.size
  c0 : wr.cell? ⟨r, 0, none⟩ = some vl
  c1 : wr.cell? ⟨r, 1, none⟩ = some vn
  c2 : wr.cell? ⟨r, 2, none⟩ = some (.int .i64 (-1))
  c3 : wr.cell? ⟨r, 3, none⟩ = some (.bool false)
  z : ∀ k, k < 4 → wr.frozen? ⟨r, k, none⟩ = false
  o : wr.ownsRow (r + 1) 38 1 vl i cs
  p : wr.ownsRow (r + 1) 38 1 vn j (List.replicate j (.slice none 0 0))
  ne : ∀ g, vl.ownBlock = some g → vn.ownBlock ≠ some g
  e : ∀ k, k < i → ∃ g, cs[k]? = some (.slice (some ⟨g, 0, none⟩) 64 64) ∧ wr.rangeAt g 0 (cells8 z64) ∧ r < g ∧ g < wr.heap.size ∧ vl.ownBlock ≠ some g ∧ vn.ownBlock ≠ some g
  k : Below w.heap.size w wr
section
variable {w wr w' : World} {r i j : Nat} {vl vn : Value} {cs : List Value}
theorem NwR.to (h : NwR w wr r i j vl vn cs) (hs : wr.heap.size ≤ w'.heap.size) (hb : ∀ k, r ≤ k → k < wr.heap.size → w'.heap[k]? = wr.heap[k]?) (hk : Below w.heap.size w w') : NwR w w' r i j vl vn cs := by
  have e1 := hb r (Nat.le_refl _) h.lt
  refine ⟨h.rr, Nat.lt_of_lt_of_le h.lt hs, (World.cell?_of_block (w := wr) e1).trans h.c0, (World.cell?_of_block (w := wr) e1).trans h.c1, (World.cell?_of_block (w := wr) e1).trans h.c2, (World.cell?_of_block (w := wr) e1).trans h.c3, fun k hk => (World.frozen?_of_block (w := wr) e1).trans (h.z k hk), own_block h.o (fun g hg => hb g (by have := (h.o.lt g hg).1; omega) (h.o.lt g hg).2), own_block h.p (fun g hg => hb g (by have := (h.p.lt g hg).1; omega) (h.p.lt g hg).2), h.ne, fun k hk => ?_, hk⟩
  obtain ⟨g, h1, h2, h3, h4, h5⟩ := h.e k hk
  exact ⟨g, h1, fun q u hu => (World.cell?_of_block (w := wr) (hb g (by omega) h4)).trans (h2 q u hu), h3, Nat.lt_of_lt_of_le h4 hs, h5⟩
theorem NwR.grow (h : NwR w wr r i j vl vn cs) (hB : Below wr.heap.size wr w') : NwR w w' r i j vl vn cs := h.to hB.size (fun k _ hk => hB.block k hk) (K.call h.k hB)
theorem NwR.at1 (h : NwR w wr r i j vl vn cs) (hG : wr.grownBy w' vl.ownBlock) (o : Nat) (v : Value) (hv : wr.cell? ⟨r, o, none⟩ = some v) : w'.cell? ⟨r, o, none⟩ = some v :=
  (World.cell?_of_block (w := wr) (hG.block r h.lt (fun e => by have := (h.o.lt r e.symm).1; omega))).trans hv
theorem NwR.at1z (h : NwR w wr r i j vl vn cs) (hG : wr.grownBy w' vl.ownBlock) (o : Nat) (ho : o < 4) : w'.frozen? ⟨r, o, none⟩ = false :=
  (World.frozen?_of_block (w := wr) (hG.block r h.lt (fun e => by have := (h.o.lt r e.symm).1; omega))).trans (h.z o ho)
theorem NwR.at2 (h : NwR w wr r i j vl vn cs) (hG : wr.grownBy w' vn.ownBlock) (o : Nat) (v : Value) (hv : wr.cell? ⟨r, o, none⟩ = some v) : w'.cell? ⟨r, o, none⟩ = some v :=
  (World.cell?_of_block (w := wr) (hG.block r h.lt (fun e => by have := (h.p.lt r e.symm).1; omega))).trans hv
theorem NwR.at2z (h : NwR w wr r i j vl vn cs) (hG : wr.grownBy w' vn.ownBlock) (o : Nat) (ho : o < 4) : w'.frozen? ⟨r, o, none⟩ = false :=
  (World.frozen?_of_block (w := wr) (hG.block r h.lt (fun e => by have := (h.p.lt r e.symm).1; omega))).trans (h.z o ho)
theorem NwR.add1 (h : NwR w wr r i j vl vn cs) {g : Nat} (hr : wr.rangeAt g 0 (cells8 z64)) (hg : r < g) (hgl : g < wr.heap.size) (hn1 : vl.ownBlock ≠ some g) (hn2 : vn.ownBlock ≠ some g)
    {vl' : Value} (ho : w'.ownsRow (r + 1) 38 1 vl' (i + 1) (cs ++ [.slice (some ⟨g, 0, none⟩) 64 64])) (hG : wr.grownBy w' vl.ownBlock) (hat : vl'.ownBlock = vl.ownBlock ∨ vl'.ownBlock = some wr.heap.size) :
    NwR w (w'.setCell ⟨r, 0, none⟩ vl') r (i + 1) j vl' vn (cs ++ [.slice (some ⟨g, 0, none⟩) 64 64]) := by
  have hl : cs.length = i := by have := h.o.1; omega
  have hb : ∀ k, k ≠ r → k < wr.heap.size → vl.ownBlock ≠ some k → (w'.setCell ⟨r, 0, none⟩ vl').heap[k]? = wr.heap[k]? := fun k h1 h2 h3 => (Below.heap_setCell _ _ _ _ h1).trans (hG.block k h2 (fun e => h3 e.symm))
  have new : ∀ k, k < wr.heap.size → vl.ownBlock ≠ some k → vl'.ownBlock ≠ some k := fun k hk hn e => by
    rcases hat with e2 | e2
    · exact hn (e2.symm.trans e)
    · rw [e2] at e; have := Option.some.inj e; omega
  have hsz : (w'.setCell ⟨r, 0, none⟩ vl').heap.size = w'.heap.size := by simp
  refine ⟨h.rr, by rw [hsz]; exact Nat.lt_of_lt_of_le h.lt hG.size, World.cell?_setCell_same _ _ _ (h.at1 hG 0 _ h.c0), (World.cell?_setCell_other _ _ _ _ (by simp)).trans (h.at1 hG 1 _ h.c1), (World.cell?_setCell_other _ _ _ _ (by simp)).trans (h.at1 hG 2 _ h.c2), (World.cell?_setCell_other _ _ _ _ (by simp)).trans (h.at1 hG 3 _ h.c3), fun k hk => (World.frozen?_setCell _ _ _ _).trans (h.at1z hG k hk),
    own_block ho (fun q hq => Below.heap_setCell _ _ _ _ (by have := (ho.lt q hq).1; intro e; have e2 : q = r := e; omega)), own_block h.p (fun q hq => hb q (by have := (h.p.lt q hq).1; omega) (h.p.lt q hq).2 (fun e => h.ne q e hq)), fun q hq e => ?_, fun k hk => ?_, ⟨hG.os.trans h.k.os, hG.tape.trans h.k.tape, hG.output.trans h.k.output, by rw [hsz]; exact Nat.le_trans h.k.size hG.size, fun k hk => (hb k (by have := h.rr; omega) (Nat.lt_of_lt_of_le hk h.k.size) (fun e => by have := (h.o.lt k e).1; have := h.rr; omega)).trans (h.k.block k hk)⟩⟩
  · exact new q (h.p.lt q e).2 (fun e2 => h.ne q e2 e) hq
  · by_cases e : k < i
    · obtain ⟨q, h1, h2, h3, h4, h5, h6⟩ := h.e k e
      exact ⟨q, by rw [List.getElem?_append_left (by omega)]; exact h1, fun x u hu => (World.cell?_of_block (w := wr) (hb q (by omega) h4 h5)).trans (h2 x u hu), h3, by rw [hsz]; exact Nat.lt_of_lt_of_le h4 hG.size, new q h4 h5, h6⟩
    · obtain rfl : k = i := by omega
      exact ⟨g, by rw [List.getElem?_append_right (by omega), hl, Nat.sub_self]; rfl, fun x u hu => (World.cell?_of_block (w := wr) (hb g (by omega) hgl hn1)).trans (hr x u hu), by omega, by rw [hsz]; exact Nat.lt_of_lt_of_le hgl hG.size, new g hgl hn1, hn2⟩
theorem NwR.add2 (h : NwR w wr r i j vl vn cs) {vn' : Value} (ho : w'.ownsRow (r + 1) 38 1 vn' (j + 1) (List.replicate j (.slice none 0 0) ++ [.slice none 0 0])) (hG : wr.grownBy w' vn.ownBlock) (hat : vn'.ownBlock = vn.ownBlock ∨ vn'.ownBlock = some wr.heap.size) :
    NwR w (w'.setCell ⟨r, 1, none⟩ vn') r i (j + 1) vl vn' cs := by
  have hb : ∀ k, k ≠ r → k < wr.heap.size → vn.ownBlock ≠ some k → (w'.setCell ⟨r, 1, none⟩ vn').heap[k]? = wr.heap[k]? := fun k h1 h2 h3 => (Below.heap_setCell _ _ _ _ h1).trans (hG.block k h2 (fun e => h3 e.symm))
  have new : ∀ k, k < wr.heap.size → vn.ownBlock ≠ some k → vn'.ownBlock ≠ some k := fun k hk hn e => by
    rcases hat with e2 | e2
    · exact hn (e2.symm.trans e)
    · rw [e2] at e; have := Option.some.inj e; omega
  have hsz : (w'.setCell ⟨r, 1, none⟩ vn').heap.size = w'.heap.size := by simp
  rw [← List.replicate_succ'] at ho
  refine ⟨h.rr, by rw [hsz]; exact Nat.lt_of_lt_of_le h.lt hG.size, (World.cell?_setCell_other _ _ _ _ (by simp)).trans (h.at2 hG 0 _ h.c0), World.cell?_setCell_same _ _ _ (h.at2 hG 1 _ h.c1), (World.cell?_setCell_other _ _ _ _ (by simp)).trans (h.at2 hG 2 _ h.c2), (World.cell?_setCell_other _ _ _ _ (by simp)).trans (h.at2 hG 3 _ h.c3), fun k hk => (World.frozen?_setCell _ _ _ _).trans (h.at2z hG k hk),
    own_block h.o (fun q hq => hb q (by have := (h.o.lt q hq).1; omega) (h.o.lt q hq).2 (h.ne q hq)), own_block ho (fun q hq => Below.heap_setCell _ _ _ _ (by have := (ho.lt q hq).1; intro e; have e2 : q = r := e; omega)), fun q hq => new q (h.o.lt q hq).2 (h.ne q hq), fun k hk => ?_, ⟨hG.os.trans h.k.os, hG.tape.trans h.k.tape, hG.output.trans h.k.output, by rw [hsz]; exact Nat.le_trans h.k.size hG.size, fun k hk => (hb k (by have := h.rr; omega) (Nat.lt_of_lt_of_le hk h.k.size) (fun e => by have := (h.p.lt k e).1; have := h.rr; omega)).trans (h.k.block k hk)⟩⟩
  obtain ⟨q, h1, h2, h3, h4, h5, h6⟩ := h.e k hk
  exact ⟨q, h1, fun x u hu => (World.cell?_of_block (w := wr) (hb q (by omega) h4 h6)).trans (h2 x u hu), h3, by rw [hsz]; exact Nat.lt_of_lt_of_le h4 hG.size, h5, new q h4 h6⟩
theorem own_thaw {n base : Nat} {e : TypeId} {v : Value} {xs : List Value} (h : w.ownsRow base e 1 v n xs) {q cap : Nat} (hv : v = .slice (some ⟨q, 0, none⟩) n cap) (hn : 0 < n) (k : Nat) : w.frozen? ⟨q, k, none⟩ = false := by
  rcases h.2 with ⟨_, h0⟩ | ⟨g, cap, cur, rfl, _, hh, _⟩
  · omega
  · cases hv
    unfold World.frozen?
    simp only [hh]
    simp
/-- What the document's New answers. -/
def NwP (w : World) (n : Nat) (e : Ending) (w' : World) : Prop := ∃ r la na cl cn zl zn G, e = .returned (pp r) ∧ RDk w' r la na cl cn zl zn (.new n) G ∧ Below w.heap.size w w' ∧ ∀ k, G k = true → w.heap.size ≤ k
theorem NwR.done {n : Nat} (hn : n ≤ 4096) (h : NwR w wr r n n vl vn cs) : NwP w n (.returned (pp r)) wr := by
  have hr := h.rr
  have hlt := h.lt
  by_cases h0 : n = 0
  · subst h0
    have f1 : ∃ z c, vl = .slice z 0 c := by
      rcases h.o.2 with ⟨rfl, _⟩ | ⟨g, cap, cur, rfl, _⟩ <;> exact ⟨_, _, rfl⟩
    have f2 : ∃ z c, vn = .slice z 0 c := by
      rcases h.p.2 with ⟨rfl, _⟩ | ⟨g, cap, cur, rfl, _⟩ <;> exact ⟨_, _, rfl⟩
    obtain ⟨z1, k1, rfl⟩ := f1
    obtain ⟨z2, k2, rfl⟩ := f2
    refine ⟨r, r, r, k1, k2, z1, z2, fun k => decide (w.heap.size ≤ k ∧ k < wr.heap.size), rfl, ⟨h.c0, h.c1, h.c2, h.c3, h.z, fun h' => absurd h' (Nat.lt_irrefl 0), fun i hi => absurd hi (Nat.not_lt_zero i), fun i hi => absurd hi (Nat.not_lt_zero i), fun i hi => absurd hi (Nat.not_lt_zero i), fun i hi => absurd hi (Nat.not_lt_zero i), fun k hk => ?_, fun k hk => (of_decide_eq_true hk).2, DM.new_ok hn⟩, h.k, fun k hk => (of_decide_eq_true hk).1⟩
    have : k = r := by rcases X3_of.1 hk with e | e | e <;> exact e
    subst this
    exact decide_eq_true ⟨by omega, hlt⟩
  · have hpos : 0 < n := by omega
    obtain ⟨q1, k1, rfl, f1⟩ := own_form h.o hpos
    obtain ⟨q2, k2, rfl, f2⟩ := own_form h.p hpos
    have l1 := h.o.lt q1 rfl
    have l2 := h.p.lt q2 rfl
    refine ⟨r, q1, q2, k1, k2, _, _, fun k => decide (w.heap.size ≤ k ∧ k < wr.heap.size), rfl, ⟨h.c0, h.c1, h.c2, h.c3, h.z, fun _ => ⟨rfl, rfl, by omega, by omega, fun e => h.ne q1 rfl (by rw [e]; rfl)⟩, fun i hi => own_thaw h.o rfl hpos i, fun i hi => own_thaw h.p rfl hpos i, fun i hi => ?_, fun i hi => ?_, fun k hk => ?_, fun k hk => (of_decide_eq_true hk).2, DM.new_ok hn⟩, h.k, fun k hk => (of_decide_eq_true hk).1⟩
    · obtain ⟨g, g1, g2, g3, g4, g5, g6⟩ := h.e i hi
      refine ⟨_, (f1 i hi).trans g1, g, 64, rfl, g2, decide_eq_true ⟨by omega, g4⟩, ?_, Nat.le_refl _⟩
      cases hx : X3 r q1 q2 g with
      | false => rfl
      | true =>
        rcases X3_of.1 hx with e | e | e
        · omega
        · exact absurd (by rw [e]; rfl) g5
        · exact absurd (by rw [e]; rfl) g6
    · refine ⟨.slice none 0 0, (f2 i hi).trans ?_, Or.inl ⟨rfl, rfl⟩⟩
      have hi' : i < n := hi
      rw [List.getElem?_replicate, if_pos hi']
    · refine decide_eq_true ?_
      rcases X3_of.1 hk with e | e | e <;> omega
end
def NwS (w wr : World) (r i : Nat) : Prop := ∃ vl vn cs, NwR w wr r i i vl vn cs
set_option maxRecDepth 100000 in
set_option maxHeartbeats 8000000 in
theorem ref_new {n : Nat} (hn : n ≤ 4096) (w : World) : Calls Try.prog 7 #[.int .i64 (n : Int)] w (NwP w n) := by
  have HN := hide hn
  clear hn
  go_enter Try.func7, Try.ntmps7
  go_upto_region 2 with fail
  refine wp_let (fun W1 hW1 => ?_)
  obtain ⟨r, hr⟩ : ∃ r, r = w.heap.size := ⟨_, rfl⟩
  rw [← hr]
  have HW1 : Hid (NwR w W1 r 0 0 (.slice none 0 0) (.slice none 0 0) []) := by
    have hh : W1.heap[r]? = some (.cells #[.slice none 0 0, .slice none 0 0, .int .i64 (-1), .bool false] 49) := by rw [hW1, hr]; exact heap_alloc_new w _
    have hc : ∀ k v, [Value.slice none 0 0, .slice none 0 0, .int .i64 (-1), .bool false][k]? = some v → W1.cell? ⟨r, k, none⟩ = some v := fun k v hv => by
      unfold World.cell?
      simp only [hh]
      simpa using hv
    refine ⟨hr, (Array.getElem?_eq_some_iff.1 hh).1, hc 0 _ rfl, hc 1 _ rfl, hc 2 _ rfl, hc 3 _ rfl, fun k _ => ?_, World.ownsRow_nil _ _ _ _, World.ownsRow_nil _ _ _ _, fun g hg => (by cases hg), fun k hk => absurd hk (Nat.not_lt_zero k), by rw [hW1]; exact K.alloc (Below.refl _ _) _⟩
    unfold World.frozen?
    simp only [hh]
    simp
  clear hW1 hr
  go_wp2_with fail
  go_loopg [4] n (fun g' s4 wr => ∃ i : Nat, g' = n - i ∧ i ≤ n ∧ s4 = .int .i64 (i : Int) ∧ NwS w wr r i)
  case atStart => exact ⟨0, rfl, Nat.zero_le _, rfl, _, _, _, HW1.out⟩
  case round =>
    obtain ⟨i, rfl, hp, rfl, vl, vn, cs, hNr⟩ := hrel
    have HNr := hide hNr
    clear hNr
    by_cases hlt : i < n
    · have hlt' : (i : Int) < (n : Int) := by omega
      have hn4 := HN.out
      have HN4 := hide (HNr.out.grow (K.drew (Below.refl _ wr)))
      have hw : wrap64 ((i : Int) + 1) = ((i + 1 : Nat) : Int) := by unfold wrap64; omega
      go_upto_region 5 with fail
      refine wp_region_noPanic ?_
      refine wp_region_held_drew (S := fun _ => True) (by kernel_rfl) trivial (fun hS0 => ?_)
      refine wpAnyH_take (i := 0) (v := pp r) rfl (by kernel_rfl) (by kernel_rfl) (by kernel_rfl) (fun _ _ _ h => h) (Or.inl ⟨by rfl, fun w' _ => by go_simp⟩) hS0 ?_
      simp only [Act.put, List.getElem_toArray, List.getElem_cons_zero, List.setIfInBounds_toArray, List.set_cons_zero, List.set_cons_succ]
      refine wpAnyH_take (i := 1) (v := pp r) rfl (by kernel_rfl) (by kernel_rfl) (by kernel_rfl) (fun _ _ _ h => h) (Or.inl ⟨by rfl, fun w' _ => by go_simp⟩) hS0 ?_
      simp only [Act.put, List.getElem_toArray, List.getElem_cons_zero, List.getElem_cons_succ, List.setIfInBounds_toArray, List.set_cons_zero, List.set_cons_succ]
      refine wpAnyH_take (i := 2) (v := pp r) rfl (by kernel_rfl) (by kernel_rfl) (by kernel_rfl) (fun _ _ _ h => h) (Or.inl ⟨by rfl, fun w' _ => by go_simp⟩) hS0 ?_
      simp only [Act.put, List.getElem_toArray, List.getElem_cons_zero, List.getElem_cons_succ, List.setIfInBounds_toArray, List.set_cons_zero, List.set_cons_succ]
      refine wpAnyH_take (i := 3) (v := pp r) rfl (by kernel_rfl) (by kernel_rfl) (by kernel_rfl) (fun _ _ _ h => h) (Or.inl ⟨by rfl, fun w' _ => by go_simp⟩) hS0 ?_
      simp only [Act.put, List.getElem_toArray, List.getElem_cons_zero, List.getElem_cons_succ, List.setIfInBounds_toArray, List.set_cons_zero, List.set_cons_succ]
      refine wpAnyH_ready (rs := [4, 5]) (by kernel_rfl) (by simp) (AllReadyH.cons rfl (fun Kt hK => ?_) (AllReadyH.cons rfl (fun Kt hK => ?_) AllReadyH.nil))
      · refine wanted_pos rfl ?_
        refine wp_load2 rfl (by rfl) HN4.out.c0 (hK.out _ _ trivial (fun _ => ?_))
        clear hK Kt
        simp only [Act.put, List.getElem_toArray, List.getElem_cons_zero, List.getElem_cons_succ, List.setIfInBounds_toArray, List.set_cons_zero, List.set_cons_succ]
        refine wpAnyH_ready (rs := [5]) (by kernel_rfl) (by simp) (AllReadyH.cons rfl (fun Kt hK => ?_) AllReadyH.nil)
        refine wanted_pos rfl ?_
        refine wp_mk64 _ _ rfl (by rfl) (by rfl) (hK.out _ _ trivial (fun _ => ?_))
        clear hK Kt
        simp only [Act.put, List.getElem_toArray, List.getElem_cons_zero, List.getElem_cons_succ, List.setIfInBounds_toArray, List.set_cons_zero, List.set_cons_succ]
        refine wpAnyH_ready (rs := [6]) (by kernel_rfl) (by simp) (AllReadyH.cons rfl (fun Kt hK => ?_) AllReadyH.nil)
        refine wanted_pos rfl ?_
        refine wp_build1 rfl (by rfl) (hK.out _ _ trivial (fun _ => ?_))
        clear hK Kt
        simp only [Act.put, List.getElem_toArray, List.getElem_cons_zero, List.getElem_cons_succ, List.setIfInBounds_toArray, List.set_cons_zero, List.set_cons_succ]
        refine wpAnyH_ready (rs := [7]) (by kernel_rfl) (by simp) (AllReadyH.cons rfl (fun Kt hK => ?_) AllReadyH.nil)
        refine wanted_pos rfl ?_
        have HNc := hide ((HNr.out.grow (K.alloc (K.drew (Below.refl _ wr)) o64)).grow (K.alloc (Below.refl _ (wr.drew.alloc o64)) (.cells #[.slice (some ⟨wr.heap.size, 0, none⟩) 64 64] 38)))
        refine wp_app1 (e := .slice (some ⟨wr.heap.size, 0, none⟩) 64 64) (q := (wr.drew.alloc o64).heap.size) (n := i) (xs := cs) _ _ rfl (by rfl) HNc.out.o (by rfl) (by simp [go_sem]) rfl (by omega) (Nat.succ_le_of_lt HNc.out.lt) (fun vl' W3 ho hG hat => ?_)
        have HN3 := hide (HNc.out.add1 (g := wr.heap.size) (fun j v hv => later (K.alloc (Below.refl _ (wr.drew.alloc o64)) _) (r64 wr.drew j v hv)) HNr.out.lt (by have : wr.drew.heap.size = wr.heap.size := rfl; simp; omega) (fun e => by have := (HNr.out.o.lt _ e).2; omega) (fun e => by have := (HNr.out.p.lt _ e).2; omega) ho hG hat)
        have hc3 : W3.cell? ⟨r, 0, none⟩ = some vl := HNc.out.at1 hG 0 _ HNc.out.c0
        have hz3 : W3.frozen? ⟨r, 0, none⟩ = false := HNc.out.at1z hG 0 (by omega)
        obtain ⟨lq, lc, rfl, _⟩ := own_form ho (by omega)
        clear ho hG hat
        refine hK.out _ _ trivial (fun _ => ?_)
        clear hK Kt
        simp only [Act.put, List.getElem_toArray, List.getElem_cons_zero, List.getElem_cons_succ, List.setIfInBounds_toArray, List.set_cons_zero, List.set_cons_succ]
        refine wpAnyH_take (i := 8) (v := pp r) rfl (by kernel_rfl) (by kernel_rfl) (by kernel_rfl) (fun _ _ _ h => h) (Or.inl ⟨by rfl, fun w' _ => by go_simp⟩) trivial ?_
        simp only [Act.put, List.getElem_toArray, List.getElem_cons_zero, List.getElem_cons_succ, List.setIfInBounds_toArray, List.set_cons_zero, List.set_cons_succ]
        refine wpAnyH_take (i := 9) (v := pp r) rfl (by kernel_rfl) (by kernel_rfl) (by kernel_rfl) (fun _ _ _ h => h) (Or.inl ⟨by rfl, fun w' _ => by go_simp⟩) trivial ?_
        simp only [Act.put, List.getElem_toArray, List.getElem_cons_zero, List.getElem_cons_succ, List.setIfInBounds_toArray, List.set_cons_zero, List.set_cons_succ]
        refine wpAnyH_ready (rs := [10]) (by kernel_rfl) (by simp) (AllReadyH.cons rfl (fun Kt hK => ?_) AllReadyH.nil)
        refine wanted_pos rfl ?_
        refine wp_store2 rfl (by rfl) (by rfl) hc3 hz3 (hK.out _ _ trivial (fun _ => ?_))
        clear hK Kt
        refine wpAnyH_done (by kernel_rfl) ?_ _
        refine NoPanic.normal ?_
        simp only [Act.put, List.getElem_toArray, List.getElem_cons_zero, List.getElem_cons_succ]
        clear hS0 HNc hc3 hz3 HN4
        generalize W3.setCell ⟨r, 0, none⟩ (.slice (some ⟨lq, 0, none⟩) (i + 1) lc) = W5 at HN3 ⊢
        have d1 := HN3.out.c1
        have HN5 := hide (HN3.out.grow (K.alloc (Below.refl _ W5) (.cells #[.slice none 0 0] 38)))
        go_wp2_with (refine wpList_app1 (e := .slice none 0 0) (q := W5.heap.size) (n := i) (xs := List.replicate i (.slice none 0 0)) rfl _ _ rfl (by rfl) HN5.out.p (by rfl) (by simp [go_sem]) rfl (by omega) (by have := HN5.out.lt; omega) ?_; intro vn' W6 ho hG hat; have HN6 := hide (HN5.out.add2 ho hG hat); have hc6 := HN5.out.at2 hG 1 _ HN5.out.c1; have hz6 := HN5.out.at2z hG 1 (by omega); obtain ⟨nq, nc, rfl, hx⟩ := own_form ho (by omega); clear ho hG hat hx)
        go_roundg (n - (i + 1))
        case measure => omega
        case rel => exact ⟨i + 1, rfl, hlt, by simp, _, _, _, HN6.out⟩
      · refine wanted_pos rfl ?_
        refine wp_mk64 _ _ rfl (by rfl) (by rfl) (hK.out _ _ trivial (fun _ => ?_))
        clear hK Kt
        simp only [Act.put, List.getElem_toArray, List.getElem_cons_zero, List.getElem_cons_succ, List.setIfInBounds_toArray, List.set_cons_zero, List.set_cons_succ]
        refine wpAnyH_ready (rs := [4, 6]) (by kernel_rfl) (by simp) (AllReadyH.cons rfl (fun Kt hK => ?_) (AllReadyH.cons rfl (fun Kt hK => ?_) AllReadyH.nil))
        · refine wanted_pos rfl ?_
          refine wp_load2 rfl (by rfl) (later (K.alloc (Below.refl _ wr.drew) o64) HN4.out.c0) (hK.out _ _ trivial (fun _ => ?_))
          clear hK Kt
          simp only [Act.put, List.getElem_toArray, List.getElem_cons_zero, List.getElem_cons_succ, List.setIfInBounds_toArray, List.set_cons_zero, List.set_cons_succ]
          refine wpAnyH_ready (rs := [6]) (by kernel_rfl) (by simp) (AllReadyH.cons rfl (fun Kt hK => ?_) AllReadyH.nil)
          refine wanted_pos rfl ?_
          refine wp_build1 rfl (by rfl) (hK.out _ _ trivial (fun _ => ?_))
          clear hK Kt
          simp only [Act.put, List.getElem_toArray, List.getElem_cons_zero, List.getElem_cons_succ, List.setIfInBounds_toArray, List.set_cons_zero, List.set_cons_succ]
          refine wpAnyH_ready (rs := [7]) (by kernel_rfl) (by simp) (AllReadyH.cons rfl (fun Kt hK => ?_) AllReadyH.nil)
          refine wanted_pos rfl ?_
          have HNc := hide ((HNr.out.grow (K.alloc (K.drew (Below.refl _ wr)) o64)).grow (K.alloc (Below.refl _ (wr.drew.alloc o64)) (.cells #[.slice (some ⟨wr.heap.size, 0, none⟩) 64 64] 38)))
          refine wp_app1 (e := .slice (some ⟨wr.heap.size, 0, none⟩) 64 64) (q := (wr.drew.alloc o64).heap.size) (n := i) (xs := cs) _ _ rfl (by rfl) HNc.out.o (by rfl) (by simp [go_sem]) rfl (by omega) (Nat.succ_le_of_lt HNc.out.lt) (fun vl' W3 ho hG hat => ?_)
          have HN3 := hide (HNc.out.add1 (g := wr.heap.size) (fun j v hv => later (K.alloc (Below.refl _ (wr.drew.alloc o64)) _) (r64 wr.drew j v hv)) HNr.out.lt (by have : wr.drew.heap.size = wr.heap.size := rfl; simp; omega) (fun e => by have := (HNr.out.o.lt _ e).2; omega) (fun e => by have := (HNr.out.p.lt _ e).2; omega) ho hG hat)
          have hc3 : W3.cell? ⟨r, 0, none⟩ = some vl := HNc.out.at1 hG 0 _ HNc.out.c0
          have hz3 : W3.frozen? ⟨r, 0, none⟩ = false := HNc.out.at1z hG 0 (by omega)
          obtain ⟨lq, lc, rfl, _⟩ := own_form ho (by omega)
          clear ho hG hat
          refine hK.out _ _ trivial (fun _ => ?_)
          clear hK Kt
          simp only [Act.put, List.getElem_toArray, List.getElem_cons_zero, List.getElem_cons_succ, List.setIfInBounds_toArray, List.set_cons_zero, List.set_cons_succ]
          refine wpAnyH_take (i := 8) (v := pp r) rfl (by kernel_rfl) (by kernel_rfl) (by kernel_rfl) (fun _ _ _ h => h) (Or.inl ⟨by rfl, fun w' _ => by go_simp⟩) trivial ?_
          simp only [Act.put, List.getElem_toArray, List.getElem_cons_zero, List.getElem_cons_succ, List.setIfInBounds_toArray, List.set_cons_zero, List.set_cons_succ]
          refine wpAnyH_take (i := 9) (v := pp r) rfl (by kernel_rfl) (by kernel_rfl) (by kernel_rfl) (fun _ _ _ h => h) (Or.inl ⟨by rfl, fun w' _ => by go_simp⟩) trivial ?_
          simp only [Act.put, List.getElem_toArray, List.getElem_cons_zero, List.getElem_cons_succ, List.setIfInBounds_toArray, List.set_cons_zero, List.set_cons_succ]
          refine wpAnyH_ready (rs := [10]) (by kernel_rfl) (by simp) (AllReadyH.cons rfl (fun Kt hK => ?_) AllReadyH.nil)
          refine wanted_pos rfl ?_
          refine wp_store2 rfl (by rfl) (by rfl) hc3 hz3 (hK.out _ _ trivial (fun _ => ?_))
          clear hK Kt
          refine wpAnyH_done (by kernel_rfl) ?_ _
          refine NoPanic.normal ?_
          simp only [Act.put, List.getElem_toArray, List.getElem_cons_zero, List.getElem_cons_succ]
          clear hS0 HNc hc3 hz3 HN4
          generalize W3.setCell ⟨r, 0, none⟩ (.slice (some ⟨lq, 0, none⟩) (i + 1) lc) = W5 at HN3 ⊢
          have d1 := HN3.out.c1
          have HN5 := hide (HN3.out.grow (K.alloc (Below.refl _ W5) (.cells #[.slice none 0 0] 38)))
          go_wp2_with (refine wpList_app1 (e := .slice none 0 0) (q := W5.heap.size) (n := i) (xs := List.replicate i (.slice none 0 0)) rfl _ _ rfl (by rfl) HN5.out.p (by rfl) (by simp [go_sem]) rfl (by omega) (by have := HN5.out.lt; omega) ?_; intro vn' W6 ho hG hat; have HN6 := hide (HN5.out.add2 ho hG hat); have hc6 := HN5.out.at2 hG 1 _ HN5.out.c1; have hz6 := HN5.out.at2z hG 1 (by omega); obtain ⟨nq, nc, rfl, hx⟩ := own_form ho (by omega); clear ho hG hat hx)
          go_roundg (n - (i + 1))
          case measure => omega
          case rel => exact ⟨i + 1, rfl, hlt, by simp, _, _, _, HN6.out⟩
        · refine wanted_pos rfl ?_
          refine wp_build1 rfl (by rfl) (hK.out _ _ trivial (fun _ => ?_))
          clear hK Kt
          simp only [Act.put, List.getElem_toArray, List.getElem_cons_zero, List.getElem_cons_succ, List.setIfInBounds_toArray, List.set_cons_zero, List.set_cons_succ]
          refine wpAnyH_ready (rs := [4]) (by kernel_rfl) (by simp) (AllReadyH.cons rfl (fun Kt hK => ?_) AllReadyH.nil)
          refine wanted_pos rfl ?_
          refine wp_load2 rfl (by rfl) (later (K.alloc (Below.refl _ (wr.drew.alloc o64)) _) (later (K.alloc (Below.refl _ wr.drew) o64) HN4.out.c0)) (hK.out _ _ trivial (fun _ => ?_))
          clear hK Kt
          simp only [Act.put, List.getElem_toArray, List.getElem_cons_zero, List.getElem_cons_succ, List.setIfInBounds_toArray, List.set_cons_zero, List.set_cons_succ]
          refine wpAnyH_ready (rs := [7]) (by kernel_rfl) (by simp) (AllReadyH.cons rfl (fun Kt hK => ?_) AllReadyH.nil)
          refine wanted_pos rfl ?_
          have HNc := hide ((HNr.out.grow (K.alloc (K.drew (Below.refl _ wr)) o64)).grow (K.alloc (Below.refl _ (wr.drew.alloc o64)) (.cells #[.slice (some ⟨wr.heap.size, 0, none⟩) 64 64] 38)))
          refine wp_app1 (e := .slice (some ⟨wr.heap.size, 0, none⟩) 64 64) (q := (wr.drew.alloc o64).heap.size) (n := i) (xs := cs) _ _ rfl (by rfl) HNc.out.o (by rfl) (by simp [go_sem]) rfl (by omega) (Nat.succ_le_of_lt HNc.out.lt) (fun vl' W3 ho hG hat => ?_)
          have HN3 := hide (HNc.out.add1 (g := wr.heap.size) (fun j v hv => later (K.alloc (Below.refl _ (wr.drew.alloc o64)) _) (r64 wr.drew j v hv)) HNr.out.lt (by have : wr.drew.heap.size = wr.heap.size := rfl; simp; omega) (fun e => by have := (HNr.out.o.lt _ e).2; omega) (fun e => by have := (HNr.out.p.lt _ e).2; omega) ho hG hat)
          have hc3 : W3.cell? ⟨r, 0, none⟩ = some vl := HNc.out.at1 hG 0 _ HNc.out.c0
          have hz3 : W3.frozen? ⟨r, 0, none⟩ = false := HNc.out.at1z hG 0 (by omega)
          obtain ⟨lq, lc, rfl, _⟩ := own_form ho (by omega)
          clear ho hG hat
          refine hK.out _ _ trivial (fun _ => ?_)
          clear hK Kt
          simp only [Act.put, List.getElem_toArray, List.getElem_cons_zero, List.getElem_cons_succ, List.setIfInBounds_toArray, List.set_cons_zero, List.set_cons_succ]
          refine wpAnyH_take (i := 8) (v := pp r) rfl (by kernel_rfl) (by kernel_rfl) (by kernel_rfl) (fun _ _ _ h => h) (Or.inl ⟨by rfl, fun w' _ => by go_simp⟩) trivial ?_
          simp only [Act.put, List.getElem_toArray, List.getElem_cons_zero, List.getElem_cons_succ, List.setIfInBounds_toArray, List.set_cons_zero, List.set_cons_succ]
          refine wpAnyH_take (i := 9) (v := pp r) rfl (by kernel_rfl) (by kernel_rfl) (by kernel_rfl) (fun _ _ _ h => h) (Or.inl ⟨by rfl, fun w' _ => by go_simp⟩) trivial ?_
          simp only [Act.put, List.getElem_toArray, List.getElem_cons_zero, List.getElem_cons_succ, List.setIfInBounds_toArray, List.set_cons_zero, List.set_cons_succ]
          refine wpAnyH_ready (rs := [10]) (by kernel_rfl) (by simp) (AllReadyH.cons rfl (fun Kt hK => ?_) AllReadyH.nil)
          refine wanted_pos rfl ?_
          refine wp_store2 rfl (by rfl) (by rfl) hc3 hz3 (hK.out _ _ trivial (fun _ => ?_))
          clear hK Kt
          refine wpAnyH_done (by kernel_rfl) ?_ _
          refine NoPanic.normal ?_
          simp only [Act.put, List.getElem_toArray, List.getElem_cons_zero, List.getElem_cons_succ]
          clear hS0 HNc hc3 hz3 HN4
          generalize W3.setCell ⟨r, 0, none⟩ (.slice (some ⟨lq, 0, none⟩) (i + 1) lc) = W5 at HN3 ⊢
          have d1 := HN3.out.c1
          have HN5 := hide (HN3.out.grow (K.alloc (Below.refl _ W5) (.cells #[.slice none 0 0] 38)))
          go_wp2_with (refine wpList_app1 (e := .slice none 0 0) (q := W5.heap.size) (n := i) (xs := List.replicate i (.slice none 0 0)) rfl _ _ rfl (by rfl) HN5.out.p (by rfl) (by simp [go_sem]) rfl (by omega) (by have := HN5.out.lt; omega) ?_; intro vn' W6 ho hG hat; have HN6 := hide (HN5.out.add2 ho hG hat); have hc6 := HN5.out.at2 hG 1 _ HN5.out.c1; have hz6 := HN5.out.at2z hG 1 (by omega); obtain ⟨nq, nc, rfl, hx⟩ := own_form ho (by omega); clear ho hG hat hx)
          go_roundg (n - (i + 1))
          case measure => omega
          case rel => exact ⟨i + 1, rfl, hlt, by simp, _, _, _, HN6.out⟩
    · obtain rfl : i = n := by omega
      go_wp2_with fail
      go_ret
      exact HNr.out.done HN.out
end Go.Proofs.Ytpophfeommlajaa
namespace Go.Proofs.Ytpophfeommlajaa
set_option maxRecDepth 100000

/-- A store at work: S is kept, M with what waits; the mark is steady. -/
structure WkA (N : Nat) (D : DM) (S M : List (List Nat)) : Prop where
  n : D.n = N
  km : ∀ j, j < 3 → D.la j = mkv S ∧ D.nw j = none
  ds : lays D.la 0 S
  nw : ∀ k, 3 ≤ k → k < 3 + tks S → D.nw k = none
  sm : tks S ≤ tks M
  lm : lays D.cur 0 M
  rm : tks M + 3 ≤ N
/-- The power went within the Commit of M. -/
structure WkB (N : Nat) (D : DM) (S M : List (List Nat)) : Prop where
  n : D.n = N
  km : ∃ p, Mid D 0 (mkv S) (mkv M) p
  ds : lays D.la 0 S
  dm : lays D.la 0 M
  rs : tks S + 3 ≤ N
  rm : tks M + 3 ≤ N
/-- Behind a crash. -/
structure Pst (N : Nat) (D : DM) (S T : List (List Nat)) : Prop where
  n : D.n = N
  c : D.calm
  km : Mid D 0 (mkv S) (mkv T) none
  ds : lays D.la 0 S
  dt : lays D.la 0 T
  rs : tks S + 3 ≤ N
  rt : tks T + 3 ≤ N
theorem cr_la {D : DM} {K : List Bool} {t a : Int} {k : Nat} (h : D.nw k = none) : (D.cr K t a).la k = D.la k := by
  show D.crA K t a k = D.la k
  unfold DM.crA
  rw [h]
theorem WkA.crash {N : Nat} {D : DM} {S M : List (List Nat)} (h : WkA N D S M) (K : List Bool) (t a : Int) : Pst N (D.cr K t a) S S := by
  have hl : lays (D.cr K t a).la 0 S := lays_congr h.ds (fun i h1 h2 => cr_la (h.nw i (by omega) (by omega)))
  have hr := h.rm
  have hs := h.sm
  refine ⟨h.n, cr_calm _ _ _ _, ⟨by show 0 + 2 < D.n; rw [h.n]; omega, fun _ _ => rfl, ?_⟩, hl, hl, by omega, by omega⟩
  exact Or.inl ⟨(cr_la (h.km 1 (by omega)).2).trans (h.km 1 (by omega)).1, (cr_la (h.km 2 (by omega)).2).trans (h.km 2 (by omega)).1⟩
theorem Mid.nw3 {D : DM} {o n : List Nat} {p : Option Nat} (h : Mid D 0 o n p) {k : Nat} (hk : 3 ≤ k) : D.nw k = none := by
  refine h.nw k (fun e => ?_)
  subst e
  rcases h.h with ⟨e, _⟩ | ⟨e, _⟩ | ⟨e, _⟩ <;> omega
theorem WkB.crash {N : Nat} {D : DM} {S M : List (List Nat)} (h : WkB N D S M) (K : List Bool) (t a : Int) : Pst N (D.cr K t a) S M := by
  obtain ⟨p, hp⟩ := h.km
  exact ⟨h.n, cr_calm _ _ _ _, hp.crash K t a, lays_congr h.ds (fun i h1 _ => cr_la (hp.nw3 (by omega))), lays_congr h.dm (fun i h1 _ => cr_la (hp.nw3 (by omega))), h.rs, h.rm⟩
theorem Pst.fuse {N : Nat} {D : DM} {S T : List (List Nat)} (h : Pst N D S T) (i : Int) : Pst N (D.fuse i) S T := ⟨h.n, fuse_calm h.c i, h.km.fuse i, h.ds, h.dt, h.rs, h.rt⟩
theorem WkA.fuse {N : Nat} {D : DM} {S M : List (List Nat)} (h : WkA N D S M) (i : Int) : WkA N (D.fuse i) S M := ⟨h.n, h.km, h.ds, h.nw, h.sm, h.lm, h.rm⟩
theorem WkB.fuse {N : Nat} {D : DM} {S M : List (List Nat)} (h : WkB N D S M) (i : Int) : WkB N (D.fuse i) S M := by
  obtain ⟨p, hp⟩ := h.km
  exact ⟨h.n, ⟨p, hp.fuse i⟩, h.ds, h.dm, h.rs, h.rm⟩
/-- A Mend at the first mark of a calm disk. -/
theorem mend_calm0 {D : DM} (hc : D.calm) (hn : 2 < D.n) (hv : sec (mv D 0)) :
    (D.mendE 0 = 0 ∧ Went D (D.mendD 0) 0 3 (mv D 0)) ∨ (D.mendE 0 = 6 ∧ ∃ q, q < 3 ∧ D.la (0 + q) ≠ mv D 0 ∧ Fell D (D.mendD 0) 0 q (mv D 0)) := by
  obtain ⟨l1, l2⟩ := ld_calm hc (a := 0) (by omega)
  replace l1 : D.ldE 0 = 0 := l1
  replace l2 : D.ldB 0 = mv D 0 := l2
  have e1 : D.mendE 0 = (md2 D 0 (D.three 0) (mv D 0) 3).2 := (if_pos l1).trans (by rw [l2])
  have e2 : D.mendD 0 = (md2 D 0 (D.three 0) (mv D 0) 3).1 := (if_pos l1).trans (by rw [l2])
  rw [e1, e2]
  exact md2_steps hc (a := 0) (by omega) (B := D.three 0) (fun j hj => by
    obtain ⟨_, r2⟩ := rd_calm hc (i := 0 + j) (by omega)
    have e : (0 : Int) + (j : Int) = ((0 + j : Nat) : Int) := by omega
    unfold DM.three
    rw [e, r2]) hv 3 (by omega)
theorem upTo0 {f : Nat → List Nat} {v : List Nat} {q k : Nat} (hq : q ≤ 3) (hk : 3 ≤ k) : upTo f 0 v q k = f k := upTo_out (by omega)
/-- Behind a crash, an Open that is answered OK finds S or T, and leaves a steady mark of it; one that isn't leaves what it was, in the midst. -/
theorem Pst.open_ok {N : Nat} {D : DM} {S T : List (List Nat)} (h : Pst N D S T) (hN : N ≤ 4096) (he : D.mendE 0 = 0) : ∃ Z, (Z = S ∨ Z = T) ∧ WkA N (D.mendD 0) Z Z ∧ (D.mendD 0).calm ∧ D.opO = some Z ∧ D.opE = 0 := by
  have hn3 : 2 < D.n := by have := h.rs; rw [h.n]; omega
  have hv := h.km.value
  have hvs : sec (mv D 0) := by
    rcases hv with e | e <;> rw [e] <;> exact mkv_sec _
  obtain ⟨Z, hZ, hz, hl, hr⟩ : ∃ Z, (Z = S ∨ Z = T) ∧ mv D 0 = mkv Z ∧ lays D.la 0 Z ∧ tks Z + 3 ≤ N := by
    rcases hv with e | e
    · exact ⟨S, Or.inl rfl, e, h.ds, h.rs⟩
    · exact ⟨T, Or.inr rfl, e, h.dt, h.rt⟩
  have hw := (mend_calm0 h.c hn3 hvs).resolve_right (fun hh => by have := hh.1; rw [he] at this; cases this)
  have hw := hw.2
  have hla : lays (D.mendD 0).la 0 Z := lays_congr hl (fun i h1 _ => by rw [hw.la]; exact upTo0 (by omega) (by omega))
  have hld := (mend_ok (a := 0) he).2.2.2.2.2.2
  replace hld : (D.mendD 0).ldB 0 = D.ldB 0 := hld
  have hl0 : D.ldB 0 = mkv Z := (ld_calm h.c (a := 0) (by omega)).2.trans hz
  have ho : D.opO = some Z := by
    unfold DM.opO
    rw [hld, hl0, calm_cur hw.c]
    exact opn_lays hla (by rw [h.n]; exact hr) (by rw [h.n]; exact hN)
  refine ⟨Z, hZ, ⟨hw.n.trans h.n, fun j hj => ⟨by rw [hw.la, upTo_in (by omega)]; exact hz, by rw [hw.c.nw]⟩, hla, fun k _ _ => by rw [hw.c.nw], Nat.le_refl _, by rw [calm_cur hw.c]; exact hla, hr⟩, hw.c, ho, ?_⟩
  unfold DM.opE
  rw [if_pos he, ho]
  rfl
theorem Pst.open_not {N : Nat} {D : DM} {S T : List (List Nat)} (h : Pst N D S T) (he : D.mendE 0 ≠ 0) : WkB N (D.mendD 0) S T := by
  have hn3 : 2 < D.n := by have := h.rs; rw [h.n]; omega
  have hv := h.km.value
  have hvs : sec (mv D 0) := by
    rcases hv with e | e <;> rw [e] <;> exact mkv_sec _
  obtain ⟨_, q, hq, hne, hf⟩ := (mend_calm0 h.c hn3 hvs).resolve_left (fun hh => he hh.1)
  have hk : ∀ i, 3 ≤ i → (D.mendD 0).la i = D.la i := fun i hi => by rw [hf.la]; exact upTo0 (by omega) hi
  exact ⟨hf.n.trans h.n, mend_fell h.km hq hne hf, lays_congr h.ds (fun i h1 _ => hk i (by omega)), lays_congr h.dt (fun i h1 _ => hk i (by omega)), h.rs, h.rt⟩
/-- An entry is appended, as far as it goes. -/
theorem WkA.app {N : Nat} {D : DM} {S M : List (List Nat)} (h : WkA N D S M) (f : Nat → Nat) (m j : Nat) : WkA N (apw D (3 + tks M) f m j).1 S M := by
  obtain ⟨h1, h2, h3⟩ := apw_la D (3 + tks M) f m j
  have hs := h.sm
  have hc : ∀ k, k < 3 + tks M → (apw D (3 + tks M) f m j).1.cur k = D.cur k := fun k hk => by
    unfold DM.cur
    rw [h1, h3 k (Or.inl hk)]
  exact ⟨h2.trans h.n, fun i hi => ⟨by rw [h1]; exact (h.km i hi).1, (h3 i (by omega)).trans (h.km i hi).2⟩, by rw [h1]; exact h.ds, fun k hk1 hk2 => (h3 k (by omega)).trans (h.nw k hk1 hk2), h.sm, lays_congr h.lm (fun i _ h2 => hc i (by omega)), h.rm⟩
theorem WkA.app_ok {N : Nat} {D : DM} {S M : List (List Nat)} (h : WkA N D S M) {f : Nat → Nat} {m : Nat} (hm : m ≤ 200) (hd : D.dn = false) (hr : tks M + tk m + 3 ≤ N) (he : (apw D (3 + tks M) f m (tk m)).2 = 0) : WkA N (apw D (3 + tks M) f m (tk m)).1 S (M ++ [fl f m]) := by
  obtain ⟨h1, h2⟩ := apw_ok he hd
  have hA := h.app f m (tk m)
  have ht : tks (M ++ [fl f m]) = tks M + tk m := by rw [tks_app]; show tks M + (tk (fl f m).length + 0) = _; rw [fl_len]; rfl
  refine ⟨hA.n, hA.km, hA.ds, hA.nw, by rw [ht]; have := hA.sm; omega, ?_, by rw [ht]; omega⟩
  refine lays_app.2 ⟨hA.lm, ?_, trivial⟩
  refine Holds.of hm (fun j hj => ?_)
  rw [h2, Nat.zero_add, if_pos (by omega), show 3 + tks M + j - (3 + tks M) = j by omega]
/-- A Commit: the Sync. -/
theorem WkA.sync_not {N : Nat} {D : DM} {S M : List (List Nat)} (h : WkA N D S M) (he : D.syE ≠ 0) : WkA N D.sy S M := by
  have e : D.sy = D ∨ D.sy = D.burn := by
    unfold DM.sy
    split
    · exact Or.inl rfl
    · rename_i hd
      split
      · rename_i hm
        exact absurd (show D.syE = 0 by unfold DM.syE; rw [if_neg hd, if_pos hm]) he
      · exact Or.inr rfl
  rcases e with e | e
  · rw [e]; exact h
  · rw [e]
    have hc : D.burn.cur = D.cur := by funext k; unfold DM.cur; rw [burn_la, burn_nw]
    exact ⟨(burn_n D).trans h.n, fun j hj => by rw [burn_la, burn_nw]; exact h.km j hj, by rw [burn_la]; exact h.ds, fun k => by rw [burn_nw]; exact h.nw k, h.sm, by rw [hc]; exact h.lm, h.rm⟩
/-- .. and the mark. -/
theorem WkA.commit {N : Nat} {D : DM} {S M : List (List Nat)} (h : WkA N D S M) (he : D.syE = 0) :
    (D.sy.saveE 0 (mkf M.length (tks M)) 16 = 0 ∧ WkA N (D.sy.saveD 0 (mkf M.length (tks M)) 16) M M ∧ (D.sy.saveD 0 (mkf M.length (tks M)) 16).calm) ∨ (D.sy.saveE 0 (mkf M.length (tks M)) 16 = 6 ∧ WkB N (D.sy.saveD 0 (mkf M.length (tks M)) 16) S M) := by
  obtain ⟨_, hc, hn, hla⟩ := sy_ok he
  have hr := h.rm
  have hs := h.sm
  have hn3 : 0 + 2 < D.sy.n := by rw [hn, h.n]; omega
  have l1 := (ld_calm hc (a := 0) hn3).1
  have e1 : D.sy.saveE 0 (mkf M.length (tks M)) 16 = (sv D.sy 0 (mkv M) 3).2 := (if_neg (by omega)).trans (if_pos l1)
  have e2 : D.sy.saveD 0 (mkf M.length (tks M)) 16 = (sv D.sy 0 (mkv M) 3).1 := (if_neg (by omega)).trans (if_pos l1)
  rw [e1, e2]
  have hm3 : ∀ j, j < 3 → D.sy.la j = mkv S := fun j hj => by
    rw [hla]
    unfold DM.cur
    rw [(h.km j hj).2]
    exact (h.km j hj).1
  have hM : lays D.sy.la 0 M := by rw [hla]; exact h.lm
  have hS : lays D.sy.la 0 S := lays_congr h.ds (fun i h1 h2 => by rw [hla]; unfold DM.cur; rw [h.nw i (by omega) (by omega)]; rfl)
  rcases sv_steps hc (a := 0) hn3 (mkv_sec M) 3 (by omega) with ⟨g1, g2⟩ | ⟨g1, q, hq, hf⟩
  · replace g2 : Went D.sy (sv D.sy 0 (mkv M) 3).1 0 3 (mkv M) := g2
    have hl : lays (sv D.sy 0 (mkv M) 3).1.la 0 M := lays_congr hM (fun i h1 _ => by rw [g2.la]; exact upTo0 (by omega) (by omega))
    exact Or.inl ⟨g1, ⟨(g2.n.trans hn).trans h.n, fun j hj => ⟨by rw [g2.la]; exact upTo_in (by omega), by rw [g2.c.nw]⟩, hl, fun k _ _ => by rw [g2.c.nw], Nat.le_refl _, by rw [calm_cur g2.c]; exact hl, hr⟩, g2.c⟩
  · replace hf : Fell D.sy (sv D.sy 0 (mkv M) 3).1 0 q (mkv M) := hf
    have hk : ∀ i, 3 ≤ i → (sv D.sy 0 (mkv M) 3).1.la i = D.sy.la i := fun i hi => by rw [hf.la]; exact upTo0 (by omega) hi
    exact Or.inr ⟨g1, (hf.n.trans hn).trans h.n, save_fell hn3 ⟨hm3 0 (by omega), hm3 1 (by omega), hm3 2 (by omega)⟩ hq hf, lays_congr hS (fun i h1 _ => hk i (by omega)), lays_congr hM (fun i h1 _ => hk i (by omega)), by omega, hr⟩
/-- Without a fuse a Mend goes through. -/
theorem mend_free0 {D : DM} (hc : D.calm) (hf : D.fu = none) (hn : 2 < D.n) (hv : sec (mv D 0)) : D.mendE 0 = 0 := by
  rcases mend_calm0 hc hn hv with h | ⟨h6, _⟩
  · exact h.1
  · exfalso
    obtain ⟨l1, l2⟩ := ld_calm hc (a := 0) (by omega)
    replace l1 : D.ldE 0 = 0 := l1
    replace l2 : D.ldB 0 = mv D 0 := l2
    have e1 : D.mendE 0 = (md2 D 0 (D.three 0) (mv D 0) 3).2 := (if_pos l1).trans (by rw [l2])
    have key : ∀ j, j ≤ 3 → (md2 D 0 (D.three 0) (mv D 0) j).2 = 0 ∧ (md2 D 0 (D.three 0) (mv D 0) j).1.free ∧ (md2 D 0 (D.three 0) (mv D 0) j).1.n = D.n := by
      intro j
      induction j with
      | zero => intro _; exact ⟨rfl, ⟨hc.dn, hf⟩, rfl⟩
      | succ j ih =>
        intro hj
        obtain ⟨i1, i2, i3⟩ := ih (by omega)
        by_cases hs : D.three 0 j = mv D 0
        · have es : md2 D 0 (D.three 0) (mv D 0) (j + 1) = md2 D 0 (D.three 0) (mv D 0) j := (if_pos i1).trans (if_pos hs)
          rw [es]
          exact ⟨i1, i2, i3⟩
        · have es : md2 D 0 (D.three 0) (mv D 0) (j + 1) = ((md2 D 0 (D.three 0) (mv D 0) j).1.ws ((0 : Int) + (j : Int)) (mv D 0), (md2 D 0 (D.three 0) (mv D 0) j).1.wsE ((0 : Int) + (j : Int)) (mv D 0)) := (if_pos i1).trans (if_neg hs)
          rw [es, Int.zero_add]
          obtain ⟨w1, w2, w3, _⟩ := ws_free i2 (i := j) (by rw [i3]; omega) hv
          exact ⟨w1, w2, w3.trans i3⟩
    rw [e1, (key 3 (by omega)).1] at h6
    cases h6
theorem Pst.free_ok {N : Nat} {D : DM} {S T : List (List Nat)} (h : Pst N D S T) (hf : D.fu = none) : D.mendE 0 = 0 := by
  have hn3 : 2 < D.n := by have := h.rs; rw [h.n]; omega
  refine mend_free0 h.c hf hn3 ?_
  rcases h.km.value with e | e <;> rw [e] <;> exact mkv_sec _
end Go.Proofs.Ytpophfeommlajaa
namespace Go.Proofs.Ytpophfeommlajaa
set_option maxRecDepth 100000

theorem prs_split {C : Nat → List Nat} {u k : Nat} : ∀ {l : List (List Nat)} {p : Nat}, lays C p l → p + tks l ≤ u → prs C u (l.length + k) p = (prs C u k (p + tks l)).map fun x => (l ++ x.1, x.2)
  | [], p, _, _ => by
    show prs C u (0 + k) p = (prs C u k (p + 0)).map _
    rw [Nat.zero_add, Nat.add_zero]
    cases prs C u k p with
    | none => rfl
    | some x => rfl
  | b :: r, p, h, hu => by
    have hp := tk_pos b.length
    have e : tks (b :: r) = tk b.length + tks r := rfl
    have hk := h.1.k
    rw [show (b :: r).length + k = (r.length + k) + 1 by rw [List.length_cons]; omega]
    show (if p < u ∧ elen C p ≤ 200 ∧ p + tk (elen C p) ≤ u then (prs C u (r.length + k) (p + tk (elen C p))).map fun x => (ent C p (elen C p) :: x.1, x.2) else none) = _
    rw [hk, if_pos ⟨by omega, h.1.m, by omega⟩, prs_split h.2 (by omega), h.1.e, e, Nat.add_assoc, Option.map_map]
    rfl
theorem prs_fail {C : Nat → List Nat} {u n : Nat} {l : List (List Nat)} (h : lays C 0 l) (hu : tks l ≤ u) (hn : l.length < n) (hc : ¬ (tks l < u ∧ elen C (tks l) ≤ 200 ∧ tks l + tk (elen C (tks l)) ≤ u)) : prs C u n 0 = none := by
  obtain ⟨k, rfl⟩ : ∃ k, n = l.length + (k + 1) := ⟨n - l.length - 1, by omega⟩
  rw [prs_split h (by omega), Nat.zero_add]
  show (if tks l < u ∧ elen C (tks l) ≤ 200 ∧ tks l + tk (elen C (tks l)) ≤ u then _ else none).map _ = none
  rw [if_neg hc]
  rfl
theorem prs_le {C : Nat → List Nat} {u : Nat} : ∀ {n p : Nat} {l : List (List Nat)} {e : Nat}, prs C u n p = some (l, e) → p ≤ u → e ≤ u
  | 0, p, l, e, h, hp => by
    have h : some (([] : List (List Nat)), p) = some (l, e) := h
    cases h
    exact hp
  | n + 1, p, l, e, h, hp => by
    have h : (if p < u ∧ elen C p ≤ 200 ∧ p + tk (elen C p) ≤ u then (prs C u n (p + tk (elen C p))).map fun x => (ent C p (elen C p) :: x.1, x.2) else none) = some (l, e) := h
    split at h
    · rename_i hh
      obtain ⟨⟨r, e2⟩, h1, h2⟩ := Option.map_eq_some_iff.1 h
      cases h2
      exact prs_le h1 hh.2.2
    · cases h
theorem opn_u {v : List Nat} {C : Nat → List Nat} {N : Nat} (h : N < mkU v + 3) : opn v C N = none := by
  unfold opn
  rw [if_neg (by omega)]
theorem opn_n {v : List Nat} {C : Nat → List Nat} {N : Nat} (hC : ∀ i, (C i).length = 64) (h : N ≤ mkN v) : opn v C N = none := by
  unfold opn
  split
  · rename_i hh
    split
    · rename_i l e hp
      obtain ⟨_, g2, g3⟩ := lays_prs hC hp
      have := prs_le hp (Nat.zero_le _)
      have := tks_len l
      have := hh.2
      omega
    · rfl
  · rfl
theorem opn_p {v : List Nat} {C : Nat → List Nat} {N : Nat} (h : prs C (mkU v) (mkN v) 0 = none) : opn v C N = none := by
  unfold opn
  split
  · rw [h]
  · rfl
theorem opn_e {v : List Nat} {C : Nat → List Nat} {N : Nat} {l : List (List Nat)} (h : lays C 0 l) (hu : tks l ≤ mkU v) (hl : l.length = mkN v) (hne : tks l ≠ mkU v) : opn v C N = none := by
  unfold opn
  split
  · rw [← hl, prs_lays h (by omega), Nat.zero_add]
    show (if tks l = mkU v then _ else none) = none
    rw [if_neg hne]
  · rfl
theorem opn_v {v : List Nat} {C : Nat → List Nat} {N : Nat} {l : List (List Nat)} (hl : l.length = mkN v) (he : tks l = mkU v) (hne : v ≠ mkv l) : opn v C N = none := by
  unfold opn
  rw [if_neg]
  rintro ⟨h1, _⟩
  apply hne
  unfold mkv
  rw [hl, he]
  exact h1
end Go.Proofs.Ytpophfeommlajaa
