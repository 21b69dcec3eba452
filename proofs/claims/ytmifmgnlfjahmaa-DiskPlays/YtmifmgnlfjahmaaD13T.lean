/- Layer 13: the law of what lasts. -/
import Derived.Test.YtmifmgnlfjahmaaD13G
import Derived.Test.YtmifmgnlfjahmaaSameBA
namespace Go.Proofs.Ytmifmgnlfjahmaa
open Go.RowKit Go.Maps
attribute [local go_sem ↓] Go.wp_at_zero Go.wp_at_succ

/-- A call of a script, on a disk. -/
def DM.step (D : DM) (o : OpV) : DM := if o.kd = 1 then D.wr o.i (fl o.f o.m) else if o.kd = 2 then D.sy else if o.kd = 4 then D.cr o.KL o.t o.a else D
def lp (k : Nat) (O : Nat → OpV) : Nat → DM
  | 0 => DM.new k
  | i + 1 => (lp k O i).step (O i)
theorem step_free {D : DM} (h1 : D.dn = false) (h2 : D.fu = none) (o : OpV) : (D.step o).dn = false ∧ (D.step o).fu = none ∧ (D.step o).n = D.n := by
  have hd : ¬ D.dn = true := by simp [h1]
  have hb : D.burn = D := by unfold DM.burn; rw [h2]
  have hm : D.may = true := by unfold DM.may; rw [h2]
  unfold DM.step
  split
  · unfold DM.wr
    rw [if_neg hd, if_pos hm]
    split
    · split
      · show D.burn.dn = false ∧ D.burn.fu = none ∧ D.burn.n = D.n
        rw [hb]
        exact ⟨h1, h2, rfl⟩
      · exact ⟨h1, h2, rfl⟩
    · exact ⟨h1, h2, rfl⟩
  · split
    · unfold DM.sy
      rw [if_neg hd, if_pos hm]
      show D.burn.dn = false ∧ D.burn.fu = none ∧ D.burn.n = D.n
      rw [hb]
      exact ⟨h1, h2, rfl⟩
    · split
      · exact ⟨rfl, rfl, rfl⟩
      · exact ⟨h1, h2, rfl⟩
theorem lp_free (k : Nat) (O : Nat → OpV) : ∀ i, (lp k O i).dn = false ∧ (lp k O i).fu = none ∧ (lp k O i).n = k
  | 0 => ⟨rfl, rfl, rfl⟩
  | i + 1 => by
    obtain ⟨h1, h2, h3⟩ := lp_free k O i
    obtain ⟨g1, g2, g3⟩ := step_free h1 h2 (O i)
    exact ⟨g1, g2, g3.trans h3⟩
theorem same13 {a a2 : Option Addr} {n n2 c c2 : Nat} {f g : Nat → Nat} {w : World} (h : BA w a n f) (h2 : BA w a2 n2 g) (hn : n ≤ 1000000) :
    Calls Try.prog 19 #[.slice a n c, .slice a2 n2 c2] w fun e w' => e = .returned (.bool (decide (fl f n = fl g n2))) ∧ Below w.heap.size w w' := by
  have HA := hide h
  have H2 := hide h2
  have HN := hide hn
  clear h h2 hn
  go_enter Try.func19, Try.ntmps19
  go_wp2_with (go_at_call 30; refine Calls.mono (same_fl HA.out H2.out HN.out) ?_; rintro e W1 ⟨rfl, hB⟩)
  go_ret
  exact ⟨rfl, hB⟩
theorem ba_range {w : World} {g : Nat} {l : List Nat} (h : w.rangeAt g 0 (cells8 l)) (hl : ∀ x ∈ l, x < 256) : BA w (some ⟨g, 0, none⟩) l.length (fun i => l.getD i 0) := by
  refine ⟨fun i => getD_lt hl i, Or.inr ⟨g, 0, rfl, ⟨fun i hi => ?_⟩⟩⟩
  exact h i _ (cells8_at l i hi)
theorem fl_of {l : List Nat} {n : Nat} (h : l.length = n) : fl (fun i => l.getD i 0) n = l := by
  apply List.ext_getElem?
  intro i
  rcases Nat.lt_or_ge i n with hi | hi
  · rw [fl_at _ hi, List.getElem?_eq_getElem (by omega)]
    simp [List.getD_eq_getElem?_getD, List.getElem?_eq_getElem (show i < l.length by omega)]
  · rw [List.getElem?_eq_none (by rw [fl_len]; exact hi), List.getElem?_eq_none (by omega)]
theorem ba_sec {w : World} {g : Nat} {l : List Nat} (h : w.rangeAt g 0 (cells8 l)) (hl : sec l) : BA w (some ⟨g, 0, none⟩) 64 (fun i => l.getD i 0) := by
  have := ba_range h hl.2
  rwa [hl.1] at this
theorem OpV.ok.keep {W w1 : World} {o : OpV} (h : o.ok W) (hb : Below W.heap.size W w1) : o.ok w1 := ⟨h.kd, h.i, h.b.keep hb, h.k.keep hb, h.t, h.a⟩
theorem OpsAt.keep {W w1 : World} {z : Option Addr} {n : Nat} {O : Nat → OpV} (h : OpsAt W z n O) (hb : Below W.heap.size W w1) : OpsAt w1 z n O :=
  ⟨h.at_.imp id fun ⟨b, o, e, hr⟩ => ⟨b, o, e, fun i hi j v hv => later hb (hr i hi j v hv)⟩, fun i hi => (h.r i hi).keep hb⟩
/-- What is handed in lies ahead of the disk. -/
theorem ba_ahead {w wr : World} {b lb mb : Nat} {D : DM} (h : FzR w wr b lb mb D) {x : Option Addr} {m : Nat} {f : Nat → Nat} (hb : BA w x m f) : 0 < m → ∀ p, x = some p → X3 b lb mb p.block = false := fun hm p hp => by
  rcases hb.at_ with h0 | ⟨q, o, e, hr⟩
  · omega
  · rw [hp] at e
    obtain rfl := Option.some.inj e
    have := World.block_lt_of_cell? w _ (hr.c 0 hm)
    cases hx : X3 b lb mb q with
    | false => rfl
    | true =>
      have h1 := h.b
      have h2 := h.l
      have h3 := h.m
      have h4 : q < w.heap.size := this
      rcases X3_of.1 hx with e | e | e <;> omega
theorem kb_ahead {w wr : World} {b lb mb : Nat} {D : DM} (h : FzR w wr b lb mb D) {z : Option Addr} {K : List Bool} (hk : Kb w z K) : K ≠ [] → ∀ p, z = some p → X3 b lb mb p.block = false := fun hK p hp => by
  rcases hk with h0 | ⟨q, o, e, hr⟩
  · exact absurd h0 hK
  · rw [hp] at e
    obtain rfl := Option.some.inj e
    cases K with
    | nil => exact absurd rfl hK
    | cons x r =>
      have := World.block_lt_of_cell? w _ (hr 0 x rfl)
      cases hx : X3 b lb mb q with
      | false => rfl
      | true =>
        have h1 := h.b
        have h2 := h.l
        have h3 := h.m
        have h4 : q < w.heap.size := this
        rcases X3_of.1 hx with e | e | e <;> omega
/-- A Write of bytes that were handed in. -/
theorem write_fz {w wr : World} {b lb mb : Nat} {D : DM} (h : FzR w wr b lb mb D) (i : Int) {x : Option Addr} {m c : Nat} {f : Nat → Nat} (hb : BA w x m f) : Calls Try.prog 15 #[pp b, .int .i64 i, .slice x m c] wr (fun e w' => e = .returned (.int .i64 (D.wrE i m)) ∧ FzR w w' b lb mb (D.wr i (fl f m))) :=
  Calls.mono (write_any h.d i (hb.keep h.k) (ba_ahead h hb)) (fun _ _ ⟨he, hD, hK⟩ => ⟨he, h.next hD hK⟩)
theorem crash_fz {w wr : World} {b lb mb : Nat} {D : DM} (h : FzR w wr b lb mb D) {z : Option Addr} {KL : List Bool} {c : Nat} (hk : Kb w z KL) (t a : Int) : Calls Try.prog 17 #[pp b, .agg #[.slice z KL.length c, .int .i64 t, .int .i64 a]] wr (fun e w' => (∃ v, e = .returned v) ∧ FzR w w' b lb mb (D.cr KL t a)) :=
  Calls.mono (crash_any h.d (hk.keep h.k) (kb_ahead h hk) t a) (fun _ _ ⟨he, hD, hK⟩ => ⟨he, h.next hD hK⟩)
theorem mix_all {s l : List Nat} (hs : sec s) (hl : sec l) : mix 64 s l = s := by
  unfold mix
  rw [List.take_of_length_le (by rw [hs.1]; omega), List.drop_eq_nil_of_le (by rw [hl.1]; omega), List.append_nil]
theorem sizeOp : (Try.prog.info? 38).map (·.size) = some 6 := by kernel_rfl
theorem opcells_one (o : OpV) : ∀ v ∈ o.cells, v.oneCell' = true := by
  intro v hv
  simp only [OpV.cells, List.mem_cons, List.not_mem_nil, or_false] at hv
  rcases hv with rfl | rfl | rfl | rfl | rfl | rfl <;> rfl
/-- A variable that holds a call of a script. -/
structure VarO (w w' : World) (g : Nat) (o : OpV) : Prop where
  bl : Below w.heap.size w w'
  ge : w.heap.size ≤ g
  lt : g < w'.heap.size
  r : w'.rangeAt g 0 o.cells
section
variable {w : World} {ops : Array Oper} {rest : List Oper} {o : Oper} {a : Act} {Q : Exit → Act → World → Prop}
theorem wpList_load_op (hgd : o.guard = none) (x : Operand) (hop : o.op = Op.load 38 x) {g off : Nat} {ov : OpV} (hx : a.eval x = .pointer (some ⟨g, off, none⟩)) (ht : w.rangeAt g off ov.cells) (hK : wpList Try.prog ops Q rest (a.put o.dst (.agg ov.cells.toArray)) w) : wpList Try.prog ops Q (o :: rest) a w :=
  wpList_load_mid hgd 38 x hop g off hx ov.cells _ ht Try.underlying38 rfl sizeOp hK
theorem wpList_alloc_op (hgd : o.guard = none) (hop : o.op = Op.alloc 38) (hK : ∀ w', Below w.heap.size w w' → w'.heap.size = w.heap.size + 1 → w'.there w.heap.size 0 6 → wpList Try.prog ops Q rest (a.put o.dst (pp w.heap.size)) w') : wpList Try.prog ops Q (o :: rest) a w := by
  refine wpList_plain hgd fun K' hK' => ?_
  unfold Oper.wp
  have hrun : (execOp a.eval o).run Try.prog w = .ok (.value (pp w.heap.size)) (w.alloc (.cells #[.int .i64 0, .int .i64 0, .slice none 0 0, .slice none 0 0, .int .i64 0, .int .i64 0] 38)) := by
    unfold execOp
    simp [hop, Instr.alloc, newVar, newRow, Result.andThen, Value.cells]
  rw [hrun]
  have hh : (w.alloc (.cells #[.int .i64 0, .int .i64 0, .slice none 0 0, .slice none 0 0, .int .i64 0, .int .i64 0] 38)).heap[w.heap.size]? = some (.cells #[.int .i64 0, .int .i64 0, .slice none 0 0, .slice none 0 0, .int .i64 0, .int .i64 0] 38) := heap_alloc_new w _
  refine hK' _ _ (hK _ (K.alloc (Below.refl _ _) _) (by simp) (fun j hj => ⟨?_, ?_⟩))
  · unfold World.cell?
    simp only [hh, Nat.zero_add]
    rw [Array.getElem?_eq_getElem (by exact hj)]
    rfl
  · unfold World.frozen?
    simp only [hh]
    simp
theorem wpList_store_op (hgd : o.guard = none) (x y : Operand) (hop : o.op = Op.store 38 x y) {g : Nat} {ov : OpV} {w0 : World} (hx : a.eval x = .pointer (some ⟨g, 0, none⟩)) (hy : a.eval y = .agg ov.cells.toArray) (hB : Below w0.heap.size w0 w) (hg : w0.heap.size ≤ g) (hl : g < w.heap.size) (ht : w.there g 0 6) (hK : ∀ w', VarO w0 w' g ov → wpList Try.prog ops Q rest (a.put o.dst undef) w') : wpList Try.prog ops Q (o :: rest) a w :=
  wpList_store_mid hgd 38 x y hop g 0 ov.cells.toArray hx hy ht sizeOp (all_oneCell_toArray (opcells_one ov)) (hK _ ⟨below_sets g hg _ _ _ hB, hg, by rw [size_sets]; exact hl, World.rangeAt_setCells_same _ _ _ _ ht⟩)
end
theorem FzR.gro {w wr w' : World} {b lb mb : Nat} {D : DM} (h : FzR w wr b lb mb D) {v : Value} {n : Nat} {e : TypeId} {xs : List Value} (ho : wr.ownsRow w.heap.size e 1 v n xs) (hx : ∀ g, v.ownBlock = some g → X3 b lb mb g = false) (hG : wr.grownBy w' v.ownBlock) : FzR w w' b lb mb D := by
  have hne : ∀ k, X3 b lb mb k = true → some k ≠ v.ownBlock := fun k hk e => by
    rw [hx k e.symm] at hk
    cases hk
  refine ⟨h.d.same hG.size (fun k hk => hG.block k (by
      rcases X3_of.1 hk with rfl | rfl | rfl
      · exact h.d.bl
      · exact h.d.ll
      · exact h.d.mp.lt) (hne k hk)), h.b, h.l, h.m, ⟨hG.os.trans h.k.os, hG.tape.trans h.k.tape, hG.output.trans h.k.output, Nat.le_trans h.k.size hG.size, fun k hk => (hG.block k (Nat.lt_of_lt_of_le hk h.k.size) (fun e => ?_)).trans (h.k.block k hk)⟩⟩
  have := (ho.lt k e.symm).1
  omega
theorem own_form {w : World} {base n : Nat} {e : TypeId} {v : Value} {xs : List Value} (h : w.ownsRow base e 1 v n xs) (hn : 0 < n) : ∃ q cap, v = .slice (some ⟨q, 0, none⟩) n cap ∧ ∀ i, i < n → w.cell? ⟨q, i, none⟩ = xs[i]? := by
  rcases h.2 with ⟨_, h0⟩ | ⟨g, cap, cur, rfl, _⟩
  · omega
  · exact ⟨g, cap, rfl, fun i hi => by rw [h.cellAt i (by omega)]⟩
theorem sy_free {D : DM} (h1 : D.dn = false) (h2 : D.fu = none) : D.sy.dn = false ∧ D.sy.fu = none ∧ D.sy.n = D.n ∧ D.sy.nw = fun _ => none := by
  have hd : ¬ D.dn = true := by simp [h1]
  have hb : D.burn = D := by unfold DM.burn; rw [h2]
  have hm : D.may = true := by unfold DM.may; rw [h2]
  unfold DM.sy
  rw [if_neg hd, if_pos hm]
  show D.burn.dn = false ∧ D.burn.fu = none ∧ D.burn.n = D.n ∧ _
  rw [hb]
  exact ⟨h1, h2, rfl, rfl⟩
/-- What a disk with nothing written since tells. -/
theorem rd_last {D : DM} (h1 : D.dn = false) (h2 : D.nw = fun _ => none) {i : Nat} (hi : i < D.n) : D.rdB (i : Int) = D.la i ∧ D.rdE (i : Int) = 0 := by
  have hd : ¬ D.dn = true := by simp [h1]
  have hr : 0 ≤ (i : Int) ∧ (i : Int) < D.n := by omega
  refine ⟨?_, (if_neg hd).trans (if_pos hr)⟩
  refine ((if_neg hd).trans (if_pos hr)).trans ?_
  show (D.nw (i : Int).toNat).getD (D.la (i : Int).toNat) = _
  rw [h2]
  rfl
/-- What isn't written since is as it was behind a crash. -/
theorem cr_last {D : DM} (h1 : D.dn = false) (hf : D.fu = none) (h2 : D.nw = fun _ => none) (at_ : Int) (K : List Bool) (t a : Int) {i : Nat} (hc : D.wrE at_ 64 ≠ 0 ∨ (i : Int) ≠ at_) : ((D.wr at_ z64).cr K t a).la i = D.la i := by
  have hd : ¬ D.dn = true := by simp [h1]
  have hb : D.burn = D := by unfold DM.burn; rw [hf]
  have hm : D.may = true := by unfold DM.may; rw [hf]
  have key : ∀ (E : DM), E.la = D.la → E.nw i = none → (E.cr K t a).la i = D.la i := fun E e1 e2 => by
    show (match E.nw i with | none => E.la i | some s => mix (lv K t a (rk E.nw i)) s (E.la i)) = D.la i
    rw [e2]
    show E.la i = D.la i
    rw [e1]
  have e64 : z64.length = 64 := z64_sec.1
  unfold DM.wrE at hc
  rw [if_neg hd] at hc
  unfold DM.wr
  rw [if_neg hd]
  by_cases hr : 0 ≤ at_ ∧ at_ < D.n
  · rw [if_pos hr, if_pos rfl, if_pos hm] at hc
    rw [if_pos hr, if_pos e64, if_pos hm]
    refine key _ (burn_la D) ?_
    show upd D.nw at_.toNat (some z64) i = none
    have : i ≠ at_.toNat := by
      rcases hc with hc | hc
      · exact absurd rfl hc
      · omega
    unfold upd
    rw [if_neg this, h2]
  · rw [if_neg hr]
    exact key D rfl (by rw [h2])
structure LaP (w wr : World) (b lb mb : Nat) (D : DM) (v : Value) (m : Nat) (cs : List Value) : Prop where
  f : FzR w wr b lb mb D
  a : AllR w wr b lb mb v m D.la cs
/-- While the sectors are compared. -/
def CmR (w wr : World) (b lb mb : Nat) (D D3 : DM) (v : Value) (k : Nat) (cs : List Value) : Prop := FzR w wr b lb mb D3 ∧ AllR w wr b lb mb v k D.la cs
set_option maxRecDepth 100000 in
set_option maxHeartbeats 16000000 in
theorem diskLasts_any {u : Nat} (hu : u < 256) {at_ : Int} {z : Option Addr} {m c : Nat} {O : Nat → OpV} {zf : Option Addr} {KL : List Bool} {cf : Nat} (t a : Int) {w : World} (hO : OpsAt w z m O) (hK : Kb w zf KL) :
    Calls Try.prog 4 #[.agg #[.int .u8 (u : Int), .int .i64 at_, .slice z m c], .agg #[.slice zf KL.length cf, .int .i64 t, .int .i64 a]] w (OkT w) := by
  have HO := hide hO
  have HKf := hide hK
  obtain ⟨k, hk⟩ : ∃ k : Nat, k = 1 + u % 40 := ⟨_, rfl⟩
  clear hO hK
  go_enter Try.func4, Try.ntmps4
  go_upto_region 1 with fail
  refine wp_let (fun W1 hW1 => ?_)
  obtain ⟨sb, hsb⟩ : ∃ sb, sb = w.heap.size := ⟨_, rfl⟩
  rw [← hsb]
  have HB1 : Hid (Below w.heap.size w W1) := by show Below _ _ _; rw [hW1]; exact K.alloc (K.alloc (Below.refl _ _) _) _
  have HS : Hid (W1.rangeAt sb 0 [.int .u8 (u : Int), .int .i64 at_, .slice z m c] ∧ W1.rangeAt (sb + 1) 0 [.slice zf KL.length cf, .int .i64 t, .int .i64 a] ∧ sb + 1 < W1.heap.size) := by
    have h0 : (w.alloc (.cells #[.int .u8 (u : Int), .int .i64 at_, .slice z m c] 44)).heap[w.heap.size]? = some (.cells #[.int .u8 (u : Int), .int .i64 at_, .slice z m c] 44) := heap_alloc_new w _
    have h1 : W1.heap[sb + 1]? = some (.cells #[.slice zf KL.length cf, .int .i64 t, .int .i64 a] 36) := by
      rw [hW1, hsb]
      have := heap_alloc_new (w.alloc (.cells #[.int .u8 (u : Int), .int .i64 at_, .slice z m c] 44)) (.cells #[.slice zf KL.length cf, .int .i64 t, .int .i64 a] 36)
      simpa using this
    have h2 : W1.heap[sb]? = some (.cells #[.int .u8 (u : Int), .int .i64 at_, .slice z m c] 44) := by
      rw [hW1, hsb, Below.heap_alloc _ _ _ (by simp)]
      exact h0
    refine ⟨fun j v hv => ?_, fun j v hv => ?_, (Array.getElem?_eq_some_iff.1 h1).1⟩
    · unfold World.cell?
      simp only [h2, Nat.zero_add]
      simpa using hv
    · unfold World.cell?
      simp only [h1, Nat.zero_add]
      simpa using hv
  clear hW1 hsb
  refine wp_region_noPanic ?_
  refine wp_region_held_drew (S := fun w' => w'.rangeAt sb 0 [.int .u8 (u : Int), .int .i64 at_, .slice z m c]) (by kernel_rfl) HS.out.1 (fun hS0 => ?_)
  refine wpAnyH_take (i := 0) (v := .pointer (some ⟨sb, 0, none⟩)) rfl (by kernel_rfl) (by kernel_rfl) (by kernel_rfl) (fun _ _ _ h => h) (Or.inl ⟨by rfl, fun w' _ => by go_simp⟩) hS0 ?_
  simp only [Act.put, List.getElem_toArray, List.getElem_cons_zero, List.setIfInBounds_toArray, List.set_cons_zero, List.set_cons_succ]
  refine wpAnyH_take (i := 1) (v := .int .u8 (u : Int)) rfl (by kernel_rfl) (by kernel_rfl) (by kernel_rfl) (fun _ _ _ h => h) (Or.inl ⟨by rfl, fun w' hS => by have hc := hS 0 _ rfl; go_simp⟩) hS0 ?_
  simp only [Act.put, List.getElem_toArray, List.getElem_cons_zero, List.getElem_cons_succ, List.setIfInBounds_toArray, List.set_cons_zero, List.set_cons_succ]
  refine wpAnyH_take (i := 2) (v := .pointer (some ⟨sb, 1, none⟩)) rfl (by kernel_rfl) (by kernel_rfl) (by kernel_rfl) (fun _ _ _ h => h) (Or.inl ⟨by rfl, fun w' _ => by go_simp⟩) hS0 ?_
  simp only [Act.put, List.getElem_toArray, List.getElem_cons_zero, List.getElem_cons_succ, List.setIfInBounds_toArray, List.set_cons_zero, List.set_cons_succ]
  refine wpAnyH_take (i := 3) (v := .int .i64 at_) rfl (by kernel_rfl) (by kernel_rfl) (by kernel_rfl) (fun _ _ _ h => h) (Or.inl ⟨by rfl, fun w' hS => by have hc := hS 1 _ rfl; go_simp⟩) hS0 ?_
  simp only [Act.put, List.getElem_toArray, List.getElem_cons_zero, List.getElem_cons_succ, List.setIfInBounds_toArray, List.set_cons_zero, List.set_cons_succ]
  refine wpAnyH_take (i := 4) (v := .pointer (some ⟨sb, 2, none⟩)) rfl (by kernel_rfl) (by kernel_rfl) (by kernel_rfl) (fun _ _ _ h => h) (Or.inl ⟨by rfl, fun w' _ => by go_simp⟩) hS0 ?_
  simp only [Act.put, List.getElem_toArray, List.getElem_cons_zero, List.getElem_cons_succ, List.setIfInBounds_toArray, List.set_cons_zero, List.set_cons_succ]
  refine wpAnyH_take (i := 5) (v := .slice z m c) rfl (by kernel_rfl) (by kernel_rfl) (by kernel_rfl) (fun _ _ _ h => h) (Or.inl ⟨by rfl, fun w' hS => by have hc := hS 2 _ rfl; go_simp⟩) hS0 ?_
  simp only [Act.put, List.getElem_toArray, List.getElem_cons_zero, List.getElem_cons_succ, List.setIfInBounds_toArray, List.set_cons_zero, List.set_cons_succ]
  refine wpAnyH_take (i := 6) (v := .int .u8 (u : Int)) rfl (by kernel_rfl) (by kernel_rfl) (by kernel_rfl) (fun _ _ _ h => h) (Or.inl ⟨by rfl, fun w' _ => by go_simp⟩) hS0 ?_
  simp only [Act.put, List.getElem_toArray, List.getElem_cons_zero, List.getElem_cons_succ, List.setIfInBounds_toArray, List.set_cons_zero, List.set_cons_succ]
  refine wpAnyH_take (i := 7) (v := .int .i64 at_) rfl (by kernel_rfl) (by kernel_rfl) (by kernel_rfl) (fun _ _ _ h => h) (Or.inl ⟨by rfl, fun w' _ => by go_simp⟩) hS0 ?_
  simp only [Act.put, List.getElem_toArray, List.getElem_cons_zero, List.getElem_cons_succ, List.setIfInBounds_toArray, List.set_cons_zero, List.set_cons_succ]
  refine wpAnyH_take (i := 8) (v := .slice z m c) rfl (by kernel_rfl) (by kernel_rfl) (by kernel_rfl) (fun _ _ _ h => h) (Or.inl ⟨by rfl, fun w' _ => by go_simp⟩) hS0 ?_
  simp only [Act.put, List.getElem_toArray, List.getElem_cons_zero, List.getElem_cons_succ, List.setIfInBounds_toArray, List.set_cons_zero, List.set_cons_succ]
  refine wpAnyH_done (by kernel_rfl) ?_ _
  refine NoPanic.normal ?_
  have HBd := hide (K.drew HB1.out)
  have HO1 := hide (HO.out.keep HBd.out)
  have HKf1 := hide (HKf.out.keep HBd.out)
  have HSd : Hid (W1.drew.rangeAt (sb + 1) 0 [.slice zf KL.length cf, .int .i64 t, .int .i64 a] ∧ sb + 1 < W1.drew.heap.size) := HS.out.2
  clear HS hS0 HB1
  go_upto_region 2 with fail
  refine wp_let (fun X0 hX0 => ?_)
  rw [← hX0] at HBd HO1 HKf1 HSd
  clear hX0
  by_cases hkl : KL.length ≤ 200
  · have hkd : decide ((200 : Int) < (KL.length : Int)) = false := decide_eq_false (by omega)
    go_upto_region 4 with (first
      | (go_at_call 8; refine Calls.mono (awake_any _) ?_; rintro e W2 ⟨rfl, hB2⟩; have hcf := later hB2 (HSd.out.1 0 _ rfl); rw [Nat.zero_add] at hcf; have HB2 := hide hB2; clear hB2)
      | (go_at_call 9; refine Calls.mono (few_any (HO1.out.keep HB2.out)) ?_; rintro e W3 ⟨r, rfl, rfl, hr⟩; replace hr := hide hr)
      | (go_at_call 8; refine Calls.mono (awake_any _) ?_; rintro e W4 ⟨rfl, hB4⟩))
    all_goals first | (go_ret; exact ⟨rfl, K.call (K.call HBd.out HB2.out) hB4⟩) | skip
    obtain ⟨hm100, hops⟩ := hr.out (by assumption)
    have HKu : Hid (0 < k ∧ k ≤ 40) := ⟨by omega, by omega⟩
    have hcf3 := HSd.out
    have HO3 := hide (HO1.out.keep HB2.out)
    have HK3 := hide (HKf1.out.keep HB2.out)
    have HF3 : Hid (W3.rangeAt (sb + 1) 0 [.slice zf KL.length cf, .int .i64 t, .int .i64 a] ∧ sb + 1 < W3.heap.size) := ⟨fun j v hv => later HB2.out (HSd.out.1 j v hv), Nat.lt_of_lt_of_le HSd.out.2 HB2.out.size⟩
    have HB3 := hide (K.call HBd.out HB2.out)
    have HM := hide (And.intro hm100 hops)
    clear hcf3 HO HO1 HKf HKf1 HSd HBd HB2 hr hops hcf
    go_upto_region 5 with fail
    rw [show (1 + (u : Int) % 40) = (k : Int) by omega]
    clear hk hu
    go_wp2_with (go_at_call 10; refine Calls.mono (new_any (n := k) (by have := HKu.out; omega) _) ?_; rintro e W4 ⟨b, lb, mb, rfl, hD, h1, h2, h3, hB⟩; have HR := hide (FzR.mk hD h1 h2 h3 hB); clear hD h1 h2 h3 hB)
    go_loopg [11] m (fun g' s11 wr => ∃ i : Nat, g' = m - i ∧ i ≤ m ∧ s11 = .int .i64 (i : Int) ∧ FzR W3 wr b lb mb (lp k O i))
    case atStart => exact ⟨0, rfl, Nat.zero_le _, rfl, HR.out⟩
    case round =>
      clear HR
      obtain ⟨i, rfl, hi, rfl, hR⟩ := hrel
      have HR := hide hR
      clear hR
      by_cases hlt : i < m
      · obtain ⟨pb, po, rfl, hpc⟩ := HO3.out.cells (by omega)
        have HPC := hide (hpc i hlt)
        have HOk := hide (HO3.out.r i hlt)
        have hlt' : (i : Int) < (m : Int) := by omega
        clear hpc
        go_upto_region 10 with (first
          | (refine wpList_load_op rfl _ rfl (by rfl) (fun j v hv => later HR.out.k (HPC.out j v hv)) ?_)
          | (refine wpList_alloc_op rfl rfl ?_; intro W5 hB5 hs5 ht5)
          | (refine wpList_store_op rfl _ _ rfl (by rfl) (by rfl) hB5 (Nat.le_refl _) (by omega) ht5 ?_; intro W6 V6; clear hB5 hs5 ht5))
        go_frame
        have hgx : X3 b lb mb wr.heap.size = false := HR.out.out (Nat.le_refl _)
        have HR6 := hide (HR.out.grow V6.bl)
        have HM1 := HM.out.1
        by_cases h1 : (O i).kd = 1
        · skip
          have k1 : ((O i).kd == 1) = true := by simp; omega
          have k2 : ((O i).kd == 2) = false := by simp; omega
          have k4 : ((O i).kd == 4) = false := by simp; omega
          have c0 := V6.r 0 _ rfl
          have c1 := V6.r 1 _ rfl
          have c2 := V6.r 2 _ rfl
          simp only [Nat.zero_add] at c0 c1 c2
          go_wp2_with (go_at_call 15; refine Calls.mono (write_any HR6.out.d _ (HOk.out.b.keep HR6.out.k) (ba_ahead HR6.out HOk.out.b)) ?_; rintro e W7 ⟨rfl, hD7, hK7⟩; have HR7 := hide (HR6.out.next hD7 hK7); have c0' := (hK7.cell (p := ⟨wr.heap.size, 0, none⟩) V6.lt hgx).trans c0; clear hD7 hK7)
          go_roundg (m - (i + 1))
          case measure => omega
          case rel => exact ⟨i + 1, rfl, by omega, by simp, by
            have e : lp k O (i + 1) = (lp k O i).wr (O i).i (fl (O i).f (O i).m) := if_pos h1
            rw [e]
            exact HR7.out⟩
        by_cases h2 : (O i).kd = 2
        · skip
          have k1 : ((O i).kd == 1) = false := by simp; omega
          have k2 : ((O i).kd == 2) = true := by simp; omega
          have k4 : ((O i).kd == 4) = false := by simp; omega
          have c0 := V6.r 0 _ rfl
          simp only [Nat.zero_add] at c0
          go_wp2_with (go_at_call 16; refine Calls.mono (sync_any HR6.out.d) ?_; rintro e W7 ⟨rfl, hD7, hK7⟩; have HR7 := hide (HR6.out.next hD7 hK7); have c0' := (hK7.cell (p := ⟨wr.heap.size, 0, none⟩) V6.lt hgx).trans c0; clear hD7 hK7)
          go_roundg (m - (i + 1))
          case measure => omega
          case rel => exact ⟨i + 1, rfl, by omega, by simp, by
            have e : lp k O (i + 1) = (lp k O i).sy := (if_neg h1).trans (if_pos h2)
            rw [e]
            exact HR7.out⟩
        by_cases h4 : (O i).kd = 4
        · skip
          have k1 : ((O i).kd == 1) = false := by simp; omega
          have k2 : ((O i).kd == 2) = false := by simp; omega
          have k4 : ((O i).kd == 4) = true := by simp; omega
          have c0 := V6.r 0 _ rfl
          have c3 := V6.r 3 _ rfl
          have c4 := V6.r 4 _ rfl
          have c5 := V6.r 5 _ rfl
          simp only [Nat.zero_add] at c0 c3 c4 c5
          go_wp2_with (go_at_call 17; refine Calls.mono (crash_any HR6.out.d (HOk.out.k.keep HR6.out.k) (kb_ahead HR6.out HOk.out.k) _ _) ?_; rintro e W7 ⟨⟨vc, rfl⟩, hD7, hK7⟩; have HR7 := hide (HR6.out.next hD7 hK7); clear hD7 hK7)
          go_roundg (m - (i + 1))
          case measure => omega
          case rel => exact ⟨i + 1, rfl, by omega, by simp, by
            have e : lp k O (i + 1) = (lp k O i).cr (O i).KL (O i).t (O i).a := (if_neg h1).trans ((if_neg h2).trans (if_pos h4))
            rw [e]
            exact HR7.out⟩
        · skip
          have k1 : ((O i).kd == 1) = false := by simp; omega
          have k2 : ((O i).kd == 2) = false := by simp; omega
          have k4 : ((O i).kd == 4) = false := by simp; omega
          have c0 := V6.r 0 _ rfl
          simp only [Nat.zero_add] at c0
          have HR7 := HR6
          go_wp2_with fail
          go_roundg (m - (i + 1))
          case measure => omega
          case rel => exact ⟨i + 1, rfl, by omega, by simp, by
            have e : lp k O (i + 1) = lp k O i := (if_neg h1).trans ((if_neg h2).trans (if_neg h4))
            rw [e]
            exact HR7.out⟩
      · obtain rfl : i = m := by omega
        obtain ⟨f1, f2, f3⟩ := lp_free k O i
        obtain ⟨g1, g2, g3, g4⟩ := sy_free f1 f2
        obtain ⟨D1, hD1⟩ : ∃ D1, D1 = (lp k O i).sy := ⟨_, rfl⟩
        rw [f3] at g3
        rw [← hD1] at g1 g2 g3 g4
        have HE := hide hD1
        have HG := hide (And.intro g1 (And.intro g2 (And.intro g3 g4)))
        have hnlt : ¬ (i : Int) < (i : Int) := by omega
        clear f1 f2 f3 g1 g2 g3 g4 hD1 hlt hi
        go_wp2_with (go_at_call 16; refine Calls.mono (sync_any HR.out.d) ?_; rintro e W7 ⟨rfl, hD7, hK7⟩; rw [← HE.out] at hD7; have HR7 := hide (HR.out.next hD7 hK7); clear hD7 hK7)
        clear HR HE
        go_loopg [13, 14] k (fun g' s13 s14 wr => ∃ (i : Nat) (cs : List Value), g' = k - i ∧ i ≤ k ∧ s14 = .int .i64 (i : Int) ∧ LaP W3 wr b lb mb D1 s13 i cs)
        case atStart => exact ⟨0, [], rfl, Nat.zero_le _, rfl, ⟨HR7.out, AllR.nil _ _ _ _ _ _⟩⟩
        case round =>
          clear HR7
          obtain ⟨i2, cs, rfl, hi2, rfl, hL⟩ := hrel
          have HR := hide hL.f
          have HA := hide hL.a
          clear hL
          by_cases hlt2 : i2 < k
          · have hlt2' : (i2 : Int) < (k : Int) := by omega
            have HRd := hide (rd_last HG.out.1 HG.out.2.2.2 (i := i2) (by rw [HG.out.2.2.1]; exact hlt2))
            have HS2 := hide (HR.out.d.ok.la i2)
            have hk40 := HKu.out.2
            go_wp2_with (first
              | (go_at_call 18; refine Calls.mono (read_any HR.out.d _) ?_; rw [HRd.out.1, HRd.out.2]; rintro e W8 ⟨vr, rfl, hN, hB8⟩; obtain ⟨g, rfl, hg1, hg2, hg3⟩ := hN.resolve_left (fun h => by have := HS2.out.1; rw [h.1] at this; cases this); rw [HS2.out.1]; have HN := hide (And.intro hg1 (And.intro hg2 hg3)); have HB8 := hide hB8; clear hg1 hg2 hg3 hN hB8)
              | (refine wpList_app1 (e := .slice (some ⟨g, 0, none⟩) 64 64) (q := W8.heap.size) (n := i2) (xs := cs) rfl _ _ rfl (by rfl) ((HA.out.kp (Kp.of HB8.out)).kp (Kp.of (K.alloc (Below.refl _ _) _))).o (by rfl) (by simp [go_sem]) rfl (by omega) (by have := HR.out.k.size; have := HB8.out.size; simp; omega) ?_; intro v' W10 ho hG hat))
            have HA9 := (HA.out.kp (Kp.of HB8.out)).kp (Kp.of (K.alloc (Below.refl _ W8) (.cells #[.slice (some ⟨g, 0, none⟩) 64 64] 33)))
            have hs8 := HB8.out.size
            have hA10 := HA9.add (g := g) (fun j v hv => later (K.alloc (Below.refl _ W8) _) (HN.out.2.2 j v hv)) (by have := HN.out.2.1; simp; omega) (HR.out.out HN.out.1) (fun e => by have := (HA.out.o.lt g e).2; have := HN.out.1; omega) ho hG hat (HR.out.out (by simp; omega))
            have hR10 := ((HR.out.grow HB8.out).grow (K.alloc (Below.refl _ W8) (.cells #[.slice (some ⟨g, 0, none⟩) 64 64] 33))).gro HA9.o HA9.x hG
            have HX := hide (LaP.mk hR10 hA10)
            clear hA10 hR10 HA9 ho hG hat hs8
            go_wp2_with fail
            go_roundg (k - (i2 + 1))
            case measure => omega
            case rel => exact ⟨i2 + 1, _, rfl, by omega, by simp, HX.out⟩
          · obtain rfl : i2 = k := by omega
            obtain ⟨q, cap, rfl, hqc⟩ := own_form HA.out.o HKu.out.1
            have HQ := hide hqc
            obtain ⟨er, her⟩ : ∃ er, er = D1.wrE at_ 64 := ⟨_, rfl⟩
            have HEr := hide her
            have hnlt2 : ¬ (i2 : Int) < (i2 : Int) := by omega
            have hmk := run_mk64
            clear her hqc hlt2 hi2
            go_wp2_with (first
              | (go_at_call 15; have HR8 := hide (HR.out.grow (K.alloc (Below.refl _ _) o64)); have HA8 := hide (HA.out.kp (Kp.of (K.alloc (Below.refl _ _) o64))); have HX8 := hide (HR.out.out (Nat.le_refl _)); refine Calls.mono (write_any HR8.out.d _ (ba64 _) (fun _ p hp => by cases hp; exact HX8.out)) ?_; rw [fl0_64]; rintro e W9 ⟨rfl, hD9, hK9⟩; rw [← HEr.out]; have HR9 := hide (HR8.out.next hD9 hK9); have HA9 := hide (HA8.out.kp hK9); have cf0 := later HR9.out.k (HF3.out.1 0 _ rfl); have cf1 := later HR9.out.k (HF3.out.1 1 _ rfl); have cf2 := later HR9.out.k (HF3.out.1 2 _ rfl); simp only [Nat.zero_add] at cf0 cf1 cf2; clear hD9 hK9 HR8 HA8 HX8)
              | (go_at_call 17; refine Calls.mono (crash_any HR9.out.d (HK3.out.keep HR9.out.k) (kb_ahead HR9.out HK3.out) _ _) ?_; rintro e W10 ⟨⟨vc, rfl⟩, hD10, hK10⟩; have HR10 := hide (HR9.out.next hD10 hK10); have HA10 := hide (HA9.out.kp hK10); clear hD10 hK10))
            have HOk1 := hide HR.out.d.ok.la
            obtain ⟨D3, hD3⟩ : ∃ D3, D3 = (D1.wr at_ z64).cr KL t a := ⟨_, rfl⟩
            have HE3 := hide hD3
            rw [← hD3] at HR10
            have HG3 : Hid (D3.dn = false ∧ D3.nw = (fun _ => none) ∧ D3.n = i2) := by
              rw [hD3]
              refine ⟨rfl, rfl, ?_⟩
              show (D1.wr at_ z64).n = i2
              have : (D1.wr at_ z64).n = D1.n := by
                unfold DM.wr
                repeat' split
                all_goals first | rfl | exact burn_n D1
              rw [this]
              exact HG.out.2.2.1
            clear hD3 HR HA HR9 HA9 cf0 cf1 cf2
            go_loopg [18] i2 (fun g' s18 wr => ∃ (j : Nat), g' = i2 - j ∧ j ≤ i2 ∧ s18 = .int .i64 (j : Int) ∧ CmR W3 wr b lb mb D1 D3 (.slice (some ⟨q, 0, none⟩) i2 cap) i2 cs)
            case atStart => exact ⟨0, rfl, Nat.zero_le _, rfl, HR10.out, HA10.out⟩
            case round =>
              clear HR10 HA10
              obtain ⟨j, rfl, hj, rfl, hR, hA⟩ := hrel
              have HR := hide hR
              have HA := hide hA
              clear hR hA
              by_cases hltj : j < i2
              · have hltj' : (j : Int) < (i2 : Int) := by omega
                have HRd := hide (rd_last HG3.out.1 HG3.out.2.1 (i := j) (by rw [HG3.out.2.2]; exact hltj))
                have HS2 := hide (HR.out.d.ok.la j)
                obtain ⟨gj, ecs, hgj, _, _, _⟩ := HA.out.e j hltj
                have HGj := hide hgj
                have HCq : Hid (wr.cell? ⟨q, j, none⟩ = some (.slice (some ⟨gj, 0, none⟩) 64 64)) := (HA.out.o.cellAt j (by have := HA.out.o.1; omega)).trans ecs
                have HS1 : Hid (sec (D1.la j)) := HOk1.out j
                have hk40 := HKu.out.2
                clear hgj ecs
                by_cases hc : er ≠ 0 ∨ (j : Int) ≠ at_
                · have HEq : Hid (D3.la j = D1.la j) := by
                    have hcc := hc
                    rw [HEr.out] at hcc
                    show D3.la j = _
                    rw [HE3.out]
                    exact cr_last HG.out.1 HG.out.2.1 HG.out.2.2.2 at_ KL t a hcc
                  by_cases h0 : er = 0
                  · subst h0
                    have hja : ((j : Int) == at_) = false := by
                      rcases hc with h | h
                      · exact absurd rfl h
                      · simpa using h
                    go_wp2_with (first
                      | (go_at_call 18; refine Calls.mono (read_any HR.out.d _) ?_; rw [HRd.out.1, HRd.out.2]; rintro e W11 ⟨vr, rfl, hN, hB11⟩; obtain ⟨g, rfl, hg1, hg2, hg3⟩ := hN.resolve_left (fun h => by have := HS2.out.1; rw [h.1] at this; cases this); rw [HS2.out.1]; have HN := hide hg3; have HB11 := hide hB11; have hcq := later hB11 HCq.out; clear hg1 hg2 hg3 hN hB11)
                      | (go_at_call 19; refine Calls.mono (same13 (ba_sec HN.out HS2.out) (ba_sec (fun x u hu => later HB11.out (HGj.out x u hu)) HS1.out) (by omega)) ?_; rw [fl_of HS2.out.1, fl_of HS1.out.1, HEq.out]; rintro e W12 ⟨rfl, hB12⟩; have HB12 := hide hB12; clear hB12))
                    go_roundg (i2 - (j + 1))
                    case measure => omega
                    case rel => exact ⟨j + 1, rfl, by omega, by simp, (HR.out.grow HB11.out).grow HB12.out, (HA.out.kp (Kp.of HB11.out)).kp (Kp.of HB12.out)⟩
                  · have he0 : (er == 0) = false := by simpa using h0
                    go_wp2_with (first
                      | (go_at_call 18; refine Calls.mono (read_any HR.out.d _) ?_; rw [HRd.out.1, HRd.out.2]; rintro e W11 ⟨vr, rfl, hN, hB11⟩; obtain ⟨g, rfl, hg1, hg2, hg3⟩ := hN.resolve_left (fun h => by have := HS2.out.1; rw [h.1] at this; cases this); rw [HS2.out.1]; have HN := hide hg3; have HB11 := hide hB11; have hcq := later hB11 HCq.out; clear hg1 hg2 hg3 hN hB11)
                      | (go_at_call 19; refine Calls.mono (same13 (ba_sec HN.out HS2.out) (ba_sec (fun x u hu => later HB11.out (HGj.out x u hu)) HS1.out) (by omega)) ?_; rw [fl_of HS2.out.1, fl_of HS1.out.1, HEq.out]; rintro e W12 ⟨rfl, hB12⟩; have HB12 := hide hB12; clear hB12))
                    go_roundg (i2 - (j + 1))
                    case measure => omega
                    case rel => exact ⟨j + 1, rfl, by omega, by simp, (HR.out.grow HB11.out).grow HB12.out, (HA.out.kp (Kp.of HB11.out)).kp (Kp.of HB12.out)⟩
                · have h0 : er = 0 := Decidable.byContradiction (fun h => hc (Or.inl h))
                  have hja : (j : Int) = at_ := Decidable.byContradiction (fun h => hc (Or.inr h))
                  subst h0
                  subst hja
                  clear hc
                  go_wp2_with (first
                    | (go_at_call 18; refine Calls.mono (read_any HR.out.d _) ?_; rw [HRd.out.1, HRd.out.2]; rintro e W11 ⟨vr, rfl, hN, hB11⟩; obtain ⟨g, rfl, hg1, hg2, hg3⟩ := hN.resolve_left (fun h => by have := HS2.out.1; rw [h.1] at this; cases this); rw [HS2.out.1]; have HN := hide hg3; have HB11 := hide hB11; have hcq := later hB11 HCq.out; clear hg1 hg2 hg3 hN hB11))
                  go_roundg (i2 - (j + 1))
                  case measure => omega
                  case rel => exact ⟨j + 1, rfl, by omega, by simp, HR.out.grow HB11.out, HA.out.kp (Kp.of HB11.out)⟩
              · obtain rfl : j = i2 := by omega
                go_wp2_with (go_at_call 14; refine Calls.mono (down_any HR.out.d) ?_; rintro e W11 ⟨rfl, rfl⟩; rw [HG3.out.1])
                go_ret
                exact ⟨rfl, K.call HB3.out HR.out.k⟩
  · have hkd : (200 : Int) < (KL.length : Int) := by omega
    go_wp2_with (first
      | (go_at_call 8; refine Calls.mono (awake_any _) ?_; rintro e W2 ⟨rfl, hB2⟩; have hcf := later hB2 (HSd.out.1 0 _ rfl); rw [Nat.zero_add] at hcf; have HB2 := hide hB2; clear hB2)
      | (go_at_call 9; refine Calls.mono (few_any (HO1.out.keep HB2.out)) ?_; rintro e W3 ⟨r, rfl, rfl, hr⟩; replace hr := hide hr)
      | (go_at_call 8; refine Calls.mono (awake_any _) ?_; rintro e W4 ⟨rfl, hB4⟩))
    all_goals (go_ret; exact ⟨rfl, K.call (K.call HBd.out HB2.out) hB4⟩)
end Go.Proofs.Ytmifmgnlfjahmaa
