/- Layer 17: the program's own join and Push. -/
import Derived.Test.YtjobcffelbddcaaDoorP17B
import Derived.RangeFuncBox
namespace Go.Proofs.YtjobcffelbddcaaDoor
set_option maxRecDepth 100000
open Go.RowKit
attribute [local go_sem ↓] Go.wp_at_zero Go.wp_at_succ

theorem zeros33 : (#[.int .u8 0, .int .u8 0, .int .u8 0, .int .u8 0, .int .u8 0, .int .u8 0, .int .u8 0, .int .u8 0, .int .u8 0, .int .u8 0, .int .u8 0, .int .u8 0, .int .u8 0, .int .u8 0, .int .u8 0, .int .u8 0, .int .u8 0, .int .u8 0, .int .u8 0, .int .u8 0, .int .u8 0, .int .u8 0, .int .u8 0, .int .u8 0, .int .u8 0, .int .u8 0, .int .u8 0, .int .u8 0, .int .u8 0, .int .u8 0, .int .u8 0, .int .u8 0, .int .i64 0] : Array Value) = (pa z17).toArray := by kernel_rfl
/-- All but one block of X stays; in it there are cells for a part. -/
structure SG (X : World) (g : Nat) (w' : World) : Prop where
  gr : X.grownBy w' (some g)
  lt : g < X.heap.size
  th : w'.there g 0 33
theorem SG.start {X : World} {g : Nat} (h : X.there g 0 33) (hl : g < X.heap.size) : SG X g X.drew := ⟨grown_of (K.drew (Below.refl _ X)) _, hl, fun j hj => h j hj⟩
theorem there_keep {W w1 : World} {g n : Nat} (h : W.there g 0 n) (hl : g < W.heap.size) (hb : Below W.heap.size W w1) : w1.there g 0 n := fun j hj => by
  obtain ⟨h1, h2⟩ := h j hj
  exact ⟨by rw [hb.cell (p := ⟨g, 0 + j, none⟩) hl]; exact h1, (hb.frozen (p := ⟨g, 0 + j, none⟩) hl).trans h2⟩
theorem SG.start2 {X : World} {g : Nat} (h : X.there g 0 33) (hl : g < X.heap.size) : SG X g X.drew.drew := ⟨grown_of (K.drew (K.drew (Below.refl _ X))) _, hl, fun j hj => h j hj⟩
theorem SG.call {X w1 w2 : World} {g : Nat} (h : SG X g w1) (hb : Below w1.heap.size w1 w2) : SG X g w2 :=
  ⟨grown_trans h.gr (grown_of hb _), h.lt, there_keep h.th (Nat.lt_of_lt_of_le h.lt h.gr.size) hb⟩
theorem laterG {W w1 : World} {r : Option Nat} {p : Addr} {v : Value} (hg : W.grownBy w1 r) (hn : some p.block ≠ r) (h : W.cell? p = some v) : w1.cell? p = some v := by
  have hp : p.block < W.heap.size := by
    cases Nat.lt_or_ge p.block W.heap.size with
    | inl h => exact h
    | inr h' =>
      have : W.heap[p.block]? = none := by simp [h']
      simp [World.cell?, this] at h
  rw [World.cell?_of_block (hg.block _ hp hn)]
  exact h
theorem SG.cell {X w' : World} {g : Nat} {p : Addr} {v : Value} (h : SG X g w') (hn : p.block ≠ g) (hc : X.cell? p = some v) : w'.cell? p = some v := laterG h.gr (fun e => hn (Option.some.inj e)) hc
theorem SG.range {X w' : World} {g b o : Nat} {vs : List Value} (h : SG X g w') (hn : b ≠ g) (hc : X.rangeAt b o vs) : w'.rangeAt b o vs := fun j v hv => h.cell (p := ⟨b, o + j, none⟩) hn (hc j v hv)
theorem SG.put {X w' : World} {g : Nat} (h : SG X g w') (p : Pt2) : SG X g (w'.setCells g 0 (pa p).toArray.toList) ∧ (w'.setCells g 0 (pa p).toArray.toList).rangeAt g 0 (pa p) :=
  ⟨⟨grown_trans h.gr (grown_sets g _ 0 w'), h.lt, World.there_setCells h.th _ _ _⟩, World.rangeAt_setCells_same _ _ _ _ (by rw [List.toList_toArray, pa_len]; exact h.th)⟩
theorem SG.below {w X w' : World} {g : Nat} (h : SG X g w') (hb : Below w.heap.size w X) (hg : w.heap.size ≤ g) : Below w.heap.size w w' :=
  hb.grown h.gr hb.size (fun k hk => by cases hk; exact hg)
section
variable {w : World} {ops : Array Oper} {o : Oper} {a : Act} {Q : Exit → Act → World → Prop} {Kt : Act → World → Prop}
theorem wp_store_sg {X : World} (x y : Operand) (hop : o.op = Op.store 42 x y) {g : Nat} {p : Pt2} (hx : a.eval x = .pointer (some ⟨g, 0, none⟩)) (hy : a.eval y = pv p) (hv : SG X g w) (hK : ∀ w', SG X g w' → w'.rangeAt g 0 (pa p) → Kt (a.put o.dst undef) w') : Oper.wp Tryd.prog o a w Kt Q :=
  wp_store_mid 42 x y hop g 0 (pa p).toArray hx hy (by rw [List.size_toArray, pa_len]; exact hv.th) (inP p) (all_oneCell_toArray (pa_one p)) (hK _ (hv.put p).1 (hv.put p).2)
end
theorem box3 {w X : World} {p q : Pt2} (hX : X = ((w.alloc (.cells (pa p).toArray 42)).alloc (.cells (pa q).toArray 42)).alloc (.cells (pa z17).toArray 42)) :
    Below w.heap.size w X ∧ X.rangeAt w.heap.size 0 (pa p) ∧ X.rangeAt (w.heap.size + 1) 0 (pa q) ∧ X.there (w.heap.size + 2) 0 33 ∧ X.heap.size = w.heap.size + 3 := by
  have h1 := pvar_of (q := p) (Below.refl w.heap.size w)
  have h2 := pvar_of (q := q) h1.bl
  have h3 := pvar_of (q := z17) h2.bl
  have e1 : (w.alloc (.cells (pa p).toArray 42)).heap.size = w.heap.size + 1 := by simp
  have e2 : ((w.alloc (.cells (pa p).toArray 42)).alloc (.cells (pa q).toArray 42)).heap.size = w.heap.size + 2 := by simp
  rw [e1] at h2
  rw [e2] at h3
  subst hX
  exact ⟨h3.bl, range_keep (range_keep h1.r (K.alloc (Below.refl _ _) _)) (K.alloc (Below.refl _ _) _), range_keep h2.r (K.alloc (Below.refl _ _) _), h3.t, by simp⟩
/-- What one more part makes of two. -/
abbrev jo (p q : Pt2) : Pt2 := (nd p.1 q.1, p.2 + q.2)
set_option maxRecDepth 100000 in
set_option maxHeartbeats 8000000 in
theorem join_any {w : World} {p q : Pt2} (hT : Tab w) (hp : ∀ i, p.1 i < 256) (hq : ∀ i, q.1 i < 256) (hs : p.2 + q.2 ≤ 1000000) :
    Calls Tryd.prog 23 #[pv p, pv q] w fun e w' => e = .returned (pv (jo p q)) ∧ Below w.heap.size w w' := by
  have HT := hide hT
  have HF := hide (And.intro hp hq)
  obtain ⟨m, hm⟩ : ∃ m, p.2 + q.2 = m := ⟨_, rfl⟩
  have hw : IntKind.i64.wrap ((p.2 : Int) + (q.2 : Int)) = (m : Int) := by rw [IntKind.wrap_i64]; omega
  obtain ⟨s2, hs2⟩ : ∃ s2, nd p.1 q.1 = s2 := ⟨_, rfl⟩
  have HE : Hid (jo p q = (s2, m)) := by show (_, _) = _; rw [hs2, hm]
  clear hT hp hq hs hm
  go_enter Tryd.func23, Tryd.ntmps23
  go_upto_region 1 with fail
  refine wp_world (fun X hX => ?_)
  rw [zeros33] at hX
  obtain ⟨hB, hR1, hR2, hth, hsz⟩ := box3 hX
  clear hX
  obtain ⟨b0, hb0⟩ : ∃ b0, w.heap.size = b0 := ⟨_, rfl⟩
  have HTX := hide (HT.out.keep hB)
  rw [hb0] at hB hR1 hR2 hth hsz ⊢
  have HB := hide hB
  have HR1 := hide (pa_root hR1)
  have HR2 := hide (pa_root hR2)
  have hC1 := pa_size hR1
  have hC2 := pa_size hR2
  rw [Nat.zero_add] at hC1 hC2
  have HC1 := hide hC1
  have HC2 := hide hC2
  have HTh := hide hth
  have HLt : Hid (b0 + 2 < X.heap.size) := by show _ < _; omega
  have HN := hide (fun W (h : SG X (b0 + 2) W) (hT : Tab W) => node_any hT HF.out.1 HF.out.2)
  unfold hv at HN
  rw [hs2] at HN
  clear hB hR1 hR2 hC1 hC2 hth hsz HT hs2
  refine wp_region_noPanic ?_
  refine wp_region_held_drew (S := SG X (b0 + 2)) (by kernel_rfl) (SG.start HTh.out HLt.out) (fun hS0 => ?_)
  refine wpAnyH_take (i := 0) (v := .pointer (some ⟨b0, 0, none⟩)) rfl (by kernel_rfl) (by kernel_rfl) (by kernel_rfl) (fun _ _ _ h => h) (Or.inl ⟨by rfl, fun w' _ => by go_simp⟩) hS0 ?_
  simp only [Act.put, List.getElem_toArray, List.getElem_cons_zero, List.setIfInBounds_toArray, List.set_cons_zero, List.set_cons_succ]
  refine wpAnyH_take (i := 1) (v := .agg (ab p.1 32).toArray) rfl (by kernel_rfl) (by kernel_rfl) (by kernel_rfl) (fun _ _ _ h => h) (yieldsIf_load_mid (by rfl) 33 _ rfl b0 0 (by rfl) (ab p.1 32) _ (fun w' hS => SG.range hS (by show b0 ≠ b0 + 2; omega) HR1.out) Tryd.underlying33 rfl (ilH _)) hS0 ?_
  simp only [Act.put, List.getElem_toArray, List.getElem_cons_zero, List.getElem_cons_succ, List.setIfInBounds_toArray, List.set_cons_zero, List.set_cons_succ]
  refine wpAnyH_take (i := 2) (v := .pointer (some ⟨b0 + 1, 0, none⟩)) rfl (by kernel_rfl) (by kernel_rfl) (by kernel_rfl) (fun _ _ _ h => h) (Or.inl ⟨by rfl, fun w' _ => by go_simp⟩) hS0 ?_
  simp only [Act.put, List.getElem_toArray, List.getElem_cons_zero, List.getElem_cons_succ, List.setIfInBounds_toArray, List.set_cons_zero, List.set_cons_succ]
  refine wpAnyH_take (i := 3) (v := .agg (ab q.1 32).toArray) rfl (by kernel_rfl) (by kernel_rfl) (by kernel_rfl) (fun _ _ _ h => h) (yieldsIf_load_mid (by rfl) 33 _ rfl (b0 + 1) 0 (by rfl) (ab q.1 32) _ (fun w' hS => SG.range hS (by show b0 + 1 ≠ b0 + 2; omega) HR2.out) Tryd.underlying33 rfl (ilH _)) hS0 ?_
  simp only [Act.put, List.getElem_toArray, List.getElem_cons_zero, List.getElem_cons_succ, List.setIfInBounds_toArray, List.set_cons_zero, List.set_cons_succ]
  refine wpAnyH_take (i := 5) (v := .pointer (some ⟨b0, 32, none⟩)) rfl (by kernel_rfl) (by kernel_rfl) (by kernel_rfl) (fun _ _ _ h => h) (Or.inl ⟨by rfl, fun w' _ => by go_simp⟩) hS0 ?_
  simp only [Act.put, List.getElem_toArray, List.getElem_cons_zero, List.getElem_cons_succ, List.setIfInBounds_toArray, List.set_cons_zero, List.set_cons_succ]
  refine wpAnyH_take (i := 6) (v := .int .i64 (p.2 : Int)) rfl (by kernel_rfl) (by kernel_rfl) (by kernel_rfl) (fun _ _ _ h => h) (Or.inl ⟨by rfl, fun w' hS => by have hc := SG.cell hS (by show b0 ≠ b0 + 2; omega) HC1.out; go_simp⟩) hS0 ?_
  simp only [Act.put, List.getElem_toArray, List.getElem_cons_zero, List.getElem_cons_succ, List.setIfInBounds_toArray, List.set_cons_zero, List.set_cons_succ]
  refine wpAnyH_take (i := 7) (v := .pointer (some ⟨b0 + 1, 32, none⟩)) rfl (by kernel_rfl) (by kernel_rfl) (by kernel_rfl) (fun _ _ _ h => h) (Or.inl ⟨by rfl, fun w' _ => by go_simp⟩) hS0 ?_
  simp only [Act.put, List.getElem_toArray, List.getElem_cons_zero, List.getElem_cons_succ, List.setIfInBounds_toArray, List.set_cons_zero, List.set_cons_succ]
  refine wpAnyH_take (i := 8) (v := .int .i64 (q.2 : Int)) rfl (by kernel_rfl) (by kernel_rfl) (by kernel_rfl) (fun _ _ _ h => h) (Or.inl ⟨by rfl, fun w' hS => by have hc := SG.cell hS (by show b0 + 1 ≠ b0 + 2; omega) HC2.out; go_simp⟩) hS0 ?_
  simp only [Act.put, List.getElem_toArray, List.getElem_cons_zero, List.getElem_cons_succ, List.setIfInBounds_toArray, List.set_cons_zero, List.set_cons_succ]
  refine wpAnyH_take (i := 9) (v := .int .i64 (m : Int)) rfl (by kernel_rfl) (by kernel_rfl) (by kernel_rfl) (fun _ _ _ h => h) (Or.inl ⟨by rfl, fun w' _ => by go_simp⟩) hS0 ?_
  simp only [Act.put, List.getElem_toArray, List.getElem_cons_zero, List.getElem_cons_succ, List.setIfInBounds_toArray, List.set_cons_zero, List.set_cons_succ]
  refine wpAnyH_ready (rs := [4]) (by kernel_rfl) (by simp) (AllReadyH.cons rfl (fun Kt hK => ?_) AllReadyH.nil)
  refine wanted_pos rfl ?_
  refine wp_call (R := fun r w' => r = .agg (ab s2 32).toArray ∧ SG X (b0 + 2) w') (vs := #[.agg (ab p.1 32).toArray, .agg (ab q.1 32).toArray]) rfl (by simp only [List.map_toArray, List.map_cons, List.map_nil]; rfl) (by go_simp) (Calls.mono (HN.out _ hS0 (HTX.out.keep (Go.Proofs.YtjobcffelbddcaaDoor.K.drew (Below.refl _ X)))) (fun e w' ⟨he, hb⟩ => ⟨_, he, rfl, SG.call hS0 hb⟩)) (fun r W1 ⟨hr, hb⟩ => ?_)
  subst hr
  refine hK.out _ _ hb (fun hS1 => ?_)
  clear hK Kt hb
  simp only [Act.put, List.getElem_toArray, List.getElem_cons_zero, List.getElem_cons_succ, List.setIfInBounds_toArray, List.set_cons_zero, List.set_cons_succ]
  refine wpAnyH_take (i := 10) (v := pv (s2, m)) rfl (by kernel_rfl) (by kernel_rfl) (by kernel_rfl) (fun _ _ _ h => h) (yieldsIf_build_part (by rfl) _ _ rfl (by rfl) (by rfl)) hS1 ?_
  simp only [Act.put, List.getElem_toArray, List.getElem_cons_zero, List.getElem_cons_succ, List.setIfInBounds_toArray, List.set_cons_zero, List.set_cons_succ]
  refine wpAnyH_ready (rs := [11]) (by kernel_rfl) (by simp) (AllReadyH.cons rfl (fun Kt hK => ?_) AllReadyH.nil)
  refine wanted_pos rfl ?_
  refine wp_store_sg _ _ rfl (by rfl) (by rfl) hS1 (fun W2 hsg hrg => hK.out _ _ hsg (fun hS2 => ?_))
  have HRg := hide hrg
  clear hK Kt hsg hrg
  simp only [Act.put, List.getElem_toArray, List.getElem_cons_zero, List.getElem_cons_succ]
  refine wpAnyH_done (by kernel_rfl) ?_ _
  refine NoPanic.normal ?_
  go_wp2_with fail
  exact bodyPost_ret (results_cell_mid Tryd.results23 _ _ (b0 + 2) (pa (s2, m)) _ rfl HRg.out Tryd.underlying42 rfl (ilP _)) rfl ⟨by rw [HE.out], by subst hb0; exact SG.below hS2 HB.out (by omega)⟩
/-- A tree in memory: the block that bears it, and its parts. -/
def TrQ (w : World) (b : Nat) (Q : List Pt2) : Prop := ∃ v, Boxed w b 27 v ∧ OP w 0 v Q
theorem OP.kept {w w' : World} {base : Nat} {v : Value} {Q : List Pt2} {row : Option Nat} (h : OP w base v Q) (hg : w.grownBy w' row) (hn : v.ownBlock = none ∨ v.ownBlock ≠ row) : OP w' base v Q := by
  refine ⟨h.1, ?_⟩
  rcases h.2 with h0 | ⟨g, cap, cur, rfl, hb, hh, h1, h2, h3, h4⟩
  · exact Or.inl h0
  · refine Or.inr ⟨g, cap, cur, rfl, hb, ?_, h1, h2, h3, h4⟩
    rw [hg.block g (h.lt g rfl).2 (hn.resolve_left (fun e => by cases e))]
    exact hh
theorem OP.zero {w : World} {base : Nat} {v : Value} {Q : List Pt2} (h : OP w base v Q) : OP w 0 v Q := by
  refine ⟨h.1, ?_⟩
  rcases h.2 with h0 | ⟨g, cap, cur, rfl, _, hh, h1, h2, h3, h4⟩
  · exact Or.inl h0
  · exact Or.inr ⟨g, cap, cur, rfl, Nat.zero_le _, hh, h1, h2, h3, h4⟩
theorem TrQ.lt {w : World} {b : Nat} {Q : List Pt2} (h : TrQ w b Q) : b < w.heap.size := h.elim fun _ h => h.1.lt
theorem TrQ.keep {w w' : World} {b : Nat} {Q : List Pt2} (h : TrQ w b Q) (hb : Below w.heap.size w w') : TrQ w' b Q := by
  obtain ⟨v, h1, h2⟩ := h
  have hg := grown_of hb none
  refine ⟨v, h1.kept hg (by simp), h2.kept hg ?_⟩
  cases h : v.ownBlock with
  | none => exact Or.inl rfl
  | some g => exact Or.inr (by simp)
/-- Another tree is changed. -/
theorem TrQ.other {w w' : World} {b c : Nat} {Q : List Pt2} {u : Value} (h : TrQ w b Q) (hc : Boxed w c 27 u) (hg : w.grownBy w' (some c)) (hn : b ≠ c) : TrQ w' b Q := by
  obtain ⟨v, h1, h2⟩ := h
  exact ⟨v, h1.kept hg (fun e => hn (Option.some.inj e)), h2.kept hg (Or.inr (Ne.symm (hc.not_row (by decide) h2)))⟩
/-- A row of hashes is changed. -/
theorem TrQ.row {w w' : World} {b base n : Nat} {Q : List Pt2} {u : Value} {F : Nat → Nat → Nat} (h : TrQ w b Q) (hc : OH w base u n F) (hg : w.grownBy w' u.ownBlock) : TrQ w' b Q := by
  obtain ⟨v, h1, h2⟩ := h
  refine ⟨v, h1.kept hg (h1.not_row (by decide) hc), h2.kept hg ?_⟩
  rcases h2.2 with ⟨rfl, _⟩ | ⟨g, cap, cur, rfl, _, hh, _⟩
  · exact Or.inl rfl
  · refine Or.inr (fun e => ?_)
    rcases hc.2 with ⟨rfl, _⟩ | ⟨g2, cap2, cur2, rfl, _, hh2, _⟩
    · cases e
    · have e2 : g = g2 := Option.some.inj e
      subst e2
      rw [hh] at hh2
      cases hh2
/-- What Push leaves. -/
def PuP (w : World) (b : Nat) (R : List Pt2) (e : Ending) (w' : World) : Prop := (∃ v, e = .returned v) ∧ TrQ w' b R ∧ w.grownBy w' (some b)
theorem PuP.of {w W : World} {b : Nat} {v v' : Value} {R : List Pt2} {base : Nat} (hv : Boxed w b 27 v) (hB : Below w.heap.size w W) (hO : OP W base v' R) :
    TrQ (W.setCell ⟨b, 0, none⟩ v') b R ∧ w.grownBy (W.setCell ⟨b, 0, none⟩ v') (some b) := by
  have hw : Boxed W b 27 v := hv.kept (grown_of hB none) (by simp)
  exact ⟨⟨v', hw.set v', hO.zero.kept (grownBy_setCell' W b v') (Or.inr (Ne.symm (hw.not_row (by decide) hO)))⟩, grown_trans (grown_of hB _) (grownBy_setCell' W b v')⟩
/-- While parts are joined: k parts are left below, p is the top. -/
structure PuR (w wr : World) (tb : Nat) (Q : List Pt2) (t : Pt2) (k : Nat) (p : Pt2) : Prop where
  le : k ≤ Q.length
  bl : Below w.heap.size w wr
  ge : w.heap.size ≤ tb
  lt : tb < wr.heap.size
  r : wr.rangeAt tb 0 (pa p)
  th : wr.there tb 0 33
  j : jn Q.reverse t = jn (Q.take k).reverse p
  h : ∀ i, p.1 i < 256
  s : sm (Q.take k) + p.2 ≤ sm Q + t.2
theorem take_rev {Q : List Pt2} {k j : Nat} {q : Pt2} (hk : k = j + 1) (hq : Q[j]? = some q) : (Q.take k).reverse = q :: (Q.take j).reverse := by
  subst hk
  rw [List.take_add_one, hq, List.reverse_append]
  rfl
theorem sm_rev {Q : List Pt2} {k j : Nat} {q : Pt2} (hk : k = j + 1) (hq : Q[j]? = some q) : sm (Q.take k) = sm (Q.take j) + q.2 := by
  subst hk
  rw [List.take_add_one, hq, sm_app]
  rfl
theorem jn_end {Q : List Pt2} {t p : Pt2} {k : Nat} (h : jn Q.reverse t = p :: (Q.take k).reverse) : Q.take k ++ [p] = (jn Q.reverse t).reverse := by
  rw [h, List.reverse_cons, List.reverse_reverse]
section
variable {w : World} {ops : Array Oper} {rest : List Oper} {o : Oper} {a : Act} {Q : Exit → Act → World → Prop}
theorem wpList_oneP {x : Operand} {q : Pt2} (hg : o.guard = none) (ho : o.op = .buildSlice 25 1 #[(0, x)]) (hx : a.eval x = pv q)
    (h : ∀ p W', p = w.heap.size → p < W'.heap.size → PLs W' (some ⟨p, 0, none⟩) [q] → Below w.heap.size w W' → wpList Tryd.prog ops Q rest (a.put o.dst (.slice (some ⟨p, 0, none⟩) 1 1)) W') : wpList Tryd.prog ops Q (o :: rest) a w := by
  obtain ⟨ie, hi, hz, hs, _⟩ := info_parts infoP
  have hv := pvar_of (q := q) (Below.refl w.heap.size w)
  refine wpList_buildSlice hg 25 42 1 #[(0, x)] ho (pa q).toArray ie _ Tryd.underlying25 hi hz (by rw [hs]; decide) (by rw [hs]; decide) ?_ (h w.heap.size _ rfl hv.lt (Or.inr ⟨_, 0, rfl, fun i r hr => ?_⟩) hv.bl)
  · rw [hs]
    simp only [List.map_toArray, List.map_cons, List.map_nil, hx]
    exact fillP q _ rfl
  · rcases i with _ | i
    · simp only [List.getElem?_cons_zero, Option.some.injEq] at hr
      subst hr
      exact hv.r
    · simp at hr
theorem wpList_twoP {x1 x2 : Operand} {y z : Option Addr} {n c m d : Nat} (hg : o.guard = none) (ho : o.op = .buildSlice 60 2 #[(0, x1), (1, x2)]) (hx : a.eval x1 = .slice y n c) (hz : a.eval x2 = .slice z m d)
    (h : ∀ p W', p = w.heap.size → W'.cell? ⟨p, 0, none⟩ = some (.slice y n c) → W'.cell? ⟨p, 1, none⟩ = some (.slice z m d) → Below w.heap.size w W' → wpList Tryd.prog ops Q rest (a.put o.dst (.slice (some ⟨p, 0, none⟩) 2 2)) W') : wpList Tryd.prog ops Q (o :: rest) a w := by
  have h' := h w.heap.size (w.alloc (.cells #[.slice y n c, .slice z m d] 25)) rfl (by rw [cell_of_row _ _ _ _ _ _ (heap_alloc_new w _)]; rfl) (by rw [cell_of_row _ _ _ _ _ _ (heap_alloc_new w _)]; rfl) (K.alloc (Below.refl _ _) _)
  refine wpList_plain hg fun K hK => ?_
  replace h' := hK _ _ h'
  unfold Oper.wp execOp
  simp only [ho, List.map_toArray, List.map_cons, List.map_nil, hx, hz]
  go_simp
  exact h'
end
set_option maxRecDepth 100000 in
set_option maxHeartbeats 16000000 in
theorem push_any {w : World} {b : Nat} {Q : List Pt2} {f : Nat → Nat} (hT : Tab w) (hO : TrQ w b Q) (hQ : ∀ (i : Nat) (q : Pt2), Q[i]? = some q → ∀ j, q.1 j < 256) (hf : ∀ i, f i < 256) (hs : sm Q ≤ 100000) (hl : Q.length ≤ 900) :
    Calls Tryd.prog 15 #[.pointer (some ⟨b, 0, none⟩), hv f] w (PuP w b (jn Q.reverse (f, 1)).reverse) := by
  obtain ⟨v, hbx, hop⟩ := hO
  obtain ⟨a, cap, rfl, hc1, hc2⟩ := hop.form
  have HT := hide hT
  have HBx := hide hbx
  have HQ := hide hQ
  have HF := hide hf
  have HS := hide hs
  have HL := hide hl
  have HC := hide (And.intro hc1 hc2)
  have HP := hide hop.pls
  have hbl := hbx.lt
  have HBl := hide hbl
  clear hT hbx hop hQ hf hs hl hc1 hc2 hbl
  unfold hv
  go_enter Tryd.func15, Tryd.ntmps15
  go_upto_region 1 with fail
  refine wp_world (fun X hX => ?_)
  have hB : Below w.heap.size w X := by rw [hX]; exact K.alloc (Below.refl _ _) _
  have hR : X.rangeAt w.heap.size 0 (ab f 32) := by rw [hX]; exact RowB.range (RowB.made w 33 32 f _ rfl)
  clear hX
  obtain ⟨b0, hb0⟩ : ∃ b0, w.heap.size = b0 := ⟨_, rfl⟩
  have HTX := hide (HT.out.keep hB)
  have HCb := hide (later hB HBx.out.cell)
  have HB := hide hB
  rw [hb0] at hR ⊢
  have HR := hide hR
  clear hB hR
  go_upto_region 2 with fail
  refine wp_region_noPanic ?_
  refine wp_region_held_drew (S := fun w' => Below X.heap.size X w') (by kernel_rfl) (Go.Proofs.YtjobcffelbddcaaDoor.K.drew (Below.refl _ X)) (fun hS0 => ?_)
  refine wpAnyH_take (i := 0) (v := .pointer (some ⟨b, 0, none⟩)) rfl (by kernel_rfl) (by kernel_rfl) (by kernel_rfl) (fun _ _ _ h => h) (Or.inl ⟨by rfl, fun w' _ => by go_simp⟩) hS0 ?_
  simp only [Act.put, List.getElem_toArray, List.getElem_cons_zero, List.setIfInBounds_toArray, List.set_cons_zero, List.set_cons_succ]
  refine wpAnyH_take (i := 1) (v := .pointer (some ⟨b, 0, none⟩)) rfl (by kernel_rfl) (by kernel_rfl) (by kernel_rfl) (fun _ _ _ h => h) (Or.inl ⟨by rfl, fun w' _ => by go_simp⟩) hS0 ?_
  simp only [Act.put, List.getElem_toArray, List.getElem_cons_zero, List.getElem_cons_succ, List.setIfInBounds_toArray, List.set_cons_zero, List.set_cons_succ]
  refine wpAnyH_take (i := 2) (v := .pointer (some ⟨b, 0, none⟩)) rfl (by kernel_rfl) (by kernel_rfl) (by kernel_rfl) (fun _ _ _ h => h) (Or.inl ⟨by rfl, fun w' _ => by go_simp⟩) hS0 ?_
  simp only [Act.put, List.getElem_toArray, List.getElem_cons_zero, List.getElem_cons_succ, List.setIfInBounds_toArray, List.set_cons_zero, List.set_cons_succ]
  refine wpAnyH_take (i := 3) (v := .slice a Q.length cap) rfl (by kernel_rfl) (by kernel_rfl) (by kernel_rfl) (fun _ _ _ h => h) (Or.inl ⟨by rfl, fun w' hS => by have hc := later hS HCb.out; go_simp⟩) hS0 ?_
  simp only [Act.put, List.getElem_toArray, List.getElem_cons_zero, List.getElem_cons_succ, List.setIfInBounds_toArray, List.set_cons_zero, List.set_cons_succ]
  refine wpAnyH_take (i := 4) (v := .agg (ab f 32).toArray) rfl (by kernel_rfl) (by kernel_rfl) (by kernel_rfl) (fun _ _ _ h => h) (yieldsIf_load_mid (by rfl) 33 _ rfl b0 0 (by rfl) (ab f 32) _ (fun w' hS => range_keep HR.out hS) Tryd.underlying33 rfl (ilH _)) hS0 ?_
  simp only [Act.put, List.getElem_toArray, List.getElem_cons_zero, List.getElem_cons_succ, List.setIfInBounds_toArray, List.set_cons_zero, List.set_cons_succ]
  refine wpAnyH_take (i := 5) (v := pv (f, 1)) rfl (by kernel_rfl) (by kernel_rfl) (by kernel_rfl) (fun _ _ _ h => h) (yieldsIf_build_part (s := 1) (by rfl) _ _ rfl (by rfl) (by rfl)) hS0 ?_
  simp only [Act.put, List.getElem_toArray, List.getElem_cons_zero, List.getElem_cons_succ, List.setIfInBounds_toArray, List.set_cons_zero, List.set_cons_succ]
  refine wpAnyH_ready (rs := [6]) (by kernel_rfl) (by simp) (AllReadyH.cons rfl (fun Kt hK => ?_) AllReadyH.nil)
  refine wanted_pos rfl ?_
  refine wp_alloc_part rfl (fun W1 hp => ?_)
  have HPv := hide hp
  refine hK.out _ _ (K.call hS0 hp.bl) (fun hS1 => ?_)
  clear hK Kt hp
  simp only [Act.put, List.getElem_toArray, List.getElem_cons_zero, List.getElem_cons_succ, List.setIfInBounds_toArray, List.set_cons_zero, List.set_cons_succ]
  refine wpAnyH_take (i := 7) (v := .slice a Q.length cap) rfl (by kernel_rfl) (by kernel_rfl) (by kernel_rfl) (fun _ _ _ h => h) (Or.inl ⟨by rfl, fun w' _ => by go_simp⟩) hS1 ?_
  simp only [Act.put, List.getElem_toArray, List.getElem_cons_zero, List.getElem_cons_succ, List.setIfInBounds_toArray, List.set_cons_zero, List.set_cons_succ]
  refine wpAnyH_ready (rs := [8]) (by kernel_rfl) (by simp) (AllReadyH.cons rfl (fun Kt hK => ?_) AllReadyH.nil)
  refine wanted_pos rfl ?_
  refine wp_store_part _ _ rfl (by rfl) (by rfl) HPv.out (fun W2 hp => ?_)
  have HPw := hide hp
  refine hK.out _ _ (K.call (Go.Proofs.YtjobcffelbddcaaDoor.K.drew (Below.refl _ X)) hp.bl) (fun hS2 => ?_)
  clear hK Kt hp
  simp only [Act.put, List.getElem_toArray, List.getElem_cons_zero, List.getElem_cons_succ]
  refine wpAnyH_done (by kernel_rfl) ?_ _
  refine NoPanic.normal ?_
  have HP0 : Hid (PuR w W2 X.drew.heap.size Q (f, 1) Q.length (f, 1)) := ⟨Nat.le_refl _, K.call HB.out hS2, Nat.le_trans HB.out.size HPw.out.ge, HPw.out.lt, HPw.out.r, HPw.out.t, by rw [List.take_length], HF.out, by rw [List.take_length]; exact Nat.le_refl _⟩
  generalize X.drew.heap.size = tb at HP0 ⊢
  have HTw := HT
  clear HPv HPw HCb HR HTX HB
  go_wp2_with fail
  go_loopg [4, 6] Q.length (fun g s4 s6 wr => ∃ (k : Nat) (p : Pt2), k = g ∧ s4 = .slice a k cap ∧ s6 = .int .i64 (k : Int) ∧ PuR w wr tb Q (f, 1) k p)
  case atStart => exact ⟨_, _, rfl, rfl, rfl, HP0.out⟩
  case round =>
    clear HP0
    obtain ⟨k, p, rfl, rfl, rfl, hR0⟩ := hrel
    have HR0 := hide hR0
    clear hR0
    by_cases hk : k = 0
    · subst hk
      have HJe : Hid (jn Q.reverse (f, 1) = p :: (Q.take 0).reverse) := by
        show _ = _
        rw [HR0.out.j]
        rfl
      go_wp2_with fail
      refine wp_region_noPanic ?_
      refine wp_region_held_drew (S := fun w' => Below wr.heap.size wr w') (by kernel_rfl) (Go.Proofs.YtjobcffelbddcaaDoor.K.drew (Below.refl _ wr)) (fun hS0 => ?_)
      refine wpAnyH_take (i := 0) (v := .int .i64 0) rfl (by kernel_rfl) (by kernel_rfl) (by kernel_rfl) (fun _ _ _ h => h) (Or.inl ⟨by rfl, fun w' _ => by go_simp⟩) hS0 ?_
      simp only [Act.put, List.getElem_toArray, List.getElem_cons_zero, List.setIfInBounds_toArray, List.set_cons_zero, List.set_cons_succ]
      refine wpAnyH_take (i := 1) (v := .bool false) rfl (by kernel_rfl) (by kernel_rfl) (by kernel_rfl) (fun _ _ _ h => h) (Or.inl ⟨by rfl, fun w' _ => by go_simp⟩) hS0 ?_
      simp only [Act.put, List.getElem_toArray, List.getElem_cons_zero, List.getElem_cons_succ, List.setIfInBounds_toArray, List.set_cons_zero, List.set_cons_succ]
      refine wpAnyH_take (i := 2) (v := .bool false) rfl (by kernel_rfl) (by kernel_rfl) (by kernel_rfl) (fun _ _ _ h => h) (Or.inl ⟨by rfl, fun w' _ => by go_simp⟩) hS0 ?_
      simp only [Act.put, List.getElem_toArray, List.getElem_cons_zero, List.getElem_cons_succ, List.setIfInBounds_toArray, List.set_cons_zero, List.set_cons_succ]
      refine wpAnyH_take (i := 3) (v := undef) rfl (by kernel_rfl) (by kernel_rfl) (by kernel_rfl) (fun _ _ _ h => h) (Or.inr ⟨by rfl, rfl⟩) hS0 ?_
      simp only [Act.put, List.getElem_toArray, List.getElem_cons_zero, List.getElem_cons_succ, List.setIfInBounds_toArray, List.set_cons_zero, List.set_cons_succ]
      refine wpAnyH_take (i := 4) (v := undef) rfl (by kernel_rfl) (by kernel_rfl) (by kernel_rfl) (fun _ _ _ h => h) (Or.inr ⟨by rfl, rfl⟩) hS0 ?_
      simp only [Act.put, List.getElem_toArray, List.getElem_cons_zero, List.getElem_cons_succ, List.setIfInBounds_toArray, List.set_cons_zero, List.set_cons_succ]
      refine wpAnyH_take (i := 5) (v := undef) rfl (by kernel_rfl) (by kernel_rfl) (by kernel_rfl) (fun _ _ _ h => h) (Or.inr ⟨by rfl, rfl⟩) hS0 ?_
      simp only [Act.put, List.getElem_toArray, List.getElem_cons_zero, List.getElem_cons_succ, List.setIfInBounds_toArray, List.set_cons_zero, List.set_cons_succ]
      refine wpAnyH_take (i := 6) (v := undef) rfl (by kernel_rfl) (by kernel_rfl) (by kernel_rfl) (fun _ _ _ h => h) (Or.inr ⟨by rfl, rfl⟩) hS0 ?_
      simp only [Act.put, List.getElem_toArray, List.getElem_cons_zero, List.getElem_cons_succ, List.setIfInBounds_toArray, List.set_cons_zero, List.set_cons_succ]
      refine wpAnyH_take (i := 7) (v := undef) rfl (by kernel_rfl) (by kernel_rfl) (by kernel_rfl) (fun _ _ _ h => h) (Or.inr ⟨by rfl, rfl⟩) hS0 ?_
      simp only [Act.put, List.getElem_toArray, List.getElem_cons_zero, List.getElem_cons_succ, List.setIfInBounds_toArray, List.set_cons_zero, List.set_cons_succ]
      refine wpAnyH_take (i := 8) (v := undef) rfl (by kernel_rfl) (by kernel_rfl) (by kernel_rfl) (fun _ _ _ h => h) (Or.inr ⟨by rfl, rfl⟩) hS0 ?_
      simp only [Act.put, List.getElem_toArray, List.getElem_cons_zero, List.getElem_cons_succ, List.setIfInBounds_toArray, List.set_cons_zero, List.set_cons_succ]
      refine wpAnyH_take (i := 9) (v := undef) rfl (by kernel_rfl) (by kernel_rfl) (by kernel_rfl) (fun _ _ _ h => h) (Or.inr ⟨by rfl, rfl⟩) hS0 ?_
      simp only [Act.put, List.getElem_toArray, List.getElem_cons_zero, List.getElem_cons_succ, List.setIfInBounds_toArray, List.set_cons_zero, List.set_cons_succ]
      refine wpAnyH_take (i := 10) (v := undef) rfl (by kernel_rfl) (by kernel_rfl) (by kernel_rfl) (fun _ _ _ h => h) (Or.inr ⟨by rfl, rfl⟩) hS0 ?_
      simp only [Act.put, List.getElem_toArray, List.getElem_cons_zero, List.getElem_cons_succ, List.setIfInBounds_toArray, List.set_cons_zero, List.set_cons_succ]
      refine wpAnyH_take (i := 11) (v := undef) rfl (by kernel_rfl) (by kernel_rfl) (by kernel_rfl) (fun _ _ _ h => h) (Or.inr ⟨by rfl, rfl⟩) hS0 ?_
      simp only [Act.put, List.getElem_toArray, List.getElem_cons_zero, List.getElem_cons_succ, List.setIfInBounds_toArray, List.set_cons_zero, List.set_cons_succ]
      refine wpAnyH_take (i := 12) (v := .bool false) rfl (by kernel_rfl) (by kernel_rfl) (by kernel_rfl) (fun _ _ _ h => h) (Or.inl ⟨by rfl, fun w' _ => by go_simp⟩) hS0 ?_
      simp only [Act.put, List.getElem_toArray, List.getElem_cons_zero, List.getElem_cons_succ, List.setIfInBounds_toArray, List.set_cons_zero, List.set_cons_succ]
      refine wpAnyH_done (by kernel_rfl) ?_ _
      refine NoPanic.normal ?_
      have hlen : 0 = (Q.take 0).length := by rw [List.length_take]; have := HR0.out.le; omega
      have HLn := hide hlen
      have HPt := hide ((HP.out.take 0).keep HR0.out.bl)
      clear hlen
      go_wp2_with (first
        | (refine wpList_load_part rfl _ rfl rfl HR0.out.r ?_)
        | (refine wpList_oneP rfl rfl (by rfl) ?_; intro q1 V1 hq1 hl1 ho1 hb1; have HO1 := hide ho1; have HB1 := hide (Go.Proofs.YtjobcffelbddcaaDoor.K.call (Go.Proofs.YtjobcffelbddcaaDoor.K.drew (Below.refl _ wr)) hb1); clear hq1 hl1 ho1 hb1)
        | (refine wpList_twoP rfl rfl (by rfl) (by rfl) ?_; intro q2 V2 hq2 hd0 hd1 hb2; have HB2 := hide (K.call HB1.out hb2); have HCc := hide (concat_two hd0 hd1 HLn.out (show 1 = [p].length from rfl) (HPt.out.keep HB2.out) (HO1.out.keep hb2) (by have := HR0.out.le; have := HL.out; omega) (by omega)); clear hq2 hd0 hd1 hb2)
        | (go_at_call 24; refine Calls.mono HCc.out ?_; rintro e V3 hcc3; obtain ⟨v3, rfl, hO3, hB3⟩ := hcc3; obtain ⟨a3, c3, rfl, _, _⟩ := hO3.form; obtain ⟨m3, hm3⟩ : ∃ m, m = (Q.take 0 ++ [p]).length := ⟨_, rfl⟩; rw [← hm3] at hO3 ⊢; clear hm3; have HO3 := hide hO3; have HB3 := hide (K.call HR0.out.bl (K.call HB2.out hB3)); have hbx3 := HBx.out.kept (grown_of HB3.out none) (by simp); have hcb3 := hbx3.cell; have hfz3 := hbx3.frozen; clear hO3 hB3 hbx3))
      go_end0
      refine ⟨⟨_, rfl⟩, ?_⟩
      rw [← jn_end HJe.out]
      exact PuP.of HBx.out HB3.out HO3.out
    · obtain ⟨j, hj⟩ : ∃ j, k = j + 1 := ⟨k - 1, by omega⟩
      obtain ⟨q, hq⟩ : ∃ q, Q[j]? = some q := ⟨_, List.getElem?_eq_getElem (by have := HR0.out.le; omega)⟩
      have hk0 : 0 < k := by omega
      have hk9 : k ≤ 900 := by have := HR0.out.le; have := HL.out; omega
      have hkw : IntKind.i64.wrap ((k : Int) - 1) = (j : Int) := by rw [IntKind.wrap_i64]; omega
      have hkw2 : wrap64 ((k : Int) - 1) = (j : Int) := by unfold wrap64; omega
      have hjk : (j : Int) < (k : Int) := by omega
      have hjn : (j : Nat) < k := by omega
      rcases HP.out with h0 | ⟨sb, so, ha, hr⟩
      · subst h0; simp at hq
      have HSr := hide (range_keep (hr j q hq) HR0.out.bl)
      have hSc := pa_size (range_keep (hr j q hq) HR0.out.bl)
      have HSc := hide hSc
      have hTc := pa_size HR0.out.r
      rw [Nat.zero_add] at hTc
      have HTc := hide hTc
      have HJ := hide (And.intro hj hq)
      have hne : sb ≠ tb := by
        have h1 := pa_size (hr j q hq)
        have h2 : sb < w.heap.size := World.block_lt_of_cell? w _ h1
        have := HR0.out.ge
        omega
      subst ha
      clear hr hSc hTc hj hk
      go_wp2_with fail
      by_cases he : q.2 = p.2
      · have hei : ((q.2 : Nat) : Int) = ((p.2 : Nat) : Int) := by omega
        have HEq := hide he
        clear he
        refine wp_region_noPanic ?_
        refine wp_region_held_drew (S := fun w' => Below wr.heap.size wr w') (by kernel_rfl) (Go.Proofs.YtjobcffelbddcaaDoor.K.drew (Below.refl _ wr)) (fun hS0 => ?_)
        refine wpAnyH_take (i := 0) (v := .int .i64 (k : Int)) rfl (by kernel_rfl) (by kernel_rfl) (by kernel_rfl) (fun _ _ _ h => h) (Or.inl ⟨by rfl, fun w' _ => by go_simp⟩) hS0 ?_
        simp only [Act.put, List.getElem_toArray, List.getElem_cons_zero, List.setIfInBounds_toArray, List.set_cons_zero, List.set_cons_succ]
        refine wpAnyH_take (i := 1) (v := .bool true) rfl (by kernel_rfl) (by kernel_rfl) (by kernel_rfl) (fun _ _ _ h => h) (Or.inl ⟨by rfl, fun w' _ => by go_simp⟩) hS0 ?_
        simp only [Act.put, List.getElem_toArray, List.getElem_cons_zero, List.getElem_cons_succ, List.setIfInBounds_toArray, List.set_cons_zero, List.set_cons_succ]
        refine wpAnyH_take (i := 2) (v := .bool true) rfl (by kernel_rfl) (by kernel_rfl) (by kernel_rfl) (fun _ _ _ h => h) (Or.inl ⟨by rfl, fun w' _ => by go_simp⟩) hS0 ?_
        simp only [Act.put, List.getElem_toArray, List.getElem_cons_zero, List.getElem_cons_succ, List.setIfInBounds_toArray, List.set_cons_zero, List.set_cons_succ]
        refine wpAnyH_take (i := 3) (v := .slice (some ⟨sb, so, none⟩) k cap) rfl (by kernel_rfl) (by kernel_rfl) (by kernel_rfl) (fun _ _ _ h => h) (Or.inl ⟨by rfl, fun w' _ => by go_simp⟩) hS0 ?_
        simp only [Act.put, List.getElem_toArray, List.getElem_cons_zero, List.getElem_cons_succ, List.setIfInBounds_toArray, List.set_cons_zero, List.set_cons_succ]
        refine wpAnyH_take (i := 4) (v := .int .i64 (k : Int)) rfl (by kernel_rfl) (by kernel_rfl) (by kernel_rfl) (fun _ _ _ h => h) (Or.inl ⟨by rfl, fun w' _ => by go_simp⟩) hS0 ?_
        simp only [Act.put, List.getElem_toArray, List.getElem_cons_zero, List.getElem_cons_succ, List.setIfInBounds_toArray, List.set_cons_zero, List.set_cons_succ]
        refine wpAnyH_take (i := 5) (v := .int .i64 (j : Int)) rfl (by kernel_rfl) (by kernel_rfl) (by kernel_rfl) (fun _ _ _ h => h) (Or.inl ⟨by rfl, fun w' _ => by go_simp⟩) hS0 ?_
        simp only [Act.put, List.getElem_toArray, List.getElem_cons_zero, List.getElem_cons_succ, List.setIfInBounds_toArray, List.set_cons_zero, List.set_cons_succ]
        refine wpAnyH_take (i := 6) (v := .pointer (some ⟨sb, so + j * 33, none⟩)) rfl (by kernel_rfl) (by kernel_rfl) (by kernel_rfl) (fun _ _ _ h => h) (Or.inl ⟨by rfl, fun w' _ => by go_simp⟩) hS0 ?_
        simp only [Act.put, List.getElem_toArray, List.getElem_cons_zero, List.getElem_cons_succ, List.setIfInBounds_toArray, List.set_cons_zero, List.set_cons_succ]
        refine wpAnyH_take (i := 7) (v := .pointer (some ⟨sb, so + j * 33 + 32, none⟩)) rfl (by kernel_rfl) (by kernel_rfl) (by kernel_rfl) (fun _ _ _ h => h) (Or.inl ⟨by rfl, fun w' _ => by go_simp⟩) hS0 ?_
        simp only [Act.put, List.getElem_toArray, List.getElem_cons_zero, List.getElem_cons_succ, List.setIfInBounds_toArray, List.set_cons_zero, List.set_cons_succ]
        refine wpAnyH_take (i := 8) (v := .int .i64 (q.2 : Int)) rfl (by kernel_rfl) (by kernel_rfl) (by kernel_rfl) (fun _ _ _ h => h) (Or.inl ⟨by rfl, fun w' hS => by have hc := later hS HSc.out; go_simp⟩) hS0 ?_
        simp only [Act.put, List.getElem_toArray, List.getElem_cons_zero, List.getElem_cons_succ, List.setIfInBounds_toArray, List.set_cons_zero, List.set_cons_succ]
        refine wpAnyH_take (i := 9) (v := .pointer (some ⟨tb, 32, none⟩)) rfl (by kernel_rfl) (by kernel_rfl) (by kernel_rfl) (fun _ _ _ h => h) (Or.inl ⟨by rfl, fun w' _ => by go_simp⟩) hS0 ?_
        simp only [Act.put, List.getElem_toArray, List.getElem_cons_zero, List.getElem_cons_succ, List.setIfInBounds_toArray, List.set_cons_zero, List.set_cons_succ]
        refine wpAnyH_take (i := 10) (v := .int .i64 (p.2 : Int)) rfl (by kernel_rfl) (by kernel_rfl) (by kernel_rfl) (fun _ _ _ h => h) (Or.inl ⟨by rfl, fun w' hS => by have hc := later hS HTc.out; go_simp⟩) hS0 ?_
        simp only [Act.put, List.getElem_toArray, List.getElem_cons_zero, List.getElem_cons_succ, List.setIfInBounds_toArray, List.set_cons_zero, List.set_cons_succ]
        refine wpAnyH_take (i := 11) (v := .bool true) rfl (by kernel_rfl) (by kernel_rfl) (by kernel_rfl) (fun _ _ _ h => h) (Or.inl ⟨by rfl, fun w' _ => by go_simp⟩) hS0 ?_
        simp only [Act.put, List.getElem_toArray, List.getElem_cons_zero, List.getElem_cons_succ, List.setIfInBounds_toArray, List.set_cons_zero, List.set_cons_succ]
        refine wpAnyH_take (i := 12) (v := .bool true) rfl (by kernel_rfl) (by kernel_rfl) (by kernel_rfl) (fun _ _ _ h => h) (Or.inl ⟨by rfl, fun w' _ => by go_simp⟩) hS0 ?_
        simp only [Act.put, List.getElem_toArray, List.getElem_cons_zero, List.getElem_cons_succ, List.setIfInBounds_toArray, List.set_cons_zero, List.set_cons_succ]
        refine wpAnyH_done (by kernel_rfl) ?_ _
        refine NoPanic.normal ?_
        go_wp2_with fail
        have HNe : Hid (sb ≠ tb) := hne
        have HJn := hide (join_any (w := wr.drew.drew) (HTw.out.keep (Go.Proofs.YtjobcffelbddcaaDoor.K.drew (Go.Proofs.YtjobcffelbddcaaDoor.K.drew HR0.out.bl))) (HQ.out j q HJ.out.2) HR0.out.h (by
          have h1 := HR0.out.s
          rw [sm_rev HJ.out.1 HJ.out.2] at h1
          have h2 := HS.out
          show q.2 + p.2 ≤ _
          have h3 : ((f, 1) : Pt2).2 = 1 := rfl
          omega))
        refine wp_region_noPanic ?_
        refine wp_region_held_drew (S := SG wr tb) (by kernel_rfl) (SG.start2 HR0.out.th HR0.out.lt) (fun hS0 => ?_)
        refine wpAnyH_take (i := 0) (v := .slice (some ⟨sb, so, none⟩) k cap) rfl (by kernel_rfl) (by kernel_rfl) (by kernel_rfl) (fun _ _ _ h => h) (Or.inl ⟨by rfl, fun w' _ => by go_simp⟩) hS0 ?_
        simp only [Act.put, List.getElem_toArray, List.getElem_cons_zero, List.setIfInBounds_toArray, List.set_cons_zero, List.set_cons_succ]
        refine wpAnyH_take (i := 1) (v := .int .i64 (k : Int)) rfl (by kernel_rfl) (by kernel_rfl) (by kernel_rfl) (fun _ _ _ h => h) (Or.inl ⟨by rfl, fun w' _ => by go_simp⟩) hS0 ?_
        simp only [Act.put, List.getElem_toArray, List.getElem_cons_zero, List.getElem_cons_succ, List.setIfInBounds_toArray, List.set_cons_zero, List.set_cons_succ]
        refine wpAnyH_take (i := 2) (v := .int .i64 (j : Int)) rfl (by kernel_rfl) (by kernel_rfl) (by kernel_rfl) (fun _ _ _ h => h) (Or.inl ⟨by rfl, fun w' _ => by go_simp⟩) hS0 ?_
        simp only [Act.put, List.getElem_toArray, List.getElem_cons_zero, List.getElem_cons_succ, List.setIfInBounds_toArray, List.set_cons_zero, List.set_cons_succ]
        refine wpAnyH_take (i := 3) (v := .pointer (some ⟨sb, so + j * 33, none⟩)) rfl (by kernel_rfl) (by kernel_rfl) (by kernel_rfl) (fun _ _ _ h => h) (Or.inl ⟨by rfl, fun w' _ => by go_simp⟩) hS0 ?_
        simp only [Act.put, List.getElem_toArray, List.getElem_cons_zero, List.getElem_cons_succ, List.setIfInBounds_toArray, List.set_cons_zero, List.set_cons_succ]
        refine wpAnyH_take (i := 4) (v := pv q) rfl (by kernel_rfl) (by kernel_rfl) (by kernel_rfl) (fun _ _ _ h => h) (yieldsIf_load_mid (by rfl) 42 _ rfl sb (so + j * 33) (by rfl) (pa q) _ (fun w' hS => SG.range hS HNe.out HSr.out) Tryd.underlying42 rfl (ilP q)) hS0 ?_
        simp only [Act.put, List.getElem_toArray, List.getElem_cons_zero, List.getElem_cons_succ, List.setIfInBounds_toArray, List.set_cons_zero, List.set_cons_succ]
        refine wpAnyH_ready (rs := [5]) (by kernel_rfl) (by simp) (AllReadyH.cons rfl (fun Kt hK => ?_) AllReadyH.nil)
        refine wanted_pos rfl ?_
        refine wp_load_mid 42 _ rfl tb 0 (by rfl) (pa p) _ (range_keep HR0.out.r (Go.Proofs.YtjobcffelbddcaaDoor.K.drew (Go.Proofs.YtjobcffelbddcaaDoor.K.drew (Below.refl _ wr)))) Tryd.underlying42 rfl (ilP p) (hK.out _ _ hS0 (fun hS1 => ?_))
        clear hK Kt
        simp only [Act.put, List.getElem_toArray, List.getElem_cons_zero, List.getElem_cons_succ, List.setIfInBounds_toArray, List.set_cons_zero, List.set_cons_succ]
        refine wpAnyH_ready (rs := [6]) (by kernel_rfl) (by simp) (AllReadyH.cons rfl (fun Kt hK => ?_) AllReadyH.nil)
        refine wanted_pos rfl ?_
        refine wp_call (R := fun r w' => r = pv (jo q p) ∧ SG wr tb w') (vs := #[pv q, pv p]) rfl (by simp only [List.map_toArray, List.map_cons, List.map_nil]; rfl) (by go_simp) (Calls.mono (HJn.out) (fun e w' ⟨he, hb⟩ => ⟨_, he, rfl, SG.call hS1 hb⟩)) (fun r W2 ⟨hr, hb⟩ => ?_)
        subst hr
        refine hK.out _ _ hb (fun hS2 => ?_)
        clear hK Kt hb
        simp only [Act.put, List.getElem_toArray, List.getElem_cons_zero, List.getElem_cons_succ, List.setIfInBounds_toArray, List.set_cons_zero, List.set_cons_succ]
        refine wpAnyH_ready (rs := [7]) (by kernel_rfl) (by simp) (AllReadyH.cons rfl (fun Kt hK => ?_) AllReadyH.nil)
        refine wanted_pos rfl ?_
        refine wp_store_sg _ _ rfl (by rfl) (by rfl) hS2 (fun W3 hsg hrg => hK.out _ _ hsg (fun hS3 => ?_))
        have HRg := hide hrg
        clear hK Kt hsg hrg
        simp only [Act.put, List.getElem_toArray, List.getElem_cons_zero, List.getElem_cons_succ]
        refine wpAnyH_done (by kernel_rfl) ?_ _
        refine NoPanic.normal ?_
        have hSG : SG wr tb W3 := hS3
        have HRn : Hid (PuR w W3 tb Q (f, 1) j (jo q p)) := ⟨by have := HR0.out.le; omega, SG.below hSG HR0.out.bl HR0.out.ge, HR0.out.ge, Nat.lt_of_lt_of_le hSG.lt hSG.gr.size, HRg.out, hSG.th, by rw [HR0.out.j, take_rev HJ.out.1 HJ.out.2, jn_same _ HEq.out], nd_lt _ _, by
          have h1 := HR0.out.s
          rw [sm_rev HJ.out.1 HJ.out.2] at h1
          show _ + (q.2 + p.2) ≤ _
          omega⟩
        clear HRg
        have hjc : j ≤ cap := by have := HC.out.1; have := HR0.out.le; omega
        go_wp2_with fail
        go_roundg j
        case measure => omega
        case rel => exact ⟨j, jo q p, rfl, rfl, rfl, HRn.out⟩
      · have hei : ¬ (((q.2 : Nat) : Int) = ((p.2 : Nat) : Int)) := by omega
        have HJe : Hid (jn Q.reverse (f, 1) = p :: (Q.take k).reverse) := by
          show _ = _
          rw [HR0.out.j, take_rev HJ.out.1 HJ.out.2, jn_other _ he]
        clear he
        refine wp_region_noPanic ?_
        refine wp_region_held_drew (S := fun w' => Below wr.heap.size wr w') (by kernel_rfl) (Go.Proofs.YtjobcffelbddcaaDoor.K.drew (Below.refl _ wr)) (fun hS0 => ?_)
        refine wpAnyH_take (i := 0) (v := .int .i64 (k : Int)) rfl (by kernel_rfl) (by kernel_rfl) (by kernel_rfl) (fun _ _ _ h => h) (Or.inl ⟨by rfl, fun w' _ => by go_simp⟩) hS0 ?_
        simp only [Act.put, List.getElem_toArray, List.getElem_cons_zero, List.setIfInBounds_toArray, List.set_cons_zero, List.set_cons_succ]
        refine wpAnyH_take (i := 1) (v := .bool true) rfl (by kernel_rfl) (by kernel_rfl) (by kernel_rfl) (fun _ _ _ h => h) (Or.inl ⟨by rfl, fun w' _ => by go_simp⟩) hS0 ?_
        simp only [Act.put, List.getElem_toArray, List.getElem_cons_zero, List.getElem_cons_succ, List.setIfInBounds_toArray, List.set_cons_zero, List.set_cons_succ]
        refine wpAnyH_take (i := 2) (v := .bool true) rfl (by kernel_rfl) (by kernel_rfl) (by kernel_rfl) (fun _ _ _ h => h) (Or.inl ⟨by rfl, fun w' _ => by go_simp⟩) hS0 ?_
        simp only [Act.put, List.getElem_toArray, List.getElem_cons_zero, List.getElem_cons_succ, List.setIfInBounds_toArray, List.set_cons_zero, List.set_cons_succ]
        refine wpAnyH_take (i := 3) (v := .slice (some ⟨sb, so, none⟩) k cap) rfl (by kernel_rfl) (by kernel_rfl) (by kernel_rfl) (fun _ _ _ h => h) (Or.inl ⟨by rfl, fun w' _ => by go_simp⟩) hS0 ?_
        simp only [Act.put, List.getElem_toArray, List.getElem_cons_zero, List.getElem_cons_succ, List.setIfInBounds_toArray, List.set_cons_zero, List.set_cons_succ]
        refine wpAnyH_take (i := 4) (v := .int .i64 (k : Int)) rfl (by kernel_rfl) (by kernel_rfl) (by kernel_rfl) (fun _ _ _ h => h) (Or.inl ⟨by rfl, fun w' _ => by go_simp⟩) hS0 ?_
        simp only [Act.put, List.getElem_toArray, List.getElem_cons_zero, List.getElem_cons_succ, List.setIfInBounds_toArray, List.set_cons_zero, List.set_cons_succ]
        refine wpAnyH_take (i := 5) (v := .int .i64 (j : Int)) rfl (by kernel_rfl) (by kernel_rfl) (by kernel_rfl) (fun _ _ _ h => h) (Or.inl ⟨by rfl, fun w' _ => by go_simp⟩) hS0 ?_
        simp only [Act.put, List.getElem_toArray, List.getElem_cons_zero, List.getElem_cons_succ, List.setIfInBounds_toArray, List.set_cons_zero, List.set_cons_succ]
        refine wpAnyH_take (i := 6) (v := .pointer (some ⟨sb, so + j * 33, none⟩)) rfl (by kernel_rfl) (by kernel_rfl) (by kernel_rfl) (fun _ _ _ h => h) (Or.inl ⟨by rfl, fun w' _ => by go_simp⟩) hS0 ?_
        simp only [Act.put, List.getElem_toArray, List.getElem_cons_zero, List.getElem_cons_succ, List.setIfInBounds_toArray, List.set_cons_zero, List.set_cons_succ]
        refine wpAnyH_take (i := 7) (v := .pointer (some ⟨sb, so + j * 33 + 32, none⟩)) rfl (by kernel_rfl) (by kernel_rfl) (by kernel_rfl) (fun _ _ _ h => h) (Or.inl ⟨by rfl, fun w' _ => by go_simp⟩) hS0 ?_
        simp only [Act.put, List.getElem_toArray, List.getElem_cons_zero, List.getElem_cons_succ, List.setIfInBounds_toArray, List.set_cons_zero, List.set_cons_succ]
        refine wpAnyH_take (i := 8) (v := .int .i64 (q.2 : Int)) rfl (by kernel_rfl) (by kernel_rfl) (by kernel_rfl) (fun _ _ _ h => h) (Or.inl ⟨by rfl, fun w' hS => by have hc := later hS HSc.out; go_simp⟩) hS0 ?_
        simp only [Act.put, List.getElem_toArray, List.getElem_cons_zero, List.getElem_cons_succ, List.setIfInBounds_toArray, List.set_cons_zero, List.set_cons_succ]
        refine wpAnyH_take (i := 9) (v := .pointer (some ⟨tb, 32, none⟩)) rfl (by kernel_rfl) (by kernel_rfl) (by kernel_rfl) (fun _ _ _ h => h) (Or.inl ⟨by rfl, fun w' _ => by go_simp⟩) hS0 ?_
        simp only [Act.put, List.getElem_toArray, List.getElem_cons_zero, List.getElem_cons_succ, List.setIfInBounds_toArray, List.set_cons_zero, List.set_cons_succ]
        refine wpAnyH_take (i := 10) (v := .int .i64 (p.2 : Int)) rfl (by kernel_rfl) (by kernel_rfl) (by kernel_rfl) (fun _ _ _ h => h) (Or.inl ⟨by rfl, fun w' hS => by have hc := later hS HTc.out; go_simp⟩) hS0 ?_
        simp only [Act.put, List.getElem_toArray, List.getElem_cons_zero, List.getElem_cons_succ, List.setIfInBounds_toArray, List.set_cons_zero, List.set_cons_succ]
        refine wpAnyH_take (i := 11) (v := .bool false) rfl (by kernel_rfl) (by kernel_rfl) (by kernel_rfl) (fun _ _ _ h => h) (Or.inl ⟨by rfl, fun w' _ => by go_simp⟩) hS0 ?_
        simp only [Act.put, List.getElem_toArray, List.getElem_cons_zero, List.getElem_cons_succ, List.setIfInBounds_toArray, List.set_cons_zero, List.set_cons_succ]
        refine wpAnyH_take (i := 12) (v := .bool false) rfl (by kernel_rfl) (by kernel_rfl) (by kernel_rfl) (fun _ _ _ h => h) (Or.inl ⟨by rfl, fun w' _ => by go_simp⟩) hS0 ?_
        simp only [Act.put, List.getElem_toArray, List.getElem_cons_zero, List.getElem_cons_succ, List.setIfInBounds_toArray, List.set_cons_zero, List.set_cons_succ]
        refine wpAnyH_done (by kernel_rfl) ?_ _
        refine NoPanic.normal ?_
        have hlen : k = (Q.take k).length := by rw [List.length_take]; have := HR0.out.le; omega
        have HLn := hide hlen
        have HPt := hide ((HP.out.take k).keep HR0.out.bl)
        clear hlen
        go_wp2_with (first
          | (refine wpList_load_part rfl _ rfl rfl HR0.out.r ?_)
          | (refine wpList_oneP rfl rfl (by rfl) ?_; intro q1 V1 hq1 hl1 ho1 hb1; have HO1 := hide ho1; have HB1 := hide (Go.Proofs.YtjobcffelbddcaaDoor.K.call (Go.Proofs.YtjobcffelbddcaaDoor.K.drew (Below.refl _ wr)) hb1); clear hq1 hl1 ho1 hb1)
          | (refine wpList_twoP rfl rfl (by rfl) (by rfl) ?_; intro q2 V2 hq2 hd0 hd1 hb2; have HB2 := hide (K.call HB1.out hb2); have HCc := hide (concat_two hd0 hd1 HLn.out (show 1 = [p].length from rfl) (HPt.out.keep HB2.out) (HO1.out.keep hb2) (by have := HR0.out.le; have := HL.out; omega) (by omega)); clear hq2 hd0 hd1 hb2)
          | (go_at_call 24; refine Calls.mono HCc.out ?_; rintro e V3 hcc3; obtain ⟨v3, rfl, hO3, hB3⟩ := hcc3; obtain ⟨a3, c3, rfl, _, _⟩ := hO3.form; obtain ⟨m3, hm3⟩ : ∃ m, m = (Q.take k ++ [p]).length := ⟨_, rfl⟩; rw [← hm3] at hO3 ⊢; clear hm3; have HO3 := hide hO3; have HB3 := hide (K.call HR0.out.bl (K.call HB2.out hB3)); have hbx3 := HBx.out.kept (grown_of HB3.out none) (by simp); have hcb3 := hbx3.cell; have hfz3 := hbx3.frozen; clear hO3 hB3 hbx3))
        go_end0
        refine ⟨⟨_, rfl⟩, ?_⟩
        rw [← jn_end HJe.out]
        exact PuP.of HBx.out HB3.out HO3.out
end Go.Proofs.YtjobcffelbddcaaDoor
