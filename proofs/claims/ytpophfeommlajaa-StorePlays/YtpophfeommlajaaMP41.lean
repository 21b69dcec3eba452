/- Layer 15: Append. -/
import Derived.Test.YtpophfeommlajaaMP40
namespace Go.Proofs.Ytpophfeommlajaa
open Go.RowKit Go.Maps
attribute [local go_sem ↓] Go.wp_at_zero Go.wp_at_succ

section
variable {op : Oper} {a : Act} {w : World} {Kt : Act → World → Prop} {Q : Exit → Act → World → Prop}
theorem wp_storeI {x y : Operand} {g o : Nat} {i : Int} {u : Value} (ho : op.op = .store 3 x y) (hx : a.eval x = .pointer (some ⟨g, o, none⟩)) (hy : a.eval y = .int .i64 i)
    (hc : w.cell? ⟨g, o, none⟩ = some u) (hz : w.frozen? ⟨g, o, none⟩ = false) (h : Kt (a.put op.dst undef) (w.setCell ⟨g, o, none⟩ (.int .i64 i))) : Oper.wp Try.prog op a w Kt Q := by
  unfold Oper.wp execOp
  simp only [ho, hx, hy]
  go_simp
  exact h
theorem wp_loadI {x : Operand} {g o : Nat} {v : Int} (ho : op.op = .load 3 x) (hx : a.eval x = .pointer (some ⟨g, o, none⟩))
    (hc : w.cell? ⟨g, o, none⟩ = some (.int .i64 v)) (h : Kt (a.put op.dst (.int .i64 v)) w) : Oper.wp Try.prog op a w Kt Q := by
  unfold Oper.wp execOp
  simp only [ho, hx]
  go_simp
  exact h
end
theorem grown_kp {X : Nat → Bool} {w w' : World} {row : Option Nat} (h : w.grownBy w' row) (hX : ∀ k, row = some k → X k = true) : Kp X w w' :=
  ⟨h.os, h.tape, h.output, h.size, fun k hk hx => h.block k hk (fun e => by rw [hX k e.symm] at hx; cases hx)⟩
/-- One entry more waits. -/
theorem PSt.push {w0 W W3 : World} {bs t b : Nat} {Y : Nat → Bool} {vk vw v' : Value} {ck cw : List Value} {K Wt : List (List Nat)} (h0 : PSt w0 bs t b Y vk vw ck cw K Wt false) (hY : ∀ g, Y g = true → g < w0.heap.size) (hB : Below w0.heap.size w0 W) {x : Option Addr} {m c : Nat} {f : Nat → Nat} (hb : BA W x m f) (hx : 0 < m → ∀ p, x = some p → w0.heap.size ≤ p.block) {o : Obj}
    (ho : W3.ownsRow bs 38 1 v' (Wt.length + 1) (cw ++ [.slice x m c])) (hG : (W.alloc o).grownBy W3 vw.ownBlock) (hat : v'.ownBlock = vw.ownBlock ∨ v'.ownBlock = some (W.alloc o).heap.size) :
    PSt ((W3.setCell ⟨t, 2, none⟩ v').setCell ⟨t, 4, none⟩ (.int .i64 (3 + (tks K : Int) + (tks (Wt ++ [fl f m]) : Int)))) bs t b Y vk v' ck (cw ++ [.slice x m c]) K (Wt ++ [fl f m]) false ∧ W3.cell? ⟨t, 2, none⟩ = some vw ∧ W3.frozen? ⟨t, 2, none⟩ = false ∧ (∀ v, (W3.setCell ⟨t, 2, none⟩ v).cell? ⟨t, 4, none⟩ = some (.int .i64 (3 + (tks K : Int) + (tks Wt : Int)))) ∧ (∀ v, (W3.setCell ⟨t, 2, none⟩ v).frozen? ⟨t, 4, none⟩ = false) := by
  have h1 := h0.keep (hB.trans ((Go.Proofs.Ytpophfeommlajaa.K.alloc (Below.refl _ W) o).mono hB.size))
  have htn : vw.ownBlock ≠ some t := fun e => by
    have := h0.s.x t e
    rw [Xt_u (Xu_of (Or.inr rfl))] at this
    cases this
  have e := hG.block t h1.tl (fun e => htn e.symm)
  have ec : ∀ i, W3.cell? ⟨t, i, none⟩ = (W.alloc o).cell? ⟨t, i, none⟩ := fun i => World.cell?_of_block (w := W.alloc o) e
  have ef : ∀ i, W3.frozen? ⟨t, i, none⟩ = (W.alloc o).frozen? ⟨t, i, none⟩ := fun i => World.frozen?_of_block (w := W.alloc o) e
  have hsz : w0.heap.size ≤ (W.alloc o).heap.size := Nat.le_trans hB.size (by simp)
  have hXu : ∀ k, Xu Y t k = true → k < w0.heap.size := fun k hk => by
    rcases Xu_inv hk with e1 | e1
    · exact hY k e1
    · rw [e1]; exact h0.tl
  have hXt : ∀ k, Xt Y t vk k = true → k < w0.heap.size := fun k hk => by
    rcases Xt_inv hk with e1 | e1
    · exact hXu k e1
    · exact (h0.k.o.lt k e1).2
  have hbo := hb.keep (Go.Proofs.Ytpophfeommlajaa.K.alloc (Below.refl _ W) o)
  have hs : Lst W3 bs (Xt Y t vk) v' (Wt ++ [fl f m]) (cw ++ [.slice x m c]) := h1.s.push (fun k hk => Nat.lt_of_lt_of_le (hXt k hk) hsz) hbo (fun hm p hp => ⟨by
      cases hq : Xt Y t vk p.block with
      | false => rfl
      | true => have := hXt _ hq; have := hx hm p hp; omega, fun e1 => by have := (h0.s.o.lt _ e1).2; have := hx hm p hp; omega⟩) ho hG hat
  have hk : Lst W3 bs (Xt Y t v') vk K ck := by
    have a1 : Lst (W.alloc o) bs (fun k => Xt Y t vw k || decide (v'.ownBlock = some k)) vk K ck := h1.k.more (fun k hk => by
      rcases Bool.or_eq_true _ _ |>.mp hk with e1 | e1
      · exact Or.inl e1
      · rcases hat with e2 | e2
        · exact Or.inl (Xt_own (e2.symm.trans (of_decide_eq_true e1)))
        · refine Or.inr ?_
          have := e2.symm.trans (of_decide_eq_true e1)
          cases this
          exact Nat.le_refl _)
    refine (a1.kp (grown_kp hG (fun k hk => by show (Xt Y t vw k || _) = true; rw [Xt_own hk, Bool.true_or]))).sub (fun k hk => ?_)
    show (Xt Y t vw k || _) = true
    rcases Xt_inv hk with e1 | e1
    · rw [Xt_u e1, Bool.true_or]
    · rw [decide_eq_true e1, Bool.or_true]
  have hT : Xt Y t v' t = true := Xt_u (Xu_of (Or.inr rfl))
  have hU : Xt Y t vk t = true := Xt_u (Xu_of (Or.inr rfl))
  refine ⟨⟨(cell_oth (by decide)).trans ((cell_oth (by decide)).trans ((ec 0).trans h1.c0)), (cell_oth (by decide)).trans ((cell_oth (by decide)).trans ((ec 1).trans h1.c1)), (cell_oth (by decide)).trans (cell_at ((ec 2).trans h1.c2)), (cell_oth (by decide)).trans ((cell_oth (by decide)).trans ((ec 3).trans h1.c3)), cell_at ((cell_oth (by decide)).trans ((ec 4).trans h1.c4)), (cell_oth (by decide)).trans ((cell_oth (by decide)).trans ((ec 5).trans h1.c5)), fun i hi => by rw [World.frozen?_setCell, World.frozen?_setCell, ef]; exact h1.z i hi, ?_, h1.ty, RSt.set (RSt.set hk hT) hT, RSt.set (RSt.set hs hU) hU⟩, (ec 2).trans h1.c2, (ef 2).trans (h1.z 2 (by decide)), fun v => (cell_oth (by decide)).trans ((ec 4).trans h1.c4), fun v => by rw [World.frozen?_setCell, ef]; exact h1.z 4 (by decide)⟩
  have := h1.tl
  have := hG.size
  simp at *
  omega
theorem append_nil (w : World) (v : Value) : Calls Try.prog 11 #[.pointer none, v] w fun e w' => e = .returned (.int .i64 6) ∧ w' = w := by
  go_enter Try.func11, Try.ntmps11
  go_wp2_with (go_at_call 40; refine Calls.mono (over_nil _) ?_; rintro e w ⟨rfl, rfl⟩)
  go_ret
  exact ⟨rfl, rfl⟩
section
variable {w : World} {bs t b : Nat} {Y : Nat → Bool} {vk vw : Value} {ck cw : List Value} {K Wt : List (List Nat)}
theorem append_over1 (h : PSt w bs t b Y vk vw ck cw K Wt true) (v : Value) : Calls Try.prog 11 #[pp t, v] w fun e w' => e = .returned (.int .i64 6) ∧ w' = w := by
  have HO := hide (over_n h)
  clear h
  go_enter Try.func11, Try.ntmps11
  go_wp2_with (go_at_call 40; refine Calls.mono HO.out ?_; rintro e w ⟨rfl, rfl⟩)
  go_ret
  exact ⟨rfl, rfl⟩
theorem append_long1 (h : PSt w bs t b Y vk vw ck cw K Wt false) {x : Option Addr} {m c : Nat} (hm : 200 < m) : Calls Try.prog 11 #[pp t, .slice x m c] w fun e w' => e = .returned (.int .i64 4) ∧ w' = w := by
  have HO := hide (over_n h)
  have hm' : (200 : Int) < (m : Int) := by omega
  clear h
  go_enter Try.func11, Try.ntmps11
  go_wp2_with (go_at_call 40; refine Calls.mono HO.out ?_; rintro e w ⟨rfl, rfl⟩)
  go_ret
  exact ⟨rfl, rfl⟩
theorem append_full1 {lb mb : Nat} {D : DM} (h : PSt w bs t b Y vk vw ck cw K Wt false) (hd : Dsk w b lb mb D) (hk : tks K ≤ 1000000) (hw : tks Wt ≤ 1000000) {x : Option Addr} {m c : Nat} (hm : m ≤ 200) (hf : D.n < 3 + tks K + tks Wt + tk m) : Calls Try.prog 11 #[pp t, .slice x m c] w fun e w' => e = .returned (.int .i64 5) ∧ Below w.heap.size w w' := by
  have HO := hide (over_n h)
  have HR := hide (room_n h hd hk hw)
  have hm' : ¬ ((200 : Int) < (m : Int)) := by omega
  have hm9 : m ≤ 1000000000 := by omega
  have hlt : (D.n : Int) - 3 - (tks K : Int) - (tks Wt : Int) < (tk m : Int) := by omega
  clear h hd
  go_enter Try.func11, Try.ntmps11
  go_wp2_with (first
    | (go_at_call 40; refine Calls.mono HO.out ?_; rintro e w ⟨rfl, rfl⟩)
    | (go_at_call 36; refine Calls.mono HR.out ?_; rintro e W1 ⟨rfl, hB1⟩; have HB1 := hide hB1; clear hB1)
    | (go_at_call 41; refine Calls.mono (takes_n hm9) ?_; rintro e W1 ⟨rfl, rfl⟩))
  go_ret
  exact ⟨rfl, HB1.out⟩
end
/-- What waits behind an Append. -/
def apW (er : Int) (Wt : List (List Nat)) (l : List Nat) : List (List Nat) := if er = 0 then Wt ++ [l] else Wt
def ApP (w : World) (bs t b lb mb : Nat) (Y : Nat → Bool) (vk vw : Value) (ck : List Value) (D : DM) (er : Int) (K Wt : List (List Nat)) (ov : Bool) (e : Ending) (w' : World) : Prop := e = .returned (.int .i64 er) ∧ ∃ vw' cw', Dsk w' b lb mb D ∧ PSt w' bs t b Y vk vw' ck cw' K Wt ov ∧ Kp (Xt (X3 b lb mb) t vw) w w' ∧ (vw'.ownBlock = vw.ownBlock ∨ ∃ g, vw'.ownBlock = some g ∧ w.heap.size ≤ g)
theorem kp_v {X : Nat → Bool} {w : World} {t o : Nat} {v : Value} (u : Value) : Kp (Xt X t v) w (w.setCell ⟨t, o, none⟩ u) := (Kp.refl _ w).setCell (p := ⟨t, o, none⟩) (Or.inr (Xt_u (Xu_of (Or.inr rfl)))) u
theorem Dsk.setx {w : World} {b lb mb : Nat} {D : DM} (h : Dsk w b lb mb D) {t o : Nat} (ht : X3 b lb mb t = false) (v : Value) : Dsk (w.setCell ⟨t, o, none⟩ v) b lb mb D :=
  h.same (by simp) (fun k hk => Below.heap_setCell _ _ _ _ (fun e => by rw [e, ht] at hk; cases hk))
theorem PSt.drew4 {w : World} {bs t b o : Nat} {Y : Nat → Bool} {vk vw u : Value} {ck cw : List Value} {K Wt : List (List Nat)} {ov : Bool} (h : PSt (w.setCell ⟨t, o, none⟩ u) bs t b Y vk vw ck cw K Wt ov) : PSt (w.drew.setCell ⟨t, o, none⟩ u) bs t b Y vk vw ck cw K Wt ov :=
  h.keep ⟨rfl, rfl, rfl, Nat.le_refl _, fun _ _ => rfl⟩
theorem ar_nn {n : Nat} {a b c : Nat} (h : 3 + a + b + c ≤ n) : ¬ ((n : Int) - 3 - (a : Int) - (b : Int) < (c : Int)) := by omega
theorem ar_w {a b c n : Nat} (h : 3 + a + b + c ≤ n) (hn : n ≤ 4096) : wrap64 (3 + (a : Int) + (b : Int) + (c : Int)) = 3 + (a : Int) + ((b + c : Nat) : Int) := (w_id (by omega) (by omega)).trans (by omega)
set_option maxRecDepth 100000 in
set_option maxHeartbeats 8000000 in
theorem append_n {w : World} {bs t b lb mb : Nat} {Y : Nat → Bool} {vk vw : Value} {ck cw : List Value} {K Wt : List (List Nat)} {D : DM} (h : PSt w bs t b Y vk vw ck cw K Wt false) (hd : Dsk w b lb mb D) (hXY : ∀ g, X3 b lb mb g = true → Y g = true) (hY : ∀ g, Y g = true → g < w.heap.size) (hbs : bs ≤ w.heap.size) (hWl : Wt.length ≤ 100000)
    {x : Option Addr} {m c : Nat} {f : Nat → Nat} (hb : BA w x m f) (hz : 0 < m → ∀ p, x = some p → X3 b lb mb p.block = false) (hm : m ≤ 200) (hf : 3 + tks K + tks Wt + tk m ≤ D.n) :
    Calls Try.prog 11 #[pp t, .slice x m c] w (ApP w bs t b lb mb Y vk vw ck (apw D (3 + tks K + tks Wt) f m (tk m)).1 (apw D (3 + tks K + tks Wt) f m (tk m)).2 K (apW (apw D (3 + tks K + tks Wt) f m (tk m)).2 Wt (fl f m)) (cmO (apw D (3 + tks K + tks Wt) f m (tk m)).2)) := by
  have hn := hd.ok.n
  have HO := hide (over_n h)
  have HRm := hide (room_n h hd (by omega) (by omega))
  have hm' : ¬ ((200 : Int) < (m : Int)) := by omega
  have hm9 : m ≤ 1000000000 := by omega
  have hlt := ar_nn hf
  obtain ⟨p, hp⟩ : ∃ p, p = 3 + tks K + tks Wt := ⟨_, rfl⟩
  obtain ⟨D1, er, hA⟩ : ∃ D1 er, apw D p f m (tk m) = (D1, er) := ⟨_, _, rfl⟩
  rw [← hp, hA]
  have hp4 : (p : Int) = 3 + (tks K : Int) + (tks Wt : Int) := by omega
  have HC : Hid (∀ W, Below w.heap.size w W → Calls Try.prog 42 #[pp b, .int .i64 (3 + (tks K : Int) + (tks Wt : Int)), .slice x m c] W (WrP W b lb mb D1 er)) := fun W hW => by
    have h5 := write_n (c := c) (hd.keep hW) (p := p) (by omega) (hb.keep hW) hm
    rw [hA, hp4] at h5
    exact h5
  have HS := hide h
  have HD := hide hd
  have HBb := hide hb
  have HZ := hide hz
  have HX := hide (And.intro hXY (And.intro hY hbs))
  have HT : Hid (X3 b lb mb t = false) := by
    cases hq : X3 b lb mb t with
    | false => rfl
    | true => have := hXY t hq; rw [h.ty] at this; cases this
  have HAr := hide (ar_w hf hn)
  clear h hd hb hz hXY hY hbs hp hp4 hA hf
  go_enter Try.func11, Try.ntmps11
  go_upto_region 7 with (first
    | (go_at_call 40; refine Calls.mono HO.out ?_; rintro e w ⟨rfl, rfl⟩)
    | (go_at_call 36; refine Calls.mono HRm.out ?_; rintro e W1 ⟨rfl, hB1⟩; have HB1 := hide hB1; clear hB1)
    | (go_at_call 41; refine Calls.mono (takes_n hm9) ?_; rintro e W1 ⟨rfl, rfl⟩))
  have h0 := later HB1.out HS.out.c0
  have h4 := later HB1.out HS.out.c4
  have HB1d : Hid (Below w.heap.size w W1.drew) := Go.Proofs.Ytpophfeommlajaa.K.drew HB1.out
  have HC1 := hide (HC.out _ HB1d.out)
  refine wp_region_noPanic ?_
  refine wp_region_held_drew (S := fun w' => w'.cell? ⟨t, 0, none⟩ = some (pp b) ∧ w'.cell? ⟨t, 4, none⟩ = some (.int .i64 (3 + (tks K : Int) + (tks Wt : Int)))) (by kernel_rfl) ⟨h0, h4⟩ (fun hS0 => ?_)
  refine wpAnyH_take (i := 0) (v := pp t) rfl (by kernel_rfl) (by kernel_rfl) (by kernel_rfl) (fun _ _ _ h => h) (Or.inl ⟨by rfl, fun w' _ => by go_simp⟩) hS0 ?_
  simp only [Act.put, List.getElem_toArray, List.getElem_cons_zero, List.setIfInBounds_toArray, List.set_cons_zero, List.set_cons_succ]
  refine wpAnyH_take (i := 1) (v := pp t) rfl (by kernel_rfl) (by kernel_rfl) (by kernel_rfl) (fun _ _ _ h => h) (Or.inl ⟨by rfl, fun w' _ => by go_simp⟩) hS0 ?_
  simp only [Act.put, List.getElem_toArray, List.getElem_cons_zero, List.getElem_cons_succ, List.setIfInBounds_toArray, List.set_cons_zero, List.set_cons_succ]
  refine wpAnyH_take (i := 2) (v := .pointer (some ⟨t, 0, none⟩)) rfl (by kernel_rfl) (by kernel_rfl) (by kernel_rfl) (fun _ _ _ h => h) (Or.inl ⟨by rfl, fun w' _ => by go_simp⟩) hS0 ?_
  simp only [Act.put, List.getElem_toArray, List.getElem_cons_zero, List.getElem_cons_succ, List.setIfInBounds_toArray, List.set_cons_zero, List.set_cons_succ]
  refine wpAnyH_take (i := 3) (v := pp b) rfl (by kernel_rfl) (by kernel_rfl) (by kernel_rfl) (fun _ _ _ h => h) (Or.inl ⟨by rfl, fun w' hS => by have hc := hS.1; go_simp⟩) hS0 ?_
  simp only [Act.put, List.getElem_toArray, List.getElem_cons_zero, List.getElem_cons_succ, List.setIfInBounds_toArray, List.set_cons_zero, List.set_cons_succ]
  refine wpAnyH_take (i := 4) (v := pp t) rfl (by kernel_rfl) (by kernel_rfl) (by kernel_rfl) (fun _ _ _ h => h) (Or.inl ⟨by rfl, fun w' _ => by go_simp⟩) hS0 ?_
  simp only [Act.put, List.getElem_toArray, List.getElem_cons_zero, List.getElem_cons_succ, List.setIfInBounds_toArray, List.set_cons_zero, List.set_cons_succ]
  refine wpAnyH_take (i := 5) (v := pp t) rfl (by kernel_rfl) (by kernel_rfl) (by kernel_rfl) (fun _ _ _ h => h) (Or.inl ⟨by rfl, fun w' _ => by go_simp⟩) hS0 ?_
  simp only [Act.put, List.getElem_toArray, List.getElem_cons_zero, List.getElem_cons_succ, List.setIfInBounds_toArray, List.set_cons_zero, List.set_cons_succ]
  refine wpAnyH_take (i := 6) (v := .pointer (some ⟨t, 4, none⟩)) rfl (by kernel_rfl) (by kernel_rfl) (by kernel_rfl) (fun _ _ _ h => h) (Or.inl ⟨by rfl, fun w' _ => by go_simp⟩) hS0 ?_
  simp only [Act.put, List.getElem_toArray, List.getElem_cons_zero, List.getElem_cons_succ, List.setIfInBounds_toArray, List.set_cons_zero, List.set_cons_succ]
  refine wpAnyH_take (i := 7) (v := .int .i64 (3 + (tks K : Int) + (tks Wt : Int))) rfl (by kernel_rfl) (by kernel_rfl) (by kernel_rfl) (fun _ _ _ h => h) (Or.inl ⟨by rfl, fun w' hS => by have hc := hS.2; go_simp⟩) hS0 ?_
  simp only [Act.put, List.getElem_toArray, List.getElem_cons_zero, List.getElem_cons_succ, List.setIfInBounds_toArray, List.set_cons_zero, List.set_cons_succ]
  refine wpAnyH_take (i := 8) (v := .slice x m c) rfl (by kernel_rfl) (by kernel_rfl) (by kernel_rfl) (fun _ _ _ h => h) (Or.inl ⟨by rfl, fun w' _ => by go_simp⟩) hS0 ?_
  simp only [Act.put, List.getElem_toArray, List.getElem_cons_zero, List.getElem_cons_succ, List.setIfInBounds_toArray, List.set_cons_zero, List.set_cons_succ]
  refine wpAnyH_ready (rs := [9]) (by kernel_rfl) (by simp) (AllReadyH.cons rfl (fun Kt hK => ?_) AllReadyH.nil)
  refine wanted_pos rfl ?_
  refine wp_call (R := fun x w' => x = .int .i64 er ∧ Dsk w' b lb mb D1 ∧ Kp (X3 b lb mb) W1.drew w') (vs := #[pp b, .int .i64 (3 + (tks K : Int) + (tks Wt : Int)), .slice x m c]) rfl (by simp only [List.map_toArray, List.map_cons, List.map_nil]; rfl) (by go_simp) (Calls.mono HC1.out (fun e w' he => ⟨_, he.1, rfl, he.2⟩)) (fun x W2 hr => ?_)
  obtain ⟨hx, hD2, hK2⟩ := hr
  subst hx
  have HD2 := hide hD2
  have HK2 := hide hK2
  clear hD2 hK2
  refine hK.out _ _ ⟨(HK2.out.cell (p := ⟨t, 0, none⟩) (World.block_lt_of_cell? _ _ hS0.1) HT.out).trans hS0.1, (HK2.out.cell (p := ⟨t, 4, none⟩) (World.block_lt_of_cell? _ _ hS0.2) HT.out).trans hS0.2⟩ (fun hS2 => ?_)
  clear hK Kt
  simp only [Act.put, List.getElem_toArray, List.getElem_cons_zero, List.getElem_cons_succ, List.setIfInBounds_toArray, List.set_cons_zero, List.set_cons_succ]
  refine wpAnyH_take (i := 10) (v := .int .i64 er) rfl (by kernel_rfl) (by kernel_rfl) (by kernel_rfl) (fun _ _ _ h => h) (Or.inl ⟨by rfl, fun w' _ => by go_simp⟩) hS2 ?_
  simp only [Act.put, List.getElem_toArray, List.getElem_cons_zero, List.getElem_cons_succ, List.setIfInBounds_toArray, List.set_cons_zero, List.set_cons_succ]
  refine wpAnyH_done (by kernel_rfl) ?_ _
  refine NoPanic.normal ?_
  clear hS2
  have HKw : Hid (Kp (X3 b lb mb) w W2) := (Kp.of HB1d.out).trans HK2.out
  have HS2 := hide (HS.out.kp (HKw.out.mono HX.out.1))
  by_cases he : er = 0
  · have hq : (er != 0) = false := by simp [he]
    have HE : Hid (apW er Wt (fl f m) = Wt ++ [fl f m] ∧ cmO er = false ∧ er = 0) := ⟨if_pos he, by subst he; decide, he⟩
    have HBx : Hid (BA W2 x m f) := ba_same HBb.out (fun h0 a ha hl => HKw.out.block _ hl (HZ.out h0 a ha))
    clear he HC HC1 HO HRm h0 h4 hS0
    go_upto_region 10 with fail
    have HB2d : Hid (Below W2.heap.size W2 W2.drew) := Go.Proofs.Ytpophfeommlajaa.K.drew (Below.refl _ _)
    have HCl := hide (clone_n (c := c) (HBx.out.keep HB2d.out) (by omega))
    refine wp_region_noPanic ?_
    refine wp_region_held_drew (S := fun _ => True) (by kernel_rfl) trivial (fun hS0 => ?_)
    refine wpAnyH_take (i := 0) (v := pp t) rfl (by kernel_rfl) (by kernel_rfl) (by kernel_rfl) (fun _ _ _ h => h) (Or.inl ⟨by rfl, fun w' _ => by go_simp⟩) hS0 ?_
    simp only [Act.put, List.getElem_toArray, List.getElem_cons_zero, List.setIfInBounds_toArray, List.set_cons_zero, List.set_cons_succ]
    refine wpAnyH_take (i := 1) (v := pp t) rfl (by kernel_rfl) (by kernel_rfl) (by kernel_rfl) (fun _ _ _ h => h) (Or.inl ⟨by rfl, fun w' _ => by go_simp⟩) hS0 ?_
    simp only [Act.put, List.getElem_toArray, List.getElem_cons_zero, List.getElem_cons_succ, List.setIfInBounds_toArray, List.set_cons_zero, List.set_cons_succ]
    refine wpAnyH_take (i := 2) (v := pp t) rfl (by kernel_rfl) (by kernel_rfl) (by kernel_rfl) (fun _ _ _ h => h) (Or.inl ⟨by rfl, fun w' _ => by go_simp⟩) hS0 ?_
    simp only [Act.put, List.getElem_toArray, List.getElem_cons_zero, List.getElem_cons_succ, List.setIfInBounds_toArray, List.set_cons_zero, List.set_cons_succ]
    refine wpAnyH_take (i := 3) (v := .pointer (some ⟨t, 2, none⟩)) rfl (by kernel_rfl) (by kernel_rfl) (by kernel_rfl) (fun _ _ _ h => h) (Or.inl ⟨by rfl, fun w' _ => by go_simp⟩) hS0 ?_
    simp only [Act.put, List.getElem_toArray, List.getElem_cons_zero, List.getElem_cons_succ, List.setIfInBounds_toArray, List.set_cons_zero, List.set_cons_succ]
    refine wpAnyH_take (i := 5) (v := .slice x m c) rfl (by kernel_rfl) (by kernel_rfl) (by kernel_rfl) (fun _ _ _ h => h) (Or.inl ⟨by rfl, fun w' _ => by go_simp⟩) hS0 ?_
    simp only [Act.put, List.getElem_toArray, List.getElem_cons_zero, List.getElem_cons_succ, List.setIfInBounds_toArray, List.set_cons_zero, List.set_cons_succ]
    refine wpAnyH_ready (rs := [4, 6]) (by kernel_rfl) (by simp) (AllReadyH.cons rfl (fun Kt hK => ?_) (AllReadyH.cons rfl (fun Kt hK => ?_) AllReadyH.nil))
    · skip
      refine wanted_pos rfl ?_
      refine wp_load2 rfl (by rfl) (HS2.out.c2) (hK.out _ _ trivial (fun _ => ?_))
      clear hK Kt
      simp only [Act.put, List.getElem_toArray, List.getElem_cons_zero, List.getElem_cons_succ, List.setIfInBounds_toArray, List.set_cons_zero, List.set_cons_succ]
      refine wpAnyH_ready (rs := [6]) (by kernel_rfl) (by simp) (AllReadyH.cons rfl (fun Kt hK => ?_) AllReadyH.nil)
      refine wanted_pos rfl ?_
      refine wp_call (R := fun x w' => ∃ z3 c3, x = .slice z3 m c3 ∧ BA w' z3 m f ∧ (0 < m → ∀ p, z3 = some p → W2.drew.heap.size ≤ p.block) ∧ Below W2.drew.heap.size W2.drew w') (vs := #[.slice x m c]) rfl (by simp only [List.map_toArray, List.map_cons, List.map_nil]; rfl) (by go_simp) (Calls.mono HCl.out (fun e w' he => by obtain ⟨z, c, rfl, hh⟩ := he; exact ⟨_, rfl, z, c, rfl, hh⟩)) (fun x W3 hr => ?_)
      obtain ⟨z3, c3, hx, hr3⟩ := hr
      subst hx
      have HR3 := hide hr3
      clear hr3
      refine hK.out _ _ trivial (fun _ => ?_)
      clear hK Kt
      simp only [Act.put, List.getElem_toArray, List.getElem_cons_zero, List.getElem_cons_succ, List.setIfInBounds_toArray, List.set_cons_zero, List.set_cons_succ]
      refine wpAnyH_ready (rs := [7]) (by kernel_rfl) (by simp) (AllReadyH.cons rfl (fun Kt hK => ?_) AllReadyH.nil)
      refine wanted_pos rfl ?_
      refine wp_buildS rfl (by rfl) (hK.out _ _ trivial (fun _ => ?_))
      clear hK Kt
      simp only [Act.put, List.getElem_toArray, List.getElem_cons_zero, List.getElem_cons_succ, List.setIfInBounds_toArray, List.set_cons_zero, List.set_cons_succ]
      refine wpAnyH_ready (rs := [8]) (by kernel_rfl) (by simp) (AllReadyH.cons rfl (fun Kt hK => ?_) AllReadyH.nil)
      refine wanted_pos rfl ?_
      have HX2 := hide (HS2.out.s.keep ((HB2d.out.trans (HR3.out.2.2.mono HB2d.out.size)).trans ((Go.Proofs.Ytpophfeommlajaa.K.alloc (Below.refl _ W3) (.cells #[.slice z3 m c3] 38)).mono (Nat.le_trans HB2d.out.size HR3.out.2.2.size))))
      have HSz : Hid (bs ≤ (W3.alloc (.cells #[.slice z3 m c3] 38)).heap.size) := Nat.le_trans HX.out.2.2 (Nat.le_trans HKw.out.size (Nat.le_trans HB2d.out.size (Nat.le_trans HR3.out.2.2.size (by simp))))
      refine wp_app1 (e := .slice z3 m c3) (q := W3.heap.size) (n := Wt.length) (xs := cw) _ _ rfl (by rfl) HX2.out.o (by rfl) (Boxed.new W3 38 (.slice z3 m c3)).cell rfl hWl HSz.out (fun v4 W4 ho hG hat => ?_)
      have HPu := hide (HS2.out.push (fun g hg => Nat.lt_of_lt_of_le (HX.out.2.1 g hg) HKw.out.size) (HB2d.out.trans (HR3.out.2.2.mono HB2d.out.size)) HR3.out.1 (fun h0 a ha => HR3.out.2.1 h0 a ha) ho hG hat)
      have HKg : Hid (Kp (Xt (X3 b lb mb) t vw) W2 W4) := ((Kp.of HB2d.out).trans ((Kp.of HR3.out.2.2).trans (Kp.of (Go.Proofs.Ytpophfeommlajaa.K.alloc (Below.refl _ W3) (.cells #[.slice z3 m c3] 38))))).trans (grown_kp hG (fun k hk => Xt_own hk))
      have HAt : Hid (v4.ownBlock = vw.ownBlock ∨ ∃ g, v4.ownBlock = some g ∧ w.heap.size ≤ g) := hat.imp id (fun e => ⟨_, e, Nat.le_trans HKw.out.size (Nat.le_trans HB2d.out.size (Nat.le_trans HR3.out.2.2.size (by simp)))⟩)
      have HDg : Hid (Dsk W4 b lb mb D1) := ((HD2.out.keep (HB2d.out.trans (HR3.out.2.2.mono HB2d.out.size))).keep (Go.Proofs.Ytpophfeommlajaa.K.alloc (Below.refl _ W3) (.cells #[.slice z3 m c3] 38))).same hG.size (fun k hk => hG.block k (by
        have hl : k < W2.heap.size := by
          rcases X3_of.1 hk with rfl | rfl | rfl
          · exact HD2.out.bl
          · exact HD2.out.ll
          · exact HD2.out.mp.lt
        exact Nat.lt_of_lt_of_le hl (Nat.le_trans HB2d.out.size (Nat.le_trans HR3.out.2.2.size (by simp)))) (fun e => by
          have := HS2.out.s.x k e.symm
          rw [Xt_u (Xu_of (Or.inl (HX.out.1 k hk)))] at this
          cases this))
      obtain ⟨lq, lc, e6, _⟩ := own_form ho (Nat.succ_pos _)
      subst e6
      clear ho hG hat
      refine hK.out _ _ trivial (fun _ => ?_)
      clear hK Kt
      simp only [Act.put, List.getElem_toArray, List.getElem_cons_zero, List.getElem_cons_succ, List.setIfInBounds_toArray, List.set_cons_zero, List.set_cons_succ]
      refine wpAnyH_take (i := 9) (v := pp t) rfl (by kernel_rfl) (by kernel_rfl) (by kernel_rfl) (fun _ _ _ h => h) (Or.inl ⟨by rfl, fun w' _ => by go_simp⟩) trivial ?_
      simp only [Act.put, List.getElem_toArray, List.getElem_cons_zero, List.getElem_cons_succ, List.setIfInBounds_toArray, List.set_cons_zero, List.set_cons_succ]
      refine wpAnyH_take (i := 10) (v := .pointer (some ⟨t, 2, none⟩)) rfl (by kernel_rfl) (by kernel_rfl) (by kernel_rfl) (fun _ _ _ h => h) (Or.inl ⟨by rfl, fun w' _ => by go_simp⟩) trivial ?_
      simp only [Act.put, List.getElem_toArray, List.getElem_cons_zero, List.getElem_cons_succ, List.setIfInBounds_toArray, List.set_cons_zero, List.set_cons_succ]
      refine wpAnyH_ready (rs := [11]) (by kernel_rfl) (by simp) (AllReadyH.cons rfl (fun Kt hK => ?_) AllReadyH.nil)
      refine wanted_pos rfl ?_
      refine wp_store2 rfl (by rfl) (by rfl) HPu.out.2.1 HPu.out.2.2.1 (hK.out _ _ trivial (fun _ => ?_))
      clear hK Kt
      simp only [Act.put, List.getElem_toArray, List.getElem_cons_zero, List.getElem_cons_succ]
      refine wpAnyH_done (by kernel_rfl) ?_ _
      refine NoPanic.normal ?_
      obtain ⟨W5, hW5⟩ : ∃ W5, W5 = W4.setCell ⟨t, 2, none⟩ (.slice (some ⟨lq, 0, none⟩) (Wt.length + 1) lc) := ⟨_, rfl⟩
      rw [← hW5]
      have HP5 := hide HPu.out.1
      rw [← hW5] at HP5
      have HQ4 : Hid (W5.drew.cell? ⟨t, 4, none⟩ = some (.int .i64 (3 + (tks K : Int) + (tks Wt : Int)))) := by rw [hW5]; exact HPu.out.2.2.2.1 _
      have HQz : Hid (W5.drew.frozen? ⟨t, 4, none⟩ = false) := by rw [hW5]; exact HPu.out.2.2.2.2 _
      have HK5 : Hid (Kp (Xt (X3 b lb mb) t vw) W2 W5) := by rw [hW5]; exact HKg.out.trans (kp_v _)
      have HD5 : Hid (Dsk W5 b lb mb D1) := by rw [hW5]; exact HDg.out.setx HT.out _
      clear hW5 HX2 HPu HKg HDg
      go_upto_region 11 with fail
      refine wp_region_noPanic ?_
      refine wp_region_held_drew (S := fun _ => True) (by kernel_rfl) trivial (fun hS0 => ?_)
      refine wpAnyH_take (i := 0) (v := pp t) rfl (by kernel_rfl) (by kernel_rfl) (by kernel_rfl) (fun _ _ _ h => h) (Or.inl ⟨by rfl, fun w' _ => by go_simp⟩) hS0 ?_
      simp only [Act.put, List.getElem_toArray, List.getElem_cons_zero, List.setIfInBounds_toArray, List.set_cons_zero, List.set_cons_succ]
      refine wpAnyH_take (i := 1) (v := pp t) rfl (by kernel_rfl) (by kernel_rfl) (by kernel_rfl) (fun _ _ _ h => h) (Or.inl ⟨by rfl, fun w' _ => by go_simp⟩) hS0 ?_
      simp only [Act.put, List.getElem_toArray, List.getElem_cons_zero, List.getElem_cons_succ, List.setIfInBounds_toArray, List.set_cons_zero, List.set_cons_succ]
      refine wpAnyH_take (i := 2) (v := .pointer (some ⟨t, 4, none⟩)) rfl (by kernel_rfl) (by kernel_rfl) (by kernel_rfl) (fun _ _ _ h => h) (Or.inl ⟨by rfl, fun w' _ => by go_simp⟩) hS0 ?_
      simp only [Act.put, List.getElem_toArray, List.getElem_cons_zero, List.getElem_cons_succ, List.setIfInBounds_toArray, List.set_cons_zero, List.set_cons_succ]
      refine wpAnyH_take (i := 4) (v := .slice x m c) rfl (by kernel_rfl) (by kernel_rfl) (by kernel_rfl) (fun _ _ _ h => h) (Or.inl ⟨by rfl, fun w' _ => by go_simp⟩) hS0 ?_
      simp only [Act.put, List.getElem_toArray, List.getElem_cons_zero, List.getElem_cons_succ, List.setIfInBounds_toArray, List.set_cons_zero, List.set_cons_succ]
      refine wpAnyH_take (i := 5) (v := .int .i64 (m : Int)) rfl (by kernel_rfl) (by kernel_rfl) (by kernel_rfl) (fun _ _ _ h => h) (Or.inl ⟨by rfl, fun w' _ => by go_simp⟩) hS0 ?_
      simp only [Act.put, List.getElem_toArray, List.getElem_cons_zero, List.getElem_cons_succ, List.setIfInBounds_toArray, List.set_cons_zero, List.set_cons_succ]
      apply meet
      · intro hcut
        refine wpAnyH_ready (rs := [3, 6]) (by kernel_rfl) (by simp) (AllReadyH.cons rfl (fun Kt hK => ?_) (AllReadyH.cons rfl (fun Kt hK => ?_) AllReadyH.nil))
        · skip
          refine wanted_pos rfl ?_
          refine wp_loadI rfl (by rfl) HQ4.out (hK.out _ _ trivial (fun _ => ?_))
          clear hK Kt
          simp only [Act.put, List.getElem_toArray, List.getElem_cons_zero, List.getElem_cons_succ, List.setIfInBounds_toArray, List.set_cons_zero, List.set_cons_succ]
          refine wpAnyH_ready (rs := [6]) (by kernel_rfl) (by simp) (AllReadyH.cons rfl (fun Kt hK => ?_) AllReadyH.nil)
          refine wanted_pos rfl ?_
          refine wp_call (R := fun x w' => x = .int .i64 (tk m : Int) ∧ w' = W5.drew) (vs := #[.int .i64 (m : Int)]) rfl (by simp only [List.map_toArray, List.map_cons, List.map_nil]; rfl) (by go_simp) (Calls.mono (takes_n hm9) (fun e w' he => ⟨_, he.1, rfl, he.2⟩)) (fun x W6 hr => ?_)
          obtain ⟨hx, rfl⟩ := hr
          subst hx
          refine hK.out _ _ trivial (fun _ => ?_)
          clear hK Kt
          simp only [Act.put, List.getElem_toArray, List.getElem_cons_zero, List.getElem_cons_succ, List.setIfInBounds_toArray, List.set_cons_zero, List.set_cons_succ]
          exact hcut
        · skip
          refine wanted_pos rfl ?_
          refine wp_call (R := fun x w' => x = .int .i64 (tk m : Int) ∧ w' = W5.drew) (vs := #[.int .i64 (m : Int)]) rfl (by simp only [List.map_toArray, List.map_cons, List.map_nil]; rfl) (by go_simp) (Calls.mono (takes_n hm9) (fun e w' he => ⟨_, he.1, rfl, he.2⟩)) (fun x W6 hr => ?_)
          obtain ⟨hx, rfl⟩ := hr
          subst hx
          refine hK.out _ _ trivial (fun _ => ?_)
          clear hK Kt
          simp only [Act.put, List.getElem_toArray, List.getElem_cons_zero, List.getElem_cons_succ, List.setIfInBounds_toArray, List.set_cons_zero, List.set_cons_succ]
          refine wpAnyH_ready (rs := [3]) (by kernel_rfl) (by simp) (AllReadyH.cons rfl (fun Kt hK => ?_) AllReadyH.nil)
          refine wanted_pos rfl ?_
          refine wp_loadI rfl (by rfl) HQ4.out (hK.out _ _ trivial (fun _ => ?_))
          clear hK Kt
          simp only [Act.put, List.getElem_toArray, List.getElem_cons_zero, List.getElem_cons_succ, List.setIfInBounds_toArray, List.set_cons_zero, List.set_cons_succ]
          exact hcut
      refine wpAnyH_take (i := 7) (v := .int .i64 (3 + (tks K : Int) + ((tks Wt + tk m : Nat) : Int))) rfl (by kernel_rfl) (by kernel_rfl) (by kernel_rfl) (fun _ _ _ h => h) (Or.inl ⟨by rfl, fun w' _ => by go_simp; exact (wrapI _).trans HAr.out⟩) trivial ?_
      simp only [Act.put, List.getElem_toArray, List.getElem_cons_zero, List.getElem_cons_succ, List.setIfInBounds_toArray, List.set_cons_zero, List.set_cons_succ]
      refine wpAnyH_take (i := 8) (v := pp t) rfl (by kernel_rfl) (by kernel_rfl) (by kernel_rfl) (fun _ _ _ h => h) (Or.inl ⟨by rfl, fun w' _ => by go_simp⟩) trivial ?_
      simp only [Act.put, List.getElem_toArray, List.getElem_cons_zero, List.getElem_cons_succ, List.setIfInBounds_toArray, List.set_cons_zero, List.set_cons_succ]
      refine wpAnyH_take (i := 9) (v := .pointer (some ⟨t, 4, none⟩)) rfl (by kernel_rfl) (by kernel_rfl) (by kernel_rfl) (fun _ _ _ h => h) (Or.inl ⟨by rfl, fun w' _ => by go_simp⟩) trivial ?_
      simp only [Act.put, List.getElem_toArray, List.getElem_cons_zero, List.getElem_cons_succ, List.setIfInBounds_toArray, List.set_cons_zero, List.set_cons_succ]
      refine wpAnyH_ready (rs := [10]) (by kernel_rfl) (by simp) (AllReadyH.cons rfl (fun Kt hK => ?_) AllReadyH.nil)
      refine wanted_pos rfl ?_
      refine wp_storeI rfl (by rfl) (by rfl) HQ4.out HQz.out (hK.out _ _ trivial (fun _ => ?_))
      clear hK Kt
      simp only [Act.put, List.getElem_toArray, List.getElem_cons_zero, List.getElem_cons_succ]
      refine wpAnyH_done (by kernel_rfl) ?_ _
      refine NoPanic.normal ?_
      go_wp2_with fail
      go_ret
      rw [HE.out.1, HE.out.2.1, HE.out.2.2]
      have hts : (tks (Wt ++ [fl f m]) : Int) = ((tks Wt + tk m : Nat) : Int) := by rw [tks_snoc]
      have hP5 := HP5.out
      rw [hts] at hP5
      exact ⟨rfl, _, _, (HD5.out.keep (Go.Proofs.Ytpophfeommlajaa.K.drew (Below.refl _ W5))).setx HT.out _, hP5.drew4, ((HKw.out.mono (fun k hk => Xt_u (Xu_of (Or.inl hk)))).trans (HK5.out.trans (Kp.of (Go.Proofs.Ytpophfeommlajaa.K.drew (Below.refl _ W5))))).trans (kp_v _), HAt.out⟩
    · skip
      refine wanted_pos rfl ?_
      refine wp_call (R := fun x w' => ∃ z3 c3, x = .slice z3 m c3 ∧ BA w' z3 m f ∧ (0 < m → ∀ p, z3 = some p → W2.drew.heap.size ≤ p.block) ∧ Below W2.drew.heap.size W2.drew w') (vs := #[.slice x m c]) rfl (by simp only [List.map_toArray, List.map_cons, List.map_nil]; rfl) (by go_simp) (Calls.mono HCl.out (fun e w' he => by obtain ⟨z, c, rfl, hh⟩ := he; exact ⟨_, rfl, z, c, rfl, hh⟩)) (fun x W3 hr => ?_)
      obtain ⟨z3, c3, hx, hr3⟩ := hr
      subst hx
      have HR3 := hide hr3
      clear hr3
      refine hK.out _ _ trivial (fun _ => ?_)
      clear hK Kt
      simp only [Act.put, List.getElem_toArray, List.getElem_cons_zero, List.getElem_cons_succ, List.setIfInBounds_toArray, List.set_cons_zero, List.set_cons_succ]
      refine wpAnyH_ready (rs := [4, 7]) (by kernel_rfl) (by simp) (AllReadyH.cons rfl (fun Kt hK => ?_) (AllReadyH.cons rfl (fun Kt hK => ?_) AllReadyH.nil))
      · skip
        refine wanted_pos rfl ?_
        refine wp_load2 rfl (by rfl) (later HR3.out.2.2 HS2.out.c2) (hK.out _ _ trivial (fun _ => ?_))
        clear hK Kt
        simp only [Act.put, List.getElem_toArray, List.getElem_cons_zero, List.getElem_cons_succ, List.setIfInBounds_toArray, List.set_cons_zero, List.set_cons_succ]
        refine wpAnyH_ready (rs := [7]) (by kernel_rfl) (by simp) (AllReadyH.cons rfl (fun Kt hK => ?_) AllReadyH.nil)
        refine wanted_pos rfl ?_
        refine wp_buildS rfl (by rfl) (hK.out _ _ trivial (fun _ => ?_))
        clear hK Kt
        simp only [Act.put, List.getElem_toArray, List.getElem_cons_zero, List.getElem_cons_succ, List.setIfInBounds_toArray, List.set_cons_zero, List.set_cons_succ]
        refine wpAnyH_ready (rs := [8]) (by kernel_rfl) (by simp) (AllReadyH.cons rfl (fun Kt hK => ?_) AllReadyH.nil)
        refine wanted_pos rfl ?_
        have HX2 := hide (HS2.out.s.keep ((HB2d.out.trans (HR3.out.2.2.mono HB2d.out.size)).trans ((Go.Proofs.Ytpophfeommlajaa.K.alloc (Below.refl _ W3) (.cells #[.slice z3 m c3] 38)).mono (Nat.le_trans HB2d.out.size HR3.out.2.2.size))))
        have HSz : Hid (bs ≤ (W3.alloc (.cells #[.slice z3 m c3] 38)).heap.size) := Nat.le_trans HX.out.2.2 (Nat.le_trans HKw.out.size (Nat.le_trans HB2d.out.size (Nat.le_trans HR3.out.2.2.size (by simp))))
        refine wp_app1 (e := .slice z3 m c3) (q := W3.heap.size) (n := Wt.length) (xs := cw) _ _ rfl (by rfl) HX2.out.o (by rfl) (Boxed.new W3 38 (.slice z3 m c3)).cell rfl hWl HSz.out (fun v4 W4 ho hG hat => ?_)
        have HPu := hide (HS2.out.push (fun g hg => Nat.lt_of_lt_of_le (HX.out.2.1 g hg) HKw.out.size) (HB2d.out.trans (HR3.out.2.2.mono HB2d.out.size)) HR3.out.1 (fun h0 a ha => HR3.out.2.1 h0 a ha) ho hG hat)
        have HKg : Hid (Kp (Xt (X3 b lb mb) t vw) W2 W4) := ((Kp.of HB2d.out).trans ((Kp.of HR3.out.2.2).trans (Kp.of (Go.Proofs.Ytpophfeommlajaa.K.alloc (Below.refl _ W3) (.cells #[.slice z3 m c3] 38))))).trans (grown_kp hG (fun k hk => Xt_own hk))
        have HAt : Hid (v4.ownBlock = vw.ownBlock ∨ ∃ g, v4.ownBlock = some g ∧ w.heap.size ≤ g) := hat.imp id (fun e => ⟨_, e, Nat.le_trans HKw.out.size (Nat.le_trans HB2d.out.size (Nat.le_trans HR3.out.2.2.size (by simp)))⟩)
        have HDg : Hid (Dsk W4 b lb mb D1) := ((HD2.out.keep (HB2d.out.trans (HR3.out.2.2.mono HB2d.out.size))).keep (Go.Proofs.Ytpophfeommlajaa.K.alloc (Below.refl _ W3) (.cells #[.slice z3 m c3] 38))).same hG.size (fun k hk => hG.block k (by
          have hl : k < W2.heap.size := by
            rcases X3_of.1 hk with rfl | rfl | rfl
            · exact HD2.out.bl
            · exact HD2.out.ll
            · exact HD2.out.mp.lt
          exact Nat.lt_of_lt_of_le hl (Nat.le_trans HB2d.out.size (Nat.le_trans HR3.out.2.2.size (by simp)))) (fun e => by
            have := HS2.out.s.x k e.symm
            rw [Xt_u (Xu_of (Or.inl (HX.out.1 k hk)))] at this
            cases this))
        obtain ⟨lq, lc, e6, _⟩ := own_form ho (Nat.succ_pos _)
        subst e6
        clear ho hG hat
        refine hK.out _ _ trivial (fun _ => ?_)
        clear hK Kt
        simp only [Act.put, List.getElem_toArray, List.getElem_cons_zero, List.getElem_cons_succ, List.setIfInBounds_toArray, List.set_cons_zero, List.set_cons_succ]
        refine wpAnyH_take (i := 9) (v := pp t) rfl (by kernel_rfl) (by kernel_rfl) (by kernel_rfl) (fun _ _ _ h => h) (Or.inl ⟨by rfl, fun w' _ => by go_simp⟩) trivial ?_
        simp only [Act.put, List.getElem_toArray, List.getElem_cons_zero, List.getElem_cons_succ, List.setIfInBounds_toArray, List.set_cons_zero, List.set_cons_succ]
        refine wpAnyH_take (i := 10) (v := .pointer (some ⟨t, 2, none⟩)) rfl (by kernel_rfl) (by kernel_rfl) (by kernel_rfl) (fun _ _ _ h => h) (Or.inl ⟨by rfl, fun w' _ => by go_simp⟩) trivial ?_
        simp only [Act.put, List.getElem_toArray, List.getElem_cons_zero, List.getElem_cons_succ, List.setIfInBounds_toArray, List.set_cons_zero, List.set_cons_succ]
        refine wpAnyH_ready (rs := [11]) (by kernel_rfl) (by simp) (AllReadyH.cons rfl (fun Kt hK => ?_) AllReadyH.nil)
        refine wanted_pos rfl ?_
        refine wp_store2 rfl (by rfl) (by rfl) HPu.out.2.1 HPu.out.2.2.1 (hK.out _ _ trivial (fun _ => ?_))
        clear hK Kt
        simp only [Act.put, List.getElem_toArray, List.getElem_cons_zero, List.getElem_cons_succ]
        refine wpAnyH_done (by kernel_rfl) ?_ _
        refine NoPanic.normal ?_
        obtain ⟨W5, hW5⟩ : ∃ W5, W5 = W4.setCell ⟨t, 2, none⟩ (.slice (some ⟨lq, 0, none⟩) (Wt.length + 1) lc) := ⟨_, rfl⟩
        rw [← hW5]
        have HP5 := hide HPu.out.1
        rw [← hW5] at HP5
        have HQ4 : Hid (W5.drew.cell? ⟨t, 4, none⟩ = some (.int .i64 (3 + (tks K : Int) + (tks Wt : Int)))) := by rw [hW5]; exact HPu.out.2.2.2.1 _
        have HQz : Hid (W5.drew.frozen? ⟨t, 4, none⟩ = false) := by rw [hW5]; exact HPu.out.2.2.2.2 _
        have HK5 : Hid (Kp (Xt (X3 b lb mb) t vw) W2 W5) := by rw [hW5]; exact HKg.out.trans (kp_v _)
        have HD5 : Hid (Dsk W5 b lb mb D1) := by rw [hW5]; exact HDg.out.setx HT.out _
        clear hW5 HX2 HPu HKg HDg
        go_upto_region 11 with fail
        refine wp_region_noPanic ?_
        refine wp_region_held_drew (S := fun _ => True) (by kernel_rfl) trivial (fun hS0 => ?_)
        refine wpAnyH_take (i := 0) (v := pp t) rfl (by kernel_rfl) (by kernel_rfl) (by kernel_rfl) (fun _ _ _ h => h) (Or.inl ⟨by rfl, fun w' _ => by go_simp⟩) hS0 ?_
        simp only [Act.put, List.getElem_toArray, List.getElem_cons_zero, List.setIfInBounds_toArray, List.set_cons_zero, List.set_cons_succ]
        refine wpAnyH_take (i := 1) (v := pp t) rfl (by kernel_rfl) (by kernel_rfl) (by kernel_rfl) (fun _ _ _ h => h) (Or.inl ⟨by rfl, fun w' _ => by go_simp⟩) hS0 ?_
        simp only [Act.put, List.getElem_toArray, List.getElem_cons_zero, List.getElem_cons_succ, List.setIfInBounds_toArray, List.set_cons_zero, List.set_cons_succ]
        refine wpAnyH_take (i := 2) (v := .pointer (some ⟨t, 4, none⟩)) rfl (by kernel_rfl) (by kernel_rfl) (by kernel_rfl) (fun _ _ _ h => h) (Or.inl ⟨by rfl, fun w' _ => by go_simp⟩) hS0 ?_
        simp only [Act.put, List.getElem_toArray, List.getElem_cons_zero, List.getElem_cons_succ, List.setIfInBounds_toArray, List.set_cons_zero, List.set_cons_succ]
        refine wpAnyH_take (i := 4) (v := .slice x m c) rfl (by kernel_rfl) (by kernel_rfl) (by kernel_rfl) (fun _ _ _ h => h) (Or.inl ⟨by rfl, fun w' _ => by go_simp⟩) hS0 ?_
        simp only [Act.put, List.getElem_toArray, List.getElem_cons_zero, List.getElem_cons_succ, List.setIfInBounds_toArray, List.set_cons_zero, List.set_cons_succ]
        refine wpAnyH_take (i := 5) (v := .int .i64 (m : Int)) rfl (by kernel_rfl) (by kernel_rfl) (by kernel_rfl) (fun _ _ _ h => h) (Or.inl ⟨by rfl, fun w' _ => by go_simp⟩) hS0 ?_
        simp only [Act.put, List.getElem_toArray, List.getElem_cons_zero, List.getElem_cons_succ, List.setIfInBounds_toArray, List.set_cons_zero, List.set_cons_succ]
        apply meet
        · intro hcut
          refine wpAnyH_ready (rs := [3, 6]) (by kernel_rfl) (by simp) (AllReadyH.cons rfl (fun Kt hK => ?_) (AllReadyH.cons rfl (fun Kt hK => ?_) AllReadyH.nil))
          · skip
            refine wanted_pos rfl ?_
            refine wp_loadI rfl (by rfl) HQ4.out (hK.out _ _ trivial (fun _ => ?_))
            clear hK Kt
            simp only [Act.put, List.getElem_toArray, List.getElem_cons_zero, List.getElem_cons_succ, List.setIfInBounds_toArray, List.set_cons_zero, List.set_cons_succ]
            refine wpAnyH_ready (rs := [6]) (by kernel_rfl) (by simp) (AllReadyH.cons rfl (fun Kt hK => ?_) AllReadyH.nil)
            refine wanted_pos rfl ?_
            refine wp_call (R := fun x w' => x = .int .i64 (tk m : Int) ∧ w' = W5.drew) (vs := #[.int .i64 (m : Int)]) rfl (by simp only [List.map_toArray, List.map_cons, List.map_nil]; rfl) (by go_simp) (Calls.mono (takes_n hm9) (fun e w' he => ⟨_, he.1, rfl, he.2⟩)) (fun x W6 hr => ?_)
            obtain ⟨hx, rfl⟩ := hr
            subst hx
            refine hK.out _ _ trivial (fun _ => ?_)
            clear hK Kt
            simp only [Act.put, List.getElem_toArray, List.getElem_cons_zero, List.getElem_cons_succ, List.setIfInBounds_toArray, List.set_cons_zero, List.set_cons_succ]
            exact hcut
          · skip
            refine wanted_pos rfl ?_
            refine wp_call (R := fun x w' => x = .int .i64 (tk m : Int) ∧ w' = W5.drew) (vs := #[.int .i64 (m : Int)]) rfl (by simp only [List.map_toArray, List.map_cons, List.map_nil]; rfl) (by go_simp) (Calls.mono (takes_n hm9) (fun e w' he => ⟨_, he.1, rfl, he.2⟩)) (fun x W6 hr => ?_)
            obtain ⟨hx, rfl⟩ := hr
            subst hx
            refine hK.out _ _ trivial (fun _ => ?_)
            clear hK Kt
            simp only [Act.put, List.getElem_toArray, List.getElem_cons_zero, List.getElem_cons_succ, List.setIfInBounds_toArray, List.set_cons_zero, List.set_cons_succ]
            refine wpAnyH_ready (rs := [3]) (by kernel_rfl) (by simp) (AllReadyH.cons rfl (fun Kt hK => ?_) AllReadyH.nil)
            refine wanted_pos rfl ?_
            refine wp_loadI rfl (by rfl) HQ4.out (hK.out _ _ trivial (fun _ => ?_))
            clear hK Kt
            simp only [Act.put, List.getElem_toArray, List.getElem_cons_zero, List.getElem_cons_succ, List.setIfInBounds_toArray, List.set_cons_zero, List.set_cons_succ]
            exact hcut
        refine wpAnyH_take (i := 7) (v := .int .i64 (3 + (tks K : Int) + ((tks Wt + tk m : Nat) : Int))) rfl (by kernel_rfl) (by kernel_rfl) (by kernel_rfl) (fun _ _ _ h => h) (Or.inl ⟨by rfl, fun w' _ => by go_simp; exact (wrapI _).trans HAr.out⟩) trivial ?_
        simp only [Act.put, List.getElem_toArray, List.getElem_cons_zero, List.getElem_cons_succ, List.setIfInBounds_toArray, List.set_cons_zero, List.set_cons_succ]
        refine wpAnyH_take (i := 8) (v := pp t) rfl (by kernel_rfl) (by kernel_rfl) (by kernel_rfl) (fun _ _ _ h => h) (Or.inl ⟨by rfl, fun w' _ => by go_simp⟩) trivial ?_
        simp only [Act.put, List.getElem_toArray, List.getElem_cons_zero, List.getElem_cons_succ, List.setIfInBounds_toArray, List.set_cons_zero, List.set_cons_succ]
        refine wpAnyH_take (i := 9) (v := .pointer (some ⟨t, 4, none⟩)) rfl (by kernel_rfl) (by kernel_rfl) (by kernel_rfl) (fun _ _ _ h => h) (Or.inl ⟨by rfl, fun w' _ => by go_simp⟩) trivial ?_
        simp only [Act.put, List.getElem_toArray, List.getElem_cons_zero, List.getElem_cons_succ, List.setIfInBounds_toArray, List.set_cons_zero, List.set_cons_succ]
        refine wpAnyH_ready (rs := [10]) (by kernel_rfl) (by simp) (AllReadyH.cons rfl (fun Kt hK => ?_) AllReadyH.nil)
        refine wanted_pos rfl ?_
        refine wp_storeI rfl (by rfl) (by rfl) HQ4.out HQz.out (hK.out _ _ trivial (fun _ => ?_))
        clear hK Kt
        simp only [Act.put, List.getElem_toArray, List.getElem_cons_zero, List.getElem_cons_succ]
        refine wpAnyH_done (by kernel_rfl) ?_ _
        refine NoPanic.normal ?_
        go_wp2_with fail
        go_ret
        rw [HE.out.1, HE.out.2.1, HE.out.2.2]
        have hts : (tks (Wt ++ [fl f m]) : Int) = ((tks Wt + tk m : Nat) : Int) := by rw [tks_snoc]
        have hP5 := HP5.out
        rw [hts] at hP5
        exact ⟨rfl, _, _, (HD5.out.keep (Go.Proofs.Ytpophfeommlajaa.K.drew (Below.refl _ W5))).setx HT.out _, hP5.drew4, ((HKw.out.mono (fun k hk => Xt_u (Xu_of (Or.inl hk)))).trans (HK5.out.trans (Kp.of (Go.Proofs.Ytpophfeommlajaa.K.drew (Below.refl _ W5))))).trans (kp_v _), HAt.out⟩
      · skip
        refine wanted_pos rfl ?_
        refine wp_buildS rfl (by rfl) (hK.out _ _ trivial (fun _ => ?_))
        clear hK Kt
        simp only [Act.put, List.getElem_toArray, List.getElem_cons_zero, List.getElem_cons_succ, List.setIfInBounds_toArray, List.set_cons_zero, List.set_cons_succ]
        refine wpAnyH_ready (rs := [4]) (by kernel_rfl) (by simp) (AllReadyH.cons rfl (fun Kt hK => ?_) AllReadyH.nil)
        refine wanted_pos rfl ?_
        refine wp_load2 rfl (by rfl) (later (Go.Proofs.Ytpophfeommlajaa.K.alloc (Below.refl _ W3) (.cells #[.slice z3 m c3] 38)) (later HR3.out.2.2 HS2.out.c2)) (hK.out _ _ trivial (fun _ => ?_))
        clear hK Kt
        simp only [Act.put, List.getElem_toArray, List.getElem_cons_zero, List.getElem_cons_succ, List.setIfInBounds_toArray, List.set_cons_zero, List.set_cons_succ]
        refine wpAnyH_ready (rs := [8]) (by kernel_rfl) (by simp) (AllReadyH.cons rfl (fun Kt hK => ?_) AllReadyH.nil)
        refine wanted_pos rfl ?_
        have HX2 := hide (HS2.out.s.keep ((HB2d.out.trans (HR3.out.2.2.mono HB2d.out.size)).trans ((Go.Proofs.Ytpophfeommlajaa.K.alloc (Below.refl _ W3) (.cells #[.slice z3 m c3] 38)).mono (Nat.le_trans HB2d.out.size HR3.out.2.2.size))))
        have HSz : Hid (bs ≤ (W3.alloc (.cells #[.slice z3 m c3] 38)).heap.size) := Nat.le_trans HX.out.2.2 (Nat.le_trans HKw.out.size (Nat.le_trans HB2d.out.size (Nat.le_trans HR3.out.2.2.size (by simp))))
        refine wp_app1 (e := .slice z3 m c3) (q := W3.heap.size) (n := Wt.length) (xs := cw) _ _ rfl (by rfl) HX2.out.o (by rfl) (Boxed.new W3 38 (.slice z3 m c3)).cell rfl hWl HSz.out (fun v4 W4 ho hG hat => ?_)
        have HPu := hide (HS2.out.push (fun g hg => Nat.lt_of_lt_of_le (HX.out.2.1 g hg) HKw.out.size) (HB2d.out.trans (HR3.out.2.2.mono HB2d.out.size)) HR3.out.1 (fun h0 a ha => HR3.out.2.1 h0 a ha) ho hG hat)
        have HKg : Hid (Kp (Xt (X3 b lb mb) t vw) W2 W4) := ((Kp.of HB2d.out).trans ((Kp.of HR3.out.2.2).trans (Kp.of (Go.Proofs.Ytpophfeommlajaa.K.alloc (Below.refl _ W3) (.cells #[.slice z3 m c3] 38))))).trans (grown_kp hG (fun k hk => Xt_own hk))
        have HAt : Hid (v4.ownBlock = vw.ownBlock ∨ ∃ g, v4.ownBlock = some g ∧ w.heap.size ≤ g) := hat.imp id (fun e => ⟨_, e, Nat.le_trans HKw.out.size (Nat.le_trans HB2d.out.size (Nat.le_trans HR3.out.2.2.size (by simp)))⟩)
        have HDg : Hid (Dsk W4 b lb mb D1) := ((HD2.out.keep (HB2d.out.trans (HR3.out.2.2.mono HB2d.out.size))).keep (Go.Proofs.Ytpophfeommlajaa.K.alloc (Below.refl _ W3) (.cells #[.slice z3 m c3] 38))).same hG.size (fun k hk => hG.block k (by
          have hl : k < W2.heap.size := by
            rcases X3_of.1 hk with rfl | rfl | rfl
            · exact HD2.out.bl
            · exact HD2.out.ll
            · exact HD2.out.mp.lt
          exact Nat.lt_of_lt_of_le hl (Nat.le_trans HB2d.out.size (Nat.le_trans HR3.out.2.2.size (by simp)))) (fun e => by
            have := HS2.out.s.x k e.symm
            rw [Xt_u (Xu_of (Or.inl (HX.out.1 k hk)))] at this
            cases this))
        obtain ⟨lq, lc, e6, _⟩ := own_form ho (Nat.succ_pos _)
        subst e6
        clear ho hG hat
        refine hK.out _ _ trivial (fun _ => ?_)
        clear hK Kt
        simp only [Act.put, List.getElem_toArray, List.getElem_cons_zero, List.getElem_cons_succ, List.setIfInBounds_toArray, List.set_cons_zero, List.set_cons_succ]
        refine wpAnyH_take (i := 9) (v := pp t) rfl (by kernel_rfl) (by kernel_rfl) (by kernel_rfl) (fun _ _ _ h => h) (Or.inl ⟨by rfl, fun w' _ => by go_simp⟩) trivial ?_
        simp only [Act.put, List.getElem_toArray, List.getElem_cons_zero, List.getElem_cons_succ, List.setIfInBounds_toArray, List.set_cons_zero, List.set_cons_succ]
        refine wpAnyH_take (i := 10) (v := .pointer (some ⟨t, 2, none⟩)) rfl (by kernel_rfl) (by kernel_rfl) (by kernel_rfl) (fun _ _ _ h => h) (Or.inl ⟨by rfl, fun w' _ => by go_simp⟩) trivial ?_
        simp only [Act.put, List.getElem_toArray, List.getElem_cons_zero, List.getElem_cons_succ, List.setIfInBounds_toArray, List.set_cons_zero, List.set_cons_succ]
        refine wpAnyH_ready (rs := [11]) (by kernel_rfl) (by simp) (AllReadyH.cons rfl (fun Kt hK => ?_) AllReadyH.nil)
        refine wanted_pos rfl ?_
        refine wp_store2 rfl (by rfl) (by rfl) HPu.out.2.1 HPu.out.2.2.1 (hK.out _ _ trivial (fun _ => ?_))
        clear hK Kt
        simp only [Act.put, List.getElem_toArray, List.getElem_cons_zero, List.getElem_cons_succ]
        refine wpAnyH_done (by kernel_rfl) ?_ _
        refine NoPanic.normal ?_
        obtain ⟨W5, hW5⟩ : ∃ W5, W5 = W4.setCell ⟨t, 2, none⟩ (.slice (some ⟨lq, 0, none⟩) (Wt.length + 1) lc) := ⟨_, rfl⟩
        rw [← hW5]
        have HP5 := hide HPu.out.1
        rw [← hW5] at HP5
        have HQ4 : Hid (W5.drew.cell? ⟨t, 4, none⟩ = some (.int .i64 (3 + (tks K : Int) + (tks Wt : Int)))) := by rw [hW5]; exact HPu.out.2.2.2.1 _
        have HQz : Hid (W5.drew.frozen? ⟨t, 4, none⟩ = false) := by rw [hW5]; exact HPu.out.2.2.2.2 _
        have HK5 : Hid (Kp (Xt (X3 b lb mb) t vw) W2 W5) := by rw [hW5]; exact HKg.out.trans (kp_v _)
        have HD5 : Hid (Dsk W5 b lb mb D1) := by rw [hW5]; exact HDg.out.setx HT.out _
        clear hW5 HX2 HPu HKg HDg
        go_upto_region 11 with fail
        refine wp_region_noPanic ?_
        refine wp_region_held_drew (S := fun _ => True) (by kernel_rfl) trivial (fun hS0 => ?_)
        refine wpAnyH_take (i := 0) (v := pp t) rfl (by kernel_rfl) (by kernel_rfl) (by kernel_rfl) (fun _ _ _ h => h) (Or.inl ⟨by rfl, fun w' _ => by go_simp⟩) hS0 ?_
        simp only [Act.put, List.getElem_toArray, List.getElem_cons_zero, List.setIfInBounds_toArray, List.set_cons_zero, List.set_cons_succ]
        refine wpAnyH_take (i := 1) (v := pp t) rfl (by kernel_rfl) (by kernel_rfl) (by kernel_rfl) (fun _ _ _ h => h) (Or.inl ⟨by rfl, fun w' _ => by go_simp⟩) hS0 ?_
        simp only [Act.put, List.getElem_toArray, List.getElem_cons_zero, List.getElem_cons_succ, List.setIfInBounds_toArray, List.set_cons_zero, List.set_cons_succ]
        refine wpAnyH_take (i := 2) (v := .pointer (some ⟨t, 4, none⟩)) rfl (by kernel_rfl) (by kernel_rfl) (by kernel_rfl) (fun _ _ _ h => h) (Or.inl ⟨by rfl, fun w' _ => by go_simp⟩) hS0 ?_
        simp only [Act.put, List.getElem_toArray, List.getElem_cons_zero, List.getElem_cons_succ, List.setIfInBounds_toArray, List.set_cons_zero, List.set_cons_succ]
        refine wpAnyH_take (i := 4) (v := .slice x m c) rfl (by kernel_rfl) (by kernel_rfl) (by kernel_rfl) (fun _ _ _ h => h) (Or.inl ⟨by rfl, fun w' _ => by go_simp⟩) hS0 ?_
        simp only [Act.put, List.getElem_toArray, List.getElem_cons_zero, List.getElem_cons_succ, List.setIfInBounds_toArray, List.set_cons_zero, List.set_cons_succ]
        refine wpAnyH_take (i := 5) (v := .int .i64 (m : Int)) rfl (by kernel_rfl) (by kernel_rfl) (by kernel_rfl) (fun _ _ _ h => h) (Or.inl ⟨by rfl, fun w' _ => by go_simp⟩) hS0 ?_
        simp only [Act.put, List.getElem_toArray, List.getElem_cons_zero, List.getElem_cons_succ, List.setIfInBounds_toArray, List.set_cons_zero, List.set_cons_succ]
        apply meet
        · intro hcut
          refine wpAnyH_ready (rs := [3, 6]) (by kernel_rfl) (by simp) (AllReadyH.cons rfl (fun Kt hK => ?_) (AllReadyH.cons rfl (fun Kt hK => ?_) AllReadyH.nil))
          · skip
            refine wanted_pos rfl ?_
            refine wp_loadI rfl (by rfl) HQ4.out (hK.out _ _ trivial (fun _ => ?_))
            clear hK Kt
            simp only [Act.put, List.getElem_toArray, List.getElem_cons_zero, List.getElem_cons_succ, List.setIfInBounds_toArray, List.set_cons_zero, List.set_cons_succ]
            refine wpAnyH_ready (rs := [6]) (by kernel_rfl) (by simp) (AllReadyH.cons rfl (fun Kt hK => ?_) AllReadyH.nil)
            refine wanted_pos rfl ?_
            refine wp_call (R := fun x w' => x = .int .i64 (tk m : Int) ∧ w' = W5.drew) (vs := #[.int .i64 (m : Int)]) rfl (by simp only [List.map_toArray, List.map_cons, List.map_nil]; rfl) (by go_simp) (Calls.mono (takes_n hm9) (fun e w' he => ⟨_, he.1, rfl, he.2⟩)) (fun x W6 hr => ?_)
            obtain ⟨hx, rfl⟩ := hr
            subst hx
            refine hK.out _ _ trivial (fun _ => ?_)
            clear hK Kt
            simp only [Act.put, List.getElem_toArray, List.getElem_cons_zero, List.getElem_cons_succ, List.setIfInBounds_toArray, List.set_cons_zero, List.set_cons_succ]
            exact hcut
          · skip
            refine wanted_pos rfl ?_
            refine wp_call (R := fun x w' => x = .int .i64 (tk m : Int) ∧ w' = W5.drew) (vs := #[.int .i64 (m : Int)]) rfl (by simp only [List.map_toArray, List.map_cons, List.map_nil]; rfl) (by go_simp) (Calls.mono (takes_n hm9) (fun e w' he => ⟨_, he.1, rfl, he.2⟩)) (fun x W6 hr => ?_)
            obtain ⟨hx, rfl⟩ := hr
            subst hx
            refine hK.out _ _ trivial (fun _ => ?_)
            clear hK Kt
            simp only [Act.put, List.getElem_toArray, List.getElem_cons_zero, List.getElem_cons_succ, List.setIfInBounds_toArray, List.set_cons_zero, List.set_cons_succ]
            refine wpAnyH_ready (rs := [3]) (by kernel_rfl) (by simp) (AllReadyH.cons rfl (fun Kt hK => ?_) AllReadyH.nil)
            refine wanted_pos rfl ?_
            refine wp_loadI rfl (by rfl) HQ4.out (hK.out _ _ trivial (fun _ => ?_))
            clear hK Kt
            simp only [Act.put, List.getElem_toArray, List.getElem_cons_zero, List.getElem_cons_succ, List.setIfInBounds_toArray, List.set_cons_zero, List.set_cons_succ]
            exact hcut
        refine wpAnyH_take (i := 7) (v := .int .i64 (3 + (tks K : Int) + ((tks Wt + tk m : Nat) : Int))) rfl (by kernel_rfl) (by kernel_rfl) (by kernel_rfl) (fun _ _ _ h => h) (Or.inl ⟨by rfl, fun w' _ => by go_simp; exact (wrapI _).trans HAr.out⟩) trivial ?_
        simp only [Act.put, List.getElem_toArray, List.getElem_cons_zero, List.getElem_cons_succ, List.setIfInBounds_toArray, List.set_cons_zero, List.set_cons_succ]
        refine wpAnyH_take (i := 8) (v := pp t) rfl (by kernel_rfl) (by kernel_rfl) (by kernel_rfl) (fun _ _ _ h => h) (Or.inl ⟨by rfl, fun w' _ => by go_simp⟩) trivial ?_
        simp only [Act.put, List.getElem_toArray, List.getElem_cons_zero, List.getElem_cons_succ, List.setIfInBounds_toArray, List.set_cons_zero, List.set_cons_succ]
        refine wpAnyH_take (i := 9) (v := .pointer (some ⟨t, 4, none⟩)) rfl (by kernel_rfl) (by kernel_rfl) (by kernel_rfl) (fun _ _ _ h => h) (Or.inl ⟨by rfl, fun w' _ => by go_simp⟩) trivial ?_
        simp only [Act.put, List.getElem_toArray, List.getElem_cons_zero, List.getElem_cons_succ, List.setIfInBounds_toArray, List.set_cons_zero, List.set_cons_succ]
        refine wpAnyH_ready (rs := [10]) (by kernel_rfl) (by simp) (AllReadyH.cons rfl (fun Kt hK => ?_) AllReadyH.nil)
        refine wanted_pos rfl ?_
        refine wp_storeI rfl (by rfl) (by rfl) HQ4.out HQz.out (hK.out _ _ trivial (fun _ => ?_))
        clear hK Kt
        simp only [Act.put, List.getElem_toArray, List.getElem_cons_zero, List.getElem_cons_succ]
        refine wpAnyH_done (by kernel_rfl) ?_ _
        refine NoPanic.normal ?_
        go_wp2_with fail
        go_ret
        rw [HE.out.1, HE.out.2.1, HE.out.2.2]
        have hts : (tks (Wt ++ [fl f m]) : Int) = ((tks Wt + tk m : Nat) : Int) := by rw [tks_snoc]
        have hP5 := HP5.out
        rw [hts] at hP5
        exact ⟨rfl, _, _, (HD5.out.keep (Go.Proofs.Ytpophfeommlajaa.K.drew (Below.refl _ W5))).setx HT.out _, hP5.drew4, ((HKw.out.mono (fun k hk => Xt_u (Xu_of (Or.inl hk)))).trans (HK5.out.trans (Kp.of (Go.Proofs.Ytpophfeommlajaa.K.drew (Below.refl _ W5))))).trans (kp_v _), HAt.out⟩
  · have hq : (er != 0) = true := by simp [he]
    have HE : Hid (apW er Wt (fl f m) = Wt) := if_neg he
    have HFa := hide (failed_n HS2.out er)
    clear he HC HC1 HO HRm h0 h4 hS0
    go_wp2_with (go_at_call 43; refine Calls.mono HFa.out ?_; rintro e W3 ⟨rfl, hS3, hK3⟩; have HS3 := hide (And.intro hS3 hK3); clear hS3 hK3)
    go_ret
    rw [HE.out]
    refine ⟨rfl, vw, cw, HD2.out.same HS3.out.2.size (fun k hk => HS3.out.2.block k ?_ (X1_not (fun e => ?_))), HS3.out.1, (HKw.out.mono (fun k hk => Xt_u (Xu_of (Or.inl hk)))).trans (HS3.out.2.mono (fun k hk => Xt_u (Xu_of (Or.inr (Nat.eq_of_beq_eq_true hk))))), Or.inl rfl⟩
    · rcases X3_of.1 hk with rfl | rfl | rfl
      · exact HD2.out.bl
      · exact HD2.out.ll
      · exact HD2.out.mp.lt
    · rw [e, HT.out] at hk; cases hk
end Go.Proofs.Ytpophfeommlajaa
