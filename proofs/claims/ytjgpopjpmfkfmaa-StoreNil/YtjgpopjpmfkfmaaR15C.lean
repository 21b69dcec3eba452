/- Layer 15: the document's store in memory; its Room. -/
import Derived.Test.YtjgpopjpmfkfmaaR15B
namespace Go.Proofs.Ytjgpopjpmfkfmaa
set_option maxRecDepth 100000
open Go.RowKit Go.Maps
attribute [local go_sem ↓] Go.wp_at_zero Go.wp_at_succ

/-- Blocks that others change, the store's own, a row. -/
def Xu (Y : Nat → Bool) (t g : Nat) : Bool := Y g || Nat.beq g t
def Xt (Y : Nat → Bool) (t : Nat) (v : Value) (g : Nat) : Bool := Xu Y t g || decide (v.ownBlock = some g)
/-- The document's store: K is kept, Wt waits. -/
structure RSt (w : World) (bs t r : Nat) (Y : Nat → Bool) (vk vw : Value) (ck cw : List Value) (K Wt : List (List Nat)) (ov : Bool) : Prop where
  c0 : w.cell? ⟨t, 0, none⟩ = some (pp r)
  c1 : w.cell? ⟨t, 1, none⟩ = some vk
  c2 : w.cell? ⟨t, 2, none⟩ = some vw
  c3 : w.cell? ⟨t, 3, none⟩ = some (.bool ov)
  z : ∀ i, i < 4 → w.frozen? ⟨t, i, none⟩ = false
  tl : t < w.heap.size
  ty : Y t = false
  k : Lst w bs (Xt Y t vw) vk K ck
  s : Lst w bs (Xu Y t) vw Wt cw
section
variable {w w' : World} {bs t r : Nat} {Y : Nat → Bool} {vk vw : Value} {ck cw : List Value} {K Wt : List (List Nat)} {ov : Bool}
/-- Others go on. -/
theorem RSt.kp (h : RSt w bs t r Y vk vw ck cw K Wt ov) (hK : Kp Y w w') : RSt w' bs t r Y vk vw ck cw K Wt ov := by
  have e := hK.block t h.tl h.ty
  have sub : ∀ {X : Nat → Bool}, (∀ k, Y k = true → X k = true) → Kp X w w' := fun hX => ⟨hK.os, hK.tape, hK.output, hK.size, fun k hk hx => hK.block k hk (by
    cases hy : Y k with
    | false => rfl
    | true => rw [hX k hy] at hx; cases hx)⟩
  exact ⟨(World.cell?_of_block (w := w) e).trans h.c0, (World.cell?_of_block (w := w) e).trans h.c1, (World.cell?_of_block (w := w) e).trans h.c2, (World.cell?_of_block (w := w) e).trans h.c3, fun i hi => (World.frozen?_of_block (w := w) e).trans (h.z i hi), Nat.lt_of_lt_of_le h.tl hK.size, h.ty,
    h.k.kp (sub (fun k hk => by unfold Xt Xu; rw [hk, Bool.true_or, Bool.true_or])), h.s.kp (sub (fun k hk => by unfold Xu; rw [hk, Bool.true_or]))⟩
theorem RSt.keep (h : RSt w bs t r Y vk vw ck cw K Wt ov) (hB : Below w.heap.size w w') : RSt w' bs t r Y vk vw ck cw K Wt ov := h.kp (Kp.of hB)
/-- A store that was opened. -/
theorem OpR.st {W : World} (h : OpR W w t r vk K ck) (hY : ∀ g, Y g = true → g < W.heap.size) : RSt w W.heap.size t r Y vk (.slice none 0 0) ck [] K [] false := by
  have ht : Y t = false := by
    cases hy : Y t with
    | false => rfl
    | true => have := hY t hy; have := h.tg; omega
  refine ⟨h.c0, h.c1, h.c2, h.c3, h.z, h.tl, ht, h.s.sub (fun k hk => ?_), Lst.nil _ _ _⟩
  unfold Xt Xu at hk
  rcases Bool.or_eq_true _ _ |>.mp hk with h1 | h1
  · rcases Bool.or_eq_true _ _ |>.mp h1 with h2 | h2
    · exact Xo_of.2 (Or.inl (hY k h2))
    · exact Xo_of.2 (Or.inr (Nat.eq_of_beq_eq_true h2))
  · have := of_decide_eq_true h1; cases this
end
theorem room_arith {n a b : Nat} (hn : n ≤ 4096) (ha : a ≤ 1000000000000) (hb : b ≤ 1000000000000) : wrap64 ((n : Int) - 3) = (n : Int) - 3 ∧ wrap64 ((n : Int) - 3 - (a : Int)) = (n : Int) - 3 - (a : Int) ∧ wrap64 ((n : Int) - 3 - (a : Int) - (b : Int)) = (n : Int) - 3 - (a : Int) - (b : Int) :=
  ⟨w_id (by omega) (by omega), w_id (by omega) (by omega), w_id (by omega) (by omega)⟩
theorem tks_bound {L : List (List Nat)} (hs : short L) (hn : L.length ≤ 1000000) : tks L ≤ 1000000000000 := by
  have := tks_short hs
  omega
set_option maxRecDepth 100000 in
set_option maxHeartbeats 4000000 in
theorem ref_room {w : World} {bs t r la na cl cn : Nat} {zl zn : Option Addr} {Y G : Nat → Bool} {vk vw : Value} {ck cw : List Value} {K Wt : List (List Nat)} {ov : Bool} {D : DM} (h : RSt w bs t r Y vk vw ck cw K Wt ov) (hd : RDk w r la na cl cn zl zn D G) (hk : short K ∧ K.length ≤ 1000000) (hw : short Wt ∧ Wt.length ≤ 1000000) :
    Calls Try.prog 44 #[pp t] w fun e w' => e = .returned (.int .i64 ((D.n : Int) - 3 - (tks K : Int) - (tks Wt : Int))) ∧ Below w.heap.size w w' := by
  obtain ⟨zk, kc, ek, hvk⟩ := h.k.shape
  obtain ⟨zw, wc, ew, hvw⟩ := h.s.shape
  obtain ⟨w1, w2, w3⟩ := room_arith hd.ok.n (tks_bound hk.1 hk.2) (tks_bound hw.1 hw.2)
  have hc0 := h.c0
  have hc1 := h.c1
  have hc2 := h.c2
  have hr0 := hd.c0
  rw [ek] at hc1
  rw [ew] at hc2
  have hdr : Below w.heap.size w w.drew := Go.Proofs.Ytjgpopjpmfkfmaa.K.drew (Below.refl _ _)
  have HA1 := hide (all_any (c := kc) (hvk.keep hdr) hk.1 hk.2)
  have HA2 := hide (all_any (c := wc) (hvw.keep hdr) hw.1 hw.2)
  have HDr := hide hdr
  clear h hd hk hw hvk hvw ek ew hdr
  go_enter Try.func44, Try.ntmps44
  go_upto_region 1 with fail
  refine wp_region_noPanic ?_
  refine wp_region_held_drew (S := fun w' => w'.cell? ⟨t, 0, none⟩ = some (pp r) ∧ w'.cell? ⟨t, 1, none⟩ = some (.slice zk K.length kc) ∧ w'.cell? ⟨t, 2, none⟩ = some (.slice zw Wt.length wc) ∧ w'.cell? ⟨r, 0, none⟩ = some (.slice zl D.n cl)) (by kernel_rfl) ⟨hc0, hc1, hc2, hr0⟩ (fun hS0 => ?_)
  refine wpAnyH_take (i := 0) (v := pp t) rfl (by kernel_rfl) (by kernel_rfl) (by kernel_rfl) (fun _ _ _ h => h) (Or.inl ⟨by rfl, fun w' _ => by go_simp⟩) hS0 ?_
  simp only [Act.put, List.getElem_toArray, List.getElem_cons_zero, List.setIfInBounds_toArray, List.set_cons_zero, List.set_cons_succ]
  refine wpAnyH_take (i := 1) (v := pp t) rfl (by kernel_rfl) (by kernel_rfl) (by kernel_rfl) (fun _ _ _ h => h) (Or.inl ⟨by rfl, fun w' _ => by go_simp⟩) hS0 ?_
  simp only [Act.put, List.getElem_toArray, List.getElem_cons_zero, List.getElem_cons_succ, List.setIfInBounds_toArray, List.set_cons_zero, List.set_cons_succ]
  refine wpAnyH_take (i := 2) (v := .pointer (some ⟨t, 0, none⟩)) rfl (by kernel_rfl) (by kernel_rfl) (by kernel_rfl) (fun _ _ _ h => h) (Or.inl ⟨by rfl, fun w' _ => by go_simp⟩) hS0 ?_
  simp only [Act.put, List.getElem_toArray, List.getElem_cons_zero, List.getElem_cons_succ, List.setIfInBounds_toArray, List.set_cons_zero, List.set_cons_succ]
  refine wpAnyH_take (i := 3) (v := pp r) rfl (by kernel_rfl) (by kernel_rfl) (by kernel_rfl) (fun _ _ _ h => h) (Or.inl ⟨by rfl, fun w' hS => by have hc := hS.1; go_simp⟩) hS0 ?_
  simp only [Act.put, List.getElem_toArray, List.getElem_cons_zero, List.getElem_cons_succ, List.setIfInBounds_toArray, List.set_cons_zero, List.set_cons_succ]
  refine wpAnyH_take (i := 4) (v := pp r) rfl (by kernel_rfl) (by kernel_rfl) (by kernel_rfl) (fun _ _ _ h => h) (Or.inl ⟨by rfl, fun w' _ => by go_simp⟩) hS0 ?_
  simp only [Act.put, List.getElem_toArray, List.getElem_cons_zero, List.getElem_cons_succ, List.setIfInBounds_toArray, List.set_cons_zero, List.set_cons_succ]
  refine wpAnyH_take (i := 5) (v := .pointer (some ⟨r, 0, none⟩)) rfl (by kernel_rfl) (by kernel_rfl) (by kernel_rfl) (fun _ _ _ h => h) (Or.inl ⟨by rfl, fun w' _ => by go_simp⟩) hS0 ?_
  simp only [Act.put, List.getElem_toArray, List.getElem_cons_zero, List.getElem_cons_succ, List.setIfInBounds_toArray, List.set_cons_zero, List.set_cons_succ]
  refine wpAnyH_take (i := 6) (v := .slice zl D.n cl) rfl (by kernel_rfl) (by kernel_rfl) (by kernel_rfl) (fun _ _ _ h => h) (Or.inl ⟨by rfl, fun w' hS => by have hc := hS.2.2.2; go_simp⟩) hS0 ?_
  simp only [Act.put, List.getElem_toArray, List.getElem_cons_zero, List.getElem_cons_succ, List.setIfInBounds_toArray, List.set_cons_zero, List.set_cons_succ]
  refine wpAnyH_take (i := 7) (v := .int .i64 (D.n : Int)) rfl (by kernel_rfl) (by kernel_rfl) (by kernel_rfl) (fun _ _ _ h => h) (Or.inl ⟨by rfl, fun w' _ => by go_simp⟩) hS0 ?_
  simp only [Act.put, List.getElem_toArray, List.getElem_cons_zero, List.getElem_cons_succ, List.setIfInBounds_toArray, List.set_cons_zero, List.set_cons_succ]
  refine wpAnyH_take (i := 8) (v := .int .i64 ((D.n : Int) - 3)) rfl (by kernel_rfl) (by kernel_rfl) (by kernel_rfl) (fun _ _ _ h => h) (Or.inl ⟨by rfl, fun w' _ => by go_simp; exact (wrapI _).trans w1⟩) hS0 ?_
  simp only [Act.put, List.getElem_toArray, List.getElem_cons_zero, List.getElem_cons_succ, List.setIfInBounds_toArray, List.set_cons_zero, List.set_cons_succ]
  refine wpAnyH_take (i := 9) (v := pp t) rfl (by kernel_rfl) (by kernel_rfl) (by kernel_rfl) (fun _ _ _ h => h) (Or.inl ⟨by rfl, fun w' _ => by go_simp⟩) hS0 ?_
  simp only [Act.put, List.getElem_toArray, List.getElem_cons_zero, List.getElem_cons_succ, List.setIfInBounds_toArray, List.set_cons_zero, List.set_cons_succ]
  refine wpAnyH_take (i := 10) (v := pp t) rfl (by kernel_rfl) (by kernel_rfl) (by kernel_rfl) (fun _ _ _ h => h) (Or.inl ⟨by rfl, fun w' _ => by go_simp⟩) hS0 ?_
  simp only [Act.put, List.getElem_toArray, List.getElem_cons_zero, List.getElem_cons_succ, List.setIfInBounds_toArray, List.set_cons_zero, List.set_cons_succ]
  refine wpAnyH_take (i := 11) (v := .pointer (some ⟨t, 1, none⟩)) rfl (by kernel_rfl) (by kernel_rfl) (by kernel_rfl) (fun _ _ _ h => h) (Or.inl ⟨by rfl, fun w' _ => by go_simp⟩) hS0 ?_
  simp only [Act.put, List.getElem_toArray, List.getElem_cons_zero, List.getElem_cons_succ, List.setIfInBounds_toArray, List.set_cons_zero, List.set_cons_succ]
  refine wpAnyH_take (i := 12) (v := .slice zk K.length kc) rfl (by kernel_rfl) (by kernel_rfl) (by kernel_rfl) (fun _ _ _ h => h) (Or.inl ⟨by rfl, fun w' hS => by have hc := hS.2.1; go_simp⟩) hS0 ?_
  simp only [Act.put, List.getElem_toArray, List.getElem_cons_zero, List.getElem_cons_succ, List.setIfInBounds_toArray, List.set_cons_zero, List.set_cons_succ]
  refine wpAnyH_take (i := 15) (v := pp t) rfl (by kernel_rfl) (by kernel_rfl) (by kernel_rfl) (fun _ _ _ h => h) (Or.inl ⟨by rfl, fun w' _ => by go_simp⟩) hS0 ?_
  simp only [Act.put, List.getElem_toArray, List.getElem_cons_zero, List.getElem_cons_succ, List.setIfInBounds_toArray, List.set_cons_zero, List.set_cons_succ]
  refine wpAnyH_take (i := 16) (v := pp t) rfl (by kernel_rfl) (by kernel_rfl) (by kernel_rfl) (fun _ _ _ h => h) (Or.inl ⟨by rfl, fun w' _ => by go_simp⟩) hS0 ?_
  simp only [Act.put, List.getElem_toArray, List.getElem_cons_zero, List.getElem_cons_succ, List.setIfInBounds_toArray, List.set_cons_zero, List.set_cons_succ]
  refine wpAnyH_take (i := 17) (v := .pointer (some ⟨t, 2, none⟩)) rfl (by kernel_rfl) (by kernel_rfl) (by kernel_rfl) (fun _ _ _ h => h) (Or.inl ⟨by rfl, fun w' _ => by go_simp⟩) hS0 ?_
  simp only [Act.put, List.getElem_toArray, List.getElem_cons_zero, List.getElem_cons_succ, List.setIfInBounds_toArray, List.set_cons_zero, List.set_cons_succ]
  refine wpAnyH_take (i := 18) (v := .slice zw Wt.length wc) rfl (by kernel_rfl) (by kernel_rfl) (by kernel_rfl) (fun _ _ _ h => h) (Or.inl ⟨by rfl, fun w' hS => by have hc := hS.2.2.1; go_simp⟩) hS0 ?_
  simp only [Act.put, List.getElem_toArray, List.getElem_cons_zero, List.getElem_cons_succ, List.setIfInBounds_toArray, List.set_cons_zero, List.set_cons_succ]
  refine wpAnyH_ready (rs := [13]) (by kernel_rfl) (by simp) (AllReadyH.cons rfl (fun Kt hK => ?_) AllReadyH.nil)
  refine wanted_pos rfl ?_
  refine wp_call (R := fun x w' => x = .int .i64 (tks K : Int) ∧ w' = w.drew) (vs := #[.slice zk K.length kc]) rfl (by simp only [List.map_toArray, List.map_cons, List.map_nil]; rfl) (by go_simp) (Calls.mono HA1.out (fun e w' he => ⟨_, he.1, rfl, he.2⟩)) (fun x W6 hr => ?_)
  obtain ⟨hx, rfl⟩ := hr
  subst hx
  refine hK.out _ _ hS0 (fun _ => ?_)
  clear hK Kt
  simp only [Act.put, List.getElem_toArray, List.getElem_cons_zero, List.getElem_cons_succ, List.setIfInBounds_toArray, List.set_cons_zero, List.set_cons_succ]
  refine wpAnyH_take (i := 14) (v := .int .i64 ((D.n : Int) - 3 - (tks K : Int))) rfl (by kernel_rfl) (by kernel_rfl) (by kernel_rfl) (fun _ _ _ h => h) (Or.inl ⟨by rfl, fun w' _ => by go_simp; exact (wrapI _).trans w2⟩) hS0 ?_
  simp only [Act.put, List.getElem_toArray, List.getElem_cons_zero, List.getElem_cons_succ, List.setIfInBounds_toArray, List.set_cons_zero, List.set_cons_succ]
  refine wpAnyH_ready (rs := [19]) (by kernel_rfl) (by simp) (AllReadyH.cons rfl (fun Kt hK => ?_) AllReadyH.nil)
  refine wanted_pos rfl ?_
  refine wp_call (R := fun x w' => x = .int .i64 (tks Wt : Int) ∧ w' = w.drew) (vs := #[.slice zw Wt.length wc]) rfl (by simp only [List.map_toArray, List.map_cons, List.map_nil]; rfl) (by go_simp) (Calls.mono HA2.out (fun e w' he => ⟨_, he.1, rfl, he.2⟩)) (fun x W6 hr => ?_)
  obtain ⟨hx, rfl⟩ := hr
  subst hx
  refine hK.out _ _ hS0 (fun _ => ?_)
  clear hK Kt
  simp only [Act.put, List.getElem_toArray, List.getElem_cons_zero, List.getElem_cons_succ, List.setIfInBounds_toArray, List.set_cons_zero, List.set_cons_succ]
  refine wpAnyH_take (i := 20) (v := .int .i64 ((D.n : Int) - 3 - (tks K : Int) - (tks Wt : Int))) rfl (by kernel_rfl) (by kernel_rfl) (by kernel_rfl) (fun _ _ _ h => h) (Or.inl ⟨by rfl, fun w' _ => by go_simp; exact (wrapI _).trans w3⟩) hS0 ?_
  simp only [Act.put, List.getElem_toArray, List.getElem_cons_zero, List.getElem_cons_succ, List.setIfInBounds_toArray, List.set_cons_zero, List.set_cons_succ]
  refine wpAnyH_take (i := 21) (v := .int .i64 ((D.n : Int) - 3 - (tks K : Int) - (tks Wt : Int))) rfl (by kernel_rfl) (by kernel_rfl) (by kernel_rfl) (fun _ _ _ h => h) (Or.inl ⟨by rfl, fun w' _ => by go_simp⟩) hS0 ?_
  simp only [Act.put, List.getElem_toArray, List.getElem_cons_zero, List.getElem_cons_succ, List.setIfInBounds_toArray, List.set_cons_zero, List.set_cons_succ]
  refine wpAnyH_done (by kernel_rfl) ?_ _
  refine NoPanic.normal ?_
  go_wp2_with fail
  go_ret
  exact ⟨rfl, HDr.out⟩
end Go.Proofs.Ytjgpopjpmfkfmaa
