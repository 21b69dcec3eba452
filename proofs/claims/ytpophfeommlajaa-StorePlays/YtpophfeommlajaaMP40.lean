/- Layer 15: the program's store in memory; its small methods. -/
import Derived.Test.YtpophfeommlajaaMP39
namespace Go.Proofs.Ytpophfeommlajaa
open Go.RowKit Go.Maps
attribute [local go_sem ↓] Go.wp_at_zero Go.wp_at_succ

theorem Xt_own {Y : Nat → Bool} {t : Nat} {v : Value} {k : Nat} (h : v.ownBlock = some k) : Xt Y t v k = true := by
  unfold Xt
  rw [decide_eq_true h, Bool.or_true]
theorem Xt_u {Y : Nat → Bool} {t : Nat} {v : Value} {k : Nat} (h : Xu Y t k = true) : Xt Y t v k = true := by
  unfold Xt
  rw [h, Bool.true_or]
theorem Xt_inv {Y : Nat → Bool} {t : Nat} {v : Value} {k : Nat} (h : Xt Y t v k = true) : Xu Y t k = true ∨ v.ownBlock = some k := by
  unfold Xt at h
  rcases Bool.or_eq_true _ _ |>.mp h with h1 | h1
  · exact Or.inl h1
  · exact Or.inr (of_decide_eq_true h1)
/-- The program's store: K is kept, Wt waits. -/
structure PSt (w : World) (bs t b : Nat) (Y : Nat → Bool) (vk vw : Value) (ck cw : List Value) (K Wt : List (List Nat)) (ov : Bool) : Prop where
  c0 : w.cell? ⟨t, 0, none⟩ = some (pp b)
  c1 : w.cell? ⟨t, 1, none⟩ = some vk
  c2 : w.cell? ⟨t, 2, none⟩ = some vw
  c3 : w.cell? ⟨t, 3, none⟩ = some (.int .i64 (3 + (tks K : Int)))
  c4 : w.cell? ⟨t, 4, none⟩ = some (.int .i64 (3 + (tks K : Int) + (tks Wt : Int)))
  c5 : w.cell? ⟨t, 5, none⟩ = some (.bool ov)
  z : ∀ i, i < 6 → w.frozen? ⟨t, i, none⟩ = false
  tl : t < w.heap.size
  ty : Y t = false
  k : Lst w bs (Xt Y t vw) vk K ck
  s : Lst w bs (Xt Y t vk) vw Wt cw
section
variable {w w' : World} {bs t b : Nat} {Y : Nat → Bool} {vk vw : Value} {ck cw : List Value} {K Wt : List (List Nat)} {ov : Bool}
/-- Others go on. -/
theorem PSt.kp (h : PSt w bs t b Y vk vw ck cw K Wt ov) (hK : Kp Y w w') : PSt w' bs t b Y vk vw ck cw K Wt ov := by
  have e := hK.block t h.tl h.ty
  have sub : ∀ {X : Nat → Bool}, (∀ k, Y k = true → X k = true) → Kp X w w' := fun hX => hK.mono hX
  exact ⟨(World.cell?_of_block (w := w) e).trans h.c0, (World.cell?_of_block (w := w) e).trans h.c1, (World.cell?_of_block (w := w) e).trans h.c2, (World.cell?_of_block (w := w) e).trans h.c3, (World.cell?_of_block (w := w) e).trans h.c4, (World.cell?_of_block (w := w) e).trans h.c5, fun i hi => (World.frozen?_of_block (w := w) e).trans (h.z i hi), Nat.lt_of_lt_of_le h.tl hK.size, h.ty,
    h.k.kp (sub (fun k hk => by unfold Xt Xu; rw [hk, Bool.true_or, Bool.true_or])), h.s.kp (sub (fun k hk => by unfold Xt Xu; rw [hk, Bool.true_or, Bool.true_or]))⟩
theorem PSt.keep (h : PSt w bs t b Y vk vw ck cw K Wt ov) (hB : Below w.heap.size w w') : PSt w' bs t b Y vk vw ck cw K Wt ov := h.kp (Kp.of hB)
/-- A store that was opened. -/
theorem PoR.st {W : World} (h : PoR W w t b vk K ck) (hY : ∀ g, Y g = true → g < W.heap.size) : PSt w W.heap.size t b Y vk (.slice none 0 0) ck [] K [] false := by
  have ht : Y t = false := by
    cases hy : Y t with
    | false => rfl
    | true => have := hY t hy; have := h.tg; omega
  refine ⟨h.c0, h.c1, h.c2, h.c3, h.c4.trans (by show _ = some (Value.int .i64 (3 + (tks K : Int) + ((0 : Nat) : Int))); simp), h.c5, h.z, h.tl, ht, h.s.sub (fun k hk => ?_), Lst.nil _ _ _⟩
  unfold Xt Xu at hk
  rcases Bool.or_eq_true _ _ |>.mp hk with h1 | h1
  · rcases Bool.or_eq_true _ _ |>.mp h1 with h2 | h2
    · exact Xo_of.2 (Or.inl (hY k h2))
    · exact Xo_of.2 (Or.inr (Nat.eq_of_beq_eq_true h2))
  · have := of_decide_eq_true h1; cases this
theorem PSt.xk (_ : PSt w bs t b Y vk vw ck cw K Wt ov) : Xt Y t vw t = true := by unfold Xt; rw [Xu_of (Or.inr rfl), Bool.true_or]
theorem PSt.over (h : PSt w bs t b Y vk vw ck cw K Wt ov) (o : Bool) : PSt (w.setCell ⟨t, 5, none⟩ (.bool o)) bs t b Y vk vw ck cw K Wt o :=
  ⟨(cell_oth (by decide)).trans h.c0, (cell_oth (by decide)).trans h.c1, (cell_oth (by decide)).trans h.c2, (cell_oth (by decide)).trans h.c3, (cell_oth (by decide)).trans h.c4, cell_at h.c5, fun i hi => by rw [World.frozen?_setCell]; exact h.z i hi, by simp; exact h.tl, h.ty, RSt.set h.k h.xk, RSt.set h.s (Xt_u (Xu_of (Or.inr rfl)))⟩
theorem over_nil (w : World) : Calls Try.prog 40 #[.pointer none] w fun e w' => e = .returned (.bool true) ∧ w' = w := by
  go_enter Try.func40, Try.ntmps40
  go_wp2_with fail
  go_ret
  exact ⟨rfl, rfl⟩
theorem over_n (h : PSt w bs t b Y vk vw ck cw K Wt ov) : Calls Try.prog 40 #[pp t] w fun e w' => e = .returned (.bool ov) ∧ w' = w := by
  have h0 := h.c0
  have h5 := h.c5
  clear h
  go_enter Try.func40, Try.ntmps40
  go_wp2_with fail
  go_ret
  exact ⟨rfl, rfl⟩
theorem len_n (h : PSt w bs t b Y vk vw ck cw K Wt ov) : Calls Try.prog 21 #[pp t] w fun e w' => e = .returned (.int .i64 (K.length : Int)) ∧ w' = w := by
  obtain ⟨z, c, rfl, _⟩ := h.k.shape
  have h1 := h.c1
  clear h
  go_enter Try.func21, Try.ntmps21
  go_wp2_with fail
  go_ret
  exact ⟨rfl, rfl⟩
theorem waits_n (h : PSt w bs t b Y vk vw ck cw K Wt ov) : Calls Try.prog 35 #[pp t] w fun e w' => e = .returned (.int .i64 (Wt.length : Int)) ∧ w' = w := by
  obtain ⟨z, c, rfl, _⟩ := h.s.shape
  have h1 := h.c2
  clear h
  go_enter Try.func35, Try.ntmps35
  go_wp2_with fail
  go_ret
  exact ⟨rfl, rfl⟩
theorem failed_n (h : PSt w bs t b Y vk vw ck cw K Wt false) (er : Int) : Calls Try.prog 43 #[pp t, .int .i64 er] w fun e w' => e = .returned (.int .i64 er) ∧ PSt w' bs t b Y vk vw ck cw K Wt (cmO er) ∧ Kp (X1 t) w w' := by
  have h5 := h.c5
  have hz := h.z 5 (by decide)
  have HS := hide h
  clear h
  by_cases he : er = 6
  · have HO : Hid (cmO er = true) := decide_eq_true he
    have hq : (er == 6) = true := by simp [he]
    clear he
    go_enter Try.func43, Try.ntmps43
    go_wp2_with fail
    go_ret
    rw [HO.out]
    exact ⟨rfl, HS.out.over true, kp_1 _⟩
  · have HO : Hid (cmO er = false) := decide_eq_false he
    have hq : (er == 6) = false := by simp [he]
    go_enter Try.func43, Try.ntmps43
    go_wp2_with fail
    go_ret
    rw [HO.out]
    exact ⟨rfl, HS.out, Kp.refl _ _⟩
set_option maxRecDepth 100000 in
set_option maxHeartbeats 4000000 in
theorem room_n {lb mb : Nat} {D : DM} (h : PSt w bs t b Y vk vw ck cw K Wt ov) (hd : Dsk w b lb mb D) (hk : tks K ≤ 1000000) (hw : tks Wt ≤ 1000000) : Calls Try.prog 36 #[pp t] w fun e w' => e = .returned (.int .i64 ((D.n : Int) - 3 - (tks K : Int) - (tks Wt : Int))) ∧ Below w.heap.size w w' := by
  have h0 := h.c0
  have h4 := h.c4
  have hn := hd.ok.n
  have hwr : wrap64 ((D.n : Int) - (3 + (tks K : Int) + (tks Wt : Int))) = (D.n : Int) - 3 - (tks K : Int) - (tks Wt : Int) := (w_id (by omega) (by omega)).trans (by omega)
  have hdr : Below w.heap.size w w.drew := Go.Proofs.Ytpophfeommlajaa.K.drew (Below.refl _ _)
  have HSz := hide (size_any (hd.keep hdr))
  have HDr := hide hdr
  clear h hd hdr
  go_enter Try.func36, Try.ntmps36
  go_upto_region 3 with fail
  refine wp_region_noPanic ?_
  refine wp_region_held_drew (S := fun w' => w'.cell? ⟨t, 0, none⟩ = some (pp b) ∧ w'.cell? ⟨t, 4, none⟩ = some (.int .i64 (3 + (tks K : Int) + (tks Wt : Int)))) (by kernel_rfl) ⟨h0, h4⟩ (fun hS0 => ?_)
  refine wpAnyH_take (i := 0) (v := pp t) rfl (by kernel_rfl) (by kernel_rfl) (by kernel_rfl) (fun _ _ _ h => h) (Or.inl ⟨by rfl, fun w' _ => by go_simp⟩) hS0 ?_
  simp only [Act.put, List.getElem_toArray, List.getElem_cons_zero, List.setIfInBounds_toArray, List.set_cons_zero, List.set_cons_succ]
  refine wpAnyH_take (i := 1) (v := pp t) rfl (by kernel_rfl) (by kernel_rfl) (by kernel_rfl) (fun _ _ _ h => h) (Or.inl ⟨by rfl, fun w' _ => by go_simp⟩) hS0 ?_
  simp only [Act.put, List.getElem_toArray, List.getElem_cons_zero, List.getElem_cons_succ, List.setIfInBounds_toArray, List.set_cons_zero, List.set_cons_succ]
  refine wpAnyH_take (i := 2) (v := .pointer (some ⟨t, 0, none⟩)) rfl (by kernel_rfl) (by kernel_rfl) (by kernel_rfl) (fun _ _ _ h => h) (Or.inl ⟨by rfl, fun w' _ => by go_simp⟩) hS0 ?_
  simp only [Act.put, List.getElem_toArray, List.getElem_cons_zero, List.getElem_cons_succ, List.setIfInBounds_toArray, List.set_cons_zero, List.set_cons_succ]
  refine wpAnyH_take (i := 3) (v := pp b) rfl (by kernel_rfl) (by kernel_rfl) (by kernel_rfl) (fun _ _ _ h => h) (Or.inl ⟨by rfl, fun w' hS => by have hc := hS.1; go_simp⟩) hS0 ?_
  simp only [Act.put, List.getElem_toArray, List.getElem_cons_zero, List.getElem_cons_succ, List.setIfInBounds_toArray, List.set_cons_zero, List.set_cons_succ]
  refine wpAnyH_take (i := 5) (v := pp t) rfl (by kernel_rfl) (by kernel_rfl) (by kernel_rfl) (fun _ _ _ h => h) (Or.inl ⟨by rfl, fun w' _ => by go_simp⟩) hS0 ?_
  simp only [Act.put, List.getElem_toArray, List.getElem_cons_zero, List.getElem_cons_succ, List.setIfInBounds_toArray, List.set_cons_zero, List.set_cons_succ]
  refine wpAnyH_take (i := 6) (v := pp t) rfl (by kernel_rfl) (by kernel_rfl) (by kernel_rfl) (fun _ _ _ h => h) (Or.inl ⟨by rfl, fun w' _ => by go_simp⟩) hS0 ?_
  simp only [Act.put, List.getElem_toArray, List.getElem_cons_zero, List.getElem_cons_succ, List.setIfInBounds_toArray, List.set_cons_zero, List.set_cons_succ]
  refine wpAnyH_take (i := 7) (v := .pointer (some ⟨t, 4, none⟩)) rfl (by kernel_rfl) (by kernel_rfl) (by kernel_rfl) (fun _ _ _ h => h) (Or.inl ⟨by rfl, fun w' _ => by go_simp⟩) hS0 ?_
  simp only [Act.put, List.getElem_toArray, List.getElem_cons_zero, List.getElem_cons_succ, List.setIfInBounds_toArray, List.set_cons_zero, List.set_cons_succ]
  refine wpAnyH_take (i := 8) (v := .int .i64 (3 + (tks K : Int) + (tks Wt : Int))) rfl (by kernel_rfl) (by kernel_rfl) (by kernel_rfl) (fun _ _ _ h => h) (Or.inl ⟨by rfl, fun w' hS => by have hc := hS.2; go_simp⟩) hS0 ?_
  simp only [Act.put, List.getElem_toArray, List.getElem_cons_zero, List.getElem_cons_succ, List.setIfInBounds_toArray, List.set_cons_zero, List.set_cons_succ]
  refine wpAnyH_ready (rs := [4]) (by kernel_rfl) (by simp) (AllReadyH.cons rfl (fun Kt hK => ?_) AllReadyH.nil)
  refine wanted_pos rfl ?_
  refine wp_call (R := fun x w' => x = .int .i64 (D.n : Int) ∧ w' = w.drew) (vs := #[pp b]) rfl (by simp only [List.map_toArray, List.map_cons, List.map_nil]; rfl) (by go_simp) (Calls.mono HSz.out (fun e w' he => ⟨_, he.1, rfl, he.2⟩)) (fun x W6 hr => ?_)
  obtain ⟨hx, rfl⟩ := hr
  subst hx
  refine hK.out _ _ hS0 (fun _ => ?_)
  clear hK Kt
  simp only [Act.put, List.getElem_toArray, List.getElem_cons_zero, List.getElem_cons_succ, List.setIfInBounds_toArray, List.set_cons_zero, List.set_cons_succ]
  refine wpAnyH_take (i := 9) (v := .int .i64 ((D.n : Int) - 3 - (tks K : Int) - (tks Wt : Int))) rfl (by kernel_rfl) (by kernel_rfl) (by kernel_rfl) (fun _ _ _ h => h) (Or.inl ⟨by rfl, fun w' _ => by go_simp; exact (wrapI _).trans hwr⟩) hS0 ?_
  simp only [Act.put, List.getElem_toArray, List.getElem_cons_zero, List.getElem_cons_succ, List.setIfInBounds_toArray, List.set_cons_zero, List.set_cons_succ]
  refine wpAnyH_take (i := 10) (v := .int .i64 ((D.n : Int) - 3 - (tks K : Int) - (tks Wt : Int))) rfl (by kernel_rfl) (by kernel_rfl) (by kernel_rfl) (fun _ _ _ h => h) (Or.inl ⟨by rfl, fun w' _ => by go_simp⟩) hS0 ?_
  simp only [Act.put, List.getElem_toArray, List.getElem_cons_zero, List.getElem_cons_succ, List.setIfInBounds_toArray, List.set_cons_zero, List.set_cons_succ]
  refine wpAnyH_done (by kernel_rfl) ?_ _
  refine NoPanic.normal ?_
  go_wp2_with fail
  go_ret
  exact ⟨rfl, HDr.out⟩
theorem entry_out (h : PSt w bs t b Y vk vw ck cw K Wt ov) {i : Int} (hi : i < 0 ∨ (K.length : Int) ≤ i) : Calls Try.prog 34 #[pp t, .int .i64 i] w fun e w' => e = .returned (.tuple #[.slice none 0 0, .bool false]) ∧ w' = w := by
  have HL := hide (len_n h)
  clear h
  by_cases h0 : i < 0
  · go_enter Try.func34, Try.ntmps34
    go_wp2_with fail
    exact bodyPost_ret (by simp [results, Try.results34]) rfl ⟨rfl, rfl⟩
  · have h1 : (K.length : Int) ≤ i := by omega
    clear hi
    go_enter Try.func34, Try.ntmps34
    go_wp2_with (go_at_call 21; refine Calls.mono HL.out ?_; rintro e w ⟨rfl, rfl⟩)
    exact bodyPost_ret (by simp [results, Try.results34]) rfl ⟨rfl, rfl⟩
def EnP (w : World) (l : List Nat) (e : Ending) (w' : World) : Prop := ∃ z c f, e = .returned (.tuple #[.slice z l.length c, .bool true]) ∧ BA w' z l.length f ∧ fl f l.length = l ∧ (0 < l.length → ∀ p, z = some p → w.heap.size ≤ p.block) ∧ Below w.heap.size w w'
end
set_option maxRecDepth 100000 in
set_option maxHeartbeats 4000000 in
theorem entry_n2 {w : World} {bs t b : Nat} {Y : Nat → Bool} {vk vw : Value} {ck cw : List Value} {K Wt : List (List Nat)} {ov : Bool} (h : PSt w bs t b Y vk vw ck cw K Wt ov) (hs : short K) {i : Nat} {l : List Nat} (hl : K[i]? = some l) (hn : K.length ≤ 1000000) : Calls Try.prog 34 #[pp t, .int .i64 (i : Int)] w (EnP w l) := by
  have HL := hide (len_n h)
  obtain ⟨x, m, c, f, hcs, hb, hf, _⟩ := h.k.e i l hl
  have hi : i < K.length := (List.getElem?_eq_some_iff.1 hl).1
  obtain ⟨q, cap, rfl, _, _, hcell⟩ := row_cells h.k.o (by omega)
  have hc1 := h.c1
  have hce := hcell i _ hcs
  have hml : m = l.length := by rw [← hf, fl_len]
  subst hml
  have HCl := hide (clone_n (c := c) hb (hs.at hl))
  have hi' : (i : Int) < (K.length : Int) := by omega
  have hi2 : ¬ ((K.length : Int) ≤ (i : Int)) := by omega
  have HF := hide hf
  clear h hs hl hcs hb hf hcell
  go_enter Try.func34, Try.ntmps34
  go_wp2_with (first
    | (go_at_call 21; refine Calls.mono HL.out ?_; rintro e w ⟨rfl, rfl⟩)
    | (go_at_call 44; refine Calls.mono HCl.out ?_; rintro e W2 ⟨z2, c2, rfl, hb2, hz2, hB2⟩; have HR2 := hide (And.intro hb2 (And.intro hz2 hB2)); clear hb2 hz2 hB2))
  have hP : EnP w l (.returned (.tuple #[.slice z2 l.length c2, .bool true])) W2 := ⟨z2, c2, f, rfl, HR2.out.1, HF.out, HR2.out.2.1, HR2.out.2.2⟩
  exact bodyPost_ret (by simp [results, Try.results34]) rfl hP
end Go.Proofs.Ytpophfeommlajaa
