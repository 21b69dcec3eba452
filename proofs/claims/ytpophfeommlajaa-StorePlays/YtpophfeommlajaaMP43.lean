/- Layer 15: Commit. -/
import Derived.Test.YtpophfeommlajaaMP42
namespace Go.Proofs.Ytpophfeommlajaa
open Go.RowKit Go.Maps
attribute [local go_sem ↓] Go.wp_at_zero Go.wp_at_succ

theorem PSt.done {W W3 : World} {bs t b : Nat} {Y : Nat → Bool} {vk vw v' : Value} {ck cw : List Value} {K Wt : List (List Nat)} (h : PSt W bs t b Y vk vw ck cw K Wt false) (hY : ∀ g, Y g = true → g < W.heap.size)
    (ho : W3.ownsRow bs 38 1 v' (K.length + Wt.length) (ck ++ cw)) (hG : W.grownBy W3 vk.ownBlock) (hat : v'.ownBlock = vk.ownBlock ∨ v'.ownBlock = some W.heap.size) :
    (∀ i u, i < 6 → W.cell? ⟨t, i, none⟩ = some u → W3.cell? ⟨t, i, none⟩ = some u) ∧ (∀ i, i < 6 → W3.frozen? ⟨t, i, none⟩ = false) ∧
    PSt (((W3.setCell ⟨t, 1, none⟩ v').setCell ⟨t, 2, none⟩ (.slice none 0 0)).setCell ⟨t, 3, none⟩ (.int .i64 (3 + (tks K : Int) + (tks Wt : Int)))) bs t b Y v' (.slice none 0 0) (ck ++ cw) [] (K ++ Wt) [] false := by
  have htn : vk.ownBlock ≠ some t := fun e => by
    have := h.k.x t e
    rw [Xt_u (Xu_of (Or.inr rfl))] at this
    cases this
  have e := hG.block t h.tl (fun e => htn e.symm)
  have ec : ∀ i, W3.cell? ⟨t, i, none⟩ = W.cell? ⟨t, i, none⟩ := fun i => World.cell?_of_block (w := W) e
  have ef : ∀ i, W3.frozen? ⟨t, i, none⟩ = W.frozen? ⟨t, i, none⟩ := fun i => World.frozen?_of_block (w := W) e
  have hXu : ∀ k, Xu Y t k = true → k < W.heap.size := fun k hk => by
    rcases Xu_inv hk with e1 | e1
    · exact hY k e1
    · rw [e1]; exact h.tl
  have hk : Lst W3 bs (Xu Y t) v' (K ++ Wt) (ck ++ cw) := (h.k.sub (fun k hk => Xt_u hk)).cat h.s hXu (fun g hg => by
    rcases hg with e1 | e1
    · exact Xt_u e1
    · exact Xt_own e1) ho hG hat
  have hU : Xu Y t t = true := Xu_of (Or.inr rfl)
  have hts : (3 + (tks K : Int) + (tks Wt : Int)) = 3 + (tks (K ++ Wt) : Int) := by rw [tks_app]; omega
  refine ⟨fun i u _ hu => (ec i).trans hu, fun i hi => (ef i).trans (h.z i hi), ⟨(cell_oth (by decide)).trans ((cell_oth (by decide)).trans ((cell_oth (by decide)).trans ((ec 0).trans h.c0))), (cell_oth (by decide)).trans ((cell_oth (by decide)).trans (cell_at ((ec 1).trans h.c1))), (cell_oth (by decide)).trans (cell_at ((cell_oth (by decide)).trans ((ec 2).trans h.c2))), ?_, ?_, (cell_oth (by decide)).trans ((cell_oth (by decide)).trans ((cell_oth (by decide)).trans ((ec 5).trans h.c5))), fun i hi => by rw [World.frozen?_setCell, World.frozen?_setCell, World.frozen?_setCell, ef]; exact h.z i hi, ?_, h.ty, (RSt.set (RSt.set (RSt.set hk hU) hU) hU).sub (fun k hk => ?_), Lst.nil _ _ _⟩⟩
  · rw [← hts]
    exact cell_at ((cell_oth (by decide)).trans ((cell_oth (by decide)).trans ((ec 3).trans h.c3)))
  · show _ = some (Value.int .i64 (3 + (tks (K ++ Wt) : Int) + ((0 : Nat) : Int)))
    rw [show (3 + (tks (K ++ Wt) : Int) + ((0 : Nat) : Int)) = 3 + (tks (K ++ Wt) : Int) by omega, ← hts]
    exact (cell_oth (by decide)).trans ((cell_oth (by decide)).trans ((cell_oth (by decide)).trans ((ec 4).trans h.c4)))
  · have := h.tl
    have := hG.size
    simp
    omega
  · rcases Xt_inv hk with e1 | e1
    · exact e1
    · cases e1
def CoP (w : World) (bs t b lb mb : Nat) (Y : Nat → Bool) (vk vw : Value) (D : DM) (er : Int) (K Wt : List (List Nat)) (ov : Bool) (e : Ending) (w' : World) : Prop := e = .returned (.int .i64 er) ∧ ∃ vk' vw' ck' cw', Dsk w' b lb mb D ∧ PSt w' bs t b Y vk' vw' ck' cw' K Wt ov ∧ Kp (Xt (X3 b lb mb) t vk) w w' ∧ (vk'.ownBlock = vk.ownBlock ∨ ∃ g, vk'.ownBlock = some g ∧ w.heap.size ≤ g) ∧ (vw'.ownBlock = vw.ownBlock ∨ vw'.ownBlock = none)
section
variable {w : World} {bs t b : Nat} {Y : Nat → Bool} {vk vw : Value} {ck cw : List Value} {K Wt : List (List Nat)}
theorem commit_over1 (h : PSt w bs t b Y vk vw ck cw K Wt true) : Calls Try.prog 13 #[pp t] w fun e w' => e = .returned (.int .i64 6) ∧ w' = w := by
  have HO := hide (over_n h)
  clear h
  go_enter Try.func13, Try.ntmps13
  go_wp2_with (go_at_call 40; refine Calls.mono HO.out ?_; rintro e w ⟨rfl, rfl⟩)
  go_ret
  exact ⟨rfl, rfl⟩
theorem commit_none1 (h : PSt w bs t b Y vk vw ck cw K [] false) : Calls Try.prog 13 #[pp t] w fun e w' => e = .returned (.int .i64 0) ∧ w' = w := by
  have HO := hide (over_n h)
  obtain ⟨z, c, rfl, _⟩ := h.s.shape
  have h2 := h.c2
  clear h
  go_enter Try.func13, Try.ntmps13
  go_wp2_with (go_at_call 40; refine Calls.mono HO.out ?_; rintro e w ⟨rfl, rfl⟩)
  go_ret
  exact ⟨rfl, rfl⟩
end
set_option maxRecDepth 100000 in
set_option maxHeartbeats 8000000 in
theorem commit_n {w : World} {bs t b lb mb : Nat} {Y : Nat → Bool} {vk vw : Value} {ck cw : List Value} {K Wt : List (List Nat)} {D : DM} (h : PSt w bs t b Y vk vw ck cw K Wt false) (hd : Dsk w b lb mb D) (hXY : ∀ g, X3 b lb mb g = true → Y g = true) (hY : ∀ g, Y g = true → g < w.heap.size) (hbs : bs ≤ w.heap.size)
    (hw : Wt ≠ []) (hs : ∀ l ∈ Wt, l.length ≤ 200) (hf : 3 + tks K + tks Wt ≤ D.n) (hst : D.dn = true ∨ (D.dn = false ∧ stl D (3 + tks K) Wt)) :
    Calls Try.prog 13 #[pp t] w (CoP w bs t b lb mb Y vk vw (cm D (K ++ Wt)).1 (cm D (K ++ Wt)).2 (cmK (cm D (K ++ Wt)).2 K Wt) (cmW (cm D (K ++ Wt)).2 Wt) (cmO (cm D (K ++ Wt)).2)) := by
  have hn := hd.ok.n
  have HO := hide (over_n h)
  have HKw := hide (keep_n h hd hXY hw hs hf hst)
  have HT : Hid (X3 b lb mb t = false) := by
    cases hq : X3 b lb mb t with
    | false => rfl
    | true => have := hXY t hq; rw [h.ty] at this; cases this
  have hl1 := tks_len K
  have hl2 := tks_len Wt
  have HLn : Hid (K.length + Wt.length ≤ 1000000) := (show K.length + Wt.length ≤ 1000000 by omega)
  have hlw : ((Wt.length : Int) == 0) = false := by
    cases Wt with
    | nil => exact absurd rfl hw
    | cons a b => simp; omega
  obtain ⟨D1, er, hA⟩ : ∃ D1 er, cm D (K ++ Wt) = (D1, er) := ⟨_, _, rfl⟩
  rw [hA] at HKw ⊢
  obtain ⟨zw, wc, rfl, _⟩ := h.s.shape
  have h2 := h.c2
  have HS := hide h
  have HX := hide (And.intro hXY (And.intro hY hbs))
  clear h hd hXY hY hbs hw hs hf hst hA
  go_enter Try.func13, Try.ntmps13
  go_upto_region 6 with (first
    | (go_at_call 40; refine Calls.mono HO.out ?_; rintro e w ⟨rfl, rfl⟩)
    | (go_at_call 47; refine Calls.mono HKw.out ?_; rintro e W2 ⟨rfl, hD2, hK2⟩; have HD2 := hide hD2; have HK2 := hide hK2; clear hD2 hK2))
  have HS2 := hide (HS.out.kp (HK2.out.mono HX.out.1))
  by_cases he : er = 0
  · have hq : (er != 0) = false := by simp [he]
    have HE : Hid (cmK er K Wt = K ++ Wt ∧ cmW er Wt = [] ∧ cmO er = false ∧ er = 0) := ⟨if_pos he, if_pos he, by subst he; decide, he⟩
    obtain ⟨zk, kc, ek, _⟩ := HS2.out.k.shape
    subst ek
    clear he HO HKw h2
    go_upto_region 8 with fail
    have HSd := hide (HS2.out.keep (Go.Proofs.Ytpophfeommlajaa.K.drew (Below.refl _ W2)))
    have HDd := hide (HD2.out.keep (Go.Proofs.Ytpophfeommlajaa.K.drew (Below.refl _ W2)))
    have HYd : Hid (∀ g, Y g = true → g < W2.drew.heap.size) := fun g hg => Nat.lt_of_lt_of_le (HX.out.2.1 g hg) HK2.out.size
    have HBs : Hid (bs ≤ W2.drew.heap.size) := Nat.le_trans HX.out.2.2 HK2.out.size
    refine wp_region_noPanic ?_
    refine wp_region_held_drew (S := fun _ => True) (by kernel_rfl) trivial (fun hS0 => ?_)
    refine wpAnyH_take (i := 0) (v := pp t) rfl (by kernel_rfl) (by kernel_rfl) (by kernel_rfl) (fun _ _ _ h => h) (Or.inl ⟨by rfl, fun w' _ => by go_simp⟩) hS0 ?_
    simp only [Act.put, List.getElem_toArray, List.getElem_cons_zero, List.setIfInBounds_toArray, List.set_cons_zero, List.set_cons_succ]
    refine wpAnyH_take (i := 1) (v := pp t) rfl (by kernel_rfl) (by kernel_rfl) (by kernel_rfl) (fun _ _ _ h => h) (Or.inl ⟨by rfl, fun w' _ => by go_simp⟩) hS0 ?_
    simp only [Act.put, List.getElem_toArray, List.getElem_cons_zero, List.getElem_cons_succ, List.setIfInBounds_toArray, List.set_cons_zero, List.set_cons_succ]
    refine wpAnyH_take (i := 2) (v := pp t) rfl (by kernel_rfl) (by kernel_rfl) (by kernel_rfl) (fun _ _ _ h => h) (Or.inl ⟨by rfl, fun w' _ => by go_simp⟩) hS0 ?_
    simp only [Act.put, List.getElem_toArray, List.getElem_cons_zero, List.getElem_cons_succ, List.setIfInBounds_toArray, List.set_cons_zero, List.set_cons_succ]
    refine wpAnyH_take (i := 3) (v := .pointer (some ⟨t, 1, none⟩)) rfl (by kernel_rfl) (by kernel_rfl) (by kernel_rfl) (fun _ _ _ h => h) (Or.inl ⟨by rfl, fun w' _ => by go_simp⟩) hS0 ?_
    simp only [Act.put, List.getElem_toArray, List.getElem_cons_zero, List.getElem_cons_succ, List.setIfInBounds_toArray, List.set_cons_zero, List.set_cons_succ]
    refine wpAnyH_take (i := 5) (v := pp t) rfl (by kernel_rfl) (by kernel_rfl) (by kernel_rfl) (fun _ _ _ h => h) (Or.inl ⟨by rfl, fun w' _ => by go_simp⟩) hS0 ?_
    simp only [Act.put, List.getElem_toArray, List.getElem_cons_zero, List.getElem_cons_succ, List.setIfInBounds_toArray, List.set_cons_zero, List.set_cons_succ]
    refine wpAnyH_take (i := 6) (v := pp t) rfl (by kernel_rfl) (by kernel_rfl) (by kernel_rfl) (fun _ _ _ h => h) (Or.inl ⟨by rfl, fun w' _ => by go_simp⟩) hS0 ?_
    simp only [Act.put, List.getElem_toArray, List.getElem_cons_zero, List.getElem_cons_succ, List.setIfInBounds_toArray, List.set_cons_zero, List.set_cons_succ]
    refine wpAnyH_take (i := 7) (v := .pointer (some ⟨t, 2, none⟩)) rfl (by kernel_rfl) (by kernel_rfl) (by kernel_rfl) (fun _ _ _ h => h) (Or.inl ⟨by rfl, fun w' _ => by go_simp⟩) hS0 ?_
    simp only [Act.put, List.getElem_toArray, List.getElem_cons_zero, List.getElem_cons_succ, List.setIfInBounds_toArray, List.set_cons_zero, List.set_cons_succ]
    apply meet
    · intro hcut
      refine wpAnyH_ready (rs := [4, 8]) (by kernel_rfl) (by simp) (AllReadyH.cons rfl (fun Kt hK => ?_) (AllReadyH.cons rfl (fun Kt hK => ?_) AllReadyH.nil))
      · skip
        refine wanted_pos rfl ?_
        refine wp_load2 rfl (by rfl) HSd.out.c1 (hK.out _ _ trivial (fun _ => ?_))
        clear hK Kt
        simp only [Act.put, List.getElem_toArray, List.getElem_cons_zero, List.getElem_cons_succ, List.setIfInBounds_toArray, List.set_cons_zero, List.set_cons_succ]
        refine wpAnyH_ready (rs := [8]) (by kernel_rfl) (by simp) (AllReadyH.cons rfl (fun Kt hK => ?_) AllReadyH.nil)
        refine wanted_pos rfl ?_
        refine wp_load2 rfl (by rfl) HSd.out.c2 (hK.out _ _ trivial (fun _ => ?_))
        clear hK Kt
        simp only [Act.put, List.getElem_toArray, List.getElem_cons_zero, List.getElem_cons_succ, List.setIfInBounds_toArray, List.set_cons_zero, List.set_cons_succ]
        exact hcut
      · skip
        refine wanted_pos rfl ?_
        refine wp_load2 rfl (by rfl) HSd.out.c2 (hK.out _ _ trivial (fun _ => ?_))
        clear hK Kt
        simp only [Act.put, List.getElem_toArray, List.getElem_cons_zero, List.getElem_cons_succ, List.setIfInBounds_toArray, List.set_cons_zero, List.set_cons_succ]
        refine wpAnyH_ready (rs := [4]) (by kernel_rfl) (by simp) (AllReadyH.cons rfl (fun Kt hK => ?_) AllReadyH.nil)
        refine wanted_pos rfl ?_
        refine wp_load2 rfl (by rfl) HSd.out.c1 (hK.out _ _ trivial (fun _ => ?_))
        clear hK Kt
        simp only [Act.put, List.getElem_toArray, List.getElem_cons_zero, List.getElem_cons_succ, List.setIfInBounds_toArray, List.set_cons_zero, List.set_cons_succ]
        exact hcut
    refine wpAnyH_ready (rs := [9]) (by kernel_rfl) (by simp) (AllReadyH.cons rfl (fun Kt hK => ?_) AllReadyH.nil)
    refine wanted_pos rfl ?_
    refine wp_appL _ _ rfl (by rfl) HSd.out.k.o (by rfl) HSd.out.s.o HSd.out.s.one HLn.out HBs.out (fun v4 W4 ho hG hat => ?_)
    have HPd := hide (HSd.out.done HYd.out ho hG hat)
    have HKg : Hid (Kp (Xt (X3 b lb mb) t (.slice zk K.length kc)) W2.drew W4) := grown_kp hG (fun k hk => Xt_own hk)
    have HAt : Hid (v4.ownBlock = (Value.slice zk K.length kc).ownBlock ∨ ∃ g, v4.ownBlock = some g ∧ w.heap.size ≤ g) := hat.imp id (fun e => ⟨_, e, HK2.out.size⟩)
    have HDg : Hid (Dsk W4 b lb mb D1) := HDd.out.same hG.size (fun k hk => hG.block k (by
      rcases X3_of.1 hk with rfl | rfl | rfl
      · exact HDd.out.bl
      · exact HDd.out.ll
      · exact HDd.out.mp.lt) (fun e => by
        have := HSd.out.k.x k e.symm
        rw [Xt_u (Xu_of (Or.inl (HX.out.1 k hk)))] at this
        cases this))
    have HC1 := hide (HPd.out.1 1 _ (by decide) HSd.out.c1)
    have HZ1 := hide (HPd.out.2.1 1 (by decide))
    obtain ⟨zq, lc, e6, _⟩ := (show ∃ zq lc, v4 = .slice zq (K.length + Wt.length) lc ∧ True by
      rcases ho.2 with ⟨e1, e2⟩ | ⟨g, cap, cur, e1, _⟩
      · exact ⟨none, 0, by rw [e1, e2], trivial⟩
      · exact ⟨_, _, e1, trivial⟩)
    subst e6
    clear ho hG hat
    refine hK.out _ _ trivial (fun _ => ?_)
    clear hK Kt
    simp only [Act.put, List.getElem_toArray, List.getElem_cons_zero, List.getElem_cons_succ, List.setIfInBounds_toArray, List.set_cons_zero, List.set_cons_succ]
    refine wpAnyH_take (i := 10) (v := pp t) rfl (by kernel_rfl) (by kernel_rfl) (by kernel_rfl) (fun _ _ _ h => h) (Or.inl ⟨by rfl, fun w' _ => by go_simp⟩) trivial ?_
    simp only [Act.put, List.getElem_toArray, List.getElem_cons_zero, List.getElem_cons_succ, List.setIfInBounds_toArray, List.set_cons_zero, List.set_cons_succ]
    refine wpAnyH_take (i := 11) (v := .pointer (some ⟨t, 1, none⟩)) rfl (by kernel_rfl) (by kernel_rfl) (by kernel_rfl) (fun _ _ _ h => h) (Or.inl ⟨by rfl, fun w' _ => by go_simp⟩) trivial ?_
    simp only [Act.put, List.getElem_toArray, List.getElem_cons_zero, List.getElem_cons_succ, List.setIfInBounds_toArray, List.set_cons_zero, List.set_cons_succ]
    refine wpAnyH_ready (rs := [12]) (by kernel_rfl) (by simp) (AllReadyH.cons rfl (fun Kt hK => ?_) AllReadyH.nil)
    refine wanted_pos rfl ?_
    refine wp_store2 rfl (by rfl) (by rfl) HC1.out HZ1.out (hK.out _ _ trivial (fun _ => ?_))
    clear hK Kt
    simp only [Act.put, List.getElem_toArray, List.getElem_cons_zero, List.getElem_cons_succ]
    refine wpAnyH_done (by kernel_rfl) ?_ _
    refine NoPanic.normal ?_
    obtain ⟨W5, hW5⟩ : ∃ W5, W5 = W4.setCell ⟨t, 1, none⟩ (.slice zq (K.length + Wt.length) lc) := ⟨_, rfl⟩
    rw [← hW5]
    have HP4 := hide HPd.out.2.2
    rw [← hW5] at HP4
    have hq2 : W5.cell? ⟨t, 2, none⟩ = some (.slice zw Wt.length wc) := by rw [hW5]; exact (cell_oth (by decide)).trans (HPd.out.1 2 _ (by decide) HSd.out.c2)
    have hq3 : W5.cell? ⟨t, 3, none⟩ = some (.int .i64 (3 + (tks K : Int))) := by rw [hW5]; exact (cell_oth (by decide)).trans (HPd.out.1 3 _ (by decide) HSd.out.c3)
    have hq4 : W5.cell? ⟨t, 4, none⟩ = some (.int .i64 (3 + (tks K : Int) + (tks Wt : Int))) := by rw [hW5]; exact (cell_oth (by decide)).trans (HPd.out.1 4 _ (by decide) HSd.out.c4)
    have hf2 : W5.frozen? ⟨t, 2, none⟩ = false := by rw [hW5, World.frozen?_setCell]; exact HPd.out.2.1 2 (by decide)
    have hf3 : W5.frozen? ⟨t, 3, none⟩ = false := by rw [hW5, World.frozen?_setCell]; exact HPd.out.2.1 3 (by decide)
    have HK4 : Hid (Kp (Xt (X3 b lb mb) t (.slice zk K.length kc)) W2.drew W5) := by rw [hW5]; exact HKg.out.trans (kp_v _)
    have HD4 : Hid (Dsk W5 b lb mb D1) := by rw [hW5]; exact HDg.out.setx HT.out _
    clear hW5 HPd HKg HDg HSd HDd hq
    go_wp2_with fail
    go_ret
    rw [HE.out.1, HE.out.2.1, HE.out.2.2.1, HE.out.2.2.2]
    exact ⟨rfl, _, _, _, _, ((HD4.out.setx HT.out _).setx HT.out _), HP4.out, (((HK2.out.mono (fun k hk => Xt_u (Xu_of (Or.inl hk)))).trans (Kp.of (Go.Proofs.Ytpophfeommlajaa.K.drew (Below.refl _ W2)))).trans HK4.out).trans ((kp_v _).trans (kp_v _)), HAt.out, Or.inr rfl⟩
  · have hq : (er != 0) = true := by simp [he]
    have HE : Hid (cmK er K Wt = K ∧ cmW er Wt = Wt) := ⟨if_neg he, if_neg he⟩
    have HFa := hide (failed_n HS2.out er)
    clear he HO HKw h2
    go_wp2_with (go_at_call 43; refine Calls.mono HFa.out ?_; rintro e W3 ⟨rfl, hS3, hK3⟩; have HS3 := hide (And.intro hS3 hK3); clear hS3 hK3)
    go_ret
    rw [HE.out.1, HE.out.2]
    refine ⟨rfl, vk, _, ck, cw, HD2.out.same HS3.out.2.size (fun k hk => HS3.out.2.block k ?_ (X1_not (fun e => ?_))), HS3.out.1, (HK2.out.mono (fun k hk => Xt_u (Xu_of (Or.inl hk)))).trans (HS3.out.2.mono (fun k hk => Xt_u (Xu_of (Or.inr (Nat.eq_of_beq_eq_true hk))))), Or.inl rfl, Or.inl rfl⟩
    · rcases X3_of.1 hk with rfl | rfl | rfl
      · exact HD2.out.bl
      · exact HD2.out.ll
      · exact HD2.out.mp.lt
    · rw [e, HT.out] at hk; cases hk
end Go.Proofs.Ytpophfeommlajaa
