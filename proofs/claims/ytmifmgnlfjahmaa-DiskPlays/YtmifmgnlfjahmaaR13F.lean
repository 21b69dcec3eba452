/- Layer 13: both disks side by side; a call on both. -/
import Derived.Test.YtmifmgnlfjahmaaR13E
namespace Go.Proofs.Ytmifmgnlfjahmaa
open Go.RowKit Go.Maps
attribute [local go_sem ↓] Go.wp_at_zero Go.wp_at_succ

structure TwR (w wr : World) (b lb mb r la na cl cn : Nat) (zl zn : Option Addr) (D E : DM) (G : Nat → Bool) : Prop where
  f : FzR w wr b lb mb D
  g : RDk wr r la na cl cn zl zn E G
  q : ∀ k, G k = true → w.heap.size ≤ k ∧ X3 b lb mb k = false
section
variable {w wr w' : World} {b lb mb r la na cl cn : Nat} {zl zn : Option Addr} {D E D' E' : DM} {G G' : Nat → Bool}
theorem FzR.lt3 (h : FzR w wr b lb mb D) {q : Nat} (hq : X3 b lb mb q = true) : q < wr.heap.size := by
  have h1 := h.d.bl
  have h2 := h.d.ll
  have h3 := h.d.mp.lt
  rcases X3_of.1 hq with e | e | e <;> omega
theorem TwR.call1 (h : TwR w wr b lb mb r la na cl cn zl zn D E G) (hD : Dsk w' b lb mb D') (hK : Kp (X3 b lb mb) wr w') : TwR w w' b lb mb r la na cl cn zl zn D' E G :=
  ⟨h.f.next hD hK, h.g.same hK.size (fun k hk => hK.block k (h.g.gl k hk) (h.q k hk).2), h.q⟩
theorem TwR.ap (h : TwR w wr b lb mb r la na cl cn zl zn D E G) {k : Nat} (hk : X3 b lb mb k = true) : X3 r la na k = false := by
  cases hx : X3 r la na k with
  | false => rfl
  | true =>
    have := (h.q k (h.g.gx k hx)).2
    rw [hk] at this
    cases this
theorem TwR.call2 (h : TwR w wr b lb mb r la na cl cn zl zn D E G) (hR : RDk w' r la na cl cn zl zn E' G') (hK : Kp (X3 r la na) wr w') (hG : ∀ k, G' k = true → G k = true ∨ wr.heap.size ≤ k) : TwR w w' b lb mb r la na cl cn zl zn D E' G' := by
  have g1 := (h.q r (h.g.gx r (X3_of.2 (Or.inl rfl)))).1
  have g2 := (h.q la (h.g.gx la (X3_of.2 (Or.inr (Or.inl rfl))))).1
  have g3 := (h.q na (h.g.gx na (X3_of.2 (Or.inr (Or.inr rfl))))).1
  refine ⟨⟨h.f.d.same hK.size (fun k hk => hK.block k (h.f.lt3 hk) (h.ap hk)), h.f.b, h.f.l, h.f.m, Kp.own g1 g2 g3 h.f.k hK⟩, hR, fun k hk => ?_⟩
  rcases hG k hk with h' | h'
  · exact h.q k h'
  · exact ⟨Nat.le_trans h.f.k.size h', h.f.out h'⟩
theorem TwR.grow (h : TwR w wr b lb mb r la na cl cn zl zn D E G) (hB : Below wr.heap.size wr w') : TwR w w' b lb mb r la na cl cn zl zn D E G :=
  ⟨h.f.grow hB, h.g.same hB.size (fun k hk => hB.block k (h.g.gl k hk)), h.q⟩
theorem TwR.old (h : TwR w wr b lb mb r la na cl cn zl zn D E G) {k : Nat} (hk : k < w.heap.size) : X3 r la na k = false := by
  cases hx : X3 r la na k with
  | false => rfl
  | true => have := (h.q k (h.g.gx k hx)).1; omega
theorem TwR.baA (h : TwR w wr b lb mb r la na cl cn zl zn D E G) {x : Option Addr} {m : Nat} {f : Nat → Nat} (hb : BA w x m f) : 0 < m → ∀ p, x = some p → X3 r la na p.block = false := fun hm p hp => by
  rcases hb.at_ with h0 | ⟨q, o, e, hr⟩
  · omega
  · rw [hp] at e
    obtain rfl := Option.some.inj e
    exact h.old (World.block_lt_of_cell? w _ (hr.c 0 hm))
theorem TwR.kbA (h : TwR w wr b lb mb r la na cl cn zl zn D E G) {z : Option Addr} {K : List Bool} (hk : Kb w z K) : K ≠ [] → ∀ p, z = some p → X3 r la na p.block = false := fun hK p hp => by
  rcases hk with h0 | ⟨q, o, e, hr⟩
  · exact absurd h0 hK
  · rw [hp] at e
    obtain rfl := Option.some.inj e
    cases K with
    | nil => exact absurd rfl hK
    | cons x r => exact h.old (World.block_lt_of_cell? w _ (hr 0 x rfl))
end
theorem ba_zero (w : World) (x : Option Addr) : BA w x 0 (fun _ => 0) := ⟨fun _ => by decide, Or.inl rfl⟩
theorem rdB_ok {D : DM} (h : D.ok) (i : Int) : D.rdB i = [] ∨ sec (D.rdB i) := by
  unfold DM.rdB
  split
  · exact Or.inl rfl
  · split
    · exact Or.inr (DM.cur_sec h _)
    · exact Or.inl rfl
theorem nb_ba {w w' : World} {v : Value} {l : List Nat} (h : NewB w w' v l) (hl : l = [] ∨ sec l) : ∃ a n c f, v = .slice a n c ∧ BA w' a n f ∧ fl f n = l ∧ n ≤ 64 := by
  rcases h with ⟨rfl, rfl⟩ | ⟨g, rfl, _, _, hr⟩
  · exact ⟨_, _, _, _, rfl, ba_zero _ _, rfl, by omega⟩
  · rcases hl with rfl | hl
    · exact ⟨_, _, _, _, rfl, ba_zero _ _, rfl, by simp⟩
    · exact ⟨_, _, _, _, by rw [hl.1], ba_sec hr hl, fl_of hl.1, Nat.le_refl _⟩
theorem rr_ba {w : World} {G : Nat → Bool} {r la na : Nat} {v : Value} {l : List Nat} (h : (l = [] ∧ v = .slice none 0 0) ∨ sec l ∧ Sl w G r la na v l) : ∃ a n c f, v = .slice a n c ∧ BA w a n f ∧ fl f n = l := by
  rcases h with ⟨rfl, rfl⟩ | ⟨hl, g, c, rfl, hr, _⟩
  · exact ⟨_, _, _, _, rfl, ba_zero _ _, rfl⟩
  · exact ⟨_, _, _, _, rfl, ba_sec hr hl, fl_of hl.1⟩
/-- What a call does to a disk. -/
def DM.dof (D : DM) (o : OpV) : DM := if o.kd = 1 then D.wr o.i (fl o.f o.m) else if o.kd = 2 then D.sy else if o.kd = 3 then D.fuse o.i else if o.kd = 4 then D.cr o.KL o.t o.a else D
def DoP (w : World) (b lb mb r la na cl cn : Nat) (zl zn : Option Addr) (D : DM) (e : Ending) (w' : World) : Prop := e = .returned (.bool true) ∧ ∃ G, TwR w w' b lb mb r la na cl cn zl zn D D G
set_option maxRecDepth 100000 in
set_option maxHeartbeats 8000000 in
theorem do_any {w wr : World} {b lb mb r la na cl cn : Nat} {zl zn : Option Addr} {D : DM} {G : Nat → Bool} (h : TwR w wr b lb mb r la na cl cn zl zn D D G) {o : OpV} (ho : o.ok w) :
    Calls Try.prog 13 #[pp b, pp r, .agg #[.int .i64 o.kd, .int .i64 o.i, .slice o.x o.m o.c, .slice o.z o.KL.length o.k, .int .i64 o.t, .int .i64 o.a]] wr (DoP w b lb mb r la na cl cn zl zn (D.dof o)) := by
  have HR := hide h
  have HOk := hide ho
  clear h ho
  go_enter Try.func13, Try.ntmps13
  go_upto_region 1 with fail
  refine wp_let (fun W1 hW1 => ?_)
  obtain ⟨ob, hob⟩ : ∃ ob, ob = wr.heap.size := ⟨_, rfl⟩
  rw [← hob]
  have HB1 : Hid (Below wr.heap.size wr W1) := by show Below _ _ _; rw [hW1]; exact K.alloc (Below.refl _ _) _
  have HF1 : Hid (W1.rangeAt ob 0 o.cells ∧ ob < W1.heap.size ∧ X3 b lb mb ob = false ∧ X3 r la na ob = false) := by
    have hh : W1.heap[ob]? = some (.cells #[.int .i64 o.kd, .int .i64 o.i, .slice o.x o.m o.c, .slice o.z o.KL.length o.k, .int .i64 o.t, .int .i64 o.a] 38) := by rw [hW1, hob]; exact heap_alloc_new wr _
    refine ⟨fun j v hv => ?_, (Array.getElem?_eq_some_iff.1 hh).1, HR.out.f.out (by omega), ?_⟩
    · unfold World.cell?
      simp only [hh, Nat.zero_add]
      simpa [OpV.cells] using hv
    · cases hx : X3 r la na ob with
      | false => rfl
      | true => have := HR.out.g.gl ob (HR.out.g.gx ob hx); omega
  clear hW1 hob
  have HR1 := hide (HR.out.grow HB1.out)
  have HC1 : Hid (∀ w' : World, w'.rangeAt ob 0 o.cells → w'.cell? ⟨ob, 1, none⟩ = some (.int .i64 o.i)) := fun w' h => by have := h 1 _ rfl; rwa [Nat.zero_add] at this
  have HC2 : Hid (∀ w' : World, w'.rangeAt ob 0 o.cells → w'.cell? ⟨ob, 2, none⟩ = some (.slice o.x o.m o.c)) := fun w' h => by have := h 2 _ rfl; rwa [Nat.zero_add] at this
  have c0 : W1.cell? ⟨ob, 0, none⟩ = some (.int .i64 o.kd) := by have := HF1.out.1 0 _ rfl; rwa [Nat.zero_add] at this
  clear HR HB1
  by_cases h1 : o.kd = 1
  · have k1 : (o.kd == 1) = true := by simp; omega
    have HE : Hid (D.dof o = D.wr o.i (fl o.f o.m)) := if_pos h1
    have HRd := hide (HR1.out.grow (K.drew (Below.refl _ W1)))
    have HCa := hide (write_any (c := o.c) HRd.out.f.d o.i (HOk.out.b.keep HRd.out.f.k) (ba_ahead HRd.out.f HOk.out.b))
    clear h1
    go_upto_region 3 with fail
    refine wp_region_noPanic ?_
    refine wp_region_held_drew (S := fun w' => w'.rangeAt ob 0 o.cells) (by kernel_rfl) HF1.out.1 (fun hS0 => ?_)
    refine wpAnyH_take (i := 0) (v := pp b) rfl (by kernel_rfl) (by kernel_rfl) (by kernel_rfl) (fun _ _ _ h => h) (Or.inl ⟨by rfl, fun w' _ => by go_simp⟩) hS0 ?_
    simp only [Act.put, List.getElem_toArray, List.getElem_cons_zero, List.setIfInBounds_toArray, List.set_cons_zero, List.set_cons_succ]
    refine wpAnyH_take (i := 1) (v := .pointer (some ⟨ob, 1, none⟩)) rfl (by kernel_rfl) (by kernel_rfl) (by kernel_rfl) (fun _ _ _ h => h) (Or.inl ⟨by rfl, fun w' _ => by go_simp⟩) hS0 ?_
    simp only [Act.put, List.getElem_toArray, List.getElem_cons_zero, List.getElem_cons_succ, List.setIfInBounds_toArray, List.set_cons_zero, List.set_cons_succ]
    refine wpAnyH_take (i := 2) (v := .int .i64 o.i) rfl (by kernel_rfl) (by kernel_rfl) (by kernel_rfl) (fun _ _ _ h => h) (Or.inl ⟨by rfl, fun w' hS => by have hc := HC1.out _ hS; go_simp⟩) hS0 ?_
    simp only [Act.put, List.getElem_toArray, List.getElem_cons_zero, List.getElem_cons_succ, List.setIfInBounds_toArray, List.set_cons_zero, List.set_cons_succ]
    refine wpAnyH_take (i := 3) (v := .pointer (some ⟨ob, 2, none⟩)) rfl (by kernel_rfl) (by kernel_rfl) (by kernel_rfl) (fun _ _ _ h => h) (Or.inl ⟨by rfl, fun w' _ => by go_simp⟩) hS0 ?_
    simp only [Act.put, List.getElem_toArray, List.getElem_cons_zero, List.getElem_cons_succ, List.setIfInBounds_toArray, List.set_cons_zero, List.set_cons_succ]
    refine wpAnyH_take (i := 4) (v := .slice o.x o.m o.c) rfl (by kernel_rfl) (by kernel_rfl) (by kernel_rfl) (fun _ _ _ h => h) (Or.inl ⟨by rfl, fun w' hS => by have hc := HC2.out _ hS; go_simp⟩) hS0 ?_
    simp only [Act.put, List.getElem_toArray, List.getElem_cons_zero, List.getElem_cons_succ, List.setIfInBounds_toArray, List.set_cons_zero, List.set_cons_succ]
    refine wpAnyH_take (i := 6) (v := pp r) rfl (by kernel_rfl) (by kernel_rfl) (by kernel_rfl) (fun _ _ _ h => h) (Or.inl ⟨by rfl, fun w' _ => by go_simp⟩) hS0 ?_
    simp only [Act.put, List.getElem_toArray, List.getElem_cons_zero, List.getElem_cons_succ, List.setIfInBounds_toArray, List.set_cons_zero, List.set_cons_succ]
    refine wpAnyH_take (i := 7) (v := .pointer (some ⟨ob, 1, none⟩)) rfl (by kernel_rfl) (by kernel_rfl) (by kernel_rfl) (fun _ _ _ h => h) (Or.inl ⟨by rfl, fun w' _ => by go_simp⟩) hS0 ?_
    simp only [Act.put, List.getElem_toArray, List.getElem_cons_zero, List.getElem_cons_succ, List.setIfInBounds_toArray, List.set_cons_zero, List.set_cons_succ]
    refine wpAnyH_take (i := 8) (v := .int .i64 o.i) rfl (by kernel_rfl) (by kernel_rfl) (by kernel_rfl) (fun _ _ _ h => h) (Or.inl ⟨by rfl, fun w' hS => by have hc := HC1.out _ hS; go_simp⟩) hS0 ?_
    simp only [Act.put, List.getElem_toArray, List.getElem_cons_zero, List.getElem_cons_succ, List.setIfInBounds_toArray, List.set_cons_zero, List.set_cons_succ]
    refine wpAnyH_take (i := 9) (v := .pointer (some ⟨ob, 2, none⟩)) rfl (by kernel_rfl) (by kernel_rfl) (by kernel_rfl) (fun _ _ _ h => h) (Or.inl ⟨by rfl, fun w' _ => by go_simp⟩) hS0 ?_
    simp only [Act.put, List.getElem_toArray, List.getElem_cons_zero, List.getElem_cons_succ, List.setIfInBounds_toArray, List.set_cons_zero, List.set_cons_succ]
    refine wpAnyH_take (i := 10) (v := .slice o.x o.m o.c) rfl (by kernel_rfl) (by kernel_rfl) (by kernel_rfl) (fun _ _ _ h => h) (Or.inl ⟨by rfl, fun w' hS => by have hc := HC2.out _ hS; go_simp⟩) hS0 ?_
    simp only [Act.put, List.getElem_toArray, List.getElem_cons_zero, List.getElem_cons_succ, List.setIfInBounds_toArray, List.set_cons_zero, List.set_cons_succ]
    refine wpAnyH_ready (rs := [5]) (by kernel_rfl) (by simp) (AllReadyH.cons rfl (fun Kt hK => ?_) AllReadyH.nil)
    refine wanted_pos rfl ?_
    refine wp_call (R := fun x w' => WrP W1.drew b lb mb (D.wr o.i (fl o.f o.m)) (D.wrE o.i o.m) (.returned x) w') (vs := #[pp b, .int .i64 o.i, .slice o.x o.m o.c]) rfl (by simp only [List.map_toArray, List.map_cons, List.map_nil]; rfl) (by go_simp) (Calls.mono HCa.out (fun e w' he => ⟨_, he.1, rfl, he.2⟩)) (fun x W2 hr => ?_)
    obtain ⟨ex, hD2, hK2⟩ := hr
    cases ex
    have HR2 := hide (HRd.out.call1 hD2 hK2)
    have hS2 : W2.rangeAt ob 0 o.cells := fun j v hv => (hK2.cell (p := ⟨ob, 0 + j, none⟩) HF1.out.2.1 HF1.out.2.2.1).trans (HF1.out.1 j v hv)
    have HCb := hide (ref_write (c := o.c) HR2.out.g o.i (HOk.out.b.keep HR2.out.f.k) (HR2.out.baA HOk.out.b))
    have hl2 : ob < W2.heap.size := Nat.lt_of_lt_of_le HF1.out.2.1 hK2.size
    refine hK.out _ _ hS2 (fun _ => ?_)
    clear hK Kt hD2 hK2
    simp only [Act.put, List.getElem_toArray, List.getElem_cons_zero, List.getElem_cons_succ, List.setIfInBounds_toArray, List.set_cons_zero, List.set_cons_succ]
    refine wpAnyH_ready (rs := [11]) (by kernel_rfl) (by simp) (AllReadyH.cons rfl (fun Kt hK => ?_) AllReadyH.nil)
    refine wanted_pos rfl ?_
    refine wp_call (R := fun x w' => RwP W2 r la na cl cn zl zn (D.wr o.i (fl o.f o.m)) G (D.wrE o.i o.m) (.returned x) w') (vs := #[pp r, .int .i64 o.i, .slice o.x o.m o.c]) rfl (by simp only [List.map_toArray, List.map_cons, List.map_nil]; rfl) (by go_simp) (Calls.mono HCb.out (fun e w' he => ⟨_, he.1, rfl, he.2⟩)) (fun x W3 hr => ?_)
    obtain ⟨ex, G3, hD3, hK3, hG3⟩ := hr
    cases ex
    have HR3 := hide (HR2.out.call2 hD3 hK3 hG3)
    have hS3 : W3.rangeAt ob 0 o.cells := fun j v hv => (hK3.cell (p := ⟨ob, 0 + j, none⟩) hl2 HF1.out.2.2.2).trans (hS2 j v hv)
    refine hK.out _ _ hS3 (fun _ => ?_)
    clear hK Kt hD3 hK3 hG3 hS2 hS0 HCa HCb
    simp only [Act.put, List.getElem_toArray, List.getElem_cons_zero, List.getElem_cons_succ, List.setIfInBounds_toArray, List.set_cons_zero, List.set_cons_succ]
    refine wpAnyH_take (i := 12) (v := .bool true) rfl (by kernel_rfl) (by kernel_rfl) (by kernel_rfl) (fun _ _ _ h => h) (Or.inl ⟨by rfl, fun w' _ => by go_simp⟩) hS3 ?_
    simp only [Act.put, List.getElem_toArray, List.getElem_cons_zero, List.getElem_cons_succ, List.setIfInBounds_toArray, List.set_cons_zero, List.set_cons_succ]
    refine wpAnyH_take (i := 13) (v := .bool true) rfl (by kernel_rfl) (by kernel_rfl) (by kernel_rfl) (fun _ _ _ h => h) (Or.inl ⟨by rfl, fun w' _ => by go_simp⟩) hS3 ?_
    simp only [Act.put, List.getElem_toArray, List.getElem_cons_zero, List.getElem_cons_succ, List.setIfInBounds_toArray, List.set_cons_zero, List.set_cons_succ]
    refine wpAnyH_done (by kernel_rfl) ?_ _
    refine NoPanic.normal ?_
    go_wp2_with fail
    go_ret
    rw [HE.out]
    exact ⟨rfl, G3, HR3.out⟩
  by_cases h2 : o.kd = 2
  · have k1 : (o.kd == 1) = false := by simp; omega
    have k2 : (o.kd == 2) = true := by simp; omega
    have HE : Hid (D.dof o = D.sy) := (if_neg h1).trans (if_pos h2)
    clear h1 h2
    go_wp2_with (first
      | (go_at_call 16; refine Calls.mono (sync_any HR1.out.f.d) ?_; rintro e W2 ⟨rfl, hD2, hK2⟩; have HR2 := hide (HR1.out.call1 hD2 hK2); clear hD2 hK2)
      | (go_at_call 22; refine Calls.mono (ref_sync HR2.out.g) ?_; rintro e W3 ⟨rfl, G3, hD3, hK3, hG3⟩; have HR3 := hide (HR2.out.call2 hD3 hK3 hG3); clear hD3 hK3 hG3))
    go_ret
    rw [HE.out]
    exact ⟨by simp, G3, HR3.out⟩
  by_cases h3 : o.kd = 3
  · have k1 : (o.kd == 1) = false := by simp; omega
    have k2 : (o.kd == 2) = false := by simp; omega
    have k3 : (o.kd == 3) = true := by simp; omega
    have HE : Hid (D.dof o = D.fuse o.i) := ((if_neg h1).trans (if_neg h2)).trans (if_pos h3)
    have c1 := HC1.out _ HF1.out.1
    clear h1 h2 h3
    go_wp2_with (go_at_call 20; refine Calls.mono (fuse_any HR1.out.f.d o.i HOk.out.i.2) ?_; rintro e W2 ⟨⟨vv, rfl⟩, hD2, hK2⟩; have c1' := (hK2.cell (p := ⟨ob, 1, none⟩) HF1.out.2.1 HF1.out.2.2.1).trans c1; have HR2 := hide (HR1.out.call1 hD2 hK2); have d2 := HR2.out.g.c2; have z2 := HR2.out.g.z 2 (by omega); clear hD2 hK2)
    go_ret
    rw [HE.out]
    have hR := HR2.out.g
    have hI := HOk.out.i
    refine ⟨rfl, G, HR2.out.call2 (G' := G) (E' := D.fuse o.i) (hR.head (by simp) (fun k hk _ => Below.heap_setCell _ _ _ _ hk) (fun i => World.frozen?_setCell _ _ _ _) ?_ ?_ ?_ ?_ rfl rfl rfl ?_) (kp_set _ _) (fun k hk => Or.inl hk)⟩
    · exact (World.cell?_setCell_other _ _ _ _ (by simp)).trans hR.c0
    · exact (World.cell?_setCell_other _ _ _ _ (by simp)).trans hR.c1
    · refine (World.cell?_setCell_same _ _ _ hR.c2).trans ?_
      unfold fuI DM.fuse
      by_cases hn : 0 ≤ o.i
      · simp [hn]; omega
      · simp [hn]; omega
    · exact (World.cell?_setCell_other _ _ _ _ (by simp)).trans hR.c3
    · intro j hj
      have hI2 := hI.2
      unfold DM.fuse at hj
      simp only at hj
      split at hj
      · cases hj; omega
      · cases hj
  by_cases h4 : o.kd = 4
  · have k1 : (o.kd == 1) = false := by simp; omega
    have k2 : (o.kd == 2) = false := by simp; omega
    have k3 : (o.kd == 3) = false := by simp; omega
    have k4 : (o.kd == 4) = true := by simp; omega
    have HE : Hid (D.dof o = D.cr o.KL o.t o.a) := (((if_neg h1).trans (if_neg h2)).trans (if_neg h3)).trans (if_pos h4)
    have c3 := HF1.out.1 3 _ rfl
    have c4 := HF1.out.1 4 _ rfl
    have c5 := HF1.out.1 5 _ rfl
    simp only [Nat.zero_add] at c3 c4 c5
    clear h1 h2 h3 h4
    go_wp2_with (first
      | (go_at_call 17; refine Calls.mono (crash_any HR1.out.f.d (HOk.out.k.keep HR1.out.f.k) (kb_ahead HR1.out.f HOk.out.k) _ _) ?_; rintro e W2 ⟨⟨vv, rfl⟩, hD2, hK2⟩; have c3' := (hK2.cell (p := ⟨ob, 3, none⟩) HF1.out.2.1 HF1.out.2.2.1).trans c3; have c4' := (hK2.cell (p := ⟨ob, 4, none⟩) HF1.out.2.1 HF1.out.2.2.1).trans c4; have c5' := (hK2.cell (p := ⟨ob, 5, none⟩) HF1.out.2.1 HF1.out.2.2.1).trans c5; have HR2 := hide (HR1.out.call1 hD2 hK2); clear hD2 hK2)
      | (go_at_call 23; refine Calls.mono (ref_crash HR2.out.g (HOk.out.k.keep HR2.out.f.k) (HR2.out.kbA HOk.out.k) _ _) ?_; rintro e W3 ⟨⟨vv3, rfl⟩, G3, hD3, hK3, hG3⟩; have HR3 := hide (HR2.out.call2 hD3 hK3 hG3); clear hD3 hK3 hG3))
    go_ret
    rw [HE.out]
    exact ⟨rfl, G3, HR3.out⟩
  have HE : Hid (D.dof o = D) := (((if_neg h1).trans (if_neg h2)).trans (if_neg h3)).trans (if_neg h4)
  have k1 : (o.kd == 1) = false := by simp; omega
  have k2 : (o.kd == 2) = false := by simp; omega
  have k3 : (o.kd == 3) = false := by simp; omega
  have k4 : (o.kd == 4) = false := by simp; omega
  clear h1 h2 h3 h4
  by_cases h5 : o.kd = 5
  · have k5 : (o.kd == 5) = true := by simp; omega
    have c1 := HC1.out _ HF1.out.1
    clear h5
    go_wp2_with (first
      | (go_at_call 18; refine Calls.mono (read_any HR1.out.f.d o.i) ?_; rintro e W2 ⟨v2, rfl, hN2, hB2⟩; obtain ⟨xa, xn, xc, xf, rfl, hba, hfl, hle⟩ := nb_ba hN2 (rdB_ok HR1.out.f.d.ok o.i); have c1' := later hB2 c1; have HBa := hide (And.intro hba (And.intro hfl hle)); have HR2 := hide (HR1.out.grow hB2); clear hN2 hB2 hba hfl hle)
      | (go_at_call 24; refine Calls.mono (ref_read HR2.out.g o.i) ?_; rintro e W3 ⟨v3, rfl, rfl, hN3⟩; obtain ⟨ya, yn, yc, yf, rfl, hbb, hfm⟩ := rr_ba hN3; have HBb := hide (And.intro hbb hfm); clear hN3 hbb hfm)
      | (go_at_call 19; refine Calls.mono (same13 HBa.out.1 HBb.out.1 (by have := HBa.out.2.2; omega)) ?_; rw [HBa.out.2.1, HBb.out.2]; rintro e W4 ⟨rfl, hB4⟩; have HR4 := hide (HR2.out.grow hB4); clear hB4))
    go_ret
    rw [HE.out]
    exact ⟨by simp, G, HR4.out⟩
  · have k5 : (o.kd == 5) = false := by simp; omega
    clear h5
    go_wp2_with fail
    go_ret
    rw [HE.out]
    exact ⟨rfl, G, HR1.out⟩
end Go.Proofs.Ytmifmgnlfjahmaa
