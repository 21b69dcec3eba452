/- Layer 13: the document's Sync. -/
import Derived.Test.YtjgpopjpmfkfmaaR13C
namespace Go.Proofs.Ytjgpopjpmfkfmaa
set_option maxRecDepth 100000
open Go.RowKit Go.Maps
attribute [local go_sem ↓] Go.wp_at_zero Go.wp_at_succ

theorem wp_store1 {op : Oper} {a : Act} {w : World} {Kt : Act → World → Prop} {Q : Exit → Act → World → Prop} {x y : Operand} {g o m c : Nat} {p : Option Addr} {u : Value} (ho : op.op = .store 38 x y) (hx : a.eval x = .pointer (some ⟨g, o, none⟩)) (hy : a.eval y = .slice p m c)
    (hc : w.cell? ⟨g, o, none⟩ = some u) (hz : w.frozen? ⟨g, o, none⟩ = false) (h : Kt (a.put op.dst undef) (w.setCell ⟨g, o, none⟩ (.slice p m c))) : Oper.wp Try.prog op a w Kt Q := by
  unfold Oper.wp execOp
  simp only [ho, hx, hy]
  go_simp
  exact h
/-- What lasts while a Sync goes on. -/
def DM.syp (D : DM) (i : Nat) : DM := { D with la := fun j => if j < i then (D.nw j).getD (D.la j) else D.la j, nw := fun j => if j < i then none else D.nw j }
theorem DM.mk_eq {n : Nat} {la la' : Nat → List Nat} {nw nw' : Nat → Option (List Nat)} {fu : Option Nat} {dn : Bool} (h1 : la = la') (h2 : nw = nw') : DM.mk n la nw fu dn = DM.mk n la' nw' fu dn := by
  subst h1 h2
  rfl
theorem DM.syp_zero (D : DM) : D.syp 0 = D := by
  obtain ⟨n, la, nw, fu, dn⟩ := D
  simp [DM.syp]
theorem DM.syp_none {D : DM} {i : Nat} (h : D.nw i = none) : D.syp (i + 1) = D.syp i := by
  unfold DM.syp
  congr 1
  · funext j
    by_cases e : j = i
    · subst e; simp [h]
    · by_cases h1 : j < i
      · rw [if_pos h1, if_pos (by omega)]
      · rw [if_neg h1, if_neg (by omega)]
  · funext j
    by_cases e : j = i
    · subst e; simp [h]
    · by_cases h1 : j < i
      · rw [if_pos h1, if_pos (by omega)]
      · rw [if_neg h1, if_neg (by omega)]
theorem DM.syp_some {D : DM} {i : Nat} {l : List Nat} (h : D.nw i = some l) : ({ D.syp i with la := upd (D.syp i).la i l, nw := upd (D.syp i).nw i none } : DM) = D.syp (i + 1) := by
  refine DM.mk_eq ?_ ?_
  · funext j
    show upd _ i l j = if j < i + 1 then (D.nw j).getD (D.la j) else D.la j
    by_cases e : j = i
    · subst e; simp [h, upd]
    · by_cases h1 : j < i
      · simp only [upd, if_neg e, DM.syp]; rw [if_pos h1, if_pos (by omega)]
      · simp only [upd, if_neg e, DM.syp]; rw [if_neg h1, if_neg (by omega)]
  · funext j
    show upd _ i none j = if j < i + 1 then none else D.nw j
    by_cases e : j = i
    · subst e; simp [upd]
    · by_cases h1 : j < i
      · simp only [upd, if_neg e, DM.syp]; rw [if_pos h1, if_pos (by omega)]
      · simp only [upd, if_neg e, DM.syp]; rw [if_neg h1, if_neg (by omega)]
theorem DM.syp_end {D : DM} (hok : D.ok) : D.syp D.n = { D with la := fun i => (D.nw i).getD (D.la i), nw := fun _ => none } := by
  have hn : ∀ j, ¬ j < D.n → D.nw j = none := fun j hj => by
    cases hx : D.nw j with
    | none => rfl
    | some l => exact absurd (hok.nw j l hx).1 hj
  unfold DM.syp
  congr 1
  · funext j
    split
    · rfl
    · rename_i hj; rw [hn j hj]; rfl
  · funext j
    split
    · rfl
    · rename_i hj; exact hn j hj
def SyQ (w wr : World) (r la na cl cn : Nat) (zl zn : Option Addr) (D : DM) (G : Nat → Bool) (i : Nat) : Prop := RDk wr r la na cl cn zl zn (D.syp i) G ∧ Kp (X3 r la na) w wr
set_option maxRecDepth 100000 in
set_option maxHeartbeats 8000000 in
theorem ref_sync {w : World} {r la na cl cn : Nat} {zl zn : Option Addr} {D : DM} {G : Nat → Bool} (h : RDk w r la na cl cn zl zn D G) : Calls Try.prog 52 #[pp r] w (RwP w r la na cl cn zl zn D.sy G D.syE) := by
  have HD := hide h
  have h3 := h.c3
  cases hdn : D.dn with
  | true =>
    have e1 : D.sy = D := if_pos hdn
    have e2 : D.syE = 6 := if_pos hdn
    rw [e1, e2]
    clear h e1 e2
    go_enter Try.func52, Try.ntmps52
    go_wp2_with fail
    go_ret
    exact ⟨rfl, G, HD.out, Kp.refl _ _, fun k hk => Or.inl hk⟩
  | false =>
  have hdn' : ¬ D.dn = true := by simp [hdn]
  cases hmay : D.may with
  | false =>
    have e1 : D.sy = D.burn := by
      unfold DM.sy
      rw [if_neg hdn', if_neg (by simp [hmay])]
    have e2 : D.syE = 6 := by
      unfold DM.syE
      rw [if_neg hdn', if_neg (by simp [hmay])]
    rw [e1, e2]
    clear h e1 e2 hdn'
    go_enter Try.func52, Try.ntmps52
    go_wp2_with (go_at_call 60; refine Calls.mono (ref_op HD.out hdn) ?_; rintro e W1 ⟨rfl, hD1, hK1⟩; rw [hmay])
    go_ret
    exact ⟨rfl, G, hD1, hK1, fun k hk => Or.inl hk⟩
  | true =>
  have e2 : D.syE = 0 := by
    unfold DM.syE
    rw [if_neg hdn', if_pos hmay]
  obtain ⟨D1, hD⟩ : ∃ D1, D1 = D.burn := ⟨_, rfl⟩
  have HE1 : Hid (D.sy = { D1 with la := fun i => (D1.nw i).getD (D1.la i), nw := fun _ => none }) := by
    show _ = _
    unfold DM.sy
    rw [if_neg hdn', if_pos hmay, hD, burn_nw, burn_la]
  rw [e2]
  have HB : Hid (D.burn = D1) := hD.symm
  clear h e2 hdn' hD
  go_enter Try.func52, Try.ntmps52
  go_upto_region 3 with (go_at_call 60; refine Calls.mono (ref_op HD.out hdn) ?_; rintro e W1 ⟨rfl, hD1, hK1⟩; rw [hmay])
  rw [HB.out] at hD1
  have HD1 := hide hD1
  have HK1 := hide hK1
  clear hD1 hK1 HB HD h3
  go_wp2_with fail
  go_loopg [3] D1.n (fun g' s3 wr => ∃ i : Nat, g' = D1.n - i ∧ i ≤ D1.n ∧ s3 = .int .i64 (i : Int) ∧ SyQ W1 wr r la na cl cn zl zn D1 G i)
  case atStart => exact ⟨0, rfl, Nat.zero_le _, rfl, by rw [DM.syp_zero]; exact HD1.out, Kp.refl _ _⟩
  case round =>
    obtain ⟨i, rfl, hp, rfl, hDp, hKp⟩ := hrel
    have h0 : wr.cell? ⟨r, 0, none⟩ = some (.slice zl D1.n cl) := hDp.c0
    have h1 : wr.cell? ⟨r, 1, none⟩ = some (.slice zn D1.n cn) := hDp.c1
    have HDp := hide hDp
    have HKp := hide hKp
    have hn4 := HD1.out.ok.n
    clear hDp hKp
    by_cases hlt : i < D1.n
    · obtain ⟨rfl, rfl, a3, a4, a5⟩ := HDp.out.a (Nat.lt_of_le_of_lt (Nat.zero_le _) hlt)
      obtain ⟨vl, hvl, _⟩ := HDp.out.lv i hlt
      obtain ⟨vn, hvn, sn⟩ := HDp.out.nv i hlt
      have hlt' : (i : Int) < (D1.n : Int) := by omega
      have hw : wrap64 ((i : Int) + 1) = ((i + 1 : Nat) : Int) := by unfold wrap64; omega
      have en : (D1.syp i).nw i = D1.nw i := if_neg (Nat.lt_irrefl i)
      rw [en] at sn
      have HP := hide (And.intro hlt hn4)
      rcases sn with ⟨e0, rfl⟩ | ⟨l, e0, sn⟩
      · clear hlt hp hn4 en a3 a4 a5
        go_wp2_with fail
        go_roundg (D1.n - (i + 1))
        case measure => have := HP.out.1; omega
        case rel => exact ⟨i + 1, rfl, HP.out.1, by rw [hw], by rw [DM.syp_none e0]; exact HDp.out, HKp.out⟩
      · have HS := hide sn
        have HSec := hide (HDp.out.ok.nw i l (en.trans e0)).2
        obtain ⟨g, c, rfl, hg1, hg2, hg3, _⟩ := sn
        have hgl := HDp.out.gl
        have hrl := HDp.out.rl
        have hnal : na < wr.heap.size := HDp.out.gl na (HDp.out.gx na (X3_of.2 (Or.inr (Or.inr rfl))))
        have HC0 : Hid (∀ w' : World, wr.grownBy w' (some la) → w'.cell? ⟨r, 0, none⟩ = some (.slice (some ⟨la, 0, none⟩) D1.n cl)) := fun w' hg => (World.cell?_of_block (w := wr) (hg.block r hrl (fun e => a3 (Option.some.inj e).symm))).trans h0
        have HC1 : Hid (∀ w' : World, wr.grownBy w' (some la) → w'.cell? ⟨r, 1, none⟩ = some (.slice (some ⟨na, 0, none⟩) D1.n cn)) := fun w' hg => (World.cell?_of_block (w := wr) (hg.block r hrl (fun e => a3 (Option.some.inj e).symm))).trans h1
        have HCN : Hid (∀ w' : World, wr.grownBy w' (some la) → w'.cell? ⟨na, i, none⟩ = some (.slice (some ⟨g, 0, none⟩) 64 c)) := fun w' hg => (World.cell?_of_block (w := wr) (hg.block na hnal (fun e => a5 (Option.some.inj e).symm))).trans hvn
        have hzl := HDp.out.lz i hlt
        have HA := hide (And.intro a3 (And.intro a4 a5))
        have HZ := hide hzl
        have HVL := hide hvl
        clear hp hn4 a3 a4 a5 hg1 hg2 hg3 hgl hrl hnal hzl hvl
        go_upto_region 7 with fail
        refine wp_region_noPanic ?_
        refine wp_region_held_drew (S := fun w' => wr.grownBy w' (some la)) (by kernel_rfl) ⟨rfl, rfl, rfl, Nat.le_refl _, fun _ _ _ => rfl⟩ (fun hS0 => ?_)
        refine wpAnyH_take (i := 0) (v := pp r) rfl (by kernel_rfl) (by kernel_rfl) (by kernel_rfl) (fun _ _ _ h => h) (Or.inl ⟨by rfl, fun w' _ => by go_simp⟩) hS0 ?_
        simp only [Act.put, List.getElem_toArray, List.getElem_cons_zero, List.setIfInBounds_toArray, List.set_cons_zero, List.set_cons_succ]
        refine wpAnyH_take (i := 1) (v := pp r) rfl (by kernel_rfl) (by kernel_rfl) (by kernel_rfl) (fun _ _ _ h => h) (Or.inl ⟨by rfl, fun w' _ => by go_simp⟩) hS0 ?_
        simp only [Act.put, List.getElem_toArray, List.getElem_cons_zero, List.getElem_cons_succ, List.setIfInBounds_toArray, List.set_cons_zero, List.set_cons_succ]
        refine wpAnyH_take (i := 2) (v := pp r) rfl (by kernel_rfl) (by kernel_rfl) (by kernel_rfl) (fun _ _ _ h => h) (Or.inl ⟨by rfl, fun w' _ => by go_simp⟩) hS0 ?_
        simp only [Act.put, List.getElem_toArray, List.getElem_cons_zero, List.getElem_cons_succ, List.setIfInBounds_toArray, List.set_cons_zero, List.set_cons_succ]
        refine wpAnyH_take (i := 3) (v := .slice (some ⟨la, 0, none⟩) D1.n cl) rfl (by kernel_rfl) (by kernel_rfl) (by kernel_rfl) (fun _ _ _ h => h) (Or.inl ⟨by rfl, fun w' hS => by have hc := HC0.out _ hS; go_simp⟩) hS0 ?_
        simp only [Act.put, List.getElem_toArray, List.getElem_cons_zero, List.getElem_cons_succ, List.setIfInBounds_toArray, List.set_cons_zero, List.set_cons_succ]
        refine wpAnyH_take (i := 4) (v := .int .i64 (i : Int)) rfl (by kernel_rfl) (by kernel_rfl) (by kernel_rfl) (fun _ _ _ h => h) (Or.inl ⟨by rfl, fun w' _ => by go_simp⟩) hS0 ?_
        simp only [Act.put, List.getElem_toArray, List.getElem_cons_zero, List.getElem_cons_succ, List.setIfInBounds_toArray, List.set_cons_zero, List.set_cons_succ]
        refine wpAnyH_take (i := 5) (v := pp r) rfl (by kernel_rfl) (by kernel_rfl) (by kernel_rfl) (fun _ _ _ h => h) (Or.inl ⟨by rfl, fun w' _ => by go_simp⟩) hS0 ?_
        simp only [Act.put, List.getElem_toArray, List.getElem_cons_zero, List.getElem_cons_succ, List.setIfInBounds_toArray, List.set_cons_zero, List.set_cons_succ]
        refine wpAnyH_take (i := 6) (v := pp r) rfl (by kernel_rfl) (by kernel_rfl) (by kernel_rfl) (fun _ _ _ h => h) (Or.inl ⟨by rfl, fun w' _ => by go_simp⟩) hS0 ?_
        simp only [Act.put, List.getElem_toArray, List.getElem_cons_zero, List.getElem_cons_succ, List.setIfInBounds_toArray, List.set_cons_zero, List.set_cons_succ]
        refine wpAnyH_take (i := 7) (v := .pointer (some ⟨r, 1, none⟩)) rfl (by kernel_rfl) (by kernel_rfl) (by kernel_rfl) (fun _ _ _ h => h) (Or.inl ⟨by rfl, fun w' _ => by go_simp⟩) hS0 ?_
        simp only [Act.put, List.getElem_toArray, List.getElem_cons_zero, List.getElem_cons_succ, List.setIfInBounds_toArray, List.set_cons_zero, List.set_cons_succ]
        refine wpAnyH_take (i := 8) (v := .slice (some ⟨na, 0, none⟩) D1.n cn) rfl (by kernel_rfl) (by kernel_rfl) (by kernel_rfl) (fun _ _ _ h => h) (Or.inl ⟨by rfl, fun w' hS => by have hc := HC1.out _ hS; go_simp⟩) hS0 ?_
        simp only [Act.put, List.getElem_toArray, List.getElem_cons_zero, List.getElem_cons_succ, List.setIfInBounds_toArray, List.set_cons_zero, List.set_cons_succ]
        refine wpAnyH_take (i := 9) (v := .int .i64 (i : Int)) rfl (by kernel_rfl) (by kernel_rfl) (by kernel_rfl) (fun _ _ _ h => h) (Or.inl ⟨by rfl, fun w' _ => by go_simp⟩) hS0 ?_
        simp only [Act.put, List.getElem_toArray, List.getElem_cons_zero, List.getElem_cons_succ, List.setIfInBounds_toArray, List.set_cons_zero, List.set_cons_succ]
        refine wpAnyH_take (i := 10) (v := .pointer (some ⟨na, i, none⟩)) rfl (by kernel_rfl) (by kernel_rfl) (by kernel_rfl) (fun _ _ _ h => h) (Or.inl ⟨by rfl, fun w' _ => by go_simp⟩) hS0 ?_
        simp only [Act.put, List.getElem_toArray, List.getElem_cons_zero, List.getElem_cons_succ, List.setIfInBounds_toArray, List.set_cons_zero, List.set_cons_succ]
        refine wpAnyH_take (i := 11) (v := .slice (some ⟨g, 0, none⟩) 64 c) rfl (by kernel_rfl) (by kernel_rfl) (by kernel_rfl) (fun _ _ _ h => h) (Or.inl ⟨by rfl, fun w' hS => by have hc := HCN.out _ hS; go_simp⟩) hS0 ?_
        simp only [Act.put, List.getElem_toArray, List.getElem_cons_zero, List.getElem_cons_succ, List.setIfInBounds_toArray, List.set_cons_zero, List.set_cons_succ]
        refine wpAnyH_take (i := 12) (v := .pointer (some ⟨la, i, none⟩)) rfl (by kernel_rfl) (by kernel_rfl) (by kernel_rfl) (fun _ _ _ h => h) (Or.inl ⟨by rfl, fun w' _ => by go_simp⟩) hS0 ?_
        simp only [Act.put, List.getElem_toArray, List.getElem_cons_zero, List.getElem_cons_succ, List.setIfInBounds_toArray, List.set_cons_zero, List.set_cons_succ]
        refine wpAnyH_ready (rs := [13]) (by kernel_rfl) (by simp) (AllReadyH.cons rfl (fun Kt hK => ?_) AllReadyH.nil)
        refine wanted_pos rfl ?_
        refine wp_store1 rfl (by rfl) (by rfl) (u := vl) HVL.out HZ.out (hK.out _ _ ?_ (fun _ => ?_))
        · exact ⟨rfl, rfl, rfl, by simp, fun k hk hne => Below.heap_setCell _ _ _ _ (fun e => hne (by rw [e]))⟩
        clear hK Kt
        refine wpAnyH_done (by kernel_rfl) ?_ _
        refine NoPanic.normal ?_
        have hDd : RDk wr.drew r la na cl cn (some ⟨la, 0, none⟩) (some ⟨na, 0, none⟩) (D1.syp i) G := HDp.out.same (Nat.le_refl _) (fun _ _ => rfl)
        have hD2 := hDd.setl (i := i) (v := .slice (some ⟨g, 0, none⟩) 64 c) (G' := G) hlt (fun _ h => h) hDd.gl HSec.out (HS.out.same (fun _ _ _ => rfl))
        have hK2 : Kp (X3 r la na) W1 (wr.drew.setCell ⟨la, i, none⟩ (.slice (some ⟨g, 0, none⟩) 64 c)) := (HKp.out.grow (K.drew (Below.refl _ wr))).setCell (p := ⟨la, i, none⟩) (Or.inr (X3_of.2 (Or.inr (Or.inl rfl)))) _
        have hNN : ∃ vv, (wr.drew.setCell ⟨la, i, none⟩ (.slice (some ⟨g, 0, none⟩) 64 c)).cell? ⟨na, i, none⟩ = some vv := (hD2.nv i hlt).imp fun _ h => h.1
        obtain ⟨vv, hvv⟩ := hNN
        generalize wr.drew.setCell ⟨la, i, none⟩ (.slice (some ⟨g, 0, none⟩) 64 c) = W7 at hD2 hK2 hvv ⊢
        have d1 : W7.cell? ⟨r, 1, none⟩ = some (.slice (some ⟨na, 0, none⟩) D1.n cn) := hD2.c1
        have dz : W7.frozen? ⟨na, i, none⟩ = false := hD2.nz i hlt
        have HD2 := hide hD2
        have HK2 := hide hK2
        clear hD2 hK2 hDd hS0 HC0 HC1 HCN HVL HZ hlt h0 h1 hvn
        simp only [Act.put, List.getElem_toArray, List.getElem_cons_zero, List.getElem_cons_succ]
        go_wp2_with fail
        go_roundg (D1.n - (i + 1))
        case measure => have := HP.out.1; omega
        case rel =>
          have hD3 := HD2.out.setn (i := i) (v := .slice none 0 0) (nv := none) (G' := G) HP.out.1 (fun _ h => h) HD2.out.gl (Or.inl ⟨rfl, rfl⟩)
          exact ⟨i + 1, rfl, HP.out.1, by rw [hw], by rw [← DM.syp_some e0]; exact hD3, HK2.out.setCell (p := ⟨na, i, none⟩) (Or.inr (X3_of.2 (Or.inr (Or.inr rfl)))) _⟩
    · obtain rfl : i = D1.n := by omega
      clear hlt hp hn4
      go_wp2_with fail
      go_ret
      rw [HE1.out, ← DM.syp_end HD1.out.ok]
      exact ⟨rfl, G, HDp.out, HK1.out.trans HKp.out, fun k hk => Or.inl hk⟩
end Go.Proofs.Ytjgpopjpmfkfmaa
