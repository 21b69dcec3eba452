/- Layer 13: the program's Crash, walked. -/
import Derived.Test.YtpophfeommlajaaMP19
namespace Go.Proofs.Ytpophfeommlajaa
set_option maxRecDepth 100000
open Go.RowKit Go.Maps
attribute [local go_sem ↓] Go.wp_at_zero Go.wp_at_succ

theorem wp_let {P : Program} {c : Code} {Q : Exit → Act → World → Prop} {a : Act} {w : World} (h : ∀ X, X = w → Code.wp P c Q a X) : Code.wp P c Q a w := h w rfl
/-- While a crash goes on. -/
def CrR (W wr : World) (b lb mb : Nat) (D : DM) (K : List Bool) (t at_ : Int) (p : Nat) : Prop := Dsk wr b lb mb (D.crp K t at_ p) ∧ Kp (X3 b lb mb) W wr
def CrP (w : World) (b lb mb : Nat) (D : DM) (e : Ending) (w' : World) : Prop := (∃ v, e = .returned v) ∧ Dsk w' b lb mb D ∧ Kp (X3 b lb mb) w w'
set_option maxRecDepth 100000 in
set_option maxHeartbeats 8000000 in
theorem crash_any {w : World} {b lb mb : Nat} {D : DM} (h : Dsk w b lb mb D) {z : Option Addr} {KL : List Bool} {c : Nat} (hK : Kb w z KL) (hz : KL ≠ [] → ∀ p, z = some p → X3 b lb mb p.block = false) (t at_ : Int) :
    Calls Try.prog 16 #[pp b, .agg #[.slice z KL.length c, .int .i64 t, .int .i64 at_]] w (CrP w b lb mb (D.cr KL t at_)) := by
  have HD := hide h
  have HKb := hide hK
  have HZ := hide hz
  clear h hK hz
  go_enter Try.func16, Try.ntmps16
  go_upto_region 2 with fail
  refine wp_let (fun W1 hW1 => ?_)
  obtain ⟨fb, hfb⟩ : ∃ fb, fb = w.heap.size := ⟨_, rfl⟩
  rw [← hfb]
  have HB1 : Hid (Below w.heap.size w W1) := by show Below _ _ _; rw [hW1]; exact K.alloc (Below.refl _ _) _
  have HF1 : Hid (W1.rangeAt fb 0 [.slice z KL.length c, .int .i64 t, .int .i64 at_] ∧ fb < W1.heap.size ∧ w.heap.size ≤ fb) := by
    have hh : W1.heap[fb]? = some (.cells #[.slice z KL.length c, .int .i64 t, .int .i64 at_] 51) := by rw [hW1, hfb]; exact heap_alloc_new w _
    refine ⟨fun j v hv => ?_, (Array.getElem?_eq_some_iff.1 hh).1, by omega⟩
    unfold World.cell?
    simp only [hh, Nat.zero_add]
    simpa using hv
  clear hW1 hfb
  have HD1 := hide (HD.out.keep HB1.out)
  have h1 := HD1.out.c1
  go_wp2_with (first
    | (go_at_call 51; refine Calls.mono (keys_call _ _) ?_; rintro e W2 ⟨rfl, rfl⟩)
    | (go_at_call 50; refine Calls.mono (sorted_call HD1.out.mp HD1.out.ok.n) ?_; rintro e W3 ⟨v, rfl, hrow, hB3⟩; obtain ⟨zk, ck, gk, rfl, hks⟩ := row_ints hrow; replace hks := hide hks; replace hB3 := hide hB3; clear hrow))
  obtain ⟨m, hm⟩ : ∃ m, m = (wrs D.n D.nw).length := ⟨_, rfl⟩
  have hsz : (W1.alloc (.cells #[.map (some mb)] 57)).heap.size = W1.heap.size + 1 := by simp
  have HB3 : Hid (Below W1.heap.size W1 W3) := (K.alloc (Below.refl _ W1) _).trans (hB3.out.mono (by rw [hsz]; omega))
  have HM : Hid (m = (wrs D.n D.nw).length ∧ m ≤ 4096) := ⟨hm, by have := wrs_le D.n D.nw; have := HD1.out.ok.n; omega⟩
  have HKS : Hid (0 < m → zk = some ⟨gk, 0, none⟩ ∧ W1.heap.size + 1 ≤ gk ∧ gk < W3.heap.size ∧ ∀ (p i : Nat), (wrs D.n D.nw)[p]? = some i → W3.cell? ⟨gk, p, none⟩ = some (.int .i64 (i : Int))) := fun h0 => by
    obtain ⟨k1, k2, k3, k4⟩ := hks.out (by omega)
    rw [hsz] at k2
    exact ⟨k1, k2, k3, fun p i hi => by
      rw [k4 p (List.getElem?_eq_some_iff.1 hi).1, List.getElem?_map, hi]
      rfl⟩
  have HD3 := hide (HD1.out.keep HB3.out)
  have HF3 : Hid (W3.rangeAt fb 0 [.slice z KL.length c, .int .i64 t, .int .i64 at_] ∧ fb < W3.heap.size ∧ X3 b lb mb fb = false) := ⟨fun j v hv => later HB3.out (HF1.out.1 j v hv), Nat.lt_of_lt_of_le HF1.out.2.1 HB3.out.size, by
    cases hx : X3 b lb mb fb with
    | false => rfl
    | true =>
      have h1 := HF1.out.2.2
      rcases X3_of.1 hx with e | e | e
      · have := HD.out.bl; omega
      · have := HD.out.ll; omega
      · have := HD.out.mp.lt; omega⟩
  have HKb3 := hide ((HKb.out.keep HB1.out).keep HB3.out)
  have HX : Hid (b < W1.heap.size ∧ lb < W1.heap.size ∧ mb < W1.heap.size) := ⟨HD1.out.bl, HD1.out.ll, HD1.out.mp.lt⟩
  have HK3 : Hid (Kp (X3 b lb mb) w W3) := (Kp.of HB1.out).grow HB3.out
  rw [← hm]
  clear hm hks hB3 HB3 HB1 HF1 HD1 HD HKb h1 hsz
  go_loopg [16] m (fun g' s16 wr => ∃ p : Nat, g' = m - p ∧ p ≤ m ∧ s16 = .int .i64 (p : Int) ∧ CrR W3 wr b lb mb D KL t at_ p)
  case atStart => exact ⟨0, rfl, Nat.zero_le _, rfl, by rw [DM.crp_zero]; exact HD3.out, Kp.refl _ _⟩
  case round =>
    obtain ⟨p, rfl, hp, rfl, hDp, hKp⟩ := hrel
    have HDp := hide hDp
    have HKp := hide hKp
    clear hDp hKp
    by_cases hlt : p < m
    · obtain ⟨i, hi⟩ : ∃ i, (wrs D.n D.nw)[p]? = some i := ⟨_, List.getElem?_eq_getElem (by have := HM.out.1; omega)⟩
      obtain ⟨rfl, hg1, hg2, hkc⟩ := HKS.out (by omega)
      obtain ⟨hin, his, _⟩ := wrs_rk hi
      obtain ⟨s, hs⟩ := Option.isSome_iff_exists.1 his
      have hgx : X3 b lb mb gk = false := by
        cases hx : X3 b lb mb gk with
        | false => rfl
        | true =>
          have hh := HX.out
          rcases X3_of.1 hx with e | e | e <;> omega
      have hci : wr.cell? ⟨gk, p, none⟩ = some (.int .i64 (i : Int)) := (HKp.out.cell (p := ⟨gk, p, none⟩) hg2 hgx).trans (hkc p i hi)
      have h1 := HDp.out.c1
      have hlt' : (p : Int) < (m : Int) := by omega
      have hin' : (i : Int) < (D.n : Int) := by omega
      have HL : Hid (sec s) := (HDp.out.ok.nw i s hs).2
      have hi4 : i < 4096 := Nat.lt_of_lt_of_le hin HDp.out.ok.n
      have HI := hide (And.intro hi (And.intro hs (And.intro hin hi4)))
      have HP := hide (And.intro hlt hp)
      clear hi hs his hg1 hg2 hkc hgx hlt hp
      go_wp2_with (first
        | (refine wpList_look_sec rfl _ _ false rfl HDp.out.mp (by rfl) (by rfl) HI.out.2.2.2 ?_; rw [if_neg (by decide), show (D.crp KL t at_ p).nw i = some s from HI.out.2.1, Option.getD_some])
        | (refine wpList_alloc_sec rfl rfl ?_; intro W4 V4)
        | (refine wpList_store_sec rfl _ _ rfl (by rfl) (by rfl) HL.out V4.t ?_; intro W5 hW5; have V5 := V4.put HL.out hW5.out; clear hW5))
      have hD5 := HDp.out.keep V5.bl
      have hK5 := HKp.out.grow V5.bl
      have HC0 : Hid (∀ w' : World, W5.grownBy w' (some lb) → w'.cell? ⟨b, 0, none⟩ = some (.slice (some ⟨lb, 0, none⟩) D.n D.n)) := fun w' hg => (World.cell?_of_block (w := W5) (hg.block b hD5.bl (fun e => hD5.n1 (Option.some.inj e)))).trans hD5.c0
      have hfl : fb < W5.heap.size := Nat.lt_of_lt_of_le HF3.out.2.1 hK5.size
      have hfn : fb ≠ lb := fun e => by
        have := HF3.out.2.2
        rw [X3_of.2 (Or.inr (Or.inl e))] at this
        cases this
      have HCF : Hid (∀ w' : World, W5.grownBy w' (some lb) → w'.rangeAt fb 0 [.slice z KL.length c, .int .i64 t, .int .i64 at_]) := fun w' hg j v hv => (World.cell?_of_block (w := W5) (hg.block fb hfl (fun e => hfn (Option.some.inj e)))).trans ((hK5.cell (p := ⟨fb, 0 + j, none⟩) HF3.out.2.1 HF3.out.2.2).trans (HF3.out.1 j v hv))
      have HKb5 : Hid (Kb W5.drew z KL) := by
        by_cases e0 : KL = []
        · exact Or.inl e0
        rcases HKb3.out with e | ⟨kb, ko, e, hr⟩
        · exact Or.inl e
        · exact Or.inr ⟨kb, ko, e, fun j v hv => (hK5.cell (p := ⟨kb, ko + j, none⟩) (World.block_lt_of_cell? W3 _ (hr j v hv)) (HZ.out e0 ⟨kb, ko, none⟩ e)).trans (hr j v hv)⟩
      clear hfl hfn
      refine wp_region_noPanic ?_
      refine wp_region_held_drew (S := fun w' => W5.grownBy w' (some lb)) (by kernel_rfl) ⟨rfl, rfl, rfl, Nat.le_refl _, fun _ _ _ => rfl⟩ (fun hS0 => ?_)
      refine wpAnyH_take (i := 0) (v := pp b) rfl (by kernel_rfl) (by kernel_rfl) (by kernel_rfl) (fun _ _ _ h => h) (Or.inl ⟨by rfl, fun w' _ => by go_simp⟩) hS0 ?_
      simp only [Act.put, List.getElem_toArray, List.getElem_cons_zero, List.setIfInBounds_toArray, List.set_cons_zero, List.set_cons_succ]
      refine wpAnyH_take (i := 1) (v := pp b) rfl (by kernel_rfl) (by kernel_rfl) (by kernel_rfl) (fun _ _ _ h => h) (Or.inl ⟨by rfl, fun w' _ => by go_simp⟩) hS0 ?_
      simp only [Act.put, List.getElem_toArray, List.getElem_cons_zero, List.getElem_cons_succ, List.setIfInBounds_toArray, List.set_cons_zero, List.set_cons_succ]
      refine wpAnyH_take (i := 2) (v := pp b) rfl (by kernel_rfl) (by kernel_rfl) (by kernel_rfl) (fun _ _ _ h => h) (Or.inl ⟨by rfl, fun w' _ => by go_simp⟩) hS0 ?_
      simp only [Act.put, List.getElem_toArray, List.getElem_cons_zero, List.getElem_cons_succ, List.setIfInBounds_toArray, List.set_cons_zero, List.set_cons_succ]
      refine wpAnyH_take (i := 3) (v := .slice (some ⟨lb, 0, none⟩) D.n D.n) rfl (by kernel_rfl) (by kernel_rfl) (by kernel_rfl) (fun _ _ _ h => h) (Or.inl ⟨by rfl, fun w' hS => by have hc := HC0.out _ hS; go_simp⟩) hS0 ?_
      simp only [Act.put, List.getElem_toArray, List.getElem_cons_zero, List.getElem_cons_succ, List.setIfInBounds_toArray, List.set_cons_zero, List.set_cons_succ]
      refine wpAnyH_take (i := 4) (v := .int .i64 (i : Int)) rfl (by kernel_rfl) (by kernel_rfl) (by kernel_rfl) (fun _ _ _ h => h) (Or.inl ⟨by rfl, fun w' _ => by go_simp⟩) hS0 ?_
      simp only [Act.put, List.getElem_toArray, List.getElem_cons_zero, List.getElem_cons_succ, List.setIfInBounds_toArray, List.set_cons_zero, List.set_cons_succ]
      refine wpAnyH_take (i := 5) (v := .pointer (some ⟨lb, i * 64, none⟩)) rfl (by kernel_rfl) (by kernel_rfl) (by kernel_rfl) (fun _ _ _ h => h) (Or.inl ⟨by rfl, fun w' _ => by go_simp⟩) hS0 ?_
      simp only [Act.put, List.getElem_toArray, List.getElem_cons_zero, List.getElem_cons_succ, List.setIfInBounds_toArray, List.set_cons_zero, List.set_cons_succ]
      refine wpAnyH_take (i := 6) (v := .slice (some ⟨lb, i * 64, none⟩) 64 64) rfl (by kernel_rfl) (by kernel_rfl) (by kernel_rfl) (fun _ _ _ h => h) (Or.inl ⟨by rfl, fun w' _ => by go_simp⟩) hS0 ?_
      simp only [Act.put, List.getElem_toArray, List.getElem_cons_zero, List.getElem_cons_succ, List.setIfInBounds_toArray, List.set_cons_zero, List.set_cons_succ]
      refine wpAnyH_take (i := 7) (v := .agg #[.slice z KL.length c, .int .i64 t, .int .i64 at_]) rfl (by kernel_rfl) (by kernel_rfl) (by kernel_rfl) (fun _ _ _ h => h) (yieldsIf_load_mid (by rfl) 51 _ rfl fb 0 (by rfl) ([.slice z KL.length c, .int .i64 t, .int .i64 at_]) _ (fun w' hS => HCF.out _ hS) Try.underlying51 rfl (by kernel_rfl)) hS0 ?_
      simp only [Act.put, List.getElem_toArray, List.getElem_cons_zero, List.getElem_cons_succ, List.setIfInBounds_toArray, List.set_cons_zero, List.set_cons_succ]
      refine wpAnyH_take (i := 8) (v := .int .i64 (p : Int)) rfl (by kernel_rfl) (by kernel_rfl) (by kernel_rfl) (fun _ _ _ h => h) (Or.inl ⟨by rfl, fun w' _ => by go_simp⟩) hS0 ?_
      simp only [Act.put, List.getElem_toArray, List.getElem_cons_zero, List.getElem_cons_succ, List.setIfInBounds_toArray, List.set_cons_zero, List.set_cons_succ]
      refine wpAnyH_ready (rs := [9]) (by kernel_rfl) (by simp) (AllReadyH.cons rfl (fun Kt hK => ?_) AllReadyH.nil)
      refine wanted_pos rfl ?_
      refine wp_call (R := fun r w' => r = .int .i64 (lv KL t at_ p : Int) ∧ Below W5.drew.heap.size W5.drew w') (vs := #[.agg #[.slice z KL.length c, .int .i64 t, .int .i64 at_], .int .i64 (p : Int)]) rfl (by simp only [List.map_toArray, List.map_cons, List.map_nil]; rfl) (by go_simp) (Calls.mono (leaves_any HKb5.out t at_ p) (fun e w' ⟨he, hb⟩ => ⟨_, he, rfl, hb⟩)) (fun r W6 ⟨hr, hb6⟩ => ?_)
      subst hr
      have hS6 : W5.grownBy W6 (some lb) := ⟨hb6.os, hb6.tape, hb6.output, hb6.size, fun k hk _ => hb6.block k hk⟩
      refine hK.out _ _ hS6 (fun _ => ?_)
      clear hK Kt
      simp only [Act.put, List.getElem_toArray, List.getElem_cons_zero, List.getElem_cons_succ, List.setIfInBounds_toArray, List.set_cons_zero, List.set_cons_succ]
      have hle := lv_le KL t at_ p
      refine wpAnyH_take (i := 10) (v := .slice (some ⟨wr.heap.size, 0, none⟩) (lv KL t at_ p) 64) rfl (by kernel_rfl) (by kernel_rfl) (by kernel_rfl) (fun _ _ _ h => h) (Or.inl ⟨by rfl, fun w' _ => by have hc := run_head_sec (w := w') (g := wr.heap.size) hle; go_simp⟩) hS6 ?_
      simp only [Act.put, List.getElem_toArray, List.getElem_cons_zero, List.getElem_cons_succ, List.setIfInBounds_toArray, List.set_cons_zero, List.set_cons_succ]
      refine wpAnyH_ready (rs := [11]) (by kernel_rfl) (by simp) (AllReadyH.cons rfl (fun Kt hK => ?_) AllReadyH.nil)
      refine wanted_pos rfl ?_
      have hD6 := (hD5.keep (K.drew (Below.refl _ W5))).keep hb6
      have hr6 : W6.rangeAt wr.heap.size 0 (cells8 s) := fun j v hv => (World.cell?_of_block (w := W5.drew) (hb6.block _ V5.lt)).trans (V5.r j v hv)
      refine wp_copy_row _ _ rfl (by rfl) (by rfl) HL.out hle (by
        intro j hj
        have := hD6.th (i * 64 + j) (by have := HI.out.2.2.1; show _ < D.n * 64; omega)
        rwa [Nat.zero_add] at this) hr6 (hK.out _ _ (grown_tr hS6 (grown_set64 lb _ _ W6)) (fun _ => ?_))
      clear hK Kt
      refine wpAnyH_done (by kernel_rfl) ?_ _
      refine NoPanic.normal ?_
      have hD7 := hD6.rowk (i := i) HI.out.2.2.1 HL.out (lv KL t at_ p)
      have hK7 : Kp (X3 b lb mb) W3 (W6.setCells lb (i * 64) (cells8 (s.take (lv KL t at_ p)))) := ((hK5.grow (K.drew (Below.refl _ W5))).grow hb6).trans (kp_row _ _)
      rw [DM.crp_succ HD3.out.ok KL t at_ HI.out.1 HI.out.2.1] at hD7
      have HD7 := hide hD7
      have HK7 := hide hK7
      have HPp := hide HP.out.1
      clear hD7 hK7 hD5 hK5 hD6 hb6 hr6 hS6 V4 V5 HC0 HCF HKb5 HDp HKp hS0 hle h1 hci
      generalize W6.setCells lb (i * 64) (cells8 (s.take (lv KL t at_ p))) = W7 at HD7 HK7 ⊢
      simp only [Act.put, List.getElem_toArray, List.getElem_cons_zero, List.getElem_cons_succ, List.setIfInBounds_toArray, List.set_cons_zero, List.set_cons_succ]
      go_wp2_with fail
      go_roundg (m - (p + 1))
      case measure => have := HPp.out; omega
      case rel =>
        have h1 := HPp.out
        have h2 := HM.out.2
        have hw : wrap64 ((p : Int) + 1) = ((p + 1 : Nat) : Int) := by unfold wrap64; omega
        exact ⟨p + 1, rfl, h1, by rw [hw], HD7.out, HK7.out⟩
    · obtain rfl : p = m := by omega
      have h1 := HDp.out.c1
      have HMe := HM.out.1
      go_wp2_with (refine wpList_clear_sec rfl _ rfl HDp.out.mp (by rfl) ?_; intro W4 hM4 hg4; have hD4 := HDp.out.mapd hM4 hg4 (fun _ _ hh => by cases hh); have c2 := hD4.c2; have c3 := hD4.c3; have c4 := hD4.c4; have z2 := hD4.z 2 (by omega); have z3 := hD4.z 3 (by omega); have z4 := hD4.z 4 (by omega); have c0 := hD4.c0; have c1 := hD4.c1; replace hD4 := hide hD4; replace hg4 := hide hg4; clear hM4)
      have e : D.cr KL t at_ = ⟨D.n, (D.crp KL t at_ p).la, fun _ => none, none, false⟩ := by
        rw [HMe, DM.crp_end HD3.out.ok]
        rfl
      rw [e]
      refine bodyPost_end (by simp [results, Try.results16]; rfl) rfl ⟨⟨_, rfl⟩, hD4.out.head (by simp) (fun k hk _ => ((Below.heap_setCell _ _ _ _ hk).trans (Below.heap_setCell _ _ _ _ hk)).trans (Below.heap_setCell _ _ _ _ hk)) (fun i => ((World.frozen?_setCell _ _ _ _).trans (World.frozen?_setCell _ _ _ _)).trans (World.frozen?_setCell _ _ _ _)) ?_ ?_ ?_ ?_ ?_ rfl rfl rfl (fun j hj => by cases hj), ((((HK3.out.trans HKp.out).trans (kp_map hg4.out)).trans (kp_set _ _)).trans (kp_set _ _)).trans (kp_set _ _)⟩
      all_goals simp [go_sem, *]
end Go.Proofs.Ytpophfeommlajaa
