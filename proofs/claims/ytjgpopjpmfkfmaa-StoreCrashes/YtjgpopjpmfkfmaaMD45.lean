/- Layer 15: the law of crashes. -/
import Derived.Test.YtjgpopjpmfkfmaaMD44
namespace Go.Proofs.Ytjgpopjpmfkfmaa
open Go.RowKit Go.Maps
attribute [local go_sem ↓] Go.wp_at_zero Go.wp_at_succ

theorem own_ne {W : World} {b1 b2 n1 n2 : Nat} {v1 v2 : Value} {xs ys : List Value} (h1 : W.ownsRow b1 38 1 v1 n1 xs) (h2 : W.ownsRow b2 5 1 v2 n2 ys) : ∀ g, v1.ownBlock = some g → v2.ownBlock ≠ some g := fun g e1 e2 => by
  rcases h1.2 with ⟨rfl, _⟩ | ⟨g1, c1, k1, rfl, _, q1, _⟩
  · cases e1
  · rcases h2.2 with ⟨rfl, _⟩ | ⟨g2, c2, k2, rfl, _, q2, _⟩
    · cases e2
    · cases e1
      cases e2
      rw [q1] at q2
      cases q2
theorem own_grown {W W' : World} {b1 n1 : Nat} {t : TypeId} {v1 : Value} {xs : List Value} {row : Option Nat} (h1 : W.ownsRow b1 t 1 v1 n1 xs) (hG : W.grownBy W' row) (hne : ∀ g, v1.ownBlock = some g → row ≠ some g) : W'.ownsRow b1 t 1 v1 n1 xs :=
  own_block h1 (fun g hg => hG.block g (h1.lt g hg).2 (fun e => hne g hg e.symm))
theorem fin11 {w U U4 U5 : World} {O' : Nat → Bool} {vM v62 v68 : Value} {M : List (List Nat)} {cM : List Value} (hL : Lst U w.heap.size O' vM M cM) (hO : ∀ k, O' k = true → k < U.heap.size) (hw : w.heap.size ≤ U.heap.size) (hB4 : Below U.heap.size U U4) (h62 : U4.ownsRow U.heap.size 38 1 v62 M.length cM) {z66 : Option Addr} {m c66 : Nat} {f : Nat → Nat} (h66 : U4.ownsRow U.heap.size 5 1 (.slice z66 m c66) m (cells8 (fl f m))) (hf : ∀ i, f i < 256) {o : Obj}
    (ho : U5.ownsRow U.heap.size 38 1 v68 (M.length + 1) (cM ++ [.slice z66 m c66])) (hG : (U4.alloc o).grownBy U5 v62.ownBlock) (hat : v68.ownBlock = v62.ownBlock ∨ v68.ownBlock = some (U4.alloc o).heap.size) : Lst U5 w.heap.size O' v68 (M ++ [fl f m]) (cM ++ [.slice z66 m c66]) ∧ Below U.heap.size U U5 := by
  have hBo : Below U.heap.size U (U4.alloc o) := hB4.trans ((K.alloc (Below.refl _ U4) o).mono hB4.size)
  have hB5 : Below U.heap.size U U5 := hBo.grown hG hBo.size (fun k hk => (h62.lt k hk).1)
  have hcl : cM.length = M.length := by have := hL.o.1; omega
  refine ⟨⟨?_, fun g hg => ?_, fun j l hl => ?_⟩, hB5⟩
  · have h1 := (show (M ++ [fl f m]).length = M.length + 1 by rw [List.length_append]; rfl)
    rw [h1]
    refine ⟨ho.1, ?_⟩
    rcases ho.2 with h0 | ⟨g, cap, cur, e, hg, r⟩
    · exact Or.inl h0
    · exact Or.inr ⟨g, cap, cur, e, Nat.le_trans hw hg, r⟩
  · cases hq : O' g with
    | false => rfl
    | true => have := hO g hq; have := (ho.lt g hg).1; omega
  · by_cases hj : j < M.length
    · rw [List.getElem?_append_left hj] at hl
      obtain ⟨x1, m1, c1, f1, h1, h2, h3, h4⟩ := hL.e j l hl
      refine ⟨x1, m1, c1, f1, by rw [List.getElem?_append_left (by omega)]; exact h1, h2.keep hB5, h3, fun h0 p hp => ⟨(h4 h0 p hp).1, fun e => ?_⟩⟩
      obtain ⟨b1, o1, e1, hlt⟩ := ba_lt h2 h0
      rw [hp] at e1
      cases e1
      have h7 := (ho.lt b1 e).1
      omega
    · have hj2 : j = M.length := by
        have := (List.getElem?_eq_some_iff.1 hl).1
        rw [List.length_append] at this
        simp at this
        omega
      subst hj2
      rw [List.getElem?_append_right (Nat.le_refl _), Nat.sub_self] at hl
      have hl : some (fl f m) = some l := hl
      cases hl
      have hba : BA (U4.alloc o) z66 m f := (own_ba h66 hf).keep (K.alloc (Below.refl _ U4) o)
      have hne : ∀ g, (Value.slice z66 m c66).ownBlock = some g → v62.ownBlock ≠ some g := fun g e1 e2 => own_ne h62 h66 g e2 e1
      have hob : ∀ p, 0 < m → z66 = some p → (Value.slice z66 m c66).ownBlock = some p.block := fun p _ hp => by rw [hp]; rfl
      refine ⟨z66, m, c66, f, by rw [← hcl, List.getElem?_append_right (Nat.le_refl _), Nat.sub_self]; rfl, ba_same hba (fun h0 p hp hlt => hG.block _ hlt (fun e => hne _ (hob p h0 hp) e.symm)), rfl, fun h0 p hp => ⟨?_, fun e => ?_⟩⟩
      · cases hq : O' p.block with
        | false => rfl
        | true => have := hO _ hq; have := (h66.lt _ (hob p h0 hp)).1; omega
      · rcases hat with e2 | e2
        · exact hne _ (hob p h0 hp) (e2.symm.trans e)
        · rw [e2] at e
          have h7 := (h66.lt _ (hob p h0 hp)).2
          have h8 := Option.some.inj e
          have h9 := (K.alloc (Below.refl _ U4) o).size
          omega
theorem own_keepT {W W' : World} {B b1 n1 : Nat} {t : TypeId} {v1 : Value} {xs : List Value} (h1 : W.ownsRow b1 t 1 v1 n1 xs) (hB : Below B W W') (hs : W.heap.size ≤ B := by exact Nat.le_refl _) : W'.ownsRow b1 t 1 v1 n1 xs := own_block h1 (fun g hg => hB.block g (Nat.lt_of_lt_of_le (h1.lt g hg).2 hs))
theorem own0L (U : World) {B : Nat} (h : B ≤ U.heap.size) : (U.alloc (.cells #[] 38)).ownsRow B 38 1 (.slice (some ⟨U.heap.size, 0, none⟩) 0 0) 0 [] := World.ownsRow_made U #[] 0 h (by decide) rfl
/-- Behind the wreck of a script's call: the next round. -/
def CrJ (w : World) (b lb mb n : Nat) (g' : Nat) (s7 s9 s10 s11 : Value) (wr : World) : Prop := ∃ (i t : Nat) (O : Nat → Bool) (S M : List (List Nat)) (cS cM : List Value) (s : SM), g' = n - i ∧ i ≤ n ∧ s7 = pp t ∧ s11 = .int .i64 (i : Int) ∧ CrW w wr b lb mb t O s9 s10 S M cS cM s
theorem CrW.fresh {w W4 W3 : World} {b lb mb t : Nat} {s : SM} (hP : PW W4 b lb mb t (grow (X3 b lb mb) W3 W4) (X3 b lb mb) s) (hk : s.K = []) (hw : s.W = []) (hA : WkA 100 s.D [] []) (hX : ∀ k, X3 b lb mb k = true → w.heap.size ≤ k) (hB3 : Below w.heap.size w W3) (hK : Kp (X3 b lb mb) W3 W4) : CrW w W4 b lb mb t (grow (X3 b lb mb) W3 W4) (.slice none 0 0) (.slice none 0 0) [] [] [] [] s :=
  ⟨hP, ⟨hk, by rw [hk, hw]; rfl, Or.inl hA⟩, Lst.nil _ _ _, Lst.nil _ _ _, fun k hk => by
    rcases grow_of.1 hk with e | e
    · exact hX k e
    · exact Nat.le_trans hB3.size e.1, kp_below hB3 hK hX⟩
theorem fresh_wk {n : Nat} (h3 : 3 ≤ n) (h4 : n ≤ 4096) : WkA n ((DM.new n).mendD 0) [] [] := by
  have hP : Pst n (DM.new n) [] [] := ⟨rfl, new_calm n, ⟨show 0 + 2 < n by omega, fun _ _ => rfl, Or.inl ⟨mkv_nil.symm, mkv_nil.symm⟩⟩, trivial, trivial, by show 0 + 3 ≤ n; omega, by show 0 + 3 ≤ n; omega⟩
  obtain ⟨Z, hz, h5, _⟩ := hP.open_ok h4 (new_open h3 h4).1
  rcases hz with e | e <;> rw [e] at h5 <;> exact h5
set_option maxRecDepth 100000 in
set_option maxHeartbeats 16000000 in
theorem storeCrashes_any {z : Option Addr} {n c : Nat} {O : Nat → OpV} {zw : Option Addr} {nw cw : Nat} {fw : Nat → Nat} (w : World) (h : OpsAt w z n O) (hw : BA w zw nw fw) : Calls Try.prog 4 #[.slice z n c, .slice zw nw cw] w (OkT w) := by
  have HO := hide h
  have HW := hide hw
  clear h hw
  have HFw : Hid (∀ (r : Bool), (r = true ↔ fewO n O) → ∀ W, Below w.heap.size w W → Calls Try.prog 9 #[.slice z n c, .int .i64 40] W (FeP W r)) := fun r hr W hB => few_n (HO.out.keep hB) hr
  by_cases hfe : fewO n O
  · have HF1 := hide (HFw.out true ⟨fun _ => hfe, fun _ => rfl⟩)
    have hn40 := hfe.1
    have HFe := hide hfe
    clear hfe HFw
    by_cases hnw : 10 < nw
    · have hnw' : (10 : Int) < (nw : Int) := by omega
      go_enter Try.func4, Try.ntmps4
      go_upto_region 2 with (first
        | (go_at_call 8; refine Calls.mono (awake_n _) ?_; rintro e W1 ⟨rfl, hB1⟩; have HB1 := hide hB1; have HF2 := hide (HF1.out _ hB1); clear hB1)
        | (go_at_call 9; refine Calls.mono HF2.out ?_; rintro e W1 ⟨rfl, rfl⟩))
      go_wp2_with (go_at_call 8; refine Calls.mono (awake_n _) ?_; rintro e W2 ⟨rfl, hB2⟩; have HB2 := hide hB2; clear hB2)
      go_ret
      exact ⟨rfl, HB1.out.trans (HB2.out.mono HB1.out.size)⟩
    · have hnw' : ¬ ((10 : Int) < (nw : Int)) := by omega
      go_enter Try.func4, Try.ntmps4
      go_upto_region 3 with (first
        | (go_at_call 8; refine Calls.mono (awake_n _) ?_; rintro e W1 ⟨rfl, hB1⟩; have HB1 := hide hB1; have HF2 := hide (HF1.out _ hB1); clear hB1)
        | (go_at_call 9; refine Calls.mono HF2.out ?_; rintro e W1 ⟨rfl, rfl⟩))
      go_upto_region 4 with (go_at_call 10; refine Calls.mono (new_any (n := 100) (by omega) _) ?_; rintro e W3 ⟨b, lb, mb, rfl, hD, h1, h2, h3, hB⟩; have HD := hide hD; have HB3 := hide hB; have HG := hide (And.intro h1 (And.intro h2 h3)); clear hD hB h1 h2 h3)
      have HX : Hid (∀ k, X3 b lb mb k = true → w.heap.size ≤ k) := fun k hk => by
        rcases X3_of.1 hk with e | e | e
        · rw [e]; exact Nat.le_trans HB1.out.size HG.out.1
        · rw [e]; exact Nat.le_trans HB1.out.size HG.out.2.1
        · rw [e]; exact Nat.le_trans HB1.out.size HG.out.2.2
      have HB3w : Hid (Below w.heap.size w W3) := HB1.out.trans (HB3.out.mono HB1.out.size)
      have HFo := hide (open_yes HD.out (new_open (n := 100) (by omega) (by omega)).2.2.2.1)
      go_upto_region 5 with (go_at_call 12; refine Calls.mono HFo.out ?_; rintro e W4 ⟨t, rfl, hP, hK⟩; have HP := hide hP; have HK4 := hide hK; clear hP hK)
      have HI0 : Hid (CrW w W4 b lb mb t (grow (X3 b lb mb) W3 W4) (.slice none 0 0) (.slice none 0 0) [] [] [] [] ⟨(DM.new 100).mendD 0, (DM.new 100).opL, [], false⟩) := CrW.fresh HP.out (new_open (n := 100) (by omega) (by omega)).2.2.2.2.1 rfl (fresh_wk (by omega) (by omega)) HX.out HB3w.out HK4.out
      clear HF1 HF2 HFo HP HK4 HG HD HB3 HB1
      go_wp2_with fail
      go_loopg [7, 9, 10, 11] n (fun g' s7 s9 s10 s11 wr => CrJ w b lb mb n g' s7 s9 s10 s11 wr)
      case atStart => exact ⟨0, _, _, _, _, _, _, _, rfl, Nat.zero_le _, rfl, rfl, HI0.out⟩
      case round =>
        obtain ⟨i, t1, O1, S, M, cS, cM, s, rfl, hi, rfl, rfl, hI⟩ := hrel
        have HI := hide hI
        clear hI HI0
        by_cases hlt : i < n
        · have hlt' : (i : Int) < (n : Int) := by omega
          have hw1 : wrap64 ((i : Int) + 1) = (i : Int) + 1 := w63 (by omega) (by omega)
          obtain ⟨pb, po, hz, hpc⟩ := HO.out.cells' (by omega)
          subst hz
          have HPC := hide (hpc i hlt)
          have HOk := hide (HO.out.r i hlt)
          clear hpc
          go_upto_region 10 with (first
            | (refine wpList_load_op rfl _ rfl (by rfl) (fun j v hv => later HI.out.k (HPC.out j v hv)) ?_)
            | (refine wpList_alloc_op rfl rfl ?_; intro W5 hB5 hs5 ht5)
            | (refine wpList_store_op rfl _ _ rfl (by rfl) (by rfl) hB5 (Nat.le_refl _) (by omega) ht5 ?_; intro W6 V6; clear hB5 hs5 ht5))
          go_frame
          have HV := hide V6
          have HI6 := hide (HI.out.keep V6.bl)
          have HgO : Hid (O1 wr.heap.size = false) := by
            cases hq : O1 wr.heap.size with
            | false => rfl
            | true => have := HI.out.p.ol hq; exact absurd this (by omega)
          have HcK : Hid (∀ W, Kp O1 W6 W → ∀ j v, W6.cell? ⟨wr.heap.size, j, none⟩ = some v → W.cell? ⟨wr.heap.size, j, none⟩ = some v) := fun W hK j v hv => (hK.cell (p := ⟨wr.heap.size, j, none⟩) HV.out.lt HgO.out).trans hv
          have c0 := V6.r 0 _ rfl
          have c1 := V6.r 1 _ rfl
          have c2 := V6.r 2 _ rfl
          have c3 := V6.r 3 _ rfl
          have c4 := V6.r 4 _ rfl
          have c5 := V6.r 5 _ rfl
          simp only [Nat.zero_add] at c0 c1 c2 c3 c4 c5
          clear V6
          by_cases h1 : (O i).kd = 1
          · have k1 : ((O i).kd == 1) = true := by simp; omega
            have k2 : ((O i).kd == 2) = false := by simp; omega
            have k3 : ((O i).kd == 3) = false := by simp; omega
            have k4 : ((O i).kd != 4) = true := by simp; omega
            have HAp := hide (HI6.out.ap (c := (O i).c) HOk.out.b)
            obtain ⟨er, her⟩ : ∃ er, er = s.apE (fl (O i).f (O i).m) := ⟨_, rfl⟩
            rw [← her] at HAp
            clear her h1
            by_cases he : er = 0
            · have hq : (er == 0) = true := by simp [he]
              have HE := hide he
              clear he
              go_upto_region 11 with (go_at_call 15; refine Calls.mono HAp.out ?_; rintro e W7 ⟨O2, s2, rfl, hK7, _, h7⟩; have HS7 := hide (h7 HE.out); have d0 := HcK.out _ hK7 0 _ c0; have d2 := HcK.out _ hK7 2 _ c2; clear hK7 h7)
              clear c0 c1 c2 c3 c4 c5
              have HUB : Hid (Below W7.heap.size W7 W7.drew) := Go.Proofs.Ytjgpopjpmfkfmaa.K.drew (Below.refl _ _)
              have HUL : Hid (Lst W7.drew w.heap.size O2 u10 M cM) := HS7.out.2.2.2.1.keep HUB.out
              have HUk : Hid (Below w.heap.size w W7.drew) := HS7.out.2.2.2.2.2.trans (HUB.out.mono HS7.out.2.2.2.2.2.size)
              have HUO : Hid (∀ k, O2 k = true → k < W7.drew.heap.size) := fun k hk => HS7.out.1.ol hk
              have HMl : Hid (M.length ≤ 4096 ∧ 0 + M.length ≤ 1000000 ∧ M.length ≤ 100000 ∧ 0 + (O i).m ≤ 1000000) := by
                have h5 := HS7.out.2.1.w
                have h6 := HS7.out.1.ok.n
                have h7 := HS7.out.1.dsk.ok.n
                have h8 := tks_len (s2.K ++ s2.W)
                rw [tks_app] at h8
                rw [h5, List.length_append] at h8
                have h9 := (HFe.out.2 i hlt).1
                have h10 : [fl (O i).f (O i).m].length = 1 := rfl
                exact ⟨by omega, by omega, by omega, by omega⟩
              obtain ⟨x, m, cc, f, ex, em, ec, ef⟩ : ∃ x m cc f, x = (O i).x ∧ m = (O i).m ∧ cc = (O i).c ∧ f = (O i).f := ⟨_, _, _, _, rfl, rfl, rfl, rfl⟩
              have HBx : Hid (BA w x m f) := by have h5 := HOk.out.b; rw [← ex, ← em, ← ef] at h5; exact h5
              rw [← ex, ← em, ← ec] at d2
              rw [← em, ← ef] at HS7
              rw [← em] at HMl
              clear ex em ec ef
              obtain ⟨U, hU⟩ : ∃ U, U = W7.drew := ⟨_, rfl⟩
              have d2u : U.cell? ⟨wr.heap.size, 2, none⟩ = some (.slice x m cc) := by rw [hU]; exact d2
              have d0u : U.cell? ⟨wr.heap.size, 0, none⟩ = some (.int .i64 (O i).kd) := by rw [hU]; exact d0
              rw [← hU] at HUB HUL HUk HUO
              refine wp_region_noPanic ?_
              refine wp_region_held_drew (S := fun w' => w'.cell? ⟨wr.heap.size, 2, none⟩ = some (.slice x m cc)) (by kernel_rfl) d2 (fun hS0 => ?_)
              rw [← hU]
              rw [← hU] at hS0
              clear hU
              refine wpAnyH_take (i := 1) (v := u10) rfl (by kernel_rfl) (by kernel_rfl) (by kernel_rfl) (fun _ _ _ h => h) (Or.inl ⟨by rfl, fun w' _ => by go_simp⟩) hS0 ?_
              simp only [Act.put, List.getElem_toArray, List.getElem_cons_zero, List.getElem_cons_succ, List.setIfInBounds_toArray, List.set_cons_zero, List.set_cons_succ]
              refine wpAnyH_take (i := 4) (v := .pointer (some ⟨wr.heap.size, 2, none⟩)) rfl (by kernel_rfl) (by kernel_rfl) (by kernel_rfl) (fun _ _ _ h => h) (Or.inl ⟨by rfl, fun w' _ => by go_simp⟩) hS0 ?_
              simp only [Act.put, List.getElem_toArray, List.getElem_cons_zero, List.getElem_cons_succ, List.setIfInBounds_toArray, List.set_cons_zero, List.set_cons_succ]
              refine wpAnyH_take (i := 5) (v := .slice x m cc) rfl (by kernel_rfl) (by kernel_rfl) (by kernel_rfl) (fun _ _ _ h => h) (Or.inl ⟨by rfl, fun w' hS => by have hc := hS; go_simp⟩) hS0 ?_
              simp only [Act.put, List.getElem_toArray, List.getElem_cons_zero, List.getElem_cons_succ, List.setIfInBounds_toArray, List.set_cons_zero, List.set_cons_succ]
              have hS_U := d2u
              have BU_U : Hid (Below U.heap.size U U) := Below.refl _ _
              refine wpAnyH_ready (rs := [0, 3]) (by kernel_rfl) (by simp) (AllReadyH.cons rfl (fun Kt hK => ?_) (AllReadyH.cons rfl (fun Kt hK => ?_) AllReadyH.nil))
              · skip
                refine wanted_pos rfl ?_
                refine wp_build0L rfl (hK.out _ _ (later (K.alloc (Below.refl _ U) _) hS_U) (fun _ => ?_))
                clear hK Kt
                simp only [Act.put, List.getElem_toArray, List.getElem_cons_zero, List.setIfInBounds_toArray, List.set_cons_zero, List.set_cons_succ]
                obtain ⟨U1, hU1⟩ : ∃ U1, U1 = U.alloc (.cells #[] 38) := ⟨_, rfl⟩
                rw [← hU1]
                have B_U1 : Hid (Below U.heap.size U U1) := by rw [hU1]; exact K.alloc (Below.refl _ U) _
                have hS_U1 : U1.cell? ⟨wr.heap.size, 2, none⟩ = some (.slice x m cc) := later B_U1.out hS_U
                have BU_U1 : Hid (Below U.heap.size U U1) := BU_U.out.trans (B_U1.out.mono BU_U.out.size)
                have H60 : Hid (U1.ownsRow U.heap.size 38 1 (.slice (some ⟨U.heap.size, 0, none⟩) 0 0) 0 []) := by rw [hU1]; exact own0L U BU_U.out.size
                clear hU1
                refine wpAnyH_ready (rs := [2, 3]) (by kernel_rfl) (by simp) (AllReadyH.cons rfl (fun Kt hK => ?_) (AllReadyH.cons rfl (fun Kt hK => ?_) AllReadyH.nil))
                · skip
                  refine wanted_pos rfl ?_
                  have HMo : Hid (U1.ownsRow w.heap.size 38 1 u10 M.length cM) := own_keepT HUL.out.o BU_U1.out
                  refine wp_appL _ _ rfl (by rfl) H60.out (by rfl) HMo.out HUL.out.one HMl.out.2.1 BU_U1.out.size (fun v62 U2 ho hG hat => ?_)
                  have BU_U2 : Hid (Below U.heap.size U U2) := BU_U1.out.grown hG BU_U1.out.size (fun k hk => (H60.out.lt k hk).1)
                  have hS_U2 : U2.cell? ⟨wr.heap.size, 2, none⟩ = some (.slice x m cc) := later BU_U2.out d2u
                  rw [Nat.zero_add, List.nil_append] at ho
                  have H62 := hide ho
                  clear ho hG hat
                  refine hK.out _ _ hS_U2 (fun _ => ?_)
                  clear hK Kt
                  simp only [Act.put, List.getElem_toArray, List.getElem_cons_zero, List.getElem_cons_succ, List.setIfInBounds_toArray, List.set_cons_zero, List.set_cons_succ]
                  refine wpAnyH_ready (rs := [3]) (by kernel_rfl) (by simp) (AllReadyH.cons rfl (fun Kt hK => ?_) AllReadyH.nil)
                  refine wanted_pos rfl ?_
                  refine wp_build0B rfl (hK.out _ _ (later (K.alloc (Below.refl _ U2) _) hS_U2) (fun _ => ?_))
                  clear hK Kt
                  simp only [Act.put, List.getElem_toArray, List.getElem_cons_zero, List.getElem_cons_succ, List.setIfInBounds_toArray, List.set_cons_zero, List.set_cons_succ]
                  obtain ⟨U3, hU3⟩ : ∃ U3, U3 = U2.alloc (.cells #[] 5) := ⟨_, rfl⟩
                  rw [← hU3]
                  have B_U3 : Hid (Below U2.heap.size U2 U3) := by rw [hU3]; exact K.alloc (Below.refl _ U2) _
                  have hS_U3 : U3.cell? ⟨wr.heap.size, 2, none⟩ = some (.slice x m cc) := later B_U3.out hS_U2
                  have BU_U3 : Hid (Below U.heap.size U U3) := BU_U2.out.trans (B_U3.out.mono BU_U2.out.size)
                  have H63 : Hid (U3.ownsRow U.heap.size 5 1 (.slice (some ⟨U2.heap.size, 0, none⟩) 0 0) 0 (cells8 [])) := by rw [hU3]; exact own_empty U2 U.heap.size BU_U2.out.size
                  clear hU3
                  have H62b := hide (own_keepT H62.out B_U3.out)
                  refine wpAnyH_ready (rs := [6]) (by kernel_rfl) (by simp) (AllReadyH.cons rfl (fun Kt hK => ?_) AllReadyH.nil)
                  refine wanted_pos rfl ?_
                  refine wp_appB _ _ rfl (by rfl) H63.out (by rfl) (HBx.out.keep (HUk.out.trans (BU_U3.out.mono HUk.out.size))) HMl.out.2.2.2 BU_U3.out.size (fun v66 U4 ho hG => ?_)
                  have BU_U4 : Hid (Below U.heap.size U U4) := BU_U3.out.grown hG BU_U3.out.size (fun k hk => (H63.out.lt k hk).1)
                  have hS_U4 : U4.cell? ⟨wr.heap.size, 2, none⟩ = some (.slice x m cc) := later BU_U4.out d2u
                  have H62c := hide (own_grown H62b.out hG (fun g hg e => own_ne H62b.out H63.out g hg e))
                  rw [Nat.zero_add, List.nil_append] at ho
                  have H66 := hide ho
                  obtain ⟨z66, c66, e66, _, _⟩ := own_max ho
                  subst e66
                  clear ho hG
                  refine hK.out _ _ hS_U4 (fun _ => ?_)
                  clear hK Kt
                  simp only [Act.put, List.getElem_toArray, List.getElem_cons_zero, List.getElem_cons_succ, List.setIfInBounds_toArray, List.set_cons_zero, List.set_cons_succ]
                  refine wpAnyH_ready (rs := [7]) (by kernel_rfl) (by simp) (AllReadyH.cons rfl (fun Kt hK => ?_) AllReadyH.nil)
                  refine wanted_pos rfl ?_
                  refine wp_buildS rfl (by rfl) (hK.out _ _ (later (K.alloc (Below.refl _ U4) _) hS_U4) (fun _ => ?_))
                  clear hK Kt
                  simp only [Act.put, List.getElem_toArray, List.getElem_cons_zero, List.getElem_cons_succ, List.setIfInBounds_toArray, List.set_cons_zero, List.set_cons_succ]
                  refine wpAnyH_ready (rs := [8]) (by kernel_rfl) (by simp) (AllReadyH.cons rfl (fun Kt hK => ?_) AllReadyH.nil)
                  refine wanted_pos rfl ?_
                  refine wp_app1 (e := .slice z66 m c66) (q := U4.heap.size) (n := M.length) (xs := cM) _ _ rfl (by rfl) (own_keepT H62c.out (K.alloc (Below.refl _ U4) (.cells #[.slice z66 m c66] 38))) (by rfl) (Boxed.new U4 38 (.slice z66 m c66)).cell rfl HMl.out.2.2.1 (Nat.le_trans BU_U4.out.size (by simp)) (fun v68 U5 ho hG hat => ?_)
                  have HFn := hide (fin11 HUL.out HUO.out HUk.out.size BU_U4.out H62c.out H66.out HBx.out.lt ho hG hat)
                  have hS_U5 : U5.cell? ⟨wr.heap.size, 2, none⟩ = some (.slice x m cc) := later HFn.out.2 d2u
                  have d05 : U5.cell? ⟨wr.heap.size, 0, none⟩ = some (.int .i64 (O i).kd) := later HFn.out.2 d0u
                  obtain ⟨lq, lc, e6, _⟩ := own_form ho (Nat.succ_pos _)
                  subst e6
                  clear ho hG hat
                  refine hK.out _ _ hS_U5 (fun hS9 => ?_)
                  clear hK Kt
                  simp only [Act.put, List.getElem_toArray, List.getElem_cons_zero, List.getElem_cons_succ, List.setIfInBounds_toArray, List.set_cons_zero, List.set_cons_succ]
                  refine wpAnyH_take (i := 9) (v := .slice (some ⟨lq, 0, none⟩) (M.length + 1) lc) rfl (by kernel_rfl) (by kernel_rfl) (by kernel_rfl) (fun _ _ _ h => h) (Or.inl ⟨by rfl, fun w' _ => by go_simp⟩) hS9 ?_
                  simp only [Act.put, List.getElem_toArray, List.getElem_cons_zero, List.getElem_cons_succ, List.setIfInBounds_toArray, List.set_cons_zero, List.set_cons_succ]
                  refine wpAnyH_done (by kernel_rfl) ?_ _
                  refine NoPanic.normal ?_
                  clear hS9 d0 d2 d0u d2u
                  have HB75 : Hid (Below W7.heap.size W7 U5) := HUB.out.trans (HFn.out.2.mono HUB.out.size)
                  have HI7 : Hid (CrW w U5 b lb mb t1 O2 u9 (.slice (some ⟨lq, 0, none⟩) (M.length + 1) lc) S (M ++ [fl f m]) cS (cM ++ [.slice z66 m c66]) s2) := ⟨HS7.out.1.keep HB75.out, HS7.out.2.1, HS7.out.2.2.1.keep HB75.out, HFn.out.1, HS7.out.2.2.2.2.1, HUk.out.trans (HFn.out.2.mono HUk.out.size)⟩
                  go_wp2_with fail
                  go_roundg (n - (i + 1))
                  case measure => omega
                  case rel => exact ⟨i + 1, _, _, _, _, _, _, _, rfl, hlt, rfl, by simp, HI7.out⟩
                · skip
                  refine wanted_pos rfl ?_
                  refine wp_build0B rfl (hK.out _ _ (later (K.alloc (Below.refl _ U1) _) hS_U1) (fun _ => ?_))
                  clear hK Kt
                  simp only [Act.put, List.getElem_toArray, List.getElem_cons_zero, List.getElem_cons_succ, List.setIfInBounds_toArray, List.set_cons_zero, List.set_cons_succ]
                  obtain ⟨U2, hU2⟩ : ∃ U2, U2 = U1.alloc (.cells #[] 5) := ⟨_, rfl⟩
                  rw [← hU2]
                  have B_U2 : Hid (Below U1.heap.size U1 U2) := by rw [hU2]; exact K.alloc (Below.refl _ U1) _
                  have hS_U2 : U2.cell? ⟨wr.heap.size, 2, none⟩ = some (.slice x m cc) := later B_U2.out hS_U1
                  have BU_U2 : Hid (Below U.heap.size U U2) := BU_U1.out.trans (B_U2.out.mono BU_U1.out.size)
                  have H63 : Hid (U2.ownsRow U.heap.size 5 1 (.slice (some ⟨U1.heap.size, 0, none⟩) 0 0) 0 (cells8 [])) := by rw [hU2]; exact own_empty U1 U.heap.size BU_U1.out.size
                  clear hU2
                  have H60o := H60
                  clear H60
                  have H60 := hide (own_keepT H60o.out B_U2.out)
                  refine wpAnyH_ready (rs := [2]) (by kernel_rfl) (by simp) (AllReadyH.cons rfl (fun Kt hK => ?_) AllReadyH.nil)
                  refine wanted_pos rfl ?_
                  have HMo : Hid (U2.ownsRow w.heap.size 38 1 u10 M.length cM) := own_keepT HUL.out.o BU_U2.out
                  refine wp_appL _ _ rfl (by rfl) H60.out (by rfl) HMo.out HUL.out.one HMl.out.2.1 BU_U2.out.size (fun v62 U3 ho hG hat => ?_)
                  have BU_U3 : Hid (Below U.heap.size U U3) := BU_U2.out.grown hG BU_U2.out.size (fun k hk => (H60.out.lt k hk).1)
                  have hS_U3 : U3.cell? ⟨wr.heap.size, 2, none⟩ = some (.slice x m cc) := later BU_U3.out d2u
                  rw [Nat.zero_add, List.nil_append] at ho
                  have H62 := hide ho
                  have H63b := hide (own_grown H63.out hG (fun g hg e => own_ne H60.out H63.out g e hg))
                  clear ho hG hat
                  refine hK.out _ _ hS_U3 (fun _ => ?_)
                  clear hK Kt
                  simp only [Act.put, List.getElem_toArray, List.getElem_cons_zero, List.getElem_cons_succ, List.setIfInBounds_toArray, List.set_cons_zero, List.set_cons_succ]
                  have H62b := H62
                  refine wpAnyH_ready (rs := [6]) (by kernel_rfl) (by simp) (AllReadyH.cons rfl (fun Kt hK => ?_) AllReadyH.nil)
                  refine wanted_pos rfl ?_
                  refine wp_appB _ _ rfl (by rfl) H63b.out (by rfl) (HBx.out.keep (HUk.out.trans (BU_U3.out.mono HUk.out.size))) HMl.out.2.2.2 BU_U3.out.size (fun v66 U4 ho hG => ?_)
                  have BU_U4 : Hid (Below U.heap.size U U4) := BU_U3.out.grown hG BU_U3.out.size (fun k hk => (H63b.out.lt k hk).1)
                  have hS_U4 : U4.cell? ⟨wr.heap.size, 2, none⟩ = some (.slice x m cc) := later BU_U4.out d2u
                  have H62c := hide (own_grown H62b.out hG (fun g hg e => own_ne H62b.out H63b.out g hg e))
                  rw [Nat.zero_add, List.nil_append] at ho
                  have H66 := hide ho
                  obtain ⟨z66, c66, e66, _, _⟩ := own_max ho
                  subst e66
                  clear ho hG
                  refine hK.out _ _ hS_U4 (fun _ => ?_)
                  clear hK Kt
                  simp only [Act.put, List.getElem_toArray, List.getElem_cons_zero, List.getElem_cons_succ, List.setIfInBounds_toArray, List.set_cons_zero, List.set_cons_succ]
                  refine wpAnyH_ready (rs := [7]) (by kernel_rfl) (by simp) (AllReadyH.cons rfl (fun Kt hK => ?_) AllReadyH.nil)
                  refine wanted_pos rfl ?_
                  refine wp_buildS rfl (by rfl) (hK.out _ _ (later (K.alloc (Below.refl _ U4) _) hS_U4) (fun _ => ?_))
                  clear hK Kt
                  simp only [Act.put, List.getElem_toArray, List.getElem_cons_zero, List.getElem_cons_succ, List.setIfInBounds_toArray, List.set_cons_zero, List.set_cons_succ]
                  refine wpAnyH_ready (rs := [8]) (by kernel_rfl) (by simp) (AllReadyH.cons rfl (fun Kt hK => ?_) AllReadyH.nil)
                  refine wanted_pos rfl ?_
                  refine wp_app1 (e := .slice z66 m c66) (q := U4.heap.size) (n := M.length) (xs := cM) _ _ rfl (by rfl) (own_keepT H62c.out (K.alloc (Below.refl _ U4) (.cells #[.slice z66 m c66] 38))) (by rfl) (Boxed.new U4 38 (.slice z66 m c66)).cell rfl HMl.out.2.2.1 (Nat.le_trans BU_U4.out.size (by simp)) (fun v68 U5 ho hG hat => ?_)
                  have HFn := hide (fin11 HUL.out HUO.out HUk.out.size BU_U4.out H62c.out H66.out HBx.out.lt ho hG hat)
                  have hS_U5 : U5.cell? ⟨wr.heap.size, 2, none⟩ = some (.slice x m cc) := later HFn.out.2 d2u
                  have d05 : U5.cell? ⟨wr.heap.size, 0, none⟩ = some (.int .i64 (O i).kd) := later HFn.out.2 d0u
                  obtain ⟨lq, lc, e6, _⟩ := own_form ho (Nat.succ_pos _)
                  subst e6
                  clear ho hG hat
                  refine hK.out _ _ hS_U5 (fun hS9 => ?_)
                  clear hK Kt
                  simp only [Act.put, List.getElem_toArray, List.getElem_cons_zero, List.getElem_cons_succ, List.setIfInBounds_toArray, List.set_cons_zero, List.set_cons_succ]
                  refine wpAnyH_take (i := 9) (v := .slice (some ⟨lq, 0, none⟩) (M.length + 1) lc) rfl (by kernel_rfl) (by kernel_rfl) (by kernel_rfl) (fun _ _ _ h => h) (Or.inl ⟨by rfl, fun w' _ => by go_simp⟩) hS9 ?_
                  simp only [Act.put, List.getElem_toArray, List.getElem_cons_zero, List.getElem_cons_succ, List.setIfInBounds_toArray, List.set_cons_zero, List.set_cons_succ]
                  refine wpAnyH_done (by kernel_rfl) ?_ _
                  refine NoPanic.normal ?_
                  clear hS9 d0 d2 d0u d2u
                  have HB75 : Hid (Below W7.heap.size W7 U5) := HUB.out.trans (HFn.out.2.mono HUB.out.size)
                  have HI7 : Hid (CrW w U5 b lb mb t1 O2 u9 (.slice (some ⟨lq, 0, none⟩) (M.length + 1) lc) S (M ++ [fl f m]) cS (cM ++ [.slice z66 m c66]) s2) := ⟨HS7.out.1.keep HB75.out, HS7.out.2.1, HS7.out.2.2.1.keep HB75.out, HFn.out.1, HS7.out.2.2.2.2.1, HUk.out.trans (HFn.out.2.mono HUk.out.size)⟩
                  go_wp2_with fail
                  go_roundg (n - (i + 1))
                  case measure => omega
                  case rel => exact ⟨i + 1, _, _, _, _, _, _, _, rfl, hlt, rfl, by simp, HI7.out⟩
              · skip
                refine wanted_pos rfl ?_
                refine wp_build0B rfl (hK.out _ _ (later (K.alloc (Below.refl _ U) _) hS_U) (fun _ => ?_))
                clear hK Kt
                simp only [Act.put, List.getElem_toArray, List.getElem_cons_zero, List.getElem_cons_succ, List.setIfInBounds_toArray, List.set_cons_zero, List.set_cons_succ]
                obtain ⟨U1, hU1⟩ : ∃ U1, U1 = U.alloc (.cells #[] 5) := ⟨_, rfl⟩
                rw [← hU1]
                have B_U1 : Hid (Below U.heap.size U U1) := by rw [hU1]; exact K.alloc (Below.refl _ U) _
                have hS_U1 : U1.cell? ⟨wr.heap.size, 2, none⟩ = some (.slice x m cc) := later B_U1.out hS_U
                have BU_U1 : Hid (Below U.heap.size U U1) := BU_U.out.trans (B_U1.out.mono BU_U.out.size)
                have H63 : Hid (U1.ownsRow U.heap.size 5 1 (.slice (some ⟨U.heap.size, 0, none⟩) 0 0) 0 (cells8 [])) := by rw [hU1]; exact own_empty U U.heap.size BU_U.out.size
                clear hU1
                refine wpAnyH_ready (rs := [0]) (by kernel_rfl) (by simp) (AllReadyH.cons rfl (fun Kt hK => ?_) AllReadyH.nil)
                refine wanted_pos rfl ?_
                refine wp_build0L rfl (hK.out _ _ (later (K.alloc (Below.refl _ U1) _) hS_U1) (fun _ => ?_))
                clear hK Kt
                simp only [Act.put, List.getElem_toArray, List.getElem_cons_zero, List.setIfInBounds_toArray, List.set_cons_zero, List.set_cons_succ]
                obtain ⟨U2, hU2⟩ : ∃ U2, U2 = U1.alloc (.cells #[] 38) := ⟨_, rfl⟩
                rw [← hU2]
                have B_U2 : Hid (Below U1.heap.size U1 U2) := by rw [hU2]; exact K.alloc (Below.refl _ U1) _
                have hS_U2 : U2.cell? ⟨wr.heap.size, 2, none⟩ = some (.slice x m cc) := later B_U2.out hS_U1
                have BU_U2 : Hid (Below U.heap.size U U2) := BU_U1.out.trans (B_U2.out.mono BU_U1.out.size)
                have H60 : Hid (U2.ownsRow U.heap.size 38 1 (.slice (some ⟨U1.heap.size, 0, none⟩) 0 0) 0 []) := by rw [hU2]; exact own0L U1 BU_U1.out.size
                clear hU2
                have H63o := H63
                clear H63
                have H63 := hide (own_keepT H63o.out B_U2.out)
                refine wpAnyH_ready (rs := [2]) (by kernel_rfl) (by simp) (AllReadyH.cons rfl (fun Kt hK => ?_) AllReadyH.nil)
                refine wanted_pos rfl ?_
                have HMo : Hid (U2.ownsRow w.heap.size 38 1 u10 M.length cM) := own_keepT HUL.out.o BU_U2.out
                refine wp_appL _ _ rfl (by rfl) H60.out (by rfl) HMo.out HUL.out.one HMl.out.2.1 BU_U2.out.size (fun v62 U3 ho hG hat => ?_)
                have BU_U3 : Hid (Below U.heap.size U U3) := BU_U2.out.grown hG BU_U2.out.size (fun k hk => (H60.out.lt k hk).1)
                have hS_U3 : U3.cell? ⟨wr.heap.size, 2, none⟩ = some (.slice x m cc) := later BU_U3.out d2u
                rw [Nat.zero_add, List.nil_append] at ho
                have H62 := hide ho
                have H63b := hide (own_grown H63.out hG (fun g hg e => own_ne H60.out H63.out g e hg))
                clear ho hG hat
                refine hK.out _ _ hS_U3 (fun _ => ?_)
                clear hK Kt
                simp only [Act.put, List.getElem_toArray, List.getElem_cons_zero, List.getElem_cons_succ, List.setIfInBounds_toArray, List.set_cons_zero, List.set_cons_succ]
                have H62b := H62
                refine wpAnyH_ready (rs := [6]) (by kernel_rfl) (by simp) (AllReadyH.cons rfl (fun Kt hK => ?_) AllReadyH.nil)
                refine wanted_pos rfl ?_
                refine wp_appB _ _ rfl (by rfl) H63b.out (by rfl) (HBx.out.keep (HUk.out.trans (BU_U3.out.mono HUk.out.size))) HMl.out.2.2.2 BU_U3.out.size (fun v66 U4 ho hG => ?_)
                have BU_U4 : Hid (Below U.heap.size U U4) := BU_U3.out.grown hG BU_U3.out.size (fun k hk => (H63b.out.lt k hk).1)
                have hS_U4 : U4.cell? ⟨wr.heap.size, 2, none⟩ = some (.slice x m cc) := later BU_U4.out d2u
                have H62c := hide (own_grown H62b.out hG (fun g hg e => own_ne H62b.out H63b.out g hg e))
                rw [Nat.zero_add, List.nil_append] at ho
                have H66 := hide ho
                obtain ⟨z66, c66, e66, _, _⟩ := own_max ho
                subst e66
                clear ho hG
                refine hK.out _ _ hS_U4 (fun _ => ?_)
                clear hK Kt
                simp only [Act.put, List.getElem_toArray, List.getElem_cons_zero, List.getElem_cons_succ, List.setIfInBounds_toArray, List.set_cons_zero, List.set_cons_succ]
                refine wpAnyH_ready (rs := [7]) (by kernel_rfl) (by simp) (AllReadyH.cons rfl (fun Kt hK => ?_) AllReadyH.nil)
                refine wanted_pos rfl ?_
                refine wp_buildS rfl (by rfl) (hK.out _ _ (later (K.alloc (Below.refl _ U4) _) hS_U4) (fun _ => ?_))
                clear hK Kt
                simp only [Act.put, List.getElem_toArray, List.getElem_cons_zero, List.getElem_cons_succ, List.setIfInBounds_toArray, List.set_cons_zero, List.set_cons_succ]
                refine wpAnyH_ready (rs := [8]) (by kernel_rfl) (by simp) (AllReadyH.cons rfl (fun Kt hK => ?_) AllReadyH.nil)
                refine wanted_pos rfl ?_
                refine wp_app1 (e := .slice z66 m c66) (q := U4.heap.size) (n := M.length) (xs := cM) _ _ rfl (by rfl) (own_keepT H62c.out (K.alloc (Below.refl _ U4) (.cells #[.slice z66 m c66] 38))) (by rfl) (Boxed.new U4 38 (.slice z66 m c66)).cell rfl HMl.out.2.2.1 (Nat.le_trans BU_U4.out.size (by simp)) (fun v68 U5 ho hG hat => ?_)
                have HFn := hide (fin11 HUL.out HUO.out HUk.out.size BU_U4.out H62c.out H66.out HBx.out.lt ho hG hat)
                have hS_U5 : U5.cell? ⟨wr.heap.size, 2, none⟩ = some (.slice x m cc) := later HFn.out.2 d2u
                have d05 : U5.cell? ⟨wr.heap.size, 0, none⟩ = some (.int .i64 (O i).kd) := later HFn.out.2 d0u
                obtain ⟨lq, lc, e6, _⟩ := own_form ho (Nat.succ_pos _)
                subst e6
                clear ho hG hat
                refine hK.out _ _ hS_U5 (fun hS9 => ?_)
                clear hK Kt
                simp only [Act.put, List.getElem_toArray, List.getElem_cons_zero, List.getElem_cons_succ, List.setIfInBounds_toArray, List.set_cons_zero, List.set_cons_succ]
                refine wpAnyH_take (i := 9) (v := .slice (some ⟨lq, 0, none⟩) (M.length + 1) lc) rfl (by kernel_rfl) (by kernel_rfl) (by kernel_rfl) (fun _ _ _ h => h) (Or.inl ⟨by rfl, fun w' _ => by go_simp⟩) hS9 ?_
                simp only [Act.put, List.getElem_toArray, List.getElem_cons_zero, List.getElem_cons_succ, List.setIfInBounds_toArray, List.set_cons_zero, List.set_cons_succ]
                refine wpAnyH_done (by kernel_rfl) ?_ _
                refine NoPanic.normal ?_
                clear hS9 d0 d2 d0u d2u
                have HB75 : Hid (Below W7.heap.size W7 U5) := HUB.out.trans (HFn.out.2.mono HUB.out.size)
                have HI7 : Hid (CrW w U5 b lb mb t1 O2 u9 (.slice (some ⟨lq, 0, none⟩) (M.length + 1) lc) S (M ++ [fl f m]) cS (cM ++ [.slice z66 m c66]) s2) := ⟨HS7.out.1.keep HB75.out, HS7.out.2.1, HS7.out.2.2.1.keep HB75.out, HFn.out.1, HS7.out.2.2.2.2.1, HUk.out.trans (HFn.out.2.mono HUk.out.size)⟩
                go_wp2_with fail
                go_roundg (n - (i + 1))
                case measure => omega
                case rel => exact ⟨i + 1, _, _, _, _, _, _, _, rfl, hlt, rfl, by simp, HI7.out⟩
            · have hq : (er == 0) = false := by simp [he]
              have HE := hide he
              clear he
              go_wp2_with (go_at_call 15; refine Calls.mono HAp.out ?_; rintro e W7 ⟨O2, s2, rfl, hK7, h7, _⟩; have HI7 := hide (h7 HE.out); have d0 := HcK.out _ hK7 0 _ c0; clear hK7 h7)
              go_roundg (n - (i + 1))
              case measure => omega
              case rel => exact ⟨i + 1, _, _, _, _, _, _, _, rfl, hlt, rfl, by simp, HI7.out⟩
          by_cases h2 : (O i).kd = 2
          · have k1 : ((O i).kd == 1) = false := by simp; omega
            have k2 : ((O i).kd == 2) = true := by simp; omega
            have k3 : ((O i).kd == 3) = false := by simp; omega
            have k4 : ((O i).kd != 4) = true := by simp; omega
            have HAp := hide HI6.out.co
            obtain ⟨er, her⟩ : ∃ er, er = s.coE := ⟨_, rfl⟩
            rw [← her] at HAp
            clear her h1 h2
            by_cases he : er = 0
            · have hq : (er == 0) = true := by simp [he]
              have HE := hide he
              clear he
              go_wp2_with (go_at_call 17; refine Calls.mono HAp.out ?_; rintro e W7 ⟨O2, s2, rfl, hK7, _, h7⟩; have HI7 := hide (h7 HE.out); have d0 := HcK.out _ hK7 0 _ c0; clear hK7 h7)
              go_roundg (n - (i + 1))
              case measure => omega
              case rel => exact ⟨i + 1, _, _, _, _, _, _, _, rfl, hlt, rfl, by simp, HI7.out⟩
            · have hq : (er == 0) = false := by simp [he]
              have HE := hide he
              clear he
              go_wp2_with (go_at_call 17; refine Calls.mono HAp.out ?_; rintro e W7 ⟨O2, s2, rfl, hK7, h7, _⟩; have HI7 := hide (h7 HE.out); have d0 := HcK.out _ hK7 0 _ c0; clear hK7 h7)
              go_roundg (n - (i + 1))
              case measure => omega
              case rel => exact ⟨i + 1, _, _, _, _, _, _, _, rfl, hlt, rfl, by simp, HI7.out⟩
          by_cases h3 : (O i).kd = 3
          · have k1 : ((O i).kd == 1) = false := by simp; omega
            have k2 : ((O i).kd == 2) = false := by simp; omega
            have k3 : ((O i).kd == 3) = true := by simp; omega
            have k4 : ((O i).kd != 4) = true := by simp; omega
            have HAp := hide (HI6.out.fu (O i).i HOk.out.i.2)
            clear h1 h2 h3
            go_wp2_with (go_at_call 19; refine Calls.mono HAp.out ?_; rintro e W7 ⟨⟨v7, rfl⟩, hK7, h7⟩; have HI7 := hide h7; have d0 := HcK.out _ hK7 0 _ c0; clear hK7 h7)
            go_roundg (n - (i + 1))
            case measure => omega
            case rel => exact ⟨i + 1, _, _, _, _, _, _, _, rfl, hlt, rfl, by simp, HI7.out⟩
          by_cases h4 : (O i).kd = 4
          · have k1 : ((O i).kd == 1) = false := by simp; omega
            have k2 : ((O i).kd == 2) = false := by simp; omega
            have k3 : ((O i).kd == 3) = false := by simp; omega
            have k4 : ((O i).kd != 4) = false := by simp; omega
            clear h1 h2 h3 h4
            have HF3 : Hid (∀ W, Kp O1 W6 W → W.rangeAt wr.heap.size 3 [.slice (O i).z (O i).KL.length (O i).k, .int .i64 (O i).t, .int .i64 (O i).a]) := fun W hK j v hv => by
              have hj : j < 3 := (List.getElem?_eq_some_iff.1 hv).1
              have hc : j = 0 ∨ j = 1 ∨ j = 2 := by omega
              rcases hc with rfl | rfl | rfl
              · cases hv; exact HcK.out W hK 3 _ c3
              · cases hv; exact HcK.out W hK 4 _ c4
              · cases hv; exact HcK.out W hK 5 _ c5
            have HF6 := hide (HF3.out W6 (Kp.refl _ _))
            have HCr := hide (HI6.out.cr (c := (O i).k) HOk.out.k (O i).t (O i).a)
            have HPs := hide (HI6.out.c.crash (O i).KL (O i).t (O i).a)
            clear c1 c2 c3 c4 c5
            go_upto_region 18 with (first
              | (refine wpList_load_f3 rfl _ rfl (by rfl) HF6.out ?_)
              | (go_at_call 20; refine Calls.mono HCr.out ?_; rintro e W7 ⟨⟨v7, rfl⟩, hK7, h7⟩; have HX7 := hide h7; have HK7 := hide hK7; clear hK7 h7))
            clear c0 k1 k2 k3 k4
            go_wp2_with fail
            go_loopg [13] nw (fun g' s13 wr2 => ∃ (j : Nat) (D : DM), g' = nw - j ∧ j ≤ nw ∧ s13 = .int .i64 (j : Int) ∧ Hid (CrX w wr2 b lb mb O1 u9 u10 S M cS cM D ∧ PsM 100 D S M ∧ D.fu = none ∧ Kp O1 W6 wr2))
            case atStart => exact ⟨0, _, rfl, Nat.zero_le _, rfl, HX7.out, HPs.out, rfl, HK7.out⟩
            case round =>
              obtain ⟨j, D, rfl, hj, rfl, HJ⟩ := hrel
              clear HX7 HPs HK7 HCr HF6
              by_cases hjl : j < nw
              · have hjl' : (j : Int) < (nw : Int) := by omega
                have hwj : wrap64 ((j : Int) + 1) = (j : Int) + 1 := w63 (by omega) (by omega)
                obtain ⟨wb, wo, hzw, hwr⟩ : ∃ b o, zw = some ⟨b, o, none⟩ ∧ ∀ q, q < nw → w.cell? ⟨b, o + q, none⟩ = some (.int .u8 ((fw q : Nat) : Int)) := by
                  rcases HW.out.at_ with h0 | ⟨b1, o1, e1, hr⟩
                  · omega
                  · exact ⟨b1, o1, e1, fun q hq => hr.c q hq⟩
                subst hzw
                have hcw := later HJ.out.1.k (hwr j hjl)
                have HFu := hide (HJ.out.1.fu ((fw j : Int) % 6) (by omega))
                clear hwr
                go_upto_region 22 with (go_at_call 19; refine Calls.mono HFu.out ?_; rintro e Wa ⟨⟨va, rfl⟩, hKa, ha⟩; have HXa := hide ha; have HKa := hide (HJ.out.2.2.2.trans hKa); clear hKa ha)
                have HOa := hide HXa.out.op
                go_upto_region 23 with (go_at_call 12; refine Calls.mono HOa.out ?_; rintro e Wb ⟨⟨vb, rfl⟩, hKb, hb⟩; have HXb := hide hb; have HKb := hide (HKa.out.trans hKb); clear hKb hb)
                have HFb := hide (HF3.out Wb HKb.out)
                have HCb := hide (HXb.out.cr (c := (O i).k) HOk.out.k (O i).t (O i).a)
                go_wp2_with (first
                  | (refine wpList_load_f3 rfl _ rfl (by rfl) HFb.out ?_)
                  | (go_at_call 20; refine Calls.mono HCb.out ?_; rintro e Wc ⟨⟨vc, rfl⟩, hKc, hc⟩; have HXc := hide hc; have HKc := hide (HKb.out.trans hKc); clear hKc hc))
                go_roundg (nw - (j + 1))
                case measure => omega
                case rel => exact ⟨j + 1, _, rfl, hjl, by simp, HXc.out, HJ.out.2.1.round (by omega) _ _ _ _, rfl, HKc.out⟩
              · obtain rfl : j = nw := by omega
                clear hjl
                obtain ⟨Z, hZ, o1, o2, o3, o4, o5, o6⟩ := HJ.out.2.1.opened (by omega) HJ.out.2.2.1
                have HO1 := hide (open_yes HJ.out.1.d o1)
                have HZ := hide (And.intro hZ (And.intro o2 (And.intro o3 (And.intro o4 (And.intro o5 o6)))))
                clear hZ o1 o2 o3 o4 o5 o6
                go_upto_region 25 with (go_at_call 12; refine Calls.mono HO1.out ?_; rintro e W8 ⟨t8, rfl, hP8, hK8⟩; have HP8 := hide hP8; have HK8 := hide hK8; clear hP8 hK8)
                have HO2 := hide (open_yes HP8.out.dsk HZ.out.2.2.2.1)
                go_upto_region 26 with (go_at_call 12; refine Calls.mono HO2.out ?_; rintro e W9 ⟨t9, rfl, hP9, hK9⟩; have HP9 := hide hP9; have HK9 := hide hK9; clear hP9 hK9)
                have HB9 : Hid (PW W9 b lb mb t9 (grow (X3 b lb mb) W8 W9) (X3 b lb mb) ⟨D.mendD 0, Z, [], false⟩) := by
                  have h5 : PW W9 b lb mb t9 (grow (X3 b lb mb) W8 W9) (X3 b lb mb) ⟨(D.mendD 0).mendD 0, (D.mendD 0).opL, [], false⟩ := HP9.out
                  rw [HZ.out.2.2.2.2.2, HZ.out.2.2.2.2.1] at h5
                  exact h5
                have HA9 : Hid (∃ OA, PW W9 b lb mb t8 OA (X3 b lb mb) ⟨D.mendD 0, Z, [], false⟩) := by
                  have h5 := HP8.out.disk HB9.out.dsk HK9.out HP8.out.ok
                  have h6 : PW W9 b lb mb t8 _ (X3 b lb mb) ⟨D.mendD 0, D.opL, [], false⟩ := h5
                  rw [HZ.out.2.1] at h6
                  exact ⟨_, h6⟩
                have HX9 : Hid (CrX w W9 b lb mb O1 u9 u10 S M cS cM (D.mendD 0)) := (HJ.out.1.next HP8.out.dsk HK8.out).next HB9.out.dsk HK9.out
                have HKe : Hid (∀ W, Below W9.heap.size W9 W → ∀ t, t = t8 ∨ t = t9 → Calls Try.prog 26 #[pp t] W (KeP W Z)) := fun W hW t ht => by
                  rcases ht with e | e
                  · obtain ⟨OA, h5⟩ := HA9.out
                    rw [e]
                    exact kept_n (h5.keep hW)
                  · rw [e]
                    exact kept_n (HB9.out.keep hW)
                have hsz : short Z ∧ Z.length ≤ 1000000 := by
                  have h5 := HB9.out.ok
                  have h6 : 3 + tks Z + 0 ≤ (D.mendD 0).n := h5.n
                  have h7 := HB9.out.dsk.ok.n
                  have h8 := tks_len Z
                  have h9 : (D.mendD 0).n ≤ 4096 := h7
                  exact ⟨SM.short h5, by omega⟩
                have HSm : Hid (∀ (L : List (List Nat)) (W W' : World) (v1 v2 : Value) (c1 c2 : List Value) (B1 B2 : Nat) (X1 X2 : Nat → Bool), Lst W' B1 X1 v1 Z c1 → Lst W' B2 X2 v2 L c2 → ∃ z1 k1 z2 k2, v1 = .slice z1 Z.length k1 ∧ v2 = .slice z2 L.length k2 ∧ Calls Try.prog 25 #[.slice z1 Z.length k1, .slice z2 L.length k2] W' fun e w' => e = .returned (.bool (decide (Z = L))) ∧ Below W'.heap.size W' w') := fun L W W' v1 v2 c1 c2 B1 B2 X1 X2 h1 h2 => by
                  obtain ⟨z1, k1, rfl, g1⟩ := h1.shape
                  obtain ⟨z2, k2, rfl, g2⟩ := h2.shape
                  exact ⟨z1, k1, z2, k2, rfl, rfl, same_lists (c1 := k1) (c2 := k2) g1 g2 hsz.1 hsz.2⟩
                have HW8 : Hid (w.heap.size ≤ W8.heap.size) := Nat.le_trans HJ.out.1.k.size HK8.out.size
                clear hsz HO1 HO2 HP8 HP9 HA9 HJ
                have HR1 := hide (HKe.out W9 (Below.refl _ _) t8 (Or.inl rfl))
                go_upto_region 28 with (first
                  | (go_at_call 26; refine Calls.mono HR2.out ?_; rintro e We ⟨v4, cs4, rfl, hl4, hB4⟩; have HBe : Hid (Below W9.heap.size W9 We) := HBd.out.trans (hB4.mono HBd.out.size); obtain ⟨z1, k1, z2, k2, e1, e2, hSa⟩ := HSm.out Z We We _ _ _ _ _ _ _ _ (HLd.out.keep hB4) hl4; subst e1; subst e2; rw [show decide (Z = Z) = true from decide_eq_true rfl] at hSa; have HSa := hide hSa; clear hl4 hB4 hSa)
                  | (go_at_call 26; refine Calls.mono HR1.out ?_; rintro e Wd ⟨v3, cs3, rfl, hl3, hB3⟩; have HBd := hide hB3; have HLd := hide hl3; have HR2 := hide (HKe.out Wd hB3 t9 (Or.inr rfl)); clear hl3 hB3)
                  | (go_at_call 25; refine Calls.mono HSa.out ?_; rintro e Wf ⟨rfl, hBf⟩; have HBWf : Hid (Below W9.heap.size W9 Wf) := HBe.out.trans (hBf.mono HBe.out.size); clear hBf))
                have HR3 := hide (HKe.out Wf HBWf.out t8 (Or.inl rfl))
                by_cases hZS : Z = S
                · have HZS := hide (decide_eq_true hZS)
                  clear hZS
                  go_upto_region 30 with (first
                    | (go_at_call 26; refine Calls.mono HR3.out ?_; rintro e Wg ⟨v5, cs5, rfl, hl5, hB5⟩; have HBg : Hid (Below W9.heap.size W9 Wg) := HBWf.out.trans (hB5.mono HBWf.out.size); obtain ⟨z3, k3, z4, k4, e3, e4, hSb⟩ := HSm.out S Wg Wg _ _ _ _ _ _ _ _ hl5 (HX9.out.ls.keep HBg.out); subst e3; subst e4; rw [HZS.out] at hSb; have HSb := hide hSb; clear hl5 hB5 hSb)
                    | (go_at_call 25; refine Calls.mono HSb.out ?_; rintro e Wh ⟨rfl, hBh⟩; have HBWh : Hid (Below W9.heap.size W9 Wh) := HBg.out.trans (hBh.mono HBg.out.size); clear hBh))
                  have HR5 := hide (HKe.out Wh HBWh.out t9 (Or.inr rfl))
                  go_wp2_with (go_at_call 26; refine Calls.mono HR5.out ?_; rintro e Wn ⟨v7, cs7, rfl, hl7, hB7⟩; have HL7 := hide hl7; have HB7 := hide hB7; clear hl7 hB7)
                  have HI7 : Hid (CrW w Wn b lb mb t9 (grow (X3 b lb mb) W8 W9) v7 v7 Z Z cs7 cs7 ⟨D.mendD 0, Z, [], false⟩) := by
                    have h5 : Below W9.heap.size W9 Wn := HBWh.out.trans (HB7.out.mono HBWh.out.size)
                    have h6 : Lst Wn w.heap.size (grow (X3 b lb mb) W8 W9) v7 Z cs7 := (HL7.out.base (Nat.le_trans HX9.out.k.size HBWh.out.size)).sub (fun k hk => Xl_of.2 (Nat.lt_of_lt_of_le (HB9.out.ol hk) HBWh.out.size))
                    refine ⟨HB9.out.keep h5, CrM.new HZ.out.2.2.1, h6, h6, fun k hk => ?_, HX9.out.k.trans (h5.mono HX9.out.k.size)⟩
                    rcases grow_of.1 hk with e | e
                    · exact HX.out k e
                    · exact Nat.le_trans HW8.out e.1
                  go_roundg (n - (i + 1))
                  case measure => omega
                  case rel => exact ⟨i + 1, _, _, _, _, _, _, _, rfl, hlt, rfl, by simp, HI7.out⟩
                · have hZM : Z = M := HZ.out.1.resolve_left hZS
                  have HZS := hide (decide_eq_false hZS)
                  have HZM := hide (decide_eq_true hZM)
                  clear hZS hZM
                  go_upto_region 30 with (first
                    | (go_at_call 26; refine Calls.mono HR4.out ?_; rintro e Wp ⟨v6, cs6, rfl, hl6, hB6⟩; have HBp : Hid (Below W9.heap.size W9 Wp) := HBh.out.trans (hB6.mono HBh.out.size); obtain ⟨z5, k5, z6, k6, e5, e6, hSc⟩ := HSm.out M Wp Wp _ _ _ _ _ _ _ _ hl6 (HX9.out.lm.keep HBp.out); subst e5; subst e6; rw [HZM.out] at hSc; have HSc := hide hSc; clear hl6 hB6 hSc)
                    | (go_at_call 26; refine Calls.mono HR3.out ?_; rintro e Wg ⟨v5, cs5, rfl, hl5, hB5⟩; have HBg : Hid (Below W9.heap.size W9 Wg) := HBWf.out.trans (hB5.mono HBWf.out.size); obtain ⟨z3, k3, z4, k4, e3, e4, hSb⟩ := HSm.out S Wg Wg _ _ _ _ _ _ _ _ hl5 (HX9.out.ls.keep HBg.out); subst e3; subst e4; rw [HZS.out] at hSb; have HSb := hide hSb; clear hl5 hB5 hSb)
                    | (go_at_call 25; refine Calls.mono HSc.out ?_; rintro e Wq ⟨rfl, hBq⟩; have HBWq : Hid (Below W9.heap.size W9 Wq) := HBp.out.trans (hBq.mono HBp.out.size); clear hBq)
                    | (go_at_call 25; refine Calls.mono HSb.out ?_; rintro e Wh ⟨rfl, hBh⟩; have HBh : Hid (Below W9.heap.size W9 Wh) := HBg.out.trans (hBh.mono HBg.out.size); have HR4 := hide (HKe.out Wh HBh.out t8 (Or.inl rfl)); clear hBh))
                  have HR5 := hide (HKe.out Wq HBWq.out t9 (Or.inr rfl))
                  go_wp2_with (go_at_call 26; refine Calls.mono HR5.out ?_; rintro e Wn ⟨v7, cs7, rfl, hl7, hB7⟩; have HL7 := hide hl7; have HB7 := hide hB7; clear hl7 hB7)
                  have HI7 : Hid (CrW w Wn b lb mb t9 (grow (X3 b lb mb) W8 W9) v7 v7 Z Z cs7 cs7 ⟨D.mendD 0, Z, [], false⟩) := by
                    have h5 : Below W9.heap.size W9 Wn := HBWq.out.trans (HB7.out.mono HBWq.out.size)
                    have h6 : Lst Wn w.heap.size (grow (X3 b lb mb) W8 W9) v7 Z cs7 := (HL7.out.base (Nat.le_trans HX9.out.k.size HBWq.out.size)).sub (fun k hk => Xl_of.2 (Nat.lt_of_lt_of_le (HB9.out.ol hk) HBWq.out.size))
                    refine ⟨HB9.out.keep h5, CrM.new HZ.out.2.2.1, h6, h6, fun k hk => ?_, HX9.out.k.trans (h5.mono HX9.out.k.size)⟩
                    rcases grow_of.1 hk with e | e
                    · exact HX.out k e
                    · exact Nat.le_trans HW8.out e.1
                  go_roundg (n - (i + 1))
                  case measure => omega
                  case rel => exact ⟨i + 1, _, _, _, _, _, _, _, rfl, hlt, rfl, by simp, HI7.out⟩
          · have k1 : ((O i).kd == 1) = false := by simp; omega
            have k2 : ((O i).kd == 2) = false := by simp; omega
            have k3 : ((O i).kd == 3) = false := by simp; omega
            have k4 : ((O i).kd != 4) = true := by simp; omega
            clear h1 h2 h3 h4
            go_wp2_with fail
            go_roundg (n - (i + 1))
            case measure => omega
            case rel => exact ⟨i + 1, _, _, _, _, _, _, _, rfl, hlt, rfl, by simp, HI6.out⟩
        · obtain rfl : i = n := by omega
          go_wp2_with fail
          go_ret
          exact ⟨rfl, HI.out.k⟩
  · have HF1 := hide (HFw.out false ⟨fun hh => (by cases hh), fun hh => absurd hh hfe⟩)
    clear hfe HFw
    go_enter Try.func4, Try.ntmps4
    go_upto_region 2 with (first
      | (go_at_call 8; refine Calls.mono (awake_n _) ?_; rintro e W1 ⟨rfl, hB1⟩; have HB1 := hide hB1; have HF2 := hide (HF1.out _ hB1); clear hB1)
      | (go_at_call 9; refine Calls.mono HF2.out ?_; rintro e W1 ⟨rfl, rfl⟩))
    go_wp2_with (go_at_call 8; refine Calls.mono (awake_n _) ?_; rintro e W2 ⟨rfl, hB2⟩; have HB2 := hide hB2; clear hB2)
    go_ret
    exact ⟨rfl, HB1.out.trans (HB2.out.mono HB1.out.size)⟩
end Go.Proofs.Ytjgpopjpmfkfmaa
