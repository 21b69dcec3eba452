/- Layer 14: Mend. -/
import Derived.Test.YtjgpopjpmfkfmaaN14C
namespace Go.Proofs.Ytjgpopjpmfkfmaa
set_option maxRecDepth 100000
open Go.RowKit Go.Maps
attribute [local go_sem ↓] Go.wp_at_zero Go.wp_at_succ

/-- The first j sectors of a mark, that had B, are mended. -/
def md2 (D : DM) (a : Int) (B : Nat → List Nat) (v : List Nat) : Nat → DM × Int
  | 0 => (D, 0)
  | j + 1 => if (md2 D a B v j).2 = 0 then (if B j = v then md2 D a B v j else ((md2 D a B v j).1.ws (a + (j : Int)) v, (md2 D a B v j).1.wsE (a + (j : Int)) v)) else md2 D a B v j
theorem md2_err {D : DM} {a : Int} {B : Nat → List Nat} {l : List Nat} {j : Nat} (h : (md2 D a B l j).2 ≠ 0) : ∀ k, j ≤ k → md2 D a B l k = md2 D a B l j := by
  intro k hk
  induction k with
  | zero => rw [show j = 0 by omega]
  | succ k ih =>
    by_cases e : j = k + 1
    · rw [e]
    · have ih := ih (by omega)
      show (if (md2 D a B l k).2 = 0 then _ else md2 D a B l k) = _
      rw [ih, if_neg h]
/-- A Mend on a calm disk. -/
theorem md2_steps {D : DM} (h : D.calm) {a : Nat} (ha : a + 2 < D.n) {B : Nat → List Nat} (hB : ∀ j, j < 3 → B j = D.la (a + j)) {v : List Nat} (hv : sec v) : ∀ j, j ≤ 3 → ((md2 D a B v j).2 = 0 ∧ Went D (md2 D a B v j).1 a j v) ∨ ((md2 D a B v j).2 = 6 ∧ ∃ q, q < j ∧ D.la (a + q) ≠ v ∧ Fell D (md2 D a B v j).1 a q v)
  | 0, _ => Or.inl ⟨rfl, h, rfl, (upTo_zero _ _ _).symm⟩
  | j + 1, hj => by
    rcases md2_steps h ha hB hv j (by omega) with ⟨e, hw⟩ | ⟨e, q, hq, hf⟩
    · by_cases hs : D.la (a + j) = v
      · have es : md2 D a B v (j + 1) = md2 D a B v j := (if_pos e).trans (if_pos ((hB j (by omega)).trans hs))
        rw [es]
        exact Or.inl ⟨e, hw.c, hw.n, by rw [hw.la, upTo_same hs]⟩
      · have es : md2 D a B v (j + 1) = ((md2 D a B v j).1.ws ((a : Int) + (j : Int)) v, (md2 D a B v j).1.wsE ((a : Int) + (j : Int)) v) := (if_pos e).trans (if_neg (fun e2 => hs ((hB j (by omega)).symm.trans e2)))
        rw [es]
        rcases hw.ws (by omega) hv with ⟨e1, h1⟩ | ⟨e1, h1⟩
        · exact Or.inl ⟨e1, h1⟩
        · exact Or.inr ⟨e1, j, by omega, hs, h1⟩
    · have es : md2 D a B v (j + 1) = md2 D a B v j := if_neg (by rw [e]; decide)
      rw [es]
      exact Or.inr ⟨e, q, by omega, hf⟩
/-- What Mend leaves, and answers. -/
def DM.three (D : DM) (a : Int) (j : Nat) : List Nat := D.rdB (a + (j : Int))
def DM.mendD (D : DM) (a : Int) : DM := if D.ldE a = 0 then (md2 D a (D.three a) (D.ldB a) 3).1 else D
def DM.mendE (D : DM) (a : Int) : Int := if D.ldE a = 0 then (md2 D a (D.three a) (D.ldB a) 3).2 else D.ldE a
theorem Got.kp {w wr w' : World} {g : Nat} {l : List Nat} (h : Got w wr g l) {X : Nat → Bool} (hK : Kp X wr w') (hx : X g = false) : Got w w' g l := ⟨h.ge, Nat.lt_of_lt_of_le h.lt hK.size, hK.range h.r h.lt hx⟩
/-- While the three are mended. -/
structure MdR (w wr : World) (b lb mb hb g0 g1 g2 : Nat) (D : DM) (a : Int) (B : Nat → List Nat) (v : List Nat) (i : Nat) : Prop where
  d : Dsk wr b lb mb (md2 D a B v i).1
  k : Kp (X3 b lb mb) w wr
  c : wr.rangeAt hb 0 [s64 g0, s64 g1, s64 g2]
  hl : hb < wr.heap.size
  hx : X3 b lb mb hb = false
  x : ∀ g, w.heap.size ≤ g → X3 b lb mb g = false
  p0 : Got w wr g0 (B 0)
  p1 : Got w wr g1 (B 1)
  p2 : Got w wr g2 (B 2)
  e : (md2 D a B v i).2 = 0
theorem MdR.grow {w wr w' : World} {b lb mb hb g0 g1 g2 : Nat} {D : DM} {a : Int} {B : Nat → List Nat} {v : List Nat} {i : Nat} (h : MdR w wr b lb mb hb g0 g1 g2 D a B v i) (hB : Below wr.heap.size wr w') : MdR w w' b lb mb hb g0 g1 g2 D a B v i :=
  ⟨h.d.keep hB, h.k.trans (Kp.of hB), fun j v hv => later hB (h.c j v hv), Nat.lt_of_lt_of_le h.hl hB.size, h.hx, h.x, h.p0.keep hB, h.p1.keep hB, h.p2.keep hB, h.e⟩
def pk (g0 g1 g2 i : Nat) : Nat := if i = 0 then g0 else if i = 1 then g1 else g2
theorem pk_cell {w : World} {hb g0 g1 g2 i : Nat} (h : w.rangeAt hb 0 [s64 g0, s64 g1, s64 g2]) (hi : i < 3) : w.cell? ⟨hb, i, none⟩ = some (s64 (pk g0 g1 g2 i)) := by
  have hc : i = 0 ∨ i = 1 ∨ i = 2 := by omega
  rcases hc with rfl | rfl | rfl
  · exact h 0 _ rfl
  · exact h 1 _ rfl
  · exact h 2 _ rfl
theorem MdR.pk {w wr : World} {b lb mb hb g0 g1 g2 : Nat} {D : DM} {a : Int} {B : Nat → List Nat} {v : List Nat} {j i : Nat} (h : MdR w wr b lb mb hb g0 g1 g2 D a B v j) (hi : i < 3) : Got w wr (pk g0 g1 g2 i) (B i) := by
  have hc : i = 0 ∨ i = 1 ∨ i = 2 := by omega
  rcases hc with rfl | rfl | rfl
  · exact h.p0
  · exact h.p1
  · exact h.p2
set_option maxRecDepth 100000 in
set_option maxHeartbeats 8000000 in
theorem mend_any {w : World} {b lb mb : Nat} {D : DM} (h : Dsk w b lb mb D) {a : Int} (ha : few9 a) : Calls Try.prog 33 #[pp b, .int .i64 a] w (WrP w b lb mb (D.mendD a) (D.mendE a)) := by
  have HD := hide h
  have HA := hide ha
  have HC := hide (read3_any h ha)
  clear h ha
  by_cases he : D.ldE a = 0
  · have e1 : D.mendD a = (md2 D a (D.three a) (D.ldB a) 3).1 := if_pos he
    have e2 : D.mendE a = (md2 D a (D.three a) (D.ldB a) 3).2 := if_pos he
    rw [e1, e2]
    obtain ⟨B, hB⟩ : ∃ B, B = D.three a := ⟨_, rfl⟩
    obtain ⟨v, hv⟩ : ∃ v, v = D.ldB a := ⟨_, rfl⟩
    have HBv : Hid (D.rdB a = B 0 ∧ D.rdB (a + 1) = B 1 ∧ D.rdB (a + 2) = B 2 ∧ v = vl (B 0) (B 1) (B 2)) := by
      have b0 : D.rdB a = B 0 := by rw [hB]; show _ = D.rdB (a + ((0 : Nat) : Int)); rw [show a + ((0 : Nat) : Int) = a by omega]
      have b1 : D.rdB (a + 1) = B 1 := by rw [hB]; rfl
      have b2 : D.rdB (a + 2) = B 2 := by rw [hB]; rfl
      exact ⟨b0, b1, b2, by rw [hv, ldB_of he, b0, b1, b2]⟩
    have HS : Hid ((∀ i, i < 3 → sec (B i)) ∧ sec v) := by
      obtain ⟨e0, e1, e2⟩ := ld_rd he
      have s0 := rdB_sec HD.out.ok e0
      have s1 := rdB_sec HD.out.ok e1
      have s2 := rdB_sec HD.out.ok e2
      obtain ⟨b0, b1, b2, bv⟩ := HBv.out
      rw [b0] at s0
      rw [b1] at s1
      rw [b2] at s2
      refine ⟨fun i hi => ?_, by rw [bv]; exact vl_sec s0 s2⟩
      have hc : i = 0 ∨ i = 1 ∨ i = 2 := by omega
      rcases hc with rfl | rfl | rfl
      · exact s0
      · exact s1
      · exact s2
    rw [← hB, ← hv]
    have HE := hide he
    clear e1 e2 he hB hv
    go_enter Try.func33, Try.ntmps33
    go_upto_region 4 with (first
      | (go_at_call 61; refine Calls.mono HC.out ?_; rintro e W1 ⟨hB1, hR⟩; rw [if_pos HE.out] at hR; obtain ⟨g0, g1, g2, rfl, G0, G1, G2⟩ := hR; rw [HBv.out.1] at G0; rw [HBv.out.2.1] at G1; rw [HBv.out.2.2.1] at G2; have HB1 := hide hB1; have HG := hide (And.intro G0 (And.intro G1 G2)); clear hB1 G0 G1 G2))
    have HR0 : Hid (MdR w (W1.alloc (.cells #[s64 g0, s64 g1, s64 g2] 102)) b lb mb W1.heap.size g0 g1 g2 D a B v 0) := by
      have hal : Below W1.heap.size W1 (W1.alloc (.cells #[s64 g0, s64 g1, s64 g2] 102)) := K.alloc (Below.refl _ _) _
      exact ⟨HD.out.keep (K.alloc HB1.out _), Kp.of (K.alloc HB1.out _), range_new W1 [s64 g0, s64 g1, s64 g2] 102, by simp, HD.out.out HB1.out.size, fun g hg => HD.out.out hg, HG.out.1.keep hal, HG.out.2.1.keep hal, HG.out.2.2.keep hal, rfl⟩
    refine wp_let (fun X hX => ?_)
    obtain ⟨hb, hhb⟩ : ∃ hb, hb = W1.heap.size := ⟨_, rfl⟩
    rw [← hX, ← hhb] at HR0
    rw [← hhb]
    clear hX hhb HG HB1
    go_wp2_with (first
      | (go_at_call 62; refine Calls.mono (places_any _ HA.out) ?_; rintro e W2 ⟨rfl, hB2⟩; have HR1 := hide (HR0.out.grow hB2); clear hB2))
    clear HR0
    go_loopg [21] 3 (fun g' s21 wr => ∃ i : Nat, g' = 3 - i ∧ i ≤ 3 ∧ s21 = .int .i64 (i : Int) ∧ MdR w wr b lb mb hb g0 g1 g2 D a B v i)
    case atStart => exact ⟨0, rfl, by omega, rfl, HR1.out⟩
    case round =>
      clear HR1
      obtain ⟨i, rfl, hi3, rfl, hR⟩ := hrel
      have HR := hide hR
      clear hR
      by_cases hlt : i < 3
      · have hlt' : (i : Int) < 3 := by omega
        have HV : ∀ W : World, Below wr.heap.size wr W → Calls Try.prog 64 #[.agg #[s64 g0, s64 g1, s64 g2]] W fun e w' => e = .returned (s64 (vg (B 1) (B 2) g0 g2)) ∧ Below W.heap.size W w' := fun W hW => value_any (HR.out.grow hW).p1.r (HS.out.1 1 (by omega)) (HR.out.grow hW).p2.r (HS.out.1 2 (by omega))
        have HQ : ∀ W : World, Below wr.heap.size wr W → Calls Try.prog 63 #[s64 (pk g0 g1 g2 i), s64 (vg (B 1) (B 2) g0 g2)] W fun e w' => e = .returned (.bool (decide (B i = v))) ∧ w' = W := fun W hW => by
          have hg := (HR.out.grow hW).p0.val (l1 := B 1) (HR.out.grow hW).p2
          rw [← HBv.out.2.2.2] at hg
          exact eq_any ((HR.out.grow hW).pk hlt).r (HS.out.1 i hlt) hg.r HS.out.2
        have HP : ∀ W : World, Below wr.heap.size wr W → Calls Try.prog 65 #[pp b, .int .i64 (a + (i : Int)), s64 (vg (B 1) (B 2) g0 g2)] W (WrP W b lb mb ((md2 D a B v i).1.ws (a + (i : Int)) v) ((md2 D a B v i).1.wsE (a + (i : Int)) v)) := fun W hW => by
          have hg := (HR.out.grow hW).p0.val (l1 := B 1) (HR.out.grow hW).p2
          rw [← HBv.out.2.2.2] at hg
          have := put_any (c := 64) (HR.out.grow hW).d (a + (i : Int)) (ba_sec hg.r HS.out.2) (fun _ p hp => by cases hp; exact HR.out.x _ hg.ge)
          rwa [fl_of HS.out.2.1] at this
        replace HV := hide HV
        replace HQ := hide HQ
        replace HP := hide HP
        go_upto_region 7 with (refine wpList_idx3 rfl _ _ rfl (by rfl) (by rfl) hlt ?_)
        refine wp_region_noPanic ?_
        refine wp_region_held_drew (S := fun w' => w'.rangeAt hb 0 [s64 g0, s64 g1, s64 g2]) (by kernel_rfl) HR.out.c (fun hS0 => ?_)
        refine wpAnyH_take (i := 0) (v := .int .i64 (i : Int)) rfl (by kernel_rfl) (by kernel_rfl) (by kernel_rfl) (fun _ _ _ h => h) (Or.inl ⟨by rfl, fun w' _ => by go_simp⟩) hS0 ?_
        simp only [Act.put, List.getElem_toArray, List.getElem_cons_zero, List.setIfInBounds_toArray, List.set_cons_zero, List.set_cons_succ]
        refine wpAnyH_take (i := 1) (v := .pointer (some ⟨hb, i, none⟩)) rfl (by kernel_rfl) (by kernel_rfl) (by kernel_rfl) (fun _ _ _ h => h) (Or.inl ⟨by rfl, fun w' _ => by go_simp⟩) hS0 ?_
        simp only [Act.put, List.getElem_toArray, List.getElem_cons_zero, List.getElem_cons_succ, List.setIfInBounds_toArray, List.set_cons_zero, List.set_cons_succ]
        refine wpAnyH_take (i := 2) (v := s64 (pk g0 g1 g2 i)) rfl (by kernel_rfl) (by kernel_rfl) (by kernel_rfl) (fun _ _ _ h => h) (Or.inl ⟨by rfl, fun w' hS => by have hc := pk_cell hS hlt; go_simp⟩) hS0 ?_
        simp only [Act.put, List.getElem_toArray, List.getElem_cons_zero, List.getElem_cons_succ, List.setIfInBounds_toArray, List.set_cons_zero, List.set_cons_succ]
        refine wpAnyH_take (i := 3) (v := .agg #[s64 g0, s64 g1, s64 g2]) rfl (by kernel_rfl) (by kernel_rfl) (by kernel_rfl) (fun _ _ _ h => h) (yieldsIf_load_mid (by rfl) 102 _ rfl hb 0 (by rfl) ([s64 g0, s64 g1, s64 g2]) _ (fun w' hS => hS) Try.underlying102 rfl size3B) hS0 ?_
        simp only [Act.put, List.getElem_toArray, List.getElem_cons_zero, List.getElem_cons_succ, List.setIfInBounds_toArray, List.set_cons_zero, List.set_cons_succ]
        refine wpAnyH_ready (rs := [4]) (by kernel_rfl) (by simp) (AllReadyH.cons rfl (fun Kt hK => ?_) AllReadyH.nil)
        refine wanted_pos rfl ?_
        refine wp_call (R := fun x w' => x = s64 (vg (B 1) (B 2) g0 g2) ∧ Below wr.drew.heap.size wr.drew w') (vs := #[.agg #[s64 g0, s64 g1, s64 g2]]) rfl (by simp only [List.map_toArray, List.map_cons, List.map_nil]; rfl) (by go_simp) (Calls.mono (HV.out _ (K.drew (Below.refl _ _))) (fun e w' he => ⟨_, he.1, rfl, he.2⟩)) (fun x W6 hr => ?_)
        obtain ⟨hx, hb6⟩ := hr
        subst hx
        refine hK.out _ _ (fun j v hv => later hb6 (hS0 j v hv)) (fun hS1 => ?_)
        clear hK Kt
        simp only [Act.put, List.getElem_toArray, List.getElem_cons_zero, List.getElem_cons_succ, List.setIfInBounds_toArray, List.set_cons_zero, List.set_cons_succ]
        refine wpAnyH_ready (rs := [5]) (by kernel_rfl) (by simp) (AllReadyH.cons rfl (fun Kt hK => ?_) AllReadyH.nil)
        refine wanted_pos rfl ?_
        refine wp_call (R := fun x w' => x = .bool (decide (B i = v)) ∧ w' = W6) (vs := #[s64 (pk g0 g1 g2 i), s64 (vg (B 1) (B 2) g0 g2)]) rfl (by simp only [List.map_toArray, List.map_cons, List.map_nil]; rfl) (by go_simp) (Calls.mono (HQ.out W6 (K.call (K.drew (Below.refl _ _)) hb6)) (fun e w' he => ⟨_, he.1, rfl, he.2⟩)) (fun x W7 hr => ?_)
        obtain ⟨hx, rfl⟩ := hr
        subst hx
        refine hK.out _ _ hS1 (fun hS2 => ?_)
        clear hK Kt
        simp only [Act.put, List.getElem_toArray, List.getElem_cons_zero, List.getElem_cons_succ, List.setIfInBounds_toArray, List.set_cons_zero, List.set_cons_succ]
        refine wpAnyH_done (by kernel_rfl) ?_ _
        refine NoPanic.normal ?_
        have HR6 := hide (HR.out.grow (K.call (K.drew (Below.refl _ _)) hb6))
        have HB6 := hide (K.call (K.drew (Below.refl wr.heap.size wr)) hb6)
        clear hS0 hS1 hS2 hb6
        by_cases hs : B i = v
        · have hd : decide (B i = v) = true := decide_eq_true hs
          have HN : Hid (md2 D a B v (i + 1) = md2 D a B v i) := (if_pos HR.out.e).trans (if_pos hs)
          rw [hd]
          go_wp2_with fail
          go_roundg (3 - (i + 1))
          case measure => omega
          case rel => exact ⟨i + 1, rfl, by omega, by simp, by
            have h := HR6.out
            exact ⟨by rw [HN.out]; exact h.d, h.k, h.c, h.hl, h.hx, h.x, h.p0, h.p1, h.p2, by rw [HN.out]; exact h.e⟩⟩
        · have hd : decide (B i = v) = false := decide_eq_false hs
          have HN : Hid (md2 D a B v (i + 1) = ((md2 D a B v i).1.ws (a + (i : Int)) v, (md2 D a B v i).1.wsE (a + (i : Int)) v)) := (if_pos HR.out.e).trans (if_neg hs)
          rw [hd]
          clear hs hd
          by_cases he : (md2 D a B v i).1.wsE (a + (i : Int)) v = 0
          · have HE2 := hide he
            rw [he] at HP
            clear he
            go_wp2_with (first
              | (refine wpList_ld3 rfl _ rfl (by rfl) HR6.out.c ?_)
              | (go_at_call 64; refine Calls.mono (HV.out _ HB6.out) ?_; rintro e W8 ⟨rfl, hB8⟩; have HB8 := hide (K.call HB6.out hB8); have HR8 := hide (HR6.out.grow hB8); clear hB8)
              | (go_at_call 65; refine Calls.mono (HP.out _ HB8.out) ?_; rintro e W9 ⟨rfl, hD9, hK9⟩; have H9 := hide (And.intro hD9 hK9); clear hD9 hK9))
            go_roundg (3 - (i + 1))
            case measure => omega
            case rel => exact ⟨i + 1, rfl, by omega, by simp, by
              have h := HR8.out
              obtain ⟨hD9, hK9⟩ := H9.out
              exact ⟨by rw [HN.out]; exact hD9, h.k.trans hK9, hK9.range h.c h.hl h.hx, Nat.lt_of_lt_of_le h.hl hK9.size, h.hx, h.x, h.p0.kp hK9 (h.x _ h.p0.ge), h.p1.kp hK9 (h.x _ h.p1.ge), h.p2.kp hK9 (h.x _ h.p2.ge), by rw [HN.out]; exact HE2.out⟩⟩
          · have hne : ((md2 D a B v i).1.wsE (a + (i : Int)) v != 0) = true := by simp [he]
            have hne' : ((md2 D a B v i).1.wsE (a + (i : Int)) v == 0) = false := by simp [he]
            have HE2 := hide he
            clear he
            go_wp2_with (first
              | (refine wpList_ld3 rfl _ rfl (by rfl) HR6.out.c ?_)
              | (go_at_call 64; refine Calls.mono (HV.out _ HB6.out) ?_; rintro e W8 ⟨rfl, hB8⟩; have HB8 := hide (K.call HB6.out hB8); have HR8 := hide (HR6.out.grow hB8); clear hB8)
              | (go_at_call 65; refine Calls.mono (HP.out _ HB8.out) ?_; rintro e W9 ⟨rfl, hD9, hK9⟩; have H9 := hide (And.intro hD9 hK9); clear hD9 hK9))
            go_ret
            have e3 : md2 D a B v 3 = md2 D a B v (i + 1) := md2_err (by rw [HN.out]; exact HE2.out) 3 (by omega)
            rw [HN.out] at e3
            rw [e3]
            exact ⟨rfl, H9.out.1, HR8.out.k.trans H9.out.2⟩
      · obtain rfl : i = 3 := by omega
        go_wp2_with fail
        go_ret
        exact ⟨by rw [HR.out.e]; rfl, HR.out.d, HR.out.k⟩
  · have e1 : D.mendD a = D := if_neg he
    have e2 : D.mendE a = D.ldE a := if_neg he
    rw [e1, e2]
    have hne : (D.ldE a != 0) = true := by simp [he]
    have hne' : (D.ldE a == 0) = false := by simp [he]
    have HE := hide he
    clear e1 e2 he
    go_enter Try.func33, Try.ntmps33
    go_wp2_with (first
      | (go_at_call 61; refine Calls.mono HC.out ?_; rintro e W1 ⟨hB1, hR⟩; rw [if_neg HE.out] at hR; obtain ⟨p0, n0, c0, p1, n1, c1, p2, n2, c2, rfl⟩ := hR; have HB1 := hide hB1; clear hB1))
    go_ret
    exact ⟨rfl, HD.out.keep (K.alloc HB1.out _), Kp.of (K.alloc HB1.out _)⟩
theorem mend_nil (w : World) (a : Int) : Calls Try.prog 33 #[.pointer none, .int .i64 a] w fun e w' => e = .returned (.int .i64 1) ∧ Below w.heap.size w w' := by
  go_enter Try.func33, Try.ntmps33
  go_wp2_with (go_at_call 61; refine Calls.mono (read3_nil _ _) ?_; rintro e W1 ⟨rfl, hB1⟩)
  go_ret
  exact ⟨rfl, K.alloc (K.call (Below.refl _ _) hB1) _⟩
end Go.Proofs.Ytjgpopjpmfkfmaa
