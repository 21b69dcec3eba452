/- Layer 14: Mend. Layer 14, pure: marks on a disk that is up and without a fuse; how many operations a Save takes. Layer 14: the document's Full; what the laws ask of a disk. Layer 15, pure: entries on a disk, over the disk's model. (Made ahead; it speaks of the model alone.) Layer 15: lists of texts in memory; the document's Takes, All and Same. -/
import Derived.Test.YtpophfeommlajaaMP29
import Derived.Test.YtpophfeommlajaaMP24
import Derived.Test.YtpophfeommlajaaMP27
namespace Go.Proofs.Ytpophfeommlajaa
set_option maxRecDepth 100000
open Go.RowKit Go.Maps
attribute [local go_sem ↓] Go.wp_at_zero Go.wp_at_succ

/-- The first j sectors of a mark, that had B, are mended. -/
def md2 (D : DM) (a : Int) (B : Nat → List Nat) (v : List Nat) : Nat → DM × Int
  | 0 => (D, 0)
  | j + 1 => if (md2 D a B v j).2 = 0 then (if B j = v then md2 D a B v j else ((md2 D a B v j).1.ws (a + (j : Int)) v, (md2 D a B v j).1.wsE (a + (j : Int)) v)) else md2 D a B v j
theorem md2_err {D : DM} {a : Int} {B : Nat → List Nat} {l : List Nat} {j : Nat} (h : (md2 D a B l j).2 ≠ 0) : ∀ k, j ≤ k → md2 D a B l k = md2 D a B l j := by
  intro k hk
  induction k with
  | zero => rw [show j = 0 by omega]
  | succ k ih =>
    by_cases e : j = k + 1
    · rw [e]
    · have ih := ih (by omega)
      show (if (md2 D a B l k).2 = 0 then _ else md2 D a B l k) = _
      rw [ih, if_neg h]
/-- A Mend on a calm disk. -/
theorem md2_steps {D : DM} (h : D.calm) {a : Nat} (ha : a + 2 < D.n) {B : Nat → List Nat} (hB : ∀ j, j < 3 → B j = D.la (a + j)) {v : List Nat} (hv : sec v) : ∀ j, j ≤ 3 → ((md2 D a B v j).2 = 0 ∧ Went D (md2 D a B v j).1 a j v) ∨ ((md2 D a B v j).2 = 6 ∧ ∃ q, q < j ∧ D.la (a + q) ≠ v ∧ Fell D (md2 D a B v j).1 a q v)
  | 0, _ => Or.inl ⟨rfl, h, rfl, (upTo_zero _ _ _).symm⟩
  | j + 1, hj => by
    rcases md2_steps h ha hB hv j (by omega) with ⟨e, hw⟩ | ⟨e, q, hq, hf⟩
    · by_cases hs : D.la (a + j) = v
      · have es : md2 D a B v (j + 1) = md2 D a B v j := (if_pos e).trans (if_pos ((hB j (by omega)).trans hs))
        rw [es]
        exact Or.inl ⟨e, hw.c, hw.n, by rw [hw.la, upTo_same hs]⟩
      · have es : md2 D a B v (j + 1) = ((md2 D a B v j).1.ws ((a : Int) + (j : Int)) v, (md2 D a B v j).1.wsE ((a : Int) + (j : Int)) v) := (if_pos e).trans (if_neg (fun e2 => hs ((hB j (by omega)).symm.trans e2)))
        rw [es]
        rcases hw.ws (by omega) hv with ⟨e1, h1⟩ | ⟨e1, h1⟩
        · exact Or.inl ⟨e1, h1⟩
        · exact Or.inr ⟨e1, j, by omega, hs, h1⟩
    · have es : md2 D a B v (j + 1) = md2 D a B v j := if_neg (by rw [e]; decide)
      rw [es]
      exact Or.inr ⟨e, q, by omega, hf⟩
/-- What Mend leaves, and answers. -/
def DM.three (D : DM) (a : Int) (j : Nat) : List Nat := D.rdB (a + (j : Int))
def DM.mendD (D : DM) (a : Int) : DM := if D.ldE a = 0 then (md2 D a (D.three a) (D.ldB a) 3).1 else D
def DM.mendE (D : DM) (a : Int) : Int := if D.ldE a = 0 then (md2 D a (D.three a) (D.ldB a) 3).2 else D.ldE a
theorem Got.kp {w wr w' : World} {g : Nat} {l : List Nat} (h : Got w wr g l) {X : Nat → Bool} (hK : Kp X wr w') (hx : X g = false) : Got w w' g l := ⟨h.ge, Nat.lt_of_lt_of_le h.lt hK.size, hK.range h.r h.lt hx⟩
/-- While the three are mended. -/
structure MdR (w wr : World) (b lb mb hb g0 g1 g2 : Nat) (D : DM) (a : Int) (B : Nat → List Nat) (v : List Nat) (i : Nat) : Prop where
  d : Dsk wr b lb mb (md2 D a B v i).1
  k : Kp (X3 b lb mb) w wr
  c : wr.rangeAt hb 0 [s64 g0, s64 g1, s64 g2]
  hl : hb < wr.heap.size
  hx : X3 b lb mb hb = false
  x : ∀ g, w.heap.size ≤ g → X3 b lb mb g = false
  p0 : Got w wr g0 (B 0)
  p1 : Got w wr g1 (B 1)
  p2 : Got w wr g2 (B 2)
  e : (md2 D a B v i).2 = 0
theorem MdR.grow {w wr w' : World} {b lb mb hb g0 g1 g2 : Nat} {D : DM} {a : Int} {B : Nat → List Nat} {v : List Nat} {i : Nat} (h : MdR w wr b lb mb hb g0 g1 g2 D a B v i) (hB : Below wr.heap.size wr w') : MdR w w' b lb mb hb g0 g1 g2 D a B v i :=
  ⟨h.d.keep hB, h.k.trans (Kp.of hB), fun j v hv => later hB (h.c j v hv), Nat.lt_of_lt_of_le h.hl hB.size, h.hx, h.x, h.p0.keep hB, h.p1.keep hB, h.p2.keep hB, h.e⟩
def pk (g0 g1 g2 i : Nat) : Nat := if i = 0 then g0 else if i = 1 then g1 else g2
theorem pk_cell {w : World} {hb g0 g1 g2 i : Nat} (h : w.rangeAt hb 0 [s64 g0, s64 g1, s64 g2]) (hi : i < 3) : w.cell? ⟨hb, i, none⟩ = some (s64 (pk g0 g1 g2 i)) := by
  have hc : i = 0 ∨ i = 1 ∨ i = 2 := by omega
  rcases hc with rfl | rfl | rfl
  · exact h 0 _ rfl
  · exact h 1 _ rfl
  · exact h 2 _ rfl
theorem MdR.pk {w wr : World} {b lb mb hb g0 g1 g2 : Nat} {D : DM} {a : Int} {B : Nat → List Nat} {v : List Nat} {j i : Nat} (h : MdR w wr b lb mb hb g0 g1 g2 D a B v j) (hi : i < 3) : Got w wr (pk g0 g1 g2 i) (B i) := by
  have hc : i = 0 ∨ i = 1 ∨ i = 2 := by omega
  rcases hc with rfl | rfl | rfl
  · exact h.p0
  · exact h.p1
  · exact h.p2
set_option maxRecDepth 100000 in
set_option maxHeartbeats 8000000 in
theorem mend_any {w : World} {b lb mb : Nat} {D : DM} (h : Dsk w b lb mb D) {a : Int} (ha : few9 a) : Calls Try.prog 22 #[pp b, .int .i64 a] w (WrP w b lb mb (D.mendD a) (D.mendE a)) := by
  have HD := hide h
  have HA := hide ha
  have HC := hide (read3_any h ha)
  clear h ha
  by_cases he : D.ldE a = 0
  · have e1 : D.mendD a = (md2 D a (D.three a) (D.ldB a) 3).1 := if_pos he
    have e2 : D.mendE a = (md2 D a (D.three a) (D.ldB a) 3).2 := if_pos he
    rw [e1, e2]
    obtain ⟨B, hB⟩ : ∃ B, B = D.three a := ⟨_, rfl⟩
    obtain ⟨v, hv⟩ : ∃ v, v = D.ldB a := ⟨_, rfl⟩
    have HBv : Hid (D.rdB a = B 0 ∧ D.rdB (a + 1) = B 1 ∧ D.rdB (a + 2) = B 2 ∧ v = vl (B 0) (B 1) (B 2)) := by
      have b0 : D.rdB a = B 0 := by rw [hB]; show _ = D.rdB (a + ((0 : Nat) : Int)); rw [show a + ((0 : Nat) : Int) = a by omega]
      have b1 : D.rdB (a + 1) = B 1 := by rw [hB]; rfl
      have b2 : D.rdB (a + 2) = B 2 := by rw [hB]; rfl
      exact ⟨b0, b1, b2, by rw [hv, ldB_of he, b0, b1, b2]⟩
    have HS : Hid ((∀ i, i < 3 → sec (B i)) ∧ sec v) := by
      obtain ⟨e0, e1, e2⟩ := ld_rd he
      have s0 := rdB_sec HD.out.ok e0
      have s1 := rdB_sec HD.out.ok e1
      have s2 := rdB_sec HD.out.ok e2
      obtain ⟨b0, b1, b2, bv⟩ := HBv.out
      rw [b0] at s0
      rw [b1] at s1
      rw [b2] at s2
      refine ⟨fun i hi => ?_, by rw [bv]; exact vl_sec s0 s2⟩
      have hc : i = 0 ∨ i = 1 ∨ i = 2 := by omega
      rcases hc with rfl | rfl | rfl
      · exact s0
      · exact s1
      · exact s2
    rw [← hB, ← hv]
    have HE := hide he
    clear e1 e2 he hB hv
    go_enter Try.func22, Try.ntmps22
    go_upto_region 4 with (first
      | (go_at_call 57; refine Calls.mono HC.out ?_; rintro e W1 ⟨hB1, hR⟩; rw [if_pos HE.out] at hR; obtain ⟨g0, g1, g2, rfl, G0, G1, G2⟩ := hR; rw [HBv.out.1] at G0; rw [HBv.out.2.1] at G1; rw [HBv.out.2.2.1] at G2; have HB1 := hide hB1; have HG := hide (And.intro G0 (And.intro G1 G2)); clear hB1 G0 G1 G2))
    have HR0 : Hid (MdR w (W1.alloc (.cells #[s64 g0, s64 g1, s64 g2] 97)) b lb mb W1.heap.size g0 g1 g2 D a B v 0) := by
      have hal : Below W1.heap.size W1 (W1.alloc (.cells #[s64 g0, s64 g1, s64 g2] 97)) := K.alloc (Below.refl _ _) _
      exact ⟨HD.out.keep (K.alloc HB1.out _), Kp.of (K.alloc HB1.out _), range_new W1 [s64 g0, s64 g1, s64 g2] 97, by simp, HD.out.out HB1.out.size, fun g hg => HD.out.out hg, HG.out.1.keep hal, HG.out.2.1.keep hal, HG.out.2.2.keep hal, rfl⟩
    refine wp_let (fun X hX => ?_)
    obtain ⟨hb, hhb⟩ : ∃ hb, hb = W1.heap.size := ⟨_, rfl⟩
    rw [← hX, ← hhb] at HR0
    rw [← hhb]
    clear hX hhb HG HB1
    go_wp2_with (first
      | (go_at_call 58; refine Calls.mono (places_any _ HA.out) ?_; rintro e W2 ⟨rfl, hB2⟩; have HR1 := hide (HR0.out.grow hB2); clear hB2))
    clear HR0
    go_loopg [21] 3 (fun g' s21 wr => ∃ i : Nat, g' = 3 - i ∧ i ≤ 3 ∧ s21 = .int .i64 (i : Int) ∧ MdR w wr b lb mb hb g0 g1 g2 D a B v i)
    case atStart => exact ⟨0, rfl, by omega, rfl, HR1.out⟩
    case round =>
      clear HR1
      obtain ⟨i, rfl, hi3, rfl, hR⟩ := hrel
      have HR := hide hR
      clear hR
      by_cases hlt : i < 3
      · have hlt' : (i : Int) < 3 := by omega
        have HV : ∀ W : World, Below wr.heap.size wr W → Calls Try.prog 60 #[.agg #[s64 g0, s64 g1, s64 g2]] W fun e w' => e = .returned (s64 (vg (B 1) (B 2) g0 g2)) ∧ Below W.heap.size W w' := fun W hW => value_any (HR.out.grow hW).p1.r (HS.out.1 1 (by omega)) (HR.out.grow hW).p2.r (HS.out.1 2 (by omega))
        have HQ : ∀ W : World, Below wr.heap.size wr W → Calls Try.prog 59 #[s64 (pk g0 g1 g2 i), s64 (vg (B 1) (B 2) g0 g2)] W fun e w' => e = .returned (.bool (decide (B i = v))) ∧ w' = W := fun W hW => by
          have hg := (HR.out.grow hW).p0.val (l1 := B 1) (HR.out.grow hW).p2
          rw [← HBv.out.2.2.2] at hg
          exact eq_any ((HR.out.grow hW).pk hlt).r (HS.out.1 i hlt) hg.r HS.out.2
        have HP : ∀ W : World, Below wr.heap.size wr W → Calls Try.prog 61 #[pp b, .int .i64 (a + (i : Int)), s64 (vg (B 1) (B 2) g0 g2)] W (WrP W b lb mb ((md2 D a B v i).1.ws (a + (i : Int)) v) ((md2 D a B v i).1.wsE (a + (i : Int)) v)) := fun W hW => by
          have hg := (HR.out.grow hW).p0.val (l1 := B 1) (HR.out.grow hW).p2
          rw [← HBv.out.2.2.2] at hg
          have := put_any (c := 64) (HR.out.grow hW).d (a + (i : Int)) (ba_sec hg.r HS.out.2) (fun _ p hp => by cases hp; exact HR.out.x _ hg.ge)
          rwa [fl_of HS.out.2.1] at this
        replace HV := hide HV
        replace HQ := hide HQ
        replace HP := hide HP
        go_upto_region 7 with (refine wpList_idx3 rfl _ _ rfl (by rfl) (by rfl) hlt ?_)
        refine wp_region_noPanic ?_
        refine wp_region_held_drew (S := fun w' => w'.rangeAt hb 0 [s64 g0, s64 g1, s64 g2]) (by kernel_rfl) HR.out.c (fun hS0 => ?_)
        refine wpAnyH_take (i := 0) (v := .int .i64 (i : Int)) rfl (by kernel_rfl) (by kernel_rfl) (by kernel_rfl) (fun _ _ _ h => h) (Or.inl ⟨by rfl, fun w' _ => by go_simp⟩) hS0 ?_
        simp only [Act.put, List.getElem_toArray, List.getElem_cons_zero, List.setIfInBounds_toArray, List.set_cons_zero, List.set_cons_succ]
        refine wpAnyH_take (i := 1) (v := .pointer (some ⟨hb, i, none⟩)) rfl (by kernel_rfl) (by kernel_rfl) (by kernel_rfl) (fun _ _ _ h => h) (Or.inl ⟨by rfl, fun w' _ => by go_simp⟩) hS0 ?_
        simp only [Act.put, List.getElem_toArray, List.getElem_cons_zero, List.getElem_cons_succ, List.setIfInBounds_toArray, List.set_cons_zero, List.set_cons_succ]
        refine wpAnyH_take (i := 2) (v := s64 (pk g0 g1 g2 i)) rfl (by kernel_rfl) (by kernel_rfl) (by kernel_rfl) (fun _ _ _ h => h) (Or.inl ⟨by rfl, fun w' hS => by have hc := pk_cell hS hlt; go_simp⟩) hS0 ?_
        simp only [Act.put, List.getElem_toArray, List.getElem_cons_zero, List.getElem_cons_succ, List.setIfInBounds_toArray, List.set_cons_zero, List.set_cons_succ]
        refine wpAnyH_take (i := 3) (v := .agg #[s64 g0, s64 g1, s64 g2]) rfl (by kernel_rfl) (by kernel_rfl) (by kernel_rfl) (fun _ _ _ h => h) (yieldsIf_load_mid (by rfl) 97 _ rfl hb 0 (by rfl) ([s64 g0, s64 g1, s64 g2]) _ (fun w' hS => hS) Try.underlying97 rfl size3B) hS0 ?_
        simp only [Act.put, List.getElem_toArray, List.getElem_cons_zero, List.getElem_cons_succ, List.setIfInBounds_toArray, List.set_cons_zero, List.set_cons_succ]
        refine wpAnyH_ready (rs := [4]) (by kernel_rfl) (by simp) (AllReadyH.cons rfl (fun Kt hK => ?_) AllReadyH.nil)
        refine wanted_pos rfl ?_
        refine wp_call (R := fun x w' => x = s64 (vg (B 1) (B 2) g0 g2) ∧ Below wr.drew.heap.size wr.drew w') (vs := #[.agg #[s64 g0, s64 g1, s64 g2]]) rfl (by simp only [List.map_toArray, List.map_cons, List.map_nil]; rfl) (by go_simp) (Calls.mono (HV.out _ (K.drew (Below.refl _ _))) (fun e w' he => ⟨_, he.1, rfl, he.2⟩)) (fun x W6 hr => ?_)
        obtain ⟨hx, hb6⟩ := hr
        subst hx
        refine hK.out _ _ (fun j v hv => later hb6 (hS0 j v hv)) (fun hS1 => ?_)
        clear hK Kt
        simp only [Act.put, List.getElem_toArray, List.getElem_cons_zero, List.getElem_cons_succ, List.setIfInBounds_toArray, List.set_cons_zero, List.set_cons_succ]
        refine wpAnyH_ready (rs := [5]) (by kernel_rfl) (by simp) (AllReadyH.cons rfl (fun Kt hK => ?_) AllReadyH.nil)
        refine wanted_pos rfl ?_
        refine wp_call (R := fun x w' => x = .bool (decide (B i = v)) ∧ w' = W6) (vs := #[s64 (pk g0 g1 g2 i), s64 (vg (B 1) (B 2) g0 g2)]) rfl (by simp only [List.map_toArray, List.map_cons, List.map_nil]; rfl) (by go_simp) (Calls.mono (HQ.out W6 (K.call (K.drew (Below.refl _ _)) hb6)) (fun e w' he => ⟨_, he.1, rfl, he.2⟩)) (fun x W7 hr => ?_)
        obtain ⟨hx, rfl⟩ := hr
        subst hx
        refine hK.out _ _ hS1 (fun hS2 => ?_)
        clear hK Kt
        simp only [Act.put, List.getElem_toArray, List.getElem_cons_zero, List.getElem_cons_succ, List.setIfInBounds_toArray, List.set_cons_zero, List.set_cons_succ]
        refine wpAnyH_done (by kernel_rfl) ?_ _
        refine NoPanic.normal ?_
        have HR6 := hide (HR.out.grow (K.call (K.drew (Below.refl _ _)) hb6))
        have HB6 := hide (K.call (K.drew (Below.refl wr.heap.size wr)) hb6)
        clear hS0 hS1 hS2 hb6
        by_cases hs : B i = v
        · have hd : decide (B i = v) = true := decide_eq_true hs
          have HN : Hid (md2 D a B v (i + 1) = md2 D a B v i) := (if_pos HR.out.e).trans (if_pos hs)
          rw [hd]
          go_wp2_with fail
          go_roundg (3 - (i + 1))
          case measure => omega
          case rel => exact ⟨i + 1, rfl, by omega, by simp, by
            have h := HR6.out
            exact ⟨by rw [HN.out]; exact h.d, h.k, h.c, h.hl, h.hx, h.x, h.p0, h.p1, h.p2, by rw [HN.out]; exact h.e⟩⟩
        · have hd : decide (B i = v) = false := decide_eq_false hs
          have HN : Hid (md2 D a B v (i + 1) = ((md2 D a B v i).1.ws (a + (i : Int)) v, (md2 D a B v i).1.wsE (a + (i : Int)) v)) := (if_pos HR.out.e).trans (if_neg hs)
          rw [hd]
          clear hs hd
          by_cases he : (md2 D a B v i).1.wsE (a + (i : Int)) v = 0
          · have HE2 := hide he
            rw [he] at HP
            clear he
            go_wp2_with (first
              | (refine wpList_ld3 rfl _ rfl (by rfl) HR6.out.c ?_)
              | (go_at_call 60; refine Calls.mono (HV.out _ HB6.out) ?_; rintro e W8 ⟨rfl, hB8⟩; have HB8 := hide (K.call HB6.out hB8); have HR8 := hide (HR6.out.grow hB8); clear hB8)
              | (go_at_call 61; refine Calls.mono (HP.out _ HB8.out) ?_; rintro e W9 ⟨rfl, hD9, hK9⟩; have H9 := hide (And.intro hD9 hK9); clear hD9 hK9))
            go_roundg (3 - (i + 1))
            case measure => omega
            case rel => exact ⟨i + 1, rfl, by omega, by simp, by
              have h := HR8.out
              obtain ⟨hD9, hK9⟩ := H9.out
              exact ⟨by rw [HN.out]; exact hD9, h.k.trans hK9, hK9.range h.c h.hl h.hx, Nat.lt_of_lt_of_le h.hl hK9.size, h.hx, h.x, h.p0.kp hK9 (h.x _ h.p0.ge), h.p1.kp hK9 (h.x _ h.p1.ge), h.p2.kp hK9 (h.x _ h.p2.ge), by rw [HN.out]; exact HE2.out⟩⟩
          · have hne : ((md2 D a B v i).1.wsE (a + (i : Int)) v != 0) = true := by simp [he]
            have hne' : ((md2 D a B v i).1.wsE (a + (i : Int)) v == 0) = false := by simp [he]
            have HE2 := hide he
            clear he
            go_wp2_with (first
              | (refine wpList_ld3 rfl _ rfl (by rfl) HR6.out.c ?_)
              | (go_at_call 60; refine Calls.mono (HV.out _ HB6.out) ?_; rintro e W8 ⟨rfl, hB8⟩; have HB8 := hide (K.call HB6.out hB8); have HR8 := hide (HR6.out.grow hB8); clear hB8)
              | (go_at_call 61; refine Calls.mono (HP.out _ HB8.out) ?_; rintro e W9 ⟨rfl, hD9, hK9⟩; have H9 := hide (And.intro hD9 hK9); clear hD9 hK9))
            go_ret
            have e3 : md2 D a B v 3 = md2 D a B v (i + 1) := md2_err (by rw [HN.out]; exact HE2.out) 3 (by omega)
            rw [HN.out] at e3
            rw [e3]
            exact ⟨rfl, H9.out.1, HR8.out.k.trans H9.out.2⟩
      · obtain rfl : i = 3 := by omega
        go_wp2_with fail
        go_ret
        exact ⟨by rw [HR.out.e]; rfl, HR.out.d, HR.out.k⟩
  · have e1 : D.mendD a = D := if_neg he
    have e2 : D.mendE a = D.ldE a := if_neg he
    rw [e1, e2]
    have hne : (D.ldE a != 0) = true := by simp [he]
    have hne' : (D.ldE a == 0) = false := by simp [he]
    have HE := hide he
    clear e1 e2 he
    go_enter Try.func22, Try.ntmps22
    go_wp2_with (first
      | (go_at_call 57; refine Calls.mono HC.out ?_; rintro e W1 ⟨hB1, hR⟩; rw [if_neg HE.out] at hR; obtain ⟨p0, n0, c0, p1, n1, c1, p2, n2, c2, rfl⟩ := hR; have HB1 := hide hB1; clear hB1))
    go_ret
    exact ⟨rfl, HD.out.keep (K.alloc HB1.out _), Kp.of (K.alloc HB1.out _)⟩
end Go.Proofs.Ytpophfeommlajaa
namespace Go.Proofs.Ytpophfeommlajaa
set_option maxRecDepth 100000

/-- A disk that is up, without a fuse. -/
structure DM.free (D : DM) : Prop where
  dn : D.dn = false
  fu : D.fu = none
theorem new_free (n : Nat) : (DM.new n).free := ⟨rfl, rfl⟩
theorem wr_free {D : DM} (h : D.free) {i : Nat} (hi : i < D.n) {l : List Nat} (hl : sec l) : D.wrE (i : Int) l.length = 0 ∧ (D.wr (i : Int) l).free ∧ (D.wr (i : Int) l).n = D.n ∧ ∀ j, (D.wr (i : Int) l).cur j = if j = i then l else D.cur j := by
  obtain ⟨n, la, nw, fu, dn⟩ := D
  obtain ⟨h1, h2⟩ := h
  simp only at h1 h2 hi
  subst h1 h2
  have hi' : (0 : Int) ≤ (i : Int) ∧ (i : Int) < (n : Int) := by omega
  have hl1 := hl.1
  have e : (⟨n, la, nw, none, false⟩ : DM).wr (i : Int) l = ⟨n, la, upd nw i (some l), none, false⟩ := by simp [DM.wr, DM.may, DM.burn, hi', hl1]
  refine ⟨by simp [DM.wrE, DM.may, hi', hl1], ?_, ?_, fun j => ?_⟩
  · rw [e]; exact ⟨rfl, rfl⟩
  · rw [e]
  · rw [e]
    unfold DM.cur upd
    by_cases e2 : j = i
    · simp [e2]
    · simp [e2]
theorem sy_free' {D : DM} (h : D.free) : D.syE = 0 ∧ D.sy.free ∧ D.sy.n = D.n ∧ ∀ j, D.sy.cur j = D.cur j := by
  obtain ⟨n, la, nw, fu, dn⟩ := D
  obtain ⟨h1, h2⟩ := h
  simp only at h1 h2
  subst h1 h2
  exact ⟨rfl, ⟨rfl, rfl⟩, rfl, fun j => rfl⟩
theorem ws_free {D : DM} (h : D.free) {i : Nat} (hi : i < D.n) {l : List Nat} (hl : sec l) : D.wsE (i : Int) l = 0 ∧ (D.ws (i : Int) l).free ∧ (D.ws (i : Int) l).n = D.n ∧ ∀ j, (D.ws (i : Int) l).cur j = if j = i then l else D.cur j := by
  obtain ⟨h1, h2, h3, h4⟩ := wr_free h hi hl
  obtain ⟨g1, g2, g3, g4⟩ := sy_free' h2
  have e1 : D.wsE (i : Int) l = (D.wr (i : Int) l).syE := if_pos h1
  have e2 : D.ws (i : Int) l = (D.wr (i : Int) l).sy := if_pos h1
  rw [e1, e2]
  exact ⟨g1, g2, g3.trans h3, fun j => (g4 j).trans (h4 j)⟩
theorem rd_free {D : DM} (h : D.free) {i : Nat} (hi : i < D.n) : D.rdE (i : Int) = 0 ∧ D.rdB (i : Int) = D.cur i := by
  have hi' : (0 : Int) ≤ (i : Int) ∧ (i : Int) < (D.n : Int) := by omega
  refine ⟨by simp [DM.rdE, h.dn, hi'], ?_⟩
  simp [DM.rdB, h.dn, hi']
theorem ld_free {D : DM} (h : D.free) {a : Nat} (ha : a + 2 < D.n) : D.ldE (a : Int) = 0 ∧ D.ldB (a : Int) = vl (D.cur a) (D.cur (a + 1)) (D.cur (a + 2)) := by
  obtain ⟨e0, b0⟩ := rd_free h (i := a) (by omega)
  obtain ⟨e1, b1⟩ := rd_free h (i := a + 1) (by omega)
  obtain ⟨e2, b2⟩ := rd_free h (i := a + 2) ha
  have c1 : ((a : Int) + 1) = ((a + 1 : Nat) : Int) := by omega
  have c2 : ((a : Int) + 2) = ((a + 2 : Nat) : Int) := by omega
  have e : D.ldE (a : Int) = 0 := by
    unfold DM.ldE
    rw [c1, c2, if_pos e0, if_pos e1, e2]
  exact ⟨e, by rw [ldB_of e, c1, c2, b0, b1, b2]⟩
/-- A Save on such a disk. -/
theorem sv_free {D : DM} (h : D.free) {a : Nat} (ha : a + 2 < D.n) {v : List Nat} (hv : sec v) : ∀ j, j ≤ 3 → (sv D a v j).2 = 0 ∧ (sv D a v j).1.free ∧ (sv D a v j).1.n = D.n ∧ ∀ k, (sv D a v j).1.cur k = if a ≤ k ∧ k < a + j then v else D.cur k
  | 0, _ => ⟨rfl, h, rfl, fun k => (if_neg (by omega)).symm⟩
  | j + 1, hj => by
    obtain ⟨e, h1, h2, h3⟩ := sv_free h ha hv j (by omega)
    have es : sv D a v (j + 1) = ((sv D a v j).1.ws ((a : Int) + (j : Int)) v, (sv D a v j).1.wsE ((a : Int) + (j : Int)) v) := if_pos e
    have c : ((a : Int) + (j : Int)) = ((a + j : Nat) : Int) := by omega
    rw [es, c]
    obtain ⟨g1, g2, g3, g4⟩ := ws_free h1 (i := a + j) (by rw [h2]; omega) hv
    refine ⟨g1, g2, g3.trans h2, fun k => ?_⟩
    show DM.cur _ k = _
    rw [g4, h3]
    by_cases e1 : k = a + j
    · rw [if_pos e1, if_pos (by omega)]
    · rw [if_neg e1]
      by_cases e2 : a ≤ k ∧ k < a + j
      · rw [if_pos e2, if_pos (by omega)]
      · rw [if_neg e2, if_neg (by omega)]
end Go.Proofs.Ytpophfeommlajaa
namespace Go.Proofs.Ytpophfeommlajaa
set_option maxRecDepth 100000
open Go.RowKit Go.Maps
attribute [local go_sem ↓] Go.wp_at_zero Go.wp_at_succ

theorem fl_succ (f : Nat → Nat) (n : Nat) : fl f (n + 1) = fl f n ++ [f n] := by simp [fl, List.range_succ]
theorem fl_congr {f g : Nat → Nat} {n : Nat} (h : ∀ i, i < n → f i = g i) : fl f n = fl g n := by
  unfold fl
  exact List.map_congr_left (fun x hx => h x (List.mem_range.1 hx))
theorem pz_fl (f : Nat → Nat) (m : Nat) : fl (pz f m) m = fl f m := fl_congr fun _ hi => if_pos hi
theorem pz_lt {f : Nat → Nat} (h : ∀ i, f i < 256) (m i : Nat) : pz f m i < 256 := by
  unfold pz
  split
  · exact h i
  · omega
/-- Bytes with noughts behind them, in a block that was made. -/
def FuP (w : World) (f : Nat → Nat) (m : Nat) (e : Ending) (w' : World) : Prop := ∃ z c, e = .returned (.slice z 64 c) ∧ BA w' z 64 (pz f m) ∧ (∀ p, z = some p → w.heap.size ≤ p.block) ∧ Below w.heap.size w w'
structure FuR (w wr : World) (v : Value) (f : Nat → Nat) (m j : Nat) : Prop where
  k : Below w.heap.size w wr
  o : wr.ownsRow w.heap.size 5 1 v j (cells8 (fl (pz f m) j))
theorem FuR.step {w wr w1 : World} {v v' : Value} {f : Nat → Nat} {m j : Nat} (h : FuR w wr v f m j) (hj : m ≤ j) {o : Obj} (ho : w1.ownsRow w.heap.size 5 1 v' (j + 1) (cells8 (fl (pz f m) j ++ fl (fun _ => 0) 1))) (hg : (wr.alloc o).grownBy w1 v.ownBlock) : FuR w w1 v' f m (j + 1) := by
  refine ⟨below_append (K.alloc h.k o) (own_keep h.o (K.alloc (Below.refl _ _) _)) hg, ?_⟩
  rw [fl_succ]
  have e : pz f m j = 0 := if_neg (by omega)
  rw [e]
  exact ho
set_option maxRecDepth 100000 in
set_option maxHeartbeats 8000000 in
theorem full_any {w : World} {z : Option Addr} {m c : Nat} {f : Nat → Nat} (hb : BA w z m f) (hm : m ≤ 64) : Calls Try.prog 32 #[.slice z m c] w (FuP w f m) := by
  have HB := hide hb
  clear hb
  go_enter Try.func32, Try.ntmps32
  go_wp2_with (refine wpList_app (base := w.heap.size) (l := []) rfl _ _ rfl rfl (World.ownsRow_nil w _ _ _) rfl HB.out (by omega) (Nat.le_refl _) ?_; intro v1 w1 hO1 hg1; have HR := hide (FuR.mk (f := f) (m := m) (j := m) (below_append (Below.refl _ w) (World.ownsRow_nil w w.heap.size 5 1) hg1) (by rw [Nat.zero_add, List.nil_append, ← pz_fl] at hO1; exact hO1)); clear hO1 hg1)
  go_loopg [3] (64 - m) (fun g' s3 wr => ∃ j : Nat, g' = 64 - j ∧ m ≤ j ∧ j ≤ 64 ∧ FuR w wr s3 f m j)
  case atStart => exact ⟨m, rfl, Nat.le_refl _, hm, HR.out⟩
  case round =>
    clear HR
    obtain ⟨j, rfl, hj1, hj2, hR⟩ := hrel
    obtain ⟨p, cap, rfl, _, _⟩ := own_max hR.o
    have HR := hide hR
    clear hR
    by_cases hlt : j < 64
    · have hlt' : (j : Int) < 64 := by omega
      go_wp2_with (refine wpList_app (base := w.heap.size) rfl _ _ rfl rfl (own_keep HR.out.o (K.alloc (Below.refl _ _) _)) rfl (one_made wr 0 (by omega)) (by omega) (K.alloc HR.out.k _).size ?_; intro v1 w1 hO1 hg1; have HR1 := hide (HR.out.step hj1 hO1 hg1); clear hO1 hg1)
      go_roundg (64 - (j + 1))
      case measure => omega
      case rel => exact ⟨j + 1, rfl, by omega, by omega, HR1.out⟩
    · obtain rfl : j = 64 := by omega
      go_wp2_with fail
      go_ret
      refine ⟨p, cap, rfl, own_ba HR.out.o (pz_lt HB.out.lt m), fun q hq => ?_, HR.out.k⟩
      subst hq
      exact (HR.out.o.lt q.block rfl).1
end Go.Proofs.Ytpophfeommlajaa
namespace Go.Proofs.Ytpophfeommlajaa
set_option maxRecDepth 100000

/-- How many sectors an entry of m bytes takes. -/
def tk (m : Nat) : Nat := (m + 65) / 64
theorem tk_pos (m : Nat) : 1 ≤ tk m := by unfold tk; omega
/-- .. and some entries. -/
def tks : List (List Nat) → Nat
  | [] => 0
  | b :: r => tk b.length + tks r
theorem tks_app : ∀ (l r : List (List Nat)), tks (l ++ r) = tks l + tks r
  | [], r => by simp [tks]
  | b :: l, r => by
    show tk b.length + tks (l ++ r) = tk b.length + tks l + tks r
    rw [tks_app l r]
    omega
theorem tks_len : ∀ l : List (List Nat), l.length ≤ tks l
  | [] => Nat.le_refl _
  | b :: r => by
    have := tks_len r
    have := tk_pos b.length
    show r.length + 1 ≤ tk b.length + tks r
    omega
/-- The bytes of so many sectors, from one on. -/
def cat64 (C : Nat → List Nat) (p : Nat) : Nat → List Nat
  | 0 => []
  | j + 1 => cat64 C p j ++ C (p + j)
/-- The entry that begins at a place: how long it says it is; its bytes. -/
def elen (C : Nat → List Nat) (p : Nat) : Nat := (C (3 + p)).getD 0 0 + 256 * (C (3 + p)).getD 1 0
def ent (C : Nat → List Nat) (p k : Nat) : List Nat := ((cat64 C (3 + p) (tk k)).drop 2).take k
/-- n entries, in so many sectors, from a place on: what they are, and where they end. -/
def prs (C : Nat → List Nat) (u : Nat) : Nat → Nat → Option (List (List Nat) × Nat)
  | 0, p => some ([], p)
  | n + 1, p => if p < u ∧ elen C p ≤ 200 ∧ p + tk (elen C p) ≤ u then (prs C u n (p + tk (elen C p))).map fun x => (ent C p (elen C p) :: x.1, x.2) else none
/-- An entry stands at a place. -/
structure Holds (C : Nat → List Nat) (p : Nat) (b : List Nat) : Prop where
  k : elen C p = b.length
  e : ent C p b.length = b
  m : b.length ≤ 200
def lays (C : Nat → List Nat) : Nat → List (List Nat) → Prop
  | _, [] => True
  | p, b :: r => Holds C p b ∧ lays C (p + tk b.length) r
theorem prs_lays {C : Nat → List Nat} {u : Nat} : ∀ {l : List (List Nat)} {p : Nat}, lays C p l → p + tks l ≤ u → prs C u l.length p = some (l, p + tks l)
  | [], p, _, _ => rfl
  | b :: r, p, h, hu => by
    have hp := tk_pos b.length
    have e : tks (b :: r) = tk b.length + tks r := rfl
    have hk := h.1.k
    show (if p < u ∧ elen C p ≤ 200 ∧ p + tk (elen C p) ≤ u then (prs C u r.length (p + tk (elen C p))).map fun x => (ent C p (elen C p) :: x.1, x.2) else none) = _
    rw [hk, if_pos ⟨by omega, h.1.m, by omega⟩, prs_lays h.2 (by omega), h.1.e]
    show some _ = some _
    rw [e, Nat.add_assoc]
theorem lays_prs {C : Nat → List Nat} (hC : ∀ i, (C i).length = 64) {u : Nat} : ∀ {n p : Nat} {l : List (List Nat)} {e : Nat}, prs C u n p = some (l, e) → lays C p l ∧ l.length = n ∧ e = p + tks l
  | 0, p, l, e, h => by
    have h : some (([] : List (List Nat)), p) = some (l, e) := h
    cases h
    exact ⟨trivial, rfl, rfl⟩
  | n + 1, p, l, e, h => by
    have h : (if p < u ∧ elen C p ≤ 200 ∧ p + tk (elen C p) ≤ u then (prs C u n (p + tk (elen C p))).map fun x => (ent C p (elen C p) :: x.1, x.2) else none) = some (l, e) := h
    split at h
    · rename_i hh
      obtain ⟨⟨r, e2⟩, h1, h2⟩ := Option.map_eq_some_iff.1 h
      cases h2
      obtain ⟨g1, g2, g3⟩ := lays_prs hC h1
      have hl : ∀ j, (cat64 C (3 + p) j).length = 64 * j := fun j => by
        induction j with
        | zero => rfl
        | succ j ih => show (_ ++ _ : List Nat).length = _; rw [List.length_append, ih, hC]; omega
      have he : (ent C p (elen C p)).length = elen C p := by
        unfold ent
        rw [List.length_take, List.length_drop, hl]
        unfold tk
        omega
      refine ⟨⟨⟨he.symm, by rw [he], by rw [he]; exact hh.2.1⟩, by rw [he]; exact g1⟩, by rw [List.length_cons, g2], ?_⟩
      show e2 = p + (tk _ + tks r)
      rw [he, g3]
      omega
    · cases h
theorem cat64_congr {C C' : Nat → List Nat} {p : Nat} : ∀ {j : Nat}, (∀ i, p ≤ i → i < p + j → C i = C' i) → cat64 C p j = cat64 C' p j
  | 0, _ => rfl
  | j + 1, h => by
    show cat64 C p j ++ C (p + j) = cat64 C' p j ++ C' (p + j)
    rw [cat64_congr (fun i h1 h2 => h i h1 (by omega)), h (p + j) (by omega) (by omega)]
theorem Holds.congr {C C' : Nat → List Nat} {p : Nat} {b : List Nat} (h : Holds C p b) (hc : ∀ i, 3 + p ≤ i → i < 3 + p + tk b.length → C' i = C i) : Holds C' p b := by
  have e0 : C' (3 + p) = C (3 + p) := hc (3 + p) (Nat.le_refl _) (by have := tk_pos b.length; omega)
  refine ⟨?_, ?_, h.m⟩
  · unfold elen; rw [e0]; exact h.k
  · unfold ent
    rw [cat64_congr hc]
    exact h.e
theorem lays_congr {C C' : Nat → List Nat} : ∀ {l : List (List Nat)} {p : Nat}, lays C p l → (∀ i, 3 + p ≤ i → i < 3 + p + tks l → C' i = C i) → lays C' p l
  | [], _, _, _ => trivial
  | b :: r, p, h, hc => by
    have e : tks (b :: r) = tk b.length + tks r := rfl
    exact ⟨h.1.congr (fun i h1 h2 => hc i h1 (by omega)), lays_congr h.2 (fun i h1 h2 => hc i (by omega) (by omega))⟩
theorem lays_app {C : Nat → List Nat} : ∀ {l r : List (List Nat)} {p : Nat}, lays C p (l ++ r) ↔ lays C p l ∧ lays C (p + tks l) r
  | [], r, p => by simp [lays, tks]
  | b :: l, r, p => by
    have e : p + tks (b :: l) = p + tk b.length + tks l := by show p + (tk b.length + tks l) = _; omega
    rw [e]
    show Holds C p b ∧ lays C (p + tk b.length) (l ++ r) ↔ (Holds C p b ∧ lays C (p + tk b.length) l) ∧ lays C (p + tk b.length + tks l) r
    rw [lays_app, and_assoc]
/-- The bytes of an entry as it is written: its length, its bytes, noughts. -/
def encf (f : Nat → Nat) (m i : Nat) : Nat := if i = 0 then m % 256 else if i = 1 then m / 256 else pz f m (i - 2)
def esec (f : Nat → Nat) (m j : Nat) : List Nat := fl (fun i => encf f m (64 * j + i)) 64
theorem encf_lt {f : Nat → Nat} (h : ∀ i, f i < 256) {m : Nat} (hm : m ≤ 200) (i : Nat) : encf f m i < 256 := by
  unfold encf
  split
  · omega
  · split
    · omega
    · exact pz_lt h m _
theorem esec_sec {f : Nat → Nat} (h : ∀ i, f i < 256) {m : Nat} (hm : m ≤ 200) (j : Nat) : sec (esec f m j) := by
  refine ⟨fl_len _ _, fun x hx => ?_⟩
  obtain ⟨i, _, rfl⟩ := List.mem_map.1 hx
  exact encf_lt h hm _
theorem cat64_fl {C : Nat → List Nat} {p : Nat} {e : Nat → Nat} : ∀ {j : Nat}, (∀ i, i < j → C (p + i) = fl (fun k => e (64 * i + k)) 64) → cat64 C p j = fl e (64 * j)
  | 0, _ => rfl
  | j + 1, h => by
    show cat64 C p j ++ C (p + j) = _
    rw [cat64_fl (fun i hi => h i (by omega)), h j (by omega), fl_cat]
    rw [show 64 * j + 64 = 64 * (j + 1) by omega]
    refine fl_congr fun i _ => ?_
    unfold cat
    split
    · rfl
    · show e (64 * j + (i - 64 * j)) = e i
      congr 1
      omega
/-- What is written so, is there. -/
theorem Holds.of {C : Nat → List Nat} {p : Nat} {f : Nat → Nat} {m : Nat} (hm : m ≤ 200) (h : ∀ j, j < tk m → C (3 + p + j) = esec f m j) : Holds C p (fl f m) := by
  have h0 : C (3 + p) = esec f m 0 := h 0 (tk_pos m)
  have hx : ∀ i, i < 64 → (esec f m 0).getD i 0 = encf f m i := fun i hi => by
    unfold esec
    rw [List.getD_eq_getElem?_getD, fl_at _ hi]
    show encf f m (64 * 0 + i) = _
    rw [Nat.mul_zero, Nat.zero_add]
  refine ⟨?_, ?_, by rw [fl_len]; exact hm⟩
  · unfold elen
    rw [h0, hx 0 (by omega), hx 1 (by omega), fl_len]
    show m % 256 + 256 * (m / 256) = m
    omega
  · unfold ent
    rw [fl_len, cat64_fl (e := encf f m) h]
    apply List.ext_getElem?
    intro i
    by_cases hi : i < m
    · rw [List.getElem?_take, if_pos hi, List.getElem?_drop, fl_at f hi, fl_at _ (by unfold tk; omega)]
      show some (if 2 + i = 0 then _ else if 2 + i = 1 then _ else pz f m (2 + i - 2)) = _
      rw [if_neg (by omega), if_neg (by omega), show 2 + i - 2 = i by omega]
      show some (if i < m then f i else 0) = _
      rw [if_pos hi]
    · rw [List.getElem?_take, if_neg hi, List.getElem?_eq_none (by rw [fl_len]; omega)]
/-- The mark's bytes: how many entries, how many sectors. -/
def le8 (n i : Nat) : Nat := n / 256 ^ i % 256
def mkf (n u i : Nat) : Nat := if i < 8 then le8 n i else le8 u (i - 8)
theorem mkf_lt (n u i : Nat) : mkf n u i < 256 := by
  unfold mkf le8
  split <;> exact Nat.mod_lt _ (by decide)
def mkv (l : List (List Nat)) : List Nat := pd (mkf l.length (tks l)) 16
theorem mkv_sec (l : List (List Nat)) : sec (mkv l) := pd_sec (mkf_lt _ _) 16
/-- Eight bytes, the least first. -/
def num8 (g : Nat → Nat) : Nat := g 0 + 256 * (g 1 + 256 * (g 2 + 256 * (g 3 + 256 * (g 4 + 256 * (g 5 + 256 * (g 6 + 256 * g 7))))))
theorem num8_congr {g h : Nat → Nat} (e : ∀ i, i < 8 → g i = h i) : num8 g = num8 h := by
  unfold num8
  rw [e 0 (by omega), e 1 (by omega), e 2 (by omega), e 3 (by omega), e 4 (by omega), e 5 (by omega), e 6 (by omega), e 7 (by omega)]
theorem num8_le8 {n : Nat} (h : n < 18446744073709551616) : num8 (le8 n) = n := by
  unfold num8 le8
  simp only [Nat.pow_zero, Nat.div_one, show (256 : Nat) ^ 1 = 256 from rfl, show (256 : Nat) ^ 2 = 65536 from rfl, show (256 : Nat) ^ 3 = 16777216 from rfl, show (256 : Nat) ^ 4 = 4294967296 from rfl, show (256 : Nat) ^ 5 = 1099511627776 from rfl, show (256 : Nat) ^ 6 = 281474976710656 from rfl, show (256 : Nat) ^ 7 = 72057594037927936 from rfl]
  omega
/-- What a mark's value says: so many entries, so many sectors. -/
def mkN (v : List Nat) : Nat := num8 fun i => v.getD i 0
def mkU (v : List Nat) : Nat := num8 fun i => v.getD (8 + i) 0
theorem mkN_of {n u : Nat} (h : n < 18446744073709551616) : mkN (pd (mkf n u) 16) = n := by
  have e : ∀ i, i < 8 → (pd (mkf n u) 16).getD i 0 = le8 n i := fun i hi => by
    unfold pd
    rw [List.getD_eq_getElem?_getD, fl_at _ (by omega)]
    show (if i < 16 then (if i < 8 then le8 n i else _) else 0) = _
    rw [if_pos (by omega), if_pos hi]
  exact (num8_congr e).trans (num8_le8 h)
theorem mkU_of {n u : Nat} (h : u < 18446744073709551616) : mkU (pd (mkf n u) 16) = u := by
  have e : ∀ i, i < 8 → (pd (mkf n u) 16).getD (8 + i) 0 = le8 u i := fun i hi => by
    unfold pd
    rw [List.getD_eq_getElem?_getD, fl_at _ (by omega)]
    show (if 8 + i < 16 then (if 8 + i < 8 then _ else le8 u (8 + i - 8)) else 0) = _
    rw [if_pos (by omega), if_neg (by omega), show 8 + i - 8 = i by omega]
  exact (num8_congr e).trans (num8_le8 h)
/-- What a store's disk tells: the mark's value, the sectors, how many there are. -/
def opn (v : List Nat) (C : Nat → List Nat) (N : Nat) : Option (List (List Nat)) :=
  if v = pd (mkf (mkN v) (mkU v)) 16 ∧ mkU v + 3 ≤ N then (match prs C (mkU v) (mkN v) 0 with
    | some (l, e) => if e = mkU v then some l else none
    | none => none) else none
theorem opn_lays {l : List (List Nat)} {C : Nat → List Nat} {N : Nat} (h : lays C 0 l) (hN : tks l + 3 ≤ N) (hb : N ≤ 4096) : opn (mkv l) C N = some l := by
  have hl := tks_len l
  have e1 : mkN (mkv l) = l.length := mkN_of (by omega)
  have e2 : mkU (mkv l) = tks l := mkU_of (by omega)
  unfold opn
  rw [e1, e2, if_pos ⟨rfl, hN⟩, prs_lays h (by omega), Nat.zero_add]
  exact if_pos rfl
theorem lays_opn {v : List Nat} {C : Nat → List Nat} {N : Nat} (hC : ∀ i, (C i).length = 64) {l : List (List Nat)} (h : opn v C N = some l) : lays C 0 l ∧ v = mkv l ∧ tks l + 3 ≤ N := by
  unfold opn at h
  split at h
  · rename_i hh
    split at h
    · rename_i l' e hp
      split at h
      · rename_i he
        cases h
        obtain ⟨g1, g2, g3⟩ := lays_prs hC hp
        rw [Nat.zero_add] at g3
        have e3 : mkU v = tks l := by rw [← he, g3]
        refine ⟨g1, ?_, by rw [← e3]; exact hh.2⟩
        unfold mkv
        rw [g2, ← e3]
        exact hh.1
      · cases h
    · cases h
  · cases h
end Go.Proofs.Ytpophfeommlajaa
namespace Go.Proofs.Ytpophfeommlajaa
set_option maxRecDepth 100000
open Go.RowKit Go.Maps
attribute [local go_sem ↓] Go.wp_at_zero Go.wp_at_succ

/-- A list of texts, looked at. -/
structure Vw (w : World) (z : Option Addr) (L : List (List Nat)) : Prop where
  at_ : L = [] ∨ ∃ b o, z = some ⟨b, o, none⟩ ∧ ∀ i l, L[i]? = some l → ∃ x m c f, w.cell? ⟨b, o + i, none⟩ = some (.slice x m c) ∧ BA w x m f ∧ fl f m = l
theorem Vw.keep {w w' : World} {z : Option Addr} {L : List (List Nat)} (h : Vw w z L) (hb : Below w.heap.size w w') : Vw w' z L :=
  ⟨h.at_.imp id fun ⟨b, o, e, hr⟩ => ⟨b, o, e, fun i l hl => by
    obtain ⟨x, m, c, f, h1, h2, h3⟩ := hr i l hl
    exact ⟨x, m, c, f, later hb h1, h2.keep hb, h3⟩⟩⟩
theorem Vw.cells {w : World} {z : Option Addr} {L : List (List Nat)} (h : Vw w z L) (hn : 0 < L.length) : ∃ b o, z = some ⟨b, o, none⟩ ∧ ∀ i l, L[i]? = some l → ∃ x m c f, w.cell? ⟨b, o + i, none⟩ = some (.slice x m c) ∧ BA w x m f ∧ fl f m = l :=
  h.at_.resolve_left (fun e => by rw [e] at hn; cases hn)
/-- A list of one's own, whose row and texts lie in none of the blocks X. -/
structure Lst (w : World) (base : Nat) (X : Nat → Bool) (v : Value) (L : List (List Nat)) (cs : List Value) : Prop where
  o : w.ownsRow base 38 1 v L.length cs
  x : ∀ g, v.ownBlock = some g → X g = false
  e : ∀ (j : Nat) (l : List Nat), L[j]? = some l → ∃ x m c f, cs[j]? = some (Value.slice x m c) ∧ BA w x m f ∧ fl f m = l ∧ (0 < m → ∀ p, x = some p → X p.block = false ∧ v.ownBlock ≠ some p.block)
theorem ba_lt {w : World} {x : Option Addr} {m : Nat} {f : Nat → Nat} (h : BA w x m f) (hm : 0 < m) : ∃ b o, x = some ⟨b, o, none⟩ ∧ b < w.heap.size := by
  rcases h.at_ with h0 | ⟨b, o, e, hr⟩
  · omega
  · exact ⟨b, o, e, World.block_lt_of_cell? w _ (hr.c 0 hm)⟩
theorem ba_same {w w' : World} {x : Option Addr} {m : Nat} {f : Nat → Nat} (h : BA w x m f) (hb : 0 < m → ∀ p, x = some p → p.block < w.heap.size → w'.heap[p.block]? = w.heap[p.block]?) : BA w' x m f := by
  refine ⟨h.lt, h.at_.imp id fun ⟨b, o, e, hr⟩ => ⟨b, o, e, ⟨fun i hi => ?_⟩⟩⟩
  have hc := hr.c i hi
  have hh : w'.heap[b]? = w.heap[b]? := hb (by omega) _ e (World.block_lt_of_cell? w _ (hr.c 0 (by omega)))
  exact (World.cell?_of_block (w := w) hh).trans hc
theorem Lst.nil (w : World) (base : Nat) (X : Nat → Bool) : Lst w base X (.slice none 0 0) [] [] := ⟨World.ownsRow_nil w _ _ _, fun g hg => (by cases hg), fun j l h => (by simp at h)⟩
theorem Lst.kp {w w' : World} {base : Nat} {X : Nat → Bool} {v : Value} {L : List (List Nat)} {cs : List Value} (h : Lst w base X v L cs) (hK : Kp X w w') : Lst w' base X v L cs := by
  refine ⟨own_block h.o (fun g hg => hK.block g (h.o.lt g hg).2 (h.x g hg)), h.x, fun j l hl => ?_⟩
  obtain ⟨x, m, c, f, h1, h2, h3, h4⟩ := h.e j l hl
  exact ⟨x, m, c, f, h1, ba_same h2 (fun hm p hp hlt => hK.block _ hlt (h4 hm p hp).1), h3, h4⟩
theorem Lst.keep {w w' : World} {base : Nat} {X : Nat → Bool} {v : Value} {L : List (List Nat)} {cs : List Value} (h : Lst w base X v L cs) (hB : Below w.heap.size w w') : Lst w' base X v L cs := h.kp (Kp.of hB)
theorem Lst.sub {w : World} {base : Nat} {X Y : Nat → Bool} {v : Value} {L : List (List Nat)} {cs : List Value} (h : Lst w base X v L cs) (hY : ∀ k, Y k = true → X k = true) : Lst w base Y v L cs := by
  have hf : ∀ g, X g = false → Y g = false := fun g hg => by
    cases hy : Y g with
    | false => rfl
    | true => rw [hY g hy] at hg; cases hg
  refine ⟨h.o, fun g hg => hf g (h.x g hg), fun j l hl => ?_⟩
  obtain ⟨x, m, c, f, h1, h2, h3, h4⟩ := h.e j l hl
  exact ⟨x, m, c, f, h1, h2, h3, fun hm p hp => ⟨hf _ (h4 hm p hp).1, (h4 hm p hp).2⟩⟩
theorem Lst.shape {w : World} {base : Nat} {X : Nat → Bool} {v : Value} {L : List (List Nat)} {cs : List Value} (h : Lst w base X v L cs) : ∃ z c, v = .slice z L.length c ∧ Vw w z L := by
  have hlen : cs.length = L.length := by have := h.o.1; omega
  rcases h.o.2 with ⟨e1, e2⟩ | ⟨g, cap, cur, e, _, hg, _, _, _, hc⟩
  · exact ⟨none, 0, by rw [e1, e2], ⟨Or.inl (List.eq_nil_of_length_eq_zero e2)⟩⟩
  · refine ⟨some ⟨g, 0, none⟩, cap, e, ⟨Or.inr ⟨g, 0, rfl, fun i l hl => ?_⟩⟩⟩
    obtain ⟨x, m, c, f, h1, h2, h3, _⟩ := h.e i l hl
    refine ⟨x, m, c, f, ?_, h2, h3⟩
    have hi : i < L.length := (List.getElem?_eq_some_iff.1 hl).1
    unfold World.cell?
    simp only [hg, Nat.zero_add]
    rw [← hc, Nat.mul_one, List.getElem?_take, if_pos hi] at h1
    simpa using h1
/-- One text more. -/
theorem Lst.push {w w' : World} {base : Nat} {X : Nat → Bool} {v v' : Value} {L : List (List Nat)} {cs : List Value} (h : Lst w base X v L cs) (hX : ∀ k, X k = true → k < w.heap.size) {x : Option Addr} {m c : Nat} {f : Nat → Nat} (hb : BA w x m f) (hx : 0 < m → ∀ p, x = some p → X p.block = false ∧ v.ownBlock ≠ some p.block)
    (ho : w'.ownsRow base 38 1 v' (L.length + 1) (cs ++ [.slice x m c])) (hG : w.grownBy w' v.ownBlock) (hat : v'.ownBlock = v.ownBlock ∨ v'.ownBlock = some w.heap.size) : Lst w' base X v' (L ++ [fl f m]) (cs ++ [.slice x m c]) := by
  have hlen : cs.length = L.length := by have := h.o.1; omega
  have old : ∀ q, q < w.heap.size → v.ownBlock ≠ some q → v'.ownBlock ≠ some q := fun q hq hne e => by
    rcases hat with e2 | e2
    · exact hne (e2.symm.trans e)
    · rw [e2] at e
      have := Option.some.inj e
      omega
  have hk : ∀ {x : Option Addr} {m : Nat} {f : Nat → Nat}, BA w x m f → (0 < m → ∀ p, x = some p → X p.block = false ∧ v.ownBlock ≠ some p.block) → BA w' x m f ∧ (0 < m → ∀ p, x = some p → X p.block = false ∧ v'.ownBlock ≠ some p.block) := fun hb hx =>
    ⟨ba_same hb (fun hm p hp hlt => hG.block _ hlt (fun e => (hx hm p hp).2 e.symm)), fun hm p hp => ⟨(hx hm p hp).1, by
      obtain ⟨b, o, e, hlt⟩ := ba_lt hb hm
      rw [hp] at e
      obtain rfl := Option.some.inj e
      exact old b hlt (hx hm _ hp).2⟩⟩
  refine ⟨by rw [List.length_append]; exact ho, fun g hg => ?_, fun j l hl => ?_⟩
  · rcases hat with e | e
    · exact h.x g (e.symm.trans hg)
    · rw [e] at hg
      cases hg
      cases hq : X w.heap.size with
      | false => rfl
      | true => have := hX _ hq; omega
  · by_cases hj : j < L.length
    · rw [List.getElem?_append_left hj] at hl
      obtain ⟨x1, m1, c1, f1, h1, h2, h3, h4⟩ := h.e j l hl
      obtain ⟨k1, k2⟩ := hk h2 h4
      exact ⟨x1, m1, c1, f1, by rw [List.getElem?_append_left (by omega)]; exact h1, k1, h3, k2⟩
    · have hj2 : j = L.length := by
        have := (List.getElem?_eq_some_iff.1 hl).1
        rw [List.length_append] at this
        simp at this
        omega
      subst hj2
      rw [List.getElem?_append_right (Nat.le_refl _), Nat.sub_self] at hl
      have hl : some (fl f m) = some l := hl
      cases hl
      obtain ⟨k1, k2⟩ := hk hb hx
      exact ⟨x, m, c, f, by rw [← hlen, List.getElem?_append_right (Nat.le_refl _), Nat.sub_self]; rfl, k1, rfl, k2⟩
theorem takes_any {w : World} {z : Option Addr} {m c : Nat} (hm : m ≤ 1000000000) : Calls Try.prog 45 #[.slice z m c] w fun e w' => e = .returned (.int .i64 (tk m : Int)) ∧ w' = w := by
  have h1 : wrap64 ((m : Int) + 65) = (m : Int) + 65 := by unfold wrap64; omega
  go_enter Try.func45, Try.ntmps45
  go_wp2_with fail
  go_ret
  exact ⟨ret_int (by unfold tk; omega), rfl⟩
theorem tks_take : ∀ (L : List (List Nat)) (i : Nat) {l : List Nat}, L[i]? = some l → tks (L.take (i + 1)) = tks (L.take i) + tk l.length
  | [], i, l, h => by simp at h
  | b :: r, 0, l, h => by
    have h : some b = some l := by simpa using h
    cases h
    simp [tks]
  | b :: r, i + 1, l, h => by
    have h : r[i]? = some l := by simpa using h
    have := tks_take r i h
    show tk b.length + tks (r.take (i + 1)) = tk b.length + tks (r.take i) + _
    omega
/-- No text is longer than this. -/
def short (L : List (List Nat)) : Prop := ∀ l ∈ L, l.length ≤ 1000000
theorem short.at {L : List (List Nat)} (h : short L) {i : Nat} {l : List Nat} (hl : L[i]? = some l) : l.length ≤ 1000000 := h l (List.mem_of_getElem? hl)
theorem tks_short : ∀ {L : List (List Nat)}, short L → tks L ≤ 15626 * L.length
  | [], _ => Nat.le_refl _
  | b :: r, h => by
    have h1 := h b (by simp)
    have h2 := tks_short (L := r) (fun l hl => h l (by simp [hl]))
    show tk b.length + tks r ≤ 15626 * (r.length + 1)
    unfold tk
    omega
set_option maxRecDepth 100000 in
set_option maxHeartbeats 4000000 in
theorem all_any {w : World} {z : Option Addr} {c : Nat} {L : List (List Nat)} (h : Vw w z L) (hs : short L) (hn : L.length ≤ 1000000) : Calls Try.prog 46 #[.slice z L.length c] w fun e w' => e = .returned (.int .i64 (tks L : Int)) ∧ w' = w := by
  have HV := hide h
  have HS := hide hs
  clear h hs
  go_enter Try.func46, Try.ntmps46
  go_wp2_with fail
  go_loopg [3, 4] L.length (fun g' s3 s4 wr => ∃ i : Nat, g' = L.length - i ∧ i ≤ L.length ∧ s4 = .int .i64 (i : Int) ∧ s3 = .int .i64 (tks (L.take i) : Int) ∧ wr = w)
  case atStart => exact ⟨0, rfl, by omega, rfl, rfl, rfl⟩
  case round =>
    obtain ⟨i, rfl, hi, rfl, rfl, rfl⟩ := hrel
    by_cases hlt : i < L.length
    · obtain ⟨b, o, rfl, hc⟩ := HV.out.cells (by omega)
      obtain ⟨l, hl⟩ : ∃ l, L[i]? = some l := ⟨_, List.getElem?_eq_getElem hlt⟩
      obtain ⟨x, m, k, f, hcell, hb, hf⟩ := hc i l hl
      have hlt' : (i : Int) < (L.length : Int) := by omega
      have hm : m = l.length := by rw [← hf, fl_len]
      have HT := hide (tks_take L i hl)
      have h2 := tks_short (L := L.take i) (fun y hy => HS.out y (List.mem_of_mem_take hy))
      rw [List.length_take, Nat.min_eq_left (by omega)] at h2
      have hml := HS.out.at hl
      have hw : wrap64 ((tks (L.take i) : Int) + (tk m : Int)) = (tks (L.take i) : Int) + (tk m : Int) := by
        have : tk m ≤ 15626 := by unfold tk; omega
        unfold wrap64
        omega
      have HM := hide hm
      have hm9 : m ≤ 1000000000 := by omega
      clear hc hl hb hf h2 hml hm
      go_wp2_with (go_at_call 45; refine Calls.mono (takes_any hm9) ?_; rintro e W1 ⟨rfl, rfl⟩)
      go_roundg (L.length - (i + 1))
      case measure => omega
      case rel => exact ⟨i + 1, rfl, by omega, by simp, by rw [HT.out, ← HM.out]; simp [hw], rfl⟩
    · obtain rfl : i = L.length := by omega
      go_wp2_with fail
      go_ret
      exact ⟨by rw [List.take_length]; rfl, rfl⟩
theorem list_eq_of {L M : List (List Nat)} (hl : L.length = M.length) (h : ∀ i, i < L.length → L[i]? = M[i]?) : L = M := by
  apply List.ext_getElem?
  intro i
  by_cases hi : i < L.length
  · exact h i hi
  · rw [List.getElem?_eq_none (by omega), List.getElem?_eq_none (by omega)]
set_option maxRecDepth 100000 in
set_option maxHeartbeats 4000000 in
theorem same_lists {w : World} {z1 z2 : Option Addr} {c1 c2 : Nat} {L M : List (List Nat)} (h1 : Vw w z1 L) (h2 : Vw w z2 M) (hs : short L) (hn : L.length ≤ 1000000) : Calls Try.prog 38 #[.slice z1 L.length c1, .slice z2 M.length c2] w fun e w' => e = .returned (.bool (decide (L = M))) ∧ Below w.heap.size w w' := by
  have HV1 := hide h1
  have HV2 := hide h2
  have HS := hide hs
  clear h1 h2 hs
  by_cases hlen : L.length = M.length
  · have hne : ((L.length : Int) != (M.length : Int)) = false := by simp [hlen]
    go_enter Try.func38, Try.ntmps38
    go_wp2_with fail
    go_loopg [5] L.length (fun g' s5 wr => ∃ i : Nat, g' = L.length - i ∧ i ≤ L.length ∧ s5 = .int .i64 (i : Int) ∧ Below w.heap.size w wr ∧ Hid (∀ j, j < i → L[j]? = M[j]?))
    case atStart => exact ⟨0, rfl, by omega, rfl, Below.refl _ _, fun j hj => by omega⟩
    case round =>
      obtain ⟨i, rfl, hi, rfl, hB, HQ⟩ := hrel
      have HB := hide hB
      clear hB
      by_cases hlt : i < L.length
      · obtain ⟨b1, o1, rfl, hk1⟩ := HV1.out.cells (by omega)
        obtain ⟨b2, o2, rfl, hk2⟩ := HV2.out.cells (by omega)
        obtain ⟨l, hl⟩ : ∃ l, L[i]? = some l := ⟨_, List.getElem?_eq_getElem hlt⟩
        obtain ⟨l2, hl2⟩ : ∃ l, M[i]? = some l := ⟨_, List.getElem?_eq_getElem (by omega)⟩
        obtain ⟨x1, m1, k1, f1, hcell1, hb1, hf1⟩ := hk1 i l hl
        obtain ⟨x2, m2, k2, f2, hcell2, hb2, hf2⟩ := hk2 i l2 hl2
        have hlt1 : (i : Int) < (L.length : Int) := by omega
        have hlt2 : (i : Int) < (M.length : Int) := by omega
        have hc1 := later HB.out hcell1
        have hc2 := later HB.out hcell2
        have HC : Hid (∀ W, Below wr.heap.size wr W → Calls Try.prog 31 #[.slice x1 m1 k1, .slice x2 m2 k2] W fun e w' => e = .returned (.bool (decide (l = l2))) ∧ Below W.heap.size W w') := fun W hW => by
          have hm1 := HS.out.at hl
          rw [← hf1, fl_len] at hm1
          have h := same_fl (c := k1) (c2 := k2) ((hb1.keep HB.out).keep hW) ((hb2.keep HB.out).keep hW) hm1
          rwa [hf1, hf2] at h
        have HL := hide (And.intro hl hl2)
        clear hk1 hk2 hl hl2 hcell1 hcell2 hb1 hb2 hf1 hf2
        go_upto_region 6 with fail
        refine wp_region_noPanic ?_
        refine wp_region_held_drew (S := fun w' => w'.cell? ⟨b1, o1 + i, none⟩ = some (.slice x1 m1 k1) ∧ w'.cell? ⟨b2, o2 + i, none⟩ = some (.slice x2 m2 k2)) (by kernel_rfl) ⟨hc1, hc2⟩ (fun hS0 => ?_)
        refine wpAnyH_take (i := 0) (v := .slice (some ⟨b1, o1, none⟩) L.length c1) rfl (by kernel_rfl) (by kernel_rfl) (by kernel_rfl) (fun _ _ _ h => h) (Or.inl ⟨by rfl, fun w' _ => by go_simp⟩) hS0 ?_
        simp only [Act.put, List.getElem_toArray, List.getElem_cons_zero, List.setIfInBounds_toArray, List.set_cons_zero, List.set_cons_succ]
        refine wpAnyH_take (i := 1) (v := .int .i64 (i : Int)) rfl (by kernel_rfl) (by kernel_rfl) (by kernel_rfl) (fun _ _ _ h => h) (Or.inl ⟨by rfl, fun w' _ => by go_simp⟩) hS0 ?_
        simp only [Act.put, List.getElem_toArray, List.getElem_cons_zero, List.getElem_cons_succ, List.setIfInBounds_toArray, List.set_cons_zero, List.set_cons_succ]
        refine wpAnyH_take (i := 2) (v := .pointer (some ⟨b1, o1 + i, none⟩)) rfl (by kernel_rfl) (by kernel_rfl) (by kernel_rfl) (fun _ _ _ h => h) (Or.inl ⟨by rfl, fun w' _ => by go_simp⟩) hS0 ?_
        simp only [Act.put, List.getElem_toArray, List.getElem_cons_zero, List.getElem_cons_succ, List.setIfInBounds_toArray, List.set_cons_zero, List.set_cons_succ]
        refine wpAnyH_take (i := 3) (v := .slice x1 m1 k1) rfl (by kernel_rfl) (by kernel_rfl) (by kernel_rfl) (fun _ _ _ h => h) (Or.inl ⟨by rfl, fun w' hS => by have hc := hS.1; go_simp⟩) hS0 ?_
        simp only [Act.put, List.getElem_toArray, List.getElem_cons_zero, List.getElem_cons_succ, List.setIfInBounds_toArray, List.set_cons_zero, List.set_cons_succ]
        refine wpAnyH_take (i := 4) (v := .slice (some ⟨b2, o2, none⟩) M.length c2) rfl (by kernel_rfl) (by kernel_rfl) (by kernel_rfl) (fun _ _ _ h => h) (Or.inl ⟨by rfl, fun w' _ => by go_simp⟩) hS0 ?_
        simp only [Act.put, List.getElem_toArray, List.getElem_cons_zero, List.getElem_cons_succ, List.setIfInBounds_toArray, List.set_cons_zero, List.set_cons_succ]
        refine wpAnyH_take (i := 5) (v := .int .i64 (i : Int)) rfl (by kernel_rfl) (by kernel_rfl) (by kernel_rfl) (fun _ _ _ h => h) (Or.inl ⟨by rfl, fun w' _ => by go_simp⟩) hS0 ?_
        simp only [Act.put, List.getElem_toArray, List.getElem_cons_zero, List.getElem_cons_succ, List.setIfInBounds_toArray, List.set_cons_zero, List.set_cons_succ]
        refine wpAnyH_take (i := 6) (v := .pointer (some ⟨b2, o2 + i, none⟩)) rfl (by kernel_rfl) (by kernel_rfl) (by kernel_rfl) (fun _ _ _ h => h) (Or.inl ⟨by rfl, fun w' _ => by go_simp⟩) hS0 ?_
        simp only [Act.put, List.getElem_toArray, List.getElem_cons_zero, List.getElem_cons_succ, List.setIfInBounds_toArray, List.set_cons_zero, List.set_cons_succ]
        refine wpAnyH_take (i := 7) (v := .slice x2 m2 k2) rfl (by kernel_rfl) (by kernel_rfl) (by kernel_rfl) (fun _ _ _ h => h) (Or.inl ⟨by rfl, fun w' hS => by have hc := hS.2; go_simp⟩) hS0 ?_
        simp only [Act.put, List.getElem_toArray, List.getElem_cons_zero, List.getElem_cons_succ, List.setIfInBounds_toArray, List.set_cons_zero, List.set_cons_succ]
        refine wpAnyH_ready (rs := [8]) (by kernel_rfl) (by simp) (AllReadyH.cons rfl (fun Kt hK => ?_) AllReadyH.nil)
        refine wanted_pos rfl ?_
        refine wp_call (R := fun x w' => x = .bool (decide (l = l2)) ∧ Below wr.drew.heap.size wr.drew w') (vs := #[.slice x1 m1 k1, .slice x2 m2 k2]) rfl (by simp only [List.map_toArray, List.map_cons, List.map_nil]; rfl) (by go_simp) (Calls.mono (HC.out _ (K.drew (Below.refl _ _))) (fun e w' he => ⟨_, he.1, rfl, he.2⟩)) (fun x W6 hr => ?_)
        obtain ⟨hx, hb6⟩ := hr
        subst hx
        refine hK.out _ _ ⟨later hb6 hS0.1, later hb6 hS0.2⟩ (fun hS1 => ?_)
        clear hK Kt
        simp only [Act.put, List.getElem_toArray, List.getElem_cons_zero, List.getElem_cons_succ, List.setIfInBounds_toArray, List.set_cons_zero, List.set_cons_succ]
        refine wpAnyH_take (i := 9) (v := .bool (!decide (l = l2))) rfl (by kernel_rfl) (by kernel_rfl) (by kernel_rfl) (fun _ _ _ h => h) (Or.inl ⟨by rfl, fun w' _ => by go_simp⟩) hS1 ?_
        simp only [Act.put, List.getElem_toArray, List.getElem_cons_zero, List.getElem_cons_succ, List.setIfInBounds_toArray, List.set_cons_zero, List.set_cons_succ]
        refine wpAnyH_done (by kernel_rfl) ?_ _
        refine NoPanic.normal ?_
        have HB6 := hide (K.call (K.drew HB.out) hb6)
        clear hS0 hS1 hb6
        by_cases hq : l = l2
        · have hd : decide (l = l2) = true := decide_eq_true hq
          rw [hd]
          go_wp2_with fail
          go_roundg (L.length - (i + 1))
          case measure => omega
          case rel => exact ⟨i + 1, rfl, by omega, by simp, HB6.out, fun j hj => by
            by_cases e : j = i
            · subst e; rw [HL.out.1, HL.out.2, hq]
            · exact HQ.out j (by omega)⟩
        · have hd : decide (l = l2) = false := decide_eq_false hq
          rw [hd]
          have HR : Hid (decide (L = M) = false) := decide_eq_false (fun e => hq (by have h1 := HL.out.1; rw [e, HL.out.2] at h1; exact (Option.some.inj h1).symm))
          go_wp2_with fail
          go_ret
          exact ⟨by rw [HR.out]; rfl, HB6.out⟩
      · obtain rfl : i = L.length := by omega
        have HR : Hid (decide (L = M) = true) := decide_eq_true (list_eq_of hlen HQ.out)
        go_wp2_with fail
        go_ret
        exact ⟨by rw [HR.out]; rfl, HB.out⟩
  · have hne : ((L.length : Int) != (M.length : Int)) = true := by simp; omega
    have hne' : ((L.length : Int) == (M.length : Int)) = false := by simp; omega
    have HR : Hid (decide (L = M) = false) := decide_eq_false (fun e => hlen (by rw [e]))
    go_enter Try.func38, Try.ntmps38
    go_wp2_with fail
    go_ret
    exact ⟨by rw [HR.out]; rfl, Below.refl _ _⟩
end Go.Proofs.Ytpophfeommlajaa
