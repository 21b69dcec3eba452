/- Layer 13: the law of the fuse. -/
import Derived.Test.YtmifmgnlfjahmaaD13F
namespace Go.Proofs.Ytmifmgnlfjahmaa
open Go.RowKit Go.Maps
attribute [local go_sem ↓] Go.wp_at_zero Go.wp_at_succ

/-- The disk behind i operations of the law. -/
def fz (k F : Nat) : Nat → DM
  | 0 => (DM.new k).fuse (F : Int)
  | i + 1 => if i % 2 = 0 then (fz k F i).wr ((i % k : Nat) : Int) z64 else (fz k F i).sy
theorem fz_ok {k F : Nat} (hk : 0 < k) : ∀ i, i ≤ F → (fz k F i).dn = false ∧ (fz k F i).fu = some (F - i) ∧ (fz k F i).n = k
  | 0, _ => ⟨rfl, by show (if 0 ≤ (F : Int) then some (F : Int).toNat else none) = _; rw [if_pos (by omega)]; simp, rfl⟩
  | i + 1, hi => by
    obtain ⟨h1, h2, h3⟩ := fz_ok (F := F) hk i (by omega)
    have hlt : i % k < k := Nat.mod_lt _ hk
    obtain ⟨q, hq⟩ : ∃ q, F - i = q + 1 := ⟨F - i - 1, by omega⟩
    rw [hq] at h2
    have hmay : (fz k F i).may = true := by unfold DM.may; rw [h2]; rfl
    have hb : (fz k F i).burn = { fz k F i with fu := some q } := by unfold DM.burn; rw [h2]
    show (if i % 2 = 0 then (fz k F i).wr ((i % k : Nat) : Int) z64 else (fz k F i).sy).dn = false ∧ (if i % 2 = 0 then (fz k F i).wr ((i % k : Nat) : Int) z64 else (fz k F i).sy).fu = some (F - (i + 1)) ∧ (if i % 2 = 0 then (fz k F i).wr ((i % k : Nat) : Int) z64 else (fz k F i).sy).n = k
    have hd : ¬ (fz k F i).dn = true := by simp [h1]
    split
    · unfold DM.wr
      rw [if_neg hd, if_pos ⟨by omega, by rw [h3]; omega⟩, if_pos z64_sec.1, if_pos hmay, hb]
      exact ⟨h1, by show some q = _; congr 1; omega, h3⟩
    · unfold DM.sy
      rw [if_neg hd, if_pos hmay, hb]
      exact ⟨h1, by show some q = _; congr 1; omega, h3⟩
theorem fl0_64 : fl (fun _ => 0) 64 = z64 := by decide
structure FzR (w wr : World) (b lb mb : Nat) (D : DM) : Prop where
  d : Dsk wr b lb mb D
  b : w.heap.size ≤ b
  l : w.heap.size ≤ lb
  m : w.heap.size ≤ mb
  k : Below w.heap.size w wr
theorem Kp.own {w wr w' : World} {b lb mb : Nat} (h1 : w.heap.size ≤ b) (h2 : w.heap.size ≤ lb) (h3 : w.heap.size ≤ mb) (hB : Below w.heap.size w wr) (hK : Kp (X3 b lb mb) wr w') : Below w.heap.size w w' :=
  ⟨hK.os.trans hB.os, hK.tape.trans hB.tape, hK.output.trans hB.output, Nat.le_trans hB.size hK.size, fun k hk => (hK.block k (Nat.lt_of_lt_of_le hk hB.size) (by
    cases hx : X3 b lb mb k with
    | false => rfl
    | true => rcases X3_of.1 hx with e | e | e <;> omega)).trans (hB.block k hk)⟩
theorem FzR.next {w wr w' : World} {b lb mb : Nat} {D D' : DM} (h : FzR w wr b lb mb D) (hD : Dsk w' b lb mb D') (hK : Kp (X3 b lb mb) wr w') : FzR w w' b lb mb D' :=
  ⟨hD, h.b, h.l, h.m, Kp.own h.b h.l h.m h.k hK⟩
theorem FzR.grow {w wr w' : World} {b lb mb : Nat} {D : DM} (h : FzR w wr b lb mb D) (hB : Below wr.heap.size wr w') : FzR w w' b lb mb D :=
  ⟨h.d.keep hB, h.b, h.l, h.m, K.call h.k hB⟩
theorem FzR.out {w wr : World} {b lb mb : Nat} {D : DM} (h : FzR w wr b lb mb D) {g : Nat} (hg : wr.heap.size ≤ g) : X3 b lb mb g = false := by
  cases hx : X3 b lb mb g with
  | false => rfl
  | true =>
    have h1 := h.d.bl
    have h2 := h.d.ll
    have h3 := h.d.mp.lt
    rcases X3_of.1 hx with e | e | e <;> omega
theorem nil_ba (w : World) : BA w none 0 (fun _ => 0) := ⟨fun _ => by omega, Or.inl rfl⟩
theorem wp_mk64 {w : World} {o : Oper} {a : Act} {Kt : Act → World → Prop} {Q : Exit → Act → World → Prop} (l c : Operand) (hop : o.op = Op.makeSlice 33 l c) (hl : a.eval l = .int .i64 64) (hc : a.eval c = .int .i64 64) (h : Kt (a.put o.dst (.slice (some ⟨w.heap.size, 0, none⟩) 64 64)) (w.alloc o64)) : o.wp Try.prog a w Kt Q := by
  have hrun := run_mk64 w
  unfold Oper.wp
  simp only [execOp, hop, hl, hc, hrun, Sem.run_bind, Sem.run_pure, Result.andThen_ok]
  exact h
set_option maxRecDepth 100000 in
set_option maxHeartbeats 8000000 in
theorem diskFuse_any {u v : Nat} (hu : u < 256) (hv : v < 256) (w : World) : Calls Try.prog 5 #[.int .u8 (u : Int), .int .u8 (v : Int)] w (OkT w) := by
  have hmk := run_mk64
  obtain ⟨k, hk⟩ : ∃ k : Nat, k = 1 + u % 40 := ⟨_, rfl⟩
  go_enter Try.func5, Try.ntmps5
  go_upto_region 2 with fail
  rw [show (1 + (u : Int) % 40) = (k : Int) by omega]
  have HKu : Hid (0 < k ∧ k ≤ 40) := ⟨by omega, by omega⟩
  clear hk hu
  go_wp2_with (first
    | (go_at_call 10; refine Calls.mono (new_any (n := k) (by have := HKu.out; omega) _) ?_; rintro e W1 ⟨b, lb, mb, rfl, hD, h1, h2, h3, hB⟩; have HR := hide (FzR.mk hD h1 h2 h3 hB); clear hD h1 h2 h3 hB)
    | (go_at_call 8; refine Calls.mono (awake_any _) ?_; rintro e W2 ⟨rfl, hB2⟩; replace HR := hide (HR.out.grow hB2); clear hB2)
    | (go_at_call 20; refine Calls.mono (fuse_any HR.out.d _ (by omega)) ?_; rintro e W3 ⟨⟨vf, rfl⟩, hD3, hK3⟩; replace HR := hide (HR.out.next hD3 hK3); clear hD3 hK3))
  have HV := hide hv
  go_loopg [8] v (fun g' s8 wr => ∃ i : Nat, g' = v - i ∧ i ≤ v ∧ s8 = .int .i64 (i : Int) ∧ FzR w wr b lb mb (fz k v i))
  case atStart => exact ⟨0, rfl, Nat.zero_le _, rfl, HR.out⟩
  case round =>
    clear HR
    obtain ⟨i, rfl, hi, rfl, hR⟩ := hrel
    obtain ⟨e1, e2, e3⟩ := fz_ok HKu.out.1 i hi
    have HR := hide hR
    clear hR
    by_cases hlt : i < v
    · have E1 : (fz k v i).wrE (k : Int) 0 = 3 := by
        unfold DM.wrE
        rw [if_neg (by simp [e1]), if_neg (by rw [e3]; omega)]
      have E2 : (fz k v i).wr (k : Int) (fl (fun _ => 0) 0) = fz k v i := by
        unfold DM.wr
        rw [if_neg (by simp [e1]), if_neg (by rw [e3]; omega)]
      have hk0 := HKu.out.1
      have E3 : (fz k v i).wrE 0 0 = 1 := by
        unfold DM.wrE
        rw [if_neg (by simp [e1]), if_pos (by rw [e3]; omega), if_neg (by omega)]
      have E4 : (fz k v i).wr 0 (fl (fun _ => 0) 0) = fz k v i := by
        unfold DM.wr
        rw [if_neg (by simp [e1]), if_pos (by rw [e3]; omega), if_neg (by rw [fl_len]; omega)]
      have HE2 := hide E2
      have HE4 := hide E4
      have hlt' : (i : Int) < (v : Int) := by omega
      clear E2 E4 hmk
      go_upto_region 11 with (first
        | (go_at_call 14; refine Calls.mono (down_any HR.out.d) ?_; rintro e W4 ⟨rfl, rfl⟩)
        | (go_at_call 15; refine Calls.mono (write_any HR.out.d _ (nil_ba _) (fun h => absurd h (by omega))) ?_; rintro e W5 ⟨rfl, hD5, hK5⟩; (first | rw [HE2.out] at hD5 | rw [HE4.out] at hD5); replace HR := hide (HR.out.next hD5 hK5); clear hD5 hK5))
      have hlk : i % k < k := Nat.mod_lt _ hk0
      have hmay : (fz k v i).may = true := by
        obtain ⟨q, hq⟩ : ∃ q, v - i = q + 1 := ⟨v - i - 1, by omega⟩
        unfold DM.may
        rw [e2, hq]
        rfl
      have hkz : ¬ k = 0 := by omega
      by_cases hev : i % 2 = 0
      · have E5 : (fz k v i).wrE ((i % k : Nat) : Int) 64 = 0 := by
          unfold DM.wrE
          rw [if_neg (by simp [e1]), if_pos (by rw [e3]; omega), if_pos rfl, if_pos hmay]
        have E6 : fz k v (i + 1) = (fz k v i).wr ((i % k : Nat) : Int) (fl (fun _ => 0) 64) := by rw [fl0_64]; exact if_pos hev
        have hx0 : ((i : Int) % 2 == 0) = true := by simp; omega
        have hx1 : ((i : Int) % 2 == 1) = false := by simp; omega
        have HR6 : Hid (FzR w (W5.drew.alloc o64) b lb mb (fz k v i)) := HR.out.grow (K.alloc (K.drew (Below.refl _ W5)) o64)
        have HX6 : Hid (X3 b lb mb W5.drew.heap.size = false) := HR.out.out (Nat.le_refl _)
        refine wp_region_noPanic ?_
        refine wp_region_held_drew (S := fun _ => True) (by kernel_rfl) trivial (fun hS0 => ?_)
        refine wpAnyH_take (i := 0) (v := .int .i64 (i : Int)) rfl (by kernel_rfl) (by kernel_rfl) (by kernel_rfl) (fun _ _ _ h => h) (Or.inl ⟨by rfl, fun w' _ => by go_simp⟩) trivial ?_
        simp only [Act.put, List.getElem_toArray, List.getElem_cons_zero, List.setIfInBounds_toArray, List.set_cons_zero, List.set_cons_succ]
        refine wpAnyH_take (i := 1) (v := .int .i64 ((i : Int) % 2)) rfl (by kernel_rfl) (by kernel_rfl) (by kernel_rfl) (fun _ _ _ h => h) (Or.inl ⟨by rfl, fun w' _ => by go_simp; exact Int.tmod_eq_emod_of_nonneg (by omega)⟩) trivial ?_
        simp only [Act.put, List.getElem_toArray, List.getElem_cons_zero, List.getElem_cons_succ, List.setIfInBounds_toArray, List.set_cons_zero, List.set_cons_succ]
        refine wpAnyH_take (i := 2) (v := .bool true) rfl (by kernel_rfl) (by kernel_rfl) (by kernel_rfl) (fun _ _ _ h => h) (Or.inl ⟨by rfl, fun w' _ => by go_simp⟩) trivial ?_
        simp only [Act.put, List.getElem_toArray, List.getElem_cons_zero, List.getElem_cons_succ, List.setIfInBounds_toArray, List.set_cons_zero, List.set_cons_succ]
        refine wpAnyH_take (i := 3) (v := .bool true) rfl (by kernel_rfl) (by kernel_rfl) (by kernel_rfl) (fun _ _ _ h => h) (Or.inl ⟨by rfl, fun w' _ => by go_simp⟩) trivial ?_
        simp only [Act.put, List.getElem_toArray, List.getElem_cons_zero, List.getElem_cons_succ, List.setIfInBounds_toArray, List.set_cons_zero, List.set_cons_succ]
        refine wpAnyH_take (i := 4) (v := pp b) rfl (by kernel_rfl) (by kernel_rfl) (by kernel_rfl) (fun _ _ _ h => h) (Or.inl ⟨by rfl, fun w' _ => by go_simp⟩) trivial ?_
        simp only [Act.put, List.getElem_toArray, List.getElem_cons_zero, List.getElem_cons_succ, List.setIfInBounds_toArray, List.set_cons_zero, List.set_cons_succ]
        refine wpAnyH_take (i := 5) (v := .int .i64 (i : Int)) rfl (by kernel_rfl) (by kernel_rfl) (by kernel_rfl) (fun _ _ _ h => h) (Or.inl ⟨by rfl, fun w' _ => by go_simp⟩) trivial ?_
        simp only [Act.put, List.getElem_toArray, List.getElem_cons_zero, List.getElem_cons_succ, List.setIfInBounds_toArray, List.set_cons_zero, List.set_cons_succ]
        refine wpAnyH_take (i := 6) (v := .int .i64 (k : Int)) rfl (by kernel_rfl) (by kernel_rfl) (by kernel_rfl) (fun _ _ _ h => h) (Or.inl ⟨by rfl, fun w' _ => by go_simp⟩) trivial ?_
        simp only [Act.put, List.getElem_toArray, List.getElem_cons_zero, List.getElem_cons_succ, List.setIfInBounds_toArray, List.set_cons_zero, List.set_cons_succ]
        refine wpAnyH_take (i := 7) (v := .int .i64 ((i % k : Nat) : Int)) rfl (by kernel_rfl) (by kernel_rfl) (by kernel_rfl) (fun _ _ _ h => h) (Or.inl ⟨by rfl, fun w' _ => by go_simp; exact Int.tmod_eq_emod_of_nonneg (by omega)⟩) trivial ?_
        simp only [Act.put, List.getElem_toArray, List.getElem_cons_zero, List.getElem_cons_succ, List.setIfInBounds_toArray, List.set_cons_zero, List.set_cons_succ]
        refine wpAnyH_ready (rs := [8]) (by kernel_rfl) (by simp) (AllReadyH.cons rfl (fun Kt hK => ?_) AllReadyH.nil)
        refine wanted_pos rfl ?_
        refine wp_mk64 _ _ rfl (by rfl) (by rfl) (hK.out _ _ trivial (fun _ => ?_))
        clear hK Kt
        simp only [Act.put, List.getElem_toArray, List.getElem_cons_zero, List.getElem_cons_succ, List.setIfInBounds_toArray, List.set_cons_zero, List.set_cons_succ]
        refine wpAnyH_ready (rs := [9]) (by kernel_rfl) (by simp) (AllReadyH.cons rfl (fun Kt hK => ?_) AllReadyH.nil)
        refine wanted_pos rfl ?_
        refine wp_call (R := fun r w' => r = .int .i64 0 ∧ FzR w w' b lb mb (fz k v (i + 1))) (vs := #[pp b, .int .i64 ((i % k : Nat) : Int), .slice (some ⟨W5.drew.heap.size, 0, none⟩) 64 64]) rfl (by simp only [List.map_toArray, List.map_cons, List.map_nil]; rfl) (by go_simp) (Calls.mono (write_any HR6.out.d _ (ba64 _) (fun _ p hp => by cases hp; exact HX6.out)) (fun e w' ⟨he, hD, hK⟩ => ⟨_, he, congrArg (Value.int .i64) E5, by rw [E6]; exact HR6.out.next hD hK⟩)) (fun r W7 ⟨hr, hR7⟩ => ?_)
        subst hr
        have HR7 := hide hR7
        clear hR7
        refine hK.out _ _ trivial (fun _ => ?_)
        clear hK Kt
        simp only [Act.put, List.getElem_toArray, List.getElem_cons_zero, List.getElem_cons_succ, List.setIfInBounds_toArray, List.set_cons_zero, List.set_cons_succ]
        refine wpAnyH_take (i := 10) (v := .bool false) rfl (by kernel_rfl) (by kernel_rfl) (by kernel_rfl) (fun _ _ _ h => h) (Or.inl ⟨by rfl, fun w' _ => by go_simp⟩) trivial ?_
        simp only [Act.put, List.getElem_toArray, List.getElem_cons_zero, List.getElem_cons_succ, List.setIfInBounds_toArray, List.set_cons_zero, List.set_cons_succ]
        refine wpAnyH_take (i := 11) (v := .bool false) rfl (by kernel_rfl) (by kernel_rfl) (by kernel_rfl) (fun _ _ _ h => h) (Or.inl ⟨by rfl, fun w' _ => by go_simp⟩) trivial ?_
        simp only [Act.put, List.getElem_toArray, List.getElem_cons_zero, List.getElem_cons_succ, List.setIfInBounds_toArray, List.set_cons_zero, List.set_cons_succ]
        refine wpAnyH_take (i := 12) (v := .bool false) rfl (by kernel_rfl) (by kernel_rfl) (by kernel_rfl) (fun _ _ _ h => h) (Or.inl ⟨by rfl, fun w' _ => by go_simp⟩) trivial ?_
        simp only [Act.put, List.getElem_toArray, List.getElem_cons_zero, List.getElem_cons_succ, List.setIfInBounds_toArray, List.set_cons_zero, List.set_cons_succ]
        refine wpAnyH_take (i := 13) (v := .int .i64 (i : Int)) rfl (by kernel_rfl) (by kernel_rfl) (by kernel_rfl) (fun _ _ _ h => h) (Or.inl ⟨by rfl, fun w' _ => by go_simp⟩) trivial ?_
        simp only [Act.put, List.getElem_toArray, List.getElem_cons_zero, List.getElem_cons_succ, List.setIfInBounds_toArray, List.set_cons_zero, List.set_cons_succ]
        refine wpAnyH_take (i := 14) (v := .int .i64 ((i : Int) % 2)) rfl (by kernel_rfl) (by kernel_rfl) (by kernel_rfl) (fun _ _ _ h => h) (Or.inl ⟨by rfl, fun w' _ => by go_simp; exact Int.tmod_eq_emod_of_nonneg (by omega)⟩) trivial ?_
        simp only [Act.put, List.getElem_toArray, List.getElem_cons_zero, List.getElem_cons_succ, List.setIfInBounds_toArray, List.set_cons_zero, List.set_cons_succ]
        refine wpAnyH_take (i := 15) (v := .bool false) rfl (by kernel_rfl) (by kernel_rfl) (by kernel_rfl) (fun _ _ _ h => h) (Or.inl ⟨by rfl, fun w' _ => by go_simp⟩) trivial ?_
        simp only [Act.put, List.getElem_toArray, List.getElem_cons_zero, List.getElem_cons_succ, List.setIfInBounds_toArray, List.set_cons_zero, List.set_cons_succ]
        refine wpAnyH_take (i := 16) (v := .bool false) rfl (by kernel_rfl) (by kernel_rfl) (by kernel_rfl) (fun _ _ _ h => h) (Or.inl ⟨by rfl, fun w' _ => by go_simp⟩) trivial ?_
        simp only [Act.put, List.getElem_toArray, List.getElem_cons_zero, List.getElem_cons_succ, List.setIfInBounds_toArray, List.set_cons_zero, List.set_cons_succ]
        refine wpAnyH_take (i := 17) (v := undef) rfl (by kernel_rfl) (by kernel_rfl) (by kernel_rfl) (fun _ _ _ h => h) (Or.inr ⟨by rfl, rfl⟩) trivial ?_
        simp only [Act.put, List.getElem_toArray, List.getElem_cons_zero, List.getElem_cons_succ, List.setIfInBounds_toArray, List.set_cons_zero, List.set_cons_succ]
        refine wpAnyH_take (i := 18) (v := undef) rfl (by kernel_rfl) (by kernel_rfl) (by kernel_rfl) (fun _ _ _ h => h) (Or.inr ⟨by rfl, rfl⟩) trivial ?_
        simp only [Act.put, List.getElem_toArray, List.getElem_cons_zero, List.getElem_cons_succ, List.setIfInBounds_toArray, List.set_cons_zero, List.set_cons_succ]
        refine wpAnyH_take (i := 19) (v := undef) rfl (by kernel_rfl) (by kernel_rfl) (by kernel_rfl) (fun _ _ _ h => h) (Or.inr ⟨by rfl, rfl⟩) trivial ?_
        simp only [Act.put, List.getElem_toArray, List.getElem_cons_zero, List.getElem_cons_succ, List.setIfInBounds_toArray, List.set_cons_zero, List.set_cons_succ]
        refine wpAnyH_take (i := 20) (v := .bool false) rfl (by kernel_rfl) (by kernel_rfl) (by kernel_rfl) (fun _ _ _ h => h) (Or.inl ⟨by rfl, fun w' _ => by go_simp⟩) trivial ?_
        simp only [Act.put, List.getElem_toArray, List.getElem_cons_zero, List.getElem_cons_succ, List.setIfInBounds_toArray, List.set_cons_zero, List.set_cons_succ]
        refine wpAnyH_take (i := 21) (v := .bool false) rfl (by kernel_rfl) (by kernel_rfl) (by kernel_rfl) (fun _ _ _ h => h) (Or.inl ⟨by rfl, fun w' _ => by go_simp⟩) trivial ?_
        simp only [Act.put, List.getElem_toArray, List.getElem_cons_zero, List.getElem_cons_succ, List.setIfInBounds_toArray, List.set_cons_zero, List.set_cons_succ]
        refine wpAnyH_done (by kernel_rfl) ?_ _
        refine NoPanic.normal ?_
        go_wp2_with fail
        go_roundg (v - (i + 1))
        case measure => omega
        case rel =>
          exact ⟨i + 1, rfl, by omega, by simp, HR7.out⟩
      · have E5 : (fz k v i).syE = 0 := by
          unfold DM.syE
          rw [if_neg (by simp [e1]), if_pos hmay]
        have E6 : fz k v (i + 1) = (fz k v i).sy := if_neg hev
        have hx0 : ((i : Int) % 2 == 0) = false := by simp; omega
        have hx1 : ((i : Int) % 2 == 1) = true := by simp; omega
        have HR6 : Hid (FzR w W5.drew b lb mb (fz k v i)) := HR.out.grow (K.drew (Below.refl _ W5))
        refine wp_region_noPanic ?_
        refine wp_region_held_drew (S := fun _ => True) (by kernel_rfl) trivial (fun hS0 => ?_)
        refine wpAnyH_take (i := 0) (v := .int .i64 (i : Int)) rfl (by kernel_rfl) (by kernel_rfl) (by kernel_rfl) (fun _ _ _ h => h) (Or.inl ⟨by rfl, fun w' _ => by go_simp⟩) trivial ?_
        simp only [Act.put, List.getElem_toArray, List.getElem_cons_zero, List.setIfInBounds_toArray, List.set_cons_zero, List.set_cons_succ]
        refine wpAnyH_take (i := 1) (v := .int .i64 ((i : Int) % 2)) rfl (by kernel_rfl) (by kernel_rfl) (by kernel_rfl) (fun _ _ _ h => h) (Or.inl ⟨by rfl, fun w' _ => by go_simp; exact Int.tmod_eq_emod_of_nonneg (by omega)⟩) trivial ?_
        simp only [Act.put, List.getElem_toArray, List.getElem_cons_zero, List.getElem_cons_succ, List.setIfInBounds_toArray, List.set_cons_zero, List.set_cons_succ]
        refine wpAnyH_take (i := 2) (v := .bool false) rfl (by kernel_rfl) (by kernel_rfl) (by kernel_rfl) (fun _ _ _ h => h) (Or.inl ⟨by rfl, fun w' _ => by go_simp⟩) trivial ?_
        simp only [Act.put, List.getElem_toArray, List.getElem_cons_zero, List.getElem_cons_succ, List.setIfInBounds_toArray, List.set_cons_zero, List.set_cons_succ]
        refine wpAnyH_take (i := 3) (v := .bool false) rfl (by kernel_rfl) (by kernel_rfl) (by kernel_rfl) (fun _ _ _ h => h) (Or.inl ⟨by rfl, fun w' _ => by go_simp⟩) trivial ?_
        simp only [Act.put, List.getElem_toArray, List.getElem_cons_zero, List.getElem_cons_succ, List.setIfInBounds_toArray, List.set_cons_zero, List.set_cons_succ]
        refine wpAnyH_take (i := 4) (v := undef) rfl (by kernel_rfl) (by kernel_rfl) (by kernel_rfl) (fun _ _ _ h => h) (Or.inr ⟨by rfl, rfl⟩) trivial ?_
        simp only [Act.put, List.getElem_toArray, List.getElem_cons_zero, List.getElem_cons_succ, List.setIfInBounds_toArray, List.set_cons_zero, List.set_cons_succ]
        refine wpAnyH_take (i := 5) (v := undef) rfl (by kernel_rfl) (by kernel_rfl) (by kernel_rfl) (fun _ _ _ h => h) (Or.inr ⟨by rfl, rfl⟩) trivial ?_
        simp only [Act.put, List.getElem_toArray, List.getElem_cons_zero, List.getElem_cons_succ, List.setIfInBounds_toArray, List.set_cons_zero, List.set_cons_succ]
        refine wpAnyH_take (i := 6) (v := undef) rfl (by kernel_rfl) (by kernel_rfl) (by kernel_rfl) (fun _ _ _ h => h) (Or.inr ⟨by rfl, rfl⟩) trivial ?_
        simp only [Act.put, List.getElem_toArray, List.getElem_cons_zero, List.getElem_cons_succ, List.setIfInBounds_toArray, List.set_cons_zero, List.set_cons_succ]
        refine wpAnyH_take (i := 7) (v := undef) rfl (by kernel_rfl) (by kernel_rfl) (by kernel_rfl) (fun _ _ _ h => h) (Or.inr ⟨by rfl, rfl⟩) trivial ?_
        simp only [Act.put, List.getElem_toArray, List.getElem_cons_zero, List.getElem_cons_succ, List.setIfInBounds_toArray, List.set_cons_zero, List.set_cons_succ]
        refine wpAnyH_take (i := 8) (v := undef) rfl (by kernel_rfl) (by kernel_rfl) (by kernel_rfl) (fun _ _ _ h => h) (Or.inr ⟨by rfl, rfl⟩) trivial ?_
        simp only [Act.put, List.getElem_toArray, List.getElem_cons_zero, List.getElem_cons_succ, List.setIfInBounds_toArray, List.set_cons_zero, List.set_cons_succ]
        refine wpAnyH_take (i := 9) (v := undef) rfl (by kernel_rfl) (by kernel_rfl) (by kernel_rfl) (fun _ _ _ h => h) (Or.inr ⟨by rfl, rfl⟩) trivial ?_
        simp only [Act.put, List.getElem_toArray, List.getElem_cons_zero, List.getElem_cons_succ, List.setIfInBounds_toArray, List.set_cons_zero, List.set_cons_succ]
        refine wpAnyH_take (i := 10) (v := undef) rfl (by kernel_rfl) (by kernel_rfl) (by kernel_rfl) (fun _ _ _ h => h) (Or.inr ⟨by rfl, rfl⟩) trivial ?_
        simp only [Act.put, List.getElem_toArray, List.getElem_cons_zero, List.getElem_cons_succ, List.setIfInBounds_toArray, List.set_cons_zero, List.set_cons_succ]
        refine wpAnyH_take (i := 11) (v := .bool false) rfl (by kernel_rfl) (by kernel_rfl) (by kernel_rfl) (fun _ _ _ h => h) (Or.inl ⟨by rfl, fun w' _ => by go_simp⟩) trivial ?_
        simp only [Act.put, List.getElem_toArray, List.getElem_cons_zero, List.getElem_cons_succ, List.setIfInBounds_toArray, List.set_cons_zero, List.set_cons_succ]
        refine wpAnyH_take (i := 12) (v := .bool false) rfl (by kernel_rfl) (by kernel_rfl) (by kernel_rfl) (fun _ _ _ h => h) (Or.inl ⟨by rfl, fun w' _ => by go_simp⟩) trivial ?_
        simp only [Act.put, List.getElem_toArray, List.getElem_cons_zero, List.getElem_cons_succ, List.setIfInBounds_toArray, List.set_cons_zero, List.set_cons_succ]
        refine wpAnyH_take (i := 13) (v := .int .i64 (i : Int)) rfl (by kernel_rfl) (by kernel_rfl) (by kernel_rfl) (fun _ _ _ h => h) (Or.inl ⟨by rfl, fun w' _ => by go_simp⟩) trivial ?_
        simp only [Act.put, List.getElem_toArray, List.getElem_cons_zero, List.getElem_cons_succ, List.setIfInBounds_toArray, List.set_cons_zero, List.set_cons_succ]
        refine wpAnyH_take (i := 14) (v := .int .i64 ((i : Int) % 2)) rfl (by kernel_rfl) (by kernel_rfl) (by kernel_rfl) (fun _ _ _ h => h) (Or.inl ⟨by rfl, fun w' _ => by go_simp; exact Int.tmod_eq_emod_of_nonneg (by omega)⟩) trivial ?_
        simp only [Act.put, List.getElem_toArray, List.getElem_cons_zero, List.getElem_cons_succ, List.setIfInBounds_toArray, List.set_cons_zero, List.set_cons_succ]
        refine wpAnyH_take (i := 15) (v := .bool true) rfl (by kernel_rfl) (by kernel_rfl) (by kernel_rfl) (fun _ _ _ h => h) (Or.inl ⟨by rfl, fun w' _ => by go_simp⟩) trivial ?_
        simp only [Act.put, List.getElem_toArray, List.getElem_cons_zero, List.getElem_cons_succ, List.setIfInBounds_toArray, List.set_cons_zero, List.set_cons_succ]
        refine wpAnyH_take (i := 16) (v := .bool true) rfl (by kernel_rfl) (by kernel_rfl) (by kernel_rfl) (fun _ _ _ h => h) (Or.inl ⟨by rfl, fun w' _ => by go_simp⟩) trivial ?_
        simp only [Act.put, List.getElem_toArray, List.getElem_cons_zero, List.getElem_cons_succ, List.setIfInBounds_toArray, List.set_cons_zero, List.set_cons_succ]
        refine wpAnyH_take (i := 17) (v := pp b) rfl (by kernel_rfl) (by kernel_rfl) (by kernel_rfl) (fun _ _ _ h => h) (Or.inl ⟨by rfl, fun w' _ => by go_simp⟩) trivial ?_
        simp only [Act.put, List.getElem_toArray, List.getElem_cons_zero, List.getElem_cons_succ, List.setIfInBounds_toArray, List.set_cons_zero, List.set_cons_succ]
        refine wpAnyH_ready (rs := [18]) (by kernel_rfl) (by simp) (AllReadyH.cons rfl (fun Kt hK => ?_) AllReadyH.nil)
        refine wanted_pos rfl ?_
        refine wp_call (R := fun r w' => r = .int .i64 0 ∧ FzR w w' b lb mb (fz k v (i + 1))) (vs := #[pp b]) rfl (by simp only [List.map_toArray, List.map_cons, List.map_nil]; rfl) (by go_simp) (Calls.mono (sync_any HR6.out.d) (fun e w' ⟨he, hD, hK⟩ => ⟨_, he, congrArg (Value.int .i64) E5, by rw [E6]; exact HR6.out.next hD hK⟩)) (fun r W7 ⟨hr, hR7⟩ => ?_)
        subst hr
        have HR7 := hide hR7
        clear hR7
        refine hK.out _ _ trivial (fun _ => ?_)
        clear hK Kt
        simp only [Act.put, List.getElem_toArray, List.getElem_cons_zero, List.getElem_cons_succ, List.setIfInBounds_toArray, List.set_cons_zero, List.set_cons_succ]
        refine wpAnyH_take (i := 19) (v := .bool false) rfl (by kernel_rfl) (by kernel_rfl) (by kernel_rfl) (fun _ _ _ h => h) (Or.inl ⟨by rfl, fun w' _ => by go_simp⟩) trivial ?_
        simp only [Act.put, List.getElem_toArray, List.getElem_cons_zero, List.getElem_cons_succ, List.setIfInBounds_toArray, List.set_cons_zero, List.set_cons_succ]
        refine wpAnyH_take (i := 20) (v := .bool false) rfl (by kernel_rfl) (by kernel_rfl) (by kernel_rfl) (fun _ _ _ h => h) (Or.inl ⟨by rfl, fun w' _ => by go_simp⟩) trivial ?_
        simp only [Act.put, List.getElem_toArray, List.getElem_cons_zero, List.getElem_cons_succ, List.setIfInBounds_toArray, List.set_cons_zero, List.set_cons_succ]
        refine wpAnyH_take (i := 21) (v := .bool false) rfl (by kernel_rfl) (by kernel_rfl) (by kernel_rfl) (fun _ _ _ h => h) (Or.inl ⟨by rfl, fun w' _ => by go_simp⟩) trivial ?_
        simp only [Act.put, List.getElem_toArray, List.getElem_cons_zero, List.getElem_cons_succ, List.setIfInBounds_toArray, List.set_cons_zero, List.set_cons_succ]
        refine wpAnyH_done (by kernel_rfl) ?_ _
        refine NoPanic.normal ?_
        go_wp2_with fail
        go_roundg (v - (i + 1))
        case measure => omega
        case rel =>
          exact ⟨i + 1, rfl, by omega, by simp, HR7.out⟩
    · obtain rfl : i = v := by omega
      have hmk := run_mk64
      obtain ⟨D, hD⟩ : ∃ D, D = fz k i i := ⟨_, rfl⟩
      rw [← hD] at HR e1 e2 e3
      clear hD
      rw [Nat.sub_self] at e2
      have E1 : D.syE = 6 := by
        unfold DM.syE DM.may
        rw [if_neg (by simp [e1]), e2]
        rfl
      have E2 : D.sy = { D with dn := true } := by
        unfold DM.sy DM.may DM.burn
        rw [if_neg (by simp [e1]), e2]
        rfl
      have HE2 := hide E2
      have hnlt : ¬ (i : Int) < (i : Int) := by omega
      clear E2 hlt
      go_wp2_with (first
        | (go_at_call 14; refine Calls.mono (down_any HR.out.d) ?_; rintro e W4 ⟨rfl, rfl⟩)
        | (go_at_call 16; refine Calls.mono (sync_any HR.out.d) ?_; rintro e W5 ⟨rfl, hD5, hK5⟩; (first | rw [HE2.out] at hD5 | skip); replace HR := hide (HR.out.next hD5 hK5); clear hD5 hK5)
        | (go_at_call 15; have HR6 := hide (HR.out.grow (K.alloc (Below.refl _ _) o64)); have HX6 := hide (HR.out.out (Nat.le_refl _)); refine Calls.mono (write_any HR6.out.d _ (ba64 _) (fun _ p hp => by cases hp; exact HX6.out)) ?_; rintro e W6 ⟨rfl, hD6, hK6⟩; rw [show DM.wr { D with dn := true } 0 (fl (fun _ => 0) 64) = { D with dn := true } from rfl] at hD6; rw [show DM.wrE { D with dn := true } 0 64 = 6 from rfl]; replace HR := hide (HR6.out.next hD6 hK6); clear hD6 hK6)
        | (go_at_call 18; refine Calls.mono (read_any HR.out.d _) ?_; rintro e W7 ⟨vr, rfl, _, hB7⟩; rw [show DM.rdE { D with dn := true } 0 = 6 from rfl]; replace HR := hide (HR.out.grow hB7); clear hB7)
        | (go_at_call 17; refine Calls.mono (crash_any (KL := []) HR.out.d (Or.inl rfl) (fun h => absurd rfl h) 0 0) ?_; rintro e W8 ⟨⟨vc, rfl⟩, hD8, hK8⟩; replace HR := hide (HR.out.next hD8 hK8); clear hD8 hK8))
      go_ret
      exact ⟨rfl, HR.out.k⟩
end Go.Proofs.Ytmifmgnlfjahmaa
