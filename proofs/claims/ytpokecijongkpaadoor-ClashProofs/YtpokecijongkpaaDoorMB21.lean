/- Layer 19: the program's own Proof. -/
import Derived.Test.YtpokecijongkpaaDoorMB20
namespace Go.Proofs.YtpokecijongkpaaDoor
set_option maxRecDepth 100000
open Go.RowKit
attribute [local go_sem ↓] Go.wp_at_zero Go.wp_at_succ

theorem meet8 {A B C D E F G H : Type} {R : Prop} {P : A → B → C → D → E → F → G → H → Prop} (main : (∀ a b c d e f g h, P a b c d e f g h) → R) (x : ∀ a b c d e f g h, P a b c d e f g h) : R := main x
theorem ls_next (F : Nat → Nat → Nat) (l : Nat) : ls F 1 l = ls (fun i => F (1 + i)) 0 (l - 1) := by
  unfold ls
  rw [Nat.sub_zero]
  refine List.map_congr_left fun i _ => ?_
  show F (1 + i) = F (1 + (0 + i))
  rw [Nat.zero_add]
theorem shr_nat (m k : Nat) : (m : Int) / 2 ^ k = ((m / 2 ^ k : Nat) : Int) := by
  rw [Int.natCast_ediv, Int.natCast_pow]
  rfl
set_option maxRecDepth 100000 in
set_option maxHeartbeats 16000000 in
theorem checkProof_any {w : World} {y : Option Addr} {l c : Nat} {m n : Int} {F : Nat → Nat → Nat} {f g : Nat → Nat} (hT : TabZ w) (hL : HL w y l F) (hc : l ≤ c) (hmx : c ≤ maxLen) (hl : l ≤ 100000) (hn : n < 9223372036854775808) (hf : ∀ j, f j < 256) (_hg : ∀ j, g j < 256) :
    Calls Tryd.prog 25 #[.int .i64 m, .int .i64 n, hv f, .slice y l c, hv g] w fun e w' => e = .returned (.bool (ckT m n f (rv F l) g)) ∧ Below w.heap.size w w' := by
  by_cases h : m < 1 ∨ n < m
  · rw [ckT_not h]
    unfold hv
    rcases h with h | h
    · clear hT hL hc hmx hn hf _hg hl
      go_enter Tryd.func25, Tryd.ntmps25
      go_upto_region 1 with fail
      refine wp_world (fun X hX => ?_)
      have hv := Vs.boxedg hX
      clear hX
      obtain ⟨b0, hb0⟩ : ∃ b0, w.heap.size = b0 := ⟨_, rfl⟩
      rw [hb0] at hv ⊢
      have HV := hide hv
      clear hv hb0
      go_wp2_with fail
      go_ret
      exact ⟨rfl, HV.out.k⟩
    · by_cases h0 : m < 1
      · clear hT hL hc hmx hn hf _hg h hl
        go_enter Tryd.func25, Tryd.ntmps25
        go_upto_region 1 with fail
        refine wp_world (fun X hX => ?_)
        have hv := Vs.boxedg hX
        clear hX
        obtain ⟨b0, hb0⟩ : ∃ b0, w.heap.size = b0 := ⟨_, rfl⟩
        rw [hb0] at hv ⊢
        have HV := hide hv
        clear hv hb0
        go_wp2_with fail
        go_ret
        exact ⟨rfl, HV.out.k⟩
      · clear hT hL hc hmx hn hf _hg hl
        go_enter Tryd.func25, Tryd.ntmps25
        go_upto_region 1 with fail
        refine wp_world (fun X hX => ?_)
        have hv := Vs.boxedg hX
        clear hX
        obtain ⟨b0, hb0⟩ : ∃ b0, w.heap.size = b0 := ⟨_, rfl⟩
        rw [hb0] at hv ⊢
        have HV := hide hv
        clear hv hb0
        go_wp2_with fail
        go_ret
        exact ⟨rfl, HV.out.k⟩
  obtain ⟨m, rfl⟩ := Int.eq_ofNat_of_zero_le (show 0 ≤ m by omega)
  obtain ⟨n, rfl⟩ := Int.eq_ofNat_of_zero_le (show 0 ≤ n by omega)
  have hm1 : 1 ≤ m := by omega
  have hmn : m ≤ n := by omega
  have hq1 : ¬ ((m : Int) < 1) := by omega
  have hq2 : ¬ ((n : Int) < (m : Int)) := by omega
  by_cases hm : m = n
  · subst hm
    by_cases h0 : l = 0
    · subst h0
      rw [show rv F 0 = [] from rfl, ckT_all hm1]
      have HEq := hide (fun W => eqH f g W)
      clear hT hL hc hmx hn hf _hg h hmn hl
      unfold hv
      cases he : eqB f g 32 with
      | true =>
        rw [he] at HEq
        go_enter Tryd.func25, Tryd.ntmps25
        go_upto_region 1 with fail
        refine wp_world (fun X hX => ?_)
        have hv := Vs.boxedg hX
        clear hX
        obtain ⟨b0, hb0⟩ : ∃ b0, w.heap.size = b0 := ⟨_, rfl⟩
        rw [hb0] at hv ⊢
        have HV := hide hv
        clear hv hb0
        go_wp2_with (first | (refine wpList_load_g (g := b0 + 1) (by rfl) _ rfl rfl (HV.out.rg 0 rfl) ?_; simp only [Act.put, List.setIfInBounds_toArray, List.set_cons_zero, List.set_cons_succ]) | (refine wpList_load_g (g := b0) (by rfl) _ rfl rfl (HV.out.rg 1 rfl) ?_; simp only [Act.put, List.setIfInBounds_toArray, List.set_cons_zero, List.set_cons_succ]) | (refine wpList_eqH (by rfl) _ _ _ rfl _ _ true rfl rfl (HEq.out _) ?_; simp only [Act.put, List.setIfInBounds_toArray, List.set_cons_zero, List.set_cons_succ]))
        go_ret
        exact ⟨rfl, HV.out.k⟩
      | false =>
        rw [he] at HEq
        go_enter Tryd.func25, Tryd.ntmps25
        go_upto_region 1 with fail
        refine wp_world (fun X hX => ?_)
        have hv := Vs.boxedg hX
        clear hX
        obtain ⟨b0, hb0⟩ : ∃ b0, w.heap.size = b0 := ⟨_, rfl⟩
        rw [hb0] at hv ⊢
        have HV := hide hv
        clear hv hb0
        go_wp2_with (first | (refine wpList_load_g (g := b0 + 1) (by rfl) _ rfl rfl (HV.out.rg 0 rfl) ?_; simp only [Act.put, List.setIfInBounds_toArray, List.set_cons_zero, List.set_cons_succ]) | (refine wpList_load_g (g := b0) (by rfl) _ rfl rfl (HV.out.rg 1 rfl) ?_; simp only [Act.put, List.setIfInBounds_toArray, List.set_cons_zero, List.set_cons_succ]) | (refine wpList_eqH (by rfl) _ _ _ rfl _ _ false rfl rfl (HEq.out _) ?_; simp only [Act.put, List.setIfInBounds_toArray, List.set_cons_zero, List.set_cons_succ]))
        go_ret
        exact ⟨rfl, HV.out.k⟩
    · obtain ⟨l1, hl1⟩ : ∃ k, l = k + 1 := ⟨l - 1, by omega⟩
      have hub : ((l : Int) == 0) = false := beq_eq_false_iff_ne.2 (by omega)
      rw [show rv F l = F l1 :: rv F l1 by rw [hl1]; rfl, ckT_alls hm1]
      clear hT hL hc hmx hn hf _hg h hmn hl hl1 h0
      unfold hv
      go_enter Tryd.func25, Tryd.ntmps25
      go_upto_region 1 with fail
      refine wp_world (fun X hX => ?_)
      have hv := Vs.boxedg hX
      clear hX
      obtain ⟨b0, hb0⟩ : ∃ b0, w.heap.size = b0 := ⟨_, rfl⟩
      rw [hb0] at hv ⊢
      have HV := hide hv
      clear hv hb0
      go_wp2_with fail
      go_ret
      exact ⟨rfl, HV.out.k⟩
  have hlt : m < n := by omega
  have hmb : ((m : Int) == (n : Int)) = false := beq_eq_false_iff_ne.2 (by omega)
  obtain ⟨k, hk⟩ : ∃ k, Lib.ctz 64 m = k := ⟨_, rfl⟩
  obtain ⟨o, ho, hk64⟩ := ctz_of (m := m) (by omega) (by omega)
  rw [hk] at ho hk64
  obtain ⟨m1, hm1'⟩ : ∃ k, m - 1 = k := ⟨_, rfl⟩
  obtain ⟨n1, hn1'⟩ : ∃ k, n - 1 = k := ⟨_, rfl⟩
  obtain ⟨a, ha⟩ : ∃ a, (m - 1) / 2 ^ k = a := ⟨_, rfl⟩
  obtain ⟨z, hz⟩ : ∃ z, (n - 1) / 2 ^ k = z := ⟨_, rfl⟩
  have haz : a ≤ z := by rw [← ha, ← hz]; exact Nat.div_le_div_right (by omega)
  have hzn : z ≤ n - 1 := by rw [← hz]; exact Nat.div_le_self _ _
  have hcu : IntKind.u64.wrap (m : Int) = (m : Int) := by rw [IntKind.wrap_u64]; omega
  have hwm : wrap64 ((m : Int) - 1) = (m1 : Int) := by unfold wrap64; omega
  have hwn : wrap64 ((n : Int) - 1) = (n1 : Int) := by unfold wrap64; omega
  have hwm' : IntKind.i64.wrap ((m : Int) - 1) = (m1 : Int) := by rw [IntKind.wrap_i64]; omega
  have hwn' : IntKind.i64.wrap ((n : Int) - 1) = (n1 : Int) := by rw [IntKind.wrap_i64]; omega
  have hsa : (m1 : Int) / 2 ^ k = (a : Int) := by rw [shr_nat, ← ha, hm1']
  have hsz : (n1 : Int) / 2 ^ k = (z : Int) := by rw [shr_nat, ← hz, hn1']
  have htz := fun W (h : Below w.heap.size w W) => tz_any (w := W) (x := m) (hT.keep h) (by omega) (by omega)
  rw [hk] at htz
  have HTz := hide htz
  obtain ⟨S, hS⟩ : ∃ S, fe (z + 1) a = S := ⟨_, rfl⟩
  have hfe := fun W => fellows_any (w := W) (a := a) (z := z) haz (by omega)
  rw [hS] at hfe
  have HFe := hide hfe
  rw [ckT_nat hm1 hmn, ← ls_rev F l]
  obtain ⟨O, hO⟩ : ∃ O, tw n m true f (ls F 0 l).reverse = O := ⟨_, rfl⟩
  have hbu := bu_fe f (ls F 0 l) hO hlt ho
  rw [ha, hz, hS] at hbu
  have HT := hide hT.tab
  have HLs := hide hL
  have HC := hide (And.intro hc (And.intro hmx hl))
  have HF := hide hf
  have HBu := hide hbu
  rw [hO]
  clear hT hL hc hmx hn hf _hg h hmn hO hl ho ha hz haz hzn hm1' hn1' htz hfe hS hbu hlt hm hm1 hk
  unfold hv
  go_enter Tryd.func25, Tryd.ntmps25
  go_upto_region 1 with fail
  refine wp_world (fun X hX => ?_)
  have hv := Vs.boxedg hX
  clear hX
  obtain ⟨b0, hb0⟩ : ∃ b0, w.heap.size = b0 := ⟨_, rfl⟩
  rw [hb0] at hv ⊢
  have HV := hide hv
  clear hv hb0
  go_upto_region 6 with (go_at_call 41; refine Calls.mono (HTz.out _ HV.out.k) ?_; rintro e W0 ⟨rfl, hw⟩; rw [hw])
  clear hcu HTz
  have HVd := hide HV.out.drew
  refine wp_region_noPanic ?_
  refine wp_region_held_drew (S := Sv w []) (by kernel_rfl) (HVd.out.sv (by simp)) (fun hS0 => ?_)
  refine wpAnyH_take (i := 0) (v := .int .i64 (m : Int)) rfl (by kernel_rfl) (by kernel_rfl) (by kernel_rfl) (fun _ _ _ h => h) (Or.inl ⟨by rfl, fun w' _ => by go_simp⟩) hS0 ?_
  simp only [Act.put, List.getElem_toArray, List.getElem_cons_zero, List.setIfInBounds_toArray, List.set_cons_zero, List.set_cons_succ]
  refine wpAnyH_take (i := 1) (v := .int .i64 (m1 : Int)) rfl (by kernel_rfl) (by kernel_rfl) (by kernel_rfl) (fun _ _ _ h => h) (Or.inl ⟨by rfl, fun w' _ => by go_simp⟩) hS0 ?_
  simp only [Act.put, List.getElem_toArray, List.getElem_cons_zero, List.getElem_cons_succ, List.setIfInBounds_toArray, List.set_cons_zero, List.set_cons_succ]
  refine wpAnyH_take (i := 2) (v := .int .i64 (k : Int)) rfl (by kernel_rfl) (by kernel_rfl) (by kernel_rfl) (fun _ _ _ h => h) (Or.inl ⟨by rfl, fun w' _ => by go_simp⟩) hS0 ?_
  simp only [Act.put, List.getElem_toArray, List.getElem_cons_zero, List.getElem_cons_succ, List.setIfInBounds_toArray, List.set_cons_zero, List.set_cons_succ]
  refine wpAnyH_take (i := 3) (v := .int .i64 (a : Int)) rfl (by kernel_rfl) (by kernel_rfl) (by kernel_rfl) (fun _ _ _ h => h) (Or.inl ⟨by rfl, fun w' _ => by go_simp⟩) hS0 ?_
  simp only [Act.put, List.getElem_toArray, List.getElem_cons_zero, List.getElem_cons_succ, List.setIfInBounds_toArray, List.set_cons_zero, List.set_cons_succ]
  refine wpAnyH_take (i := 4) (v := .int .i64 (n : Int)) rfl (by kernel_rfl) (by kernel_rfl) (by kernel_rfl) (fun _ _ _ h => h) (Or.inl ⟨by rfl, fun w' _ => by go_simp⟩) hS0 ?_
  simp only [Act.put, List.getElem_toArray, List.getElem_cons_zero, List.getElem_cons_succ, List.setIfInBounds_toArray, List.set_cons_zero, List.set_cons_succ]
  refine wpAnyH_take (i := 5) (v := .int .i64 (n1 : Int)) rfl (by kernel_rfl) (by kernel_rfl) (by kernel_rfl) (fun _ _ _ h => h) (Or.inl ⟨by rfl, fun w' _ => by go_simp⟩) hS0 ?_
  simp only [Act.put, List.getElem_toArray, List.getElem_cons_zero, List.getElem_cons_succ, List.setIfInBounds_toArray, List.set_cons_zero, List.set_cons_succ]
  refine wpAnyH_take (i := 6) (v := .int .i64 (k : Int)) rfl (by kernel_rfl) (by kernel_rfl) (by kernel_rfl) (fun _ _ _ h => h) (Or.inl ⟨by rfl, fun w' _ => by go_simp⟩) hS0 ?_
  simp only [Act.put, List.getElem_toArray, List.getElem_cons_zero, List.getElem_cons_succ, List.setIfInBounds_toArray, List.set_cons_zero, List.set_cons_succ]
  refine wpAnyH_take (i := 7) (v := .int .i64 (z : Int)) rfl (by kernel_rfl) (by kernel_rfl) (by kernel_rfl) (fun _ _ _ h => h) (Or.inl ⟨by rfl, fun w' _ => by go_simp⟩) hS0 ?_
  simp only [Act.put, List.getElem_toArray, List.getElem_cons_zero, List.getElem_cons_succ, List.setIfInBounds_toArray, List.set_cons_zero, List.set_cons_succ]
  refine wpAnyH_take (i := 8) (v := .int .i64 (a : Int)) rfl (by kernel_rfl) (by kernel_rfl) (by kernel_rfl) (fun _ _ _ h => h) (Or.inl ⟨by rfl, fun w' _ => by go_simp⟩) hS0 ?_
  simp only [Act.put, List.getElem_toArray, List.getElem_cons_zero, List.getElem_cons_succ, List.setIfInBounds_toArray, List.set_cons_zero, List.set_cons_succ]
  refine wpAnyH_take (i := 9) (v := .int .i64 (z : Int)) rfl (by kernel_rfl) (by kernel_rfl) (by kernel_rfl) (fun _ _ _ h => h) (Or.inl ⟨by rfl, fun w' _ => by go_simp⟩) hS0 ?_
  simp only [Act.put, List.getElem_toArray, List.getElem_cons_zero, List.getElem_cons_succ, List.setIfInBounds_toArray, List.set_cons_zero, List.set_cons_succ]
  refine wpAnyH_done (by kernel_rfl) ?_ _
  refine NoPanic.normal ?_
  clear hwm hwn hwm' hwn' hsa hsz hk64
  go_upto_region 8 with (first
    | (refine HV1.out.listPut (b := p) 0 rfl rfl rfl rfl rfl (fun X2 hv => ?_); have HV2 : Hid (Vs w X2 [(p, f), (b0 + 1, g), (b0, f)]) := hide hv; clear hv HV1)
    | (refine HVd.out.listNew rfl rfl (fun p X1 hv hb => ?_); have HV1 := hide hv; clear hv hb)
    | (refine wpList_load_h (g := b0) rfl _ rfl rfl (HVd.out.rg 1 rfl) ?_))
  clear HV HVd
  by_cases ha0 : a = 0
  · have hai : ¬ ((0 : Int) < (a : Int)) := by omega
    have hee : ap pA pB S (ls F 0 l) (f, f) = O := by
      have h := HBu.out
      rwa [decide_eq_true ha0] at h
    have hRi := fun W xs cs (h : Below w.heap.size w W) (hS : SdL W xs S) (hcs : S.length ≤ cs) => rise_any (w := W) (xs := xs) (cs := cs) (k := S.length) (HT.out.keep h) hS rfl hcs (HLs.out.keep h) HC.out.1 HC.out.2.2 HF.out
    rw [hee] at hRi
    unfold hv at hRi
    have HRi := hide hRi
    clear hee hRi HBu hq1 hq2 hmb ha0
    go_upto_region 12 with fail
    have HVd := hide HV2.out.drew
    apply meet8 (A := Option Addr) (B := Nat) (C := Nat → Nat) (D := Nat → Nat) (E := Bool) (F := Nat) (G := Nat) (H := World)
    · intro hcut
      refine wp_region_noPanic ?_
      refine wp_region_held_drew (S := Sv w [(p, f)]) (by kernel_rfl) (HVd.out.sv (by simp)) (fun hS0 => ?_)
      refine wpAnyH_take (i := 0) (v := .agg (ab f 32).toArray) rfl (by kernel_rfl) (by kernel_rfl) (by kernel_rfl) (fun _ _ _ h => h) (yieldsIf_load_mid (by rfl) 24 _ rfl p 0 (by rfl) (ab f 32) _ (fun w' hS => hS.rg 0 rfl) Tryd.underlying24 rfl (ilH _)) hS0 ?_
      simp only [Act.put, List.getElem_toArray, List.getElem_cons_zero, List.setIfInBounds_toArray, List.set_cons_zero, List.set_cons_succ]
      refine wpAnyH_take (i := 1) (v := .int .i64 (a : Int)) rfl (by kernel_rfl) (by kernel_rfl) (by kernel_rfl) (fun _ _ _ h => h) (Or.inl ⟨by rfl, fun w' _ => by go_simp⟩) hS0 ?_
      simp only [Act.put, List.getElem_toArray, List.getElem_cons_zero, List.getElem_cons_succ, List.setIfInBounds_toArray, List.set_cons_zero, List.set_cons_succ]
      refine wpAnyH_take (i := 2) (v := .int .i64 (z : Int)) rfl (by kernel_rfl) (by kernel_rfl) (by kernel_rfl) (fun _ _ _ h => h) (Or.inl ⟨by rfl, fun w' _ => by go_simp⟩) hS0 ?_
      simp only [Act.put, List.getElem_toArray, List.getElem_cons_zero, List.getElem_cons_succ, List.setIfInBounds_toArray, List.set_cons_zero, List.set_cons_succ]
      refine wpAnyH_take (i := 4) (v := .slice y l c) rfl (by kernel_rfl) (by kernel_rfl) (by kernel_rfl) (fun _ _ _ h => h) (Or.inl ⟨by rfl, fun w' _ => by go_simp⟩) hS0 ?_
      simp only [Act.put, List.getElem_toArray, List.getElem_cons_zero, List.getElem_cons_succ, List.setIfInBounds_toArray, List.set_cons_zero, List.set_cons_succ]
      refine wpAnyH_ready (rs := [3, 10, 11]) (by kernel_rfl) (by simp) (AllReadyH.cons rfl (fun Kt hK => ?_) (AllReadyH.cons rfl (fun Kt hK => ?_) (AllReadyH.cons rfl (fun Kt hK => ?_) AllReadyH.nil)))
      · refine wanted_pos rfl ?_
        refine wp_call (R := fun r w' => ∃ xs cs, r = .slice xs S.length cs ∧ (SdL w' xs S ∧ S.length ≤ cs) ∧ Vs w w' [(p, f), (b0 + 1, g), (b0, f)]) (vs := #[.int .i64 (a : Int), .int .i64 (z : Int)]) rfl (by simp only [List.map_toArray, List.map_cons, List.map_nil]; rfl) (by go_simp) (Calls.mono (HFe.out _) (fun e w' hE => by
          obtain ⟨xs, cs, he, h1, h2, _, hb⟩ := hE
          exact ⟨_, he, xs, cs, rfl, ⟨h1, h2⟩, HVd.out.keep hb⟩)) (fun r W1 hr => ?_)
        obtain ⟨xs, cs, hr, hs, hv⟩ := hr
        subst hr
        have HS0 := hide hs.1
        have HCs := hide hs.2
        have HVdf := hide hv
        refine hK.out _ _ (HVdf.out.sv (by simp)) (fun hS1 => ?_)
        clear hK Kt hs hv
        simp only [Act.put, List.getElem_toArray, List.getElem_cons_zero, List.getElem_cons_succ, List.setIfInBounds_toArray, List.set_cons_zero, List.set_cons_succ]
        refine wpAnyH_ready (rs := [5, 10, 11]) (by kernel_rfl) (by simp) (AllReadyH.cons rfl (fun Kt hK => ?_) (AllReadyH.cons rfl (fun Kt hK => ?_) (AllReadyH.cons rfl (fun Kt hK => ?_) AllReadyH.nil)))
        · refine wanted_pos rfl ?_
          refine wp_call (R := fun r w' => ∃ f1 g1 t1, r = .tuple #[.agg (ab f1 32).toArray, .agg (ab g1 32).toArray, .bool t1] ∧ TwA O f1 g1 t1 ∧ Vs w w' [(p, f), (b0 + 1, g), (b0, f)]) (vs := #[.agg (ab f 32).toArray, .slice xs S.length cs, .slice y l c]) rfl (by simp only [List.map_toArray, List.map_cons, List.map_nil]; rfl) (by go_simp) (Calls.mono (HRi.out _ xs cs HVdf.out.k HS0.out HCs.out) (fun e w' hE => by
            obtain ⟨f1, g1, t1, he, ha, hb⟩ := hE
            exact ⟨_, he, f1, g1, t1, rfl, ha, HVdf.out.keep hb⟩)) (fun r W2 hr => ?_)
          obtain ⟨f1, g1, t1, hr, ha, hv⟩ := hr
          subst hr
          have HA := hide ha
          have HVdfc := hide hv
          refine hK.out _ _ (HVdfc.out.sv (by simp)) (fun hS2 => ?_)
          clear hK Kt ha hv
          simp only [Act.put, List.getElem_toArray, List.getElem_cons_zero, List.getElem_cons_succ, List.setIfInBounds_toArray, List.set_cons_zero, List.set_cons_succ]
          refine wpAnyH_take (i := 6) (v := .tuple #[.agg (ab f1 32).toArray, .agg (ab g1 32).toArray, .bool t1]) rfl (by kernel_rfl) (by kernel_rfl) (by kernel_rfl) (fun _ _ _ h => h) (Or.inl ⟨by rfl, fun w' _ => by go_simp⟩) hS2 ?_
          simp only [Act.put, List.getElem_toArray, List.getElem_cons_zero, List.getElem_cons_succ, List.setIfInBounds_toArray, List.set_cons_zero, List.set_cons_succ]
          refine wpAnyH_take (i := 7) (v := .agg (ab f1 32).toArray) rfl (by kernel_rfl) (by kernel_rfl) (by kernel_rfl) (fun _ _ _ h => h) (Or.inl ⟨by rfl, fun w' _ => by go_simp⟩) hS2 ?_
          simp only [Act.put, List.getElem_toArray, List.getElem_cons_zero, List.getElem_cons_succ, List.setIfInBounds_toArray, List.set_cons_zero, List.set_cons_succ]
          refine wpAnyH_take (i := 8) (v := .agg (ab g1 32).toArray) rfl (by kernel_rfl) (by kernel_rfl) (by kernel_rfl) (fun _ _ _ h => h) (Or.inl ⟨by rfl, fun w' _ => by go_simp⟩) hS2 ?_
          simp only [Act.put, List.getElem_toArray, List.getElem_cons_zero, List.getElem_cons_succ, List.setIfInBounds_toArray, List.set_cons_zero, List.set_cons_succ]
          refine wpAnyH_take (i := 9) (v := .bool t1) rfl (by kernel_rfl) (by kernel_rfl) (by kernel_rfl) (fun _ _ _ h => h) (Or.inl ⟨by rfl, fun w' _ => by go_simp⟩) hS2 ?_
          simp only [Act.put, List.getElem_toArray, List.getElem_cons_zero, List.getElem_cons_succ, List.setIfInBounds_toArray, List.set_cons_zero, List.set_cons_succ]
          refine wpAnyH_ready (rs := [10, 11]) (by kernel_rfl) (by simp) (AllReadyH.cons rfl (fun Kt hK => ?_) (AllReadyH.cons rfl (fun Kt hK => ?_) AllReadyH.nil))
          · refine wanted_pos rfl ?_
            refine HVdfc.out.wpNew rfl (fun q1 W3 hv hb => ?_)
            have HVdfcn := hide hv
            refine hK.out _ _ (HVdfcn.out.sv (by simp)) (fun hS3 => ?_)
            clear hK Kt hv hb
            simp only [Act.put, List.getElem_toArray, List.getElem_cons_zero, List.getElem_cons_succ, List.setIfInBounds_toArray, List.set_cons_zero, List.set_cons_succ]
            refine wpAnyH_ready (rs := [11]) (by kernel_rfl) (by simp) (AllReadyH.cons rfl (fun Kt hK => ?_) AllReadyH.nil)
            refine wanted_pos rfl ?_
            refine HVdfcn.out.wpNew rfl (fun q2 W4 hv hb => ?_)
            have HVdfcnn := hide hv
            refine hK.out _ _ (HVdfcnn.out.sv (by simp)) (fun hS4 => ?_)
            clear hK Kt hv hb
            simp only [Act.put, List.getElem_toArray, List.getElem_cons_zero, List.getElem_cons_succ, List.setIfInBounds_toArray, List.set_cons_zero, List.set_cons_succ]
            refine wpAnyH_ready (rs := [12]) (by kernel_rfl) (by simp) (AllReadyH.cons rfl (fun Kt hK => ?_) AllReadyH.nil)
            refine wanted_pos rfl ?_
            refine HVdfcnn.out.wpPut 1 rfl (by rfl) (by rfl) rfl (fun W5 hv => ?_)
            have HVdfcnnp := hide hv
            refine hK.out _ _ (HVdfcnnp.out.sv (by simp)) (fun hS5 => ?_)
            clear hK Kt hv
            simp only [Act.put, List.getElem_toArray, List.getElem_cons_zero, List.getElem_cons_succ]
            refine wpAnyH_ready (rs := [13]) (by kernel_rfl) (by simp) (AllReadyH.cons rfl (fun Kt hK => ?_) AllReadyH.nil)
            refine wanted_pos rfl ?_
            refine HVdfcnnp.out.wpPut 0 rfl (by rfl) (by rfl) rfl (fun W6 hv => ?_)
            have HVdfcnnpp := hide hv
            refine hK.out _ _ (HVdfcnnpp.out.sv (by simp)) (fun hS6 => ?_)
            clear hK Kt hv
            simp only [Act.put, List.getElem_toArray, List.getElem_cons_zero, List.getElem_cons_succ]
            refine wpAnyH_take (i := 14) (v := .bool t1) rfl (by kernel_rfl) (by kernel_rfl) (by kernel_rfl) (fun _ _ _ h => h) (Or.inl ⟨by rfl, fun w' _ => by go_simp⟩) hS6 ?_
            simp only [Act.put, List.getElem_toArray, List.getElem_cons_zero, List.getElem_cons_succ, List.setIfInBounds_toArray, List.set_cons_zero, List.set_cons_succ]
            refine wpAnyH_done (by kernel_rfl) ?_ _
            refine NoPanic.normal ?_
            have HVe : Hid (Vs w _ [(q2, g1), (q1, f1), (p, f), (b0 + 1, g), (b0, f)]) := HVdfcnnpp
            revert HA HVe
            exact hcut xs cs f1 g1 t1 q1 q2 W6
          · refine wanted_pos rfl ?_
            refine HVdfc.out.wpNew rfl (fun q2 W7 hv hb => ?_)
            have HVdfcn := hide hv
            refine hK.out _ _ (HVdfcn.out.sv (by simp)) (fun hS7 => ?_)
            clear hK Kt hv hb
            simp only [Act.put, List.getElem_toArray, List.getElem_cons_zero, List.getElem_cons_succ, List.setIfInBounds_toArray, List.set_cons_zero, List.set_cons_succ]
            refine wpAnyH_ready (rs := [10]) (by kernel_rfl) (by simp) (AllReadyH.cons rfl (fun Kt hK => ?_) AllReadyH.nil)
            refine wanted_pos rfl ?_
            refine HVdfcn.out.wpNew rfl (fun q1 W8 hv hb => ?_)
            have HVdfcnn := hide hv
            refine hK.out _ _ (HVdfcnn.out.sv (by simp)) (fun hS8 => ?_)
            clear hK Kt hv hb
            simp only [Act.put, List.getElem_toArray, List.getElem_cons_zero, List.getElem_cons_succ, List.setIfInBounds_toArray, List.set_cons_zero, List.set_cons_succ]
            refine wpAnyH_ready (rs := [12]) (by kernel_rfl) (by simp) (AllReadyH.cons rfl (fun Kt hK => ?_) AllReadyH.nil)
            refine wanted_pos rfl ?_
            refine HVdfcnn.out.wpPut 0 rfl (by rfl) (by rfl) rfl (fun W9 hv => ?_)
            have HVdfcnnp := hide hv
            refine hK.out _ _ (HVdfcnnp.out.sv (by simp)) (fun hS9 => ?_)
            clear hK Kt hv
            simp only [Act.put, List.getElem_toArray, List.getElem_cons_zero, List.getElem_cons_succ]
            refine wpAnyH_ready (rs := [13]) (by kernel_rfl) (by simp) (AllReadyH.cons rfl (fun Kt hK => ?_) AllReadyH.nil)
            refine wanted_pos rfl ?_
            refine HVdfcnnp.out.wpPut 1 rfl (by rfl) (by rfl) rfl (fun W10 hv => ?_)
            have HVdfcnnpp := hide hv
            refine hK.out _ _ (HVdfcnnpp.out.sv (by simp)) (fun hS10 => ?_)
            clear hK Kt hv
            simp only [Act.put, List.getElem_toArray, List.getElem_cons_zero, List.getElem_cons_succ]
            refine wpAnyH_take (i := 14) (v := .bool t1) rfl (by kernel_rfl) (by kernel_rfl) (by kernel_rfl) (fun _ _ _ h => h) (Or.inl ⟨by rfl, fun w' _ => by go_simp⟩) hS10 ?_
            simp only [Act.put, List.getElem_toArray, List.getElem_cons_zero, List.getElem_cons_succ, List.setIfInBounds_toArray, List.set_cons_zero, List.set_cons_succ]
            refine wpAnyH_done (by kernel_rfl) ?_ _
            refine NoPanic.normal ?_
            have HVdfcnnpps := hide (HVdfcnnpp.out.perm (List.Perm.swap (q2, g1) (q1, f1) _))
            have HVe : Hid (Vs w _ [(q2, g1), (q1, f1), (p, f), (b0 + 1, g), (b0, f)]) := HVdfcnnpps
            revert HA HVe
            exact hcut xs cs f1 g1 t1 q1 q2 W10
        · refine wanted_pos rfl ?_
          refine HVdf.out.wpNew rfl (fun q1 W11 hv hb => ?_)
          have HVdfn := hide hv
          have HS0n := hide (HS0.out.keep hb)
          refine hK.out _ _ (HVdfn.out.sv (by simp)) (fun hS11 => ?_)
          clear hK Kt hv hb
          simp only [Act.put, List.getElem_toArray, List.getElem_cons_zero, List.getElem_cons_succ, List.setIfInBounds_toArray, List.set_cons_zero, List.set_cons_succ]
          refine wpAnyH_ready (rs := [5, 11]) (by kernel_rfl) (by simp) (AllReadyH.cons rfl (fun Kt hK => ?_) (AllReadyH.cons rfl (fun Kt hK => ?_) AllReadyH.nil))
          · refine wanted_pos rfl ?_
            refine wp_call (R := fun r w' => ∃ f1 g1 t1, r = .tuple #[.agg (ab f1 32).toArray, .agg (ab g1 32).toArray, .bool t1] ∧ TwA O f1 g1 t1 ∧ Vs w w' [(q1, (fun _ => 0)), (p, f), (b0 + 1, g), (b0, f)]) (vs := #[.agg (ab f 32).toArray, .slice xs S.length cs, .slice y l c]) rfl (by simp only [List.map_toArray, List.map_cons, List.map_nil]; rfl) (by go_simp) (Calls.mono (HRi.out _ xs cs HVdfn.out.k HS0n.out HCs.out) (fun e w' hE => by
              obtain ⟨f1, g1, t1, he, ha, hb⟩ := hE
              exact ⟨_, he, f1, g1, t1, rfl, ha, HVdfn.out.keep hb⟩)) (fun r W12 hr => ?_)
            obtain ⟨f1, g1, t1, hr, ha, hv⟩ := hr
            subst hr
            have HA := hide ha
            have HVdfnc := hide hv
            refine hK.out _ _ (HVdfnc.out.sv (by simp)) (fun hS12 => ?_)
            clear hK Kt ha hv
            simp only [Act.put, List.getElem_toArray, List.getElem_cons_zero, List.getElem_cons_succ, List.setIfInBounds_toArray, List.set_cons_zero, List.set_cons_succ]
            refine wpAnyH_take (i := 6) (v := .tuple #[.agg (ab f1 32).toArray, .agg (ab g1 32).toArray, .bool t1]) rfl (by kernel_rfl) (by kernel_rfl) (by kernel_rfl) (fun _ _ _ h => h) (Or.inl ⟨by rfl, fun w' _ => by go_simp⟩) hS12 ?_
            simp only [Act.put, List.getElem_toArray, List.getElem_cons_zero, List.getElem_cons_succ, List.setIfInBounds_toArray, List.set_cons_zero, List.set_cons_succ]
            refine wpAnyH_take (i := 7) (v := .agg (ab f1 32).toArray) rfl (by kernel_rfl) (by kernel_rfl) (by kernel_rfl) (fun _ _ _ h => h) (Or.inl ⟨by rfl, fun w' _ => by go_simp⟩) hS12 ?_
            simp only [Act.put, List.getElem_toArray, List.getElem_cons_zero, List.getElem_cons_succ, List.setIfInBounds_toArray, List.set_cons_zero, List.set_cons_succ]
            refine wpAnyH_take (i := 8) (v := .agg (ab g1 32).toArray) rfl (by kernel_rfl) (by kernel_rfl) (by kernel_rfl) (fun _ _ _ h => h) (Or.inl ⟨by rfl, fun w' _ => by go_simp⟩) hS12 ?_
            simp only [Act.put, List.getElem_toArray, List.getElem_cons_zero, List.getElem_cons_succ, List.setIfInBounds_toArray, List.set_cons_zero, List.set_cons_succ]
            refine wpAnyH_take (i := 9) (v := .bool t1) rfl (by kernel_rfl) (by kernel_rfl) (by kernel_rfl) (fun _ _ _ h => h) (Or.inl ⟨by rfl, fun w' _ => by go_simp⟩) hS12 ?_
            simp only [Act.put, List.getElem_toArray, List.getElem_cons_zero, List.getElem_cons_succ, List.setIfInBounds_toArray, List.set_cons_zero, List.set_cons_succ]
            refine wpAnyH_ready (rs := [11]) (by kernel_rfl) (by simp) (AllReadyH.cons rfl (fun Kt hK => ?_) AllReadyH.nil)
            refine wanted_pos rfl ?_
            refine HVdfnc.out.wpNew rfl (fun q2 W13 hv hb => ?_)
            have HVdfncn := hide hv
            refine hK.out _ _ (HVdfncn.out.sv (by simp)) (fun hS13 => ?_)
            clear hK Kt hv hb
            simp only [Act.put, List.getElem_toArray, List.getElem_cons_zero, List.getElem_cons_succ, List.setIfInBounds_toArray, List.set_cons_zero, List.set_cons_succ]
            refine wpAnyH_ready (rs := [12]) (by kernel_rfl) (by simp) (AllReadyH.cons rfl (fun Kt hK => ?_) AllReadyH.nil)
            refine wanted_pos rfl ?_
            refine HVdfncn.out.wpPut 1 rfl (by rfl) (by rfl) rfl (fun W14 hv => ?_)
            have HVdfncnp := hide hv
            refine hK.out _ _ (HVdfncnp.out.sv (by simp)) (fun hS14 => ?_)
            clear hK Kt hv
            simp only [Act.put, List.getElem_toArray, List.getElem_cons_zero, List.getElem_cons_succ]
            refine wpAnyH_ready (rs := [13]) (by kernel_rfl) (by simp) (AllReadyH.cons rfl (fun Kt hK => ?_) AllReadyH.nil)
            refine wanted_pos rfl ?_
            refine HVdfncnp.out.wpPut 0 rfl (by rfl) (by rfl) rfl (fun W15 hv => ?_)
            have HVdfncnpp := hide hv
            refine hK.out _ _ (HVdfncnpp.out.sv (by simp)) (fun hS15 => ?_)
            clear hK Kt hv
            simp only [Act.put, List.getElem_toArray, List.getElem_cons_zero, List.getElem_cons_succ]
            refine wpAnyH_take (i := 14) (v := .bool t1) rfl (by kernel_rfl) (by kernel_rfl) (by kernel_rfl) (fun _ _ _ h => h) (Or.inl ⟨by rfl, fun w' _ => by go_simp⟩) hS15 ?_
            simp only [Act.put, List.getElem_toArray, List.getElem_cons_zero, List.getElem_cons_succ, List.setIfInBounds_toArray, List.set_cons_zero, List.set_cons_succ]
            refine wpAnyH_done (by kernel_rfl) ?_ _
            refine NoPanic.normal ?_
            have HVe : Hid (Vs w _ [(q2, g1), (q1, f1), (p, f), (b0 + 1, g), (b0, f)]) := HVdfncnpp
            revert HA HVe
            exact hcut xs cs f1 g1 t1 q1 q2 W15
          · refine wanted_pos rfl ?_
            refine HVdfn.out.wpNew rfl (fun q2 W16 hv hb => ?_)
            have HVdfnn := hide hv
            have HS0nn := hide (HS0n.out.keep hb)
            refine hK.out _ _ (HVdfnn.out.sv (by simp)) (fun hS16 => ?_)
            clear hK Kt hv hb
            simp only [Act.put, List.getElem_toArray, List.getElem_cons_zero, List.getElem_cons_succ, List.setIfInBounds_toArray, List.set_cons_zero, List.set_cons_succ]
            refine wpAnyH_ready (rs := [5]) (by kernel_rfl) (by simp) (AllReadyH.cons rfl (fun Kt hK => ?_) AllReadyH.nil)
            refine wanted_pos rfl ?_
            refine wp_call (R := fun r w' => ∃ f1 g1 t1, r = .tuple #[.agg (ab f1 32).toArray, .agg (ab g1 32).toArray, .bool t1] ∧ TwA O f1 g1 t1 ∧ Vs w w' [(q2, (fun _ => 0)), (q1, (fun _ => 0)), (p, f), (b0 + 1, g), (b0, f)]) (vs := #[.agg (ab f 32).toArray, .slice xs S.length cs, .slice y l c]) rfl (by simp only [List.map_toArray, List.map_cons, List.map_nil]; rfl) (by go_simp) (Calls.mono (HRi.out _ xs cs HVdfnn.out.k HS0nn.out HCs.out) (fun e w' hE => by
              obtain ⟨f1, g1, t1, he, ha, hb⟩ := hE
              exact ⟨_, he, f1, g1, t1, rfl, ha, HVdfnn.out.keep hb⟩)) (fun r W17 hr => ?_)
            obtain ⟨f1, g1, t1, hr, ha, hv⟩ := hr
            subst hr
            have HA := hide ha
            have HVdfnnc := hide hv
            refine hK.out _ _ (HVdfnnc.out.sv (by simp)) (fun hS17 => ?_)
            clear hK Kt ha hv
            simp only [Act.put, List.getElem_toArray, List.getElem_cons_zero, List.getElem_cons_succ, List.setIfInBounds_toArray, List.set_cons_zero, List.set_cons_succ]
            refine wpAnyH_take (i := 6) (v := .tuple #[.agg (ab f1 32).toArray, .agg (ab g1 32).toArray, .bool t1]) rfl (by kernel_rfl) (by kernel_rfl) (by kernel_rfl) (fun _ _ _ h => h) (Or.inl ⟨by rfl, fun w' _ => by go_simp⟩) hS17 ?_
            simp only [Act.put, List.getElem_toArray, List.getElem_cons_zero, List.getElem_cons_succ, List.setIfInBounds_toArray, List.set_cons_zero, List.set_cons_succ]
            refine wpAnyH_take (i := 7) (v := .agg (ab f1 32).toArray) rfl (by kernel_rfl) (by kernel_rfl) (by kernel_rfl) (fun _ _ _ h => h) (Or.inl ⟨by rfl, fun w' _ => by go_simp⟩) hS17 ?_
            simp only [Act.put, List.getElem_toArray, List.getElem_cons_zero, List.getElem_cons_succ, List.setIfInBounds_toArray, List.set_cons_zero, List.set_cons_succ]
            refine wpAnyH_take (i := 8) (v := .agg (ab g1 32).toArray) rfl (by kernel_rfl) (by kernel_rfl) (by kernel_rfl) (fun _ _ _ h => h) (Or.inl ⟨by rfl, fun w' _ => by go_simp⟩) hS17 ?_
            simp only [Act.put, List.getElem_toArray, List.getElem_cons_zero, List.getElem_cons_succ, List.setIfInBounds_toArray, List.set_cons_zero, List.set_cons_succ]
            refine wpAnyH_take (i := 9) (v := .bool t1) rfl (by kernel_rfl) (by kernel_rfl) (by kernel_rfl) (fun _ _ _ h => h) (Or.inl ⟨by rfl, fun w' _ => by go_simp⟩) hS17 ?_
            simp only [Act.put, List.getElem_toArray, List.getElem_cons_zero, List.getElem_cons_succ, List.setIfInBounds_toArray, List.set_cons_zero, List.set_cons_succ]
            refine wpAnyH_ready (rs := [12]) (by kernel_rfl) (by simp) (AllReadyH.cons rfl (fun Kt hK => ?_) AllReadyH.nil)
            refine wanted_pos rfl ?_
            refine HVdfnnc.out.wpPut 1 rfl (by rfl) (by rfl) rfl (fun W18 hv => ?_)
            have HVdfnncp := hide hv
            refine hK.out _ _ (HVdfnncp.out.sv (by simp)) (fun hS18 => ?_)
            clear hK Kt hv
            simp only [Act.put, List.getElem_toArray, List.getElem_cons_zero, List.getElem_cons_succ]
            refine wpAnyH_ready (rs := [13]) (by kernel_rfl) (by simp) (AllReadyH.cons rfl (fun Kt hK => ?_) AllReadyH.nil)
            refine wanted_pos rfl ?_
            refine HVdfnncp.out.wpPut 0 rfl (by rfl) (by rfl) rfl (fun W19 hv => ?_)
            have HVdfnncpp := hide hv
            refine hK.out _ _ (HVdfnncpp.out.sv (by simp)) (fun hS19 => ?_)
            clear hK Kt hv
            simp only [Act.put, List.getElem_toArray, List.getElem_cons_zero, List.getElem_cons_succ]
            refine wpAnyH_take (i := 14) (v := .bool t1) rfl (by kernel_rfl) (by kernel_rfl) (by kernel_rfl) (fun _ _ _ h => h) (Or.inl ⟨by rfl, fun w' _ => by go_simp⟩) hS19 ?_
            simp only [Act.put, List.getElem_toArray, List.getElem_cons_zero, List.getElem_cons_succ, List.setIfInBounds_toArray, List.set_cons_zero, List.set_cons_succ]
            refine wpAnyH_done (by kernel_rfl) ?_ _
            refine NoPanic.normal ?_
            have HVe : Hid (Vs w _ [(q2, g1), (q1, f1), (p, f), (b0 + 1, g), (b0, f)]) := HVdfnncpp
            revert HA HVe
            exact hcut xs cs f1 g1 t1 q1 q2 W19
        · refine wanted_pos rfl ?_
          refine HVdf.out.wpNew rfl (fun q2 W20 hv hb => ?_)
          have HVdfn := hide hv
          have HS0n := hide (HS0.out.keep hb)
          refine hK.out _ _ (HVdfn.out.sv (by simp)) (fun hS20 => ?_)
          clear hK Kt hv hb
          simp only [Act.put, List.getElem_toArray, List.getElem_cons_zero, List.getElem_cons_succ, List.setIfInBounds_toArray, List.set_cons_zero, List.set_cons_succ]
          refine wpAnyH_ready (rs := [5, 10]) (by kernel_rfl) (by simp) (AllReadyH.cons rfl (fun Kt hK => ?_) (AllReadyH.cons rfl (fun Kt hK => ?_) AllReadyH.nil))
          · refine wanted_pos rfl ?_
            refine wp_call (R := fun r w' => ∃ f1 g1 t1, r = .tuple #[.agg (ab f1 32).toArray, .agg (ab g1 32).toArray, .bool t1] ∧ TwA O f1 g1 t1 ∧ Vs w w' [(q2, (fun _ => 0)), (p, f), (b0 + 1, g), (b0, f)]) (vs := #[.agg (ab f 32).toArray, .slice xs S.length cs, .slice y l c]) rfl (by simp only [List.map_toArray, List.map_cons, List.map_nil]; rfl) (by go_simp) (Calls.mono (HRi.out _ xs cs HVdfn.out.k HS0n.out HCs.out) (fun e w' hE => by
              obtain ⟨f1, g1, t1, he, ha, hb⟩ := hE
              exact ⟨_, he, f1, g1, t1, rfl, ha, HVdfn.out.keep hb⟩)) (fun r W21 hr => ?_)
            obtain ⟨f1, g1, t1, hr, ha, hv⟩ := hr
            subst hr
            have HA := hide ha
            have HVdfnc := hide hv
            refine hK.out _ _ (HVdfnc.out.sv (by simp)) (fun hS21 => ?_)
            clear hK Kt ha hv
            simp only [Act.put, List.getElem_toArray, List.getElem_cons_zero, List.getElem_cons_succ, List.setIfInBounds_toArray, List.set_cons_zero, List.set_cons_succ]
            refine wpAnyH_take (i := 6) (v := .tuple #[.agg (ab f1 32).toArray, .agg (ab g1 32).toArray, .bool t1]) rfl (by kernel_rfl) (by kernel_rfl) (by kernel_rfl) (fun _ _ _ h => h) (Or.inl ⟨by rfl, fun w' _ => by go_simp⟩) hS21 ?_
            simp only [Act.put, List.getElem_toArray, List.getElem_cons_zero, List.getElem_cons_succ, List.setIfInBounds_toArray, List.set_cons_zero, List.set_cons_succ]
            refine wpAnyH_take (i := 7) (v := .agg (ab f1 32).toArray) rfl (by kernel_rfl) (by kernel_rfl) (by kernel_rfl) (fun _ _ _ h => h) (Or.inl ⟨by rfl, fun w' _ => by go_simp⟩) hS21 ?_
            simp only [Act.put, List.getElem_toArray, List.getElem_cons_zero, List.getElem_cons_succ, List.setIfInBounds_toArray, List.set_cons_zero, List.set_cons_succ]
            refine wpAnyH_take (i := 8) (v := .agg (ab g1 32).toArray) rfl (by kernel_rfl) (by kernel_rfl) (by kernel_rfl) (fun _ _ _ h => h) (Or.inl ⟨by rfl, fun w' _ => by go_simp⟩) hS21 ?_
            simp only [Act.put, List.getElem_toArray, List.getElem_cons_zero, List.getElem_cons_succ, List.setIfInBounds_toArray, List.set_cons_zero, List.set_cons_succ]
            refine wpAnyH_take (i := 9) (v := .bool t1) rfl (by kernel_rfl) (by kernel_rfl) (by kernel_rfl) (fun _ _ _ h => h) (Or.inl ⟨by rfl, fun w' _ => by go_simp⟩) hS21 ?_
            simp only [Act.put, List.getElem_toArray, List.getElem_cons_zero, List.getElem_cons_succ, List.setIfInBounds_toArray, List.set_cons_zero, List.set_cons_succ]
            refine wpAnyH_ready (rs := [10]) (by kernel_rfl) (by simp) (AllReadyH.cons rfl (fun Kt hK => ?_) AllReadyH.nil)
            refine wanted_pos rfl ?_
            refine HVdfnc.out.wpNew rfl (fun q1 W22 hv hb => ?_)
            have HVdfncn := hide hv
            refine hK.out _ _ (HVdfncn.out.sv (by simp)) (fun hS22 => ?_)
            clear hK Kt hv hb
            simp only [Act.put, List.getElem_toArray, List.getElem_cons_zero, List.getElem_cons_succ, List.setIfInBounds_toArray, List.set_cons_zero, List.set_cons_succ]
            refine wpAnyH_ready (rs := [12]) (by kernel_rfl) (by simp) (AllReadyH.cons rfl (fun Kt hK => ?_) AllReadyH.nil)
            refine wanted_pos rfl ?_
            refine HVdfncn.out.wpPut 0 rfl (by rfl) (by rfl) rfl (fun W23 hv => ?_)
            have HVdfncnp := hide hv
            refine hK.out _ _ (HVdfncnp.out.sv (by simp)) (fun hS23 => ?_)
            clear hK Kt hv
            simp only [Act.put, List.getElem_toArray, List.getElem_cons_zero, List.getElem_cons_succ]
            refine wpAnyH_ready (rs := [13]) (by kernel_rfl) (by simp) (AllReadyH.cons rfl (fun Kt hK => ?_) AllReadyH.nil)
            refine wanted_pos rfl ?_
            refine HVdfncnp.out.wpPut 1 rfl (by rfl) (by rfl) rfl (fun W24 hv => ?_)
            have HVdfncnpp := hide hv
            refine hK.out _ _ (HVdfncnpp.out.sv (by simp)) (fun hS24 => ?_)
            clear hK Kt hv
            simp only [Act.put, List.getElem_toArray, List.getElem_cons_zero, List.getElem_cons_succ]
            refine wpAnyH_take (i := 14) (v := .bool t1) rfl (by kernel_rfl) (by kernel_rfl) (by kernel_rfl) (fun _ _ _ h => h) (Or.inl ⟨by rfl, fun w' _ => by go_simp⟩) hS24 ?_
            simp only [Act.put, List.getElem_toArray, List.getElem_cons_zero, List.getElem_cons_succ, List.setIfInBounds_toArray, List.set_cons_zero, List.set_cons_succ]
            refine wpAnyH_done (by kernel_rfl) ?_ _
            refine NoPanic.normal ?_
            have HVdfncnpps := hide (HVdfncnpp.out.perm (List.Perm.swap (q2, g1) (q1, f1) _))
            have HVe : Hid (Vs w _ [(q2, g1), (q1, f1), (p, f), (b0 + 1, g), (b0, f)]) := HVdfncnpps
            revert HA HVe
            exact hcut xs cs f1 g1 t1 q1 q2 W24
          · refine wanted_pos rfl ?_
            refine HVdfn.out.wpNew rfl (fun q1 W25 hv hb => ?_)
            have HVdfnn := hide hv
            have HS0nn := hide (HS0n.out.keep hb)
            refine hK.out _ _ (HVdfnn.out.sv (by simp)) (fun hS25 => ?_)
            clear hK Kt hv hb
            simp only [Act.put, List.getElem_toArray, List.getElem_cons_zero, List.getElem_cons_succ, List.setIfInBounds_toArray, List.set_cons_zero, List.set_cons_succ]
            refine wpAnyH_ready (rs := [5]) (by kernel_rfl) (by simp) (AllReadyH.cons rfl (fun Kt hK => ?_) AllReadyH.nil)
            refine wanted_pos rfl ?_
            refine wp_call (R := fun r w' => ∃ f1 g1 t1, r = .tuple #[.agg (ab f1 32).toArray, .agg (ab g1 32).toArray, .bool t1] ∧ TwA O f1 g1 t1 ∧ Vs w w' [(q1, (fun _ => 0)), (q2, (fun _ => 0)), (p, f), (b0 + 1, g), (b0, f)]) (vs := #[.agg (ab f 32).toArray, .slice xs S.length cs, .slice y l c]) rfl (by simp only [List.map_toArray, List.map_cons, List.map_nil]; rfl) (by go_simp) (Calls.mono (HRi.out _ xs cs HVdfnn.out.k HS0nn.out HCs.out) (fun e w' hE => by
              obtain ⟨f1, g1, t1, he, ha, hb⟩ := hE
              exact ⟨_, he, f1, g1, t1, rfl, ha, HVdfnn.out.keep hb⟩)) (fun r W26 hr => ?_)
            obtain ⟨f1, g1, t1, hr, ha, hv⟩ := hr
            subst hr
            have HA := hide ha
            have HVdfnnc := hide hv
            refine hK.out _ _ (HVdfnnc.out.sv (by simp)) (fun hS26 => ?_)
            clear hK Kt ha hv
            simp only [Act.put, List.getElem_toArray, List.getElem_cons_zero, List.getElem_cons_succ, List.setIfInBounds_toArray, List.set_cons_zero, List.set_cons_succ]
            refine wpAnyH_take (i := 6) (v := .tuple #[.agg (ab f1 32).toArray, .agg (ab g1 32).toArray, .bool t1]) rfl (by kernel_rfl) (by kernel_rfl) (by kernel_rfl) (fun _ _ _ h => h) (Or.inl ⟨by rfl, fun w' _ => by go_simp⟩) hS26 ?_
            simp only [Act.put, List.getElem_toArray, List.getElem_cons_zero, List.getElem_cons_succ, List.setIfInBounds_toArray, List.set_cons_zero, List.set_cons_succ]
            refine wpAnyH_take (i := 7) (v := .agg (ab f1 32).toArray) rfl (by kernel_rfl) (by kernel_rfl) (by kernel_rfl) (fun _ _ _ h => h) (Or.inl ⟨by rfl, fun w' _ => by go_simp⟩) hS26 ?_
            simp only [Act.put, List.getElem_toArray, List.getElem_cons_zero, List.getElem_cons_succ, List.setIfInBounds_toArray, List.set_cons_zero, List.set_cons_succ]
            refine wpAnyH_take (i := 8) (v := .agg (ab g1 32).toArray) rfl (by kernel_rfl) (by kernel_rfl) (by kernel_rfl) (fun _ _ _ h => h) (Or.inl ⟨by rfl, fun w' _ => by go_simp⟩) hS26 ?_
            simp only [Act.put, List.getElem_toArray, List.getElem_cons_zero, List.getElem_cons_succ, List.setIfInBounds_toArray, List.set_cons_zero, List.set_cons_succ]
            refine wpAnyH_take (i := 9) (v := .bool t1) rfl (by kernel_rfl) (by kernel_rfl) (by kernel_rfl) (fun _ _ _ h => h) (Or.inl ⟨by rfl, fun w' _ => by go_simp⟩) hS26 ?_
            simp only [Act.put, List.getElem_toArray, List.getElem_cons_zero, List.getElem_cons_succ, List.setIfInBounds_toArray, List.set_cons_zero, List.set_cons_succ]
            refine wpAnyH_ready (rs := [12]) (by kernel_rfl) (by simp) (AllReadyH.cons rfl (fun Kt hK => ?_) AllReadyH.nil)
            refine wanted_pos rfl ?_
            refine HVdfnnc.out.wpPut 0 rfl (by rfl) (by rfl) rfl (fun W27 hv => ?_)
            have HVdfnncp := hide hv
            refine hK.out _ _ (HVdfnncp.out.sv (by simp)) (fun hS27 => ?_)
            clear hK Kt hv
            simp only [Act.put, List.getElem_toArray, List.getElem_cons_zero, List.getElem_cons_succ]
            refine wpAnyH_ready (rs := [13]) (by kernel_rfl) (by simp) (AllReadyH.cons rfl (fun Kt hK => ?_) AllReadyH.nil)
            refine wanted_pos rfl ?_
            refine HVdfnncp.out.wpPut 1 rfl (by rfl) (by rfl) rfl (fun W28 hv => ?_)
            have HVdfnncpp := hide hv
            refine hK.out _ _ (HVdfnncpp.out.sv (by simp)) (fun hS28 => ?_)
            clear hK Kt hv
            simp only [Act.put, List.getElem_toArray, List.getElem_cons_zero, List.getElem_cons_succ]
            refine wpAnyH_take (i := 14) (v := .bool t1) rfl (by kernel_rfl) (by kernel_rfl) (by kernel_rfl) (fun _ _ _ h => h) (Or.inl ⟨by rfl, fun w' _ => by go_simp⟩) hS28 ?_
            simp only [Act.put, List.getElem_toArray, List.getElem_cons_zero, List.getElem_cons_succ, List.setIfInBounds_toArray, List.set_cons_zero, List.set_cons_succ]
            refine wpAnyH_done (by kernel_rfl) ?_ _
            refine NoPanic.normal ?_
            have HVdfnncpps := hide (HVdfnncpp.out.perm (List.Perm.swap (q2, g1) (q1, f1) _))
            have HVe : Hid (Vs w _ [(q2, g1), (q1, f1), (p, f), (b0 + 1, g), (b0, f)]) := HVdfnncpps
            revert HA HVe
            exact hcut xs cs f1 g1 t1 q1 q2 W28
      · refine wanted_pos rfl ?_
        refine HVd.out.wpNew rfl (fun q1 W29 hv hb => ?_)
        have HVdn := hide hv
        refine hK.out _ _ (HVdn.out.sv (by simp)) (fun hS29 => ?_)
        clear hK Kt hv hb
        simp only [Act.put, List.getElem_toArray, List.getElem_cons_zero, List.getElem_cons_succ, List.setIfInBounds_toArray, List.set_cons_zero, List.set_cons_succ]
        refine wpAnyH_ready (rs := [3, 11]) (by kernel_rfl) (by simp) (AllReadyH.cons rfl (fun Kt hK => ?_) (AllReadyH.cons rfl (fun Kt hK => ?_) AllReadyH.nil))
        · refine wanted_pos rfl ?_
          refine wp_call (R := fun r w' => ∃ xs cs, r = .slice xs S.length cs ∧ (SdL w' xs S ∧ S.length ≤ cs) ∧ Vs w w' [(q1, (fun _ => 0)), (p, f), (b0 + 1, g), (b0, f)]) (vs := #[.int .i64 (a : Int), .int .i64 (z : Int)]) rfl (by simp only [List.map_toArray, List.map_cons, List.map_nil]; rfl) (by go_simp) (Calls.mono (HFe.out _) (fun e w' hE => by
            obtain ⟨xs, cs, he, h1, h2, _, hb⟩ := hE
            exact ⟨_, he, xs, cs, rfl, ⟨h1, h2⟩, HVdn.out.keep hb⟩)) (fun r W30 hr => ?_)
          obtain ⟨xs, cs, hr, hs, hv⟩ := hr
          subst hr
          have HS0 := hide hs.1
          have HCs := hide hs.2
          have HVdnf := hide hv
          refine hK.out _ _ (HVdnf.out.sv (by simp)) (fun hS30 => ?_)
          clear hK Kt hs hv
          simp only [Act.put, List.getElem_toArray, List.getElem_cons_zero, List.getElem_cons_succ, List.setIfInBounds_toArray, List.set_cons_zero, List.set_cons_succ]
          refine wpAnyH_ready (rs := [5, 11]) (by kernel_rfl) (by simp) (AllReadyH.cons rfl (fun Kt hK => ?_) (AllReadyH.cons rfl (fun Kt hK => ?_) AllReadyH.nil))
          · refine wanted_pos rfl ?_
            refine wp_call (R := fun r w' => ∃ f1 g1 t1, r = .tuple #[.agg (ab f1 32).toArray, .agg (ab g1 32).toArray, .bool t1] ∧ TwA O f1 g1 t1 ∧ Vs w w' [(q1, (fun _ => 0)), (p, f), (b0 + 1, g), (b0, f)]) (vs := #[.agg (ab f 32).toArray, .slice xs S.length cs, .slice y l c]) rfl (by simp only [List.map_toArray, List.map_cons, List.map_nil]; rfl) (by go_simp) (Calls.mono (HRi.out _ xs cs HVdnf.out.k HS0.out HCs.out) (fun e w' hE => by
              obtain ⟨f1, g1, t1, he, ha, hb⟩ := hE
              exact ⟨_, he, f1, g1, t1, rfl, ha, HVdnf.out.keep hb⟩)) (fun r W31 hr => ?_)
            obtain ⟨f1, g1, t1, hr, ha, hv⟩ := hr
            subst hr
            have HA := hide ha
            have HVdnfc := hide hv
            refine hK.out _ _ (HVdnfc.out.sv (by simp)) (fun hS31 => ?_)
            clear hK Kt ha hv
            simp only [Act.put, List.getElem_toArray, List.getElem_cons_zero, List.getElem_cons_succ, List.setIfInBounds_toArray, List.set_cons_zero, List.set_cons_succ]
            refine wpAnyH_take (i := 6) (v := .tuple #[.agg (ab f1 32).toArray, .agg (ab g1 32).toArray, .bool t1]) rfl (by kernel_rfl) (by kernel_rfl) (by kernel_rfl) (fun _ _ _ h => h) (Or.inl ⟨by rfl, fun w' _ => by go_simp⟩) hS31 ?_
            simp only [Act.put, List.getElem_toArray, List.getElem_cons_zero, List.getElem_cons_succ, List.setIfInBounds_toArray, List.set_cons_zero, List.set_cons_succ]
            refine wpAnyH_take (i := 7) (v := .agg (ab f1 32).toArray) rfl (by kernel_rfl) (by kernel_rfl) (by kernel_rfl) (fun _ _ _ h => h) (Or.inl ⟨by rfl, fun w' _ => by go_simp⟩) hS31 ?_
            simp only [Act.put, List.getElem_toArray, List.getElem_cons_zero, List.getElem_cons_succ, List.setIfInBounds_toArray, List.set_cons_zero, List.set_cons_succ]
            refine wpAnyH_take (i := 8) (v := .agg (ab g1 32).toArray) rfl (by kernel_rfl) (by kernel_rfl) (by kernel_rfl) (fun _ _ _ h => h) (Or.inl ⟨by rfl, fun w' _ => by go_simp⟩) hS31 ?_
            simp only [Act.put, List.getElem_toArray, List.getElem_cons_zero, List.getElem_cons_succ, List.setIfInBounds_toArray, List.set_cons_zero, List.set_cons_succ]
            refine wpAnyH_take (i := 9) (v := .bool t1) rfl (by kernel_rfl) (by kernel_rfl) (by kernel_rfl) (fun _ _ _ h => h) (Or.inl ⟨by rfl, fun w' _ => by go_simp⟩) hS31 ?_
            simp only [Act.put, List.getElem_toArray, List.getElem_cons_zero, List.getElem_cons_succ, List.setIfInBounds_toArray, List.set_cons_zero, List.set_cons_succ]
            refine wpAnyH_ready (rs := [11]) (by kernel_rfl) (by simp) (AllReadyH.cons rfl (fun Kt hK => ?_) AllReadyH.nil)
            refine wanted_pos rfl ?_
            refine HVdnfc.out.wpNew rfl (fun q2 W32 hv hb => ?_)
            have HVdnfcn := hide hv
            refine hK.out _ _ (HVdnfcn.out.sv (by simp)) (fun hS32 => ?_)
            clear hK Kt hv hb
            simp only [Act.put, List.getElem_toArray, List.getElem_cons_zero, List.getElem_cons_succ, List.setIfInBounds_toArray, List.set_cons_zero, List.set_cons_succ]
            refine wpAnyH_ready (rs := [12]) (by kernel_rfl) (by simp) (AllReadyH.cons rfl (fun Kt hK => ?_) AllReadyH.nil)
            refine wanted_pos rfl ?_
            refine HVdnfcn.out.wpPut 1 rfl (by rfl) (by rfl) rfl (fun W33 hv => ?_)
            have HVdnfcnp := hide hv
            refine hK.out _ _ (HVdnfcnp.out.sv (by simp)) (fun hS33 => ?_)
            clear hK Kt hv
            simp only [Act.put, List.getElem_toArray, List.getElem_cons_zero, List.getElem_cons_succ]
            refine wpAnyH_ready (rs := [13]) (by kernel_rfl) (by simp) (AllReadyH.cons rfl (fun Kt hK => ?_) AllReadyH.nil)
            refine wanted_pos rfl ?_
            refine HVdnfcnp.out.wpPut 0 rfl (by rfl) (by rfl) rfl (fun W34 hv => ?_)
            have HVdnfcnpp := hide hv
            refine hK.out _ _ (HVdnfcnpp.out.sv (by simp)) (fun hS34 => ?_)
            clear hK Kt hv
            simp only [Act.put, List.getElem_toArray, List.getElem_cons_zero, List.getElem_cons_succ]
            refine wpAnyH_take (i := 14) (v := .bool t1) rfl (by kernel_rfl) (by kernel_rfl) (by kernel_rfl) (fun _ _ _ h => h) (Or.inl ⟨by rfl, fun w' _ => by go_simp⟩) hS34 ?_
            simp only [Act.put, List.getElem_toArray, List.getElem_cons_zero, List.getElem_cons_succ, List.setIfInBounds_toArray, List.set_cons_zero, List.set_cons_succ]
            refine wpAnyH_done (by kernel_rfl) ?_ _
            refine NoPanic.normal ?_
            have HVe : Hid (Vs w _ [(q2, g1), (q1, f1), (p, f), (b0 + 1, g), (b0, f)]) := HVdnfcnpp
            revert HA HVe
            exact hcut xs cs f1 g1 t1 q1 q2 W34
          · refine wanted_pos rfl ?_
            refine HVdnf.out.wpNew rfl (fun q2 W35 hv hb => ?_)
            have HVdnfn := hide hv
            have HS0n := hide (HS0.out.keep hb)
            refine hK.out _ _ (HVdnfn.out.sv (by simp)) (fun hS35 => ?_)
            clear hK Kt hv hb
            simp only [Act.put, List.getElem_toArray, List.getElem_cons_zero, List.getElem_cons_succ, List.setIfInBounds_toArray, List.set_cons_zero, List.set_cons_succ]
            refine wpAnyH_ready (rs := [5]) (by kernel_rfl) (by simp) (AllReadyH.cons rfl (fun Kt hK => ?_) AllReadyH.nil)
            refine wanted_pos rfl ?_
            refine wp_call (R := fun r w' => ∃ f1 g1 t1, r = .tuple #[.agg (ab f1 32).toArray, .agg (ab g1 32).toArray, .bool t1] ∧ TwA O f1 g1 t1 ∧ Vs w w' [(q2, (fun _ => 0)), (q1, (fun _ => 0)), (p, f), (b0 + 1, g), (b0, f)]) (vs := #[.agg (ab f 32).toArray, .slice xs S.length cs, .slice y l c]) rfl (by simp only [List.map_toArray, List.map_cons, List.map_nil]; rfl) (by go_simp) (Calls.mono (HRi.out _ xs cs HVdnfn.out.k HS0n.out HCs.out) (fun e w' hE => by
              obtain ⟨f1, g1, t1, he, ha, hb⟩ := hE
              exact ⟨_, he, f1, g1, t1, rfl, ha, HVdnfn.out.keep hb⟩)) (fun r W36 hr => ?_)
            obtain ⟨f1, g1, t1, hr, ha, hv⟩ := hr
            subst hr
            have HA := hide ha
            have HVdnfnc := hide hv
            refine hK.out _ _ (HVdnfnc.out.sv (by simp)) (fun hS36 => ?_)
            clear hK Kt ha hv
            simp only [Act.put, List.getElem_toArray, List.getElem_cons_zero, List.getElem_cons_succ, List.setIfInBounds_toArray, List.set_cons_zero, List.set_cons_succ]
            refine wpAnyH_take (i := 6) (v := .tuple #[.agg (ab f1 32).toArray, .agg (ab g1 32).toArray, .bool t1]) rfl (by kernel_rfl) (by kernel_rfl) (by kernel_rfl) (fun _ _ _ h => h) (Or.inl ⟨by rfl, fun w' _ => by go_simp⟩) hS36 ?_
            simp only [Act.put, List.getElem_toArray, List.getElem_cons_zero, List.getElem_cons_succ, List.setIfInBounds_toArray, List.set_cons_zero, List.set_cons_succ]
            refine wpAnyH_take (i := 7) (v := .agg (ab f1 32).toArray) rfl (by kernel_rfl) (by kernel_rfl) (by kernel_rfl) (fun _ _ _ h => h) (Or.inl ⟨by rfl, fun w' _ => by go_simp⟩) hS36 ?_
            simp only [Act.put, List.getElem_toArray, List.getElem_cons_zero, List.getElem_cons_succ, List.setIfInBounds_toArray, List.set_cons_zero, List.set_cons_succ]
            refine wpAnyH_take (i := 8) (v := .agg (ab g1 32).toArray) rfl (by kernel_rfl) (by kernel_rfl) (by kernel_rfl) (fun _ _ _ h => h) (Or.inl ⟨by rfl, fun w' _ => by go_simp⟩) hS36 ?_
            simp only [Act.put, List.getElem_toArray, List.getElem_cons_zero, List.getElem_cons_succ, List.setIfInBounds_toArray, List.set_cons_zero, List.set_cons_succ]
            refine wpAnyH_take (i := 9) (v := .bool t1) rfl (by kernel_rfl) (by kernel_rfl) (by kernel_rfl) (fun _ _ _ h => h) (Or.inl ⟨by rfl, fun w' _ => by go_simp⟩) hS36 ?_
            simp only [Act.put, List.getElem_toArray, List.getElem_cons_zero, List.getElem_cons_succ, List.setIfInBounds_toArray, List.set_cons_zero, List.set_cons_succ]
            refine wpAnyH_ready (rs := [12]) (by kernel_rfl) (by simp) (AllReadyH.cons rfl (fun Kt hK => ?_) AllReadyH.nil)
            refine wanted_pos rfl ?_
            refine HVdnfnc.out.wpPut 1 rfl (by rfl) (by rfl) rfl (fun W37 hv => ?_)
            have HVdnfncp := hide hv
            refine hK.out _ _ (HVdnfncp.out.sv (by simp)) (fun hS37 => ?_)
            clear hK Kt hv
            simp only [Act.put, List.getElem_toArray, List.getElem_cons_zero, List.getElem_cons_succ]
            refine wpAnyH_ready (rs := [13]) (by kernel_rfl) (by simp) (AllReadyH.cons rfl (fun Kt hK => ?_) AllReadyH.nil)
            refine wanted_pos rfl ?_
            refine HVdnfncp.out.wpPut 0 rfl (by rfl) (by rfl) rfl (fun W38 hv => ?_)
            have HVdnfncpp := hide hv
            refine hK.out _ _ (HVdnfncpp.out.sv (by simp)) (fun hS38 => ?_)
            clear hK Kt hv
            simp only [Act.put, List.getElem_toArray, List.getElem_cons_zero, List.getElem_cons_succ]
            refine wpAnyH_take (i := 14) (v := .bool t1) rfl (by kernel_rfl) (by kernel_rfl) (by kernel_rfl) (fun _ _ _ h => h) (Or.inl ⟨by rfl, fun w' _ => by go_simp⟩) hS38 ?_
            simp only [Act.put, List.getElem_toArray, List.getElem_cons_zero, List.getElem_cons_succ, List.setIfInBounds_toArray, List.set_cons_zero, List.set_cons_succ]
            refine wpAnyH_done (by kernel_rfl) ?_ _
            refine NoPanic.normal ?_
            have HVe : Hid (Vs w _ [(q2, g1), (q1, f1), (p, f), (b0 + 1, g), (b0, f)]) := HVdnfncpp
            revert HA HVe
            exact hcut xs cs f1 g1 t1 q1 q2 W38
        · refine wanted_pos rfl ?_
          refine HVdn.out.wpNew rfl (fun q2 W39 hv hb => ?_)
          have HVdnn := hide hv
          refine hK.out _ _ (HVdnn.out.sv (by simp)) (fun hS39 => ?_)
          clear hK Kt hv hb
          simp only [Act.put, List.getElem_toArray, List.getElem_cons_zero, List.getElem_cons_succ, List.setIfInBounds_toArray, List.set_cons_zero, List.set_cons_succ]
          refine wpAnyH_ready (rs := [3]) (by kernel_rfl) (by simp) (AllReadyH.cons rfl (fun Kt hK => ?_) AllReadyH.nil)
          refine wanted_pos rfl ?_
          refine wp_call (R := fun r w' => ∃ xs cs, r = .slice xs S.length cs ∧ (SdL w' xs S ∧ S.length ≤ cs) ∧ Vs w w' [(q2, (fun _ => 0)), (q1, (fun _ => 0)), (p, f), (b0 + 1, g), (b0, f)]) (vs := #[.int .i64 (a : Int), .int .i64 (z : Int)]) rfl (by simp only [List.map_toArray, List.map_cons, List.map_nil]; rfl) (by go_simp) (Calls.mono (HFe.out _) (fun e w' hE => by
            obtain ⟨xs, cs, he, h1, h2, _, hb⟩ := hE
            exact ⟨_, he, xs, cs, rfl, ⟨h1, h2⟩, HVdnn.out.keep hb⟩)) (fun r W40 hr => ?_)
          obtain ⟨xs, cs, hr, hs, hv⟩ := hr
          subst hr
          have HS0 := hide hs.1
          have HCs := hide hs.2
          have HVdnnf := hide hv
          refine hK.out _ _ (HVdnnf.out.sv (by simp)) (fun hS40 => ?_)
          clear hK Kt hs hv
          simp only [Act.put, List.getElem_toArray, List.getElem_cons_zero, List.getElem_cons_succ, List.setIfInBounds_toArray, List.set_cons_zero, List.set_cons_succ]
          refine wpAnyH_ready (rs := [5]) (by kernel_rfl) (by simp) (AllReadyH.cons rfl (fun Kt hK => ?_) AllReadyH.nil)
          refine wanted_pos rfl ?_
          refine wp_call (R := fun r w' => ∃ f1 g1 t1, r = .tuple #[.agg (ab f1 32).toArray, .agg (ab g1 32).toArray, .bool t1] ∧ TwA O f1 g1 t1 ∧ Vs w w' [(q2, (fun _ => 0)), (q1, (fun _ => 0)), (p, f), (b0 + 1, g), (b0, f)]) (vs := #[.agg (ab f 32).toArray, .slice xs S.length cs, .slice y l c]) rfl (by simp only [List.map_toArray, List.map_cons, List.map_nil]; rfl) (by go_simp) (Calls.mono (HRi.out _ xs cs HVdnnf.out.k HS0.out HCs.out) (fun e w' hE => by
            obtain ⟨f1, g1, t1, he, ha, hb⟩ := hE
            exact ⟨_, he, f1, g1, t1, rfl, ha, HVdnnf.out.keep hb⟩)) (fun r W41 hr => ?_)
          obtain ⟨f1, g1, t1, hr, ha, hv⟩ := hr
          subst hr
          have HA := hide ha
          have HVdnnfc := hide hv
          refine hK.out _ _ (HVdnnfc.out.sv (by simp)) (fun hS41 => ?_)
          clear hK Kt ha hv
          simp only [Act.put, List.getElem_toArray, List.getElem_cons_zero, List.getElem_cons_succ, List.setIfInBounds_toArray, List.set_cons_zero, List.set_cons_succ]
          refine wpAnyH_take (i := 6) (v := .tuple #[.agg (ab f1 32).toArray, .agg (ab g1 32).toArray, .bool t1]) rfl (by kernel_rfl) (by kernel_rfl) (by kernel_rfl) (fun _ _ _ h => h) (Or.inl ⟨by rfl, fun w' _ => by go_simp⟩) hS41 ?_
          simp only [Act.put, List.getElem_toArray, List.getElem_cons_zero, List.getElem_cons_succ, List.setIfInBounds_toArray, List.set_cons_zero, List.set_cons_succ]
          refine wpAnyH_take (i := 7) (v := .agg (ab f1 32).toArray) rfl (by kernel_rfl) (by kernel_rfl) (by kernel_rfl) (fun _ _ _ h => h) (Or.inl ⟨by rfl, fun w' _ => by go_simp⟩) hS41 ?_
          simp only [Act.put, List.getElem_toArray, List.getElem_cons_zero, List.getElem_cons_succ, List.setIfInBounds_toArray, List.set_cons_zero, List.set_cons_succ]
          refine wpAnyH_take (i := 8) (v := .agg (ab g1 32).toArray) rfl (by kernel_rfl) (by kernel_rfl) (by kernel_rfl) (fun _ _ _ h => h) (Or.inl ⟨by rfl, fun w' _ => by go_simp⟩) hS41 ?_
          simp only [Act.put, List.getElem_toArray, List.getElem_cons_zero, List.getElem_cons_succ, List.setIfInBounds_toArray, List.set_cons_zero, List.set_cons_succ]
          refine wpAnyH_take (i := 9) (v := .bool t1) rfl (by kernel_rfl) (by kernel_rfl) (by kernel_rfl) (fun _ _ _ h => h) (Or.inl ⟨by rfl, fun w' _ => by go_simp⟩) hS41 ?_
          simp only [Act.put, List.getElem_toArray, List.getElem_cons_zero, List.getElem_cons_succ, List.setIfInBounds_toArray, List.set_cons_zero, List.set_cons_succ]
          refine wpAnyH_ready (rs := [12]) (by kernel_rfl) (by simp) (AllReadyH.cons rfl (fun Kt hK => ?_) AllReadyH.nil)
          refine wanted_pos rfl ?_
          refine HVdnnfc.out.wpPut 1 rfl (by rfl) (by rfl) rfl (fun W42 hv => ?_)
          have HVdnnfcp := hide hv
          refine hK.out _ _ (HVdnnfcp.out.sv (by simp)) (fun hS42 => ?_)
          clear hK Kt hv
          simp only [Act.put, List.getElem_toArray, List.getElem_cons_zero, List.getElem_cons_succ]
          refine wpAnyH_ready (rs := [13]) (by kernel_rfl) (by simp) (AllReadyH.cons rfl (fun Kt hK => ?_) AllReadyH.nil)
          refine wanted_pos rfl ?_
          refine HVdnnfcp.out.wpPut 0 rfl (by rfl) (by rfl) rfl (fun W43 hv => ?_)
          have HVdnnfcpp := hide hv
          refine hK.out _ _ (HVdnnfcpp.out.sv (by simp)) (fun hS43 => ?_)
          clear hK Kt hv
          simp only [Act.put, List.getElem_toArray, List.getElem_cons_zero, List.getElem_cons_succ]
          refine wpAnyH_take (i := 14) (v := .bool t1) rfl (by kernel_rfl) (by kernel_rfl) (by kernel_rfl) (fun _ _ _ h => h) (Or.inl ⟨by rfl, fun w' _ => by go_simp⟩) hS43 ?_
          simp only [Act.put, List.getElem_toArray, List.getElem_cons_zero, List.getElem_cons_succ, List.setIfInBounds_toArray, List.set_cons_zero, List.set_cons_succ]
          refine wpAnyH_done (by kernel_rfl) ?_ _
          refine NoPanic.normal ?_
          have HVe : Hid (Vs w _ [(q2, g1), (q1, f1), (p, f), (b0 + 1, g), (b0, f)]) := HVdnnfcpp
          revert HA HVe
          exact hcut xs cs f1 g1 t1 q1 q2 W43
      · refine wanted_pos rfl ?_
        refine HVd.out.wpNew rfl (fun q2 W44 hv hb => ?_)
        have HVdn := hide hv
        refine hK.out _ _ (HVdn.out.sv (by simp)) (fun hS44 => ?_)
        clear hK Kt hv hb
        simp only [Act.put, List.getElem_toArray, List.getElem_cons_zero, List.getElem_cons_succ, List.setIfInBounds_toArray, List.set_cons_zero, List.set_cons_succ]
        refine wpAnyH_ready (rs := [3, 10]) (by kernel_rfl) (by simp) (AllReadyH.cons rfl (fun Kt hK => ?_) (AllReadyH.cons rfl (fun Kt hK => ?_) AllReadyH.nil))
        · refine wanted_pos rfl ?_
          refine wp_call (R := fun r w' => ∃ xs cs, r = .slice xs S.length cs ∧ (SdL w' xs S ∧ S.length ≤ cs) ∧ Vs w w' [(q2, (fun _ => 0)), (p, f), (b0 + 1, g), (b0, f)]) (vs := #[.int .i64 (a : Int), .int .i64 (z : Int)]) rfl (by simp only [List.map_toArray, List.map_cons, List.map_nil]; rfl) (by go_simp) (Calls.mono (HFe.out _) (fun e w' hE => by
            obtain ⟨xs, cs, he, h1, h2, _, hb⟩ := hE
            exact ⟨_, he, xs, cs, rfl, ⟨h1, h2⟩, HVdn.out.keep hb⟩)) (fun r W45 hr => ?_)
          obtain ⟨xs, cs, hr, hs, hv⟩ := hr
          subst hr
          have HS0 := hide hs.1
          have HCs := hide hs.2
          have HVdnf := hide hv
          refine hK.out _ _ (HVdnf.out.sv (by simp)) (fun hS45 => ?_)
          clear hK Kt hs hv
          simp only [Act.put, List.getElem_toArray, List.getElem_cons_zero, List.getElem_cons_succ, List.setIfInBounds_toArray, List.set_cons_zero, List.set_cons_succ]
          refine wpAnyH_ready (rs := [5, 10]) (by kernel_rfl) (by simp) (AllReadyH.cons rfl (fun Kt hK => ?_) (AllReadyH.cons rfl (fun Kt hK => ?_) AllReadyH.nil))
          · refine wanted_pos rfl ?_
            refine wp_call (R := fun r w' => ∃ f1 g1 t1, r = .tuple #[.agg (ab f1 32).toArray, .agg (ab g1 32).toArray, .bool t1] ∧ TwA O f1 g1 t1 ∧ Vs w w' [(q2, (fun _ => 0)), (p, f), (b0 + 1, g), (b0, f)]) (vs := #[.agg (ab f 32).toArray, .slice xs S.length cs, .slice y l c]) rfl (by simp only [List.map_toArray, List.map_cons, List.map_nil]; rfl) (by go_simp) (Calls.mono (HRi.out _ xs cs HVdnf.out.k HS0.out HCs.out) (fun e w' hE => by
              obtain ⟨f1, g1, t1, he, ha, hb⟩ := hE
              exact ⟨_, he, f1, g1, t1, rfl, ha, HVdnf.out.keep hb⟩)) (fun r W46 hr => ?_)
            obtain ⟨f1, g1, t1, hr, ha, hv⟩ := hr
            subst hr
            have HA := hide ha
            have HVdnfc := hide hv
            refine hK.out _ _ (HVdnfc.out.sv (by simp)) (fun hS46 => ?_)
            clear hK Kt ha hv
            simp only [Act.put, List.getElem_toArray, List.getElem_cons_zero, List.getElem_cons_succ, List.setIfInBounds_toArray, List.set_cons_zero, List.set_cons_succ]
            refine wpAnyH_take (i := 6) (v := .tuple #[.agg (ab f1 32).toArray, .agg (ab g1 32).toArray, .bool t1]) rfl (by kernel_rfl) (by kernel_rfl) (by kernel_rfl) (fun _ _ _ h => h) (Or.inl ⟨by rfl, fun w' _ => by go_simp⟩) hS46 ?_
            simp only [Act.put, List.getElem_toArray, List.getElem_cons_zero, List.getElem_cons_succ, List.setIfInBounds_toArray, List.set_cons_zero, List.set_cons_succ]
            refine wpAnyH_take (i := 7) (v := .agg (ab f1 32).toArray) rfl (by kernel_rfl) (by kernel_rfl) (by kernel_rfl) (fun _ _ _ h => h) (Or.inl ⟨by rfl, fun w' _ => by go_simp⟩) hS46 ?_
            simp only [Act.put, List.getElem_toArray, List.getElem_cons_zero, List.getElem_cons_succ, List.setIfInBounds_toArray, List.set_cons_zero, List.set_cons_succ]
            refine wpAnyH_take (i := 8) (v := .agg (ab g1 32).toArray) rfl (by kernel_rfl) (by kernel_rfl) (by kernel_rfl) (fun _ _ _ h => h) (Or.inl ⟨by rfl, fun w' _ => by go_simp⟩) hS46 ?_
            simp only [Act.put, List.getElem_toArray, List.getElem_cons_zero, List.getElem_cons_succ, List.setIfInBounds_toArray, List.set_cons_zero, List.set_cons_succ]
            refine wpAnyH_take (i := 9) (v := .bool t1) rfl (by kernel_rfl) (by kernel_rfl) (by kernel_rfl) (fun _ _ _ h => h) (Or.inl ⟨by rfl, fun w' _ => by go_simp⟩) hS46 ?_
            simp only [Act.put, List.getElem_toArray, List.getElem_cons_zero, List.getElem_cons_succ, List.setIfInBounds_toArray, List.set_cons_zero, List.set_cons_succ]
            refine wpAnyH_ready (rs := [10]) (by kernel_rfl) (by simp) (AllReadyH.cons rfl (fun Kt hK => ?_) AllReadyH.nil)
            refine wanted_pos rfl ?_
            refine HVdnfc.out.wpNew rfl (fun q1 W47 hv hb => ?_)
            have HVdnfcn := hide hv
            refine hK.out _ _ (HVdnfcn.out.sv (by simp)) (fun hS47 => ?_)
            clear hK Kt hv hb
            simp only [Act.put, List.getElem_toArray, List.getElem_cons_zero, List.getElem_cons_succ, List.setIfInBounds_toArray, List.set_cons_zero, List.set_cons_succ]
            refine wpAnyH_ready (rs := [12]) (by kernel_rfl) (by simp) (AllReadyH.cons rfl (fun Kt hK => ?_) AllReadyH.nil)
            refine wanted_pos rfl ?_
            refine HVdnfcn.out.wpPut 0 rfl (by rfl) (by rfl) rfl (fun W48 hv => ?_)
            have HVdnfcnp := hide hv
            refine hK.out _ _ (HVdnfcnp.out.sv (by simp)) (fun hS48 => ?_)
            clear hK Kt hv
            simp only [Act.put, List.getElem_toArray, List.getElem_cons_zero, List.getElem_cons_succ]
            refine wpAnyH_ready (rs := [13]) (by kernel_rfl) (by simp) (AllReadyH.cons rfl (fun Kt hK => ?_) AllReadyH.nil)
            refine wanted_pos rfl ?_
            refine HVdnfcnp.out.wpPut 1 rfl (by rfl) (by rfl) rfl (fun W49 hv => ?_)
            have HVdnfcnpp := hide hv
            refine hK.out _ _ (HVdnfcnpp.out.sv (by simp)) (fun hS49 => ?_)
            clear hK Kt hv
            simp only [Act.put, List.getElem_toArray, List.getElem_cons_zero, List.getElem_cons_succ]
            refine wpAnyH_take (i := 14) (v := .bool t1) rfl (by kernel_rfl) (by kernel_rfl) (by kernel_rfl) (fun _ _ _ h => h) (Or.inl ⟨by rfl, fun w' _ => by go_simp⟩) hS49 ?_
            simp only [Act.put, List.getElem_toArray, List.getElem_cons_zero, List.getElem_cons_succ, List.setIfInBounds_toArray, List.set_cons_zero, List.set_cons_succ]
            refine wpAnyH_done (by kernel_rfl) ?_ _
            refine NoPanic.normal ?_
            have HVdnfcnpps := hide (HVdnfcnpp.out.perm (List.Perm.swap (q2, g1) (q1, f1) _))
            have HVe : Hid (Vs w _ [(q2, g1), (q1, f1), (p, f), (b0 + 1, g), (b0, f)]) := HVdnfcnpps
            revert HA HVe
            exact hcut xs cs f1 g1 t1 q1 q2 W49
          · refine wanted_pos rfl ?_
            refine HVdnf.out.wpNew rfl (fun q1 W50 hv hb => ?_)
            have HVdnfn := hide hv
            have HS0n := hide (HS0.out.keep hb)
            refine hK.out _ _ (HVdnfn.out.sv (by simp)) (fun hS50 => ?_)
            clear hK Kt hv hb
            simp only [Act.put, List.getElem_toArray, List.getElem_cons_zero, List.getElem_cons_succ, List.setIfInBounds_toArray, List.set_cons_zero, List.set_cons_succ]
            refine wpAnyH_ready (rs := [5]) (by kernel_rfl) (by simp) (AllReadyH.cons rfl (fun Kt hK => ?_) AllReadyH.nil)
            refine wanted_pos rfl ?_
            refine wp_call (R := fun r w' => ∃ f1 g1 t1, r = .tuple #[.agg (ab f1 32).toArray, .agg (ab g1 32).toArray, .bool t1] ∧ TwA O f1 g1 t1 ∧ Vs w w' [(q1, (fun _ => 0)), (q2, (fun _ => 0)), (p, f), (b0 + 1, g), (b0, f)]) (vs := #[.agg (ab f 32).toArray, .slice xs S.length cs, .slice y l c]) rfl (by simp only [List.map_toArray, List.map_cons, List.map_nil]; rfl) (by go_simp) (Calls.mono (HRi.out _ xs cs HVdnfn.out.k HS0n.out HCs.out) (fun e w' hE => by
              obtain ⟨f1, g1, t1, he, ha, hb⟩ := hE
              exact ⟨_, he, f1, g1, t1, rfl, ha, HVdnfn.out.keep hb⟩)) (fun r W51 hr => ?_)
            obtain ⟨f1, g1, t1, hr, ha, hv⟩ := hr
            subst hr
            have HA := hide ha
            have HVdnfnc := hide hv
            refine hK.out _ _ (HVdnfnc.out.sv (by simp)) (fun hS51 => ?_)
            clear hK Kt ha hv
            simp only [Act.put, List.getElem_toArray, List.getElem_cons_zero, List.getElem_cons_succ, List.setIfInBounds_toArray, List.set_cons_zero, List.set_cons_succ]
            refine wpAnyH_take (i := 6) (v := .tuple #[.agg (ab f1 32).toArray, .agg (ab g1 32).toArray, .bool t1]) rfl (by kernel_rfl) (by kernel_rfl) (by kernel_rfl) (fun _ _ _ h => h) (Or.inl ⟨by rfl, fun w' _ => by go_simp⟩) hS51 ?_
            simp only [Act.put, List.getElem_toArray, List.getElem_cons_zero, List.getElem_cons_succ, List.setIfInBounds_toArray, List.set_cons_zero, List.set_cons_succ]
            refine wpAnyH_take (i := 7) (v := .agg (ab f1 32).toArray) rfl (by kernel_rfl) (by kernel_rfl) (by kernel_rfl) (fun _ _ _ h => h) (Or.inl ⟨by rfl, fun w' _ => by go_simp⟩) hS51 ?_
            simp only [Act.put, List.getElem_toArray, List.getElem_cons_zero, List.getElem_cons_succ, List.setIfInBounds_toArray, List.set_cons_zero, List.set_cons_succ]
            refine wpAnyH_take (i := 8) (v := .agg (ab g1 32).toArray) rfl (by kernel_rfl) (by kernel_rfl) (by kernel_rfl) (fun _ _ _ h => h) (Or.inl ⟨by rfl, fun w' _ => by go_simp⟩) hS51 ?_
            simp only [Act.put, List.getElem_toArray, List.getElem_cons_zero, List.getElem_cons_succ, List.setIfInBounds_toArray, List.set_cons_zero, List.set_cons_succ]
            refine wpAnyH_take (i := 9) (v := .bool t1) rfl (by kernel_rfl) (by kernel_rfl) (by kernel_rfl) (fun _ _ _ h => h) (Or.inl ⟨by rfl, fun w' _ => by go_simp⟩) hS51 ?_
            simp only [Act.put, List.getElem_toArray, List.getElem_cons_zero, List.getElem_cons_succ, List.setIfInBounds_toArray, List.set_cons_zero, List.set_cons_succ]
            refine wpAnyH_ready (rs := [12]) (by kernel_rfl) (by simp) (AllReadyH.cons rfl (fun Kt hK => ?_) AllReadyH.nil)
            refine wanted_pos rfl ?_
            refine HVdnfnc.out.wpPut 0 rfl (by rfl) (by rfl) rfl (fun W52 hv => ?_)
            have HVdnfncp := hide hv
            refine hK.out _ _ (HVdnfncp.out.sv (by simp)) (fun hS52 => ?_)
            clear hK Kt hv
            simp only [Act.put, List.getElem_toArray, List.getElem_cons_zero, List.getElem_cons_succ]
            refine wpAnyH_ready (rs := [13]) (by kernel_rfl) (by simp) (AllReadyH.cons rfl (fun Kt hK => ?_) AllReadyH.nil)
            refine wanted_pos rfl ?_
            refine HVdnfncp.out.wpPut 1 rfl (by rfl) (by rfl) rfl (fun W53 hv => ?_)
            have HVdnfncpp := hide hv
            refine hK.out _ _ (HVdnfncpp.out.sv (by simp)) (fun hS53 => ?_)
            clear hK Kt hv
            simp only [Act.put, List.getElem_toArray, List.getElem_cons_zero, List.getElem_cons_succ]
            refine wpAnyH_take (i := 14) (v := .bool t1) rfl (by kernel_rfl) (by kernel_rfl) (by kernel_rfl) (fun _ _ _ h => h) (Or.inl ⟨by rfl, fun w' _ => by go_simp⟩) hS53 ?_
            simp only [Act.put, List.getElem_toArray, List.getElem_cons_zero, List.getElem_cons_succ, List.setIfInBounds_toArray, List.set_cons_zero, List.set_cons_succ]
            refine wpAnyH_done (by kernel_rfl) ?_ _
            refine NoPanic.normal ?_
            have HVdnfncpps := hide (HVdnfncpp.out.perm (List.Perm.swap (q2, g1) (q1, f1) _))
            have HVe : Hid (Vs w _ [(q2, g1), (q1, f1), (p, f), (b0 + 1, g), (b0, f)]) := HVdnfncpps
            revert HA HVe
            exact hcut xs cs f1 g1 t1 q1 q2 W53
        · refine wanted_pos rfl ?_
          refine HVdn.out.wpNew rfl (fun q1 W54 hv hb => ?_)
          have HVdnn := hide hv
          refine hK.out _ _ (HVdnn.out.sv (by simp)) (fun hS54 => ?_)
          clear hK Kt hv hb
          simp only [Act.put, List.getElem_toArray, List.getElem_cons_zero, List.getElem_cons_succ, List.setIfInBounds_toArray, List.set_cons_zero, List.set_cons_succ]
          refine wpAnyH_ready (rs := [3]) (by kernel_rfl) (by simp) (AllReadyH.cons rfl (fun Kt hK => ?_) AllReadyH.nil)
          refine wanted_pos rfl ?_
          refine wp_call (R := fun r w' => ∃ xs cs, r = .slice xs S.length cs ∧ (SdL w' xs S ∧ S.length ≤ cs) ∧ Vs w w' [(q1, (fun _ => 0)), (q2, (fun _ => 0)), (p, f), (b0 + 1, g), (b0, f)]) (vs := #[.int .i64 (a : Int), .int .i64 (z : Int)]) rfl (by simp only [List.map_toArray, List.map_cons, List.map_nil]; rfl) (by go_simp) (Calls.mono (HFe.out _) (fun e w' hE => by
            obtain ⟨xs, cs, he, h1, h2, _, hb⟩ := hE
            exact ⟨_, he, xs, cs, rfl, ⟨h1, h2⟩, HVdnn.out.keep hb⟩)) (fun r W55 hr => ?_)
          obtain ⟨xs, cs, hr, hs, hv⟩ := hr
          subst hr
          have HS0 := hide hs.1
          have HCs := hide hs.2
          have HVdnnf := hide hv
          refine hK.out _ _ (HVdnnf.out.sv (by simp)) (fun hS55 => ?_)
          clear hK Kt hs hv
          simp only [Act.put, List.getElem_toArray, List.getElem_cons_zero, List.getElem_cons_succ, List.setIfInBounds_toArray, List.set_cons_zero, List.set_cons_succ]
          refine wpAnyH_ready (rs := [5]) (by kernel_rfl) (by simp) (AllReadyH.cons rfl (fun Kt hK => ?_) AllReadyH.nil)
          refine wanted_pos rfl ?_
          refine wp_call (R := fun r w' => ∃ f1 g1 t1, r = .tuple #[.agg (ab f1 32).toArray, .agg (ab g1 32).toArray, .bool t1] ∧ TwA O f1 g1 t1 ∧ Vs w w' [(q1, (fun _ => 0)), (q2, (fun _ => 0)), (p, f), (b0 + 1, g), (b0, f)]) (vs := #[.agg (ab f 32).toArray, .slice xs S.length cs, .slice y l c]) rfl (by simp only [List.map_toArray, List.map_cons, List.map_nil]; rfl) (by go_simp) (Calls.mono (HRi.out _ xs cs HVdnnf.out.k HS0.out HCs.out) (fun e w' hE => by
            obtain ⟨f1, g1, t1, he, ha, hb⟩ := hE
            exact ⟨_, he, f1, g1, t1, rfl, ha, HVdnnf.out.keep hb⟩)) (fun r W56 hr => ?_)
          obtain ⟨f1, g1, t1, hr, ha, hv⟩ := hr
          subst hr
          have HA := hide ha
          have HVdnnfc := hide hv
          refine hK.out _ _ (HVdnnfc.out.sv (by simp)) (fun hS56 => ?_)
          clear hK Kt ha hv
          simp only [Act.put, List.getElem_toArray, List.getElem_cons_zero, List.getElem_cons_succ, List.setIfInBounds_toArray, List.set_cons_zero, List.set_cons_succ]
          refine wpAnyH_take (i := 6) (v := .tuple #[.agg (ab f1 32).toArray, .agg (ab g1 32).toArray, .bool t1]) rfl (by kernel_rfl) (by kernel_rfl) (by kernel_rfl) (fun _ _ _ h => h) (Or.inl ⟨by rfl, fun w' _ => by go_simp⟩) hS56 ?_
          simp only [Act.put, List.getElem_toArray, List.getElem_cons_zero, List.getElem_cons_succ, List.setIfInBounds_toArray, List.set_cons_zero, List.set_cons_succ]
          refine wpAnyH_take (i := 7) (v := .agg (ab f1 32).toArray) rfl (by kernel_rfl) (by kernel_rfl) (by kernel_rfl) (fun _ _ _ h => h) (Or.inl ⟨by rfl, fun w' _ => by go_simp⟩) hS56 ?_
          simp only [Act.put, List.getElem_toArray, List.getElem_cons_zero, List.getElem_cons_succ, List.setIfInBounds_toArray, List.set_cons_zero, List.set_cons_succ]
          refine wpAnyH_take (i := 8) (v := .agg (ab g1 32).toArray) rfl (by kernel_rfl) (by kernel_rfl) (by kernel_rfl) (fun _ _ _ h => h) (Or.inl ⟨by rfl, fun w' _ => by go_simp⟩) hS56 ?_
          simp only [Act.put, List.getElem_toArray, List.getElem_cons_zero, List.getElem_cons_succ, List.setIfInBounds_toArray, List.set_cons_zero, List.set_cons_succ]
          refine wpAnyH_take (i := 9) (v := .bool t1) rfl (by kernel_rfl) (by kernel_rfl) (by kernel_rfl) (fun _ _ _ h => h) (Or.inl ⟨by rfl, fun w' _ => by go_simp⟩) hS56 ?_
          simp only [Act.put, List.getElem_toArray, List.getElem_cons_zero, List.getElem_cons_succ, List.setIfInBounds_toArray, List.set_cons_zero, List.set_cons_succ]
          refine wpAnyH_ready (rs := [12]) (by kernel_rfl) (by simp) (AllReadyH.cons rfl (fun Kt hK => ?_) AllReadyH.nil)
          refine wanted_pos rfl ?_
          refine HVdnnfc.out.wpPut 0 rfl (by rfl) (by rfl) rfl (fun W57 hv => ?_)
          have HVdnnfcp := hide hv
          refine hK.out _ _ (HVdnnfcp.out.sv (by simp)) (fun hS57 => ?_)
          clear hK Kt hv
          simp only [Act.put, List.getElem_toArray, List.getElem_cons_zero, List.getElem_cons_succ]
          refine wpAnyH_ready (rs := [13]) (by kernel_rfl) (by simp) (AllReadyH.cons rfl (fun Kt hK => ?_) AllReadyH.nil)
          refine wanted_pos rfl ?_
          refine HVdnnfcp.out.wpPut 1 rfl (by rfl) (by rfl) rfl (fun W58 hv => ?_)
          have HVdnnfcpp := hide hv
          refine hK.out _ _ (HVdnnfcpp.out.sv (by simp)) (fun hS58 => ?_)
          clear hK Kt hv
          simp only [Act.put, List.getElem_toArray, List.getElem_cons_zero, List.getElem_cons_succ]
          refine wpAnyH_take (i := 14) (v := .bool t1) rfl (by kernel_rfl) (by kernel_rfl) (by kernel_rfl) (fun _ _ _ h => h) (Or.inl ⟨by rfl, fun w' _ => by go_simp⟩) hS58 ?_
          simp only [Act.put, List.getElem_toArray, List.getElem_cons_zero, List.getElem_cons_succ, List.setIfInBounds_toArray, List.set_cons_zero, List.set_cons_succ]
          refine wpAnyH_done (by kernel_rfl) ?_ _
          refine NoPanic.normal ?_
          have HVdnnfcpps := hide (HVdnnfcpp.out.perm (List.Perm.swap (q2, g1) (q1, f1) _))
          have HVe : Hid (Vs w _ [(q2, g1), (q1, f1), (p, f), (b0 + 1, g), (b0, f)]) := HVdnnfcpps
          revert HA HVe
          exact hcut xs cs f1 g1 t1 q1 q2 W58
    intro xs cs f1 g1 t1 q1 q2 Y HA HVe
    clear HVd
    cases t1 with
    | false =>
      obtain rfl : O = none := by
        have h := HA.out.b_
        cases O with
        | none => rfl
        | some q => cases h
      clear HA
      go_wp2_with fail
      go_ret
      exact ⟨rfl, HVe.out.k⟩
    | true =>
      obtain rfl : O = some (f1, g1) := by
        have h := HA.out.b_
        have h2 := HA.out.o_
        cases O with
        | none => cases h
        | some q => rw [h2 q rfl]
      clear HA
      have HEq1 := hide (fun W => eqH f1 f W)
      have HEq2 := hide (fun W => eqH g1 g W)
      cases he1 : eqB f1 f 32 with
      | true =>
        rw [he1] at HEq1
        cases he2 : eqB g1 g 32 with
        | true =>
          rw [he2] at HEq2
          go_wp2_with (first | (refine wpList_load_g (g := q1) (by rfl) _ rfl rfl (HVe.out.rg 1 rfl) ?_; simp only [Act.put, List.setIfInBounds_toArray, List.set_cons_zero, List.set_cons_succ]) | (refine wpList_load_g (g := b0) (by rfl) _ rfl rfl (HVe.out.rg 4 rfl) ?_; simp only [Act.put, List.setIfInBounds_toArray, List.set_cons_zero, List.set_cons_succ]) | (refine wpList_load_g (g := q2) (by rfl) _ rfl rfl (HVe.out.rg 0 rfl) ?_; simp only [Act.put, List.setIfInBounds_toArray, List.set_cons_zero, List.set_cons_succ]) | (refine wpList_load_g (g := b0 + 1) (by rfl) _ rfl rfl (HVe.out.rg 3 rfl) ?_; simp only [Act.put, List.setIfInBounds_toArray, List.set_cons_zero, List.set_cons_succ]) | (refine wpList_eqH (by rfl) _ _ _ rfl _ _ true rfl rfl (HEq1.out _) ?_; simp only [Act.put, List.setIfInBounds_toArray, List.set_cons_zero, List.set_cons_succ]) | (refine wpList_eqH (by rfl) _ _ _ rfl _ _ true rfl rfl (HEq2.out _) ?_; simp only [Act.put, List.setIfInBounds_toArray, List.set_cons_zero, List.set_cons_succ]))
          go_ret
          exact ⟨rfl, HVe.out.k⟩
        | false =>
          rw [he2] at HEq2
          go_wp2_with (first | (refine wpList_load_g (g := q1) (by rfl) _ rfl rfl (HVe.out.rg 1 rfl) ?_; simp only [Act.put, List.setIfInBounds_toArray, List.set_cons_zero, List.set_cons_succ]) | (refine wpList_load_g (g := b0) (by rfl) _ rfl rfl (HVe.out.rg 4 rfl) ?_; simp only [Act.put, List.setIfInBounds_toArray, List.set_cons_zero, List.set_cons_succ]) | (refine wpList_load_g (g := q2) (by rfl) _ rfl rfl (HVe.out.rg 0 rfl) ?_; simp only [Act.put, List.setIfInBounds_toArray, List.set_cons_zero, List.set_cons_succ]) | (refine wpList_load_g (g := b0 + 1) (by rfl) _ rfl rfl (HVe.out.rg 3 rfl) ?_; simp only [Act.put, List.setIfInBounds_toArray, List.set_cons_zero, List.set_cons_succ]) | (refine wpList_eqH (by rfl) _ _ _ rfl _ _ true rfl rfl (HEq1.out _) ?_; simp only [Act.put, List.setIfInBounds_toArray, List.set_cons_zero, List.set_cons_succ]) | (refine wpList_eqH (by rfl) _ _ _ rfl _ _ false rfl rfl (HEq2.out _) ?_; simp only [Act.put, List.setIfInBounds_toArray, List.set_cons_zero, List.set_cons_succ]))
          go_ret
          exact ⟨rfl, HVe.out.k⟩
      | false =>
        rw [he1] at HEq1
        go_wp2_with (first | (refine wpList_load_g (g := q1) (by rfl) _ rfl rfl (HVe.out.rg 1 rfl) ?_; simp only [Act.put, List.setIfInBounds_toArray, List.set_cons_zero, List.set_cons_succ]) | (refine wpList_load_g (g := b0) (by rfl) _ rfl rfl (HVe.out.rg 4 rfl) ?_; simp only [Act.put, List.setIfInBounds_toArray, List.set_cons_zero, List.set_cons_succ]) | (refine wpList_load_g (g := q2) (by rfl) _ rfl rfl (HVe.out.rg 0 rfl) ?_; simp only [Act.put, List.setIfInBounds_toArray, List.set_cons_zero, List.set_cons_succ]) | (refine wpList_load_g (g := b0 + 1) (by rfl) _ rfl rfl (HVe.out.rg 3 rfl) ?_; simp only [Act.put, List.setIfInBounds_toArray, List.set_cons_zero, List.set_cons_succ]) | (refine wpList_eqH (by rfl) _ _ _ rfl _ _ false rfl rfl (HEq1.out _) ?_; simp only [Act.put, List.setIfInBounds_toArray, List.set_cons_zero, List.set_cons_succ]))
        go_ret
        exact ⟨rfl, HVe.out.k⟩
  · have hai : (0 : Int) < (a : Int) := by omega
    have hbu : beg false f (ls F 0 l) (fun y p => ap pA pB S p (y, y)) = O := by
      have h := HBu.out
      rwa [decide_eq_false ha0] at h
    by_cases hl0 : l = 0
    · subst hl0
      rw [ls_nil] at hbu
      obtain rfl : none = O := hbu
      clear HBu ha0 hq1 hq2 hmb
      go_wp2_with fail
      go_ret
      exact ⟨rfl, HV2.out.k⟩
    · have hl1 : 0 < l := by omega
      obtain ⟨l1, hl1'⟩ : ∃ k, l - 1 = k := ⟨_, rfl⟩
      obtain ⟨c1, hc1'⟩ : ∃ k, c - 1 = k := ⟨_, rfl⟩
      rw [ls_cons F hl1, ls_next, hl1'] at hbu
      obtain ⟨bz, oz, rfl⟩ := HLs.out.ad hl1
      obtain ⟨t, ht⟩ : ∃ t, F 0 = t := ⟨_, rfl⟩
      have htl : ∀ j, t j < 256 := by rw [← ht]; exact HLs.out.lt 0
      have hRt : w.rangeAt bz oz (ab t 32) := by rw [← ht]; exact HLs.out.first hl1
      obtain ⟨yo, hyo⟩ : ∃ yo, (c = 1 ∧ yo = oz) ∨ (¬ (c = 1) ∧ yo = oz + 32) := by
        by_cases h : c = 1
        · exact ⟨_, Or.inl ⟨h, rfl⟩⟩
        · exact ⟨_, Or.inr ⟨h, rfl⟩⟩
      have hLn : HL w (some ⟨bz, yo, none⟩) l1 (fun i => F (1 + i)) := by
        rcases hyo with ⟨h1, h2⟩ | ⟨h1, h2⟩
        · exact ⟨fun i j => HLs.out.lt (1 + i) j, Or.inl (by have := HC.out.1; omega)⟩
        · have h := HLs.out.tail 1
          rw [Nat.one_mul, hl1'] at h
          rw [h2]
          exact h
      rw [ht] at hbu
      have hee : ap pA pB S (ls (fun i => F (1 + i)) 0 l1) (t, t) = O := hbu
      have hRi := fun W xs cs (h : Below w.heap.size w W) (hS : SdL W xs S) (hcs : S.length ≤ cs) => rise_any (w := W) (xs := xs) (cs := cs) (k := S.length) (c := c1) (HT.out.keep h) hS rfl hcs (hLn.keep h) (by have := HC.out.1; omega) (by have := HC.out.2.2; omega) htl
      rw [hee] at hRi
      unfold hv at hRi
      have HRi := hide hRi
      have HRt := hide hRt
      have hlb : ((l : Int) == 0) = false := beq_eq_false_iff_ne.2 (by omega)
      have hlI : (0 : Int) < (l : Int) := by omega
      have hlI1 : (1 : Int) ≤ (l : Int) := by omega
      have hlc : (l : Int) ≤ (c : Int) := by have := HC.out.1; omega
      have hlc0 : ¬ (c = 0) := by have := HC.out.1; omega
      have hl63 : (l : Int) ≤ 100000 := by have := HC.out.2.2; omega
      clear hee hRi HBu hq1 hq2 hmb hbu hLn hRt htl ht ha0
      go_upto_region 11 with fail
      have HVd := hide HV2.out.drew
      refine wp_region_noPanic ?_
      refine wp_region_held_drew (S := Sv w []) (by kernel_rfl) (HVd.out.sv (by simp)) (fun hS0 => ?_)
      refine wpAnyH_take (i := 0) (v := .slice (some ⟨bz, oz, none⟩) l c) rfl (by kernel_rfl) (by kernel_rfl) (by kernel_rfl) (fun _ _ _ h => h) (Or.inl ⟨by rfl, fun w' _ => by go_simp⟩) hS0 ?_
      simp only [Act.put, List.getElem_toArray, List.getElem_cons_zero, List.setIfInBounds_toArray, List.set_cons_zero, List.set_cons_succ]
      refine wpAnyH_take (i := 1) (v := .pointer (some ⟨bz, oz, none⟩)) rfl (by kernel_rfl) (by kernel_rfl) (by kernel_rfl) (fun _ _ _ h => h) (Or.inl ⟨by rfl, fun w' _ => by go_simp⟩) hS0 ?_
      simp only [Act.put, List.getElem_toArray, List.getElem_cons_zero, List.getElem_cons_succ, List.setIfInBounds_toArray, List.set_cons_zero, List.set_cons_succ]
      refine wpAnyH_take (i := 2) (v := .agg (ab t 32).toArray) rfl (by kernel_rfl) (by kernel_rfl) (by kernel_rfl) (fun _ _ _ h => h) (yieldsIf_load_mid (by rfl) 24 _ rfl bz oz (by rfl) (ab t 32) _ (fun w' hS => range_keep HRt.out hS.1) Tryd.underlying24 rfl (ilH _)) hS0 ?_
      simp only [Act.put, List.getElem_toArray, List.getElem_cons_zero, List.getElem_cons_succ, List.setIfInBounds_toArray, List.set_cons_zero, List.set_cons_succ]
      refine wpAnyH_take (i := 3) (v := .slice (some ⟨bz, oz, none⟩) l c) rfl (by kernel_rfl) (by kernel_rfl) (by kernel_rfl) (fun _ _ _ h => h) (Or.inl ⟨by rfl, fun w' _ => by go_simp⟩) hS0 ?_
      simp only [Act.put, List.getElem_toArray, List.getElem_cons_zero, List.getElem_cons_succ, List.setIfInBounds_toArray, List.set_cons_zero, List.set_cons_succ]
      refine wpAnyH_take (i := 4) (v := .slice (some ⟨bz, yo, none⟩) l1 c1) rfl (by kernel_rfl) (by kernel_rfl) (by kernel_rfl) (fun _ _ _ h => h) (Or.inl ⟨by rfl, fun w' _ => by rcases hyo with ⟨h1, h2⟩ | ⟨h1, h2⟩ <;> (subst h2; go_simp <;> omega)⟩) hS0 ?_
      simp only [Act.put, List.getElem_toArray, List.getElem_cons_zero, List.getElem_cons_succ, List.setIfInBounds_toArray, List.set_cons_zero, List.set_cons_succ]
      refine wpAnyH_ready (rs := [5]) (by kernel_rfl) (by simp) (AllReadyH.cons rfl (fun Kt hK => ?_) AllReadyH.nil)
      refine wanted_pos rfl ?_
      refine HVd.out.wpPut 0 rfl (by rfl) (by rfl) rfl (fun W1 hv => ?_)
      have HVdp := hide hv
      refine hK.out _ _ (HVdp.out.sv (by simp)) (fun hS1 => ?_)
      clear hK Kt hv
      simp only [Act.put, List.getElem_toArray, List.getElem_cons_zero, List.getElem_cons_succ]
      refine wpAnyH_take (i := 6) (v := .slice (some ⟨bz, yo, none⟩) l1 c1) rfl (by kernel_rfl) (by kernel_rfl) (by kernel_rfl) (fun _ _ _ h => h) (Or.inl ⟨by rfl, fun w' _ => by go_simp⟩) hS1 ?_
      simp only [Act.put, List.getElem_toArray, List.getElem_cons_zero, List.getElem_cons_succ, List.setIfInBounds_toArray, List.set_cons_zero, List.set_cons_succ]
      refine wpAnyH_done (by kernel_rfl) ?_ _
      refine NoPanic.normal ?_
      have HV3 : Hid (Vs w W1 [(p, t), (b0 + 1, g), (b0, f)]) := HVdp
      clear HVd HV2
      clear hyo hlb hlI hlI1 hlc hlc0 hl63 HRt
      go_upto_region 12 with fail
      have HVd := hide HV3.out.drew
      apply meet8 (A := Option Addr) (B := Nat) (C := Nat → Nat) (D := Nat → Nat) (E := Bool) (F := Nat) (G := Nat) (H := World)
      · intro hcut
        refine wp_region_noPanic ?_
        refine wp_region_held_drew (S := Sv w [(p, t)]) (by kernel_rfl) (HVd.out.sv (by simp)) (fun hS0 => ?_)
        refine wpAnyH_take (i := 0) (v := .agg (ab t 32).toArray) rfl (by kernel_rfl) (by kernel_rfl) (by kernel_rfl) (fun _ _ _ h => h) (yieldsIf_load_mid (by rfl) 24 _ rfl p 0 (by rfl) (ab t 32) _ (fun w' hS => hS.rg 0 rfl) Tryd.underlying24 rfl (ilH _)) hS0 ?_
        simp only [Act.put, List.getElem_toArray, List.getElem_cons_zero, List.setIfInBounds_toArray, List.set_cons_zero, List.set_cons_succ]
        refine wpAnyH_take (i := 1) (v := .int .i64 (a : Int)) rfl (by kernel_rfl) (by kernel_rfl) (by kernel_rfl) (fun _ _ _ h => h) (Or.inl ⟨by rfl, fun w' _ => by go_simp⟩) hS0 ?_
        simp only [Act.put, List.getElem_toArray, List.getElem_cons_zero, List.getElem_cons_succ, List.setIfInBounds_toArray, List.set_cons_zero, List.set_cons_succ]
        refine wpAnyH_take (i := 2) (v := .int .i64 (z : Int)) rfl (by kernel_rfl) (by kernel_rfl) (by kernel_rfl) (fun _ _ _ h => h) (Or.inl ⟨by rfl, fun w' _ => by go_simp⟩) hS0 ?_
        simp only [Act.put, List.getElem_toArray, List.getElem_cons_zero, List.getElem_cons_succ, List.setIfInBounds_toArray, List.set_cons_zero, List.set_cons_succ]
        refine wpAnyH_take (i := 4) (v := .slice (some ⟨bz, yo, none⟩) l1 c1) rfl (by kernel_rfl) (by kernel_rfl) (by kernel_rfl) (fun _ _ _ h => h) (Or.inl ⟨by rfl, fun w' _ => by go_simp⟩) hS0 ?_
        simp only [Act.put, List.getElem_toArray, List.getElem_cons_zero, List.getElem_cons_succ, List.setIfInBounds_toArray, List.set_cons_zero, List.set_cons_succ]
        refine wpAnyH_ready (rs := [3, 10, 11]) (by kernel_rfl) (by simp) (AllReadyH.cons rfl (fun Kt hK => ?_) (AllReadyH.cons rfl (fun Kt hK => ?_) (AllReadyH.cons rfl (fun Kt hK => ?_) AllReadyH.nil)))
        · refine wanted_pos rfl ?_
          refine wp_call (R := fun r w' => ∃ xs cs, r = .slice xs S.length cs ∧ (SdL w' xs S ∧ S.length ≤ cs) ∧ Vs w w' [(p, t), (b0 + 1, g), (b0, f)]) (vs := #[.int .i64 (a : Int), .int .i64 (z : Int)]) rfl (by simp only [List.map_toArray, List.map_cons, List.map_nil]; rfl) (by go_simp) (Calls.mono (HFe.out _) (fun e w' hE => by
            obtain ⟨xs, cs, he, h1, h2, _, hb⟩ := hE
            exact ⟨_, he, xs, cs, rfl, ⟨h1, h2⟩, HVd.out.keep hb⟩)) (fun r W1 hr => ?_)
          obtain ⟨xs, cs, hr, hs, hv⟩ := hr
          subst hr
          have HS0 := hide hs.1
          have HCs := hide hs.2
          have HVdf := hide hv
          refine hK.out _ _ (HVdf.out.sv (by simp)) (fun hS1 => ?_)
          clear hK Kt hs hv
          simp only [Act.put, List.getElem_toArray, List.getElem_cons_zero, List.getElem_cons_succ, List.setIfInBounds_toArray, List.set_cons_zero, List.set_cons_succ]
          refine wpAnyH_ready (rs := [5, 10, 11]) (by kernel_rfl) (by simp) (AllReadyH.cons rfl (fun Kt hK => ?_) (AllReadyH.cons rfl (fun Kt hK => ?_) (AllReadyH.cons rfl (fun Kt hK => ?_) AllReadyH.nil)))
          · refine wanted_pos rfl ?_
            refine wp_call (R := fun r w' => ∃ f1 g1 t1, r = .tuple #[.agg (ab f1 32).toArray, .agg (ab g1 32).toArray, .bool t1] ∧ TwA O f1 g1 t1 ∧ Vs w w' [(p, t), (b0 + 1, g), (b0, f)]) (vs := #[.agg (ab t 32).toArray, .slice xs S.length cs, .slice (some ⟨bz, yo, none⟩) l1 c1]) rfl (by simp only [List.map_toArray, List.map_cons, List.map_nil]; rfl) (by go_simp) (Calls.mono (HRi.out _ xs cs HVdf.out.k HS0.out HCs.out) (fun e w' hE => by
              obtain ⟨f1, g1, t1, he, ha, hb⟩ := hE
              exact ⟨_, he, f1, g1, t1, rfl, ha, HVdf.out.keep hb⟩)) (fun r W2 hr => ?_)
            obtain ⟨f1, g1, t1, hr, ha, hv⟩ := hr
            subst hr
            have HA := hide ha
            have HVdfc := hide hv
            refine hK.out _ _ (HVdfc.out.sv (by simp)) (fun hS2 => ?_)
            clear hK Kt ha hv
            simp only [Act.put, List.getElem_toArray, List.getElem_cons_zero, List.getElem_cons_succ, List.setIfInBounds_toArray, List.set_cons_zero, List.set_cons_succ]
            refine wpAnyH_take (i := 6) (v := .tuple #[.agg (ab f1 32).toArray, .agg (ab g1 32).toArray, .bool t1]) rfl (by kernel_rfl) (by kernel_rfl) (by kernel_rfl) (fun _ _ _ h => h) (Or.inl ⟨by rfl, fun w' _ => by go_simp⟩) hS2 ?_
            simp only [Act.put, List.getElem_toArray, List.getElem_cons_zero, List.getElem_cons_succ, List.setIfInBounds_toArray, List.set_cons_zero, List.set_cons_succ]
            refine wpAnyH_take (i := 7) (v := .agg (ab f1 32).toArray) rfl (by kernel_rfl) (by kernel_rfl) (by kernel_rfl) (fun _ _ _ h => h) (Or.inl ⟨by rfl, fun w' _ => by go_simp⟩) hS2 ?_
            simp only [Act.put, List.getElem_toArray, List.getElem_cons_zero, List.getElem_cons_succ, List.setIfInBounds_toArray, List.set_cons_zero, List.set_cons_succ]
            refine wpAnyH_take (i := 8) (v := .agg (ab g1 32).toArray) rfl (by kernel_rfl) (by kernel_rfl) (by kernel_rfl) (fun _ _ _ h => h) (Or.inl ⟨by rfl, fun w' _ => by go_simp⟩) hS2 ?_
            simp only [Act.put, List.getElem_toArray, List.getElem_cons_zero, List.getElem_cons_succ, List.setIfInBounds_toArray, List.set_cons_zero, List.set_cons_succ]
            refine wpAnyH_take (i := 9) (v := .bool t1) rfl (by kernel_rfl) (by kernel_rfl) (by kernel_rfl) (fun _ _ _ h => h) (Or.inl ⟨by rfl, fun w' _ => by go_simp⟩) hS2 ?_
            simp only [Act.put, List.getElem_toArray, List.getElem_cons_zero, List.getElem_cons_succ, List.setIfInBounds_toArray, List.set_cons_zero, List.set_cons_succ]
            refine wpAnyH_ready (rs := [10, 11]) (by kernel_rfl) (by simp) (AllReadyH.cons rfl (fun Kt hK => ?_) (AllReadyH.cons rfl (fun Kt hK => ?_) AllReadyH.nil))
            · refine wanted_pos rfl ?_
              refine HVdfc.out.wpNew rfl (fun q1 W3 hv hb => ?_)
              have HVdfcn := hide hv
              refine hK.out _ _ (HVdfcn.out.sv (by simp)) (fun hS3 => ?_)
              clear hK Kt hv hb
              simp only [Act.put, List.getElem_toArray, List.getElem_cons_zero, List.getElem_cons_succ, List.setIfInBounds_toArray, List.set_cons_zero, List.set_cons_succ]
              refine wpAnyH_ready (rs := [11]) (by kernel_rfl) (by simp) (AllReadyH.cons rfl (fun Kt hK => ?_) AllReadyH.nil)
              refine wanted_pos rfl ?_
              refine HVdfcn.out.wpNew rfl (fun q2 W4 hv hb => ?_)
              have HVdfcnn := hide hv
              refine hK.out _ _ (HVdfcnn.out.sv (by simp)) (fun hS4 => ?_)
              clear hK Kt hv hb
              simp only [Act.put, List.getElem_toArray, List.getElem_cons_zero, List.getElem_cons_succ, List.setIfInBounds_toArray, List.set_cons_zero, List.set_cons_succ]
              refine wpAnyH_ready (rs := [12]) (by kernel_rfl) (by simp) (AllReadyH.cons rfl (fun Kt hK => ?_) AllReadyH.nil)
              refine wanted_pos rfl ?_
              refine HVdfcnn.out.wpPut 1 rfl (by rfl) (by rfl) rfl (fun W5 hv => ?_)
              have HVdfcnnp := hide hv
              refine hK.out _ _ (HVdfcnnp.out.sv (by simp)) (fun hS5 => ?_)
              clear hK Kt hv
              simp only [Act.put, List.getElem_toArray, List.getElem_cons_zero, List.getElem_cons_succ]
              refine wpAnyH_ready (rs := [13]) (by kernel_rfl) (by simp) (AllReadyH.cons rfl (fun Kt hK => ?_) AllReadyH.nil)
              refine wanted_pos rfl ?_
              refine HVdfcnnp.out.wpPut 0 rfl (by rfl) (by rfl) rfl (fun W6 hv => ?_)
              have HVdfcnnpp := hide hv
              refine hK.out _ _ (HVdfcnnpp.out.sv (by simp)) (fun hS6 => ?_)
              clear hK Kt hv
              simp only [Act.put, List.getElem_toArray, List.getElem_cons_zero, List.getElem_cons_succ]
              refine wpAnyH_take (i := 14) (v := .bool t1) rfl (by kernel_rfl) (by kernel_rfl) (by kernel_rfl) (fun _ _ _ h => h) (Or.inl ⟨by rfl, fun w' _ => by go_simp⟩) hS6 ?_
              simp only [Act.put, List.getElem_toArray, List.getElem_cons_zero, List.getElem_cons_succ, List.setIfInBounds_toArray, List.set_cons_zero, List.set_cons_succ]
              refine wpAnyH_done (by kernel_rfl) ?_ _
              refine NoPanic.normal ?_
              have HVe : Hid (Vs w _ [(q2, g1), (q1, f1), (p, t), (b0 + 1, g), (b0, f)]) := HVdfcnnpp
              revert HA HVe
              exact hcut xs cs f1 g1 t1 q1 q2 W6
            · refine wanted_pos rfl ?_
              refine HVdfc.out.wpNew rfl (fun q2 W7 hv hb => ?_)
              have HVdfcn := hide hv
              refine hK.out _ _ (HVdfcn.out.sv (by simp)) (fun hS7 => ?_)
              clear hK Kt hv hb
              simp only [Act.put, List.getElem_toArray, List.getElem_cons_zero, List.getElem_cons_succ, List.setIfInBounds_toArray, List.set_cons_zero, List.set_cons_succ]
              refine wpAnyH_ready (rs := [10]) (by kernel_rfl) (by simp) (AllReadyH.cons rfl (fun Kt hK => ?_) AllReadyH.nil)
              refine wanted_pos rfl ?_
              refine HVdfcn.out.wpNew rfl (fun q1 W8 hv hb => ?_)
              have HVdfcnn := hide hv
              refine hK.out _ _ (HVdfcnn.out.sv (by simp)) (fun hS8 => ?_)
              clear hK Kt hv hb
              simp only [Act.put, List.getElem_toArray, List.getElem_cons_zero, List.getElem_cons_succ, List.setIfInBounds_toArray, List.set_cons_zero, List.set_cons_succ]
              refine wpAnyH_ready (rs := [12]) (by kernel_rfl) (by simp) (AllReadyH.cons rfl (fun Kt hK => ?_) AllReadyH.nil)
              refine wanted_pos rfl ?_
              refine HVdfcnn.out.wpPut 0 rfl (by rfl) (by rfl) rfl (fun W9 hv => ?_)
              have HVdfcnnp := hide hv
              refine hK.out _ _ (HVdfcnnp.out.sv (by simp)) (fun hS9 => ?_)
              clear hK Kt hv
              simp only [Act.put, List.getElem_toArray, List.getElem_cons_zero, List.getElem_cons_succ]
              refine wpAnyH_ready (rs := [13]) (by kernel_rfl) (by simp) (AllReadyH.cons rfl (fun Kt hK => ?_) AllReadyH.nil)
              refine wanted_pos rfl ?_
              refine HVdfcnnp.out.wpPut 1 rfl (by rfl) (by rfl) rfl (fun W10 hv => ?_)
              have HVdfcnnpp := hide hv
              refine hK.out _ _ (HVdfcnnpp.out.sv (by simp)) (fun hS10 => ?_)
              clear hK Kt hv
              simp only [Act.put, List.getElem_toArray, List.getElem_cons_zero, List.getElem_cons_succ]
              refine wpAnyH_take (i := 14) (v := .bool t1) rfl (by kernel_rfl) (by kernel_rfl) (by kernel_rfl) (fun _ _ _ h => h) (Or.inl ⟨by rfl, fun w' _ => by go_simp⟩) hS10 ?_
              simp only [Act.put, List.getElem_toArray, List.getElem_cons_zero, List.getElem_cons_succ, List.setIfInBounds_toArray, List.set_cons_zero, List.set_cons_succ]
              refine wpAnyH_done (by kernel_rfl) ?_ _
              refine NoPanic.normal ?_
              have HVdfcnnpps := hide (HVdfcnnpp.out.perm (List.Perm.swap (q2, g1) (q1, f1) _))
              have HVe : Hid (Vs w _ [(q2, g1), (q1, f1), (p, t), (b0 + 1, g), (b0, f)]) := HVdfcnnpps
              revert HA HVe
              exact hcut xs cs f1 g1 t1 q1 q2 W10
          · refine wanted_pos rfl ?_
            refine HVdf.out.wpNew rfl (fun q1 W11 hv hb => ?_)
            have HVdfn := hide hv
            have HS0n := hide (HS0.out.keep hb)
            refine hK.out _ _ (HVdfn.out.sv (by simp)) (fun hS11 => ?_)
            clear hK Kt hv hb
            simp only [Act.put, List.getElem_toArray, List.getElem_cons_zero, List.getElem_cons_succ, List.setIfInBounds_toArray, List.set_cons_zero, List.set_cons_succ]
            refine wpAnyH_ready (rs := [5, 11]) (by kernel_rfl) (by simp) (AllReadyH.cons rfl (fun Kt hK => ?_) (AllReadyH.cons rfl (fun Kt hK => ?_) AllReadyH.nil))
            · refine wanted_pos rfl ?_
              refine wp_call (R := fun r w' => ∃ f1 g1 t1, r = .tuple #[.agg (ab f1 32).toArray, .agg (ab g1 32).toArray, .bool t1] ∧ TwA O f1 g1 t1 ∧ Vs w w' [(q1, (fun _ => 0)), (p, t), (b0 + 1, g), (b0, f)]) (vs := #[.agg (ab t 32).toArray, .slice xs S.length cs, .slice (some ⟨bz, yo, none⟩) l1 c1]) rfl (by simp only [List.map_toArray, List.map_cons, List.map_nil]; rfl) (by go_simp) (Calls.mono (HRi.out _ xs cs HVdfn.out.k HS0n.out HCs.out) (fun e w' hE => by
                obtain ⟨f1, g1, t1, he, ha, hb⟩ := hE
                exact ⟨_, he, f1, g1, t1, rfl, ha, HVdfn.out.keep hb⟩)) (fun r W12 hr => ?_)
              obtain ⟨f1, g1, t1, hr, ha, hv⟩ := hr
              subst hr
              have HA := hide ha
              have HVdfnc := hide hv
              refine hK.out _ _ (HVdfnc.out.sv (by simp)) (fun hS12 => ?_)
              clear hK Kt ha hv
              simp only [Act.put, List.getElem_toArray, List.getElem_cons_zero, List.getElem_cons_succ, List.setIfInBounds_toArray, List.set_cons_zero, List.set_cons_succ]
              refine wpAnyH_take (i := 6) (v := .tuple #[.agg (ab f1 32).toArray, .agg (ab g1 32).toArray, .bool t1]) rfl (by kernel_rfl) (by kernel_rfl) (by kernel_rfl) (fun _ _ _ h => h) (Or.inl ⟨by rfl, fun w' _ => by go_simp⟩) hS12 ?_
              simp only [Act.put, List.getElem_toArray, List.getElem_cons_zero, List.getElem_cons_succ, List.setIfInBounds_toArray, List.set_cons_zero, List.set_cons_succ]
              refine wpAnyH_take (i := 7) (v := .agg (ab f1 32).toArray) rfl (by kernel_rfl) (by kernel_rfl) (by kernel_rfl) (fun _ _ _ h => h) (Or.inl ⟨by rfl, fun w' _ => by go_simp⟩) hS12 ?_
              simp only [Act.put, List.getElem_toArray, List.getElem_cons_zero, List.getElem_cons_succ, List.setIfInBounds_toArray, List.set_cons_zero, List.set_cons_succ]
              refine wpAnyH_take (i := 8) (v := .agg (ab g1 32).toArray) rfl (by kernel_rfl) (by kernel_rfl) (by kernel_rfl) (fun _ _ _ h => h) (Or.inl ⟨by rfl, fun w' _ => by go_simp⟩) hS12 ?_
              simp only [Act.put, List.getElem_toArray, List.getElem_cons_zero, List.getElem_cons_succ, List.setIfInBounds_toArray, List.set_cons_zero, List.set_cons_succ]
              refine wpAnyH_take (i := 9) (v := .bool t1) rfl (by kernel_rfl) (by kernel_rfl) (by kernel_rfl) (fun _ _ _ h => h) (Or.inl ⟨by rfl, fun w' _ => by go_simp⟩) hS12 ?_
              simp only [Act.put, List.getElem_toArray, List.getElem_cons_zero, List.getElem_cons_succ, List.setIfInBounds_toArray, List.set_cons_zero, List.set_cons_succ]
              refine wpAnyH_ready (rs := [11]) (by kernel_rfl) (by simp) (AllReadyH.cons rfl (fun Kt hK => ?_) AllReadyH.nil)
              refine wanted_pos rfl ?_
              refine HVdfnc.out.wpNew rfl (fun q2 W13 hv hb => ?_)
              have HVdfncn := hide hv
              refine hK.out _ _ (HVdfncn.out.sv (by simp)) (fun hS13 => ?_)
              clear hK Kt hv hb
              simp only [Act.put, List.getElem_toArray, List.getElem_cons_zero, List.getElem_cons_succ, List.setIfInBounds_toArray, List.set_cons_zero, List.set_cons_succ]
              refine wpAnyH_ready (rs := [12]) (by kernel_rfl) (by simp) (AllReadyH.cons rfl (fun Kt hK => ?_) AllReadyH.nil)
              refine wanted_pos rfl ?_
              refine HVdfncn.out.wpPut 1 rfl (by rfl) (by rfl) rfl (fun W14 hv => ?_)
              have HVdfncnp := hide hv
              refine hK.out _ _ (HVdfncnp.out.sv (by simp)) (fun hS14 => ?_)
              clear hK Kt hv
              simp only [Act.put, List.getElem_toArray, List.getElem_cons_zero, List.getElem_cons_succ]
              refine wpAnyH_ready (rs := [13]) (by kernel_rfl) (by simp) (AllReadyH.cons rfl (fun Kt hK => ?_) AllReadyH.nil)
              refine wanted_pos rfl ?_
              refine HVdfncnp.out.wpPut 0 rfl (by rfl) (by rfl) rfl (fun W15 hv => ?_)
              have HVdfncnpp := hide hv
              refine hK.out _ _ (HVdfncnpp.out.sv (by simp)) (fun hS15 => ?_)
              clear hK Kt hv
              simp only [Act.put, List.getElem_toArray, List.getElem_cons_zero, List.getElem_cons_succ]
              refine wpAnyH_take (i := 14) (v := .bool t1) rfl (by kernel_rfl) (by kernel_rfl) (by kernel_rfl) (fun _ _ _ h => h) (Or.inl ⟨by rfl, fun w' _ => by go_simp⟩) hS15 ?_
              simp only [Act.put, List.getElem_toArray, List.getElem_cons_zero, List.getElem_cons_succ, List.setIfInBounds_toArray, List.set_cons_zero, List.set_cons_succ]
              refine wpAnyH_done (by kernel_rfl) ?_ _
              refine NoPanic.normal ?_
              have HVe : Hid (Vs w _ [(q2, g1), (q1, f1), (p, t), (b0 + 1, g), (b0, f)]) := HVdfncnpp
              revert HA HVe
              exact hcut xs cs f1 g1 t1 q1 q2 W15
            · refine wanted_pos rfl ?_
              refine HVdfn.out.wpNew rfl (fun q2 W16 hv hb => ?_)
              have HVdfnn := hide hv
              have HS0nn := hide (HS0n.out.keep hb)
              refine hK.out _ _ (HVdfnn.out.sv (by simp)) (fun hS16 => ?_)
              clear hK Kt hv hb
              simp only [Act.put, List.getElem_toArray, List.getElem_cons_zero, List.getElem_cons_succ, List.setIfInBounds_toArray, List.set_cons_zero, List.set_cons_succ]
              refine wpAnyH_ready (rs := [5]) (by kernel_rfl) (by simp) (AllReadyH.cons rfl (fun Kt hK => ?_) AllReadyH.nil)
              refine wanted_pos rfl ?_
              refine wp_call (R := fun r w' => ∃ f1 g1 t1, r = .tuple #[.agg (ab f1 32).toArray, .agg (ab g1 32).toArray, .bool t1] ∧ TwA O f1 g1 t1 ∧ Vs w w' [(q2, (fun _ => 0)), (q1, (fun _ => 0)), (p, t), (b0 + 1, g), (b0, f)]) (vs := #[.agg (ab t 32).toArray, .slice xs S.length cs, .slice (some ⟨bz, yo, none⟩) l1 c1]) rfl (by simp only [List.map_toArray, List.map_cons, List.map_nil]; rfl) (by go_simp) (Calls.mono (HRi.out _ xs cs HVdfnn.out.k HS0nn.out HCs.out) (fun e w' hE => by
                obtain ⟨f1, g1, t1, he, ha, hb⟩ := hE
                exact ⟨_, he, f1, g1, t1, rfl, ha, HVdfnn.out.keep hb⟩)) (fun r W17 hr => ?_)
              obtain ⟨f1, g1, t1, hr, ha, hv⟩ := hr
              subst hr
              have HA := hide ha
              have HVdfnnc := hide hv
              refine hK.out _ _ (HVdfnnc.out.sv (by simp)) (fun hS17 => ?_)
              clear hK Kt ha hv
              simp only [Act.put, List.getElem_toArray, List.getElem_cons_zero, List.getElem_cons_succ, List.setIfInBounds_toArray, List.set_cons_zero, List.set_cons_succ]
              refine wpAnyH_take (i := 6) (v := .tuple #[.agg (ab f1 32).toArray, .agg (ab g1 32).toArray, .bool t1]) rfl (by kernel_rfl) (by kernel_rfl) (by kernel_rfl) (fun _ _ _ h => h) (Or.inl ⟨by rfl, fun w' _ => by go_simp⟩) hS17 ?_
              simp only [Act.put, List.getElem_toArray, List.getElem_cons_zero, List.getElem_cons_succ, List.setIfInBounds_toArray, List.set_cons_zero, List.set_cons_succ]
              refine wpAnyH_take (i := 7) (v := .agg (ab f1 32).toArray) rfl (by kernel_rfl) (by kernel_rfl) (by kernel_rfl) (fun _ _ _ h => h) (Or.inl ⟨by rfl, fun w' _ => by go_simp⟩) hS17 ?_
              simp only [Act.put, List.getElem_toArray, List.getElem_cons_zero, List.getElem_cons_succ, List.setIfInBounds_toArray, List.set_cons_zero, List.set_cons_succ]
              refine wpAnyH_take (i := 8) (v := .agg (ab g1 32).toArray) rfl (by kernel_rfl) (by kernel_rfl) (by kernel_rfl) (fun _ _ _ h => h) (Or.inl ⟨by rfl, fun w' _ => by go_simp⟩) hS17 ?_
              simp only [Act.put, List.getElem_toArray, List.getElem_cons_zero, List.getElem_cons_succ, List.setIfInBounds_toArray, List.set_cons_zero, List.set_cons_succ]
              refine wpAnyH_take (i := 9) (v := .bool t1) rfl (by kernel_rfl) (by kernel_rfl) (by kernel_rfl) (fun _ _ _ h => h) (Or.inl ⟨by rfl, fun w' _ => by go_simp⟩) hS17 ?_
              simp only [Act.put, List.getElem_toArray, List.getElem_cons_zero, List.getElem_cons_succ, List.setIfInBounds_toArray, List.set_cons_zero, List.set_cons_succ]
              refine wpAnyH_ready (rs := [12]) (by kernel_rfl) (by simp) (AllReadyH.cons rfl (fun Kt hK => ?_) AllReadyH.nil)
              refine wanted_pos rfl ?_
              refine HVdfnnc.out.wpPut 1 rfl (by rfl) (by rfl) rfl (fun W18 hv => ?_)
              have HVdfnncp := hide hv
              refine hK.out _ _ (HVdfnncp.out.sv (by simp)) (fun hS18 => ?_)
              clear hK Kt hv
              simp only [Act.put, List.getElem_toArray, List.getElem_cons_zero, List.getElem_cons_succ]
              refine wpAnyH_ready (rs := [13]) (by kernel_rfl) (by simp) (AllReadyH.cons rfl (fun Kt hK => ?_) AllReadyH.nil)
              refine wanted_pos rfl ?_
              refine HVdfnncp.out.wpPut 0 rfl (by rfl) (by rfl) rfl (fun W19 hv => ?_)
              have HVdfnncpp := hide hv
              refine hK.out _ _ (HVdfnncpp.out.sv (by simp)) (fun hS19 => ?_)
              clear hK Kt hv
              simp only [Act.put, List.getElem_toArray, List.getElem_cons_zero, List.getElem_cons_succ]
              refine wpAnyH_take (i := 14) (v := .bool t1) rfl (by kernel_rfl) (by kernel_rfl) (by kernel_rfl) (fun _ _ _ h => h) (Or.inl ⟨by rfl, fun w' _ => by go_simp⟩) hS19 ?_
              simp only [Act.put, List.getElem_toArray, List.getElem_cons_zero, List.getElem_cons_succ, List.setIfInBounds_toArray, List.set_cons_zero, List.set_cons_succ]
              refine wpAnyH_done (by kernel_rfl) ?_ _
              refine NoPanic.normal ?_
              have HVe : Hid (Vs w _ [(q2, g1), (q1, f1), (p, t), (b0 + 1, g), (b0, f)]) := HVdfnncpp
              revert HA HVe
              exact hcut xs cs f1 g1 t1 q1 q2 W19
          · refine wanted_pos rfl ?_
            refine HVdf.out.wpNew rfl (fun q2 W20 hv hb => ?_)
            have HVdfn := hide hv
            have HS0n := hide (HS0.out.keep hb)
            refine hK.out _ _ (HVdfn.out.sv (by simp)) (fun hS20 => ?_)
            clear hK Kt hv hb
            simp only [Act.put, List.getElem_toArray, List.getElem_cons_zero, List.getElem_cons_succ, List.setIfInBounds_toArray, List.set_cons_zero, List.set_cons_succ]
            refine wpAnyH_ready (rs := [5, 10]) (by kernel_rfl) (by simp) (AllReadyH.cons rfl (fun Kt hK => ?_) (AllReadyH.cons rfl (fun Kt hK => ?_) AllReadyH.nil))
            · refine wanted_pos rfl ?_
              refine wp_call (R := fun r w' => ∃ f1 g1 t1, r = .tuple #[.agg (ab f1 32).toArray, .agg (ab g1 32).toArray, .bool t1] ∧ TwA O f1 g1 t1 ∧ Vs w w' [(q2, (fun _ => 0)), (p, t), (b0 + 1, g), (b0, f)]) (vs := #[.agg (ab t 32).toArray, .slice xs S.length cs, .slice (some ⟨bz, yo, none⟩) l1 c1]) rfl (by simp only [List.map_toArray, List.map_cons, List.map_nil]; rfl) (by go_simp) (Calls.mono (HRi.out _ xs cs HVdfn.out.k HS0n.out HCs.out) (fun e w' hE => by
                obtain ⟨f1, g1, t1, he, ha, hb⟩ := hE
                exact ⟨_, he, f1, g1, t1, rfl, ha, HVdfn.out.keep hb⟩)) (fun r W21 hr => ?_)
              obtain ⟨f1, g1, t1, hr, ha, hv⟩ := hr
              subst hr
              have HA := hide ha
              have HVdfnc := hide hv
              refine hK.out _ _ (HVdfnc.out.sv (by simp)) (fun hS21 => ?_)
              clear hK Kt ha hv
              simp only [Act.put, List.getElem_toArray, List.getElem_cons_zero, List.getElem_cons_succ, List.setIfInBounds_toArray, List.set_cons_zero, List.set_cons_succ]
              refine wpAnyH_take (i := 6) (v := .tuple #[.agg (ab f1 32).toArray, .agg (ab g1 32).toArray, .bool t1]) rfl (by kernel_rfl) (by kernel_rfl) (by kernel_rfl) (fun _ _ _ h => h) (Or.inl ⟨by rfl, fun w' _ => by go_simp⟩) hS21 ?_
              simp only [Act.put, List.getElem_toArray, List.getElem_cons_zero, List.getElem_cons_succ, List.setIfInBounds_toArray, List.set_cons_zero, List.set_cons_succ]
              refine wpAnyH_take (i := 7) (v := .agg (ab f1 32).toArray) rfl (by kernel_rfl) (by kernel_rfl) (by kernel_rfl) (fun _ _ _ h => h) (Or.inl ⟨by rfl, fun w' _ => by go_simp⟩) hS21 ?_
              simp only [Act.put, List.getElem_toArray, List.getElem_cons_zero, List.getElem_cons_succ, List.setIfInBounds_toArray, List.set_cons_zero, List.set_cons_succ]
              refine wpAnyH_take (i := 8) (v := .agg (ab g1 32).toArray) rfl (by kernel_rfl) (by kernel_rfl) (by kernel_rfl) (fun _ _ _ h => h) (Or.inl ⟨by rfl, fun w' _ => by go_simp⟩) hS21 ?_
              simp only [Act.put, List.getElem_toArray, List.getElem_cons_zero, List.getElem_cons_succ, List.setIfInBounds_toArray, List.set_cons_zero, List.set_cons_succ]
              refine wpAnyH_take (i := 9) (v := .bool t1) rfl (by kernel_rfl) (by kernel_rfl) (by kernel_rfl) (fun _ _ _ h => h) (Or.inl ⟨by rfl, fun w' _ => by go_simp⟩) hS21 ?_
              simp only [Act.put, List.getElem_toArray, List.getElem_cons_zero, List.getElem_cons_succ, List.setIfInBounds_toArray, List.set_cons_zero, List.set_cons_succ]
              refine wpAnyH_ready (rs := [10]) (by kernel_rfl) (by simp) (AllReadyH.cons rfl (fun Kt hK => ?_) AllReadyH.nil)
              refine wanted_pos rfl ?_
              refine HVdfnc.out.wpNew rfl (fun q1 W22 hv hb => ?_)
              have HVdfncn := hide hv
              refine hK.out _ _ (HVdfncn.out.sv (by simp)) (fun hS22 => ?_)
              clear hK Kt hv hb
              simp only [Act.put, List.getElem_toArray, List.getElem_cons_zero, List.getElem_cons_succ, List.setIfInBounds_toArray, List.set_cons_zero, List.set_cons_succ]
              refine wpAnyH_ready (rs := [12]) (by kernel_rfl) (by simp) (AllReadyH.cons rfl (fun Kt hK => ?_) AllReadyH.nil)
              refine wanted_pos rfl ?_
              refine HVdfncn.out.wpPut 0 rfl (by rfl) (by rfl) rfl (fun W23 hv => ?_)
              have HVdfncnp := hide hv
              refine hK.out _ _ (HVdfncnp.out.sv (by simp)) (fun hS23 => ?_)
              clear hK Kt hv
              simp only [Act.put, List.getElem_toArray, List.getElem_cons_zero, List.getElem_cons_succ]
              refine wpAnyH_ready (rs := [13]) (by kernel_rfl) (by simp) (AllReadyH.cons rfl (fun Kt hK => ?_) AllReadyH.nil)
              refine wanted_pos rfl ?_
              refine HVdfncnp.out.wpPut 1 rfl (by rfl) (by rfl) rfl (fun W24 hv => ?_)
              have HVdfncnpp := hide hv
              refine hK.out _ _ (HVdfncnpp.out.sv (by simp)) (fun hS24 => ?_)
              clear hK Kt hv
              simp only [Act.put, List.getElem_toArray, List.getElem_cons_zero, List.getElem_cons_succ]
              refine wpAnyH_take (i := 14) (v := .bool t1) rfl (by kernel_rfl) (by kernel_rfl) (by kernel_rfl) (fun _ _ _ h => h) (Or.inl ⟨by rfl, fun w' _ => by go_simp⟩) hS24 ?_
              simp only [Act.put, List.getElem_toArray, List.getElem_cons_zero, List.getElem_cons_succ, List.setIfInBounds_toArray, List.set_cons_zero, List.set_cons_succ]
              refine wpAnyH_done (by kernel_rfl) ?_ _
              refine NoPanic.normal ?_
              have HVdfncnpps := hide (HVdfncnpp.out.perm (List.Perm.swap (q2, g1) (q1, f1) _))
              have HVe : Hid (Vs w _ [(q2, g1), (q1, f1), (p, t), (b0 + 1, g), (b0, f)]) := HVdfncnpps
              revert HA HVe
              exact hcut xs cs f1 g1 t1 q1 q2 W24
            · refine wanted_pos rfl ?_
              refine HVdfn.out.wpNew rfl (fun q1 W25 hv hb => ?_)
              have HVdfnn := hide hv
              have HS0nn := hide (HS0n.out.keep hb)
              refine hK.out _ _ (HVdfnn.out.sv (by simp)) (fun hS25 => ?_)
              clear hK Kt hv hb
              simp only [Act.put, List.getElem_toArray, List.getElem_cons_zero, List.getElem_cons_succ, List.setIfInBounds_toArray, List.set_cons_zero, List.set_cons_succ]
              refine wpAnyH_ready (rs := [5]) (by kernel_rfl) (by simp) (AllReadyH.cons rfl (fun Kt hK => ?_) AllReadyH.nil)
              refine wanted_pos rfl ?_
              refine wp_call (R := fun r w' => ∃ f1 g1 t1, r = .tuple #[.agg (ab f1 32).toArray, .agg (ab g1 32).toArray, .bool t1] ∧ TwA O f1 g1 t1 ∧ Vs w w' [(q1, (fun _ => 0)), (q2, (fun _ => 0)), (p, t), (b0 + 1, g), (b0, f)]) (vs := #[.agg (ab t 32).toArray, .slice xs S.length cs, .slice (some ⟨bz, yo, none⟩) l1 c1]) rfl (by simp only [List.map_toArray, List.map_cons, List.map_nil]; rfl) (by go_simp) (Calls.mono (HRi.out _ xs cs HVdfnn.out.k HS0nn.out HCs.out) (fun e w' hE => by
                obtain ⟨f1, g1, t1, he, ha, hb⟩ := hE
                exact ⟨_, he, f1, g1, t1, rfl, ha, HVdfnn.out.keep hb⟩)) (fun r W26 hr => ?_)
              obtain ⟨f1, g1, t1, hr, ha, hv⟩ := hr
              subst hr
              have HA := hide ha
              have HVdfnnc := hide hv
              refine hK.out _ _ (HVdfnnc.out.sv (by simp)) (fun hS26 => ?_)
              clear hK Kt ha hv
              simp only [Act.put, List.getElem_toArray, List.getElem_cons_zero, List.getElem_cons_succ, List.setIfInBounds_toArray, List.set_cons_zero, List.set_cons_succ]
              refine wpAnyH_take (i := 6) (v := .tuple #[.agg (ab f1 32).toArray, .agg (ab g1 32).toArray, .bool t1]) rfl (by kernel_rfl) (by kernel_rfl) (by kernel_rfl) (fun _ _ _ h => h) (Or.inl ⟨by rfl, fun w' _ => by go_simp⟩) hS26 ?_
              simp only [Act.put, List.getElem_toArray, List.getElem_cons_zero, List.getElem_cons_succ, List.setIfInBounds_toArray, List.set_cons_zero, List.set_cons_succ]
              refine wpAnyH_take (i := 7) (v := .agg (ab f1 32).toArray) rfl (by kernel_rfl) (by kernel_rfl) (by kernel_rfl) (fun _ _ _ h => h) (Or.inl ⟨by rfl, fun w' _ => by go_simp⟩) hS26 ?_
              simp only [Act.put, List.getElem_toArray, List.getElem_cons_zero, List.getElem_cons_succ, List.setIfInBounds_toArray, List.set_cons_zero, List.set_cons_succ]
              refine wpAnyH_take (i := 8) (v := .agg (ab g1 32).toArray) rfl (by kernel_rfl) (by kernel_rfl) (by kernel_rfl) (fun _ _ _ h => h) (Or.inl ⟨by rfl, fun w' _ => by go_simp⟩) hS26 ?_
              simp only [Act.put, List.getElem_toArray, List.getElem_cons_zero, List.getElem_cons_succ, List.setIfInBounds_toArray, List.set_cons_zero, List.set_cons_succ]
              refine wpAnyH_take (i := 9) (v := .bool t1) rfl (by kernel_rfl) (by kernel_rfl) (by kernel_rfl) (fun _ _ _ h => h) (Or.inl ⟨by rfl, fun w' _ => by go_simp⟩) hS26 ?_
              simp only [Act.put, List.getElem_toArray, List.getElem_cons_zero, List.getElem_cons_succ, List.setIfInBounds_toArray, List.set_cons_zero, List.set_cons_succ]
              refine wpAnyH_ready (rs := [12]) (by kernel_rfl) (by simp) (AllReadyH.cons rfl (fun Kt hK => ?_) AllReadyH.nil)
              refine wanted_pos rfl ?_
              refine HVdfnnc.out.wpPut 0 rfl (by rfl) (by rfl) rfl (fun W27 hv => ?_)
              have HVdfnncp := hide hv
              refine hK.out _ _ (HVdfnncp.out.sv (by simp)) (fun hS27 => ?_)
              clear hK Kt hv
              simp only [Act.put, List.getElem_toArray, List.getElem_cons_zero, List.getElem_cons_succ]
              refine wpAnyH_ready (rs := [13]) (by kernel_rfl) (by simp) (AllReadyH.cons rfl (fun Kt hK => ?_) AllReadyH.nil)
              refine wanted_pos rfl ?_
              refine HVdfnncp.out.wpPut 1 rfl (by rfl) (by rfl) rfl (fun W28 hv => ?_)
              have HVdfnncpp := hide hv
              refine hK.out _ _ (HVdfnncpp.out.sv (by simp)) (fun hS28 => ?_)
              clear hK Kt hv
              simp only [Act.put, List.getElem_toArray, List.getElem_cons_zero, List.getElem_cons_succ]
              refine wpAnyH_take (i := 14) (v := .bool t1) rfl (by kernel_rfl) (by kernel_rfl) (by kernel_rfl) (fun _ _ _ h => h) (Or.inl ⟨by rfl, fun w' _ => by go_simp⟩) hS28 ?_
              simp only [Act.put, List.getElem_toArray, List.getElem_cons_zero, List.getElem_cons_succ, List.setIfInBounds_toArray, List.set_cons_zero, List.set_cons_succ]
              refine wpAnyH_done (by kernel_rfl) ?_ _
              refine NoPanic.normal ?_
              have HVdfnncpps := hide (HVdfnncpp.out.perm (List.Perm.swap (q2, g1) (q1, f1) _))
              have HVe : Hid (Vs w _ [(q2, g1), (q1, f1), (p, t), (b0 + 1, g), (b0, f)]) := HVdfnncpps
              revert HA HVe
              exact hcut xs cs f1 g1 t1 q1 q2 W28
        · refine wanted_pos rfl ?_
          refine HVd.out.wpNew rfl (fun q1 W29 hv hb => ?_)
          have HVdn := hide hv
          refine hK.out _ _ (HVdn.out.sv (by simp)) (fun hS29 => ?_)
          clear hK Kt hv hb
          simp only [Act.put, List.getElem_toArray, List.getElem_cons_zero, List.getElem_cons_succ, List.setIfInBounds_toArray, List.set_cons_zero, List.set_cons_succ]
          refine wpAnyH_ready (rs := [3, 11]) (by kernel_rfl) (by simp) (AllReadyH.cons rfl (fun Kt hK => ?_) (AllReadyH.cons rfl (fun Kt hK => ?_) AllReadyH.nil))
          · refine wanted_pos rfl ?_
            refine wp_call (R := fun r w' => ∃ xs cs, r = .slice xs S.length cs ∧ (SdL w' xs S ∧ S.length ≤ cs) ∧ Vs w w' [(q1, (fun _ => 0)), (p, t), (b0 + 1, g), (b0, f)]) (vs := #[.int .i64 (a : Int), .int .i64 (z : Int)]) rfl (by simp only [List.map_toArray, List.map_cons, List.map_nil]; rfl) (by go_simp) (Calls.mono (HFe.out _) (fun e w' hE => by
              obtain ⟨xs, cs, he, h1, h2, _, hb⟩ := hE
              exact ⟨_, he, xs, cs, rfl, ⟨h1, h2⟩, HVdn.out.keep hb⟩)) (fun r W30 hr => ?_)
            obtain ⟨xs, cs, hr, hs, hv⟩ := hr
            subst hr
            have HS0 := hide hs.1
            have HCs := hide hs.2
            have HVdnf := hide hv
            refine hK.out _ _ (HVdnf.out.sv (by simp)) (fun hS30 => ?_)
            clear hK Kt hs hv
            simp only [Act.put, List.getElem_toArray, List.getElem_cons_zero, List.getElem_cons_succ, List.setIfInBounds_toArray, List.set_cons_zero, List.set_cons_succ]
            refine wpAnyH_ready (rs := [5, 11]) (by kernel_rfl) (by simp) (AllReadyH.cons rfl (fun Kt hK => ?_) (AllReadyH.cons rfl (fun Kt hK => ?_) AllReadyH.nil))
            · refine wanted_pos rfl ?_
              refine wp_call (R := fun r w' => ∃ f1 g1 t1, r = .tuple #[.agg (ab f1 32).toArray, .agg (ab g1 32).toArray, .bool t1] ∧ TwA O f1 g1 t1 ∧ Vs w w' [(q1, (fun _ => 0)), (p, t), (b0 + 1, g), (b0, f)]) (vs := #[.agg (ab t 32).toArray, .slice xs S.length cs, .slice (some ⟨bz, yo, none⟩) l1 c1]) rfl (by simp only [List.map_toArray, List.map_cons, List.map_nil]; rfl) (by go_simp) (Calls.mono (HRi.out _ xs cs HVdnf.out.k HS0.out HCs.out) (fun e w' hE => by
                obtain ⟨f1, g1, t1, he, ha, hb⟩ := hE
                exact ⟨_, he, f1, g1, t1, rfl, ha, HVdnf.out.keep hb⟩)) (fun r W31 hr => ?_)
              obtain ⟨f1, g1, t1, hr, ha, hv⟩ := hr
              subst hr
              have HA := hide ha
              have HVdnfc := hide hv
              refine hK.out _ _ (HVdnfc.out.sv (by simp)) (fun hS31 => ?_)
              clear hK Kt ha hv
              simp only [Act.put, List.getElem_toArray, List.getElem_cons_zero, List.getElem_cons_succ, List.setIfInBounds_toArray, List.set_cons_zero, List.set_cons_succ]
              refine wpAnyH_take (i := 6) (v := .tuple #[.agg (ab f1 32).toArray, .agg (ab g1 32).toArray, .bool t1]) rfl (by kernel_rfl) (by kernel_rfl) (by kernel_rfl) (fun _ _ _ h => h) (Or.inl ⟨by rfl, fun w' _ => by go_simp⟩) hS31 ?_
              simp only [Act.put, List.getElem_toArray, List.getElem_cons_zero, List.getElem_cons_succ, List.setIfInBounds_toArray, List.set_cons_zero, List.set_cons_succ]
              refine wpAnyH_take (i := 7) (v := .agg (ab f1 32).toArray) rfl (by kernel_rfl) (by kernel_rfl) (by kernel_rfl) (fun _ _ _ h => h) (Or.inl ⟨by rfl, fun w' _ => by go_simp⟩) hS31 ?_
              simp only [Act.put, List.getElem_toArray, List.getElem_cons_zero, List.getElem_cons_succ, List.setIfInBounds_toArray, List.set_cons_zero, List.set_cons_succ]
              refine wpAnyH_take (i := 8) (v := .agg (ab g1 32).toArray) rfl (by kernel_rfl) (by kernel_rfl) (by kernel_rfl) (fun _ _ _ h => h) (Or.inl ⟨by rfl, fun w' _ => by go_simp⟩) hS31 ?_
              simp only [Act.put, List.getElem_toArray, List.getElem_cons_zero, List.getElem_cons_succ, List.setIfInBounds_toArray, List.set_cons_zero, List.set_cons_succ]
              refine wpAnyH_take (i := 9) (v := .bool t1) rfl (by kernel_rfl) (by kernel_rfl) (by kernel_rfl) (fun _ _ _ h => h) (Or.inl ⟨by rfl, fun w' _ => by go_simp⟩) hS31 ?_
              simp only [Act.put, List.getElem_toArray, List.getElem_cons_zero, List.getElem_cons_succ, List.setIfInBounds_toArray, List.set_cons_zero, List.set_cons_succ]
              refine wpAnyH_ready (rs := [11]) (by kernel_rfl) (by simp) (AllReadyH.cons rfl (fun Kt hK => ?_) AllReadyH.nil)
              refine wanted_pos rfl ?_
              refine HVdnfc.out.wpNew rfl (fun q2 W32 hv hb => ?_)
              have HVdnfcn := hide hv
              refine hK.out _ _ (HVdnfcn.out.sv (by simp)) (fun hS32 => ?_)
              clear hK Kt hv hb
              simp only [Act.put, List.getElem_toArray, List.getElem_cons_zero, List.getElem_cons_succ, List.setIfInBounds_toArray, List.set_cons_zero, List.set_cons_succ]
              refine wpAnyH_ready (rs := [12]) (by kernel_rfl) (by simp) (AllReadyH.cons rfl (fun Kt hK => ?_) AllReadyH.nil)
              refine wanted_pos rfl ?_
              refine HVdnfcn.out.wpPut 1 rfl (by rfl) (by rfl) rfl (fun W33 hv => ?_)
              have HVdnfcnp := hide hv
              refine hK.out _ _ (HVdnfcnp.out.sv (by simp)) (fun hS33 => ?_)
              clear hK Kt hv
              simp only [Act.put, List.getElem_toArray, List.getElem_cons_zero, List.getElem_cons_succ]
              refine wpAnyH_ready (rs := [13]) (by kernel_rfl) (by simp) (AllReadyH.cons rfl (fun Kt hK => ?_) AllReadyH.nil)
              refine wanted_pos rfl ?_
              refine HVdnfcnp.out.wpPut 0 rfl (by rfl) (by rfl) rfl (fun W34 hv => ?_)
              have HVdnfcnpp := hide hv
              refine hK.out _ _ (HVdnfcnpp.out.sv (by simp)) (fun hS34 => ?_)
              clear hK Kt hv
              simp only [Act.put, List.getElem_toArray, List.getElem_cons_zero, List.getElem_cons_succ]
              refine wpAnyH_take (i := 14) (v := .bool t1) rfl (by kernel_rfl) (by kernel_rfl) (by kernel_rfl) (fun _ _ _ h => h) (Or.inl ⟨by rfl, fun w' _ => by go_simp⟩) hS34 ?_
              simp only [Act.put, List.getElem_toArray, List.getElem_cons_zero, List.getElem_cons_succ, List.setIfInBounds_toArray, List.set_cons_zero, List.set_cons_succ]
              refine wpAnyH_done (by kernel_rfl) ?_ _
              refine NoPanic.normal ?_
              have HVe : Hid (Vs w _ [(q2, g1), (q1, f1), (p, t), (b0 + 1, g), (b0, f)]) := HVdnfcnpp
              revert HA HVe
              exact hcut xs cs f1 g1 t1 q1 q2 W34
            · refine wanted_pos rfl ?_
              refine HVdnf.out.wpNew rfl (fun q2 W35 hv hb => ?_)
              have HVdnfn := hide hv
              have HS0n := hide (HS0.out.keep hb)
              refine hK.out _ _ (HVdnfn.out.sv (by simp)) (fun hS35 => ?_)
              clear hK Kt hv hb
              simp only [Act.put, List.getElem_toArray, List.getElem_cons_zero, List.getElem_cons_succ, List.setIfInBounds_toArray, List.set_cons_zero, List.set_cons_succ]
              refine wpAnyH_ready (rs := [5]) (by kernel_rfl) (by simp) (AllReadyH.cons rfl (fun Kt hK => ?_) AllReadyH.nil)
              refine wanted_pos rfl ?_
              refine wp_call (R := fun r w' => ∃ f1 g1 t1, r = .tuple #[.agg (ab f1 32).toArray, .agg (ab g1 32).toArray, .bool t1] ∧ TwA O f1 g1 t1 ∧ Vs w w' [(q2, (fun _ => 0)), (q1, (fun _ => 0)), (p, t), (b0 + 1, g), (b0, f)]) (vs := #[.agg (ab t 32).toArray, .slice xs S.length cs, .slice (some ⟨bz, yo, none⟩) l1 c1]) rfl (by simp only [List.map_toArray, List.map_cons, List.map_nil]; rfl) (by go_simp) (Calls.mono (HRi.out _ xs cs HVdnfn.out.k HS0n.out HCs.out) (fun e w' hE => by
                obtain ⟨f1, g1, t1, he, ha, hb⟩ := hE
                exact ⟨_, he, f1, g1, t1, rfl, ha, HVdnfn.out.keep hb⟩)) (fun r W36 hr => ?_)
              obtain ⟨f1, g1, t1, hr, ha, hv⟩ := hr
              subst hr
              have HA := hide ha
              have HVdnfnc := hide hv
              refine hK.out _ _ (HVdnfnc.out.sv (by simp)) (fun hS36 => ?_)
              clear hK Kt ha hv
              simp only [Act.put, List.getElem_toArray, List.getElem_cons_zero, List.getElem_cons_succ, List.setIfInBounds_toArray, List.set_cons_zero, List.set_cons_succ]
              refine wpAnyH_take (i := 6) (v := .tuple #[.agg (ab f1 32).toArray, .agg (ab g1 32).toArray, .bool t1]) rfl (by kernel_rfl) (by kernel_rfl) (by kernel_rfl) (fun _ _ _ h => h) (Or.inl ⟨by rfl, fun w' _ => by go_simp⟩) hS36 ?_
              simp only [Act.put, List.getElem_toArray, List.getElem_cons_zero, List.getElem_cons_succ, List.setIfInBounds_toArray, List.set_cons_zero, List.set_cons_succ]
              refine wpAnyH_take (i := 7) (v := .agg (ab f1 32).toArray) rfl (by kernel_rfl) (by kernel_rfl) (by kernel_rfl) (fun _ _ _ h => h) (Or.inl ⟨by rfl, fun w' _ => by go_simp⟩) hS36 ?_
              simp only [Act.put, List.getElem_toArray, List.getElem_cons_zero, List.getElem_cons_succ, List.setIfInBounds_toArray, List.set_cons_zero, List.set_cons_succ]
              refine wpAnyH_take (i := 8) (v := .agg (ab g1 32).toArray) rfl (by kernel_rfl) (by kernel_rfl) (by kernel_rfl) (fun _ _ _ h => h) (Or.inl ⟨by rfl, fun w' _ => by go_simp⟩) hS36 ?_
              simp only [Act.put, List.getElem_toArray, List.getElem_cons_zero, List.getElem_cons_succ, List.setIfInBounds_toArray, List.set_cons_zero, List.set_cons_succ]
              refine wpAnyH_take (i := 9) (v := .bool t1) rfl (by kernel_rfl) (by kernel_rfl) (by kernel_rfl) (fun _ _ _ h => h) (Or.inl ⟨by rfl, fun w' _ => by go_simp⟩) hS36 ?_
              simp only [Act.put, List.getElem_toArray, List.getElem_cons_zero, List.getElem_cons_succ, List.setIfInBounds_toArray, List.set_cons_zero, List.set_cons_succ]
              refine wpAnyH_ready (rs := [12]) (by kernel_rfl) (by simp) (AllReadyH.cons rfl (fun Kt hK => ?_) AllReadyH.nil)
              refine wanted_pos rfl ?_
              refine HVdnfnc.out.wpPut 1 rfl (by rfl) (by rfl) rfl (fun W37 hv => ?_)
              have HVdnfncp := hide hv
              refine hK.out _ _ (HVdnfncp.out.sv (by simp)) (fun hS37 => ?_)
              clear hK Kt hv
              simp only [Act.put, List.getElem_toArray, List.getElem_cons_zero, List.getElem_cons_succ]
              refine wpAnyH_ready (rs := [13]) (by kernel_rfl) (by simp) (AllReadyH.cons rfl (fun Kt hK => ?_) AllReadyH.nil)
              refine wanted_pos rfl ?_
              refine HVdnfncp.out.wpPut 0 rfl (by rfl) (by rfl) rfl (fun W38 hv => ?_)
              have HVdnfncpp := hide hv
              refine hK.out _ _ (HVdnfncpp.out.sv (by simp)) (fun hS38 => ?_)
              clear hK Kt hv
              simp only [Act.put, List.getElem_toArray, List.getElem_cons_zero, List.getElem_cons_succ]
              refine wpAnyH_take (i := 14) (v := .bool t1) rfl (by kernel_rfl) (by kernel_rfl) (by kernel_rfl) (fun _ _ _ h => h) (Or.inl ⟨by rfl, fun w' _ => by go_simp⟩) hS38 ?_
              simp only [Act.put, List.getElem_toArray, List.getElem_cons_zero, List.getElem_cons_succ, List.setIfInBounds_toArray, List.set_cons_zero, List.set_cons_succ]
              refine wpAnyH_done (by kernel_rfl) ?_ _
              refine NoPanic.normal ?_
              have HVe : Hid (Vs w _ [(q2, g1), (q1, f1), (p, t), (b0 + 1, g), (b0, f)]) := HVdnfncpp
              revert HA HVe
              exact hcut xs cs f1 g1 t1 q1 q2 W38
          · refine wanted_pos rfl ?_
            refine HVdn.out.wpNew rfl (fun q2 W39 hv hb => ?_)
            have HVdnn := hide hv
            refine hK.out _ _ (HVdnn.out.sv (by simp)) (fun hS39 => ?_)
            clear hK Kt hv hb
            simp only [Act.put, List.getElem_toArray, List.getElem_cons_zero, List.getElem_cons_succ, List.setIfInBounds_toArray, List.set_cons_zero, List.set_cons_succ]
            refine wpAnyH_ready (rs := [3]) (by kernel_rfl) (by simp) (AllReadyH.cons rfl (fun Kt hK => ?_) AllReadyH.nil)
            refine wanted_pos rfl ?_
            refine wp_call (R := fun r w' => ∃ xs cs, r = .slice xs S.length cs ∧ (SdL w' xs S ∧ S.length ≤ cs) ∧ Vs w w' [(q2, (fun _ => 0)), (q1, (fun _ => 0)), (p, t), (b0 + 1, g), (b0, f)]) (vs := #[.int .i64 (a : Int), .int .i64 (z : Int)]) rfl (by simp only [List.map_toArray, List.map_cons, List.map_nil]; rfl) (by go_simp) (Calls.mono (HFe.out _) (fun e w' hE => by
              obtain ⟨xs, cs, he, h1, h2, _, hb⟩ := hE
              exact ⟨_, he, xs, cs, rfl, ⟨h1, h2⟩, HVdnn.out.keep hb⟩)) (fun r W40 hr => ?_)
            obtain ⟨xs, cs, hr, hs, hv⟩ := hr
            subst hr
            have HS0 := hide hs.1
            have HCs := hide hs.2
            have HVdnnf := hide hv
            refine hK.out _ _ (HVdnnf.out.sv (by simp)) (fun hS40 => ?_)
            clear hK Kt hs hv
            simp only [Act.put, List.getElem_toArray, List.getElem_cons_zero, List.getElem_cons_succ, List.setIfInBounds_toArray, List.set_cons_zero, List.set_cons_succ]
            refine wpAnyH_ready (rs := [5]) (by kernel_rfl) (by simp) (AllReadyH.cons rfl (fun Kt hK => ?_) AllReadyH.nil)
            refine wanted_pos rfl ?_
            refine wp_call (R := fun r w' => ∃ f1 g1 t1, r = .tuple #[.agg (ab f1 32).toArray, .agg (ab g1 32).toArray, .bool t1] ∧ TwA O f1 g1 t1 ∧ Vs w w' [(q2, (fun _ => 0)), (q1, (fun _ => 0)), (p, t), (b0 + 1, g), (b0, f)]) (vs := #[.agg (ab t 32).toArray, .slice xs S.length cs, .slice (some ⟨bz, yo, none⟩) l1 c1]) rfl (by simp only [List.map_toArray, List.map_cons, List.map_nil]; rfl) (by go_simp) (Calls.mono (HRi.out _ xs cs HVdnnf.out.k HS0.out HCs.out) (fun e w' hE => by
              obtain ⟨f1, g1, t1, he, ha, hb⟩ := hE
              exact ⟨_, he, f1, g1, t1, rfl, ha, HVdnnf.out.keep hb⟩)) (fun r W41 hr => ?_)
            obtain ⟨f1, g1, t1, hr, ha, hv⟩ := hr
            subst hr
            have HA := hide ha
            have HVdnnfc := hide hv
            refine hK.out _ _ (HVdnnfc.out.sv (by simp)) (fun hS41 => ?_)
            clear hK Kt ha hv
            simp only [Act.put, List.getElem_toArray, List.getElem_cons_zero, List.getElem_cons_succ, List.setIfInBounds_toArray, List.set_cons_zero, List.set_cons_succ]
            refine wpAnyH_take (i := 6) (v := .tuple #[.agg (ab f1 32).toArray, .agg (ab g1 32).toArray, .bool t1]) rfl (by kernel_rfl) (by kernel_rfl) (by kernel_rfl) (fun _ _ _ h => h) (Or.inl ⟨by rfl, fun w' _ => by go_simp⟩) hS41 ?_
            simp only [Act.put, List.getElem_toArray, List.getElem_cons_zero, List.getElem_cons_succ, List.setIfInBounds_toArray, List.set_cons_zero, List.set_cons_succ]
            refine wpAnyH_take (i := 7) (v := .agg (ab f1 32).toArray) rfl (by kernel_rfl) (by kernel_rfl) (by kernel_rfl) (fun _ _ _ h => h) (Or.inl ⟨by rfl, fun w' _ => by go_simp⟩) hS41 ?_
            simp only [Act.put, List.getElem_toArray, List.getElem_cons_zero, List.getElem_cons_succ, List.setIfInBounds_toArray, List.set_cons_zero, List.set_cons_succ]
            refine wpAnyH_take (i := 8) (v := .agg (ab g1 32).toArray) rfl (by kernel_rfl) (by kernel_rfl) (by kernel_rfl) (fun _ _ _ h => h) (Or.inl ⟨by rfl, fun w' _ => by go_simp⟩) hS41 ?_
            simp only [Act.put, List.getElem_toArray, List.getElem_cons_zero, List.getElem_cons_succ, List.setIfInBounds_toArray, List.set_cons_zero, List.set_cons_succ]
            refine wpAnyH_take (i := 9) (v := .bool t1) rfl (by kernel_rfl) (by kernel_rfl) (by kernel_rfl) (fun _ _ _ h => h) (Or.inl ⟨by rfl, fun w' _ => by go_simp⟩) hS41 ?_
            simp only [Act.put, List.getElem_toArray, List.getElem_cons_zero, List.getElem_cons_succ, List.setIfInBounds_toArray, List.set_cons_zero, List.set_cons_succ]
            refine wpAnyH_ready (rs := [12]) (by kernel_rfl) (by simp) (AllReadyH.cons rfl (fun Kt hK => ?_) AllReadyH.nil)
            refine wanted_pos rfl ?_
            refine HVdnnfc.out.wpPut 1 rfl (by rfl) (by rfl) rfl (fun W42 hv => ?_)
            have HVdnnfcp := hide hv
            refine hK.out _ _ (HVdnnfcp.out.sv (by simp)) (fun hS42 => ?_)
            clear hK Kt hv
            simp only [Act.put, List.getElem_toArray, List.getElem_cons_zero, List.getElem_cons_succ]
            refine wpAnyH_ready (rs := [13]) (by kernel_rfl) (by simp) (AllReadyH.cons rfl (fun Kt hK => ?_) AllReadyH.nil)
            refine wanted_pos rfl ?_
            refine HVdnnfcp.out.wpPut 0 rfl (by rfl) (by rfl) rfl (fun W43 hv => ?_)
            have HVdnnfcpp := hide hv
            refine hK.out _ _ (HVdnnfcpp.out.sv (by simp)) (fun hS43 => ?_)
            clear hK Kt hv
            simp only [Act.put, List.getElem_toArray, List.getElem_cons_zero, List.getElem_cons_succ]
            refine wpAnyH_take (i := 14) (v := .bool t1) rfl (by kernel_rfl) (by kernel_rfl) (by kernel_rfl) (fun _ _ _ h => h) (Or.inl ⟨by rfl, fun w' _ => by go_simp⟩) hS43 ?_
            simp only [Act.put, List.getElem_toArray, List.getElem_cons_zero, List.getElem_cons_succ, List.setIfInBounds_toArray, List.set_cons_zero, List.set_cons_succ]
            refine wpAnyH_done (by kernel_rfl) ?_ _
            refine NoPanic.normal ?_
            have HVe : Hid (Vs w _ [(q2, g1), (q1, f1), (p, t), (b0 + 1, g), (b0, f)]) := HVdnnfcpp
            revert HA HVe
            exact hcut xs cs f1 g1 t1 q1 q2 W43
        · refine wanted_pos rfl ?_
          refine HVd.out.wpNew rfl (fun q2 W44 hv hb => ?_)
          have HVdn := hide hv
          refine hK.out _ _ (HVdn.out.sv (by simp)) (fun hS44 => ?_)
          clear hK Kt hv hb
          simp only [Act.put, List.getElem_toArray, List.getElem_cons_zero, List.getElem_cons_succ, List.setIfInBounds_toArray, List.set_cons_zero, List.set_cons_succ]
          refine wpAnyH_ready (rs := [3, 10]) (by kernel_rfl) (by simp) (AllReadyH.cons rfl (fun Kt hK => ?_) (AllReadyH.cons rfl (fun Kt hK => ?_) AllReadyH.nil))
          · refine wanted_pos rfl ?_
            refine wp_call (R := fun r w' => ∃ xs cs, r = .slice xs S.length cs ∧ (SdL w' xs S ∧ S.length ≤ cs) ∧ Vs w w' [(q2, (fun _ => 0)), (p, t), (b0 + 1, g), (b0, f)]) (vs := #[.int .i64 (a : Int), .int .i64 (z : Int)]) rfl (by simp only [List.map_toArray, List.map_cons, List.map_nil]; rfl) (by go_simp) (Calls.mono (HFe.out _) (fun e w' hE => by
              obtain ⟨xs, cs, he, h1, h2, _, hb⟩ := hE
              exact ⟨_, he, xs, cs, rfl, ⟨h1, h2⟩, HVdn.out.keep hb⟩)) (fun r W45 hr => ?_)
            obtain ⟨xs, cs, hr, hs, hv⟩ := hr
            subst hr
            have HS0 := hide hs.1
            have HCs := hide hs.2
            have HVdnf := hide hv
            refine hK.out _ _ (HVdnf.out.sv (by simp)) (fun hS45 => ?_)
            clear hK Kt hs hv
            simp only [Act.put, List.getElem_toArray, List.getElem_cons_zero, List.getElem_cons_succ, List.setIfInBounds_toArray, List.set_cons_zero, List.set_cons_succ]
            refine wpAnyH_ready (rs := [5, 10]) (by kernel_rfl) (by simp) (AllReadyH.cons rfl (fun Kt hK => ?_) (AllReadyH.cons rfl (fun Kt hK => ?_) AllReadyH.nil))
            · refine wanted_pos rfl ?_
              refine wp_call (R := fun r w' => ∃ f1 g1 t1, r = .tuple #[.agg (ab f1 32).toArray, .agg (ab g1 32).toArray, .bool t1] ∧ TwA O f1 g1 t1 ∧ Vs w w' [(q2, (fun _ => 0)), (p, t), (b0 + 1, g), (b0, f)]) (vs := #[.agg (ab t 32).toArray, .slice xs S.length cs, .slice (some ⟨bz, yo, none⟩) l1 c1]) rfl (by simp only [List.map_toArray, List.map_cons, List.map_nil]; rfl) (by go_simp) (Calls.mono (HRi.out _ xs cs HVdnf.out.k HS0.out HCs.out) (fun e w' hE => by
                obtain ⟨f1, g1, t1, he, ha, hb⟩ := hE
                exact ⟨_, he, f1, g1, t1, rfl, ha, HVdnf.out.keep hb⟩)) (fun r W46 hr => ?_)
              obtain ⟨f1, g1, t1, hr, ha, hv⟩ := hr
              subst hr
              have HA := hide ha
              have HVdnfc := hide hv
              refine hK.out _ _ (HVdnfc.out.sv (by simp)) (fun hS46 => ?_)
              clear hK Kt ha hv
              simp only [Act.put, List.getElem_toArray, List.getElem_cons_zero, List.getElem_cons_succ, List.setIfInBounds_toArray, List.set_cons_zero, List.set_cons_succ]
              refine wpAnyH_take (i := 6) (v := .tuple #[.agg (ab f1 32).toArray, .agg (ab g1 32).toArray, .bool t1]) rfl (by kernel_rfl) (by kernel_rfl) (by kernel_rfl) (fun _ _ _ h => h) (Or.inl ⟨by rfl, fun w' _ => by go_simp⟩) hS46 ?_
              simp only [Act.put, List.getElem_toArray, List.getElem_cons_zero, List.getElem_cons_succ, List.setIfInBounds_toArray, List.set_cons_zero, List.set_cons_succ]
              refine wpAnyH_take (i := 7) (v := .agg (ab f1 32).toArray) rfl (by kernel_rfl) (by kernel_rfl) (by kernel_rfl) (fun _ _ _ h => h) (Or.inl ⟨by rfl, fun w' _ => by go_simp⟩) hS46 ?_
              simp only [Act.put, List.getElem_toArray, List.getElem_cons_zero, List.getElem_cons_succ, List.setIfInBounds_toArray, List.set_cons_zero, List.set_cons_succ]
              refine wpAnyH_take (i := 8) (v := .agg (ab g1 32).toArray) rfl (by kernel_rfl) (by kernel_rfl) (by kernel_rfl) (fun _ _ _ h => h) (Or.inl ⟨by rfl, fun w' _ => by go_simp⟩) hS46 ?_
              simp only [Act.put, List.getElem_toArray, List.getElem_cons_zero, List.getElem_cons_succ, List.setIfInBounds_toArray, List.set_cons_zero, List.set_cons_succ]
              refine wpAnyH_take (i := 9) (v := .bool t1) rfl (by kernel_rfl) (by kernel_rfl) (by kernel_rfl) (fun _ _ _ h => h) (Or.inl ⟨by rfl, fun w' _ => by go_simp⟩) hS46 ?_
              simp only [Act.put, List.getElem_toArray, List.getElem_cons_zero, List.getElem_cons_succ, List.setIfInBounds_toArray, List.set_cons_zero, List.set_cons_succ]
              refine wpAnyH_ready (rs := [10]) (by kernel_rfl) (by simp) (AllReadyH.cons rfl (fun Kt hK => ?_) AllReadyH.nil)
              refine wanted_pos rfl ?_
              refine HVdnfc.out.wpNew rfl (fun q1 W47 hv hb => ?_)
              have HVdnfcn := hide hv
              refine hK.out _ _ (HVdnfcn.out.sv (by simp)) (fun hS47 => ?_)
              clear hK Kt hv hb
              simp only [Act.put, List.getElem_toArray, List.getElem_cons_zero, List.getElem_cons_succ, List.setIfInBounds_toArray, List.set_cons_zero, List.set_cons_succ]
              refine wpAnyH_ready (rs := [12]) (by kernel_rfl) (by simp) (AllReadyH.cons rfl (fun Kt hK => ?_) AllReadyH.nil)
              refine wanted_pos rfl ?_
              refine HVdnfcn.out.wpPut 0 rfl (by rfl) (by rfl) rfl (fun W48 hv => ?_)
              have HVdnfcnp := hide hv
              refine hK.out _ _ (HVdnfcnp.out.sv (by simp)) (fun hS48 => ?_)
              clear hK Kt hv
              simp only [Act.put, List.getElem_toArray, List.getElem_cons_zero, List.getElem_cons_succ]
              refine wpAnyH_ready (rs := [13]) (by kernel_rfl) (by simp) (AllReadyH.cons rfl (fun Kt hK => ?_) AllReadyH.nil)
              refine wanted_pos rfl ?_
              refine HVdnfcnp.out.wpPut 1 rfl (by rfl) (by rfl) rfl (fun W49 hv => ?_)
              have HVdnfcnpp := hide hv
              refine hK.out _ _ (HVdnfcnpp.out.sv (by simp)) (fun hS49 => ?_)
              clear hK Kt hv
              simp only [Act.put, List.getElem_toArray, List.getElem_cons_zero, List.getElem_cons_succ]
              refine wpAnyH_take (i := 14) (v := .bool t1) rfl (by kernel_rfl) (by kernel_rfl) (by kernel_rfl) (fun _ _ _ h => h) (Or.inl ⟨by rfl, fun w' _ => by go_simp⟩) hS49 ?_
              simp only [Act.put, List.getElem_toArray, List.getElem_cons_zero, List.getElem_cons_succ, List.setIfInBounds_toArray, List.set_cons_zero, List.set_cons_succ]
              refine wpAnyH_done (by kernel_rfl) ?_ _
              refine NoPanic.normal ?_
              have HVdnfcnpps := hide (HVdnfcnpp.out.perm (List.Perm.swap (q2, g1) (q1, f1) _))
              have HVe : Hid (Vs w _ [(q2, g1), (q1, f1), (p, t), (b0 + 1, g), (b0, f)]) := HVdnfcnpps
              revert HA HVe
              exact hcut xs cs f1 g1 t1 q1 q2 W49
            · refine wanted_pos rfl ?_
              refine HVdnf.out.wpNew rfl (fun q1 W50 hv hb => ?_)
              have HVdnfn := hide hv
              have HS0n := hide (HS0.out.keep hb)
              refine hK.out _ _ (HVdnfn.out.sv (by simp)) (fun hS50 => ?_)
              clear hK Kt hv hb
              simp only [Act.put, List.getElem_toArray, List.getElem_cons_zero, List.getElem_cons_succ, List.setIfInBounds_toArray, List.set_cons_zero, List.set_cons_succ]
              refine wpAnyH_ready (rs := [5]) (by kernel_rfl) (by simp) (AllReadyH.cons rfl (fun Kt hK => ?_) AllReadyH.nil)
              refine wanted_pos rfl ?_
              refine wp_call (R := fun r w' => ∃ f1 g1 t1, r = .tuple #[.agg (ab f1 32).toArray, .agg (ab g1 32).toArray, .bool t1] ∧ TwA O f1 g1 t1 ∧ Vs w w' [(q1, (fun _ => 0)), (q2, (fun _ => 0)), (p, t), (b0 + 1, g), (b0, f)]) (vs := #[.agg (ab t 32).toArray, .slice xs S.length cs, .slice (some ⟨bz, yo, none⟩) l1 c1]) rfl (by simp only [List.map_toArray, List.map_cons, List.map_nil]; rfl) (by go_simp) (Calls.mono (HRi.out _ xs cs HVdnfn.out.k HS0n.out HCs.out) (fun e w' hE => by
                obtain ⟨f1, g1, t1, he, ha, hb⟩ := hE
                exact ⟨_, he, f1, g1, t1, rfl, ha, HVdnfn.out.keep hb⟩)) (fun r W51 hr => ?_)
              obtain ⟨f1, g1, t1, hr, ha, hv⟩ := hr
              subst hr
              have HA := hide ha
              have HVdnfnc := hide hv
              refine hK.out _ _ (HVdnfnc.out.sv (by simp)) (fun hS51 => ?_)
              clear hK Kt ha hv
              simp only [Act.put, List.getElem_toArray, List.getElem_cons_zero, List.getElem_cons_succ, List.setIfInBounds_toArray, List.set_cons_zero, List.set_cons_succ]
              refine wpAnyH_take (i := 6) (v := .tuple #[.agg (ab f1 32).toArray, .agg (ab g1 32).toArray, .bool t1]) rfl (by kernel_rfl) (by kernel_rfl) (by kernel_rfl) (fun _ _ _ h => h) (Or.inl ⟨by rfl, fun w' _ => by go_simp⟩) hS51 ?_
              simp only [Act.put, List.getElem_toArray, List.getElem_cons_zero, List.getElem_cons_succ, List.setIfInBounds_toArray, List.set_cons_zero, List.set_cons_succ]
              refine wpAnyH_take (i := 7) (v := .agg (ab f1 32).toArray) rfl (by kernel_rfl) (by kernel_rfl) (by kernel_rfl) (fun _ _ _ h => h) (Or.inl ⟨by rfl, fun w' _ => by go_simp⟩) hS51 ?_
              simp only [Act.put, List.getElem_toArray, List.getElem_cons_zero, List.getElem_cons_succ, List.setIfInBounds_toArray, List.set_cons_zero, List.set_cons_succ]
              refine wpAnyH_take (i := 8) (v := .agg (ab g1 32).toArray) rfl (by kernel_rfl) (by kernel_rfl) (by kernel_rfl) (fun _ _ _ h => h) (Or.inl ⟨by rfl, fun w' _ => by go_simp⟩) hS51 ?_
              simp only [Act.put, List.getElem_toArray, List.getElem_cons_zero, List.getElem_cons_succ, List.setIfInBounds_toArray, List.set_cons_zero, List.set_cons_succ]
              refine wpAnyH_take (i := 9) (v := .bool t1) rfl (by kernel_rfl) (by kernel_rfl) (by kernel_rfl) (fun _ _ _ h => h) (Or.inl ⟨by rfl, fun w' _ => by go_simp⟩) hS51 ?_
              simp only [Act.put, List.getElem_toArray, List.getElem_cons_zero, List.getElem_cons_succ, List.setIfInBounds_toArray, List.set_cons_zero, List.set_cons_succ]
              refine wpAnyH_ready (rs := [12]) (by kernel_rfl) (by simp) (AllReadyH.cons rfl (fun Kt hK => ?_) AllReadyH.nil)
              refine wanted_pos rfl ?_
              refine HVdnfnc.out.wpPut 0 rfl (by rfl) (by rfl) rfl (fun W52 hv => ?_)
              have HVdnfncp := hide hv
              refine hK.out _ _ (HVdnfncp.out.sv (by simp)) (fun hS52 => ?_)
              clear hK Kt hv
              simp only [Act.put, List.getElem_toArray, List.getElem_cons_zero, List.getElem_cons_succ]
              refine wpAnyH_ready (rs := [13]) (by kernel_rfl) (by simp) (AllReadyH.cons rfl (fun Kt hK => ?_) AllReadyH.nil)
              refine wanted_pos rfl ?_
              refine HVdnfncp.out.wpPut 1 rfl (by rfl) (by rfl) rfl (fun W53 hv => ?_)
              have HVdnfncpp := hide hv
              refine hK.out _ _ (HVdnfncpp.out.sv (by simp)) (fun hS53 => ?_)
              clear hK Kt hv
              simp only [Act.put, List.getElem_toArray, List.getElem_cons_zero, List.getElem_cons_succ]
              refine wpAnyH_take (i := 14) (v := .bool t1) rfl (by kernel_rfl) (by kernel_rfl) (by kernel_rfl) (fun _ _ _ h => h) (Or.inl ⟨by rfl, fun w' _ => by go_simp⟩) hS53 ?_
              simp only [Act.put, List.getElem_toArray, List.getElem_cons_zero, List.getElem_cons_succ, List.setIfInBounds_toArray, List.set_cons_zero, List.set_cons_succ]
              refine wpAnyH_done (by kernel_rfl) ?_ _
              refine NoPanic.normal ?_
              have HVdnfncpps := hide (HVdnfncpp.out.perm (List.Perm.swap (q2, g1) (q1, f1) _))
              have HVe : Hid (Vs w _ [(q2, g1), (q1, f1), (p, t), (b0 + 1, g), (b0, f)]) := HVdnfncpps
              revert HA HVe
              exact hcut xs cs f1 g1 t1 q1 q2 W53
          · refine wanted_pos rfl ?_
            refine HVdn.out.wpNew rfl (fun q1 W54 hv hb => ?_)
            have HVdnn := hide hv
            refine hK.out _ _ (HVdnn.out.sv (by simp)) (fun hS54 => ?_)
            clear hK Kt hv hb
            simp only [Act.put, List.getElem_toArray, List.getElem_cons_zero, List.getElem_cons_succ, List.setIfInBounds_toArray, List.set_cons_zero, List.set_cons_succ]
            refine wpAnyH_ready (rs := [3]) (by kernel_rfl) (by simp) (AllReadyH.cons rfl (fun Kt hK => ?_) AllReadyH.nil)
            refine wanted_pos rfl ?_
            refine wp_call (R := fun r w' => ∃ xs cs, r = .slice xs S.length cs ∧ (SdL w' xs S ∧ S.length ≤ cs) ∧ Vs w w' [(q1, (fun _ => 0)), (q2, (fun _ => 0)), (p, t), (b0 + 1, g), (b0, f)]) (vs := #[.int .i64 (a : Int), .int .i64 (z : Int)]) rfl (by simp only [List.map_toArray, List.map_cons, List.map_nil]; rfl) (by go_simp) (Calls.mono (HFe.out _) (fun e w' hE => by
              obtain ⟨xs, cs, he, h1, h2, _, hb⟩ := hE
              exact ⟨_, he, xs, cs, rfl, ⟨h1, h2⟩, HVdnn.out.keep hb⟩)) (fun r W55 hr => ?_)
            obtain ⟨xs, cs, hr, hs, hv⟩ := hr
            subst hr
            have HS0 := hide hs.1
            have HCs := hide hs.2
            have HVdnnf := hide hv
            refine hK.out _ _ (HVdnnf.out.sv (by simp)) (fun hS55 => ?_)
            clear hK Kt hs hv
            simp only [Act.put, List.getElem_toArray, List.getElem_cons_zero, List.getElem_cons_succ, List.setIfInBounds_toArray, List.set_cons_zero, List.set_cons_succ]
            refine wpAnyH_ready (rs := [5]) (by kernel_rfl) (by simp) (AllReadyH.cons rfl (fun Kt hK => ?_) AllReadyH.nil)
            refine wanted_pos rfl ?_
            refine wp_call (R := fun r w' => ∃ f1 g1 t1, r = .tuple #[.agg (ab f1 32).toArray, .agg (ab g1 32).toArray, .bool t1] ∧ TwA O f1 g1 t1 ∧ Vs w w' [(q1, (fun _ => 0)), (q2, (fun _ => 0)), (p, t), (b0 + 1, g), (b0, f)]) (vs := #[.agg (ab t 32).toArray, .slice xs S.length cs, .slice (some ⟨bz, yo, none⟩) l1 c1]) rfl (by simp only [List.map_toArray, List.map_cons, List.map_nil]; rfl) (by go_simp) (Calls.mono (HRi.out _ xs cs HVdnnf.out.k HS0.out HCs.out) (fun e w' hE => by
              obtain ⟨f1, g1, t1, he, ha, hb⟩ := hE
              exact ⟨_, he, f1, g1, t1, rfl, ha, HVdnnf.out.keep hb⟩)) (fun r W56 hr => ?_)
            obtain ⟨f1, g1, t1, hr, ha, hv⟩ := hr
            subst hr
            have HA := hide ha
            have HVdnnfc := hide hv
            refine hK.out _ _ (HVdnnfc.out.sv (by simp)) (fun hS56 => ?_)
            clear hK Kt ha hv
            simp only [Act.put, List.getElem_toArray, List.getElem_cons_zero, List.getElem_cons_succ, List.setIfInBounds_toArray, List.set_cons_zero, List.set_cons_succ]
            refine wpAnyH_take (i := 6) (v := .tuple #[.agg (ab f1 32).toArray, .agg (ab g1 32).toArray, .bool t1]) rfl (by kernel_rfl) (by kernel_rfl) (by kernel_rfl) (fun _ _ _ h => h) (Or.inl ⟨by rfl, fun w' _ => by go_simp⟩) hS56 ?_
            simp only [Act.put, List.getElem_toArray, List.getElem_cons_zero, List.getElem_cons_succ, List.setIfInBounds_toArray, List.set_cons_zero, List.set_cons_succ]
            refine wpAnyH_take (i := 7) (v := .agg (ab f1 32).toArray) rfl (by kernel_rfl) (by kernel_rfl) (by kernel_rfl) (fun _ _ _ h => h) (Or.inl ⟨by rfl, fun w' _ => by go_simp⟩) hS56 ?_
            simp only [Act.put, List.getElem_toArray, List.getElem_cons_zero, List.getElem_cons_succ, List.setIfInBounds_toArray, List.set_cons_zero, List.set_cons_succ]
            refine wpAnyH_take (i := 8) (v := .agg (ab g1 32).toArray) rfl (by kernel_rfl) (by kernel_rfl) (by kernel_rfl) (fun _ _ _ h => h) (Or.inl ⟨by rfl, fun w' _ => by go_simp⟩) hS56 ?_
            simp only [Act.put, List.getElem_toArray, List.getElem_cons_zero, List.getElem_cons_succ, List.setIfInBounds_toArray, List.set_cons_zero, List.set_cons_succ]
            refine wpAnyH_take (i := 9) (v := .bool t1) rfl (by kernel_rfl) (by kernel_rfl) (by kernel_rfl) (fun _ _ _ h => h) (Or.inl ⟨by rfl, fun w' _ => by go_simp⟩) hS56 ?_
            simp only [Act.put, List.getElem_toArray, List.getElem_cons_zero, List.getElem_cons_succ, List.setIfInBounds_toArray, List.set_cons_zero, List.set_cons_succ]
            refine wpAnyH_ready (rs := [12]) (by kernel_rfl) (by simp) (AllReadyH.cons rfl (fun Kt hK => ?_) AllReadyH.nil)
            refine wanted_pos rfl ?_
            refine HVdnnfc.out.wpPut 0 rfl (by rfl) (by rfl) rfl (fun W57 hv => ?_)
            have HVdnnfcp := hide hv
            refine hK.out _ _ (HVdnnfcp.out.sv (by simp)) (fun hS57 => ?_)
            clear hK Kt hv
            simp only [Act.put, List.getElem_toArray, List.getElem_cons_zero, List.getElem_cons_succ]
            refine wpAnyH_ready (rs := [13]) (by kernel_rfl) (by simp) (AllReadyH.cons rfl (fun Kt hK => ?_) AllReadyH.nil)
            refine wanted_pos rfl ?_
            refine HVdnnfcp.out.wpPut 1 rfl (by rfl) (by rfl) rfl (fun W58 hv => ?_)
            have HVdnnfcpp := hide hv
            refine hK.out _ _ (HVdnnfcpp.out.sv (by simp)) (fun hS58 => ?_)
            clear hK Kt hv
            simp only [Act.put, List.getElem_toArray, List.getElem_cons_zero, List.getElem_cons_succ]
            refine wpAnyH_take (i := 14) (v := .bool t1) rfl (by kernel_rfl) (by kernel_rfl) (by kernel_rfl) (fun _ _ _ h => h) (Or.inl ⟨by rfl, fun w' _ => by go_simp⟩) hS58 ?_
            simp only [Act.put, List.getElem_toArray, List.getElem_cons_zero, List.getElem_cons_succ, List.setIfInBounds_toArray, List.set_cons_zero, List.set_cons_succ]
            refine wpAnyH_done (by kernel_rfl) ?_ _
            refine NoPanic.normal ?_
            have HVdnnfcpps := hide (HVdnnfcpp.out.perm (List.Perm.swap (q2, g1) (q1, f1) _))
            have HVe : Hid (Vs w _ [(q2, g1), (q1, f1), (p, t), (b0 + 1, g), (b0, f)]) := HVdnnfcpps
            revert HA HVe
            exact hcut xs cs f1 g1 t1 q1 q2 W58
      intro xs cs f1 g1 t1 q1 q2 Y HA HVe
      clear HVd
      cases t1 with
      | false =>
        obtain rfl : O = none := by
          have h := HA.out.b_
          cases O with
          | none => rfl
          | some q => cases h
        clear HA
        go_wp2_with fail
        go_ret
        exact ⟨rfl, HVe.out.k⟩
      | true =>
        obtain rfl : O = some (f1, g1) := by
          have h := HA.out.b_
          have h2 := HA.out.o_
          cases O with
          | none => cases h
          | some q => rw [h2 q rfl]
        clear HA
        have HEq1 := hide (fun W => eqH f1 f W)
        have HEq2 := hide (fun W => eqH g1 g W)
        cases he1 : eqB f1 f 32 with
        | true =>
          rw [he1] at HEq1
          cases he2 : eqB g1 g 32 with
          | true =>
            rw [he2] at HEq2
            go_wp2_with (first | (refine wpList_load_g (g := q1) (by rfl) _ rfl rfl (HVe.out.rg 1 rfl) ?_; simp only [Act.put, List.setIfInBounds_toArray, List.set_cons_zero, List.set_cons_succ]) | (refine wpList_load_g (g := b0) (by rfl) _ rfl rfl (HVe.out.rg 4 rfl) ?_; simp only [Act.put, List.setIfInBounds_toArray, List.set_cons_zero, List.set_cons_succ]) | (refine wpList_load_g (g := q2) (by rfl) _ rfl rfl (HVe.out.rg 0 rfl) ?_; simp only [Act.put, List.setIfInBounds_toArray, List.set_cons_zero, List.set_cons_succ]) | (refine wpList_load_g (g := b0 + 1) (by rfl) _ rfl rfl (HVe.out.rg 3 rfl) ?_; simp only [Act.put, List.setIfInBounds_toArray, List.set_cons_zero, List.set_cons_succ]) | (refine wpList_eqH (by rfl) _ _ _ rfl _ _ true rfl rfl (HEq1.out _) ?_; simp only [Act.put, List.setIfInBounds_toArray, List.set_cons_zero, List.set_cons_succ]) | (refine wpList_eqH (by rfl) _ _ _ rfl _ _ true rfl rfl (HEq2.out _) ?_; simp only [Act.put, List.setIfInBounds_toArray, List.set_cons_zero, List.set_cons_succ]))
            go_ret
            exact ⟨rfl, HVe.out.k⟩
          | false =>
            rw [he2] at HEq2
            go_wp2_with (first | (refine wpList_load_g (g := q1) (by rfl) _ rfl rfl (HVe.out.rg 1 rfl) ?_; simp only [Act.put, List.setIfInBounds_toArray, List.set_cons_zero, List.set_cons_succ]) | (refine wpList_load_g (g := b0) (by rfl) _ rfl rfl (HVe.out.rg 4 rfl) ?_; simp only [Act.put, List.setIfInBounds_toArray, List.set_cons_zero, List.set_cons_succ]) | (refine wpList_load_g (g := q2) (by rfl) _ rfl rfl (HVe.out.rg 0 rfl) ?_; simp only [Act.put, List.setIfInBounds_toArray, List.set_cons_zero, List.set_cons_succ]) | (refine wpList_load_g (g := b0 + 1) (by rfl) _ rfl rfl (HVe.out.rg 3 rfl) ?_; simp only [Act.put, List.setIfInBounds_toArray, List.set_cons_zero, List.set_cons_succ]) | (refine wpList_eqH (by rfl) _ _ _ rfl _ _ true rfl rfl (HEq1.out _) ?_; simp only [Act.put, List.setIfInBounds_toArray, List.set_cons_zero, List.set_cons_succ]) | (refine wpList_eqH (by rfl) _ _ _ rfl _ _ false rfl rfl (HEq2.out _) ?_; simp only [Act.put, List.setIfInBounds_toArray, List.set_cons_zero, List.set_cons_succ]))
            go_ret
            exact ⟨rfl, HVe.out.k⟩
        | false =>
          rw [he1] at HEq1
          go_wp2_with (first | (refine wpList_load_g (g := q1) (by rfl) _ rfl rfl (HVe.out.rg 1 rfl) ?_; simp only [Act.put, List.setIfInBounds_toArray, List.set_cons_zero, List.set_cons_succ]) | (refine wpList_load_g (g := b0) (by rfl) _ rfl rfl (HVe.out.rg 4 rfl) ?_; simp only [Act.put, List.setIfInBounds_toArray, List.set_cons_zero, List.set_cons_succ]) | (refine wpList_load_g (g := q2) (by rfl) _ rfl rfl (HVe.out.rg 0 rfl) ?_; simp only [Act.put, List.setIfInBounds_toArray, List.set_cons_zero, List.set_cons_succ]) | (refine wpList_load_g (g := b0 + 1) (by rfl) _ rfl rfl (HVe.out.rg 3 rfl) ?_; simp only [Act.put, List.setIfInBounds_toArray, List.set_cons_zero, List.set_cons_succ]) | (refine wpList_eqH (by rfl) _ _ _ rfl _ _ false rfl rfl (HEq1.out _) ?_; simp only [Act.put, List.setIfInBounds_toArray, List.set_cons_zero, List.set_cons_succ]))
          go_ret
          exact ⟨rfl, HVe.out.k⟩
end Go.Proofs.YtpokecijongkpaaDoor
