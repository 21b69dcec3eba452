/- EdgeOwn. -/
import Derived.Test.YtjobcffelbddcaaDoorL17C
namespace Go.Proofs.YtjobcffelbddcaaDoor
set_option maxRecDepth 100000
open Go.RowKit
attribute [local go_sem ↓] Go.wp_at_zero Go.wp_at_succ

theorem boxT1 {w X W : World} {F : Nat → Nat → Nat} (hF : ∀ i j, F i j < 256) (hB : Below w.heap.size w W) (hX : X = W.alloc (.cells #[.slice none 0 0] 27)) :
    Below w.heap.size w X ∧ Tr X W.heap.size 0 F := by
  rw [hX]
  exact ⟨K.alloc hB _, tr_new W hF⟩
theorem h0_build : Tryd.prog.built 33 [] = some (ab (fun _ => 0) 32).toArray := by kernel_rfl
theorem eL_lt0 {F : Nat → Nat → Nat} (hF : ∀ i j, F i j < 256) (n : Nat) : ∀ f ∈ eL F n, ∀ j, f j < 256 := by
  have h := eL_lt hF n 0
  have e : (fun i => F (0 + i)) = F := by funext i; rw [Nat.zero_add]
  rw [e] at h
  exact h
theorem eL_lF {F : Nat → Nat → Nat} (hF : ∀ i j, F i j < 256) (n i j : Nat) : lF (eL F n) i j < 256 := lF_lt (eL_lt0 hF n) i j
/-- The cells of a row of hashes are there to be written. -/
theorem OH.there {w : World} {base n cap : Nat} {a : Option Addr} {F : Nat → Nat → Nat} (h : OH w base (.slice a n cap) n F) (hn : 0 < n) : ∃ g, a = some ⟨g, 0, none⟩ ∧ base ≤ g ∧ g < w.heap.size ∧ w.there g 0 (n * 32) := by
  rcases h.2 with ⟨_, h0⟩ | ⟨g, cap', cur, e, hg, hh, _⟩
  · omega
  · cases e
    refine ⟨g, rfl, hg, (h.lt g rfl).2, fun j hj => ⟨?_, h.frozenAt _⟩⟩
    rw [Nat.zero_add, h.cellAt j hj, hc_get F hj]
    rfl
theorem there_part {w : World} {g n i : Nat} (h : w.there g 0 (n * 32)) (hi : i < n) (f : Nat → Nat) : w.there g (i * 32) (ab f 32).toArray.size := by
  rw [List.size_toArray, ab_len]
  intro j hj
  have := h (i * 32 + j) (by omega)
  rwa [Nat.zero_add] at this
/-- Two rows of hashes, the later one made when the first one was there: what is done to the first is nothing to it. -/
theorem OH.apart {w w' : World} {base n : Nat} {v : Value} {F : Nat → Nat → Nat} {g : Nat} (h : OH w base v n F) (hg : w.grownBy w' (some g)) (hb : g < base) : OH w' base v n F := by
  refine ⟨h.1, ?_⟩
  rcases h.2 with h0 | ⟨x, cap, cur, rfl, hx, hh, h1, h2, h3, h4⟩
  · exact Or.inl h0
  · refine Or.inr ⟨x, cap, cur, rfl, hx, ?_, h1, h2, h3, h4⟩
    rw [hg.block x (h.lt x rfl).2 (fun e => by have := Option.some.inj e; omega)]
    exact hh
theorem OH.apart' {w w' : World} {base n : Nat} {v : Value} {F : Nat → Nat → Nat} {row : Option Nat} (h : OH w base v n F) (hg : w.grownBy w' row) (hb : ∀ g, row = some g → g < base) : OH w' base v n F := by
  refine ⟨h.1, ?_⟩
  rcases h.2 with h0 | ⟨x, cap, cur, rfl, hx, hh, h1, h2, h3, h4⟩
  · exact Or.inl h0
  · refine Or.inr ⟨x, cap, cur, rfl, hx, ?_, h1, h2, h3, h4⟩
    rw [hg.block x (h.lt x rfl).2 (fun e => by have := hb x e.symm; omega)]
    exact hh
theorem wpList_zeroH {w : World} {ops : Array Oper} {rest : List Oper} {op : Oper} {a : Act} {Q : Exit → Act → World → Prop} (hw : Region.wanted op (yielded ops a.tmps) = true) (ho : op.op = .build 33 #[])
    (h : wpList Tryd.prog ops Q rest (a.put op.dst (.agg (ab (fun _ => 0) 32).toArray)) w) : wpList Tryd.prog ops Q (op :: rest) a w :=
  wpList_buildC hw 33 #[] ho _ (by
    have e : ((#[] : Array (Nat × Operand)).map fun (i, x) => (i, a.eval x)).toList = [] := by simp
    rw [e]
    exact h0_build) h
theorem wpList_store_hm {w : World} {ops : Array Oper} {rest : List Oper} {op : Oper} {a : Act} {Q : Exit → Act → World → Prop} (hg : op.guard = none) (x y : Operand) (hop : op.op = Op.store 33 x y) {b o : Nat} {f : Nat → Nat} (hx : a.eval x = .pointer (some ⟨b, o, none⟩)) (hy : a.eval y = .agg (ab f 32).toArray) (ht : w.there b o (ab f 32).toArray.size)
    (hK : ∀ w', w.grownBy w' (some b) → (∀ c n, w.there c 0 n → w'.there c 0 n) → wpList Tryd.prog ops Q rest (a.put op.dst undef) w') : wpList Tryd.prog ops Q (op :: rest) a w :=
  wpList_store_mid hg 33 x y hop b o (ab f 32).toArray hx hy ht (inH f) (all_oneCell_toArray (ab_one _ _)) (hK _ (grown_sets b _ o w) (fun _ _ h => World.there_setCells h _ _ _))
theorem rangeO {W w1 : World} {b o : Nat} {vs : List Value} {r : Option Nat} (h : W.rangeAt b o vs) (hg : W.grownBy w1 r) (hn : some b ≠ r) : w1.rangeAt b o vs := fun j v hv => laterG (p := ⟨b, o + j, none⟩) hg hn (h j v hv)
theorem own_lt {w : World} {base n c : Nat} {a : Option Addr} {F : Nat → Nat → Nat} (h : OH w base (.slice a n c) n F) : ∀ g, (Value.slice a n c).ownBlock = some g → base ≤ g ∧ g < w.heap.size := h.lt
theorem no_own {row : Option Nat} {r B C : Nat} (h : ∀ g, row = some g → B ≤ g ∧ g < C) (hr : r < B) : some r ≠ row := fun e => by
  have := (h r e.symm).1
  omega
theorem up_own {row : Option Nat} {A B C : Nat} (h : ∀ g, row = some g → B ≤ g ∧ g < C) (hr : A ≤ B) : ∀ g, row = some g → A ≤ g := fun g e => Nat.le_trans hr (h g e).1
theorem hcat_zero (L G : Nat → Nat → Nat) : hcat L 0 G = G := by funext i; unfold hcat; rw [if_neg (by omega), Nat.sub_zero]
set_option maxRecDepth 100000 in
set_option maxHeartbeats 16000000 in
theorem edgeOwn_walk {w : World} {z : Option Addr} {n c : Nat} {F : Nat → Nat → Nat} (hT : Tab w) (hx : HL w z n F) (_hc : n ≤ c) (_hcm : c ≤ maxLen) :
    Calls Tryd.prog 5 #[.slice z n c] w fun e w' => e = .returned (.bool true) ∧ Below w.heap.size w w' := by
  have HT := hide hT
  have HX := hide hx
  clear hT hx
  by_cases hn : n ≤ 60
  · have hq : (n : Int) ≤ 60 := by omega
    have HN := hide hn
    clear hn
    go_enter Tryd.func5, Tryd.ntmps5
    go_upto_region 3 with (go_at_call 8; refine Calls.mono (awake_any HT.out) ?_; rintro e W1 ⟨rfl, hb⟩; have HB1 := hide hb; clear hb)
    go_upto_region 4 with fail
    refine wp_world (fun X hX => ?_)
    obtain ⟨hB, hTa⟩ := boxT1 HX.out.lt HB1.out hX
    clear hX
    obtain ⟨b, hb⟩ : ∃ b, W1.heap.size = b := ⟨_, rfl⟩
    have hwb : w.heap.size ≤ b := by rw [← hb]; exact HB1.out.size
    rw [hb] at hTa ⊢
    have HB := hide hB
    have HTa := hide hTa
    clear hB hTa HB1 hb
    go_wp2_with fail
    go_loopg [4] n (fun g s4 wr => ∃ i : Nat, g = n - i ∧ i ≤ n ∧ s4 = .int .i64 (i : Int) ∧ Tr wr b i F ∧ Below w.heap.size w wr)
    case atStart => exact ⟨0, rfl, Nat.zero_le _, rfl, HTa.out, HB.out⟩
    case round =>
      clear HTa HB
      obtain ⟨i, rfl, hi, rfl, hTa, hB⟩ := hrel
      by_cases hlt : i < n
      · rcases HX.out.at_ with h0 | ⟨bz, oz, rfl, _⟩
        · omega
        have hlt' : (i : Int) < (n : Int) := by omega
        have HR := hide ((HX.out.keep hB).range hlt)
        have HP := hide (tr_push (HT.out.keep hB) hTa HX.out.lt (fun _ _ => rfl) (rfl : F i = F i) (by omega))
        have HB := hide hB
        clear hTa hB
        go_wp2_with (first
          | (refine wpList_load_h rfl _ rfl rfl HR.out ?_)
          | (go_at_call 15; refine Calls.mono HP.out ?_; rintro e W3 hp; obtain ⟨⟨v3, rfl⟩, hp2, hp3⟩ := hp; have HTa3 := hide hp2; have HB3 := hide (HB.out.grown hp3 HB.out.size (fun k hk => by cases hk; omega)); clear hp2 hp3))
        go_roundg (n - (i + 1))
        case measure => omega
        case rel => exact ⟨i + 1, rfl, hlt, by simp, HTa3.out, HB3.out⟩
      · obtain rfl : i = n := by omega
        have hT0 := HT.out.keep hB
        have hRt := tr_root hT0 hTa (by omega)
        have HE0 := hide (eL_lF HX.out.lt i)
        obtain ⟨L, hL⟩ : ∃ L, eL F i = L := ⟨_, rfl⟩
        obtain ⟨ro, hr⟩ : ∃ ro, rt F i = ro := ⟨_, rfl⟩
        rw [hr] at hRt
        rw [hL] at HE0
        unfold hv at hRt
        have HRt := hide hRt
        have HTa := hide hTa
        have HB := hide hB
        have HLl := hide hL
        have HRr := hide hr
        have HEq := hide (fun W => eqH_same ro W)
        clear hT0 hRt hTa hB hL hr
        go_upto_region 9 with (first
          | (go_at_call 13; refine Calls.mono HRt.out ?_; rintro e V1 ⟨rfl, hb⟩; have HV1 : Hid (Below wr.heap.size wr V1) := hb; clear hb)
          | (refine wpList_alloc_h rfl rfl ?_; intro V2 hr2 hb2; have HR2 := hide hr2; have HV2 := hide (Go.Proofs.YtjobcffelbddcaaDoor.K.call HV1.out hb2); clear hr2 hb2)
          | (refine wpList_store_h rfl _ _ rfl rfl rfl HR2.out ?_; intro V3 hr3 hg3; have HR3 := hide (RowB.range hr3); have HV3 := hide (HV2.out.grown hg3 HV2.out.size (fun k hk => by cases hk; exact HV1.out.size)); clear hr3 hg3))
        generalize V1.heap.size = rb at HR3 ⊢
        have hed := tr_edge (HTa.out.keep HV3.out) (by have := HN.out; omega)
        rw [HLl.out] at hed
        have HEd := hide hed
        clear hed HR2 HV2 HV1 HRt
        go_upto_region 10 with (go_at_call 11; refine Calls.mono HEd.out ?_; rintro e V4 hE; obtain ⟨v4, rfl, hO4, hB4⟩ := hE; obtain ⟨a4, c4, rfl, h1, h2⟩ := hO4.form; have HO4 := hide hO4; have HV4 := hide (Go.Proofs.YtjobcffelbddcaaDoor.K.call HV3.out hB4); have HR4 := hide (range_keep HR3.out hB4); have HC4 := hide (And.intro h1 h2); clear hO4 hB4 h1 h2)
        obtain ⟨k, hk⟩ : ∃ k, L.length = k := ⟨_, rfl⟩
        have HHl := HO4.out.hl HE0.out
        have HO5 := hide HO4.out
        rw [hk] at HHl HO5 HC4 ⊢
        have HH4 := hide HHl
        have hk9 : k ≤ 1000 := by
          have h := HLl.out
          obtain ⟨es, e1, e2⟩ := desc_ex i (by have := HN.out; omega)
          rw [← e2, eL_parts F e1] at h
          have h2 := desc_len es
          rw [← hk, ← h, pR_len]
          have := HN.out
          omega
        have HK := hide hk
        clear HHl hk HEd HO4
        go_upto_region 12 with (at_builtin; refine wpList_appH (base := V4.heap.size) rfl _ _ rfl rfl (OH.nil _ _ (fun _ _ => 0)) rfl HH4.out (by show 0 + k ≤ _; omega) (by show _ ≤ V4.heap.size; omega) ?_; intro v5 V5 ho5 hg5; rw [Nat.zero_add, hcat_zero] at ho5; obtain ⟨a5, c5, rfl, h51, h52⟩ := ho5.form; have HB5 : Hid (Below V4.heap.size V4 V5) := ⟨hg5.os, hg5.tape, hg5.output, hg5.size, fun i hi => hg5.block i hi (fun e => by cases e)⟩; have HO6 := hide ho5; clear ho5 hg5 h51 h52)
        have hO5 := HO5.out.keep HB5.out
        have hR5 := range_keep HR4.out HB5.out
        have hT5 := HTa.out.keep (Go.Proofs.YtjobcffelbddcaaDoor.K.call HV4.out HB5.out)
        have hW5 := Go.Proofs.YtjobcffelbddcaaDoor.K.call HB.out (Go.Proofs.YtjobcffelbddcaaDoor.K.call HV4.out HB5.out)
        have hrb : rb < V3.heap.size := World.block_lt_of_cell? V3 _ (HR3.out 0 _ (ab_at ro (by omega)))
        have HOo := hide hO5
        have HRo := hide hR5
        have HTo := hide hT5
        have HWo := hide hW5
        have hth : 0 < k → ∃ g, a4 = some ⟨g, 0, none⟩ ∧ V3.heap.size ≤ g ∧ g < V4.heap.size ∧ V5.there g 0 (k * 32) := fun h0 => by
          obtain ⟨g, e, e1, e2, _⟩ := OH.there HO5.out h0
          subst e
          obtain ⟨g', e', _, _, e3⟩ := OH.there hO5 h0
          cases e'
          exact ⟨g, rfl, e1, e2, e3⟩
        have HTh := hide hth
        have HOw := hide (own_lt HO5.out)
        have HRb := hide hrb
        have HWb := hide (Nat.le_trans HB.out.size HV3.out.size)
        clear hO5 hR5 hT5 hW5 hth HO5 HR4 HB5 HR3 hrb
        go_wp2_with fail
        go_loopg [8] k (fun g s8 wr2 => ∃ j : Nat, g = k - j ∧ j ≤ k ∧ s8 = .int .i64 (j : Int) ∧ V5.grownBy wr2 (Value.slice a4 k c4).ownBlock ∧ (0 < k → ∃ g, a4 = some ⟨g, 0, none⟩ ∧ wr2.there g 0 (k * 32)))
        case atStart => exact ⟨0, rfl, Nat.zero_le _, rfl, World.grownBy.refl _ _, fun h => by obtain ⟨g, e, _, _, e2⟩ := HTh.out h; exact ⟨g, e, e2⟩⟩
        case round =>
          obtain ⟨j, rfl, hj, rfl, hG, hth⟩ := hrel
          by_cases hlt : j < k
          · obtain ⟨g, rfl, ht⟩ := hth (by omega)
            have hlt' : (j : Int) < (k : Int) := by omega
            have HG := hide hG
            have HT2 := hide ht
            have HT3 := hide (there_part ht hlt (fun _ => 0))
            clear hG ht hth
            go_wp2_with (first
              | (refine wpList_zeroH (by rfl) rfl ?_; simp only [Act.put, List.setIfInBounds_toArray, List.set_cons_zero, List.set_cons_succ])
              | (refine wpList_store_hm rfl _ _ rfl rfl rfl HT3.out ?_; intro V7 hg7 ht7; have HG2 := hide (grown_trans HG.out hg7); have HT4 := hide (ht7 _ _ HT2.out); clear hg7 ht7))
            go_roundg (k - (j + 1))
            case measure => omega
            case rel => exact ⟨j + 1, rfl, hlt, by simp, HG2.out, fun _ => ⟨g, rfl, HT4.out⟩⟩
          · obtain rfl : j = k := by omega
            have hTr := HTo.out.row HOo.out hG
            have hR := rangeO HRo.out hG (no_own HOw.out HRb.out)
            have hO6 := HO6.out.apart' hG (fun g e => (HOw.out g e).2)
            have hW := HWo.out.grown hG HWo.out.size (up_own HOw.out HWb.out)
            have hr6 := tr_root (HT.out.keep hW) hTr (by have := HN.out; omega)
            obtain ⟨k5, c5', hf5, _, _⟩ := hO6.form
            cases hf5
            have HO6 := hide (hO6.hl HE0.out)
            have HR6 := hide hR
            have HT6 := hide hTr
            have HW6 := hide hW
            have HRt := hide (fun W (h : Below wr.heap.size wr W) => tr_root ((HT.out.keep HW6.out).keep h) (HT6.out.keep h) (by have := HN.out; omega))
            have HEd := hide (fun W (h : Below wr.heap.size wr W) => tr_edge (HT6.out.keep h) (by have := HN.out; omega))
            rw [HRr.out] at HRt
            rw [HLl.out] at HEd
            unfold hv at HRt
            clear hr6 hTr hR hO6 hW hth hG
            have HSm := hide (fun W (h : Below wr.heap.size wr W) a c (hx : HL W a j (lF L)) => refSame_any (x := a) (c := c) (d := c5) hx (HO6.out.keep h) (by omega))
            go_wp2_with fail
            refine wp_region_noPanic ?_
            refine wp_region_held_drew (S := fun w' => Below wr.heap.size wr w') (by kernel_rfl) (Go.Proofs.YtjobcffelbddcaaDoor.K.drew (Below.refl _ wr)) (fun hS0 => ?_)
            refine wpAnyH_take (i := 0) (v := .pointer (some ⟨b, 0, none⟩)) rfl (by kernel_rfl) (by kernel_rfl) (by kernel_rfl) (fun _ _ _ h => h) (Or.inl ⟨by rfl, fun w' _ => by go_simp⟩) hS0 ?_
            simp only [Act.put, List.getElem_toArray, List.getElem_cons_zero, List.setIfInBounds_toArray, List.set_cons_zero, List.set_cons_succ]
            refine wpAnyH_take (i := 2) (v := .agg (ab ro 32).toArray) rfl (by kernel_rfl) (by kernel_rfl) (by kernel_rfl) (fun _ _ _ h => h) (yieldsIf_load_mid (by rfl) 33 _ rfl rb 0 (by rfl) (ab ro 32) _ (fun w' hS => range_keep HR6.out hS) Tryd.underlying33 rfl (ilH _)) hS0 ?_
            simp only [Act.put, List.getElem_toArray, List.getElem_cons_zero, List.getElem_cons_succ, List.setIfInBounds_toArray, List.set_cons_zero, List.set_cons_succ]
            refine wpAnyH_ready (rs := [1]) (by kernel_rfl) (by simp) (AllReadyH.cons rfl (fun Kt hK => ?_) AllReadyH.nil)
            refine wanted_pos rfl ?_
            refine wp_call (R := fun r w' => r = .agg (ab ro 32).toArray ∧ Below wr.heap.size wr w') (vs := #[.pointer (some ⟨b, 0, none⟩)]) rfl (by simp only [List.map_toArray, List.map_cons, List.map_nil]; rfl) (by go_simp) (Calls.mono (HRt.out _ hS0) (fun e w' ⟨he, hb⟩ => ⟨_, he, rfl, K.call hS0 hb⟩)) (fun r W1 ⟨hr, hb⟩ => ?_)
            subst hr
            refine hK.out _ _ hb (fun hS1 => ?_)
            clear hK Kt hb
            simp only [Act.put, List.getElem_toArray, List.getElem_cons_zero, List.getElem_cons_succ, List.setIfInBounds_toArray, List.set_cons_zero, List.set_cons_succ]
            refine wpAnyH_take (i := 3) (v := .bool true) rfl (by kernel_rfl) (by kernel_rfl) (by kernel_rfl) (fun _ _ _ h => h) (yieldsIf_eqH (by rfl) (ab ro 32).toArray (ab ro 32).toArray true rfl (by rfl) (by rfl) HEq.out) hS1 ?_
            simp only [Act.put, List.getElem_toArray, List.getElem_cons_zero, List.getElem_cons_succ, List.setIfInBounds_toArray, List.set_cons_zero, List.set_cons_succ]
            refine wpAnyH_take (i := 4) (v := .bool true) rfl (by kernel_rfl) (by kernel_rfl) (by kernel_rfl) (fun _ _ _ h => h) (Or.inl ⟨by rfl, fun w' _ => by go_simp⟩) hS1 ?_
            simp only [Act.put, List.getElem_toArray, List.getElem_cons_zero, List.getElem_cons_succ, List.setIfInBounds_toArray, List.set_cons_zero, List.set_cons_succ]
            refine wpAnyH_take (i := 5) (v := .pointer (some ⟨b, 0, none⟩)) rfl (by kernel_rfl) (by kernel_rfl) (by kernel_rfl) (fun _ _ _ h => h) (Or.inl ⟨by rfl, fun w' _ => by go_simp⟩) hS1 ?_
            simp only [Act.put, List.getElem_toArray, List.getElem_cons_zero, List.getElem_cons_succ, List.setIfInBounds_toArray, List.set_cons_zero, List.set_cons_succ]
            refine wpAnyH_take (i := 7) (v := .slice a5 j c5) rfl (by kernel_rfl) (by kernel_rfl) (by kernel_rfl) (fun _ _ _ h => h) (Or.inl ⟨by rfl, fun w' _ => by go_simp⟩) hS1 ?_
            simp only [Act.put, List.getElem_toArray, List.getElem_cons_zero, List.getElem_cons_succ, List.setIfInBounds_toArray, List.set_cons_zero, List.set_cons_succ]
            refine wpAnyH_ready (rs := [6]) (by kernel_rfl) (by simp) (AllReadyH.cons rfl (fun Kt hK => ?_) AllReadyH.nil)
            refine wanted_pos rfl ?_
            refine wp_call (R := fun r w' => ∃ a c, r = .slice a j c ∧ HL w' a j (lF L) ∧ Below wr.heap.size wr w') (vs := #[.pointer (some ⟨b, 0, none⟩)]) rfl (by simp only [List.map_toArray, List.map_cons, List.map_nil]; rfl) (by go_simp) (Calls.mono (HEd.out _ hS1) (fun e w' hE => by
              obtain ⟨v, he, ho, hb⟩ := hE
              obtain ⟨a, c, e2, _, _⟩ := ho.form
              subst e2
              have hh := ho.hl HE0.out
              rw [HK.out] at hh he
              exact ⟨_, he, a, c, rfl, hh, K.call hS1 hb⟩)) (fun r W2 hr => ?_)
            obtain ⟨ae, ce, hr, hhl, hb⟩ := hr
            subst hr
            have HHe := hide hhl
            refine hK.out _ _ hb (fun hS2 => ?_)
            clear hK Kt hb hhl
            simp only [Act.put, List.getElem_toArray, List.getElem_cons_zero, List.getElem_cons_succ, List.setIfInBounds_toArray, List.set_cons_zero, List.set_cons_succ]
            refine wpAnyH_ready (rs := [8]) (by kernel_rfl) (by simp) (AllReadyH.cons rfl (fun Kt hK => ?_) AllReadyH.nil)
            refine wanted_pos rfl ?_
            refine wp_call (R := fun r w' => r = .bool true ∧ Below wr.heap.size wr w') (vs := #[.slice ae j ce, .slice a5 j c5]) rfl (by simp only [List.map_toArray, List.map_cons, List.map_nil]; rfl) (by go_simp) (Calls.mono (HSm.out _ hS2 ae ce HHe.out) (fun e w' ⟨he, hb⟩ => ⟨_, he, by rw [eqL_same]; simp, K.call hS2 hb⟩)) (fun r W3 ⟨hr, hb⟩ => ?_)
            subst hr
            refine hK.out _ _ hb (fun hS3 => ?_)
            clear hK Kt hb
            simp only [Act.put, List.getElem_toArray, List.getElem_cons_zero, List.getElem_cons_succ, List.setIfInBounds_toArray, List.set_cons_zero, List.set_cons_succ]
            refine wpAnyH_take (i := 9) (v := .bool true) rfl (by kernel_rfl) (by kernel_rfl) (by kernel_rfl) (fun _ _ _ h => h) (Or.inl ⟨by rfl, fun w' _ => by go_simp⟩) hS3 ?_
            simp only [Act.put, List.getElem_toArray, List.getElem_cons_zero, List.getElem_cons_succ, List.setIfInBounds_toArray, List.set_cons_zero, List.set_cons_succ]
            refine wpAnyH_take (i := 10) (v := .bool true) rfl (by kernel_rfl) (by kernel_rfl) (by kernel_rfl) (fun _ _ _ h => h) (Or.inl ⟨by rfl, fun w' _ => by go_simp⟩) hS3 ?_
            simp only [Act.put, List.getElem_toArray, List.getElem_cons_zero, List.getElem_cons_succ, List.setIfInBounds_toArray, List.set_cons_zero, List.set_cons_succ]
            refine wpAnyH_done (by kernel_rfl) ?_ _
            refine NoPanic.normal ?_
            go_wp2_with fail
            go_ret
            exact ⟨rfl, K.call HW6.out hS3⟩
  · have hq : (60 : Int) < (n : Int) := by omega
    clear hn
    go_enter Tryd.func5, Tryd.ntmps5
    go_upto_region 2 with (go_at_call 8; refine Calls.mono (awake_any HT.out) ?_; rintro e W1 ⟨rfl, hb⟩; have HB1 := hide hb; clear hb)
    go_wp2_with (go_at_call 8; refine Calls.mono (awake_any (HT.out.keep HB1.out)) ?_; rintro e W2 ⟨rfl, hb⟩; have HB2 := hide (Go.Proofs.YtjobcffelbddcaaDoor.K.call HB1.out hb); clear hb)
    go_ret
    exact ⟨rfl, HB2.out⟩
end Go.Proofs.YtjobcffelbddcaaDoor
