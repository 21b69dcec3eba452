/- Layer 19: the program's own Path. Layer 19's laws: when a path or a proof leads there. Layer 19: the program's own rise: to two roots, by the sides. -/
import Derived.Test.YtkpkkjcfodjifaaDoorMB11
import Derived.Test.YtkpkkjcfodjifaaDoorMB06
import Derived.Test.YtkpkkjcfodjifaaDoorMB08
namespace Go.Proofs.YtkpkkjcfodjifaaDoor
set_option maxRecDepth 100000
open Go.RowKit
attribute [local go_sem ↓] Go.wp_at_zero Go.wp_at_succ

/-- A list's hashes from the u-th on. -/
def ls (F : Nat → Nat → Nat) (u l : Nat) : List (Nat → Nat) := (List.range (l - u)).map fun i => F (u + i)
theorem ls_nil (F : Nat → Nat → Nat) (l : Nat) : ls F l l = [] := by unfold ls; rw [Nat.sub_self]; rfl
theorem ls_len (F : Nat → Nat → Nat) (u l : Nat) : (ls F u l).length = l - u := by unfold ls; rw [List.length_map, List.length_range]
theorem ls_cons (F : Nat → Nat → Nat) {u l : Nat} (h : u < l) : ls F u l = F u :: ls F (u + 1) l := by
  unfold ls
  obtain ⟨k, hk⟩ : ∃ k, l - u = k + 1 := ⟨l - u - 1, by omega⟩
  rw [hk, List.range_succ_eq_map, List.map_cons, List.map_map, show l - (u + 1) = k by omega]
  congr 1
  refine List.map_congr_left fun i _ => ?_
  show F (u + (i + 1)) = F (u + 1 + i)
  rw [Nat.add_assoc, Nat.add_comm 1 i]
theorem ls_rev (F : Nat → Nat → Nat) : ∀ l, (ls F 0 l).reverse = rv F l
  | 0 => rfl
  | l + 1 => by
    unfold ls
    have e : (fun i => F (0 + i)) = F := funext fun i => by rw [Nat.zero_add]
    rw [Nat.sub_zero, List.range_succ, List.map_append, List.reverse_append, rv, ← ls_rev F l]
    unfold ls
    rw [Nat.sub_zero, e]
    rfl
theorem Vs.tail {w0 W : World} {p : Nat × (Nat → Nat)} {L : List (Nat × (Nat → Nat))} (h : Vs w0 W (p :: L)) : Vs w0 W L :=
  ⟨h.k, (fun q hq => h.at_ q (List.mem_cons_of_mem _ hq)), (List.nodup_cons.1 (by have := h.dn; rwa [List.map_cons] at this)).2⟩
theorem ap_drop {β : Type} {A B : (Nat → Nat) → β → β} {S : List Bool} {i l : Nat} {F : Nat → Nat → Nat} {x : β} {O : Option β} (h : ap A B (S.drop i) (ls F i l) x = O) (hi : i < l) (hl : S.length = l) :
    ∃ s, S[i]? = some s ∧ ap A B (S.drop (i + 1)) (ls F (i + 1) l) (if s then A (F i) x else B (F i) x) = O := by
  have h1 : i < S.length := by omega
  refine ⟨S[i], List.getElem?_eq_getElem h1, ?_⟩
  rw [List.drop_eq_getElem_cons h1, ls_cons F hi] at h
  exact h
theorem ap_done {β : Type} {A B : (Nat → Nat) → β → β} {S : List Bool} {l : Nat} {F : Nat → Nat → Nat} {x : β} {O : Option β} (h : ap A B (S.drop l) (ls F l l) x = O) (hl : S.length = l) : some x = O := by
  rw [List.drop_eq_nil_of_le (by omega), ls_nil] at h
  exact h
/-- While the hashes go to their sides: i of them have. -/
structure PcR (w wr : World) (x : Nat) (S : List Bool) (F : Nat → Nat → Nat) (l : Nat) (O : Option (Nat → Nat)) (i : Nat) (hc : Nat → Nat) : Prop where
  v : Vs w wr [(x, hc)]
  e : ap qA qB (S.drop i) (ls F i l) hc = O
  il : i ≤ l
  lt : ∀ j, hc j < 256
theorem wrap_u {u : Nat} (h : u ≤ 100000) : wrap64 ((u : Int) + 1) = (u : Int) + 1 := by unfold wrap64; omega
set_option maxRecDepth 100000 in
set_option maxHeartbeats 8000000 in
theorem checkPath_any {w : World} {y : Option Addr} {l c : Nat} {m n : Int} {F : Nat → Nat → Nat} {f g : Nat → Nat} (hT : Tab w) (hL : HL w y l F) (hc : l ≤ c) (hmx : c ≤ maxLen) (hl : l ≤ 100000) (hn : n < 9223372036854775808) (hf : ∀ j, f j < 256) (_hg : ∀ j, g j < 256) :
    Calls Tryd.prog 10 #[.int .i64 m, .int .i64 n, hv f, .slice y l c, hv g] w fun e w' => e = .returned (.bool (ckP m n f (rv F l) g)) ∧ Below w.heap.size w w' := by
  by_cases h : m < 0 ∨ n ≤ m
  · rw [ckP_not h]
    unfold hv
    rcases h with h | h
    · clear hT hL hc hmx hn hf _hg hl
      go_enter Tryd.func10, Tryd.ntmps10
      go_upto_region 1 with fail
      refine wp_world (fun X hX => ?_)
      have hv := Vs.boxedg hX
      clear hX
      obtain ⟨b0, hb0⟩ : ∃ b0, w.heap.size = b0 := ⟨_, rfl⟩
      rw [hb0] at hv ⊢
      have HV := hide hv
      clear hv hb0
      go_wp2_with fail
      go_ret
      exact ⟨rfl, HV.out.k⟩
    · by_cases h0 : m < 0
      · clear hT hL hc hmx hn hf _hg h hl
        go_enter Tryd.func10, Tryd.ntmps10
        go_upto_region 1 with fail
        refine wp_world (fun X hX => ?_)
        have hv := Vs.boxedg hX
        clear hX
        obtain ⟨b0, hb0⟩ : ∃ b0, w.heap.size = b0 := ⟨_, rfl⟩
        rw [hb0] at hv ⊢
        have HV := hide hv
        clear hv hb0
        go_wp2_with fail
        go_ret
        exact ⟨rfl, HV.out.k⟩
      · clear hT hL hc hmx hn hf _hg hl
        go_enter Tryd.func10, Tryd.ntmps10
        go_upto_region 1 with fail
        refine wp_world (fun X hX => ?_)
        have hv := Vs.boxedg hX
        clear hX
        obtain ⟨b0, hb0⟩ : ∃ b0, w.heap.size = b0 := ⟨_, rfl⟩
        rw [hb0] at hv ⊢
        have HV := hide hv
        clear hv hb0
        go_wp2_with fail
        go_ret
        exact ⟨rfl, HV.out.k⟩
  · obtain ⟨m, rfl⟩ := Int.eq_ofNat_of_zero_le (show 0 ≤ m by omega)
    obtain ⟨n, rfl⟩ := Int.eq_ofNat_of_zero_le (show 0 ≤ n by omega)
    have hmn : m < n := by omega
    rw [ckP_nat hmn, ← ls_rev F l, ld_lv n m f _ hmn, lv_fe]
    have hq1 : ¬ ((m : Int) < 0) := by omega
    have hq2 : ¬ ((n : Int) ≤ (m : Int)) := by omega
    obtain ⟨z0, hz0⟩ : ∃ z, n = z + 1 := ⟨n - 1, by omega⟩
    have hwn : wrap64 ((n : Int) - 1) = (z0 : Int) := by unfold wrap64; omega
    obtain ⟨S, hS⟩ : ∃ S, fe n m = S := ⟨_, rfl⟩
    have hfe := fun W => fellows_any (w := W) (a := m) (z := z0) (by omega) (by omega)
    rw [← hz0, hS] at hfe
    rw [hS]
    obtain ⟨k, hk⟩ : ∃ k, S.length = k := ⟨_, rfl⟩
    have HFe := hide hfe
    obtain ⟨O, hO⟩ : ∃ O, ap qA qB S (ls F 0 l) f = O := ⟨_, rfl⟩
    have HT := hide hT
    have HLs := hide hL
    have HC := hide (And.intro hc (And.intro hmx hl))
    have HF := hide hf
    have HK := hide hk
    have HO := hide hO
    rw [hO]
    clear hT hL hc hmx hn hf _hg h hmn hz0 hfe hS
    unfold hv
    go_enter Tryd.func10, Tryd.ntmps10
    go_upto_region 1 with fail
    refine wp_world (fun X hX => ?_)
    have hv := Vs.boxedg hX
    clear hX
    obtain ⟨b0, hb0⟩ : ∃ b0, w.heap.size = b0 := ⟨_, rfl⟩
    rw [hb0] at hv ⊢
    have HV := hide hv
    clear hv hb0
    go_upto_region 4 with (go_at_call 19; refine Calls.mono (HFe.out _) ?_; rintro e X1 hE; obtain ⟨xs, cs, rfl, hsd, hsc, hsm, hb⟩ := hE; have HV1 := hide (HV.out.keep hb); have HS := hide (And.intro hsd (And.intro hsc hsm)); clear hsd hsc hsm hb HV)
    clear HFe hwn hq1 hq2
    by_cases hlk : l = k
    · subst hlk
      have hNe : ((l : Int) != (l : Int)) = false := by rw [bne_eq_false_iff_eq]
      have hTX := HT.out.keep HV1.out.k
      have HTX := hide hTX
      have HLX := hide (HLs.out.keep HV1.out.k)
      have hv0 := Vs.nil X1
      have HN := hide hv0
      clear hO hTX hv0 hl hk HT HLs
      go_upto_region 7 with (first
        | (refine HN1.out.listPut (b := x) 0 rfl rfl rfl rfl rfl (fun X3 hv => ?_); have HN2 : Hid (Vs X1 X3 [(x, f)]) := hide hv; clear hv HN1)
        | (refine HN.out.listNew rfl rfl (fun x X2 hv hb => ?_); have HN1 := hide hv; clear hv hb HN)
        | (refine wpList_load_h (g := b0) rfl _ rfl rfl (HV1.out.rg 1 rfl) ?_))
      go_upto_region 8 with fail
      go_loopg [34] l (fun g' s34 wr => ∃ (G i : Nat) (hc : Nat → Nat), G = g' ∧ i + G = l ∧ s34 = .int .i64 (i : Int) ∧ PcR X1 wr x S F l O i hc)
      case atStart => exact ⟨l, 0, f, rfl, by omega, rfl, HN2.out, HO.out, Nat.zero_le _, HF.out⟩
      case round =>
        clear HN2
        obtain ⟨G, i, hc, rfl, hil, rfl, hE⟩ := hrel
        have HE := hide hE
        have HV := hide hE.v
        have hee := hE.e
        have hlt := hE.lt
        clear hE
        by_cases hi : i = l
        · subst hi
          obtain rfl : some hc = O := ap_done hee HK.out
          show Code.wp _ _ _ _ _
          clear hee hlt hil
          have HEq := hide (fun W => eqH hc g W)
          cases he : eqB hc g 32 with
          | true =>
            rw [he] at HEq
            go_wp2_with (first | (refine wpList_load_g (g := x) (by rfl) _ rfl rfl (HV.out.rg 0 rfl) ?_; simp only [Act.put, List.setIfInBounds_toArray, List.set_cons_zero, List.set_cons_succ]) | (refine wpList_load_g (g := b0 + 1) (by rfl) _ rfl rfl (range_keep (HV1.out.rg 0 rfl) HV.out.k) ?_; simp only [Act.put, List.setIfInBounds_toArray, List.set_cons_zero, List.set_cons_succ]) | (refine wpList_eqH (by rfl) _ _ _ rfl _ _ true rfl rfl (HEq.out _) ?_; simp only [Act.put, List.setIfInBounds_toArray, List.set_cons_zero, List.set_cons_succ]))
            go_ret
            exact ⟨rfl, Go.Proofs.YtkpkkjcfodjifaaDoor.K.call HV1.out.k HV.out.k⟩
          | false =>
            rw [he] at HEq
            go_wp2_with (first | (refine wpList_load_g (g := x) (by rfl) _ rfl rfl (HV.out.rg 0 rfl) ?_; simp only [Act.put, List.setIfInBounds_toArray, List.set_cons_zero, List.set_cons_succ]) | (refine wpList_load_g (g := b0 + 1) (by rfl) _ rfl rfl (range_keep (HV1.out.rg 0 rfl) HV.out.k) ?_; simp only [Act.put, List.setIfInBounds_toArray, List.set_cons_zero, List.set_cons_succ]) | (refine wpList_eqH (by rfl) _ _ _ rfl _ _ false rfl rfl (HEq.out _) ?_; simp only [Act.put, List.setIfInBounds_toArray, List.set_cons_zero, List.set_cons_succ]))
            go_ret
            exact ⟨rfl, Go.Proofs.YtkpkkjcfodjifaaDoor.K.call HV1.out.k HV.out.k⟩
        · have hi2 : i < l := by omega
          obtain ⟨s, hs, hee2⟩ := ap_drop hee hi2 HK.out
          have hiI : (i : Int) < (l : Int) := by omega
          have hic : i < l := hi2
          obtain ⟨bz, oz, rfl⟩ := HLX.out.ad (Nat.lt_of_le_of_lt (Nat.zero_le _) hi2)
          obtain ⟨bs, os, rfl, hsd⟩ : ∃ b o, xs = some ⟨b, o, none⟩ ∧ ∀ i s, S[i]? = some s → X1.cell? ⟨b, o + i, none⟩ = some (sdv s) := by
            rcases HS.out.1 with h | h
            · have := HK.out
              rw [h] at this
              have h0 : 0 = l := this
              omega
            · exact h
          have HSd := hide (hsd i s hs)
          obtain ⟨t, ht⟩ : ∃ t, F i = t := ⟨_, rfl⟩
          have htl : ∀ j, t j < 256 := by rw [← ht]; exact HLX.out.lt i
          have hRi : X1.rangeAt bz (oz + i * 32) (ab t 32) := by rw [← ht]; exact HLX.out.rangeA hi2
          rw [ht] at hee2
          have HRi := hide hRi
          have HTl := hide htl
          have HLt := hide hlt
          have hi9 : i ≤ 100000 := by have := HC.out.2.2; omega
          have hwi := wrap_u hi9
          have hlc0 : ¬ (c = 0) := by have := HC.out.1; omega
          have hsc0 : ¬ (cs = 0) := by have h1 := HS.out.2.1; rw [HK.out] at h1; omega
          have hcnt : i + 1 + (G - 1) = l := by omega
          have hg1 : G - 1 < G := by omega
          have HM := hide (And.intro hcnt (And.intro hg1 hi2))
          clear hRi htl ht hlt hee hsd hi hil hcnt hg1 hs hi9
          go_upto_region 10 with (first
            | (refine HV3.out.listPut (b := q) 0 rfl rfl rfl rfl rfl (fun Y3 hv => ?_); have HV4 : Hid (Vs X1 Y3 [(q, t), (x, hc)]) := hide hv; clear hv HV3)
            | (refine HV.out.listNew rfl rfl (fun q Y2 hv hb => ?_); have HV3 := hide hv; clear hv hb)
            | (refine wpList_load_h (g := bz) rfl _ rfl rfl (range_keep HRi.out HV.out.k) ?_))
          have hcell := later HV4.out.k HSd.out
          clear HV HE
          cases s with
          | true =>
            have hX : ap qA qB (S.drop (i + 1)) (ls F (i + 1) l) (nd t hc) = O := hee2
            have HNd' := fun W (h : Below X1.heap.size X1 W) => node_any (w := W) (HTX.out.keep h) HTl.out HLt.out
            obtain ⟨u1, hu1⟩ : ∃ f, nd t hc = f := ⟨_, rfl⟩
            have hu1l : ∀ j, u1 j < 256 := by rw [← hu1]; exact nd_lt t hc
            unfold hv at HNd'
            rw [hu1] at hX HNd'
            have HX := hide (And.intro hX hu1l)
            have HNd := hide HNd'
            have hcell2 : Y3.cell? ⟨bs, os + i, none⟩ = some (.int .i64 0) := hcell
            clear hX HNd' hu1 hu1l hee2 hcell
            go_upto_region 11 with fail
            clear hcell2
            go_upto_region 13 with (first
              | (refine HV5.out.listPut (b := x) 1 rfl rfl rfl rfl rfl (fun Y5 hv => ?_); have HV6 : Hid (Vs X1 Y5 [(q, t), (x, u1)]) := hide hv; clear hv HV5)
              | (go_at_call 20; (with_reducible refine Calls.mono (HNd.out _ HV4.out.k) ?_); rintro e Y4 ⟨rfl, hb⟩; have HV5 := hide (HV4.out.keep hb); clear hb HV4)
              | (refine wpList_load_h (g := x) rfl _ rfl rfl (HV4.out.rg 1 rfl) ?_)
              | (refine wpList_load_h (g := q) rfl _ rfl rfl (HV4.out.rg 0 rfl) ?_))
            go_wp2_with fail
            go_roundg (G - 1)
            case measure => exact HM.out.2.1
            case rel => exact ⟨G - 1, i + 1, u1, rfl, HM.out.1, by first | rfl | exact congrArg (Value.int .i64) hwi, HV6.out.tail, HX.out.1, HM.out.2.2, HX.out.2⟩
          | false =>
            have hX : ap qA qB (S.drop (i + 1)) (ls F (i + 1) l) (nd hc t) = O := hee2
            have HNd' := fun W (h : Below X1.heap.size X1 W) => node_any (w := W) (HTX.out.keep h) HLt.out HTl.out
            obtain ⟨u1, hu1⟩ : ∃ f, nd hc t = f := ⟨_, rfl⟩
            have hu1l : ∀ j, u1 j < 256 := by rw [← hu1]; exact nd_lt hc t
            unfold hv at HNd'
            rw [hu1] at hX HNd'
            have HX := hide (And.intro hX hu1l)
            have HNd := hide HNd'
            have hcell2 : Y3.cell? ⟨bs, os + i, none⟩ = some (.int .i64 1) := hcell
            clear hX HNd' hu1 hu1l hee2 hcell
            go_upto_region 12 with fail
            clear hcell2
            go_upto_region 13 with (first
              | (refine HV5.out.listPut (b := x) 1 rfl rfl rfl rfl rfl (fun Y5 hv => ?_); have HV6 : Hid (Vs X1 Y5 [(q, t), (x, u1)]) := hide hv; clear hv HV5)
              | (go_at_call 20; (with_reducible refine Calls.mono (HNd.out _ HV4.out.k) ?_); rintro e Y4 ⟨rfl, hb⟩; have HV5 := hide (HV4.out.keep hb); clear hb HV4)
              | (refine wpList_load_h (g := x) rfl _ rfl rfl (HV4.out.rg 1 rfl) ?_)
              | (refine wpList_load_h (g := q) rfl _ rfl rfl (HV4.out.rg 0 rfl) ?_))
            go_wp2_with fail
            go_roundg (G - 1)
            case measure => exact HM.out.2.1
            case rel => exact ⟨G - 1, i + 1, u1, rfl, HM.out.1, by first | rfl | exact congrArg (Value.int .i64) hwi, HV6.out.tail, HX.out.1, HM.out.2.2, HX.out.2⟩
    · have hNe : ((l : Int) != (k : Int)) = true := by rw [bne_iff_ne]; omega
      obtain rfl : none = O := by
        rw [← hO]
        exact (ap_len qA qB S _ _ (by rw [hk, ls_len]; omega)).symm
      clear hO hl hk hlk
      go_wp2_with fail
      go_ret
      exact ⟨rfl, HV1.out.k⟩
end Go.Proofs.YtkpkkjcfodjifaaDoor
namespace Go.Proofs.YtkpkkjcfodjifaaDoor
set_option maxRecDepth 100000
open Go.RowKit
attribute [local go_sem ↓] Go.wp_at_zero Go.wp_at_succ

theorem eqB_refl (f : Nat → Nat) : eqB f f 32 = true := decide_eq_true (fun _ _ => rfl)
theorem ckP_right {m n : Nat} (F : Nat → Nat → Nat) (h : m < n) : ckP (m : Int) (n : Int) (F m) (pth F n m).reverse (rt F n) = true := by
  rw [ckP_nat h, ld_pth n m F h]
  exact eqB_refl _
theorem ckT_right {m n : Nat} (F : Nat → Nat → Nat) (h1 : 1 ≤ m) (h : m ≤ n) : ckT (m : Int) (n : Int) (rt F m) (prf F n m true).reverse (rt F n) = true := by
  rw [ckT_nat h1 h, tw_prf n m true F _ h1 h (fun _ => rfl)]
  show (eqB _ _ 32 && eqB _ _ 32) = true
  rw [eqB_refl, eqB_refl]
  rfl
theorem ckP_len {m n : Nat} (F : Nat → Nat → Nat) (h : m < n) (f : Nat → Nat) (r : List (Nat → Nat)) (g : Nat → Nat) (hr : r.length ≠ (pth F n m).length) : ckP (m : Int) (n : Int) f r g = false := by
  rw [ckP_nat h]
  have hs := ld_len n m f r F h
  rw [decide_eq_false hr] at hs
  cases hl : ld n m f r with
  | none => rfl
  | some y => rw [hl] at hs; cases hs
theorem ckT_len {m n : Nat} (F : Nat → Nat → Nat) (h1 : 1 ≤ m) (h : m ≤ n) (f : Nat → Nat) (r : List (Nat → Nat)) (g : Nat → Nat) (hr : r.length ≠ (prf F n m true).length) : ckT (m : Int) (n : Int) f r g = false := by
  rw [ckT_nat h1 h]
  have hs := tw_len n m true f r F h1 h
  rw [decide_eq_false hr] at hs
  cases hl : tw n m true f r with
  | none => rfl
  | some y => rw [hl] at hs; cases hs
theorem ckT_all {k : Nat} (hk : 1 ≤ k) (f g : Nat → Nat) : ckT (k : Int) (k : Int) f [] g = eqB f g 32 := by
  rw [ckT_nat hk (Nat.le_refl _), tw_end true f _ (Or.inl (Nat.le_refl _))]
  show (eqB f f 32 && eqB f g 32) = _
  rw [eqB_refl, Bool.true_and]
theorem ckT_alls {k : Nat} (hk : 1 ≤ k) (f g t : Nat → Nat) (r : List (Nat → Nat)) : ckT (k : Int) (k : Int) f (t :: r) g = false := by
  rw [ckT_nat hk (Nat.le_refl _), tw_end true f _ (Or.inl (Nat.le_refl _))]
  rfl
theorem ckP_one (f g : Nat → Nat) : ckP 0 1 f [] g = eqB f g 32 := by
  have h := ckP_nat (m := 0) (n := 1) (by omega) f [] g
  rw [ld_one 0 f [] (by omega)] at h
  exact h
theorem ckP_ones (f g t : Nat → Nat) (r : List (Nat → Nat)) : ckP 0 1 f (t :: r) g = false := by
  have h := ckP_nat (m := 0) (n := 1) (by omega) f (t :: r) g
  rw [ld_one 0 f (t :: r) (by omega)] at h
  exact h
theorem mod_n' {m : Int} {n : Nat} (hm0 : 0 ≤ m) (hn : 0 < n) : ∃ k : Nat, m.tmod (n : Int) = (k : Int) ∧ k < n := mod_n hm0 hn
theorem wrap_n' {k : Nat} (h : k ≤ 1000) : wrap64 (k : Int) = (k : Int) := by unfold wrap64; omega
theorem wrap_m' {m : Int} (h0 : 0 ≤ m) (h1 : m < 256) : wrap64 m = m := by unfold wrap64; omega
theorem hk5_build : Tryd.prog.built 23 [(0, .int .u8 5)] = some (ab (hk 5) 32).toArray := by kernel_rfl
theorem wpList_hk5 {w : World} {ops : Array Oper} {rest : List Oper} {op : Oper} {a : Act} {Q : Exit → Act → World → Prop} (hw : Region.wanted op (yielded ops a.tmps) = true) (ho : op.op = .build 23 #[(0, .const (.int .u8 5))])
    (h : wpList Tryd.prog ops Q rest (a.put op.dst (.agg (ab (hk 5) 32).toArray)) w) : wpList Tryd.prog ops Q (op :: rest) a w :=
  wpList_buildC hw 23 _ ho _ (by simp only [List.map_toArray, List.map_cons, List.map_nil]; exact hk5_build) h
end Go.Proofs.YtkpkkjcfodjifaaDoor
namespace Go.Proofs.YtkpkkjcfodjifaaDoor
set_option maxRecDepth 100000
open Go.RowKit
attribute [local go_sem ↓] Go.wp_at_zero Go.wp_at_succ

/-- While the hashes go to their sides: i of them have; both roots so far. -/
structure RsR (w wr : World) (b : Nat) (S : List Bool) (F : Nat → Nat → Nat) (l : Nat) (f : Nat → Nat) (O : Option ((Nat → Nat) × (Nat → Nat))) (i : Nat) (ha hb : Nat → Nat) : Prop where
  v : Vs w wr [(b + 2, hb), (b + 1, ha), (b, f)]
  e : ap pA pB (S.drop i) (ls F i l) (ha, hb) = O
  il : i ≤ l
  lt : ∀ j, ha j < 256
  lt2 : ∀ j, hb j < 256
set_option maxRecDepth 100000 in
set_option maxHeartbeats 16000000 in
theorem rise_any {w : World} {y xs : Option Addr} {l c k cs : Nat} {S : List Bool} {F : Nat → Nat → Nat} {f : Nat → Nat} (hT : Tab w) (hS : SdL w xs S) (hk : S.length = k) (hkc : k ≤ cs) (hL : HL w y l F) (hc : l ≤ c) (hl : l ≤ 100000) (hf : ∀ j, f j < 256) :
    Calls Tryd.prog 22 #[hv f, .slice xs k cs, .slice y l c] w (TwP w (ap pA pB S (ls F 0 l) (f, f))) := by
  have HF := hide hf
  unfold hv
  by_cases hlk : l = k
  · subst hlk
    have hNe : ((l : Int) != (l : Int)) = false := by rw [bne_eq_false_iff_eq]
    have HT := hide hT
    have HS := hide hS
    have HK := hide hk
    have HLX := hide hL
    have HC := hide (And.intro hc (And.intro hkc hl))
    obtain ⟨O, hO⟩ : ∃ O, ap pA pB S (ls F 0 l) (f, f) = O := ⟨_, rfl⟩
    have HO := hide hO
    rw [hO]
    clear hO hT hS hk hkc hL hc hl hf
    go_enter Tryd.func22, Tryd.ntmps22
    go_upto_region 1 with fail
    refine wp_world (fun X hX => ?_)
    rw [zeros32] at hX
    have hv := Vs.boxed2 hX
    clear hX
    obtain ⟨b0, hb0⟩ : ∃ b0, w.heap.size = b0 := ⟨_, rfl⟩
    rw [hb0] at hv ⊢
    have HV := hide hv
    clear hv hb0
    go_upto_region 3 with fail
    have HVd := hide HV.out.drew
    refine wp_region_noPanic ?_
    refine wp_region_held_drew (S := Sv w [(b0, f)]) (by kernel_rfl) (HVd.out.sv (by simp)) (fun hS0 => ?_)
    refine wpAnyH_take (i := 0) (v := .agg (ab f 32).toArray) rfl (by kernel_rfl) (by kernel_rfl) (by kernel_rfl) (fun _ _ _ h => h) (yieldsIf_load_mid (by rfl) 23 _ rfl b0 0 (by rfl) (ab f 32) _ (fun w' hS => hS.rg 0 rfl) Tryd.underlying23 rfl (ilH _)) hS0 ?_
    simp only [Act.put, List.getElem_toArray, List.getElem_cons_zero, List.setIfInBounds_toArray, List.set_cons_zero, List.set_cons_succ]
    refine wpAnyH_take (i := 1) (v := .agg (ab f 32).toArray) rfl (by kernel_rfl) (by kernel_rfl) (by kernel_rfl) (fun _ _ _ h => h) (yieldsIf_load_mid (by rfl) 23 _ rfl b0 0 (by rfl) (ab f 32) _ (fun w' hS => hS.rg 0 rfl) Tryd.underlying23 rfl (ilH _)) hS0 ?_
    simp only [Act.put, List.getElem_toArray, List.getElem_cons_zero, List.getElem_cons_succ, List.setIfInBounds_toArray, List.set_cons_zero, List.set_cons_succ]
    refine wpAnyH_ready (rs := [2]) (by kernel_rfl) (by simp) (AllReadyH.cons rfl (fun Kt hK => ?_) AllReadyH.nil)
    refine wanted_pos rfl ?_
    refine HVd.out.wpPut 1 rfl (by rfl) (by rfl) rfl (fun W1 hv => ?_)
    have HVdp := hide hv
    refine hK.out _ _ (HVdp.out.sv (by simp)) (fun hS1 => ?_)
    clear hK Kt hv
    simp only [Act.put, List.getElem_toArray, List.getElem_cons_zero, List.getElem_cons_succ]
    refine wpAnyH_ready (rs := [3]) (by kernel_rfl) (by simp) (AllReadyH.cons rfl (fun Kt hK => ?_) AllReadyH.nil)
    refine wanted_pos rfl ?_
    refine HVdp.out.wpPut 0 rfl (by rfl) (by rfl) rfl (fun W2 hv => ?_)
    have HVdpp := hide hv
    refine hK.out _ _ (HVdpp.out.sv (by simp)) (fun hS2 => ?_)
    clear hK Kt hv
    simp only [Act.put, List.getElem_toArray, List.getElem_cons_zero, List.getElem_cons_succ]
    refine wpAnyH_done (by kernel_rfl) ?_ _
    refine NoPanic.normal ?_
    have HVe : Hid (Vs w _ [(b0 + 2, f), (b0 + 1, f), (b0, f)]) := HVdpp
    clear HVd HV
    go_upto_region 5 with fail
    go_loopg [22] l (fun g' s22 wr => ∃ (G i : Nat) (ha hb : Nat → Nat), G = g' ∧ i + G = l ∧ s22 = .int .i64 (i : Int) ∧ RsR w wr b0 S F l f O i ha hb)
    case atStart => exact ⟨l, 0, f, f, rfl, by omega, rfl, HVe.out, HO.out, Nat.zero_le _, HF.out, HF.out⟩
    case round =>
      clear HVe HO
      obtain ⟨G, i, ha, hb, rfl, hil, rfl, hE⟩ := hrel
      have HE := hide hE
      have HV := hide hE.v
      have hee := hE.e
      have hlt := hE.lt
      have hlt2 := hE.lt2
      clear hE
      by_cases hi : i = l
      · subst hi
        obtain rfl : some (ha, hb) = O := ap_done hee HK.out
        have HLt := hide (And.intro hlt hlt2)
        show Code.wp _ _ _ _ _
        clear hee hlt hlt2 hil
        go_upto_region 11 with fail
        have HVd := hide HV.out.drew
        refine wp_region_noPanic ?_
        refine wp_region_held_drew (S := Sv w []) (by kernel_rfl) (HVd.out.sv (by simp)) (fun hS0 => ?_)
        refine wpAnyH_ready (rs := [0, 1]) (by kernel_rfl) (by simp) (AllReadyH.cons rfl (fun Kt hK => ?_) (AllReadyH.cons rfl (fun Kt hK => ?_) AllReadyH.nil))
        · refine wanted_pos rfl ?_
          refine wp_load_mid 23 _ rfl (b0 + 1) 0 (by rfl) (ab ha 32) _ (HVd.out.rg 1 rfl) Tryd.underlying23 rfl (ilH _) ?_
          refine hK.out _ _ hS0 (fun hS1 => ?_)
          clear hK Kt
          simp only [Act.put, List.getElem_toArray, List.getElem_cons_zero, List.setIfInBounds_toArray, List.set_cons_zero, List.set_cons_succ]
          refine wpAnyH_ready (rs := [1, 2]) (by kernel_rfl) (by simp) (AllReadyH.cons rfl (fun Kt hK => ?_) (AllReadyH.cons rfl (fun Kt hK => ?_) AllReadyH.nil))
          · refine wanted_pos rfl ?_
            refine wp_load_mid 23 _ rfl (b0 + 2) 0 (by rfl) (ab hb 32) _ (HVd.out.rg 0 rfl) Tryd.underlying23 rfl (ilH _) ?_
            refine hK.out _ _ hS1 (fun hS2 => ?_)
            clear hK Kt
            simp only [Act.put, List.getElem_toArray, List.getElem_cons_zero, List.getElem_cons_succ, List.setIfInBounds_toArray, List.set_cons_zero, List.set_cons_succ]
            refine wpAnyH_ready (rs := [2]) (by kernel_rfl) (by simp) (AllReadyH.cons rfl (fun Kt hK => ?_) AllReadyH.nil)
            refine wanted_pos rfl ?_
            refine HVd.out.wpPut 1 rfl (by rfl) (by rfl) rfl (fun W3 hv => ?_)
            have HVdp := hide hv
            refine hK.out _ _ (HVdp.out.sv (by simp)) (fun hS3 => ?_)
            clear hK Kt hv
            simp only [Act.put, List.getElem_toArray, List.getElem_cons_zero, List.getElem_cons_succ]
            refine wpAnyH_ready (rs := [3]) (by kernel_rfl) (by simp) (AllReadyH.cons rfl (fun Kt hK => ?_) AllReadyH.nil)
            refine wanted_pos rfl ?_
            refine HVdp.out.wpPut 0 rfl (by rfl) (by rfl) rfl (fun W4 hv => ?_)
            have HVdpp := hide hv
            refine hK.out _ _ (HVdpp.out.sv (by simp)) (fun hS4 => ?_)
            clear hK Kt hv
            simp only [Act.put, List.getElem_toArray, List.getElem_cons_zero, List.getElem_cons_succ]
            refine wpAnyH_take (i := 4) (v := .bool true) rfl (by kernel_rfl) (by kernel_rfl) (by kernel_rfl) (fun _ _ _ h => h) (Or.inl ⟨by rfl, fun w' _ => by go_simp⟩) hS4 ?_
            simp only [Act.put, List.getElem_toArray, List.getElem_cons_zero, List.getElem_cons_succ, List.setIfInBounds_toArray, List.set_cons_zero, List.set_cons_succ]
            refine wpAnyH_done (by kernel_rfl) ?_ _
            refine NoPanic.normal ?_
            go_wp2_with fail
            exact bodyPost_ret (results_cell2_tmp Tryd.results22 _ _ (b0 + 1) (b0 + 2) (ab ha 32) (ab hb 32) _ rfl (HVdpp.out.rg 1 rfl) rfl (HVdpp.out.rg 0 rfl) Tryd.underlying23 rfl (ilH _) (ilH _) rfl) rfl ⟨ha, hb, true, rfl, TwA.one HLt.out.1 HLt.out.2, HVdpp.out.k⟩
          · refine wanted_pos rfl ?_
            refine HVd.out.wpPut 1 rfl (by rfl) (by rfl) rfl (fun W5 hv => ?_)
            have HVdp := hide hv
            refine hK.out _ _ (HVdp.out.sv (by simp)) (fun hS5 => ?_)
            clear hK Kt hv
            simp only [Act.put, List.getElem_toArray, List.getElem_cons_zero, List.getElem_cons_succ]
            refine wpAnyH_ready (rs := [1]) (by kernel_rfl) (by simp) (AllReadyH.cons rfl (fun Kt hK => ?_) AllReadyH.nil)
            refine wanted_pos rfl ?_
            refine wp_load_mid 23 _ rfl (b0 + 2) 0 (by rfl) (ab hb 32) _ (HVdp.out.rg 0 rfl) Tryd.underlying23 rfl (ilH _) ?_
            refine hK.out _ _ hS5 (fun hS6 => ?_)
            clear hK Kt
            simp only [Act.put, List.getElem_toArray, List.getElem_cons_zero, List.getElem_cons_succ, List.setIfInBounds_toArray, List.set_cons_zero, List.set_cons_succ]
            refine wpAnyH_ready (rs := [3]) (by kernel_rfl) (by simp) (AllReadyH.cons rfl (fun Kt hK => ?_) AllReadyH.nil)
            refine wanted_pos rfl ?_
            refine HVdp.out.wpPut 0 rfl (by rfl) (by rfl) rfl (fun W7 hv => ?_)
            have HVdpp := hide hv
            refine hK.out _ _ (HVdpp.out.sv (by simp)) (fun hS7 => ?_)
            clear hK Kt hv
            simp only [Act.put, List.getElem_toArray, List.getElem_cons_zero, List.getElem_cons_succ]
            refine wpAnyH_take (i := 4) (v := .bool true) rfl (by kernel_rfl) (by kernel_rfl) (by kernel_rfl) (fun _ _ _ h => h) (Or.inl ⟨by rfl, fun w' _ => by go_simp⟩) hS7 ?_
            simp only [Act.put, List.getElem_toArray, List.getElem_cons_zero, List.getElem_cons_succ, List.setIfInBounds_toArray, List.set_cons_zero, List.set_cons_succ]
            refine wpAnyH_done (by kernel_rfl) ?_ _
            refine NoPanic.normal ?_
            go_wp2_with fail
            exact bodyPost_ret (results_cell2_tmp Tryd.results22 _ _ (b0 + 1) (b0 + 2) (ab ha 32) (ab hb 32) _ rfl (HVdpp.out.rg 1 rfl) rfl (HVdpp.out.rg 0 rfl) Tryd.underlying23 rfl (ilH _) (ilH _) rfl) rfl ⟨ha, hb, true, rfl, TwA.one HLt.out.1 HLt.out.2, HVdpp.out.k⟩
        · refine wanted_pos rfl ?_
          refine wp_load_mid 23 _ rfl (b0 + 2) 0 (by rfl) (ab hb 32) _ (HVd.out.rg 0 rfl) Tryd.underlying23 rfl (ilH _) ?_
          refine hK.out _ _ hS0 (fun hS8 => ?_)
          clear hK Kt
          simp only [Act.put, List.getElem_toArray, List.getElem_cons_zero, List.getElem_cons_succ, List.setIfInBounds_toArray, List.set_cons_zero, List.set_cons_succ]
          refine wpAnyH_ready (rs := [0]) (by kernel_rfl) (by simp) (AllReadyH.cons rfl (fun Kt hK => ?_) AllReadyH.nil)
          refine wanted_pos rfl ?_
          refine wp_load_mid 23 _ rfl (b0 + 1) 0 (by rfl) (ab ha 32) _ (HVd.out.rg 1 rfl) Tryd.underlying23 rfl (ilH _) ?_
          refine hK.out _ _ hS8 (fun hS9 => ?_)
          clear hK Kt
          simp only [Act.put, List.getElem_toArray, List.getElem_cons_zero, List.setIfInBounds_toArray, List.set_cons_zero, List.set_cons_succ]
          refine wpAnyH_ready (rs := [2]) (by kernel_rfl) (by simp) (AllReadyH.cons rfl (fun Kt hK => ?_) AllReadyH.nil)
          refine wanted_pos rfl ?_
          refine HVd.out.wpPut 1 rfl (by rfl) (by rfl) rfl (fun W10 hv => ?_)
          have HVdp := hide hv
          refine hK.out _ _ (HVdp.out.sv (by simp)) (fun hS10 => ?_)
          clear hK Kt hv
          simp only [Act.put, List.getElem_toArray, List.getElem_cons_zero, List.getElem_cons_succ]
          refine wpAnyH_ready (rs := [3]) (by kernel_rfl) (by simp) (AllReadyH.cons rfl (fun Kt hK => ?_) AllReadyH.nil)
          refine wanted_pos rfl ?_
          refine HVdp.out.wpPut 0 rfl (by rfl) (by rfl) rfl (fun W11 hv => ?_)
          have HVdpp := hide hv
          refine hK.out _ _ (HVdpp.out.sv (by simp)) (fun hS11 => ?_)
          clear hK Kt hv
          simp only [Act.put, List.getElem_toArray, List.getElem_cons_zero, List.getElem_cons_succ]
          refine wpAnyH_take (i := 4) (v := .bool true) rfl (by kernel_rfl) (by kernel_rfl) (by kernel_rfl) (fun _ _ _ h => h) (Or.inl ⟨by rfl, fun w' _ => by go_simp⟩) hS11 ?_
          simp only [Act.put, List.getElem_toArray, List.getElem_cons_zero, List.getElem_cons_succ, List.setIfInBounds_toArray, List.set_cons_zero, List.set_cons_succ]
          refine wpAnyH_done (by kernel_rfl) ?_ _
          refine NoPanic.normal ?_
          go_wp2_with fail
          exact bodyPost_ret (results_cell2_tmp Tryd.results22 _ _ (b0 + 1) (b0 + 2) (ab ha 32) (ab hb 32) _ rfl (HVdpp.out.rg 1 rfl) rfl (HVdpp.out.rg 0 rfl) Tryd.underlying23 rfl (ilH _) (ilH _) rfl) rfl ⟨ha, hb, true, rfl, TwA.one HLt.out.1 HLt.out.2, HVdpp.out.k⟩
      · have hi2 : i < l := by omega
        obtain ⟨s, hs, hee2⟩ := ap_drop hee hi2 HK.out
        have hiI : (i : Int) < (l : Int) := by omega
        have hic : i < l := hi2
        obtain ⟨bz, oz, rfl⟩ := HLX.out.ad (Nat.lt_of_le_of_lt (Nat.zero_le _) hi2)
        obtain ⟨bs, os, rfl, hsd⟩ : ∃ b o, xs = some ⟨b, o, none⟩ ∧ ∀ i s, S[i]? = some s → w.cell? ⟨b, o + i, none⟩ = some (sdv s) := by
          rcases HS.out with h | h
          · have := HK.out
            rw [h] at this
            have h0 : 0 = l := this
            omega
          · exact h
        have HSd := hide (hsd i s hs)
        obtain ⟨t, ht⟩ : ∃ t, F i = t := ⟨_, rfl⟩
        have htl : ∀ j, t j < 256 := by rw [← ht]; exact HLX.out.lt i
        have hRi : w.rangeAt bz (oz + i * 32) (ab t 32) := by rw [← ht]; exact HLX.out.rangeA hi2
        rw [ht] at hee2
        have HRi := hide hRi
        have HTl := hide htl
        have HLt := hide (And.intro hlt hlt2)
        have hi9 : i ≤ 100000 := by have := HC.out.2.2; omega
        have hwi := wrap_u hi9
        have hlc0 : ¬ (c = 0) := by have := HC.out.1; omega
        have hsc0 : ¬ (cs = 0) := by have h1 := HC.out.2.1; omega
        have hcnt : i + 1 + (G - 1) = l := by omega
        have hg1 : G - 1 < G := by omega
        have HM := hide (And.intro hcnt (And.intro hg1 hi2))
        clear hRi htl ht hlt hlt2 hee hsd hi hil hcnt hg1 hs hi9
        go_upto_region 7 with (first
          | (refine HV3.out.listPut (b := q) 0 rfl rfl rfl rfl rfl (fun Y3 hv => ?_); have HV4 : Hid (Vs w Y3 [(q, t), (b0 + 2, hb), (b0 + 1, ha), (b0, f)]) := hide hv; clear hv HV3)
          | (refine HV.out.listNew rfl rfl (fun q Y2 hv hb => ?_); have HV3 := hide hv; clear hv hb)
          | (refine wpList_load_h (g := bz) rfl _ rfl rfl (range_keep HRi.out HV.out.k) ?_))
        have hcell := later HV4.out.k HSd.out
        clear HV HE
        cases s with
        | true =>
          have hX : ap pA pB (S.drop (i + 1)) (ls F (i + 1) l) (nd t ha, nd t hb) = O := hee2
          have HNd' := fun W (h : Below w.heap.size w W) => node_any (w := W) (HT.out.keep h) HTl.out HLt.out.1
          have HNe' := fun W (h : Below w.heap.size w W) => node_any (w := W) (HT.out.keep h) HTl.out HLt.out.2
          obtain ⟨u1, hu1⟩ : ∃ f, nd t ha = f := ⟨_, rfl⟩
          obtain ⟨v1, hv1⟩ : ∃ f, nd t hb = f := ⟨_, rfl⟩
          have hu1l : ∀ j, u1 j < 256 := by rw [← hu1]; exact nd_lt t ha
          have hv1l : ∀ j, v1 j < 256 := by rw [← hv1]; exact nd_lt t hb
          unfold hv at HNd' HNe'
          rw [hu1, hv1] at hX
          rw [hu1] at HNd'
          rw [hv1] at HNe'
          have HX := hide (And.intro hX (And.intro hu1l hv1l))
          have HNd := hide HNd'
          have HNe := hide HNe'
          have hcell2 : Y3.cell? ⟨bs, os + i, none⟩ = some (.int .i64 0) := hcell
          clear hX HNd' HNe' hu1 hu1l hv1 hv1l hee2 hcell
          go_upto_region 8 with fail
          clear hcell2
          have HVd := hide HV4.out.drew
          refine wp_region_noPanic ?_
          refine wp_region_held_drew (S := Sv w [(q, t)]) (by kernel_rfl) (HVd.out.sv (by simp)) (fun hS0 => ?_)
          refine wpAnyH_take (i := 0) (v := .agg (ab t 32).toArray) rfl (by kernel_rfl) (by kernel_rfl) (by kernel_rfl) (fun _ _ _ h => h) (yieldsIf_load_mid (by rfl) 23 _ rfl q 0 (by rfl) (ab t 32) _ (fun w' hS => hS.rg 0 rfl) Tryd.underlying23 rfl (ilH _)) hS0 ?_
          simp only [Act.put, List.getElem_toArray, List.getElem_cons_zero, List.setIfInBounds_toArray, List.set_cons_zero, List.set_cons_succ]
          refine wpAnyH_take (i := 3) (v := .agg (ab t 32).toArray) rfl (by kernel_rfl) (by kernel_rfl) (by kernel_rfl) (fun _ _ _ h => h) (yieldsIf_load_mid (by rfl) 23 _ rfl q 0 (by rfl) (ab t 32) _ (fun w' hS => hS.rg 0 rfl) Tryd.underlying23 rfl (ilH _)) hS0 ?_
          simp only [Act.put, List.getElem_toArray, List.getElem_cons_zero, List.getElem_cons_succ, List.setIfInBounds_toArray, List.set_cons_zero, List.set_cons_succ]
          refine wpAnyH_ready (rs := [1, 4]) (by kernel_rfl) (by simp) (AllReadyH.cons rfl (fun Kt hK => ?_) (AllReadyH.cons rfl (fun Kt hK => ?_) AllReadyH.nil))
          · refine wanted_pos rfl ?_
            refine wp_load_mid 23 _ rfl (b0 + 1) 0 (by rfl) (ab ha 32) _ (HVd.out.rg 2 rfl) Tryd.underlying23 rfl (ilH _) ?_
            refine hK.out _ _ hS0 (fun hS1 => ?_)
            clear hK Kt
            simp only [Act.put, List.getElem_toArray, List.getElem_cons_zero, List.getElem_cons_succ, List.setIfInBounds_toArray, List.set_cons_zero, List.set_cons_succ]
            refine wpAnyH_ready (rs := [2, 4]) (by kernel_rfl) (by simp) (AllReadyH.cons rfl (fun Kt hK => ?_) (AllReadyH.cons rfl (fun Kt hK => ?_) AllReadyH.nil))
            · refine wanted_pos rfl ?_
              refine wp_call (R := fun r w' => r = .agg (ab u1 32).toArray ∧ Vs w w' [(q, t), (b0 + 2, hb), (b0 + 1, ha), (b0, f)]) (vs := #[.agg (ab t 32).toArray, .agg (ab ha 32).toArray]) rfl (by simp only [List.map_toArray, List.map_cons, List.map_nil]; rfl) (by go_simp) (Calls.mono (HNd.out _ HVd.out.k) (fun e w' ⟨he, hb⟩ => ⟨_, he, rfl, HVd.out.keep hb⟩)) (fun r W2 hr => ?_)
              obtain ⟨hr, hv⟩ := hr
              subst hr
              have HVdd := hide hv
              refine hK.out _ _ (HVdd.out.sv (by simp)) (fun hS2 => ?_)
              clear hK Kt hv
              simp only [Act.put, List.getElem_toArray, List.getElem_cons_zero, List.getElem_cons_succ, List.setIfInBounds_toArray, List.set_cons_zero, List.set_cons_succ]
              refine wpAnyH_ready (rs := [4]) (by kernel_rfl) (by simp) (AllReadyH.cons rfl (fun Kt hK => ?_) AllReadyH.nil)
              refine wanted_pos rfl ?_
              refine wp_load_mid 23 _ rfl (b0 + 2) 0 (by rfl) (ab hb 32) _ (HVdd.out.rg 1 rfl) Tryd.underlying23 rfl (ilH _) ?_
              refine hK.out _ _ hS2 (fun hS3 => ?_)
              clear hK Kt
              simp only [Act.put, List.getElem_toArray, List.getElem_cons_zero, List.getElem_cons_succ, List.setIfInBounds_toArray, List.set_cons_zero, List.set_cons_succ]
              refine wpAnyH_ready (rs := [5]) (by kernel_rfl) (by simp) (AllReadyH.cons rfl (fun Kt hK => ?_) AllReadyH.nil)
              refine wanted_pos rfl ?_
              refine wp_call (R := fun r w' => r = .agg (ab v1 32).toArray ∧ Vs w w' [(q, t), (b0 + 2, hb), (b0 + 1, ha), (b0, f)]) (vs := #[.agg (ab t 32).toArray, .agg (ab hb 32).toArray]) rfl (by simp only [List.map_toArray, List.map_cons, List.map_nil]; rfl) (by go_simp) (Calls.mono (HNe.out _ HVdd.out.k) (fun e w' ⟨he, hb⟩ => ⟨_, he, rfl, HVdd.out.keep hb⟩)) (fun r W4 hr => ?_)
              obtain ⟨hr, hv⟩ := hr
              subst hr
              have HVddd := hide hv
              refine hK.out _ _ (HVddd.out.sv (by simp)) (fun hS4 => ?_)
              clear hK Kt hv
              simp only [Act.put, List.getElem_toArray, List.getElem_cons_zero, List.getElem_cons_succ, List.setIfInBounds_toArray, List.set_cons_zero, List.set_cons_succ]
              refine wpAnyH_ready (rs := [6]) (by kernel_rfl) (by simp) (AllReadyH.cons rfl (fun Kt hK => ?_) AllReadyH.nil)
              refine wanted_pos rfl ?_
              refine HVddd.out.wpPut 2 rfl (by rfl) (by rfl) rfl (fun W5 hv => ?_)
              have HVdddp := hide hv
              refine hK.out _ _ (HVdddp.out.sv (by simp)) (fun hS5 => ?_)
              clear hK Kt hv
              simp only [Act.put, List.getElem_toArray, List.getElem_cons_zero, List.getElem_cons_succ]
              refine wpAnyH_ready (rs := [7]) (by kernel_rfl) (by simp) (AllReadyH.cons rfl (fun Kt hK => ?_) AllReadyH.nil)
              refine wanted_pos rfl ?_
              refine HVdddp.out.wpPut 1 rfl (by rfl) (by rfl) rfl (fun W6 hv => ?_)
              have HVdddpp := hide hv
              refine hK.out _ _ (HVdddpp.out.sv (by simp)) (fun hS6 => ?_)
              clear hK Kt hv
              simp only [Act.put, List.getElem_toArray, List.getElem_cons_zero, List.getElem_cons_succ]
              refine wpAnyH_done (by kernel_rfl) ?_ _
              refine NoPanic.normal ?_
              have HVe : Hid (Vs w W6 [(q, t), (b0 + 2, v1), (b0 + 1, u1), (b0, f)]) := HVdddpp
              go_wp2_with fail
              go_roundg (G - 1)
              case measure => exact HM.out.2.1
              case rel => exact ⟨G - 1, i + 1, u1, v1, rfl, HM.out.1, by first | rfl | exact congrArg (Value.int .i64) hwi, HVe.out.tail, HX.out.1, HM.out.2.2, HX.out.2.1, HX.out.2.2⟩
            · refine wanted_pos rfl ?_
              refine wp_load_mid 23 _ rfl (b0 + 2) 0 (by rfl) (ab hb 32) _ (HVd.out.rg 1 rfl) Tryd.underlying23 rfl (ilH _) ?_
              refine hK.out _ _ hS1 (fun hS7 => ?_)
              clear hK Kt
              simp only [Act.put, List.getElem_toArray, List.getElem_cons_zero, List.getElem_cons_succ, List.setIfInBounds_toArray, List.set_cons_zero, List.set_cons_succ]
              refine wpAnyH_ready (rs := [2]) (by kernel_rfl) (by simp) (AllReadyH.cons rfl (fun Kt hK => ?_) AllReadyH.nil)
              refine wanted_pos rfl ?_
              refine wp_call (R := fun r w' => r = .agg (ab u1 32).toArray ∧ Vs w w' [(q, t), (b0 + 2, hb), (b0 + 1, ha), (b0, f)]) (vs := #[.agg (ab t 32).toArray, .agg (ab ha 32).toArray]) rfl (by simp only [List.map_toArray, List.map_cons, List.map_nil]; rfl) (by go_simp) (Calls.mono (HNd.out _ HVd.out.k) (fun e w' ⟨he, hb⟩ => ⟨_, he, rfl, HVd.out.keep hb⟩)) (fun r W8 hr => ?_)
              obtain ⟨hr, hv⟩ := hr
              subst hr
              have HVdd := hide hv
              refine hK.out _ _ (HVdd.out.sv (by simp)) (fun hS8 => ?_)
              clear hK Kt hv
              simp only [Act.put, List.getElem_toArray, List.getElem_cons_zero, List.getElem_cons_succ, List.setIfInBounds_toArray, List.set_cons_zero, List.set_cons_succ]
              refine wpAnyH_ready (rs := [5]) (by kernel_rfl) (by simp) (AllReadyH.cons rfl (fun Kt hK => ?_) AllReadyH.nil)
              refine wanted_pos rfl ?_
              refine wp_call (R := fun r w' => r = .agg (ab v1 32).toArray ∧ Vs w w' [(q, t), (b0 + 2, hb), (b0 + 1, ha), (b0, f)]) (vs := #[.agg (ab t 32).toArray, .agg (ab hb 32).toArray]) rfl (by simp only [List.map_toArray, List.map_cons, List.map_nil]; rfl) (by go_simp) (Calls.mono (HNe.out _ HVdd.out.k) (fun e w' ⟨he, hb⟩ => ⟨_, he, rfl, HVdd.out.keep hb⟩)) (fun r W9 hr => ?_)
              obtain ⟨hr, hv⟩ := hr
              subst hr
              have HVddd := hide hv
              refine hK.out _ _ (HVddd.out.sv (by simp)) (fun hS9 => ?_)
              clear hK Kt hv
              simp only [Act.put, List.getElem_toArray, List.getElem_cons_zero, List.getElem_cons_succ, List.setIfInBounds_toArray, List.set_cons_zero, List.set_cons_succ]
              refine wpAnyH_ready (rs := [6]) (by kernel_rfl) (by simp) (AllReadyH.cons rfl (fun Kt hK => ?_) AllReadyH.nil)
              refine wanted_pos rfl ?_
              refine HVddd.out.wpPut 2 rfl (by rfl) (by rfl) rfl (fun W10 hv => ?_)
              have HVdddp := hide hv
              refine hK.out _ _ (HVdddp.out.sv (by simp)) (fun hS10 => ?_)
              clear hK Kt hv
              simp only [Act.put, List.getElem_toArray, List.getElem_cons_zero, List.getElem_cons_succ]
              refine wpAnyH_ready (rs := [7]) (by kernel_rfl) (by simp) (AllReadyH.cons rfl (fun Kt hK => ?_) AllReadyH.nil)
              refine wanted_pos rfl ?_
              refine HVdddp.out.wpPut 1 rfl (by rfl) (by rfl) rfl (fun W11 hv => ?_)
              have HVdddpp := hide hv
              refine hK.out _ _ (HVdddpp.out.sv (by simp)) (fun hS11 => ?_)
              clear hK Kt hv
              simp only [Act.put, List.getElem_toArray, List.getElem_cons_zero, List.getElem_cons_succ]
              refine wpAnyH_done (by kernel_rfl) ?_ _
              refine NoPanic.normal ?_
              have HVe : Hid (Vs w W11 [(q, t), (b0 + 2, v1), (b0 + 1, u1), (b0, f)]) := HVdddpp
              go_wp2_with fail
              go_roundg (G - 1)
              case measure => exact HM.out.2.1
              case rel => exact ⟨G - 1, i + 1, u1, v1, rfl, HM.out.1, by first | rfl | exact congrArg (Value.int .i64) hwi, HVe.out.tail, HX.out.1, HM.out.2.2, HX.out.2.1, HX.out.2.2⟩
          · refine wanted_pos rfl ?_
            refine wp_load_mid 23 _ rfl (b0 + 2) 0 (by rfl) (ab hb 32) _ (HVd.out.rg 1 rfl) Tryd.underlying23 rfl (ilH _) ?_
            refine hK.out _ _ hS0 (fun hS12 => ?_)
            clear hK Kt
            simp only [Act.put, List.getElem_toArray, List.getElem_cons_zero, List.getElem_cons_succ, List.setIfInBounds_toArray, List.set_cons_zero, List.set_cons_succ]
            refine wpAnyH_ready (rs := [1]) (by kernel_rfl) (by simp) (AllReadyH.cons rfl (fun Kt hK => ?_) AllReadyH.nil)
            refine wanted_pos rfl ?_
            refine wp_load_mid 23 _ rfl (b0 + 1) 0 (by rfl) (ab ha 32) _ (HVd.out.rg 2 rfl) Tryd.underlying23 rfl (ilH _) ?_
            refine hK.out _ _ hS12 (fun hS13 => ?_)
            clear hK Kt
            simp only [Act.put, List.getElem_toArray, List.getElem_cons_zero, List.getElem_cons_succ, List.setIfInBounds_toArray, List.set_cons_zero, List.set_cons_succ]
            refine wpAnyH_ready (rs := [2]) (by kernel_rfl) (by simp) (AllReadyH.cons rfl (fun Kt hK => ?_) AllReadyH.nil)
            refine wanted_pos rfl ?_
            refine wp_call (R := fun r w' => r = .agg (ab u1 32).toArray ∧ Vs w w' [(q, t), (b0 + 2, hb), (b0 + 1, ha), (b0, f)]) (vs := #[.agg (ab t 32).toArray, .agg (ab ha 32).toArray]) rfl (by simp only [List.map_toArray, List.map_cons, List.map_nil]; rfl) (by go_simp) (Calls.mono (HNd.out _ HVd.out.k) (fun e w' ⟨he, hb⟩ => ⟨_, he, rfl, HVd.out.keep hb⟩)) (fun r W14 hr => ?_)
            obtain ⟨hr, hv⟩ := hr
            subst hr
            have HVdd := hide hv
            refine hK.out _ _ (HVdd.out.sv (by simp)) (fun hS14 => ?_)
            clear hK Kt hv
            simp only [Act.put, List.getElem_toArray, List.getElem_cons_zero, List.getElem_cons_succ, List.setIfInBounds_toArray, List.set_cons_zero, List.set_cons_succ]
            refine wpAnyH_ready (rs := [5]) (by kernel_rfl) (by simp) (AllReadyH.cons rfl (fun Kt hK => ?_) AllReadyH.nil)
            refine wanted_pos rfl ?_
            refine wp_call (R := fun r w' => r = .agg (ab v1 32).toArray ∧ Vs w w' [(q, t), (b0 + 2, hb), (b0 + 1, ha), (b0, f)]) (vs := #[.agg (ab t 32).toArray, .agg (ab hb 32).toArray]) rfl (by simp only [List.map_toArray, List.map_cons, List.map_nil]; rfl) (by go_simp) (Calls.mono (HNe.out _ HVdd.out.k) (fun e w' ⟨he, hb⟩ => ⟨_, he, rfl, HVdd.out.keep hb⟩)) (fun r W15 hr => ?_)
            obtain ⟨hr, hv⟩ := hr
            subst hr
            have HVddd := hide hv
            refine hK.out _ _ (HVddd.out.sv (by simp)) (fun hS15 => ?_)
            clear hK Kt hv
            simp only [Act.put, List.getElem_toArray, List.getElem_cons_zero, List.getElem_cons_succ, List.setIfInBounds_toArray, List.set_cons_zero, List.set_cons_succ]
            refine wpAnyH_ready (rs := [6]) (by kernel_rfl) (by simp) (AllReadyH.cons rfl (fun Kt hK => ?_) AllReadyH.nil)
            refine wanted_pos rfl ?_
            refine HVddd.out.wpPut 2 rfl (by rfl) (by rfl) rfl (fun W16 hv => ?_)
            have HVdddp := hide hv
            refine hK.out _ _ (HVdddp.out.sv (by simp)) (fun hS16 => ?_)
            clear hK Kt hv
            simp only [Act.put, List.getElem_toArray, List.getElem_cons_zero, List.getElem_cons_succ]
            refine wpAnyH_ready (rs := [7]) (by kernel_rfl) (by simp) (AllReadyH.cons rfl (fun Kt hK => ?_) AllReadyH.nil)
            refine wanted_pos rfl ?_
            refine HVdddp.out.wpPut 1 rfl (by rfl) (by rfl) rfl (fun W17 hv => ?_)
            have HVdddpp := hide hv
            refine hK.out _ _ (HVdddpp.out.sv (by simp)) (fun hS17 => ?_)
            clear hK Kt hv
            simp only [Act.put, List.getElem_toArray, List.getElem_cons_zero, List.getElem_cons_succ]
            refine wpAnyH_done (by kernel_rfl) ?_ _
            refine NoPanic.normal ?_
            have HVe : Hid (Vs w W17 [(q, t), (b0 + 2, v1), (b0 + 1, u1), (b0, f)]) := HVdddpp
            go_wp2_with fail
            go_roundg (G - 1)
            case measure => exact HM.out.2.1
            case rel => exact ⟨G - 1, i + 1, u1, v1, rfl, HM.out.1, by first | rfl | exact congrArg (Value.int .i64) hwi, HVe.out.tail, HX.out.1, HM.out.2.2, HX.out.2.1, HX.out.2.2⟩
        | false =>
          have hX : ap pA pB (S.drop (i + 1)) (ls F (i + 1) l) (ha, nd hb t) = O := hee2
          have HNd' := fun W (h : Below w.heap.size w W) => node_any (w := W) (HT.out.keep h) HLt.out.2 HTl.out
          obtain ⟨v1, hv1⟩ : ∃ f, nd hb t = f := ⟨_, rfl⟩
          have hv1l : ∀ j, v1 j < 256 := by rw [← hv1]; exact nd_lt hb t
          unfold hv at HNd'
          rw [hv1] at hX HNd'
          have HX := hide (And.intro hX (And.intro HLt.out.1 hv1l))
          have HNd := hide HNd'
          have hcell2 : Y3.cell? ⟨bs, os + i, none⟩ = some (.int .i64 1) := hcell
          clear hX HNd' hv1 hv1l hee2 hcell
          go_upto_region 9 with fail
          clear hcell2
          go_upto_region 10 with (first
            | (refine HV5.out.listPut (b := b0 + 2) 1 rfl rfl rfl rfl rfl (fun Y5 hv => ?_); have HVe : Hid (Vs w Y5 [(q, t), (b0 + 2, v1), (b0 + 1, ha), (b0, f)]) := hide hv; clear hv HV5)
            | (go_at_call 20; (with_reducible refine Calls.mono (HNd.out _ HV4.out.k) ?_); rintro e Y4 ⟨rfl, hb⟩; have HV5 := hide (HV4.out.keep hb); clear hb HV4)
            | (refine wpList_load_h (g := b0 + 2) rfl _ rfl rfl (HV4.out.rg 1 rfl) ?_)
            | (refine wpList_load_h (g := q) rfl _ rfl rfl (HV4.out.rg 0 rfl) ?_))
          go_wp2_with fail
          go_roundg (G - 1)
          case measure => exact HM.out.2.1
          case rel => exact ⟨G - 1, i + 1, ha, v1, rfl, HM.out.1, by first | rfl | exact congrArg (Value.int .i64) hwi, HVe.out.tail, HX.out.1, HM.out.2.2, HX.out.2.1, HX.out.2.2⟩
  · have hNe : ((l : Int) != (k : Int)) = true := by rw [bne_iff_ne]; omega
    rw [ap_len pA pB S _ _ (by rw [hk, ls_len]; omega)]
    clear hT hS hk hkc hL hc hl hf hlk
    go_enter Tryd.func22, Tryd.ntmps22
    go_upto_region 1 with fail
    refine wp_world (fun X hX => ?_)
    rw [zeros32] at hX
    have hv := Vs.boxed2 hX
    clear hX
    obtain ⟨b0, hb0⟩ : ∃ b0, w.heap.size = b0 := ⟨_, rfl⟩
    rw [hb0] at hv ⊢
    have HV := hide hv
    clear hv hb0
    go_wp2_with (first
      | (refine HV3.out.listPut (b := b0 + 2) 0 rfl rfl rfl rfl rfl (fun X4 hv => ?_); have HV4 : Hid (Vs w X4 [(b0 + 2, fun _ => 0), (b0 + 1, fun _ => 0), (b0, f)]) := hide hv; clear hv HV3)
      | (refine HV.out.listPut (b := b0 + 1) 1 rfl rfl rfl rfl rfl (fun X3 hv => ?_); have HV3 : Hid (Vs w X3 [(b0 + 2, fun _ => 0), (b0 + 1, fun _ => 0), (b0, f)]) := hide hv; clear hv)
      | (refine wpList_hk0 (by rfl) rfl ?_; simp only [Act.put, List.setIfInBounds_toArray, List.set_cons_zero, List.set_cons_succ]))
    exact bodyPost_ret (results_cell2_tmp Tryd.results22 _ _ (b0 + 1) (b0 + 2) (ab (fun _ => 0) 32) (ab (fun _ => 0) 32) _ rfl (HV4.out.rg 1 rfl) rfl (HV4.out.rg 0 rfl) Tryd.underlying23 rfl (ilH _) (ilH _) rfl) rfl ⟨(fun _ => 0), (fun _ => 0), false, rfl, TwA.no (fun _ => by omega) (fun _ => by omega), HV4.out.k⟩
end Go.Proofs.YtkpkkjcfodjifaaDoor
