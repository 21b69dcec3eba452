/- Sha256Parts. -/
import Derived.Test.YtgefbeejjbjfhaaDoorP5StepB
namespace Go.Proofs.YtgefbeejjbjfhaaDoor
open Go.RowKit
attribute [local go_sem ↓] Go.wp_at_zero Go.wp_at_succ

theorem catF_lt {L : Nat → Nat} {G : Nat → Nat → Nat} : ∀ (i : Nat), (∀ j, j < i → ∀ m, G j m < 256) → ∀ m, catF L G i m < 256
  | 0, _, _ => by show 0 < 256; omega
  | i + 1, h, m => cat_lt (catF_lt i (fun j hj => h j (by omega))) (h i (by omega)) _ _
theorem Dig.keptO {W w1 : World} {b n : Nat} {f : Nat → Nat} {r : Option Nat} (h : Dig W b f n) (hg : W.grownBy w1 r) (hr : some b ≠ r) : Dig w1 b f n := by
  obtain ⟨s, q, h1, h2⟩ := h
  have hb := hg.block b h1.lt hr
  exact ⟨s, q, ⟨Nat.lt_of_lt_of_le h1.lt hg.size, fun i hi => by rw [World.cell?_of_block (w := W) hb]; exact h1.st i hi, fun i hi => by rw [World.cell?_of_block (w := W) hb]; exact h1.rs i hi, by rw [World.cell?_of_block (w := W) hb]; exact h1.sz, fun i hi => by rw [World.frozen?_of_block (w := W) hb]; exact h1.z i hi⟩, h2⟩
theorem own_max {w : World} {base n : Nat} {v : Value} {xs : List Value} (h : w.ownsRow base 5 1 v n xs) : ∃ a cap, v = .slice a n cap ∧ n ≤ cap ∧ cap ≤ maxLen := by
  rcases h.2 with ⟨rfl, rfl⟩ | ⟨g, cap, cur, rfl, _, _, h1, h2, _⟩
  · exact ⟨_, _, rfl, Nat.le_refl _, by unfold maxLen; omega⟩
  · exact ⟨_, _, rfl, h1, h2⟩
theorem own_ba {w : World} {base n cap : Nat} {a : Option Addr} {f : Nat → Nat} (h : w.ownsRow base 5 1 (.slice a n cap) n (cells8 (fl f n))) (hf : ∀ i, f i < 256) : BA w a n f := by
  refine ⟨hf, ?_⟩
  by_cases h0 : n = 0
  · exact Or.inl h0
  · obtain ⟨g, cap', hv, hg, hr⟩ := own_rd (f := fun i => ((f i : Nat) : Int)) h (fun j hj => by rw [cells8_at _ j (by rw [fl_len]; exact hj), List.getD_eq_getElem?_getD, fl_at f hj]; rfl) (by omega)
    cases hv
    exact Or.inr ⟨g, 0, rfl, hr.rd⟩
theorem fl_cat (f g : Nat → Nat) (n m : Nat) : fl f n ++ fl g m = fl (cat f n g) (n + m) := by
  apply List.ext_getElem?
  intro i
  by_cases h1 : i < n
  · rw [List.getElem?_append_left (by rw [fl_len]; exact h1), fl_at _ h1, fl_at _ (by omega)]
    unfold cat
    rw [if_pos h1]
  · rw [List.getElem?_append_right (by rw [fl_len]; omega), fl_len]
    by_cases h2 : i < n + m
    · rw [fl_at _ (by omega), fl_at _ h2]
      unfold cat
      rw [if_neg h1]
    · rw [List.getElem?_eq_none (by rw [fl_len]; omega), List.getElem?_eq_none (by rw [fl_len]; omega)]
theorem sum_hA {w : World} {x : Option Addr} {k c : Nat} {A : Nat → Option Addr} {L C : Nat → Nat} {G : Nat → Nat → Nat} (hT : Tab w) (hP : PL w x k A L C G) (hk : k ≤ 1000000) (hl : lenF L k ≤ 800000) :
    Calls Tryd.prog 9 #[.slice x k c] w fun e w' => e = .returned (.agg (hA (catF L G k) (lenF L k))) ∧ Below w.heap.size w w' := by
  unfold hA
  exact sum_any hT hP hk hl
set_option maxRecDepth 100000 in
set_option maxHeartbeats 8000000 in
theorem sha256Parts_walk {x : Option Addr} {k c : Nat} {A : Nat → Option Addr} {L C : Nat → Nat} {G : Nat → Nat → Nat} {w : World} (hT : Tab w) (h : PL w x k A L C G) :
    Calls Tryd.prog 4 #[.slice x k c] w fun e w' => e = .returned (.bool true) ∧ Below w.heap.size w w' := by
  have H := hide h
  have HT := hide hT
  have HL := hide hT.lt
  clear h hT
  by_cases hn : k ≤ 40
  · have hni : (k : Int) ≤ 40 := by omega
    have HN := hide hn
    clear hn
    go_enter Tryd.func4, Tryd.ntmps4
    go_wp2_with fail
    with_reducible refine Calls.mono (awake_any HT.out) ?_
    rintro e w1 ⟨rfl, hb1⟩
    have HD := hide (dig_made w1 38 (fun _ => 0))
    have hk := K.alloc (Below.refl _ w1) (.cells (dg st0 (fun _ => 0) 0).toArray 38)
    have HB := hide (K.call hb1 hk)
    have HBl := hide hb1.size
    clear hb1 hk
    go_wp2_with (refine wpList_digZ (by rfl) rfl ?_; simp only [Act.put, List.setIfInBounds_toArray, List.set_cons_zero, List.set_cons_succ])
    obtain ⟨b0, hb0⟩ : ∃ b0, w1.heap.size = b0 := ⟨_, rfl⟩
    rw [hb0] at HD HBl ⊢
    clear hb0
    go_loopg [4, 5] k (fun g s4 s5 wr => ∃ (i : Nat) (u : Value), u = s4 ∧ g = k - i ∧ i ≤ k ∧ s5 = .int .i64 i ∧ Dig wr b0 (catF L G i) (lenF L i) ∧ wr.ownsRow (b0 + 1) 5 1 u (lenF L i) (cells8 (fl (catF L G i) (lenF L i))) ∧ lenF L i ≤ 4000 ∧ Below w.heap.size w wr)
    case atStart => exact ⟨0, _, rfl, rfl, by omega, rfl, HD.out, World.ownsRow_nil _ _ _ _, by simp only [lenF]; omega, HB.out⟩
    case round =>
      clear HD HB
      obtain ⟨i, u, hu, rfl, hi, rfl, hD, hO, hln, hB⟩ := hrel
      subst hu
      obtain ⟨au, cu, rfl, hcu, hcm⟩ := own_max hO
      by_cases hlt : i < k
      · have hii : (i : Int) < (k : Int) := by omega
        have HP := hide (H.out.keep hB)
        have HI := hide hlt
        have HD := hide hD
        have HO := hide hO
        have HB := hide hB
        have HLn := hide hln
        rcases HP.out.at_ with h0 | ⟨pb, po, rfl, hcl⟩
        · omega
        have ci := hcl i hlt
        have hcp := HP.out.cp i hlt
        have HCP := hide hcp
        have hNi : (lenF L i : Int) ≤ 4000 := by omega
        clear hi hlt hD hO hB hln hcl hcp
        obtain ⟨N, hN⟩ : ∃ N, N = lenF L i := ⟨_, rfl⟩
        have HNe := hide hN
        rw [← hN] at hNi hcu ⊢
        clear hN
        by_cases hl1 : L i ≤ 2000
        · have hl1i : (L i : Int) ≤ 2000 := by omega
          by_cases hl2 : N ≤ 2000
          · have hl2i : (N : Int) ≤ 2000 := by omega
            have HL1 := hide hl1
            have HL2 := hide hl2
            clear hl1 hl2
            have C1 := hide (write_any (c := C i) (HT.out.keep HB.out) (by have := HL.out; have := HBl.out; omega) (HP.out.ba i HI.out) (fun hm p hp => by
              have h1 := (H.out.ba i HI.out).block hm p hp
              have := HBl.out
              omega) HCP.out.1 HCP.out.2 HD.out (by have := HL1.out; have := HL2.out; have := HNe.out; omega))
            go_wp2_with fail
            with_reducible refine Calls.mono C1.out ?_
            rintro e w2 ⟨⟨v, rfl⟩, hD2, hG2⟩
            have hB2 : Below w.heap.size w w2 := HB.out.grown hG2 HB.out.size (fun k hk => by cases hk; exact HBl.out)
            have hO2 := HO.out.kept hG2 (by
              rcases HO.out.2 with ⟨h0, _⟩ | ⟨g, cap, cur, h0, hg, _⟩
              · left; rw [h0]; rfl
              · right; rw [h0]; show some g ≠ some b0; simp; omega)
            have hP2 := H.out.keep hB2
            have ci2 : w2.cell? ⟨pb, po + i, none⟩ = some (.slice (A i) (L i) (C i)) := by
              rcases hP2.at_ with h0 | ⟨pb', po', e, hcl⟩
              · have := HI.out; omega
              · cases e; exact hcl i HI.out
            clear ci C1 HP HB HD
            have HB2 := hide hB2
            have HD2 := hide hD2
            have HO2 := hide hO2
            have HG2 := hide (hP2.ba i HI.out)
            have HBe : Hid (b0 + 1 ≤ w2.heap.size) := by obtain ⟨s, r, h1, _⟩ := hD2; exact h1.lt
            clear hB2 hD2 hO2 hP2 hG2 HO
            have HBN : Hid (N + L i ≤ 1000000) := by have := HL1.out; have := HL2.out; show _ ≤ _; omega
            rw [← HNe.out] at HO2
            go_upto_region 12 with (at_builtin; refine wpList_app rfl _ _ rfl rfl HO2.out rfl HG2.out HBN.out HBe.out ?_; intro v3 w3 hO3 hg3)
            have hD3 := HD2.out.keptO hg3 (by
              rcases HO2.out.2 with ⟨h0, _⟩ | ⟨g, cap, cur, h0, hg, _⟩
              · rw [h0]; exact fun h => by cases h
              · rw [h0]; show some b0 ≠ some g; simp; omega)
            have hB3 : Below w.heap.size w w3 := HB2.out.grown hg3 HB2.out.size (fun k hk => by
              have := (HO2.out.lt k hk).1
              have := HBl.out
              omega)
            rw [HNe.out, fl_cat] at hO3
            have eL : lenF L i + L i = lenF L (i + 1) := rfl
            have eC : cat (catF L G i) (lenF L i) (G i) = catF L G (i + 1) := rfl
            rw [eL, eC] at hO3 hD3
            have hlen : lenF L (i + 1) ≤ 4000 := by
              have := HL1.out
              have := HL2.out
              have := HNe.out
              rw [← eL]
              omega
            obtain ⟨a3, c3, rfl, hc3, hm3⟩ := own_max hO3
            have HR : Hid (i + 1 ≤ k) := HI.out
            have HA3 := hide (own_ba hO3 (catF_lt (i + 1) (fun j hj m => (H.out.ba j (by have := HI.out; omega)).lt m)))
            have HD3 := hide hD3
            have HB3 := hide hB3
            have HO3 := hide hO3
            have HLn3 := hide hlen
            clear hD3 hB3 hO3 hg3 hlen HD2 HB2 HO2 HG2 HBN HBe ci2 eL eC
            go_cut [54] (fun s54 wc => s54 = .bool false ∧ Below w3.heap.size w3 wc)
            case first =>
              by_cases h3 : i % 3 = 0
              · have h3i : (i : Int) % 3 = 0 := by omega
                have h3t : (i : Int).tmod 3 = 0 := by rw [Int.tmod_eq_emod_of_nonneg (by omega)]; omega
                have C1 := hide (dsum_hA (HT.out.keep HB3.out) HD3.out (by have := HLn3.out; omega))
                have C2 := hide (fun (W : World) (hb : Below w3.heap.size w3 W) => refSum_hA (c := c3) (HA3.out.keep hb) (by have := HLn3.out; omega))
                have HQ := hide (fun W => eqV (catF L G (i + 1)) (lenF L (i + 1)) W)
                generalize hA (catF L G (i + 1)) (lenF L (i + 1)) = V at C1 C2 HQ
                go_wp2_with fail
                with_reducible refine Calls.mono C1.out ?_
                rintro e w4 ⟨rfl, hb⟩
                go_wp2_with fail
                with_reducible refine Calls.mono (C2.out _ hb) ?_
                rintro e w5 ⟨rfl, hb5⟩
                have HB5 := hide (K.call hb hb5)
                clear hb hb5
                go_wp2_with (refine wpList_neH (by rfl) _ _ _ rfl _ _ _ rfl rfl (HQ.out _) ?_; simp only [Act.put, List.setIfInBounds_toArray, List.set_cons_zero, List.set_cons_succ])
                go_meet
                case rel => exact ⟨rfl, HB5.out⟩
              · obtain ⟨r, hr⟩ : ∃ r, r = i % 3 := ⟨_, rfl⟩
                have h3i : (i : Int) % 3 = (r : Int) := by omega
                have h3t : (i : Int).tmod 3 = (r : Int) := by rw [Int.tmod_eq_emod_of_nonneg (by omega)]; omega
                have h3b : ((r : Int) == 0) = false := beq_eq_false_iff_ne.2 (by omega)
                have h3n : ¬ r = 0 := by omega
                clear hr h3
                go_wp2_with fail
                go_meet
                case rel => exact ⟨rfl, Below.refl _ _⟩
            case rest =>
              obtain ⟨rfl, hbc⟩ := hcut
              have HDc := hide (HD3.out.keep hbc)
              have HBc := hide (K.call HB3.out hbc)
              have HOc := hide (own_keep HO3.out hbc)
              clear hbc HD3 HB3 HO3 HA3
              go_wp2_with fail
              go_roundg (k - (i + 1))
              case measure => have := HR.out; omega
              case rel => exact ⟨i + 1, _, rfl, rfl, HR.out, by go_num, HDc.out, HOc.out, HLn3.out, HBc.out⟩
          · have hl2i : (2000 : Int) < (N : Int) := by omega
            clear hl2
            go_wp2_with fail
            go_ret
            exact ⟨rfl, HB.out⟩
        · have hl1i : (2000 : Int) < (L i : Int) := by omega
          clear hl1
          go_wp2_with fail
          go_ret
          exact ⟨rfl, HB.out⟩
      · obtain rfl : k = i := by omega
        have HD := hide hD
        have HB := hide hB
        have HA := hide (own_ba hO (catF_lt k (fun j hj m => (H.out.ba j hj).lt m)))
        have HLn := hide hln
        have HCu := hide (And.intro hcu hcm)
        clear hi hlt hD hB hO hln hcu hcm
        have C1 := hide (fun (W : World) (hb : Below wr.heap.size wr W) => dsum_hA (HT.out.keep (K.call HB.out hb)) (HD.out.keep hb) (by have := HLn.out; omega))
        have C2 := hide (fun (W : World) (hb : Below wr.heap.size wr W) => refSum_hA (c := cu) (HA.out.keep hb) (by have := HLn.out; omega))
        have C3 := hide (fun (W : World) (hb : Below wr.heap.size wr W) (q : Nat) (hq : q = W.heap.size) => sum_one (HT.out.keep (K.call HB.out hb)) (HA.out.keep hb) HCu.out.1 HCu.out.2 (by have := HLn.out; omega) 22 hq)
        have C4 := hide (fun (W : World) (hb : Below wr.heap.size wr W) => sum_hA (c := c) (HT.out.keep (K.call HB.out hb)) (H.out.keep (K.call HB.out hb)) (by have := HN.out; omega) (by have := HLn.out; omega))
        have HQ := hide (fun W => eqV (catF L G k) (lenF L k) W)
        generalize hA (catF L G k) (lenF L k) = V at C1 C2 C3 C4 HQ
        generalize lenF L k = N at *
        go_wp2_with fail
        with_reducible refine Calls.mono (C1.out _ (Below.refl _ _)) ?_
        rintro e w2 ⟨rfl, hb2⟩
        go_wp2_with fail
        with_reducible refine Calls.mono (C2.out _ hb2) ?_
        rintro e w3 ⟨rfl, hb⟩
        have hb3 := K.call hb2 hb
        clear hb hb2
        go_wp2_with (refine wpList_eqH (by rfl) _ _ _ rfl _ _ _ rfl rfl (HQ.out _) ?_; simp only [Act.put, List.setIfInBounds_toArray, List.set_cons_zero, List.set_cons_succ])
        with_reducible refine Calls.mono (C1.out _ hb3) ?_
        rintro e w4 ⟨rfl, hb⟩
        have hb4 := K.call hb3 hb
        clear hb hb3
        go_wp2_with (refine wpList_eqH (by rfl) _ _ _ rfl _ _ _ rfl rfl (HQ.out _) ?_; simp only [Act.put, List.setIfInBounds_toArray, List.set_cons_zero, List.set_cons_succ])
        with_reducible refine Calls.mono (C3.out _ hb4 _ rfl) ?_
        rintro e w5 ⟨rfl, hb⟩
        have hb5 := K.call hb4 hb
        clear hb hb4
        go_wp2_with (refine wpList_eqH (by rfl) _ _ _ rfl _ _ _ rfl rfl (HQ.out _) ?_; simp only [Act.put, List.setIfInBounds_toArray, List.set_cons_zero, List.set_cons_succ])
        with_reducible refine Calls.mono (C4.out _ hb5) ?_
        rintro e w6 ⟨rfl, hb⟩
        have hb6 := K.call hb5 hb
        clear hb hb5
        go_wp2_with (refine wpList_eqH (by rfl) _ _ _ rfl _ _ _ rfl rfl (HQ.out _) ?_; simp only [Act.put, List.setIfInBounds_toArray, List.set_cons_zero, List.set_cons_succ])
        with_reducible refine Calls.mono (C3.out _ hb6 _ rfl) ?_
        rintro e w7 ⟨rfl, hb⟩
        have HB7 := hide (K.call HB.out (K.call hb6 hb))
        clear hb hb6
        go_wp2_with (refine wpList_eqH (by rfl) _ _ _ rfl _ _ _ rfl rfl (HQ.out _) ?_; simp only [Act.put, List.setIfInBounds_toArray, List.set_cons_zero, List.set_cons_succ])
        go_ret
        exact ⟨rfl, HB7.out⟩
  · have hni : (40 : Int) < k := by omega
    clear hn
    go_enter Tryd.func4, Tryd.ntmps4
    go_wp2_with fail
    with_reducible refine Calls.mono (awake_any HT.out) ?_
    rintro e w1 ⟨rfl, hb1⟩
    have HB1 := hide hb1
    clear hb1
    go_wp2_with fail
    with_reducible refine Calls.mono (awake_any (HT.out.keep HB1.out)) ?_
    rintro e w2 ⟨rfl, hb⟩
    have HB2 := hide (K.call HB1.out hb)
    clear hb HB1
    go_wp2_with fail
    go_ret
    exact ⟨rfl, HB2.out⟩
end Go.Proofs.YtgefbeejjbjfhaaDoor
