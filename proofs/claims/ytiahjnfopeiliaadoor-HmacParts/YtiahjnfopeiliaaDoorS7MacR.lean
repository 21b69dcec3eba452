/- What the document's own Mac answers. -/
import Derived.Test.YtiahjnfopeiliaaDoorS7W
import Derived.Test.YtiahjnfopeiliaaDoorS7Two
import Derived.Test.YtiahjnfopeiliaaDoorKApp1
namespace Go.Proofs.YtiahjnfopeiliaaDoor
open Go.RowKit
attribute [local go_sem ↓] Go.wp_at_zero Go.wp_at_succ

set_option maxRecDepth 100000 in
set_option maxHeartbeats 8000000 in
theorem refMac_any {x y : Option Addr} {n m c d : Nat} {f g : Nat → Nat} {w : World} (hx : BA w x n f) (hy : BA w y m g) (hn : n ≤ 80000) (hm : m ≤ 80000) :
    Calls Tryd.prog 10 #[.slice x n c, .slice y m d] w fun e w' => e = .returned (.agg (mA f n g m)) ∧ Below w.heap.size w w' := by
  have HX := hide hx
  have HY := hide hy
  have HN := hide (And.intro hn hm)
  have hni : (n : Int) ≤ 80000 := by omega
  clear hx hy hn hm
  go_enter Tryd.func10, Tryd.ntmps10
  go_upto_region 1 with fail
  refine wp_world (fun X hX => ?_)
  have hB : Below w.heap.size w X := by rw [hX]; exact K.alloc (Below.refl _ _) _
  have hH : RowB X w.heap.size 32 (fun _ => 0) := by rw [hX]; exact RowB.made w 25 32 (fun _ => 0) _ zeros32
  clear hX
  have HX1 := hide (HX.out.keep hB)
  have hO0 : X.ownsRow X.heap.size 5 1 (.slice none 0 0) 0 (cells8 []) := World.ownsRow_nil _ _ _ _
  go_upto_region 3 with (at_builtin; refine wpList_app rfl _ _ rfl rfl hO0 rfl HX1.out (by have := HN.out; omega) (Nat.le_refl _) ?_; intro v1 w1 hO1 hg1)
  rw [Nat.zero_add, List.nil_append] at hO1
  have hb1 : Below X.heap.size X w1 := (Below.refl _ X).grown hg1 (Nat.le_refl _) (fun k hk => by cases hk)
  obtain ⟨a1, c1, rfl, hc1, hm1⟩ := own_max hO1
  have HA := hide (own_ba hO1 HX.out.lt)
  have HX1 := hide (HX1.out.keep hb1)
  have HB := hide (K.call hB hb1)
  have HH := hide (Row8.keep hH hb1)
  obtain ⟨b0, hb0⟩ : ∃ b0, w.heap.size = b0 := ⟨_, rfl⟩
  rw [hb0] at HB HH ⊢
  clear hO0 hg1 hO1 hb1 hB hH
  have hc1i : (n : Int) ≤ (c1 : Int) := by omega
  go_upto_if 17 with fail
  go_cut [5] (fun s5 wc => ∃ (ak : Option Addr) (nk ck : Nat) (fk : Nat → Nat), s5 = .slice ak nk ck ∧ nk ≤ 64 ∧ BA wc ak nk fk ∧ (∀ i, kpad f n i = if i < nk then fk i else 0) ∧ RowB wc b0 32 (fun _ => 0) ∧ Below b0 w wc)
  case first =>
    by_cases h64 : n ≤ 64
    · have h64i : (n : Int) ≤ 64 := by omega
      go_wp2_with fail
      go_meet
      case rel => exact ⟨_, _, _, f, rfl, h64, HA.out, fun i => by unfold kpad; rw [if_pos h64], HH.out, HB.out⟩
    · have h64i : (64 : Int) < n := by omega
      go_wp2_with fail
      with_reducible refine Calls.mono (refSum_hA HX1.out (by have := HN.out; omega)) ?_
      rintro e w2 ⟨rfl, hb⟩
      unfold hA
      obtain ⟨h, hh⟩ : ∃ h, h = hByte (hashS f n) := ⟨_, rfl⟩
      have HK : Hid (∀ i, kpad f n i = if i < 32 then h i else 0) := fun i => by unfold kpad; rw [if_neg h64, hh]
      have HL : Hid (∀ i, h i < 256) := fun i => by rw [hh]; exact hByte_lt _ i
      rw [← hh]
      have HH2 := hide (Row8.keep HH.out hb)
      have HB2 : Hid (Below b0 w w2) := by subst hb0; exact K.call HB.out hb
      have HSZ : Hid (32 = (ab h 32).toArray.size) := by show _ = _; rw [List.size_toArray, ab_len]
      clear hb hh HH HB h64
      have hal := K.alloc (Below.refl _ w2) (.cells (ab h 32).toArray 25)
      have hR := hide (RowB.made w2 25 32 h _ rfl)
      have HH3 := hide (Row8.keep HH2.out hal)
      have HB3 : Hid (Below b0 w (w2.alloc (.cells (ab h 32).toArray 25))) := by subst hb0; exact K.call HB2.out hal
      clear hal HH2 HB2
      go_wp2_with (refine wpList_store_new rfl 25 _ _ rfl _ (ab h 32).toArray rfl rfl (inH _) HSZ.out (all_oneCell_toArray (ab_one _ _)) ?_; generalize w2.alloc (.cells (ab h 32).toArray 25) = Y at hR HH3 HB3 ⊢)
      go_meet
      case rel => exact ⟨_, 32, _, h, rfl, by omega, RowB.ba hR.out HL.out, HK.out, HH3.out, HB3.out⟩
  case rest =>
    obtain ⟨V0, rfl⟩ : ∃ V0, V0 = wc := ⟨_, rfl⟩
    obtain ⟨ak, nk, ck, fk, rfl, hnk, hA, hk, hH, hB⟩ := hcut
    have HA := hide hA
    have HK := hide hk
    have HH := hide hH
    have HB := hide hB
    have HNK := hide hnk
    have hnki : (nk : Int) ≤ 64 := by omega
    clear hA hk hH hB hnk HX1
    obtain ⟨B1, hB1⟩ : ∃ B1, B1 = V0.heap.size := ⟨_, rfl⟩
    have HB1 := hide hB1
    clear hB1
    go_wp2_with fail
    go_loopg [7, 8, 9] 64 (fun g' s7 s8 s9 wr => ∃ (i : Nat) (u7 u8 : Value), u7 = s7 ∧ u8 = s8 ∧ g' = 64 - i ∧ i ≤ 64 ∧ s9 = .int .i64 i ∧ wr.ownsRow B1 5 1 u7 i (cells8 (fl (fun j => kpad f n j ^^^ 54) i)) ∧ wr.ownsRow B1 5 1 u8 i (cells8 (fl (fun j => kpad f n j ^^^ 92) i)) ∧ (∀ q, u7.ownBlock = some q → u8.ownBlock ≠ some q) ∧ Below B1 V0 wr)
    case atStart => exact ⟨0, _, _, rfl, rfl, rfl, by omega, rfl, World.ownsRow_nil _ _ _ _, World.ownsRow_nil _ _ _ _, (fun q h => by cases h), Below.refl _ _⟩
    case round =>
      obtain ⟨i, u7, u8, h7, h8, rfl, hi, rfl, hO7, hO8, hne, hBr⟩ := hrel
      subst h7 h8
      by_cases hlt : i < 64
      · obtain ⟨b, hb⟩ : ∃ b, b = kpad f n i := ⟨_, rfl⟩
        have hb256 : b < 256 := by rw [hb]; exact kpad_lt HX.out.lt n i
        have x1 : bits .xor .u8 (b : Int) 54 = ((b ^^^ 54 : Nat) : Int) := u8_xor_nat b 54 hb256 (by omega)
        have x2 : bits .xor .u8 (b : Int) 92 = ((b ^^^ 92 : Nat) : Int) := u8_xor_nat b 92 hb256 (by omega)
        have HF1 : Hid (fl (fun j => kpad f n j ^^^ 54) (i + 1) = fl (fun j => kpad f n j ^^^ 54) i ++ [b ^^^ 54]) := by show _ = _; rw [fl_succ, hb]
        have HF2 : Hid (fl (fun j => kpad f n j ^^^ 92) (i + 1) = fl (fun j => kpad f n j ^^^ 92) i ++ [b ^^^ 92]) := by show _ = _; rw [fl_succ, hb]
        have l1 : b ^^^ 54 < 256 := xor_lt hb256 (by omega)
        have l2 : b ^^^ 92 < 256 := xor_lt hb256 (by omega)
        have HbE := hide hb
        generalize he1 : b ^^^ 54 = d1 at *
        generalize he2 : b ^^^ 92 = d2 at *
        have HL12 := hide (And.intro l1 l2)
        have HO7 := hide hO7
        have HO8 := hide hO8
        have HNE := hide hne
        have HBr := hide hBr
        have hii : (i : Int) < 64 := by omega
        have HI := hide hlt
        have hbi : (b : Int) < 256 := by omega
        have hd1 : (d1 : Int) < 256 := by omega
        have hd2 : (d2 : Int) < 256 := by omega
        have HSz : Hid (B1 ≤ wr.heap.size) := by have h1 := hBr.size; have h2 := HB1.out; show _ ≤ _; omega
        clear he1 he2 hb l1 l2 hO7 hO8 hne hBr hlt hi hb256
        go_upto_if 28 with fail
        go_cut [10] (fun s10 wd => s10 = .int .u8 (b : Int) ∧ wd = wr)
        case first =>
          by_cases hik : i < nk
          · have hiki : (i : Int) < (nk : Int) := by omega
            rcases HA.out.at_ with h0 | ⟨kb, ko, rfl, hr⟩
            · omega
            have ci := (hr.keep (by have h := HBr.out; rw [HB1.out] at h; exact h)).c i hik
            have e : fk i = b := by rw [HbE.out, HK.out i, if_pos hik]
            rw [e] at ci
            clear e
            go_wp2_with fail
            go_meet
            case rel => exact ⟨rfl, rfl⟩
          · have hiki : ¬ (i : Int) < (nk : Int) := by omega
            have hb0' : b = 0 := by rw [HbE.out, HK.out i, if_neg hik]
            go_wp2_with fail
            go_meet
            case rel => exact ⟨by rw [hb0']; rfl, rfl⟩
        case rest =>
          obtain ⟨rfl, rfl⟩ := hcut
          go_upto_region 14 with (at_builtin; refine wpList_app1 rfl _ _ rfl rfl (HO7.out.alloc _) HL12.out.1 rfl rfl (by have := HI.out; omega) HSz.out ?_; intro g7 c7 w7 hO7' hg7 hl7 hs7)
          have hB7 : Below B1 V0 w7 := (HBr.out.alloc HSz.out _).grown hg7 (by have := HSz.out; simp; omega) (fun k hk => (HO7.out.lt k hk).1)
          have hO8' := (HO8.out.alloc (.cells #[.int .u8 (d1 : Int)] 5)).kept hg7 (by
            cases h8 : u8.ownBlock with
            | none => exact Or.inl rfl
            | some q8 => exact Or.inr (fun e => HNE.out q8 e.symm h8))
          have hne7 : u8.ownBlock ≠ some g7 := fun e => by
            rcases hl7 with h | h
            · exact HNE.out g7 h e
            · have := (HO8.out.lt g7 e).2
              omega
          have HO7 := hide hO7'
          have HO8 := hide hO8'
          have HNE := hide hne7
          have HB7 := hide hB7
          have HSz7 : Hid (B1 ≤ w7.heap.size) := by have h1 := hB7.size; have h2 := HB1.out; show _ ≤ _; omega
          rw [← HF1.out] at HO7
          have HG7 := hide hs7
          clear hO7' hg7 hl7 hs7 hO8' hne7 hB7 x1
          go_upto_region 9 with (at_builtin; refine wpList_app1 rfl _ _ rfl rfl (HO8.out.alloc _) HL12.out.2 rfl rfl (by have := HI.out; omega) HSz7.out ?_; intro g8 c8 w8 hO8' hg8 hl8 hs8)
          have hB8 : Below B1 V0 w8 := (HB7.out.alloc HSz7.out _).grown hg8 (by have := HSz7.out; simp; omega) (fun k hk => (HO8.out.lt k hk).1)
          have hO7' := (HO7.out.alloc (.cells #[.int .u8 (d2 : Int)] 5)).kept hg8 (Or.inr (fun e => HNE.out e.symm))
          have hne8 : g7 ≠ g8 := fun e => by
            rcases hl8 with h | h
            · exact HNE.out ((show u8.ownBlock = some g8 from h).trans (by rw [e]))
            · have := HG7.out
              omega
          have HO7 := hide hO7'
          have HO8 := hide hO8'
          have HNE := hide hne8
          have HB8 := hide hB8
          rw [← HF2.out] at HO8
          clear hO8' hg8 hl8 hs8 hO7' hne8 hB8 x2
          go_wp2_with fail
          go_roundg (64 - (i + 1))
          case measure => have := HI.out; omega
          case rel => exact ⟨i + 1, _, _, rfl, rfl, rfl, by have := HI.out; omega, by go_num, HO7.out, HO8.out, fun q h e => HNE.out (by cases h; cases e; rfl), HB8.out⟩
      · obtain rfl : i = 64 := by omega
        obtain ⟨a7, c7, rfl, _, _⟩ := own_max hO7
        obtain ⟨a8, c8, rfl, _, _⟩ := own_max hO8
        have hb1 : Below V0.heap.size V0 wr := by have h := hBr; rw [HB1.out] at h; exact h
        have hb2 : Below w.heap.size w wr := by rw [hb0]; subst hb0; exact K.call HB.out hb1
        have H7 := hide (own_ba hO7 (fun j => xor_lt (kpad_lt HX.out.lt n j) (by omega)))
        have H8 := hide (own_ba hO8 (fun j => xor_lt (kpad_lt HX.out.lt n j) (by omega)))
        have HY2 := hide (HY.out.keep hb2)
        have HH2 := hide (Row8.keep HH.out hb1)
        have HB2 : Hid (Below b0 w wr) := by rw [← hb0]; exact hb2
        have hME : macS f n g m = hashS (cat (fun j => kpad f n j ^^^ 92) 64 (hByte (hashS (cat (fun j => kpad f n j ^^^ 54) 64 g) (64 + m)))) (64 + 32) := rfl
        have HME := hide hME
        clear hO7 hO8 hne hBr hb1 hb2 hlt hi hME HA HK HH HB
        generalize hF1 : (fun j => kpad f n j ^^^ 54) = F1 at *
        generalize hF2 : (fun j => kpad f n j ^^^ 92) = F2 at *
        clear hF1 hF2
        go_wp2_with fail
        with_reducible refine Calls.mono (refTwo_any H7.out HY2.out (by have := HN.out; omega)) ?_
        rintro e w2 ⟨rfl, hb⟩
        unfold hA
        obtain ⟨h, hh⟩ : ∃ h, h = hByte (hashS (cat F1 64 g) (64 + m)) := ⟨_, rfl⟩
        have HL : Hid (∀ i, h i < 256) := fun i => by rw [hh]; exact hByte_lt _ i
        rw [← hh] at HME ⊢
        have hal := K.alloc (Below.refl _ w2) (.cells (ab h 32).toArray 25)
        have hR := hide (RowB.made w2 25 32 h _ rfl)
        have hb' := K.call hb hal
        have H8 := hide (H8.out.keep hb')
        have HH3 := hide (Row8.keep HH2.out hb')
        have HB3 : Hid (Below b0 w (w2.alloc (.cells (ab h 32).toArray 25))) := by subst hb0; exact K.call HB2.out hb'
        have HSZ : Hid (32 = (ab h 32).toArray.size) := by show _ = _; rw [List.size_toArray, ab_len]
        clear hal hb hb' hh HH2 HB2 H7 HY2
        go_wp2_with (refine wpList_store_new rfl 25 _ _ rfl _ (ab h 32).toArray rfl rfl (inH _) HSZ.out (all_oneCell_toArray (ab_one _ _)) ?_; generalize w2.alloc (.cells (ab h 32).toArray 25) = Y at hR HH3 HB3 H8 ⊢)
        with_reducible refine Calls.mono (refTwo_any H8.out (RowB.ba hR.out HL.out) (by omega)) ?_
        rintro e W3 ⟨rfl, hb⟩
        unfold hA
        have hH3 := Row8.keep HH3.out hb
        have hB3 : Below b0 w W3 := by subst hb0; exact K.call HB3.out hb
        have HTH := hide (RowB.there hH3 (hByte (hashS (cat F2 64 h) (64 + 32))))
        have HST := hide (RowB.stored hH3 (hByte (hashS (cat F2 64 h) (64 + 32))))
        have HB : Hid (Below b0 w (W3.setCells b0 0 (ab (hByte (hashS (cat F2 64 h) (64 + 32))) 32).toArray.toList)) := by subst hb0; exact below_setCells _ _ hB3 (Nat.le_refl _)
        clear hb hH3 hB3 HH3 HB3 hR H8 HSZ
        generalize hs2 : hashS (cat F2 64 h) (64 + 32) = s2 at HTH HST HB HME ⊢
        clear hs2
        go_wp2_with (refine wpList_store_mid rfl 25 _ _ rfl b0 0 (ab (hByte s2) 32).toArray rfl rfl HTH.out (inH _) (all_oneCell_toArray (ab_one _ _)) ?_; generalize W3.setCells b0 0 (ab (hByte s2) 32).toArray.toList = Z at HST HB ⊢)
        exact bodyPost_ret (results_cell_mid Tryd.results10 _ _ b0 (ab (hByte s2) 32) _ rfl (RowB.range HST.out) Tryd.underlying25 rfl (ilH _)) rfl ⟨by unfold mA; rw [HME.out], by rw [hb0]; exact HB.out⟩
end Go.Proofs.YtiahjnfopeiliaaDoor
