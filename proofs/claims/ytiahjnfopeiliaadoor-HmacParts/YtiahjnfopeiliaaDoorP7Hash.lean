/- What the program's own hash of a key's bytes and of parts answers. -/
import Derived.Test.YtiahjnfopeiliaaDoorP7Base
namespace Go.Proofs.YtiahjnfopeiliaaDoor
open Go.RowKit
attribute [local go_sem ↓] Go.wp_at_zero Go.wp_at_succ

theorem cat_assoc (f g h : Nat → Nat) (n m : Nat) : cat (cat f n g) (n + m) h = cat f n (cat g m h) := by
  funext i
  unfold cat
  by_cases h1 : i < n
  · rw [if_pos (by omega), if_pos h1, if_pos h1]
  · rw [if_neg h1, if_neg h1]
    by_cases h2 : i < n + m
    · rw [if_pos h2, if_pos (by omega)]
    · rw [if_neg h2, if_neg (by omega)]
      congr 1
      omega
/-- The first i bytes of f, laid over m. -/
def mixF (f : Nat → Nat) (m i j : Nat) : Nat := if j < i then f j ^^^ m else f j
set_option maxRecDepth 100000 in
set_option maxHeartbeats 8000000 in
theorem khash_any {w : World} {x : Option Addr} {k c m : Nat} {f : Nat → Nat} {A : Nat → Option Addr} {L C : Nat → Nat} {G : Nat → Nat → Nat} (hT : Tab w) (hf : ∀ i, f i < 256) (hm : m < 256) (hP : PL w x k A L C G) (hk : k ≤ 1000000) (hl : lenF L k ≤ 700000) :
    Calls Tryd.prog 16 #[.agg (ab f 64).toArray, .int .u8 (m : Int), .slice x k c] w fun e w' => e = .returned (.agg (hA (cat (fun i => f i ^^^ m) 64 (catF L G k)) (64 + lenF L k))) ∧ Below w.heap.size w w' := by
  have HT := hide hT
  have HL := hide hT.lt
  have HP := hide hP
  have HN := hide hl
  have HFl := hide hf
  have HM := hide hm
  have hmi : (m : Int) < 256 := by omega
  have hki : (k : Int) ≤ 1000000 := by omega
  clear hT hP hl hf hm
  have HMA : Hid (∀ W : World, RowB (W.alloc (.cells (ab f 64).toArray 41)) W.heap.size 64 f) := fun W => RowB.made W _ 64 f _ rfl
  obtain ⟨A0, hA0⟩ : ∃ A0, A0 = (ab f 64).toArray := ⟨_, rfl⟩
  rw [← hA0] at HMA ⊢
  clear hA0
  have zD := fun W => zeroDig W
  go_enter Tryd.func16, Tryd.ntmps16
  go_upto_region 1 with fail
  refine wp_world (fun X hX => ?_)
  have hB : Below w.heap.size w X := by rw [hX]; exact K.alloc (K.alloc (Below.refl _ _) _) _
  have hF : RowB X w.heap.size 64 f := by rw [hX]; exact Row8.keep (HMA.out w) (K.alloc (Below.refl _ _) _)
  have hH : RowB X (w.heap.size + 1) 32 (fun _ => 0) := by
    rw [hX]
    have h := RowB.made (w.alloc (.cells A0 41)) 25 32 (fun _ => 0) _ zeros32
    have e : ∀ o, (w.alloc o).heap.size = w.heap.size + 1 := fun o => by simp
    rw [e] at h
    exact h
  clear hX HMA
  obtain ⟨b0, hb0⟩ : ∃ b0, w.heap.size = b0 := ⟨_, rfl⟩
  rw [hb0] at hB hH hF HL ⊢
  have HH := hide hH
  have HF := hide hF
  have HB := hide hB
  clear hH hF hB
  go_wp2_with fail
  go_loopg [11] 64 (fun g' s11 wr => ∃ i : Nat, g' = 64 - i ∧ i ≤ 64 ∧ s11 = .int .i64 i ∧ RowB wr b0 64 (mixF f m i) ∧ RowB wr (b0 + 1) 32 (fun _ => 0) ∧ Below b0 w wr)
  case atStart => exact ⟨0, rfl, by omega, rfl, Row8.congr HF.out (fun i _ => by unfold mixF; rw [if_neg (by omega)]), HH.out, HB.out⟩
  case round =>
    clear HF HH HB
    obtain ⟨i, rfl, hi, rfl, hF, hH, hB⟩ := hrel
    by_cases hlt : i < 64
    · have ci := hF.c i hlt
      have zi := hF.z i hlt
      have e1 : mixF f m i i = f i := by unfold mixF; rw [if_neg (by omega)]
      simp only [e1] at ci
      obtain ⟨d, hd⟩ : ∃ d, d = f i ^^^ m := ⟨_, rfl⟩
      have HD := hide hd
      have hfi := HFl.out i
      have x1 : bits .xor .u8 ((f i : Nat) : Int) (m : Int) = (d : Int) := by rw [hd]; exact u8_xor_nat (f i) m hfi HM.out
      have hd256 : d < 256 := by rw [hd]; exact xor_lt hfi HM.out
      obtain ⟨y, hy⟩ : ∃ y, y = f i := ⟨_, rfl⟩
      rw [← hy] at ci x1 hfi
      have hyi : (y : Int) < 256 := by omega
      have hdi : (d : Int) < 256 := by omega
      have hii : (i : Int) < 64 := by omega
      have HFr := hide hF
      have HH := hide hH
      have HB := hide hB
      have HI := hide hlt
      have hvl := hF.lt
      clear hF hH hB hi hlt hd hy e1
      go_wp2_with fail
      go_roundg (64 - (i + 1))
      case measure => have := HI.out; omega
      case rel => exact ⟨i + 1, rfl, by have := HI.out; omega, by go_num, (Row8.store HFr.out i HI.out (d : Int)).congr (fun j hj => by
        unfold mixF
        by_cases e : j = i
        · subst e; rw [if_pos rfl, if_pos (by omega), HD.out]
        · rw [if_neg e]
          by_cases e2 : j < i
          · rw [if_pos e2, if_pos (by omega)]
          · rw [if_neg e2, if_neg (by omega)]), row8_other HH.out (by omega) i _, by subst hb0; exact K.set HB.out (Nat.le_refl _) _⟩
    · obtain rfl : i = 64 := by omega
      have hFF : RowB wr b0 64 (fun i => f i ^^^ m) := Row8.congr hF (fun j hj => by unfold mixF; rw [if_pos hj])
      obtain ⟨F, hFe⟩ : ∃ F : Nat → Nat, F = fun i => f i ^^^ m := ⟨_, rfl⟩
      have HFlt : Hid (∀ i, F i < 256) := fun i => by rw [hFe]; exact xor_lt (HFl.out i) HM.out
      rw [← hFe] at hFF
      have HFE := hide hFe
      have hsz := hH.lt
      have HB := hide hB
      have HH := hide hH
      have HF := hide hFF
      have HS := hide hsz
      clear hF hFF hFe hB hH hsz hlt hi
      go_upto_region 7 with fail
      refine wp_world (fun X hX => ?_)
      have hal : Below wr.heap.size wr X := by rw [hX]; exact K.alloc (Below.refl _ _) _
      have hD : Dig X wr.heap.size F 0 := by rw [hX]; exact dig_made wr 58 F
      clear hX zD
      have HF1 := hide (Row8.keep HF.out hal)
      have HH1 := hide (Row8.keep HH.out hal)
      have HB1 : Hid (Below b0 w X) := by subst hb0; exact K.call HB.out hal
      have hbw : Below w.heap.size w X := by rw [hb0]; exact HB1.out
      have HT1 := hide (HT.out.keep hbw)
      obtain ⟨b1, hb1⟩ : ∃ b1, wr.heap.size = b1 := ⟨_, rfl⟩
      rw [hb1] at hD HS ⊢
      have HW := hide (write_any (b := b1) (m := 64) (c := 64) (x := some ⟨b0, 0, none⟩) HT1.out (by have := HL.out; have := HS.out; omega) (RowB.ba HF1.out HFlt.out) (fun _ p hp => by cases hp; show b0 ≠ b1; have := HS.out; omega) (Nat.le_refl _) (by unfold maxLen; omega) hD (by omega))
      clear hal hD hbw HF HH HB HT1
      go_upto_region 8 with fail
      with_reducible refine Calls.mono HW.out ?_
      rintro e W2 ⟨⟨v, rfl⟩, hD2, hG2⟩
      rw [cat_zero, Nat.zero_add] at hD2
      have hH2 : RowB W2 (b0 + 1) 32 (fun _ => 0) := ⟨Nat.lt_of_lt_of_le HH1.out.lt hG2.size, fun i hi => hG2.cell (HH1.out.c i hi) (by have := HS.out; simp; omega), fun i hi => by
        rw [World.frozen?_of_block (w := X) (hG2.block (b0 + 1) HH1.out.lt (by have := HS.out; simp; omega))]; exact HH1.out.z i hi⟩
      have hB2 : Below b0 w W2 := HB1.out.grown hG2 (by have := HH1.out.lt; omega) (fun k hk => by cases hk; have := HS.out; omega)
      have HD2 := hide hD2
      have HH2 := hide hH2
      have HB2 := hide hB2
      clear hD2 hH2 hB2 hG2 HW HH1 HB1 HF1
      go_wp2_with fail
      go_loopg [25] k (fun g' s25 wr => ∃ i : Nat, g' = k - i ∧ i ≤ k ∧ s25 = .int .i64 i ∧ Dig wr b1 (cat F 64 (catF L G i)) (64 + lenF L i) ∧ RowB wr (b0 + 1) 32 (fun _ => 0) ∧ Below b0 w wr)
      case atStart => exact ⟨0, rfl, by omega, rfl, HD2.out.congr (fun i hi => by unfold cat; rw [if_pos hi]), HH2.out, HB2.out⟩
      case round =>
        clear HH2 HD2 HB2
        obtain ⟨i, rfl, hi, rfl, hD, hH, hB⟩ := hrel
        have hB' : Below w.heap.size w wr := by rw [hb0]; exact hB
        have HT1 := hide (HT.out.keep hB')
        have HP1 := hide (HP.out.keep hB')
        clear hB'
        by_cases hlt : i < k
        · rcases HP1.out.at_ with h0 | ⟨pb, po, rfl, hc⟩
          · omega
          have ci := hc i hlt
          have hii : (i : Int) < (k : Int) := by omega
          have hcp := HP1.out.cp i hlt
          have hln : lenF L i + L i ≤ 700000 := by
            have h1 := HN.out
            have h2 : lenF L (i + 1) ≤ lenF L k := lenF_mono L hlt
            simp only [lenF] at h2
            omega
          have hDl : b1 < wr.heap.size := by obtain ⟨s, r, h, _⟩ := hD; exact h.lt
          have HW := hide (write_any (c := C i) HT1.out (by have := HL.out; have := HS.out; omega) (HP1.out.ba i hlt) (fun hm p hp => by
            have h1 := (HP.out.ba i hlt).block hm p hp
            have := HS.out
            omega) hcp.1 hcp.2 hD (by omega))
          have HH := hide hH
          have HB := hide hB
          have HI := hide (And.intro hlt hDl)
          clear hc hcp hD hH hB hi hln hDl hlt
          go_wp2_with fail
          with_reducible refine Calls.mono HW.out ?_
          rintro e W2 ⟨⟨v, rfl⟩, hD2, hG2⟩
          rw [cat_assoc, Nat.add_assoc] at hD2
          have hH2 : RowB W2 (b0 + 1) 32 (fun _ => 0) := ⟨Nat.lt_of_lt_of_le HH.out.lt hG2.size, fun i hi => hG2.cell (HH.out.c i hi) (by have := HS.out; simp; omega), fun i hi => by
            rw [World.frozen?_of_block (w := wr) (hG2.block (b0 + 1) HH.out.lt (by have := HS.out; simp; omega))]; exact HH.out.z i hi⟩
          have hB2 : Below b0 w W2 := HB.out.grown hG2 (by have := HI.out; have := HS.out; omega) (fun k hk => by cases hk; have := HS.out; omega)
          clear HW HH HB ci hG2
          go_wp2_with fail
          go_roundg (k - (i + 1))
          case measure => have := HI.out; omega
          case rel => exact ⟨i + 1, rfl, by have := HI.out; omega, by go_num, hD2, hH2, hB2⟩
        · obtain rfl : i = k := by omega
          have HDS := hide (dsum_hA HT1.out hD (by have := HN.out; omega))
          have HH := hide hH
          have HB := hide hB
          clear hD hH hB hi hlt
          go_wp2_with fail
          with_reducible refine Calls.mono HDS.out ?_
          rintro e W3 ⟨rfl, hb⟩
          unfold hA
          have hH3 := Row8.keep HH.out hb
          have hB3 : Below b0 w W3 := by subst hb0; exact K.call HB.out hb
          have HTH := hide (RowB.there hH3 (hByte (hashS (cat F 64 (catF L G i)) (64 + lenF L i))))
          have HST := hide (RowB.stored hH3 (hByte (hashS (cat F 64 (catF L G i)) (64 + lenF L i))))
          have HB : Hid (Below b0 w (W3.setCells (b0 + 1) 0 (ab (hByte (hashS (cat F 64 (catF L G i)) (64 + lenF L i))) 32).toArray.toList)) := by subst hb0; exact below_setCells _ _ hB3 (by omega)
          clear hb hH3 hB3 HH HDS
          generalize hs2 : hashS (cat F 64 (catF L G i)) (64 + lenF L i) = s2 at HTH HST HB ⊢
          have HS2 := hide hs2
          clear hs2
          go_wp2_with (refine wpList_store_mid rfl 25 _ _ rfl (b0 + 1) 0 (ab (hByte s2) 32).toArray rfl rfl HTH.out (inH _) (all_oneCell_toArray (ab_one _ _)) ?_; generalize W3.setCells (b0 + 1) 0 (ab (hByte s2) 32).toArray.toList = Z at HST HB ⊢)
          exact bodyPost_ret (results_cell_mid Tryd.results16 _ _ (b0 + 1) (ab (hByte s2) 32) _ rfl (RowB.range HST.out) Tryd.underlying25 rfl (ilH _)) rfl ⟨by unfold hA; rw [← HFE.out, HS2.out], by rw [hb0]; exact HB.out⟩
end Go.Proofs.YtiahjnfopeiliaaDoor
