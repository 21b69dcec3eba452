/- What the program's own New and Next answer. -/
import Derived.Test.YtiahjnfopeiliaaDoorP7Renew
import Derived.Deep.WholeRow
namespace Go.Proofs.YtiahjnfopeiliaaDoor
open Go.RowKit
attribute [local go_sem ↓] Go.wp_at_zero Go.wp_at_succ

/-- A key of noughts, and a value whose first i bytes are 1. -/
def kvz (i : Nat) : KV := ⟨fun _ => 0, ones i⟩
theorem zeroStm (w : World) : (zeroValue 45).run Tryd.prog w = .ok (.agg (sc (kvz 0) false).toArray) w :=
  (zero_of_info (P := Tryd.prog) (t := 45) (v := .agg (sc (kvz 0) false).toArray) (n := 65) (by kernel_rfl)).1 w
theorem nil_pl (w : World) : PL w none 0 (fun _ => none) (fun _ => 0) (fun _ => 0) (fun _ _ => 0) := ⟨fun i hi => by omega, fun i hi => by omega, Or.inl rfl⟩
set_option maxRecDepth 100000 in
set_option maxHeartbeats 8000000 in
theorem new_any {w : World} {k d : Nat} {y : Option Addr} {A : Nat → Option Addr} {L C : Nat → Nat} {G : Nat → Nat → Nat} (hT : Tab w) (hP : PL w y k A L C G) (hk : k ≤ 900000) (hl : lenF L k ≤ 600000) :
    Calls Tryd.prog 11 #[.slice y k d] w fun e w' => ∃ b, e = .returned (.pointer (some ⟨b, 0, none⟩)) ∧ w.heap.size ≤ b ∧ Stm w' b (kvSeed (catF L G k) (lenF L k)) false ∧ Below w.heap.size w w' := by
  have HT := hide hT
  have HL := hide hT.lt
  have HP := hide hP
  have HK := hide (And.intro hk hl)
  clear hT hP hk hl
  have zD := fun W => zeroStm W
  go_enter Tryd.func11, Tryd.ntmps11
  go_upto_region 2 with fail
  refine wp_world (fun X hX => ?_)
  have hB : Below w.heap.size w X := by rw [hX]; exact K.alloc (Below.refl _ _) _
  have hS : Stm X w.heap.size (kvz 0) false := by rw [hX]; exact Stm.made w 45 _ _ _ rfl
  clear hX zD
  obtain ⟨b0, hb0⟩ : ∃ b0, w.heap.size = b0 := ⟨_, rfl⟩
  rw [hb0] at hB hS HL ⊢
  have HS := hide hS
  have HB := hide hB
  clear hS hB
  go_wp2_with fail
  go_loopg [6] 32 (fun g' s6 wr => ∃ i : Nat, g' = 32 - i ∧ i ≤ 32 ∧ s6 = .int .i64 i ∧ Stm wr b0 (kvz i) false ∧ Below b0 w wr)
  case atStart => exact ⟨0, rfl, by omega, rfl, HS.out, HB.out⟩
  case round =>
    clear HS HB
    obtain ⟨i, rfl, hi, rfl, hS, hB⟩ := hrel
    by_cases hlt : i < 32
    · have ci := hS.cv i hlt
      have zi := hS.z (32 + i) (by omega)
      have hii : (i : Int) < 32 := by omega
      have HS := hide hS
      have HB := hide hB
      have HI := hide hlt
      have hvl := hS.lt
      clear hS hB hi hlt
      go_wp2_with fail
      go_roundg (32 - (i + 1))
      case measure => have := HI.out; omega
      case rel => exact ⟨i + 1, rfl, by have := HI.out; omega, by go_num, (HS.out.setV1 i HI.out 1).congr (fun _ _ => rfl) (fun j hj => by
        show (if j = i then 1 else ones i j) = ones (i + 1) j
        unfold ones
        by_cases e : j = i
        · subst e; simp
        · rw [if_neg e]; (repeat' split) <;> first | rfl | omega), by subst hb0; exact K.set HB.out (Nat.le_refl _) _⟩
    · obtain rfl : i = 32 := by omega
      have hS0 : Stm wr b0 kv0 false := hS.congr (fun _ _ => rfl) (fun j hj => by show ones 32 j = 1; unfold ones; rw [if_pos hj])
      have hbw : Below w.heap.size w wr := by rw [hb0]; exact hB
      have HE := hide (renew_any (d := d) (m := 0) (HT.out.keep hbw) (by have := HL.out; omega) hS0 kv0_ok (by omega) (HP.out.keep hbw) HK.out.1 HK.out.2)
      have HB := hide hB
      clear hS hS0 hbw hB hlt hi
      go_wp2_with fail
      with_reducible refine Calls.mono HE.out ?_
      rintro e w2 ⟨⟨v, rfl⟩, hS2, hg2⟩
      have hB2 : Below b0 w w2 := HB.out.grown hg2 (by have := HB.out.size; omega) (fun k hk => by cases hk; omega)
      have hbw : Below w.heap.size w w2 := by rw [hb0]; exact hB2
      have HE2 := hide (renew_any (d := d) (m := 1) (HT.out.keep hbw) (by have := HL.out; omega) hS2 (kvStep_ok _ _ _ _) (by omega) (HP.out.keep hbw) HK.out.1 HK.out.2)
      have HB2 := hide hB2
      clear hS2 hg2 hB2 hbw HE HB
      go_wp2_with fail
      with_reducible refine Calls.mono HE2.out ?_
      rintro e w3 ⟨⟨v, rfl⟩, hS3, hg3⟩
      have hB3 : Below b0 w w3 := HB2.out.grown hg3 (by have := HB2.out.size; omega) (fun k hk => by cases hk; omega)
      have HS3 := hide hS3
      have HB3 := hide hB3
      clear hS3 hg3 hB3 HE2 HB2
      go_wp2_with fail
      go_ret
      exact ⟨_, rfl, by omega, HS3.out, by rw [hb0]; exact HB3.out⟩
set_option maxHeartbeats 4000000 in
theorem next_nil (w : World) : Calls Tryd.prog 13 #[.pointer none] w fun e w' => e = .returned (.agg (ab (fun _ => 0) 32).toArray) ∧ Below w.heap.size w w' := by
  go_enter Tryd.func13, Tryd.ntmps13
  go_upto_region 1 with fail
  refine wp_world (fun X hX => ?_)
  have hB : Below w.heap.size w X := by rw [hX]; exact K.alloc (Below.refl _ _) _
  have hH : RowB X w.heap.size 32 (fun _ => 0) := by rw [hX]; exact RowB.made w 25 32 (fun _ => 0) _ zeros32
  clear hX
  obtain ⟨b0, hb0⟩ : ∃ b0, w.heap.size = b0 := ⟨_, rfl⟩
  rw [hb0] at hB hH ⊢
  have HTH := hide (RowB.there hH (fun _ => 0))
  have HST := hide (RowB.stored hH (fun _ => 0))
  have HB : Hid (Below b0 w (X.setCells b0 0 (ab (fun _ => 0) 32).toArray.toList)) := by subst hb0; exact below_setCells _ _ hB (Nat.le_refl _)
  clear hH hB
  go_wp2_with (first
    | (refine wpList_hashZ rfl rfl ?_; simp only [Act.put, List.setIfInBounds_toArray, List.set_cons_zero, List.set_cons_succ])
    | (refine wpList_store_mid rfl 25 _ _ rfl b0 0 (ab (fun _ => 0) 32).toArray rfl rfl HTH.out (inH _) (all_oneCell_toArray (ab_one _ _)) ?_; generalize X.setCells b0 0 (ab (fun _ => 0) 32).toArray.toList = Z at HST HB ⊢))
  exact bodyPost_ret (results_cell_mid Tryd.results13 _ _ b0 (ab (fun _ => 0) 32) _ rfl (RowB.range HST.out) Tryd.underlying25 rfl (ilH _)) rfl ⟨rfl, by rw [hb0]; exact HB.out⟩
/-- The stream behind one more number. -/
def kvMore (s : KV) (t : Bool) : KV := kvNext (if t = true then kvStep s 0 (fun _ => 0) 0 else s)
theorem kvMore_ok {s : KV} (h : s.ok) (t : Bool) : (kvMore s t).ok := by
  unfold kvMore
  split
  · exact kvNext_ok (kvStep_ok _ _ _ _)
  · exact kvNext_ok h
theorem kvAt_next (g : Nat → Nat) (m : Nat) : ∀ i, kvMore (kvAt g m i) (decide (0 < i)) = kvAt g m (i + 1)
  | 0 => rfl
  | _ + 1 => rfl
set_option maxRecDepth 100000 in
set_option maxHeartbeats 8000000 in
theorem next_any {w : World} {b : Nat} {s : KV} {t : Bool} (hT : Tab w) (h2 : 2 ≤ b) (hS : Stm w b s t) (hs : s.ok) :
    Calls Tryd.prog 13 #[.pointer (some ⟨b, 0, none⟩)] w fun e w' => e = .returned (.agg (ab (kvMore s t).v 32).toArray) ∧ Stm w' b (kvMore s t) true ∧ w.grownBy w' (some b) := by
  have HT := hide hT
  have HK := hide h2
  have HSo := hide hs
  have hlt0 := hS.lt
  have HL := hide hlt0
  go_enter Tryd.func13, Tryd.ntmps13
  go_upto_region 1 with fail
  refine wp_world (fun X hX => ?_)
  have hB : Below w.heap.size w X := by rw [hX]; exact K.alloc (Below.refl _ _) _
  have hH : RowB X w.heap.size 32 (fun _ => 0) := by rw [hX]; exact RowB.made w 25 32 (fun _ => 0) _ zeros32
  have hSX := hS.keep hB
  clear hX
  obtain ⟨b0, hb0⟩ : ∃ b0, w.heap.size = b0 := ⟨_, rfl⟩
  have HG : Hid (w.grownBy X (some b)) := grown_of hB _
  have HTX := hide (HT.out.keep hB)
  rw [hb0] at hH HL ⊢
  have HH := hide hH
  have HS := hide hSX
  have cg := hSX.cg
  clear hH hB hSX hS hs h2 hT hlt0
  go_upto_if 9 with fail
  go_cut [] (fun wc => Stm wc b (if t = true then kvStep s 0 (fun _ => 0) 0 else s) t ∧ RowB wc b0 32 (fun _ => 0) ∧ w.grownBy wc (some b))
  case first =>
    cases t with
    | true =>
      have HE := hide (renew_any (d := 0) (m := 0) HTX.out HK.out HS.out HSo.out (by omega) (nil_pl X) (by omega) (by simp only [lenF]; omega))
      go_wp2_with fail
      with_reducible refine Calls.mono HE.out ?_
      rintro e w2 ⟨⟨v, rfl⟩, hS2, hg2⟩
      have hH2 : RowB w2 b0 32 (fun _ => 0) := ⟨Nat.lt_of_lt_of_le HH.out.lt hg2.size, fun i hi => hg2.cell (HH.out.c i hi) (by have := HL.out; simp; omega), fun i hi => by
        rw [World.frozen?_of_block (w := X) (hg2.block b0 HH.out.lt (by have := HL.out; simp; omega))]; exact HH.out.z i hi⟩
      have hG2 := grown_trans HG.out hg2
      clear hg2 HE cg
      go_wp2_with fail
      go_meet
      case rel => exact ⟨hS2, hH2, hG2⟩
    | false =>
      go_wp2_with fail
      go_meet
      case rel => exact ⟨HS.out, HH.out, HG.out⟩
  case rest =>
    obtain ⟨hS1, hH1, hG1⟩ := hcut
    obtain ⟨s1, hs1⟩ : ∃ s1, s1 = (if t = true then kvStep s 0 (fun _ => 0) 0 else s) := ⟨_, rfl⟩
    rw [← hs1] at hS1
    have HRes : Hid (kvMore s t = kvNext s1) := by show _ = _; rw [hs1]; rfl
    have HO1 : Hid s1.ok := by
      show s1.ok
      rw [hs1]
      split
      · exact kvStep_ok _ _ _ _
      · exact HSo.out
    have c1 := hS1.cg
    have z1 := hS1.z 64 (by omega)
    have HS2 := hide (hS1.setG true)
    have HG2 := hide (grown_trans hG1 (grown_set wc b 64 (.bool true)))
    have HH2 : Hid (RowB (wc.setCell ⟨b, 64, none⟩ (.bool true)) b0 32 (fun _ => 0)) := row8_other hH1 (by have := HL.out; omega) 64 _
    clear hS1 hH1 hG1 hs1 cg HS HH HG HTX
    go_upto_region 6 with fail
    generalize wc.setCell ⟨b, 64, none⟩ (.bool true) = Y at HS2 HG2 HH2 ⊢
    clear c1 z1
    have HE := hide (step_any (HT.out.kept HG2.out HK.out) HS2.out HO1.out)
    go_upto_region 7 with fail
    with_reducible refine Calls.mono HE.out ?_
    rintro e w3 ⟨⟨v, rfl⟩, hS3, hg3⟩
    have hH3 : RowB w3 b0 32 (fun _ => 0) := ⟨Nat.lt_of_lt_of_le HH2.out.lt hg3.size, fun i hi => hg3.cell (HH2.out.c i hi) (by have := HL.out; simp; omega), fun i hi => by
      rw [World.frozen?_of_block (w := Y) (hg3.block b0 HH2.out.lt (by have := HL.out; simp; omega))]; exact HH2.out.z i hi⟩
    have hG3 := grown_trans HG2.out hg3
    rw [← HRes.out] at hS3
    obtain ⟨s3, hs3⟩ : ∃ s3, s3 = kvMore s t := ⟨_, rfl⟩
    rw [← hs3] at hS3
    have HRes3 := hide hs3
    have HRV := hide hS3.rangeV
    have HTH := hide (RowB.there hH3 s3.v)
    have HST := hide (RowB.stored hH3 s3.v)
    have HS4 : Hid (Stm (w3.setCells b0 0 (ab s3.v 32).toArray.toList) b s3 true) := hS3.keptO (grown_sets b0 (ab s3.v 32) 0 w3) (by have := HL.out; simp; omega)
    have HG4 : Hid (w.grownBy (w3.setCells b0 0 (ab s3.v 32).toArray.toList) (some b)) := by
      refine ⟨(grown_sets b0 (ab s3.v 32) 0 w3).os.trans hG3.os, (grown_sets b0 (ab s3.v 32) 0 w3).tape.trans hG3.tape, (grown_sets b0 (ab s3.v 32) 0 w3).output.trans hG3.output, Nat.le_trans hG3.size (grown_sets b0 (ab s3.v 32) 0 w3).size, fun i hi hn => ?_⟩
      rw [(grown_sets b0 (ab s3.v 32) 0 w3).block i (Nat.lt_of_lt_of_le hi hG3.size) (by simp; omega)]
      exact hG3.block i hi hn
    clear hS3 hH3 hG3 hg3 hs3 HE HS2 HG2 HH2
    generalize hV : s3.v = V at HRV HTH HST HS4 HG4
    have HV := hide hV
    clear hV
    go_wp2_with (first
      | (refine wpList_load_mid rfl 25 _ rfl _ 32 rfl (ab V 32) _ HRV.out Tryd.underlying25 rfl (ilH _) ?_; simp only [Act.put, List.setIfInBounds_toArray, List.set_cons_zero, List.set_cons_succ])
      | (refine wpList_store_mid rfl 25 _ _ rfl b0 0 (ab V 32).toArray rfl rfl HTH.out (inH _) (all_oneCell_toArray (ab_one _ _)) ?_; generalize w3.setCells b0 0 (ab V 32).toArray.toList = Z at HST HS4 HG4 ⊢))
    exact bodyPost_ret (results_cell_mid Tryd.results13 _ _ b0 (ab V 32) _ rfl (RowB.range HST.out) Tryd.underlying25 rfl (ilH _)) rfl ⟨by rw [← HRes3.out, HV.out], by rw [← HRes3.out]; exact HS4.out, HG4.out⟩
end Go.Proofs.YtiahjnfopeiliaaDoor
