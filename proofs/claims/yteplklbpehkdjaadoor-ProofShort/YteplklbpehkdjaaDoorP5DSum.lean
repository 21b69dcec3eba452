/- What the program's own Sum of a digest answers. -/
import Derived.Test.YteplklbpehkdjaaDoorP5Write
import Derived.Test.YteplklbpehkdjaaDoorP5Hash
namespace Go.Proofs.YteplklbpehkdjaaDoor
set_option maxRecDepth 100000
open Go.RowKit
attribute [local go_sem ↓] Go.wp_at_zero Go.wp_at_succ

def st0 : St := ⟨0, 0, 0, 0, 0, 0, 0, 0⟩
theorem zeroDig (w : World) : (zeroValue 63).run Tryd.prog w = .ok (.agg (dg st0 (fun _ => 0) 0).toArray) w :=
  (zero_of_info (P := Tryd.prog) (t := 63) (v := .agg (dg st0 (fun _ => 0) 0).toArray) (n := 73) (by kernel_rfl)).1 w
theorem infoDig : (Tryd.prog.info? 63).map (·.size) = some 73 := by kernel_rfl
theorem inDig (s : St) (r : Nat → Nat) (n : Nat) : (Tryd.prog.info? 63).map (·.size) = some (dg s r n).toArray.size := by rw [List.size_toArray, dg_len]; exact infoDig
theorem ilDig (s : St) (r : Nat → Nat) (n : Nat) : (Tryd.prog.info? 63).map (·.size) = some (dg s r n).length := by rw [dg_len]; exact infoDig
/-- What stands behind a message. -/
def endF (n i : Nat) : Nat := (endP n 8).getD i 0
theorem endF_lt (n i : Nat) : endF n i < 256 := by
  refine getD_lt (fun x hx => ?_) i
  simp only [endP, List.mem_cons, List.mem_append, List.mem_replicate] at hx
  rcases hx with rfl | ⟨_, rfl⟩ | hx
  · omega
  · omega
  · have hl : ∀ (k : Nat), ∀ y ∈ lenB n k, y < 256 := fun k => by
      induction k with
      | zero => intro y hy; simp [lenB] at hy
      | succ k ih =>
        intro y hy
        simp only [lenB, List.mem_append, List.mem_singleton] at hy
        rcases hy with hy | rfl
        · exact ih y hy
        · exact Nat.mod_lt _ (by omega)
    exact hl 8 x hx
theorem cat_end (f : Nat → Nat) (n i : Nat) (h : i < padLen n) : cat f n (endF n) i = pad f n i := by
  rw [← padL_at f n i h]
  unfold cat endF
  have e : padL f n = fl f n ++ endP n 8 := by unfold padL endP; simp
  rw [e]
  by_cases h1 : i < n
  · rw [if_pos h1, List.getD_eq_getElem?_getD, List.getElem?_append_left (by rw [fl_len]; exact h1), fl_at f h1]; rfl
  · rw [if_neg h1, List.getD_eq_getElem?_getD, List.getD_eq_getElem?_getD, List.getElem?_append_right (by rw [fl_len]; omega), fl_len]
theorem hash_end (f : Nat → Nat) (n : Nat) : hs (cat f n (endF n)) (padLen n / 64) = hashS f n := by
  unfold hashS
  have := zs_eq n
  exact hs_congr _ (fun i hi => cat_end f n i (by omega))
theorem BA.block {w : World} {x : Option Addr} {m : Nat} {g : Nat → Nat} (h : BA w x m g) (hm : 0 < m) : ∀ p, x = some p → p.block < w.heap.size := by
  intro p hp
  rcases h.at_ with h0 | ⟨b, o, e, hr⟩
  · omega
  · rw [hp] at e
    obtain rfl := Option.some.inj e
    exact lt_of_cell (hr.c 0 hm)
theorem Tab.lt {w : World} (h : Tab w) : 2 ≤ w.heap.size := lt_of_cell (h.k 0 (by omega))
set_option maxRecDepth 100000 in
set_option maxHeartbeats 8000000 in
theorem dsum_any {w : World} {b n : Nat} {f : Nat → Nat} (hT : Tab w) (hD : Dig w b f n) (hn : n ≤ 800000) :
    Calls Tryd.prog 36 #[.pointer (some ⟨b, 0, none⟩)] w fun e w' => e = .returned (.agg (ab (hByte (hashS f n)) 32).toArray) ∧ Below w.heap.size w w' := by
  have HT := hide hT
  have HL := hide hT.lt
  obtain ⟨s, r, hR, hs⟩ := hD
  have HD := hide hR
  have HS := hide hs
  have HN := hide hn
  clear hT hR hs hn
  have zD := fun W => zeroDig W
  go_enter Tryd.func36, Tryd.ntmps36
  go_upto_region 2 with fail
  refine wp_world (fun X hX => ?_)
  have hB : Below w.heap.size w X := by rw [hX]; exact K.alloc (K.alloc (Below.refl _ _) _) _
  have hH : RowB X w.heap.size 32 (fun _ => 0) := by
    rw [hX]
    have h := Row8.keep (RowB.made w 32 32 (fun _ => 0) _ zeros32) (K.alloc (Below.refl _ _) (.cells (dg st0 (fun _ => 0) 0).toArray 63))
    exact h
  have hZ : DigR X (w.heap.size + 1) st0 (fun _ => 0) 0 := by
    rw [hX]
    have h := DigR.made (w.alloc (.cells (ab (fun _ => 0) 32).toArray 32)) 63 st0 (fun _ => 0) 0 _ rfl
    rw [← zeros32] at h
    have e : ∀ o, (w.alloc o).heap.size = w.heap.size + 1 := fun o => by simp
    rw [e] at h
    exact h
  clear hX zD
  have HD := hide (HD.out.keep hB)
  have HT := hide (HT.out.keep hB)
  obtain ⟨b0, hb0⟩ : ∃ b0, w.heap.size = b0 := ⟨_, rfl⟩
  rw [hb0] at hB hH hZ HL ⊢
  have HH := hide hH
  have HZ := hide hZ
  have HB := hide hB
  have HZs := hide (And.intro hZ.lt hH.lt)
  clear hH hZ hB
  have HRg := hide HD.out.range
  have HTH : Hid (X.there (b0 + 1) 0 (dg s r n).toArray.size) := by
    have h := HZ.out.there 0 73 (by omega)
    rw [List.size_toArray, dg_len]
    exact h
  have HST := hide (HZ.out.stored s r n)
  have HG := hide (grown_sets (b0 + 1) (dg s r n) 0 X)
  go_upto_region 4 with (first
    | (refine wpList_load_mid rfl 63 _ rfl _ 0 rfl (dg s r n) _ HRg.out Tryd.underlying63 rfl (ilDig _ _ _) ?_; simp only [Act.put, List.setIfInBounds_toArray, List.set_cons_zero, List.set_cons_succ])
    | (refine wpList_store_mid rfl 63 _ _ rfl (b0 + 1) 0 (dg s r n).toArray rfl rfl HTH.out (inDig _ _ _) (all_oneCell_toArray (dg_one _ _ _)) ?_; generalize X.setCells (b0 + 1) 0 (dg s r n).toArray.toList = Y at HST HG ⊢))
  have HDq : Hid (Dig Y (b0 + 1) f n) := ⟨s, r, HST.out, HS.out⟩
  have sz := HST.out.sz
  have HTq := hide (HT.out.kept HG.out (by have := HL.out; omega))
  have HHq : Hid (RowB Y b0 32 (fun _ => 0)) := ⟨Nat.lt_of_lt_of_le HZs.out.2 HG.out.size, fun i hi => HG.out.cell (HH.out.c i hi) (by simp), fun i hi => by
    rw [World.frozen?_of_block (w := X) (HG.out.block b0 HZs.out.2 (by simp))]; exact HH.out.z i hi⟩
  have HBq : Hid (Below b0 w Y) := HB.out.grown HG.out (by have := HZs.out; omega) (fun k hk => by cases hk; omega)
  clear HRg HTH HST HG HD HS HT HH HB HZ
  go_wp2_with fail
  with_reducible refine Calls.mono (ending_any n (by have := HN.out; omega) Y) ?_
  rintro e W1 ⟨v, rfl, hO, hb⟩
  obtain ⟨g, cap, rfl, hg, hr⟩ := own_rd (f := fun i => ((endF n i : Nat) : Int)) hO (fun j hj => by rw [cells8_at _ j (by rw [endP_len]; exact hj)]; rfl) (by omega)
  have hcap := own_cap hO
  have hcm : cap ≤ maxLen := by
    rcases hO.2 with ⟨h, _⟩ | ⟨_, _, _, h, _, _, _, hm, _⟩
    · cases h
    · cases h; exact hm
  have hBA : BA W1 (some ⟨g, 0, none⟩) (1 + zs n + 8) (endF n) := ⟨endF_lt n, Or.inr ⟨g, 0, rfl, hr.rd⟩⟩
  have hT1 := HTq.out.keep hb
  have hD1 := HDq.out.keep hb
  have hH1 := Row8.keep HHq.out hb
  have hB1 : Below b0 w W1 := by subst hb0; exact K.call HBq.out hb
  have hYl : b0 + 1 < Y.heap.size := lt_of_cell sz
  have hz := zs_eq n
  have hzl : 1 + zs n + 8 ≤ 100 := by unfold zs padLen; omega
  have HW := hide (write_any (c := cap) hT1 (by have := HL.out; omega) hBA (fun _ p hp => by cases hp; show g ≠ b0 + 1; omega) hcap hcm hD1 (by have := HN.out; omega))
  clear hO hb hr hBA hcap hcm hT1 hD1 HTq HDq HHq HBq sz
  go_wp2_with fail
  with_reducible refine Calls.mono HW.out ?_
  rintro e W2 ⟨⟨v, rfl⟩, hD2, hG2⟩
  have hH2 : RowB W2 b0 32 (fun _ => 0) := ⟨Nat.lt_of_lt_of_le hH1.lt hG2.size, fun i hi => hG2.cell (hH1.c i hi) (by simp), fun i hi => by
    rw [World.frozen?_of_block (w := W1) (hG2.block b0 hH1.lt (by simp))]; exact hH1.z i hi⟩
  have hB2 : Below b0 w W2 := hB1.grown hG2 (by have := hH1.lt; omega) (fun k hk => by cases hk; omega)
  obtain ⟨s2, r2, hR2, hs2, _⟩ := hD2
  have e2 : n + (1 + zs n + 8) = padLen n := by omega
  rw [e2] at hs2
  have hs3 : s2 = hashS f n := by
    rcases hs2 with h | h
    · omega
    · rw [h, hash_end]
  have HRg := hide hR2.rangeSt
  have HH := hide hH2
  have HB := hide hB2
  have HS3 := hide hs3
  clear hG2 hB1 hH1 hR2 hs2 hs3 hH2 hB2 HW
  go_wp2_with (refine wpList_load_mid rfl 59 _ rfl _ 0 rfl (aw s2.w 8) _ HRg.out Tryd.underlying59 rfl (ilSt _) ?_; simp only [Act.put, List.setIfInBounds_toArray, List.set_cons_zero, List.set_cons_succ])
  with_reducible refine Calls.mono (hash_any s2 W2) ?_
  rintro e W3 ⟨rfl, hb⟩
  have hH3 := Row8.keep HH.out hb
  have hB3 : Below b0 w W3 := by subst hb0; exact K.call HB.out hb
  have HTH := hide (RowB.there hH3 (hByte s2))
  have HST := hide (RowB.stored hH3 (hByte s2))
  have HB : Hid (Below b0 w (W3.setCells b0 0 (ab (hByte s2) 32).toArray.toList)) := by subst hb0; exact below_setCells _ _ hB3 (Nat.le_refl _)
  clear hb hH3 hB3 HH HRg
  go_wp2_with (refine wpList_store_mid rfl 32 _ _ rfl b0 0 (ab (hByte s2) 32).toArray rfl rfl HTH.out (inH _) (all_oneCell_toArray (ab_one _ _)) ?_; generalize W3.setCells b0 0 (ab (hByte s2) 32).toArray.toList = Z at HST HB ⊢)
  refine bodyPost_ret (results_cell_mid Tryd.results36 _ _ b0 (ab (hByte s2) 32) _ rfl (RowB.range HST.out) Tryd.underlying32 rfl (ilH _)) rfl ⟨?_, by rw [hb0]; exact HB.out⟩
  rw [HS3.out]
set_option maxRecDepth 100000 in
set_option maxHeartbeats 8000000 in
theorem dsum_nil {w : World} {n : Nat} (f : Nat → Nat) (hn0 : n = 0) (hT : Tab w) :
    Calls Tryd.prog 36 #[.pointer none] w fun e w' => e = .returned (.agg (ab (hByte (hashS f n)) 32).toArray) ∧ Below w.heap.size w w' := by
  have HT := hide hT
  have HL := hide hT.lt
  have HN0 := hide hn0
  clear hT hn0
  have zD := fun W => zeroDig W
  go_enter Tryd.func36, Tryd.ntmps36
  go_upto_region 2 with fail
  refine wp_world (fun X hX => ?_)
  have hB : Below w.heap.size w X := by rw [hX]; exact K.alloc (K.alloc (Below.refl _ _) _) _
  have hH : RowB X w.heap.size 32 (fun _ => 0) := by
    rw [hX]
    have h := Row8.keep (RowB.made w 32 32 (fun _ => 0) _ zeros32) (K.alloc (Below.refl _ _) (.cells (dg st0 (fun _ => 0) 0).toArray 63))
    exact h
  have hZ : DigR X (w.heap.size + 1) st0 (fun _ => 0) 0 := by
    rw [hX]
    have h := DigR.made (w.alloc (.cells (ab (fun _ => 0) 32).toArray 32)) 63 st0 (fun _ => 0) 0 _ rfl
    rw [← zeros32] at h
    have e : ∀ o, (w.alloc o).heap.size = w.heap.size + 1 := fun o => by simp
    rw [e] at h
    exact h
  clear hX zD
  have HT := hide (HT.out.keep hB)
  obtain ⟨b0, hb0⟩ : ∃ b0, w.heap.size = b0 := ⟨_, rfl⟩
  rw [hb0] at hB hH hZ HL ⊢
  have HH := hide hH
  have HZ := hide hZ
  have HB := hide hB
  have HZs := hide (And.intro hZ.lt hH.lt)
  clear hH hZ hB
  go_upto_region 4 with fail
  have HDq : Hid (Dig X (b0 + 1) f n) := ⟨_, _, by rw [HN0.out]; exact HZ.out, Or.inl HN0.out, fun _ => by omega, fun i hi => by rw [HN0.out] at hi; omega⟩
  have HHq := HH
  have HBq := HB
  have HTq := HT
  have sz : X.cell? ⟨b0 + 1, 72, none⟩ = some (.int .u64 (n : Int)) := by rw [HN0.out]; exact HZ.out.sz
  have HN : Hid (n ≤ 800000) := by have := HN0.out; show _ ≤ _; omega
  clear HZ HH HB HT
  generalize hX0 : X = Y at *
  clear hX0
  go_wp2_with fail
  with_reducible refine Calls.mono (ending_any n (by have := HN.out; omega) Y) ?_
  rintro e W1 ⟨v, rfl, hO, hb⟩
  obtain ⟨g, cap, rfl, hg, hr⟩ := own_rd (f := fun i => ((endF n i : Nat) : Int)) hO (fun j hj => by rw [cells8_at _ j (by rw [endP_len]; exact hj)]; rfl) (by omega)
  have hcap := own_cap hO
  have hcm : cap ≤ maxLen := by
    rcases hO.2 with ⟨h, _⟩ | ⟨_, _, _, h, _, _, _, hm, _⟩
    · cases h
    · cases h; exact hm
  have hBA : BA W1 (some ⟨g, 0, none⟩) (1 + zs n + 8) (endF n) := ⟨endF_lt n, Or.inr ⟨g, 0, rfl, hr.rd⟩⟩
  have hT1 := HTq.out.keep hb
  have hD1 := HDq.out.keep hb
  have hH1 := Row8.keep HHq.out hb
  have hB1 : Below b0 w W1 := by subst hb0; exact K.call HBq.out hb
  have hYl : b0 + 1 < Y.heap.size := lt_of_cell sz
  have hz := zs_eq n
  have hzl : 1 + zs n + 8 ≤ 100 := by unfold zs padLen; omega
  have HW := hide (write_any (c := cap) hT1 (by have := HL.out; omega) hBA (fun _ p hp => by cases hp; show g ≠ b0 + 1; omega) hcap hcm hD1 (by have := HN.out; omega))
  clear hO hb hr hBA hcap hcm hT1 hD1 HTq HDq HHq HBq sz
  go_wp2_with fail
  with_reducible refine Calls.mono HW.out ?_
  rintro e W2 ⟨⟨v, rfl⟩, hD2, hG2⟩
  have hH2 : RowB W2 b0 32 (fun _ => 0) := ⟨Nat.lt_of_lt_of_le hH1.lt hG2.size, fun i hi => hG2.cell (hH1.c i hi) (by simp), fun i hi => by
    rw [World.frozen?_of_block (w := W1) (hG2.block b0 hH1.lt (by simp))]; exact hH1.z i hi⟩
  have hB2 : Below b0 w W2 := hB1.grown hG2 (by have := hH1.lt; omega) (fun k hk => by cases hk; omega)
  obtain ⟨s2, r2, hR2, hs2, _⟩ := hD2
  have e2 : n + (1 + zs n + 8) = padLen n := by omega
  rw [e2] at hs2
  have hs3 : s2 = hashS f n := by
    rcases hs2 with h | h
    · omega
    · rw [h, hash_end]
  have HRg := hide hR2.rangeSt
  have HH := hide hH2
  have HB := hide hB2
  have HS3 := hide hs3
  clear hG2 hB1 hH1 hR2 hs2 hs3 hH2 hB2 HW
  go_wp2_with (refine wpList_load_mid rfl 59 _ rfl _ 0 rfl (aw s2.w 8) _ HRg.out Tryd.underlying59 rfl (ilSt _) ?_; simp only [Act.put, List.setIfInBounds_toArray, List.set_cons_zero, List.set_cons_succ])
  with_reducible refine Calls.mono (hash_any s2 W2) ?_
  rintro e W3 ⟨rfl, hb⟩
  have hH3 := Row8.keep HH.out hb
  have hB3 : Below b0 w W3 := by subst hb0; exact K.call HB.out hb
  have HTH := hide (RowB.there hH3 (hByte s2))
  have HST := hide (RowB.stored hH3 (hByte s2))
  have HB : Hid (Below b0 w (W3.setCells b0 0 (ab (hByte s2) 32).toArray.toList)) := by subst hb0; exact below_setCells _ _ hB3 (Nat.le_refl _)
  clear hb hH3 hB3 HH HRg
  go_wp2_with (refine wpList_store_mid rfl 32 _ _ rfl b0 0 (ab (hByte s2) 32).toArray rfl rfl HTH.out (inH _) (all_oneCell_toArray (ab_one _ _)) ?_; generalize W3.setCells b0 0 (ab (hByte s2) 32).toArray.toList = Z at HST HB ⊢)
  refine bodyPost_ret (results_cell_mid Tryd.results36 _ _ b0 (ab (hByte s2) 32) _ rfl (RowB.range HST.out) Tryd.underlying32 rfl (ilH _)) rfl ⟨?_, by rw [hb0]; exact HB.out⟩
  rw [HS3.out]
end Go.Proofs.YteplklbpehkdjaaDoor
