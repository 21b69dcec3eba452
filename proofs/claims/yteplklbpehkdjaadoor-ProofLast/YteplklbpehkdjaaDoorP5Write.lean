/- What the program's own Write does. -/
import Derived.Test.YteplklbpehkdjaaDoorP5Dig
namespace Go.Proofs.YteplklbpehkdjaaDoor
set_option maxRecDepth 100000
open Go.RowKit
attribute [local go_sem ↓] Go.wp_at_zero Go.wp_at_succ

/-- A copy of bytes, at a step of a region that draws its order. -/
theorem step_copy {W : World} {ops : Array Oper} {op : Oper} {a : Act} {K : Act → World → Prop} {Q : Exit → Act → World → Prop} {E : Prop} (hgd : op.guard = none) (d s : Operand)
    (ho : op.op = .call { callee := .builtin .copy, args := #[d, s], argTypes := #[41, 41] })
    {b o dLen dCap sLen sCap x y : Nat} (hd : a.eval d = .slice (some ⟨b, o, none⟩) dLen dCap) (hs : a.eval s = .slice (some ⟨x, y, none⟩) sLen sCap) (k : Nat) (hk : k = Nat.min sLen dLen) (g : Nat → Nat)
    (hsrc : Rd W x y k (fun i => ((g i : Nat) : Int))) (ht : W.there b o k) (h : K (a.put op.dst (goInt k)) (W.setCells b o (ab g k))) :
    if Region.wanted op (yielded ops a.tmps) = true then Oper.wp Tryd.prog op a W K Q else E := by
  have hw : Region.wanted op (yielded ops a.tmps) = true := by simp [Region.wanted, hgd]
  rw [if_pos hw]
  have hr := run_copy_cells (P := Tryd.prog) W 41 41 op.type 5 b o dLen dCap ⟨x, y, none⟩ sLen sCap (ab g k) Tryd.underlying41 (by kernel_rfl) (by rw [ab_len]; exact hk) (fun j v hv => by
    have hj : j < k := by
      rcases Nat.lt_or_ge j k with h' | h'
      · exact h'
      · rw [List.getElem?_eq_none (by rw [ab_len]; exact h')] at hv; cases hv
    rw [ab_at g hj] at hv
    rw [Addr.add_mid, hsrc.c j hj]; exact hv) (fun j hj => (ht j (by rw [ab_len] at hj; exact hj)).1) (fun j hj => (ht j (by rw [ab_len] at hj; exact hj)).2) (ab_one _ _)
  rw [ab_len] at hr
  unfold Oper.wp execOp
  simp only [ho, resolve, invoke, builtin, Sem.run_bind, Sem.run_pure, Result.andThen_ok, List.map_toArray, List.map_cons, List.map_nil, hd, hs, hr]
  exact h

theorem run_slice_rest {b q : Nat} (hq : q < 64) (W : World) : (Instr.sliceAt 61 (.pointer (some ⟨b, 8, none⟩)) (some (.int .u64 (q : Int))) none none).run Tryd.prog W = .ok (.slice (some ⟨b, 8 + q, none⟩) (64 - q) (64 - q)) W := by
  have ha : Tryd.prog.arrayLen 61 = 64 := by kernel_rfl
  have hu : Tryd.prog.underlying 61 = some (.array (Tryd.prog.arrayLen 61) (Tryd.prog.elem 61)) := by kernel_rfl
  rw [run_sliceAt_array_l W 61 ⟨b, 8, none⟩ hu .u64 (q : Int) (by omega) (by rw [ha]; omega)]
  have he : Tryd.prog.elem 61 = 5 := by kernel_rfl
  have h1 : (sizeOf 5).run Tryd.prog W = .ok 1 W := by
    obtain ⟨i, hi⟩ := Option.isSome_iff_exists.1 (show (Tryd.prog.info? 5).isSome = true by kernel_rfl)
    have : (Tryd.prog.info? 5).map (·.size) = some 1 := by kernel_rfl
    rw [hi] at this
    simp [sizeOf, typeInfo, hi]
    simpa using this
  rw [he, h1, ha]
  simp only [Result.andThen_ok, slicedAt, Int.toNat_natCast, if_neg (show ¬ 64 = q by omega), Nat.mul_one, Addr.add_mid]
/-- What is left of a slice from a place on. -/
theorem run_cut {bb o L c k : Nat} (hk : k ≤ L) (W : World) : (Instr.sliceAt 41 (.slice (some ⟨bb, o, none⟩) L c) (some (.int .i64 (k : Int))) none none).run Tryd.prog W = .ok (.slice (some (if c = k then ⟨bb, o, none⟩ else ⟨bb, o + k, none⟩)) (L - k) (c - k)) W := by
  have hu : Tryd.prog.underlying 41 = some (.slice (Tryd.prog.elem 41)) := by kernel_rfl
  have he : Tryd.prog.elem 41 = 5 := by kernel_rfl
  have h1 : (sizeOf 5).run Tryd.prog W = .ok 1 W := by
    obtain ⟨i, hi⟩ := Option.isSome_iff_exists.1 (show (Tryd.prog.info? 5).isSome = true by kernel_rfl)
    have : (Tryd.prog.info? 5).map (·.size) = some 1 := by kernel_rfl
    rw [hi] at this
    simp [sizeOf, typeInfo, hi]
    simpa using this
  rw [run_sliceAt_slice W 41 _ _ _ _ hu, run_slice_l W 41 _ L c hu .i64 (k : Int) (by omega) (by omega), he, h1]
  simp only [Result.andThen_ok, sliced, Int.toNat_natCast, Nat.mul_one, Option.map_some, Addr.add_mid]
  congr 2
  split <;> rfl
theorem wpList_cut {P : Program} {w : World} {ops : Array Oper} {rest : List Oper} {op : Oper} {a : Act} {Q : Exit → Act → World → Prop} (hgd : op.guard = none) (t : TypeId) (x l : Operand) (ho : op.op = .slice t x (some l) none none)
    (X Y v : Value) (hx : a.eval x = X) (hy : a.eval l = Y) (hr : (Instr.sliceAt t X (some Y) none none).run P w = .ok v w) (h : wpList P ops Q rest (a.put op.dst v) w) : wpList P ops Q (op :: rest) a w := by
  refine wpList_plain hgd fun K hK => ?_
  unfold Oper.wp execOp
  simp only [ho, Option.map, hx, hy, Sem.run_bind, Sem.run_pure, Result.andThen_ok, hr]
  exact hK _ _ h
set_option maxHeartbeats 1000000 in
theorem write_nil (x : Value) (w : World) : Calls Tryd.prog 35 #[.pointer none, x] w fun e w' => (∃ v, e = .returned v) ∧ w' = w := by
  go_enter Tryd.func35, Tryd.ntmps35
  go_wp2_with fail
  exact bodyPost_ret (by simp [results, Tryd.results35]; rfl) rfl ⟨⟨_, rfl⟩, rfl⟩
set_option maxRecDepth 100000 in
set_option maxHeartbeats 8000000 in
theorem write_any {b n m c : Nat} {x : Option Addr} {f g : Nat → Nat} {w : World} (hT : Tab w) (h2 : 2 ≤ b) (hG : BA w x m g) (hx : 0 < m → ∀ p, x = some p → p.block ≠ b) (hmc : m ≤ c) (hc : c ≤ maxLen) (hD : Dig w b f n) (hnm : n + m ≤ 900000) :
    Calls Tryd.prog 35 #[.pointer (some ⟨b, 0, none⟩), .slice x m c] w fun e w' => (∃ v, e = .returned v) ∧ Dig w' b (cat f n g) (n + m) ∧ w.grownBy w' (some b) := by
  have HT := hide hT
  have HG := hide hG
  have HX := hide hx
  have HC := hide hc
  obtain ⟨s, r, hR, hs, hrb, hrr⟩ := hD
  have sz := hR.sz
  have HR := hide hR
  have HS := hide hs
  have HRR := hide (And.intro hrb hrr)
  have HN := hide hnm
  clear hT hG hx hc hR hs hrb hrr hnm
  go_enter Tryd.func35, Tryd.ntmps35
  go_upto_if 11 with fail
  go_cut [11] (fun _ wc => (∃ s r, DigS wc b f n s r) ∧ w.grownBy wc (some b))
  case first =>
    by_cases h0 : n = 0
    · have h0i : (n : Int) = 0 := by omega
      have HRg : Hid (w.rangeAt 0 0 (aw start.w 8)) := fun j v hv => by
        have hj : j < 8 := by
          rcases Nat.lt_or_ge j 8 with h' | h'
          · exact h'
          · rw [List.getElem?_eq_none (by rw [aw_len]; exact h')] at hv; cases hv
        rw [aw_at _ hj] at hv
        rw [Nat.zero_add, HT.out.f j hj]; exact hv
      have HTH : Hid (w.there b 0 (aw start.w 8).toArray.size) := by
        have h := HR.out.there 0 8 (by omega)
        rw [size8]
        exact h
      have HD := hide (HR.out.state start)
      have HGs := hide (grown_sets b (aw start.w 8) 0 w)
      go_wp2_with (first
        | (refine wpList_load_mid rfl 59 _ rfl _ 0 rfl (aw start.w 8) _ HRg.out Tryd.underlying59 rfl (ilSt _) ?_; simp only [Act.put, List.setIfInBounds_toArray, List.set_cons_zero, List.set_cons_succ])
        | (refine wpList_store_mid rfl 59 _ _ rfl b 0 (aw start.w 8).toArray rfl rfl HTH.out (inSt _) (all8 _) ?_; generalize w.setCells b 0 (aw start.w 8).toArray.toList = X at HD HGs ⊢))
      go_meet
      case rel => exact ⟨⟨start, r, HD.out, by rw [h0]; rfl, HRR.out.1, HRR.out.2⟩, HGs.out⟩
    · have h0b : ((n : Int) == 0) = false := beq_eq_false_iff_ne.2 (by omega)
      go_wp2_with fail
      go_meet
      case rel => exact ⟨⟨s, r, HR.out, HS.out.resolve_left h0, HRR.out.1, HRR.out.2⟩, World.grownBy.refl _ _⟩
  case rest =>
    obtain ⟨⟨s1, r1, hD⟩, hg⟩ := hcut
    have HD := hide hD
    have HW := hide hg
    clear hD hg sz HR HS HRR
    go_wp2_with fail
    go_loopg [1] m (fun g' s1 wr => ∃ (j : Nat) (x' : Option Addr) (c' : Nat), g' = m - j ∧ j ≤ m ∧ s1 = .slice x' (m - j) c' ∧ m - j ≤ c' ∧ c' ≤ maxLen ∧ (j < m → ∃ bb o, x' = some ⟨bb, o, none⟩ ∧ bb ≠ b ∧ Rd wr bb o (m - j) (fun i => ((g (j + i) : Nat) : Int))) ∧ (∃ s r, DigS wr b (cat f n g) (n + j) s r) ∧ w.grownBy wr (some b))
    case atStart =>
      refine ⟨0, x, c, by omega, by omega, rfl, by omega, HC.out, fun hm => ?_, ⟨s1, r1, HD.out.d, ?_, HD.out.b, fun i hi => ?_⟩, HW.out⟩
      · rcases HG.out.at_ with h0 | ⟨bb, o, e, hr⟩
        · omega
        · refine ⟨bb, o, e, HX.out hm _ e, ?_⟩
          have := hr.kept HW.out (HX.out hm _ e)
          simpa using this
      · rw [HD.out.st]; exact hs_congr _ (fun i hi => by unfold cat; rw [if_pos (by omega)])
      · rw [HD.out.rs i hi]; unfold cat; rw [if_pos (by omega)]; rfl
    case round =>
      clear HD HW
      obtain ⟨j, x', c', rfl, hj, rfl, hc1, hc2, hsrc, ⟨s1, r1, hD⟩, hg⟩ := hrel
      by_cases hlt : j < m
      · obtain ⟨bb, o, rfl, hbb, hr⟩ := hsrc hlt
        obtain ⟨L, hL⟩ : ∃ L, L = m - j := ⟨_, rfl⟩
        obtain ⟨N, hN⟩ : ∃ N, N = n + j := ⟨_, rfl⟩
        obtain ⟨q, hq⟩ : ∃ q, q = N % 64 := ⟨_, rfl⟩
        clear hsrc
        have hnm := HN.out
        have HE : Hid (m = j + L ∧ N = n + j ∧ q = N % 64 ∧ 0 < L ∧ L ≤ 900000 ∧ N ≤ 900000 ∧ N + L ≤ 900000) := ⟨by omega, hN, hq, by omega, by omega, by omega, by omega⟩
        clear hnm
        have hLn : 0 < L := by omega
        rw [← hL] at hr hc1 ⊢
        rw [← hN] at hD
        have sz := hD.d.sz
        have qi : (N : Int) % 64 = (q : Int) := by omega
        have qt : (N : Int).tmod 64 = (q : Int) := by rw [Int.tmod_eq_emod_of_nonneg (by omega)]; omega
        have qb : (q : Int) < 64 := by omega
        have qn : q < 64 := by omega
        have hsl := fun W => run_slice_rest (b := b) qn W
        have hL0 : (0 : Int) < (L : Int) := by omega
        have HD := hide hD
        have HR := hide hr
        have HGR := hide hg
        have hbN : (N : Int) ≤ 900000 := by have := HE.out; omega
        have hbL : (L : Int) ≤ 900000 := by have := HE.out; omega
        have hlc : (L : Int) ≤ (c' : Int) := by omega
        clear hD hr hg hL hN hq hj hlt hc1
        by_cases hfit : q + L < 64
        · have HF := hide hfit
          clear hfit
          go_upto_region 4 with fail
          go_region_held3 (fun w' => w'.cell? ⟨b, 72, none⟩ = some (.int .u64 (N : Int)))
            (first | (with_reducible assumption) | exact sz | exact h72)
            (first
            | (refine step_copy rfl _ _ rfl rfl rfl L (by have := HF.out; show L = min L (64 - q); omega) (fun i => g (j + i)) (HR.out.keep (K.drew (Below.refl _ _))) ((World.there_drew _ _ _ _).2 (HD.out.d.there (8 + q) L (by have := HF.out; omega))) ?_; have h72 := ((HD.out.d.keep (K.drew (Below.refl _ _))).rest q L (by have := HF.out; omega) (fun i => g (j + i))).sz))
          go_upto_region 5 with fail
          refine wp_world (fun X hX => ?_)
          have hDX : DigR X b s1 (put r1 q L (fun i => g (j + i))) N := by rw [hX]; exact (HD.out.d.keep (K.drew (Below.refl _ _))).rest q L (by have := HF.out; omega) _
          have HGX : Hid (wr.grownBy X (some b)) := by rw [hX]; exact grown_trans (grown_of (K.drew (Below.refl _ _)) _) (grown_sets _ _ _ _)
          clear hX h72 sz hsl
          obtain ⟨M, hM⟩ : ∃ M, M = N + L := ⟨_, rfl⟩
          have HM := hide hM
          have c72 := hDX.sz
          have z72 := hDX.z 72 (by omega)
          have m1 : (N : Int) + (L : Int) = (M : Int) := by omega
          have m2 : (M : Int) ≤ 900000 := by have := HE.out; omega
          have HDX := hide hDX
          clear hM hDX
          go_upto_region 6 with fail
          refine wp_world (fun Y hY => ?_)
          have hDY : DigR Y b s1 (put r1 q L (fun i => g (j + i))) M := by rw [hY]; exact HDX.out.size M
          have HGY : Hid (wr.grownBy Y (some b)) := by rw [hY]; exact grown_trans HGX.out (grown_set _ _ _ _)
          have c72 := hDY.sz
          have HDY := hide hDY
          obtain ⟨u, hu⟩ : ∃ u, u = q + L := ⟨_, rfl⟩
          have hFF := HF.out
          have hEE := HE.out
          have hMM := HM.out
          have n1 : (M : Int) % 64 = (u : Int) := by omega
          have n2 : (M : Int).tmod 64 = (u : Int) := by rw [Int.tmod_eq_emod_of_nonneg (by omega)]; omega
          have n3 : ((u : Int) == 0) = false := beq_eq_false_iff_ne.2 (by omega)
          have n4 : ¬ u = 0 := by omega
          clear hY hDY HDX HGX z72 hu hFF hEE hMM
          have HCT := hide (fun W => run_cut (bb := bb) (o := o) (L := L) (c := c') (k := L) (by omega) W)
          obtain ⟨y, hy⟩ : ∃ y, y = some (if c' = L then (⟨bb, o, none⟩ : Addr) else ⟨bb, o + L, none⟩) := ⟨_, rfl⟩
          rw [← hy] at HCT
          clear hy
          go_wp2_with (refine wpList_cut rfl 41 _ _ rfl _ _ _ rfl rfl (HCT.out _) ?_)
          go_roundg (m - (j + L))
          case measure => have := HE.out; omega
          case rel =>
            have hEE := HE.out
            have hFF := HF.out
            have hMM := HM.out
            refine ⟨j + L, y, c' - L, rfl, by omega, by rw [show m - (j + L) = 0 by omega], by omega, by omega, fun h => by omega, ⟨s1, _, digs_part HD.out hEE.2.1 hEE.2.2.1 hFF HG.out.lt (by rw [← hMM]; exact HDY.out)⟩, grown_trans HGR.out HGY.out⟩
        · obtain ⟨k, hk⟩ : ∃ k, k = 64 - q := ⟨_, rfl⟩
          have HF : Hid (q + k = 64 ∧ k ≤ L ∧ 0 < k) := ⟨by omega, by omega, by omega⟩
          have hke : 64 - q = k := hk.symm
          have hki : (k : Int) ≤ 64 := by omega
          have hkp : 0 < k := by omega
          have hkl : (k : Int) ≤ (L : Int) := by omega
          clear hfit hk
          go_upto_region 4 with fail
          go_region_held3 (fun w' => w'.cell? ⟨b, 72, none⟩ = some (.int .u64 (N : Int)))
            (first | (with_reducible assumption) | exact sz | exact h72)
            (first
            | (refine step_copy rfl _ _ rfl rfl rfl k (by have := HF.out; show k = min L _; omega) (fun i => g (j + i)) ((HR.out.first k HF.out.2.1).keep (K.drew (Below.refl _ _))) ((World.there_drew _ _ _ _).2 (HD.out.d.there (8 + q) k (by have := HF.out; omega))) ?_; have h72 := ((HD.out.d.keep (K.drew (Below.refl _ _))).rest q k (by have := HF.out; omega) (fun i => g (j + i))).sz))
          go_upto_region 5 with fail
          refine wp_world (fun X hX => ?_)
          have hDX : DigR X b s1 (put r1 q k (fun i => g (j + i))) N := by rw [hX]; exact (HD.out.d.keep (K.drew (Below.refl _ _))).rest q k (by have := HF.out; omega) _
          have HGX : Hid (wr.grownBy X (some b)) := by rw [hX]; exact grown_trans (grown_of (K.drew (Below.refl _ _)) _) (grown_sets _ _ _ _)
          clear hX h72 sz hsl
          obtain ⟨M, hM⟩ : ∃ M, M = N + k := ⟨_, rfl⟩
          have HM := hide hM
          have c72 := hDX.sz
          have z72 := hDX.z 72 (by omega)
          have m1 : (N : Int) + (k : Int) = (M : Int) := by omega
          have m2 : (M : Int) ≤ 900000 := by have := HE.out; omega
          have HDX := hide hDX
          clear hM hDX
          go_upto_region 6 with fail
          refine wp_world (fun Y hY => ?_)
          have hDY : DigR Y b s1 (put r1 q k (fun i => g (j + i))) M := by rw [hY]; exact HDX.out.size M
          have HGY : Hid (wr.grownBy Y (some b)) := by rw [hY]; exact grown_trans HGX.out (grown_set _ _ _ _)
          have c72 := hDY.sz
          have hFF := HF.out
          have hEE := HE.out
          have hMM := HM.out
          have n1 : (M : Int) % 64 = 0 := by omega
          have n2 : (M : Int).tmod 64 = 0 := by rw [Int.tmod_eq_emod_of_nonneg (by omega)]; omega
          clear hY HDX HGX z72 hFF hEE hMM
          obtain ⟨r2, hr2⟩ : ∃ r2, r2 = put r1 q k (fun i => g (j + i)) := ⟨_, rfl⟩
          have HR2 := hide hr2
          rw [← hr2] at hDY
          obtain ⟨s2, hs2⟩ : ∃ s2, s2 = takeB s1 r2 := ⟨_, rfl⟩
          have HS2 := hide hs2
          have HTI : Hid (∀ W : World, Tab W → Calls Tryd.prog 37 #[.agg (aw s1.w 8).toArray, .agg (ab r2 64).toArray] W fun e w' => e = .returned (.agg (aw s2.w 8).toArray) ∧ Below W.heap.size W w') := fun W hT => by
            rw [hs2]
            exact takeIn_any (fun i => by rw [hr2]; exact put_lt HD.out.b (fun i => HG.out.lt _) _ _ i) s1 hT
          have HTY : Hid (Tab Y) := (HT.out.kept (grown_trans HGR.out HGY.out) h2)
          have HDY := hide hDY
          clear hr2 hs2 hDY
          go_upto_region 7 with fail
          go_cut [4] (fun s4 wc => s4 = .int .i64 (k : Int) ∧ DigR wc b s2 r2 M ∧ Y.grownBy wc (some b))
          case first =>
            have HTd := hide (HTY.out.keep (K.drew (Below.refl _ _)))
            have HDd := hide (HDY.out.keep (K.drew (Below.refl _ _)))
            refine wp_region_noPanic ?_
            refine wp_region_held_drew (S := fun _ => True) (by kernel_rfl) trivial (fun hHeld => ?_)
            refine wpAnyH_take (i := 0) (v := .pointer (some ⟨b, 0, none⟩)) rfl (by kernel_rfl) (by kernel_rfl) (by kernel_rfl) (fun _ _ _ h => h) (Or.inl ⟨by rfl, fun w' _ => by go_simp⟩) trivial ?_
            simp only [Act.put, List.getElem_toArray, List.getElem_cons_zero, List.setIfInBounds_toArray, List.set_cons_zero, List.set_cons_succ]
            refine wpAnyH_take (i := 1) (v := .pointer (some ⟨b, 0, none⟩)) rfl (by kernel_rfl) (by kernel_rfl) (by kernel_rfl) (fun _ _ _ h => h) (Or.inl ⟨by rfl, fun w' _ => by go_simp⟩) trivial ?_
            simp only [Act.put, List.getElem_toArray, List.getElem_cons_zero, List.getElem_cons_succ, List.setIfInBounds_toArray, List.set_cons_zero, List.set_cons_succ]
            refine wpAnyH_take (i := 2) (v := .pointer (some ⟨b, 0, none⟩)) rfl (by kernel_rfl) (by kernel_rfl) (by kernel_rfl) (fun _ _ _ h => h) (Or.inl ⟨by rfl, fun w' _ => by go_simp⟩) trivial ?_
            simp only [Act.put, List.getElem_toArray, List.getElem_cons_zero, List.getElem_cons_succ, List.setIfInBounds_toArray, List.set_cons_zero, List.set_cons_succ]
            refine wpAnyH_take (i := 3) (v := .pointer (some ⟨b, 0, none⟩)) rfl (by kernel_rfl) (by kernel_rfl) (by kernel_rfl) (fun _ _ _ h => h) (Or.inl ⟨by rfl, fun w' _ => by go_simp⟩) trivial ?_
            simp only [Act.put, List.getElem_toArray, List.getElem_cons_zero, List.getElem_cons_succ, List.setIfInBounds_toArray, List.set_cons_zero, List.set_cons_succ]
            refine wpAnyH_take (i := 5) (v := .pointer (some ⟨b, 0, none⟩)) rfl (by kernel_rfl) (by kernel_rfl) (by kernel_rfl) (fun _ _ _ h => h) (Or.inl ⟨by rfl, fun w' _ => by go_simp⟩) trivial ?_
            simp only [Act.put, List.getElem_toArray, List.getElem_cons_zero, List.getElem_cons_succ, List.setIfInBounds_toArray, List.set_cons_zero, List.set_cons_succ]
            refine wpAnyH_take (i := 6) (v := .pointer (some ⟨b, 0, none⟩)) rfl (by kernel_rfl) (by kernel_rfl) (by kernel_rfl) (fun _ _ _ h => h) (Or.inl ⟨by rfl, fun w' _ => by go_simp⟩) trivial ?_
            simp only [Act.put, List.getElem_toArray, List.getElem_cons_zero, List.getElem_cons_succ, List.setIfInBounds_toArray, List.set_cons_zero, List.set_cons_succ]
            refine wpAnyH_take (i := 7) (v := .pointer (some ⟨b, 8, none⟩)) rfl (by kernel_rfl) (by kernel_rfl) (by kernel_rfl) (fun _ _ _ h => h) (Or.inl ⟨by rfl, fun w' _ => by go_simp⟩) trivial ?_
            simp only [Act.put, List.getElem_toArray, List.getElem_cons_zero, List.getElem_cons_succ, List.setIfInBounds_toArray, List.set_cons_zero, List.set_cons_succ]
            refine wpAnyH_ready (rs := [4, 8]) (by kernel_rfl) (by simp) ?_
            refine AllReadyH.cons rfl (fun K hK => ?_) (AllReadyH.cons rfl (fun K hK => ?_) AllReadyH.nil)
            · rw [if_pos (by rfl)]
              refine wp_load_mid 59 _ rfl b 0 rfl (aw s1.w 8) _ HDd.out.rangeSt Tryd.underlying59 rfl (ilSt _) ?_
              refine hK.out _ _ trivial (fun _ => ?_)
              clear hK K
              simp only [Act.put, List.getElem_toArray, List.getElem_cons_zero, List.getElem_cons_succ, List.setIfInBounds_toArray, List.set_cons_zero, List.set_cons_succ]
              refine wpAnyH_ready (rs := [8]) (by kernel_rfl) (by simp) ?_
              refine AllReadyH.cons rfl (fun K hK => ?_) AllReadyH.nil
              rw [if_pos (by rfl)]
              refine wp_load_mid 61 _ rfl b 8 rfl (ab r2 64) _ HDd.out.rangeRs Tryd.underlying61 rfl (ilBlk _) ?_
              refine hK.out _ _ trivial (fun _ => ?_)
              clear hK K
              simp only [Act.put, List.getElem_toArray, List.getElem_cons_zero, List.getElem_cons_succ, List.setIfInBounds_toArray, List.set_cons_zero, List.set_cons_succ]
              refine wpAnyH_ready (rs := [9]) (by kernel_rfl) (by simp) ?_
              refine AllReadyH.cons rfl (fun K hK => ?_) AllReadyH.nil
              go_simp
              with_reducible refine Calls.mono (HTI.out _ HTd.out) ?_
              rintro e w1 ⟨rfl, hkk⟩
              dsimp only
              refine hK.out _ _ trivial (fun _ => ?_)
              clear hK K
              refine wpAnyH_take (i := 10) (v := .pointer (some ⟨b, 0, none⟩)) rfl (by kernel_rfl) (by kernel_rfl) (by kernel_rfl) (fun _ _ _ h => h) (Or.inl ⟨by rfl, fun w' _ => by go_simp⟩) trivial ?_
              simp only [Act.put, List.getElem_toArray, List.getElem_cons_zero, List.getElem_cons_succ, List.setIfInBounds_toArray, List.set_cons_zero, List.set_cons_succ]
              refine wpAnyH_take (i := 11) (v := .pointer (some ⟨b, 0, none⟩)) rfl (by kernel_rfl) (by kernel_rfl) (by kernel_rfl) (fun _ _ _ h => h) (Or.inl ⟨by rfl, fun w' _ => by go_simp⟩) trivial ?_
              simp only [Act.put, List.getElem_toArray, List.getElem_cons_zero, List.getElem_cons_succ, List.setIfInBounds_toArray, List.set_cons_zero, List.set_cons_succ]
              refine wpAnyH_ready (rs := [12]) (by kernel_rfl) (by simp) ?_
              refine AllReadyH.cons rfl (fun K hK => ?_) AllReadyH.nil
              rw [if_pos (by rfl)]
              have hDw := HDd.out.keep hkk
              refine wp_store_mid 59 _ _ rfl b 0 (aw s2.w 8).toArray rfl rfl (by rw [size8]; exact hDw.there 0 8 (by omega)) (inSt _) (all8 _) ?_
              refine hK.out _ _ trivial (fun _ => ?_)
              clear hK K
              refine wpAnyH_done (by kernel_rfl) ?_ _
              refine NoPanic.normal ?_
              have hDz := hDw.state s2
              have hGz : Y.grownBy (w1.setCells b 0 (aw s2.w 8).toArray.toList) (some b) := grown_trans (grown_of (K.drew (Below.refl _ _)) _) (grown_trans (grown_of hkk _) (grown_sets _ _ _ _))
              go_wp2_with fail
              go_meet
              case rel => exact ⟨rfl, hDz, hGz⟩
            · rw [if_pos (by rfl)]
              refine wp_load_mid 61 _ rfl b 8 rfl (ab r2 64) _ HDd.out.rangeRs Tryd.underlying61 rfl (ilBlk _) ?_
              refine hK.out _ _ trivial (fun _ => ?_)
              clear hK K
              simp only [Act.put, List.getElem_toArray, List.getElem_cons_zero, List.getElem_cons_succ, List.setIfInBounds_toArray, List.set_cons_zero, List.set_cons_succ]
              refine wpAnyH_ready (rs := [4]) (by kernel_rfl) (by simp) ?_
              refine AllReadyH.cons rfl (fun K hK => ?_) AllReadyH.nil
              rw [if_pos (by rfl)]
              refine wp_load_mid 59 _ rfl b 0 rfl (aw s1.w 8) _ HDd.out.rangeSt Tryd.underlying59 rfl (ilSt _) ?_
              refine hK.out _ _ trivial (fun _ => ?_)
              clear hK K
              simp only [Act.put, List.getElem_toArray, List.getElem_cons_zero, List.getElem_cons_succ, List.setIfInBounds_toArray, List.set_cons_zero, List.set_cons_succ]
              refine wpAnyH_ready (rs := [9]) (by kernel_rfl) (by simp) ?_
              refine AllReadyH.cons rfl (fun K hK => ?_) AllReadyH.nil
              go_simp
              with_reducible refine Calls.mono (HTI.out _ HTd.out) ?_
              rintro e w1 ⟨rfl, hkk⟩
              dsimp only
              refine hK.out _ _ trivial (fun _ => ?_)
              clear hK K
              refine wpAnyH_take (i := 10) (v := .pointer (some ⟨b, 0, none⟩)) rfl (by kernel_rfl) (by kernel_rfl) (by kernel_rfl) (fun _ _ _ h => h) (Or.inl ⟨by rfl, fun w' _ => by go_simp⟩) trivial ?_
              simp only [Act.put, List.getElem_toArray, List.getElem_cons_zero, List.getElem_cons_succ, List.setIfInBounds_toArray, List.set_cons_zero, List.set_cons_succ]
              refine wpAnyH_take (i := 11) (v := .pointer (some ⟨b, 0, none⟩)) rfl (by kernel_rfl) (by kernel_rfl) (by kernel_rfl) (fun _ _ _ h => h) (Or.inl ⟨by rfl, fun w' _ => by go_simp⟩) trivial ?_
              simp only [Act.put, List.getElem_toArray, List.getElem_cons_zero, List.getElem_cons_succ, List.setIfInBounds_toArray, List.set_cons_zero, List.set_cons_succ]
              refine wpAnyH_ready (rs := [12]) (by kernel_rfl) (by simp) ?_
              refine AllReadyH.cons rfl (fun K hK => ?_) AllReadyH.nil
              rw [if_pos (by rfl)]
              have hDw := HDd.out.keep hkk
              refine wp_store_mid 59 _ _ rfl b 0 (aw s2.w 8).toArray rfl rfl (by rw [size8]; exact hDw.there 0 8 (by omega)) (inSt _) (all8 _) ?_
              refine hK.out _ _ trivial (fun _ => ?_)
              clear hK K
              refine wpAnyH_done (by kernel_rfl) ?_ _
              refine NoPanic.normal ?_
              have hDz := hDw.state s2
              have hGz : Y.grownBy (w1.setCells b 0 (aw s2.w 8).toArray.toList) (some b) := grown_trans (grown_of (K.drew (Below.refl _ _)) _) (grown_trans (grown_of hkk _) (grown_sets _ _ _ _))
              go_wp2_with fail
              go_meet
              case rel => exact ⟨rfl, hDz, hGz⟩
          case rest =>
            obtain ⟨rfl, hDc, hGc⟩ := hcut
            have HDc := hide hDc
            have HGc := hide (grown_trans HGR.out (grown_trans HGY.out hGc))
            have HGd := hide (grown_trans HGY.out hGc)
            clear hDc hGc HTI HTY HDY
            have HCT := hide (fun W => run_cut (bb := bb) (o := o) (L := L) (c := c') (k := k) (by have := HF.out; omega) W)
            obtain ⟨y, hy⟩ : ∃ y, y = some (if c' = k then (⟨bb, o, none⟩ : Addr) else ⟨bb, o + k, none⟩) := ⟨_, rfl⟩
            rw [← hy] at HCT
            have HY := hide hy
            clear hy
            go_wp2_with (refine wpList_cut rfl 41 _ _ rfl _ _ _ rfl rfl (HCT.out _) ?_)
            go_roundg (m - (j + k))
            case measure => have := HE.out; have := HF.out; omega
            case rel =>
              have hEE := HE.out
              have hFF := HF.out
              have hMM := HM.out
              refine ⟨j + k, y, c' - k, rfl, by omega, by rw [show m - (j + k) = L - k by omega], by omega, by omega, fun h => ?_, ⟨s2, _, digs_full HD.out hEE.2.1 hEE.2.2.1 hFF.1 HG.out.lt (by rw [HS2.out, HR2.out]) (by rw [← hMM, ← HR2.out]; exact HDc.out)⟩, HGc.out⟩
              have hc : ¬ c' = k := by omega
              refine ⟨bb, o + k, by rw [HY.out, if_neg hc], hbb, ?_⟩
              have hr := (HR.out.kept HGd.out hbb).part k (m - (j + k)) (by omega)
              exact hr.congr (fun i _ => by show ((g (j + (k + i)) : Nat) : Int) = _; rw [Nat.add_assoc])
      · obtain rfl : m = j := by omega
        have HD := hide hD
        have HGR := hide hg
        have hz : m - m = 0 := by omega
        rw [hz]
        clear hD hg hsrc hlt hj hz
        go_wp2_with fail
        exact bodyPost_end (by simp [results, Tryd.results35]; rfl) rfl ⟨⟨_, rfl⟩, ⟨s1, r1, HD.out.d, Or.inr HD.out.st, HD.out.b, HD.out.rs⟩, HGR.out⟩
end Go.Proofs.YteplklbpehkdjaaDoor
