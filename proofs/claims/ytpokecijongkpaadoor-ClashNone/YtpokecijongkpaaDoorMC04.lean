/- What the program's own Write does. What the program's own hash answers. What the program's own Sum of a digest answers. What the program's own Sum answers. -/
import Derived.Test.YtpokecijongkpaaDoorMC03
import Derived.Test.YtpokecijongkpaaDoorMC02
namespace Go.Proofs.YtpokecijongkpaaDoor
set_option maxRecDepth 100000
open Go.RowKit
attribute [local go_sem ↓] Go.wp_at_zero Go.wp_at_succ

/-- A copy of bytes, at a step of a region that draws its order. -/
theorem step_copy {W : World} {ops : Array Oper} {op : Oper} {a : Act} {K : Act → World → Prop} {Q : Exit → Act → World → Prop} {E : Prop} (hgd : op.guard = none) (d s : Operand)
    (ho : op.op = .call { callee := .builtin .copy, args := #[d, s], argTypes := #[28, 28] })
    {b o dLen dCap sLen sCap x y : Nat} (hd : a.eval d = .slice (some ⟨b, o, none⟩) dLen dCap) (hs : a.eval s = .slice (some ⟨x, y, none⟩) sLen sCap) (k : Nat) (hk : k = Nat.min sLen dLen) (g : Nat → Nat)
    (hsrc : Rd W x y k (fun i => ((g i : Nat) : Int))) (ht : W.there b o k) (h : K (a.put op.dst (goInt k)) (W.setCells b o (ab g k))) :
    if Region.wanted op (yielded ops a.tmps) = true then Oper.wp Tryd.prog op a W K Q else E := by
  have hw : Region.wanted op (yielded ops a.tmps) = true := by simp [Region.wanted, hgd]
  rw [if_pos hw]
  have hr := run_copy_cells (P := Tryd.prog) W 28 28 op.type 5 b o dLen dCap ⟨x, y, none⟩ sLen sCap (ab g k) Tryd.underlying28 (by kernel_rfl) (by rw [ab_len]; exact hk) (fun j v hv => by
    have hj : j < k := by
      rcases Nat.lt_or_ge j k with h' | h'
      · exact h'
      · rw [List.getElem?_eq_none (by rw [ab_len]; exact h')] at hv; cases hv
    rw [ab_at g hj] at hv
    rw [Addr.add_mid, hsrc.c j hj]; exact hv) (fun j hj => (ht j (by rw [ab_len] at hj; exact hj)).1) (fun j hj => (ht j (by rw [ab_len] at hj; exact hj)).2) (ab_one _ _)
  rw [ab_len] at hr
  unfold Oper.wp execOp
  simp only [ho, resolve, invoke, builtin, Sem.run_bind, Sem.run_pure, Result.andThen_ok, List.map_toArray, List.map_cons, List.map_nil, hd, hs, hr]
  exact h

theorem run_slice_rest {b q : Nat} (hq : q < 64) (W : World) : (Instr.sliceAt 69 (.pointer (some ⟨b, 8, none⟩)) (some (.int .u64 (q : Int))) none none).run Tryd.prog W = .ok (.slice (some ⟨b, 8 + q, none⟩) (64 - q) (64 - q)) W := by
  have ha : Tryd.prog.arrayLen 69 = 64 := by kernel_rfl
  have hu : Tryd.prog.underlying 69 = some (.array (Tryd.prog.arrayLen 69) (Tryd.prog.elem 69)) := by kernel_rfl
  rw [run_sliceAt_array_l W 69 ⟨b, 8, none⟩ hu .u64 (q : Int) (by omega) (by rw [ha]; omega)]
  have he : Tryd.prog.elem 69 = 5 := by kernel_rfl
  have h1 : (sizeOf 5).run Tryd.prog W = .ok 1 W := by
    obtain ⟨i, hi⟩ := Option.isSome_iff_exists.1 (show (Tryd.prog.info? 5).isSome = true by kernel_rfl)
    have : (Tryd.prog.info? 5).map (·.size) = some 1 := by kernel_rfl
    rw [hi] at this
    simp [sizeOf, typeInfo, hi]
    simpa using this
  rw [he, h1, ha]
  simp only [Result.andThen_ok, slicedAt, Int.toNat_natCast, if_neg (show ¬ 64 = q by omega), Nat.mul_one, Addr.add_mid]
/-- What is left of a slice from a place on. -/
theorem run_cut {bb o L c k : Nat} (hk : k ≤ L) (W : World) : (Instr.sliceAt 28 (.slice (some ⟨bb, o, none⟩) L c) (some (.int .i64 (k : Int))) none none).run Tryd.prog W = .ok (.slice (some (if c = k then ⟨bb, o, none⟩ else ⟨bb, o + k, none⟩)) (L - k) (c - k)) W := by
  have hu : Tryd.prog.underlying 28 = some (.slice (Tryd.prog.elem 28)) := by kernel_rfl
  have he : Tryd.prog.elem 28 = 5 := by kernel_rfl
  have h1 : (sizeOf 5).run Tryd.prog W = .ok 1 W := by
    obtain ⟨i, hi⟩ := Option.isSome_iff_exists.1 (show (Tryd.prog.info? 5).isSome = true by kernel_rfl)
    have : (Tryd.prog.info? 5).map (·.size) = some 1 := by kernel_rfl
    rw [hi] at this
    simp [sizeOf, typeInfo, hi]
    simpa using this
  rw [run_sliceAt_slice W 28 _ _ _ _ hu, run_slice_l W 28 _ L c hu .i64 (k : Int) (by omega) (by omega), he, h1]
  simp only [Result.andThen_ok, sliced, Int.toNat_natCast, Nat.mul_one, Option.map_some, Addr.add_mid]
  congr 2
  split <;> rfl
theorem wpList_cut {P : Program} {w : World} {ops : Array Oper} {rest : List Oper} {op : Oper} {a : Act} {Q : Exit → Act → World → Prop} (hgd : op.guard = none) (t : TypeId) (x l : Operand) (ho : op.op = .slice t x (some l) none none)
    (X Y v : Value) (hx : a.eval x = X) (hy : a.eval l = Y) (hr : (Instr.sliceAt t X (some Y) none none).run P w = .ok v w) (h : wpList P ops Q rest (a.put op.dst v) w) : wpList P ops Q (op :: rest) a w := by
  refine wpList_plain hgd fun K hK => ?_
  unfold Oper.wp execOp
  simp only [ho, Option.map, hx, hy, Sem.run_bind, Sem.run_pure, Result.andThen_ok, hr]
  exact hK _ _ h
set_option maxRecDepth 100000 in
set_option maxHeartbeats 8000000 in
theorem write_any {b n m c : Nat} {x : Option Addr} {f g : Nat → Nat} {w : World} (hT : Tab w) (h2 : 4 ≤ b) (hG : BA w x m g) (hx : 0 < m → ∀ p, x = some p → p.block ≠ b) (hmc : m ≤ c) (hc : c ≤ maxLen) (hD : Dig w b f n) (hnm : n + m ≤ 900000) :
    Calls Tryd.prog 46 #[.pointer (some ⟨b, 0, none⟩), .slice x m c] w fun e w' => (∃ v, e = .returned v) ∧ Dig w' b (cat f n g) (n + m) ∧ w.grownBy w' (some b) := by
  have HT := hide hT
  have HG := hide hG
  have HX := hide hx
  have HC := hide hc
  obtain ⟨s, r, hR, hs, hrb, hrr⟩ := hD
  have sz := hR.sz
  have HR := hide hR
  have HS := hide hs
  have HRR := hide (And.intro hrb hrr)
  have HN := hide hnm
  clear hT hG hx hc hR hs hrb hrr hnm
  go_enter Tryd.func46, Tryd.ntmps46
  go_upto_if 11 with fail
  go_cut [11] (fun _ wc => (∃ s r, DigS wc b f n s r) ∧ w.grownBy wc (some b))
  case first =>
    by_cases h0 : n = 0
    · have h0i : (n : Int) = 0 := by omega
      have HRg : Hid (w.rangeAt 0 0 (aw start.w 8)) := fun j v hv => by
        have hj : j < 8 := by
          rcases Nat.lt_or_ge j 8 with h' | h'
          · exact h'
          · rw [List.getElem?_eq_none (by rw [aw_len]; exact h')] at hv; cases hv
        rw [aw_at _ hj] at hv
        rw [Nat.zero_add, HT.out.f j hj]; exact hv
      have HTH : Hid (w.there b 0 (aw start.w 8).toArray.size) := by
        have h := HR.out.there 0 8 (by omega)
        rw [size8]
        exact h
      have HD := hide (HR.out.state start)
      have HGs := hide (grown_sets b (aw start.w 8) 0 w)
      go_wp2_with (first
        | (refine wpList_load_mid rfl 67 _ rfl _ 0 rfl (aw start.w 8) _ HRg.out Tryd.underlying67 rfl (ilSt _) ?_; simp only [Act.put, List.setIfInBounds_toArray, List.set_cons_zero, List.set_cons_succ])
        | (refine wpList_store_mid rfl 67 _ _ rfl b 0 (aw start.w 8).toArray rfl rfl HTH.out (inSt _) (all8 _) ?_; generalize w.setCells b 0 (aw start.w 8).toArray.toList = X at HD HGs ⊢))
      go_meet
      case rel => exact ⟨⟨start, r, HD.out, by rw [h0]; rfl, HRR.out.1, HRR.out.2⟩, HGs.out⟩
    · have h0b : ((n : Int) == 0) = false := beq_eq_false_iff_ne.2 (by omega)
      go_wp2_with fail
      go_meet
      case rel => exact ⟨⟨s, r, HR.out, HS.out.resolve_left h0, HRR.out.1, HRR.out.2⟩, World.grownBy.refl _ _⟩
  case rest =>
    obtain ⟨⟨s1, r1, hD⟩, hg⟩ := hcut
    have HD := hide hD
    have HW := hide hg
    clear hD hg sz HR HS HRR
    go_wp2_with fail
    go_loopg [1] m (fun g' s1 wr => ∃ (j : Nat) (x' : Option Addr) (c' : Nat), g' = m - j ∧ j ≤ m ∧ s1 = .slice x' (m - j) c' ∧ m - j ≤ c' ∧ c' ≤ maxLen ∧ (j < m → ∃ bb o, x' = some ⟨bb, o, none⟩ ∧ bb ≠ b ∧ Rd wr bb o (m - j) (fun i => ((g (j + i) : Nat) : Int))) ∧ (∃ s r, DigS wr b (cat f n g) (n + j) s r) ∧ w.grownBy wr (some b))
    case atStart =>
      refine ⟨0, x, c, by omega, by omega, rfl, by omega, HC.out, fun hm => ?_, ⟨s1, r1, HD.out.d, ?_, HD.out.b, fun i hi => ?_⟩, HW.out⟩
      · rcases HG.out.at_ with h0 | ⟨bb, o, e, hr⟩
        · omega
        · refine ⟨bb, o, e, HX.out hm _ e, ?_⟩
          have := hr.kept HW.out (HX.out hm _ e)
          simpa using this
      · rw [HD.out.st]; exact hs_congr _ (fun i hi => by unfold cat; rw [if_pos (by omega)])
      · rw [HD.out.rs i hi]; unfold cat; rw [if_pos (by omega)]; rfl
    case round =>
      clear HD HW
      obtain ⟨j, x', c', rfl, hj, rfl, hc1, hc2, hsrc, ⟨s1, r1, hD⟩, hg⟩ := hrel
      by_cases hlt : j < m
      · obtain ⟨bb, o, rfl, hbb, hr⟩ := hsrc hlt
        obtain ⟨L, hL⟩ : ∃ L, L = m - j := ⟨_, rfl⟩
        obtain ⟨N, hN⟩ : ∃ N, N = n + j := ⟨_, rfl⟩
        obtain ⟨q, hq⟩ : ∃ q, q = N % 64 := ⟨_, rfl⟩
        clear hsrc
        have hnm := HN.out
        have HE : Hid (m = j + L ∧ N = n + j ∧ q = N % 64 ∧ 0 < L ∧ L ≤ 900000 ∧ N ≤ 900000 ∧ N + L ≤ 900000) := ⟨by omega, hN, hq, by omega, by omega, by omega, by omega⟩
        clear hnm
        have hLn : 0 < L := by omega
        rw [← hL] at hr hc1 ⊢
        rw [← hN] at hD
        have sz := hD.d.sz
        have qi : (N : Int) % 64 = (q : Int) := by omega
        have qt : (N : Int).tmod 64 = (q : Int) := by rw [Int.tmod_eq_emod_of_nonneg (by omega)]; omega
        have qb : (q : Int) < 64 := by omega
        have qn : q < 64 := by omega
        have hsl := fun W => run_slice_rest (b := b) qn W
        have hL0 : (0 : Int) < (L : Int) := by omega
        have HD := hide hD
        have HR := hide hr
        have HGR := hide hg
        have hbN : (N : Int) ≤ 900000 := by have := HE.out; omega
        have hbL : (L : Int) ≤ 900000 := by have := HE.out; omega
        have hlc : (L : Int) ≤ (c' : Int) := by omega
        clear hD hr hg hL hN hq hj hlt hc1
        by_cases hfit : q + L < 64
        · have HF := hide hfit
          clear hfit
          go_upto_region 4 with fail
          go_region_held3 (fun w' => w'.cell? ⟨b, 72, none⟩ = some (.int .u64 (N : Int)))
            (first | (with_reducible assumption) | exact sz | exact h72)
            (first
            | (refine step_copy rfl _ _ rfl rfl rfl L (by have := HF.out; show L = min L (64 - q); omega) (fun i => g (j + i)) (HR.out.keep (K.drew (Below.refl _ _))) ((World.there_drew _ _ _ _).2 (HD.out.d.there (8 + q) L (by have := HF.out; omega))) ?_; have h72 := ((HD.out.d.keep (K.drew (Below.refl _ _))).rest q L (by have := HF.out; omega) (fun i => g (j + i))).sz))
          go_upto_region 5 with fail
          refine wp_world (fun X hX => ?_)
          have hDX : DigR X b s1 (put r1 q L (fun i => g (j + i))) N := by rw [hX]; exact (HD.out.d.keep (K.drew (Below.refl _ _))).rest q L (by have := HF.out; omega) _
          have HGX : Hid (wr.grownBy X (some b)) := by rw [hX]; exact grown_trans (grown_of (K.drew (Below.refl _ _)) _) (grown_sets _ _ _ _)
          clear hX h72 sz hsl
          obtain ⟨M, hM⟩ : ∃ M, M = N + L := ⟨_, rfl⟩
          have HM := hide hM
          have c72 := hDX.sz
          have z72 := hDX.z 72 (by omega)
          have m1 : (N : Int) + (L : Int) = (M : Int) := by omega
          have m2 : (M : Int) ≤ 900000 := by have := HE.out; omega
          have HDX := hide hDX
          clear hM hDX
          go_upto_region 6 with fail
          refine wp_world (fun Y hY => ?_)
          have hDY : DigR Y b s1 (put r1 q L (fun i => g (j + i))) M := by rw [hY]; exact HDX.out.size M
          have HGY : Hid (wr.grownBy Y (some b)) := by rw [hY]; exact grown_trans HGX.out (grown_set _ _ _ _)
          have c72 := hDY.sz
          have HDY := hide hDY
          obtain ⟨u, hu⟩ : ∃ u, u = q + L := ⟨_, rfl⟩
          have hFF := HF.out
          have hEE := HE.out
          have hMM := HM.out
          have n1 : (M : Int) % 64 = (u : Int) := by omega
          have n2 : (M : Int).tmod 64 = (u : Int) := by rw [Int.tmod_eq_emod_of_nonneg (by omega)]; omega
          have n3 : ((u : Int) == 0) = false := beq_eq_false_iff_ne.2 (by omega)
          have n4 : ¬ u = 0 := by omega
          clear hY hDY HDX HGX z72 hu hFF hEE hMM
          have HCT := hide (fun W => run_cut (bb := bb) (o := o) (L := L) (c := c') (k := L) (by omega) W)
          obtain ⟨y, hy⟩ : ∃ y, y = some (if c' = L then (⟨bb, o, none⟩ : Addr) else ⟨bb, o + L, none⟩) := ⟨_, rfl⟩
          rw [← hy] at HCT
          clear hy
          go_wp2_with (refine wpList_cut rfl 28 _ _ rfl _ _ _ rfl rfl (HCT.out _) ?_)
          go_roundg (m - (j + L))
          case measure => have := HE.out; omega
          case rel =>
            have hEE := HE.out
            have hFF := HF.out
            have hMM := HM.out
            refine ⟨j + L, y, c' - L, rfl, by omega, by rw [show m - (j + L) = 0 by omega], by omega, by omega, fun h => by omega, ⟨s1, _, digs_part HD.out hEE.2.1 hEE.2.2.1 hFF HG.out.lt (by rw [← hMM]; exact HDY.out)⟩, grown_trans HGR.out HGY.out⟩
        · obtain ⟨k, hk⟩ : ∃ k, k = 64 - q := ⟨_, rfl⟩
          have HF : Hid (q + k = 64 ∧ k ≤ L ∧ 0 < k) := ⟨by omega, by omega, by omega⟩
          have hke : 64 - q = k := hk.symm
          have hki : (k : Int) ≤ 64 := by omega
          have hkp : 0 < k := by omega
          have hkl : (k : Int) ≤ (L : Int) := by omega
          clear hfit hk
          go_upto_region 4 with fail
          go_region_held3 (fun w' => w'.cell? ⟨b, 72, none⟩ = some (.int .u64 (N : Int)))
            (first | (with_reducible assumption) | exact sz | exact h72)
            (first
            | (refine step_copy rfl _ _ rfl rfl rfl k (by have := HF.out; show k = min L _; omega) (fun i => g (j + i)) ((HR.out.first k HF.out.2.1).keep (K.drew (Below.refl _ _))) ((World.there_drew _ _ _ _).2 (HD.out.d.there (8 + q) k (by have := HF.out; omega))) ?_; have h72 := ((HD.out.d.keep (K.drew (Below.refl _ _))).rest q k (by have := HF.out; omega) (fun i => g (j + i))).sz))
          go_upto_region 5 with fail
          refine wp_world (fun X hX => ?_)
          have hDX : DigR X b s1 (put r1 q k (fun i => g (j + i))) N := by rw [hX]; exact (HD.out.d.keep (K.drew (Below.refl _ _))).rest q k (by have := HF.out; omega) _
          have HGX : Hid (wr.grownBy X (some b)) := by rw [hX]; exact grown_trans (grown_of (K.drew (Below.refl _ _)) _) (grown_sets _ _ _ _)
          clear hX h72 sz hsl
          obtain ⟨M, hM⟩ : ∃ M, M = N + k := ⟨_, rfl⟩
          have HM := hide hM
          have c72 := hDX.sz
          have z72 := hDX.z 72 (by omega)
          have m1 : (N : Int) + (k : Int) = (M : Int) := by omega
          have m2 : (M : Int) ≤ 900000 := by have := HE.out; omega
          have HDX := hide hDX
          clear hM hDX
          go_upto_region 6 with fail
          refine wp_world (fun Y hY => ?_)
          have hDY : DigR Y b s1 (put r1 q k (fun i => g (j + i))) M := by rw [hY]; exact HDX.out.size M
          have HGY : Hid (wr.grownBy Y (some b)) := by rw [hY]; exact grown_trans HGX.out (grown_set _ _ _ _)
          have c72 := hDY.sz
          have hFF := HF.out
          have hEE := HE.out
          have hMM := HM.out
          have n1 : (M : Int) % 64 = 0 := by omega
          have n2 : (M : Int).tmod 64 = 0 := by rw [Int.tmod_eq_emod_of_nonneg (by omega)]; omega
          clear hY HDX HGX z72 hFF hEE hMM
          obtain ⟨r2, hr2⟩ : ∃ r2, r2 = put r1 q k (fun i => g (j + i)) := ⟨_, rfl⟩
          have HR2 := hide hr2
          rw [← hr2] at hDY
          obtain ⟨s2, hs2⟩ : ∃ s2, s2 = takeB s1 r2 := ⟨_, rfl⟩
          have HS2 := hide hs2
          have HTI : Hid (∀ W : World, Tab W → Calls Tryd.prog 60 #[.agg (aw s1.w 8).toArray, .agg (ab r2 64).toArray] W fun e w' => e = .returned (.agg (aw s2.w 8).toArray) ∧ Below W.heap.size W w') := fun W hT => by
            rw [hs2]
            exact takeIn_any (fun i => by rw [hr2]; exact put_lt HD.out.b (fun i => HG.out.lt _) _ _ i) s1 hT
          have HTY : Hid (Tab Y) := (HT.out.kept (grown_trans HGR.out HGY.out) h2)
          have HDY := hide hDY
          clear hr2 hs2 hDY
          go_upto_region 7 with fail
          go_cut [4] (fun s4 wc => s4 = .int .i64 (k : Int) ∧ DigR wc b s2 r2 M ∧ Y.grownBy wc (some b))
          case first =>
            have HTd := hide (HTY.out.keep (K.drew (Below.refl _ _)))
            have HDd := hide (HDY.out.keep (K.drew (Below.refl _ _)))
            refine wp_region_noPanic ?_
            refine wp_region_held_drew (S := fun _ => True) (by kernel_rfl) trivial (fun hHeld => ?_)
            refine wpAnyH_take (i := 0) (v := .pointer (some ⟨b, 0, none⟩)) rfl (by kernel_rfl) (by kernel_rfl) (by kernel_rfl) (fun _ _ _ h => h) (Or.inl ⟨by rfl, fun w' _ => by go_simp⟩) trivial ?_
            simp only [Act.put, List.getElem_toArray, List.getElem_cons_zero, List.setIfInBounds_toArray, List.set_cons_zero, List.set_cons_succ]
            refine wpAnyH_take (i := 1) (v := .pointer (some ⟨b, 0, none⟩)) rfl (by kernel_rfl) (by kernel_rfl) (by kernel_rfl) (fun _ _ _ h => h) (Or.inl ⟨by rfl, fun w' _ => by go_simp⟩) trivial ?_
            simp only [Act.put, List.getElem_toArray, List.getElem_cons_zero, List.getElem_cons_succ, List.setIfInBounds_toArray, List.set_cons_zero, List.set_cons_succ]
            refine wpAnyH_take (i := 2) (v := .pointer (some ⟨b, 0, none⟩)) rfl (by kernel_rfl) (by kernel_rfl) (by kernel_rfl) (fun _ _ _ h => h) (Or.inl ⟨by rfl, fun w' _ => by go_simp⟩) trivial ?_
            simp only [Act.put, List.getElem_toArray, List.getElem_cons_zero, List.getElem_cons_succ, List.setIfInBounds_toArray, List.set_cons_zero, List.set_cons_succ]
            refine wpAnyH_take (i := 3) (v := .pointer (some ⟨b, 0, none⟩)) rfl (by kernel_rfl) (by kernel_rfl) (by kernel_rfl) (fun _ _ _ h => h) (Or.inl ⟨by rfl, fun w' _ => by go_simp⟩) trivial ?_
            simp only [Act.put, List.getElem_toArray, List.getElem_cons_zero, List.getElem_cons_succ, List.setIfInBounds_toArray, List.set_cons_zero, List.set_cons_succ]
            refine wpAnyH_take (i := 5) (v := .pointer (some ⟨b, 0, none⟩)) rfl (by kernel_rfl) (by kernel_rfl) (by kernel_rfl) (fun _ _ _ h => h) (Or.inl ⟨by rfl, fun w' _ => by go_simp⟩) trivial ?_
            simp only [Act.put, List.getElem_toArray, List.getElem_cons_zero, List.getElem_cons_succ, List.setIfInBounds_toArray, List.set_cons_zero, List.set_cons_succ]
            refine wpAnyH_take (i := 6) (v := .pointer (some ⟨b, 0, none⟩)) rfl (by kernel_rfl) (by kernel_rfl) (by kernel_rfl) (fun _ _ _ h => h) (Or.inl ⟨by rfl, fun w' _ => by go_simp⟩) trivial ?_
            simp only [Act.put, List.getElem_toArray, List.getElem_cons_zero, List.getElem_cons_succ, List.setIfInBounds_toArray, List.set_cons_zero, List.set_cons_succ]
            refine wpAnyH_take (i := 7) (v := .pointer (some ⟨b, 8, none⟩)) rfl (by kernel_rfl) (by kernel_rfl) (by kernel_rfl) (fun _ _ _ h => h) (Or.inl ⟨by rfl, fun w' _ => by go_simp⟩) trivial ?_
            simp only [Act.put, List.getElem_toArray, List.getElem_cons_zero, List.getElem_cons_succ, List.setIfInBounds_toArray, List.set_cons_zero, List.set_cons_succ]
            refine wpAnyH_ready (rs := [4, 8]) (by kernel_rfl) (by simp) ?_
            refine AllReadyH.cons rfl (fun K hK => ?_) (AllReadyH.cons rfl (fun K hK => ?_) AllReadyH.nil)
            · rw [if_pos (by rfl)]
              refine wp_load_mid 67 _ rfl b 0 rfl (aw s1.w 8) _ HDd.out.rangeSt Tryd.underlying67 rfl (ilSt _) ?_
              refine hK.out _ _ trivial (fun _ => ?_)
              clear hK K
              simp only [Act.put, List.getElem_toArray, List.getElem_cons_zero, List.getElem_cons_succ, List.setIfInBounds_toArray, List.set_cons_zero, List.set_cons_succ]
              refine wpAnyH_ready (rs := [8]) (by kernel_rfl) (by simp) ?_
              refine AllReadyH.cons rfl (fun K hK => ?_) AllReadyH.nil
              rw [if_pos (by rfl)]
              refine wp_load_mid 69 _ rfl b 8 rfl (ab r2 64) _ HDd.out.rangeRs Tryd.underlying69 rfl (ilBlk _) ?_
              refine hK.out _ _ trivial (fun _ => ?_)
              clear hK K
              simp only [Act.put, List.getElem_toArray, List.getElem_cons_zero, List.getElem_cons_succ, List.setIfInBounds_toArray, List.set_cons_zero, List.set_cons_succ]
              refine wpAnyH_ready (rs := [9]) (by kernel_rfl) (by simp) ?_
              refine AllReadyH.cons rfl (fun K hK => ?_) AllReadyH.nil
              go_simp
              with_reducible refine Calls.mono (HTI.out _ HTd.out) ?_
              rintro e w1 ⟨rfl, hkk⟩
              dsimp only
              refine hK.out _ _ trivial (fun _ => ?_)
              clear hK K
              refine wpAnyH_take (i := 10) (v := .pointer (some ⟨b, 0, none⟩)) rfl (by kernel_rfl) (by kernel_rfl) (by kernel_rfl) (fun _ _ _ h => h) (Or.inl ⟨by rfl, fun w' _ => by go_simp⟩) trivial ?_
              simp only [Act.put, List.getElem_toArray, List.getElem_cons_zero, List.getElem_cons_succ, List.setIfInBounds_toArray, List.set_cons_zero, List.set_cons_succ]
              refine wpAnyH_take (i := 11) (v := .pointer (some ⟨b, 0, none⟩)) rfl (by kernel_rfl) (by kernel_rfl) (by kernel_rfl) (fun _ _ _ h => h) (Or.inl ⟨by rfl, fun w' _ => by go_simp⟩) trivial ?_
              simp only [Act.put, List.getElem_toArray, List.getElem_cons_zero, List.getElem_cons_succ, List.setIfInBounds_toArray, List.set_cons_zero, List.set_cons_succ]
              refine wpAnyH_ready (rs := [12]) (by kernel_rfl) (by simp) ?_
              refine AllReadyH.cons rfl (fun K hK => ?_) AllReadyH.nil
              rw [if_pos (by rfl)]
              have hDw := HDd.out.keep hkk
              refine wp_store_mid 67 _ _ rfl b 0 (aw s2.w 8).toArray rfl rfl (by rw [size8]; exact hDw.there 0 8 (by omega)) (inSt _) (all8 _) ?_
              refine hK.out _ _ trivial (fun _ => ?_)
              clear hK K
              refine wpAnyH_done (by kernel_rfl) ?_ _
              refine NoPanic.normal ?_
              have hDz := hDw.state s2
              have hGz : Y.grownBy (w1.setCells b 0 (aw s2.w 8).toArray.toList) (some b) := grown_trans (grown_of (K.drew (Below.refl _ _)) _) (grown_trans (grown_of hkk _) (grown_sets _ _ _ _))
              go_wp2_with fail
              go_meet
              case rel => exact ⟨rfl, hDz, hGz⟩
            · rw [if_pos (by rfl)]
              refine wp_load_mid 69 _ rfl b 8 rfl (ab r2 64) _ HDd.out.rangeRs Tryd.underlying69 rfl (ilBlk _) ?_
              refine hK.out _ _ trivial (fun _ => ?_)
              clear hK K
              simp only [Act.put, List.getElem_toArray, List.getElem_cons_zero, List.getElem_cons_succ, List.setIfInBounds_toArray, List.set_cons_zero, List.set_cons_succ]
              refine wpAnyH_ready (rs := [4]) (by kernel_rfl) (by simp) ?_
              refine AllReadyH.cons rfl (fun K hK => ?_) AllReadyH.nil
              rw [if_pos (by rfl)]
              refine wp_load_mid 67 _ rfl b 0 rfl (aw s1.w 8) _ HDd.out.rangeSt Tryd.underlying67 rfl (ilSt _) ?_
              refine hK.out _ _ trivial (fun _ => ?_)
              clear hK K
              simp only [Act.put, List.getElem_toArray, List.getElem_cons_zero, List.getElem_cons_succ, List.setIfInBounds_toArray, List.set_cons_zero, List.set_cons_succ]
              refine wpAnyH_ready (rs := [9]) (by kernel_rfl) (by simp) ?_
              refine AllReadyH.cons rfl (fun K hK => ?_) AllReadyH.nil
              go_simp
              with_reducible refine Calls.mono (HTI.out _ HTd.out) ?_
              rintro e w1 ⟨rfl, hkk⟩
              dsimp only
              refine hK.out _ _ trivial (fun _ => ?_)
              clear hK K
              refine wpAnyH_take (i := 10) (v := .pointer (some ⟨b, 0, none⟩)) rfl (by kernel_rfl) (by kernel_rfl) (by kernel_rfl) (fun _ _ _ h => h) (Or.inl ⟨by rfl, fun w' _ => by go_simp⟩) trivial ?_
              simp only [Act.put, List.getElem_toArray, List.getElem_cons_zero, List.getElem_cons_succ, List.setIfInBounds_toArray, List.set_cons_zero, List.set_cons_succ]
              refine wpAnyH_take (i := 11) (v := .pointer (some ⟨b, 0, none⟩)) rfl (by kernel_rfl) (by kernel_rfl) (by kernel_rfl) (fun _ _ _ h => h) (Or.inl ⟨by rfl, fun w' _ => by go_simp⟩) trivial ?_
              simp only [Act.put, List.getElem_toArray, List.getElem_cons_zero, List.getElem_cons_succ, List.setIfInBounds_toArray, List.set_cons_zero, List.set_cons_succ]
              refine wpAnyH_ready (rs := [12]) (by kernel_rfl) (by simp) ?_
              refine AllReadyH.cons rfl (fun K hK => ?_) AllReadyH.nil
              rw [if_pos (by rfl)]
              have hDw := HDd.out.keep hkk
              refine wp_store_mid 67 _ _ rfl b 0 (aw s2.w 8).toArray rfl rfl (by rw [size8]; exact hDw.there 0 8 (by omega)) (inSt _) (all8 _) ?_
              refine hK.out _ _ trivial (fun _ => ?_)
              clear hK K
              refine wpAnyH_done (by kernel_rfl) ?_ _
              refine NoPanic.normal ?_
              have hDz := hDw.state s2
              have hGz : Y.grownBy (w1.setCells b 0 (aw s2.w 8).toArray.toList) (some b) := grown_trans (grown_of (K.drew (Below.refl _ _)) _) (grown_trans (grown_of hkk _) (grown_sets _ _ _ _))
              go_wp2_with fail
              go_meet
              case rel => exact ⟨rfl, hDz, hGz⟩
          case rest =>
            obtain ⟨rfl, hDc, hGc⟩ := hcut
            have HDc := hide hDc
            have HGc := hide (grown_trans HGR.out (grown_trans HGY.out hGc))
            have HGd := hide (grown_trans HGY.out hGc)
            clear hDc hGc HTI HTY HDY
            have HCT := hide (fun W => run_cut (bb := bb) (o := o) (L := L) (c := c') (k := k) (by have := HF.out; omega) W)
            obtain ⟨y, hy⟩ : ∃ y, y = some (if c' = k then (⟨bb, o, none⟩ : Addr) else ⟨bb, o + k, none⟩) := ⟨_, rfl⟩
            rw [← hy] at HCT
            have HY := hide hy
            clear hy
            go_wp2_with (refine wpList_cut rfl 28 _ _ rfl _ _ _ rfl rfl (HCT.out _) ?_)
            go_roundg (m - (j + k))
            case measure => have := HE.out; have := HF.out; omega
            case rel =>
              have hEE := HE.out
              have hFF := HF.out
              have hMM := HM.out
              refine ⟨j + k, y, c' - k, rfl, by omega, by rw [show m - (j + k) = L - k by omega], by omega, by omega, fun h => ?_, ⟨s2, _, digs_full HD.out hEE.2.1 hEE.2.2.1 hFF.1 HG.out.lt (by rw [HS2.out, HR2.out]) (by rw [← hMM, ← HR2.out]; exact HDc.out)⟩, HGc.out⟩
              have hc : ¬ c' = k := by omega
              refine ⟨bb, o + k, by rw [HY.out, if_neg hc], hbb, ?_⟩
              have hr := (HR.out.kept HGd.out hbb).part k (m - (j + k)) (by omega)
              exact hr.congr (fun i _ => by show ((g (j + (k + i)) : Nat) : Int) = _; rw [Nat.add_assoc])
      · obtain rfl : m = j := by omega
        have HD := hide hD
        have HGR := hide hg
        have hz : m - m = 0 := by omega
        rw [hz]
        clear hD hg hsrc hlt hj hz
        go_wp2_with fail
        exact bodyPost_end (by simp [results, Tryd.results46]; rfl) rfl ⟨⟨_, rfl⟩, ⟨s1, r1, HD.out.d, Or.inr HD.out.st, HD.out.b, HD.out.rs⟩, HGR.out⟩
end Go.Proofs.YtpokecijongkpaaDoor
namespace Go.Proofs.YtpokecijongkpaaDoor
set_option maxRecDepth 100000
open Go.RowKit
attribute [local go_sem ↓] Go.wp_at_zero Go.wp_at_succ

def hP (s : St) (i j : Nat) : Nat := if j < i then hByte s j else 0
set_option maxRecDepth 100000 in
set_option maxHeartbeats 8000000 in
theorem hash_any (s : St) (w : World) :
    Calls Tryd.prog 62 #[.agg (aw s.w 8).toArray] w fun e w' => e = .returned (.agg (ab (hByte s) 32).toArray) ∧ Below w.heap.size w w' := by
  rw [aw8 s.w]
  go_enter Tryd.func62, Tryd.ntmps62
  go_upto_region 2 with fail
  refine wp_world (fun X hX => ?_)
  have hB : Below w.heap.size w X := by rw [hX]; exact K.alloc (K.alloc (K.alloc (Below.refl _ _) _) _) _
  have hS : RowW X w.heap.size 8 s.w := by rw [hX]; exact (RowW.made w 67 8 s.w _ (aw8 s.w).symm).keep (K.alloc (K.alloc (Below.refl _ _) _) _)
  have hR : RowB X (w.heap.size + 1) 32 (fun _ => 0) := by
    rw [hX]
    have h := Row8.keep (RowB.made (w.alloc (.cells #[.int .u32 (wn (s.w 0)), .int .u32 (wn (s.w 1)), .int .u32 (wn (s.w 2)), .int .u32 (wn (s.w 3)), .int .u32 (wn (s.w 4)), .int .u32 (wn (s.w 5)), .int .u32 (wn (s.w 6)), .int .u32 (wn (s.w 7))] 67)) 24 32 (fun _ => 0) _ zeros32) (K.alloc (Below.refl _ _) (.cells (ab (fun _ => 0) 32).toArray 24))
    rw [← zeros32] at h
    show Row8 _ _ _ _
    simpa using h
  have hO : RowB X (w.heap.size + 1 + 1) 32 (hP s 0) := by
    rw [hX]
    have h := RowB.made ((w.alloc (.cells #[.int .u32 (wn (s.w 0)), .int .u32 (wn (s.w 1)), .int .u32 (wn (s.w 2)), .int .u32 (wn (s.w 3)), .int .u32 (wn (s.w 4)), .int .u32 (wn (s.w 5)), .int .u32 (wn (s.w 6)), .int .u32 (wn (s.w 7))] 67)).alloc (.cells (ab (fun _ => 0) 32).toArray 24)) 24 32 (fun _ => 0) _ zeros32
    rw [← zeros32] at h
    have h' := Row8.congr h (g := fun i => ((hP s 0 i : Nat) : Int)) (fun i _ => by unfold hP; rw [if_neg (by omega)])
    show Row8 _ _ _ _
    simpa using h'
  clear hX
  obtain ⟨b0, hb0⟩ : ∃ b0, w.heap.size = b0 := ⟨_, rfl⟩
  rw [hb0] at hB hS hR hO ⊢
  have HS := hide hS
  have HR := hide hR
  have HO := hide hO
  have HB := hide hB
  clear hS hR hO hB
  go_wp2_with fail
  go_loopg [5] 32 (fun g s5 wr => ∃ i : Nat, g = 32 - i ∧ i ≤ 32 ∧ s5 = .int .i64 i ∧ RowW wr b0 8 s.w ∧ RowB wr (b0 + 1) 32 (fun _ => 0) ∧ RowB wr (b0 + 1 + 1) 32 (hP s i) ∧ Below b0 w wr)
  case atStart => exact ⟨0, rfl, by omega, rfl, HS.out, HR.out, HO.out, HB.out⟩
  case round =>
    clear HS HR HO HB
    obtain ⟨i, rfl, hi, rfl, hS, hR, hO, hB⟩ := hrel
    by_cases hlt : i < 32
    · have hii : (i : Int) < 32 := by omega
      obtain ⟨j, hj⟩ : ∃ j, j = i / 4 := ⟨_, rfl⟩
      have cs := hS.c j (by omega)
      have co := hO.c i hlt
      have zo := hO.z i hlt
      have j1 : (i : Int) / 4 = (j : Int) := by omega
      have j2 : (i : Int).tdiv 4 = (j : Int) := by rw [Int.tdiv_eq_ediv_of_nonneg (by omega)]; omega
      have j3 : (j : Int) < 8 := by omega
      have j4 : IntKind.i64.wrap (j : Int) = (j : Int) := by rw [IntKind.wrap_i64]; omega
      have j5 : j < 8 := by omega
      obtain ⟨x, hx⟩ : ∃ x, x = s.w j := ⟨_, rfl⟩
      have HV : Hid (hByte s i = x.toNat / 256 ^ (3 - i % 4) % 256) := by show _ = _; unfold hByte; rw [hx, hj]
      rw [← hx] at cs
      have HS := hide hS
      have HR := hide hR
      have HO := hide hO
      have HB := hide hB
      have HI := hide hlt
      have hol := hO.lt
      have hlo := wn_nn x
      have hhi := wn_lt x
      clear hO hS hR hB hi hlt hx hj
      rcases (show i % 4 = 0 ∨ i % 4 = 1 ∨ i % 4 = 2 ∨ i % 4 = 3 by omega) with hr | hr | hr | hr
      · have hv : wn x / 16777216 % 256 = ((hByte s i : Nat) : Int) := by rw [HV.out, hr]; unfold wn; omega
        have hv2 : IntKind.u8.wrap (wn x / 16777216) = ((hByte s i : Nat) : Int) := by rw [IntKind.wrap_u8', hv]
        have hri : (i : Int) % 4 = 0 := by omega
        have hrt : (i : Int).tmod 4 = 0 := by rw [Int.tmod_eq_emod_of_nonneg (by omega)]; omega
        clear hr
        go_wp2_with fail
        go_roundg (32 - (i + 1))
        case measure => have := HI.out; omega
        case rel => exact ⟨i + 1, rfl, by have := HI.out; omega, by go_num, HS.out.other (by omega) i _, row8_other HR.out (by omega) i _, (Row8.store HO.out i HI.out _).congr (fun j hj => by
          unfold hP
          by_cases e : j = i
          · subst e; simp
          · simp only [if_neg e]; (repeat' split) <;> first | rfl | omega), by subst hb0; exact K.set HB.out (by show w.heap.size ≤ w.heap.size + 1 + 1; omega) _⟩
      · have hv : wn x / 65536 % 256 = ((hByte s i : Nat) : Int) := by rw [HV.out, hr]; unfold wn; omega
        have hv2 : IntKind.u8.wrap (wn x / 65536) = ((hByte s i : Nat) : Int) := by rw [IntKind.wrap_u8', hv]
        have hri : (i : Int) % 4 = 1 := by omega
        have hrt : (i : Int).tmod 4 = 1 := by rw [Int.tmod_eq_emod_of_nonneg (by omega)]; omega
        clear hr
        go_wp2_with fail
        go_roundg (32 - (i + 1))
        case measure => have := HI.out; omega
        case rel => exact ⟨i + 1, rfl, by have := HI.out; omega, by go_num, HS.out.other (by omega) i _, row8_other HR.out (by omega) i _, (Row8.store HO.out i HI.out _).congr (fun j hj => by
          unfold hP
          by_cases e : j = i
          · subst e; simp
          · simp only [if_neg e]; (repeat' split) <;> first | rfl | omega), by subst hb0; exact K.set HB.out (by show w.heap.size ≤ w.heap.size + 1 + 1; omega) _⟩
      · have hv : wn x / 256 % 256 = ((hByte s i : Nat) : Int) := by rw [HV.out, hr]; unfold wn; omega
        have hv2 : IntKind.u8.wrap (wn x / 256) = ((hByte s i : Nat) : Int) := by rw [IntKind.wrap_u8', hv]
        have hri : (i : Int) % 4 = 2 := by omega
        have hrt : (i : Int).tmod 4 = 2 := by rw [Int.tmod_eq_emod_of_nonneg (by omega)]; omega
        clear hr
        go_wp2_with fail
        go_roundg (32 - (i + 1))
        case measure => have := HI.out; omega
        case rel => exact ⟨i + 1, rfl, by have := HI.out; omega, by go_num, HS.out.other (by omega) i _, row8_other HR.out (by omega) i _, (Row8.store HO.out i HI.out _).congr (fun j hj => by
          unfold hP
          by_cases e : j = i
          · subst e; simp
          · simp only [if_neg e]; (repeat' split) <;> first | rfl | omega), by subst hb0; exact K.set HB.out (by show w.heap.size ≤ w.heap.size + 1 + 1; omega) _⟩
      · have hv : wn x % 256 = ((hByte s i : Nat) : Int) := by rw [HV.out, hr]; unfold wn; omega
        have hv2 : IntKind.u8.wrap (wn x) = ((hByte s i : Nat) : Int) := by rw [IntKind.wrap_u8', hv]
        have hri : (i : Int) % 4 = 3 := by omega
        have hrt : (i : Int).tmod 4 = 3 := by rw [Int.tmod_eq_emod_of_nonneg (by omega)]; omega
        clear hr
        go_wp2_with fail
        go_roundg (32 - (i + 1))
        case measure => have := HI.out; omega
        case rel => exact ⟨i + 1, rfl, by have := HI.out; omega, by go_num, HS.out.other (by omega) i _, row8_other HR.out (by omega) i _, (Row8.store HO.out i HI.out _).congr (fun j hj => by
          unfold hP
          by_cases e : j = i
          · subst e; simp
          · simp only [if_neg e]; (repeat' split) <;> first | rfl | omega), by subst hb0; exact K.set HB.out (by show w.heap.size ≤ w.heap.size + 1 + 1; omega) _⟩
    · obtain rfl : i = 32 := by omega
      have hO' : RowB wr (b0 + 1 + 1) 32 (hByte s) := Row8.congr hO (fun j hj => by unfold hP; rw [if_pos hj])
      have HRr := hide (RowB.range hO')
      have HTH := hide (RowB.there hR (hByte s))
      have HST := hide (RowB.stored hR (hByte s))
      have HB : Hid (Below b0 w (wr.setCells (b0 + 1) 0 (ab (hByte s) 32).toArray.toList)) := by subst hb0; exact below_setCells _ _ hB (by omega)
      clear hO hO' hS hR hB hi hlt
      go_upto_region 7 with fail
      go_wp2_with (refine wpList_load_mid rfl 24 _ rfl _ 0 rfl (ab (hByte s) 32) _ HRr.out Tryd.underlying24 rfl (ilH _) ?_; simp only [Act.put, List.setIfInBounds_toArray, List.set_cons_zero, List.set_cons_succ]; refine wpList_store_mid rfl 24 _ _ rfl (b0 + 1) 0 (ab (hByte s) 32).toArray rfl rfl HTH.out (inH _) (all_oneCell_toArray (ab_one _ _)) ?_; generalize wr.setCells (b0 + 1) 0 (ab (hByte s) 32).toArray.toList = X at HST HB ⊢)
      exact bodyPost_ret (results_cell_mid Tryd.results62 _ _ (b0 + 1) (ab (hByte s) 32) _ rfl (RowB.range HST.out) Tryd.underlying24 rfl (ilH _)) rfl ⟨rfl, by rw [hb0]; exact HB.out⟩
end Go.Proofs.YtpokecijongkpaaDoor
namespace Go.Proofs.YtpokecijongkpaaDoor
set_option maxRecDepth 100000
open Go.RowKit
attribute [local go_sem ↓] Go.wp_at_zero Go.wp_at_succ

def st0 : St := ⟨0, 0, 0, 0, 0, 0, 0, 0⟩
theorem zeroDig (w : World) : (zeroValue 72).run Tryd.prog w = .ok (.agg (dg st0 (fun _ => 0) 0).toArray) w :=
  (zero_of_info (P := Tryd.prog) (t := 72) (v := .agg (dg st0 (fun _ => 0) 0).toArray) (n := 73) (by kernel_rfl)).1 w
theorem infoDig : (Tryd.prog.info? 72).map (·.size) = some 73 := by kernel_rfl
theorem inDig (s : St) (r : Nat → Nat) (n : Nat) : (Tryd.prog.info? 72).map (·.size) = some (dg s r n).toArray.size := by rw [List.size_toArray, dg_len]; exact infoDig
theorem ilDig (s : St) (r : Nat → Nat) (n : Nat) : (Tryd.prog.info? 72).map (·.size) = some (dg s r n).length := by rw [dg_len]; exact infoDig
/-- What stands behind a message. -/
def endF (n i : Nat) : Nat := (endP n 8).getD i 0
theorem endF_lt (n i : Nat) : endF n i < 256 := by
  refine getD_lt (fun x hx => ?_) i
  simp only [endP, List.mem_cons, List.mem_append, List.mem_replicate] at hx
  rcases hx with rfl | ⟨_, rfl⟩ | hx
  · omega
  · omega
  · have hl : ∀ (k : Nat), ∀ y ∈ lenB n k, y < 256 := fun k => by
      induction k with
      | zero => intro y hy; simp [lenB] at hy
      | succ k ih =>
        intro y hy
        simp only [lenB, List.mem_append, List.mem_singleton] at hy
        rcases hy with hy | rfl
        · exact ih y hy
        · exact Nat.mod_lt _ (by omega)
    exact hl 8 x hx
theorem cat_end (f : Nat → Nat) (n i : Nat) (h : i < padLen n) : cat f n (endF n) i = pad f n i := by
  rw [← padL_at f n i h]
  unfold cat endF
  have e : padL f n = fl f n ++ endP n 8 := by unfold padL endP; simp
  rw [e]
  by_cases h1 : i < n
  · rw [if_pos h1, List.getD_eq_getElem?_getD, List.getElem?_append_left (by rw [fl_len]; exact h1), fl_at f h1]; rfl
  · rw [if_neg h1, List.getD_eq_getElem?_getD, List.getD_eq_getElem?_getD, List.getElem?_append_right (by rw [fl_len]; omega), fl_len]
theorem hash_end (f : Nat → Nat) (n : Nat) : hs (cat f n (endF n)) (padLen n / 64) = hashS f n := by
  unfold hashS
  have := zs_eq n
  exact hs_congr _ (fun i hi => cat_end f n i (by omega))
theorem BA.block {w : World} {x : Option Addr} {m : Nat} {g : Nat → Nat} (h : BA w x m g) (hm : 0 < m) : ∀ p, x = some p → p.block < w.heap.size := by
  intro p hp
  rcases h.at_ with h0 | ⟨b, o, e, hr⟩
  · omega
  · rw [hp] at e
    obtain rfl := Option.some.inj e
    exact lt_of_cell (hr.c 0 hm)
theorem Tab.lt {w : World} (h : Tab w) : 4 ≤ w.heap.size := lt_of_cell (h.k 0 (by omega))
set_option maxRecDepth 100000 in
set_option maxHeartbeats 8000000 in
theorem dsum_any {w : World} {b n : Nat} {f : Nat → Nat} (hT : Tab w) (hD : Dig w b f n) (hn : n ≤ 800000) :
    Calls Tryd.prog 47 #[.pointer (some ⟨b, 0, none⟩)] w fun e w' => e = .returned (.agg (ab (hByte (hashS f n)) 32).toArray) ∧ Below w.heap.size w w' := by
  have HT := hide hT
  have HL := hide hT.lt
  obtain ⟨s, r, hR, hs⟩ := hD
  have HD := hide hR
  have HS := hide hs
  have HN := hide hn
  clear hT hR hs hn
  have zD := fun W => zeroDig W
  go_enter Tryd.func47, Tryd.ntmps47
  go_upto_region 2 with fail
  refine wp_world (fun X hX => ?_)
  have hB : Below w.heap.size w X := by rw [hX]; exact K.alloc (K.alloc (Below.refl _ _) _) _
  have hH : RowB X w.heap.size 32 (fun _ => 0) := by
    rw [hX]
    have h := Row8.keep (RowB.made w 24 32 (fun _ => 0) _ zeros32) (K.alloc (Below.refl _ _) (.cells (dg st0 (fun _ => 0) 0).toArray 72))
    exact h
  have hZ : DigR X (w.heap.size + 1) st0 (fun _ => 0) 0 := by
    rw [hX]
    have h := DigR.made (w.alloc (.cells (ab (fun _ => 0) 32).toArray 24)) 72 st0 (fun _ => 0) 0 _ rfl
    rw [← zeros32] at h
    have e : ∀ o, (w.alloc o).heap.size = w.heap.size + 1 := fun o => by simp
    rw [e] at h
    exact h
  clear hX zD
  have HD := hide (HD.out.keep hB)
  have HT := hide (HT.out.keep hB)
  obtain ⟨b0, hb0⟩ : ∃ b0, w.heap.size = b0 := ⟨_, rfl⟩
  rw [hb0] at hB hH hZ HL ⊢
  have HH := hide hH
  have HZ := hide hZ
  have HB := hide hB
  have HZs := hide (And.intro hZ.lt hH.lt)
  clear hH hZ hB
  have HRg := hide HD.out.range
  have HTH : Hid (X.there (b0 + 1) 0 (dg s r n).toArray.size) := by
    have h := HZ.out.there 0 73 (by omega)
    rw [List.size_toArray, dg_len]
    exact h
  have HST := hide (HZ.out.stored s r n)
  have HG := hide (grown_sets (b0 + 1) (dg s r n) 0 X)
  go_upto_region 4 with (first
    | (refine wpList_load_mid rfl 72 _ rfl _ 0 rfl (dg s r n) _ HRg.out Tryd.underlying72 rfl (ilDig _ _ _) ?_; simp only [Act.put, List.setIfInBounds_toArray, List.set_cons_zero, List.set_cons_succ])
    | (refine wpList_store_mid rfl 72 _ _ rfl (b0 + 1) 0 (dg s r n).toArray rfl rfl HTH.out (inDig _ _ _) (all_oneCell_toArray (dg_one _ _ _)) ?_; generalize X.setCells (b0 + 1) 0 (dg s r n).toArray.toList = Y at HST HG ⊢))
  have HDq : Hid (Dig Y (b0 + 1) f n) := ⟨s, r, HST.out, HS.out⟩
  have sz := HST.out.sz
  have HTq := hide (HT.out.kept HG.out (by have := HL.out; omega))
  have HHq : Hid (RowB Y b0 32 (fun _ => 0)) := ⟨Nat.lt_of_lt_of_le HZs.out.2 HG.out.size, fun i hi => HG.out.cell (HH.out.c i hi) (by simp), fun i hi => by
    rw [World.frozen?_of_block (w := X) (HG.out.block b0 HZs.out.2 (by simp))]; exact HH.out.z i hi⟩
  have HBq : Hid (Below b0 w Y) := HB.out.grown HG.out (by have := HZs.out; omega) (fun k hk => by cases hk; omega)
  clear HRg HTH HST HG HD HS HT HH HB HZ
  go_wp2_with fail
  with_reducible refine Calls.mono (ending_any n (by have := HN.out; omega) Y) ?_
  rintro e W1 ⟨v, rfl, hO, hb⟩
  obtain ⟨g, cap, rfl, hg, hr⟩ := own_rd (f := fun i => ((endF n i : Nat) : Int)) hO (fun j hj => by rw [cells8_at _ j (by rw [endP_len]; exact hj)]; rfl) (by omega)
  have hcap := own_cap hO
  have hcm : cap ≤ maxLen := by
    rcases hO.2 with ⟨h, _⟩ | ⟨_, _, _, h, _, _, _, hm, _⟩
    · cases h
    · cases h; exact hm
  have hBA : BA W1 (some ⟨g, 0, none⟩) (1 + zs n + 8) (endF n) := ⟨endF_lt n, Or.inr ⟨g, 0, rfl, hr.rd⟩⟩
  have hT1 := HTq.out.keep hb
  have hD1 := HDq.out.keep hb
  have hH1 := Row8.keep HHq.out hb
  have hB1 : Below b0 w W1 := by subst hb0; exact K.call HBq.out hb
  have hYl : b0 + 1 < Y.heap.size := lt_of_cell sz
  have hz := zs_eq n
  have hzl : 1 + zs n + 8 ≤ 100 := by unfold zs padLen; omega
  have HW := hide (write_any (c := cap) hT1 (by have := HL.out; omega) hBA (fun _ p hp => by cases hp; show g ≠ b0 + 1; omega) hcap hcm hD1 (by have := HN.out; omega))
  clear hO hb hr hBA hcap hcm hT1 hD1 HTq HDq HHq HBq sz
  go_wp2_with fail
  with_reducible refine Calls.mono HW.out ?_
  rintro e W2 ⟨⟨v, rfl⟩, hD2, hG2⟩
  have hH2 : RowB W2 b0 32 (fun _ => 0) := ⟨Nat.lt_of_lt_of_le hH1.lt hG2.size, fun i hi => hG2.cell (hH1.c i hi) (by simp), fun i hi => by
    rw [World.frozen?_of_block (w := W1) (hG2.block b0 hH1.lt (by simp))]; exact hH1.z i hi⟩
  have hB2 : Below b0 w W2 := hB1.grown hG2 (by have := hH1.lt; omega) (fun k hk => by cases hk; omega)
  obtain ⟨s2, r2, hR2, hs2, _⟩ := hD2
  have e2 : n + (1 + zs n + 8) = padLen n := by omega
  rw [e2] at hs2
  have hs3 : s2 = hashS f n := by
    rcases hs2 with h | h
    · omega
    · rw [h, hash_end]
  have HRg := hide hR2.rangeSt
  have HH := hide hH2
  have HB := hide hB2
  have HS3 := hide hs3
  clear hG2 hB1 hH1 hR2 hs2 hs3 hH2 hB2 HW
  go_wp2_with (refine wpList_load_mid rfl 67 _ rfl _ 0 rfl (aw s2.w 8) _ HRg.out Tryd.underlying67 rfl (ilSt _) ?_; simp only [Act.put, List.setIfInBounds_toArray, List.set_cons_zero, List.set_cons_succ])
  with_reducible refine Calls.mono (hash_any s2 W2) ?_
  rintro e W3 ⟨rfl, hb⟩
  have hH3 := Row8.keep HH.out hb
  have hB3 : Below b0 w W3 := by subst hb0; exact K.call HB.out hb
  have HTH := hide (RowB.there hH3 (hByte s2))
  have HST := hide (RowB.stored hH3 (hByte s2))
  have HB : Hid (Below b0 w (W3.setCells b0 0 (ab (hByte s2) 32).toArray.toList)) := by subst hb0; exact below_setCells _ _ hB3 (Nat.le_refl _)
  clear hb hH3 hB3 HH HRg
  go_wp2_with (refine wpList_store_mid rfl 24 _ _ rfl b0 0 (ab (hByte s2) 32).toArray rfl rfl HTH.out (inH _) (all_oneCell_toArray (ab_one _ _)) ?_; generalize W3.setCells b0 0 (ab (hByte s2) 32).toArray.toList = Z at HST HB ⊢)
  refine bodyPost_ret (results_cell_mid Tryd.results47 _ _ b0 (ab (hByte s2) 32) _ rfl (RowB.range HST.out) Tryd.underlying24 rfl (ilH _)) rfl ⟨?_, by rw [hb0]; exact HB.out⟩
  rw [HS3.out]
end Go.Proofs.YtpokecijongkpaaDoor
namespace Go.Proofs.YtpokecijongkpaaDoor
set_option maxRecDepth 100000
open Go.RowKit
attribute [local go_sem ↓] Go.wp_at_zero Go.wp_at_succ

/-- A list of parts in memory. -/
structure PL (w : World) (x : Option Addr) (k : Nat) (A : Nat → Option Addr) (L C : Nat → Nat) (G : Nat → Nat → Nat) : Prop where
  ba : ∀ i, i < k → BA w (A i) (L i) (G i)
  cp : ∀ i, i < k → L i ≤ C i ∧ C i ≤ maxLen
  at_ : k = 0 ∨ ∃ b o, x = some ⟨b, o, none⟩ ∧ ∀ i, i < k → w.cell? ⟨b, o + i, none⟩ = some (.slice (A i) (L i) (C i))
theorem PL.keep {W w1 : World} {x : Option Addr} {k : Nat} {A : Nat → Option Addr} {L C : Nat → Nat} {G : Nat → Nat → Nat} (h : PL W x k A L C G) (hb : Below W.heap.size W w1) : PL w1 x k A L C G :=
  ⟨fun i hi => (h.ba i hi).keep hb, h.cp, h.at_.elim Or.inl fun ⟨b, o, e, hc⟩ => Or.inr ⟨b, o, e, fun i hi => later hb (hc i hi)⟩⟩
def lenF (L : Nat → Nat) : Nat → Nat
  | 0 => 0
  | i + 1 => lenF L i + L i
def catF (L : Nat → Nat) (G : Nat → Nat → Nat) : Nat → Nat → Nat
  | 0 => fun _ => 0
  | i + 1 => cat (catF L G i) (lenF L i) (G i)
theorem lenF_mono (L : Nat → Nat) {i k : Nat} (h : i ≤ k) : lenF L i ≤ lenF L k := by
  induction k with
  | zero => obtain rfl : i = 0 := by omega
            exact Nat.le_refl _
  | succ k ih =>
    by_cases e : i = k + 1
    · rw [e]; exact Nat.le_refl _
    · have := ih (by omega)
      simp only [lenF]
      omega
set_option maxRecDepth 100000 in
set_option maxHeartbeats 8000000 in
theorem sum_any {w : World} {x : Option Addr} {k c : Nat} {A : Nat → Option Addr} {L C : Nat → Nat} {G : Nat → Nat → Nat} (hT : Tab w) (hP : PL w x k A L C G) (hk : k ≤ 1000000) (hl : lenF L k ≤ 800000) :
    Calls Tryd.prog 31 #[.slice x k c] w fun e w' => e = .returned (.agg (ab (hByte (hashS (catF L G k) (lenF L k))) 32).toArray) ∧ Below w.heap.size w w' := by
  have HT := hide hT
  have HL := hide hT.lt
  have HP := hide hP
  have HN := hide hl
  have hki : (k : Int) ≤ 1000000 := by omega
  clear hT hP hl
  have zD := fun W => zeroDig W
  go_enter Tryd.func31, Tryd.ntmps31
  go_upto_region 2 with fail
  refine wp_world (fun X hX => ?_)
  have hB : Below w.heap.size w X := by rw [hX]; exact K.alloc (K.alloc (Below.refl _ _) _) _
  have hH : RowB X w.heap.size 32 (fun _ => 0) := by
    rw [hX]
    have h := Row8.keep (RowB.made w 24 32 (fun _ => 0) _ zeros32) (K.alloc (Below.refl _ _) (.cells (dg st0 (fun _ => 0) 0).toArray 72))
    exact h
  have hZ : DigR X (w.heap.size + 1) st0 (fun _ => 0) 0 := by
    rw [hX]
    have h := DigR.made (w.alloc (.cells (ab (fun _ => 0) 32).toArray 24)) 72 st0 (fun _ => 0) 0 _ rfl
    rw [← zeros32] at h
    have e : ∀ o, (w.alloc o).heap.size = w.heap.size + 1 := fun o => by simp
    rw [e] at h
    exact h
  clear hX zD
  obtain ⟨b0, hb0⟩ : ∃ b0, w.heap.size = b0 := ⟨_, rfl⟩
  rw [hb0] at hB hH hZ HL ⊢
  have HH := hide hH
  have HZ := hide hZ
  have HB := hide hB
  clear hH hZ hB
  go_wp2_with fail
  go_loopg [8] k (fun g s8 wr => ∃ i : Nat, g = k - i ∧ i ≤ k ∧ s8 = .int .i64 i ∧ Dig wr (b0 + 1) (catF L G i) (lenF L i) ∧ RowB wr b0 32 (fun _ => 0) ∧ Below b0 w wr)
  case atStart => exact ⟨0, rfl, by omega, rfl, ⟨st0, fun _ => 0, HZ.out, Or.inl rfl, fun _ => by show 0 < 256; omega, fun i hi => by simp only [lenF] at hi; omega⟩, HH.out, HB.out⟩
  case round =>
    clear HH HZ HB
    obtain ⟨i, rfl, hi, rfl, hD, hH, hB⟩ := hrel
    have hB' : Below w.heap.size w wr := by rw [hb0]; exact hB
    have HT1 := hide (HT.out.keep hB')
    have HP1 := hide (HP.out.keep hB')
    clear hB'
    by_cases hlt : i < k
    · rcases HP1.out.at_ with h0 | ⟨pb, po, rfl, hc⟩
      · omega
      have ci := hc i hlt
      have hii : (i : Int) < (k : Int) := by omega
      have hcp := HP1.out.cp i hlt
      have hln : lenF L i + L i ≤ 800000 := by
        have h1 := HN.out
        have h2 : lenF L (i + 1) ≤ lenF L k := lenF_mono L hlt
        simp only [lenF] at h2
        omega
      have hDl : b0 + 1 < wr.heap.size := by obtain ⟨s, r, h, _⟩ := hD; exact h.lt
      have HW := hide (write_any (c := C i) HT1.out (by have := HL.out; omega) (HP1.out.ba i hlt) (fun hm p hp => by
        have h1 := (HP.out.ba i hlt).block hm p hp
        omega) hcp.1 hcp.2 hD (by omega))
      have HH := hide hH
      have HB := hide hB
      have HI := hide (And.intro hlt hDl)
      clear hc hcp hD hH hB hi hln hDl hlt
      go_wp2_with fail
      with_reducible refine Calls.mono HW.out ?_
      rintro e W2 ⟨⟨v, rfl⟩, hD2, hG2⟩
      have hH2 : RowB W2 b0 32 (fun _ => 0) := ⟨Nat.lt_of_lt_of_le HH.out.lt hG2.size, fun i hi => hG2.cell (HH.out.c i hi) (by simp), fun i hi => by
        rw [World.frozen?_of_block (w := wr) (hG2.block b0 HH.out.lt (by simp))]; exact HH.out.z i hi⟩
      have hB2 : Below b0 w W2 := HB.out.grown hG2 (by have := HI.out; omega) (fun k hk => by cases hk; omega)
      clear HW HH HB ci hG2
      go_wp2_with fail
      go_roundg (k - (i + 1))
      case measure => have := HI.out; omega
      case rel => exact ⟨i + 1, rfl, by have := HI.out; omega, by go_num, hD2, hH2, hB2⟩
    · obtain rfl : i = k := by omega
      have HS := hide (dsum_any HT1.out hD HN.out)
      have HH := hide hH
      have HB := hide hB
      clear hD hH hB hi hlt
      go_wp2_with fail
      with_reducible refine Calls.mono HS.out ?_
      rintro e W3 ⟨rfl, hb⟩
      have hH3 := Row8.keep HH.out hb
      have hB3 : Below b0 w W3 := by subst hb0; exact K.call HB.out hb
      have HTH := hide (RowB.there hH3 (hByte (hashS (catF L G i) (lenF L i))))
      have HST := hide (RowB.stored hH3 (hByte (hashS (catF L G i) (lenF L i))))
      have HB : Hid (Below b0 w (W3.setCells b0 0 (ab (hByte (hashS (catF L G i) (lenF L i))) 32).toArray.toList)) := by subst hb0; exact below_setCells _ _ hB3 (Nat.le_refl _)
      clear hb hH3 hB3 HH HS
      generalize hs2 : hashS (catF L G i) (lenF L i) = s2 at HTH HST HB ⊢
      have HS2 := hide hs2
      clear hs2
      go_wp2_with (refine wpList_store_mid rfl 24 _ _ rfl b0 0 (ab (hByte s2) 32).toArray rfl rfl HTH.out (inH _) (all_oneCell_toArray (ab_one _ _)) ?_; generalize W3.setCells b0 0 (ab (hByte s2) 32).toArray.toList = Z at HST HB ⊢)
      exact bodyPost_ret (results_cell_mid Tryd.results31 _ _ b0 (ab (hByte s2) 32) _ rfl (RowB.range HST.out) Tryd.underlying24 rfl (ilH _)) rfl ⟨by rw [HS2.out], by rw [hb0]; exact HB.out⟩
end Go.Proofs.YtpokecijongkpaaDoor
