/- Layer 13: DiskPlays. -/
import Derived.Test.YtmifmgnlfjahmaaR13G
namespace Go.Proofs.Ytmifmgnlfjahmaa
open Go.RowKit Go.Maps
attribute [local go_sem ↓] Go.wp_at_zero Go.wp_at_succ

theorem wp_loadB {op : Oper} {a : Act} {w : World} {Kt : Act → World → Prop} {Q : Exit → Act → World → Prop} {x : Operand} {g o : Nat} {v : Bool} (ho : op.op = .load 4 x) (hx : a.eval x = .pointer (some ⟨g, o, none⟩))
    (hc : w.cell? ⟨g, o, none⟩ = some (.bool v)) (h : Kt (a.put op.dst (.bool v)) w) : Oper.wp Try.prog op a w Kt Q := by
  unfold Oper.wp execOp
  simp only [ho, hx]
  go_simp
  exact h
/-- The disk behind the first i calls. -/
def pl (k : Nat) (O : Nat → OpV) : Nat → DM
  | 0 => DM.new k
  | i + 1 => (pl k O i).dof (O i)
def PlS (w wr : World) (b lb mb r la na cl cn : Nat) (zl zn : Option Addr) (D : DM) : Prop := ∃ G, TwR w wr b lb mb r la na cl cn zl zn D D G
theorem rd_ok (w : World) {s : Int} (h1 : -1 ≤ s) (h2 : s ≤ 1000) : OpV.ok w ⟨5, s, none, 0, 0, fun _ => 0, none, [], 0, 0, 0⟩ :=
  ⟨⟨by show (_ : Int) ≤ 5; omega, by show (5 : Int) < _; omega⟩, ⟨by show (_ : Int) ≤ s; omega, by show s < (_ : Int); omega⟩, ba_zero _ _, Or.inl rfl, ⟨by show (_ : Int) ≤ 0; omega, by show (0 : Int) < _; omega⟩, ⟨by show (_ : Int) ≤ 0; omega, by show (0 : Int) < _; omega⟩⟩
theorem rd_dof (D : DM) (s : Int) : D.dof ⟨5, s, none, 0, 0, fun _ => 0, none, [], 0, 0, 0⟩ = D := rfl
set_option maxRecDepth 100000 in
set_option maxHeartbeats 8000000 in
theorem diskPlays_any {u : Nat} (hu : u < 256) {z : Option Addr} {m c : Nat} {O : Nat → OpV} {w : World} (hO : OpsAt w z m O) :
    Calls Try.prog 3 #[.int .u8 (u : Int), .slice z m c] w (OkT w) := by
  have HO := hide hO
  obtain ⟨k, hk⟩ : ∃ k : Nat, k = u % 41 := ⟨_, rfl⟩
  clear hO
  go_enter Try.func3, Try.ntmps3
  go_upto_region 3 with (first
    | (go_at_call 8; refine Calls.mono (awake_any _) ?_; rintro e W2 ⟨rfl, hB2⟩; have HO2 := hide (HO.out.keep hB2); have HB2 := hide hB2; clear hB2)
    | (go_at_call 9; refine Calls.mono (few_any HO2.out) ?_; rintro e W3 ⟨r0, rfl, rfl, hr⟩; replace hr := hide hr)
    | (go_at_call 8; refine Calls.mono (awake_any _) ?_; rintro e W4 ⟨rfl, hB4⟩))
  all_goals first | (go_ret; exact ⟨rfl, K.call HB2.out hB4⟩) | skip
  have hr0 : (!r0) = false := by assumption
  obtain ⟨hm100, hops⟩ := hr.out (by simpa using hr0)
  clear hr0
  have HKu : Hid (k ≤ 40) := by show _ ≤ _; omega
  have HM := hide (And.intro hm100 hops)
  clear hr hops HO
  go_upto_region 4 with fail
  rw [show ((u : Int) % 41) = (k : Int) by omega]
  clear hk hu
  go_wp2_with (first
    | (go_at_call 10; refine Calls.mono (new_any (n := k) (by have := HKu.out; omega) _) ?_; rintro e W4 ⟨b, lb, mb, rfl, hD, h1, h2, h3, hB⟩; have HR := hide (FzR.mk hD h1 h2 h3 hB); clear hD h1 h2 h3 hB)
    | (go_at_call 11; refine Calls.mono (ref_new (n := k) (by have := HKu.out; omega) _) ?_; rintro e W5 ⟨r, la, na, cl, cn, zl, zn, G, rfl, hR, hB5, hG⟩; have HT : Hid (PlS W3 W5 b lb mb r la na cl cn zl zn (.new k)) := ⟨G, HR.out.grow hB5, hR, fun q hq => ⟨Nat.le_trans HR.out.k.size (hG q hq), HR.out.out (hG q hq)⟩⟩; clear hR hB5 hG)
    | (go_at_call 12; refine Calls.mono (size_any HT.out.choose_spec.f.d) ?_; rw [show (DM.new k).n = k from rfl]; rintro e W6 ⟨rfl, rfl⟩))
  go_loopg [9] m (fun g' s9 wr => ∃ i : Nat, g' = m - i ∧ i ≤ m ∧ s9 = .int .i64 (i : Int) ∧ PlS W3 wr b lb mb r la na cl cn zl zn (pl k O i))
  case atStart => exact ⟨0, rfl, Nat.zero_le _, rfl, HT.out⟩
  case round =>
    clear HT HR
    obtain ⟨i, rfl, hi, rfl, G, hT⟩ := hrel
    have HT := hide hT
    clear hT
    by_cases hlt : i < m
    · obtain ⟨pb, po, rfl, hpc⟩ := HO2.out.cells (by omega)
      have HPC : Hid (wr.drew.rangeAt pb (po + i * 6) (O i).cells) := fun j v hv => later (K.drew HT.out.f.k) (hpc i hlt j v hv)
      have HP3 := hide (hpc i hlt)
      have HOk := hide (HO2.out.r i hlt)
      have hlt' : (i : Int) < (m : Int) := by omega
      have hm4 := HM.out.1
      have HTd := hide (HT.out.grow (K.drew (Below.refl _ wr)))
      have HCo := hide (do_any HTd.out HOk.out)
      obtain ⟨DD, hDD⟩ : ∃ DD, DD = (pl k O i).dof (O i) := ⟨_, rfl⟩
      rw [← hDD] at HCo
      have HDD : Hid (DD = pl k O (i + 1)) := hDD
      clear hpc hDD
      go_upto_region 11 with fail
      refine wp_region_noPanic ?_
      refine wp_region_held_drew (S := fun w' => w'.rangeAt pb (po + i * 6) (O i).cells) (by kernel_rfl) HPC.out (fun hS0 => ?_)
      refine wpAnyH_take (i := 0) (v := pp b) rfl (by kernel_rfl) (by kernel_rfl) (by kernel_rfl) (fun _ _ _ h => h) (Or.inl ⟨by rfl, fun w' _ => by go_simp⟩) hS0 ?_
      simp only [Act.put, List.getElem_toArray, List.getElem_cons_zero, List.setIfInBounds_toArray, List.set_cons_zero, List.set_cons_succ]
      refine wpAnyH_take (i := 1) (v := pp r) rfl (by kernel_rfl) (by kernel_rfl) (by kernel_rfl) (fun _ _ _ h => h) (Or.inl ⟨by rfl, fun w' _ => by go_simp⟩) hS0 ?_
      simp only [Act.put, List.getElem_toArray, List.getElem_cons_zero, List.getElem_cons_succ, List.setIfInBounds_toArray, List.set_cons_zero, List.set_cons_succ]
      refine wpAnyH_take (i := 2) (v := .slice (some ⟨pb, po, none⟩) m c) rfl (by kernel_rfl) (by kernel_rfl) (by kernel_rfl) (fun _ _ _ h => h) (Or.inl ⟨by rfl, fun w' _ => by go_simp⟩) hS0 ?_
      simp only [Act.put, List.getElem_toArray, List.getElem_cons_zero, List.getElem_cons_succ, List.setIfInBounds_toArray, List.set_cons_zero, List.set_cons_succ]
      refine wpAnyH_take (i := 3) (v := .int .i64 (i : Int)) rfl (by kernel_rfl) (by kernel_rfl) (by kernel_rfl) (fun _ _ _ h => h) (Or.inl ⟨by rfl, fun w' _ => by go_simp⟩) hS0 ?_
      simp only [Act.put, List.getElem_toArray, List.getElem_cons_zero, List.getElem_cons_succ, List.setIfInBounds_toArray, List.set_cons_zero, List.set_cons_succ]
      refine wpAnyH_take (i := 4) (v := .pointer (some ⟨pb, po + i * 6, none⟩)) rfl (by kernel_rfl) (by kernel_rfl) (by kernel_rfl) (fun _ _ _ h => h) (Or.inl ⟨by rfl, fun w' _ => by go_simp⟩) hS0 ?_
      simp only [Act.put, List.getElem_toArray, List.getElem_cons_zero, List.getElem_cons_succ, List.setIfInBounds_toArray, List.set_cons_zero, List.set_cons_succ]
      refine wpAnyH_take (i := 5) (v := .agg (O i).cells.toArray) rfl (by kernel_rfl) (by kernel_rfl) (by kernel_rfl) (fun _ _ _ h => h) (yieldsIf_load_mid (by rfl) 38 _ rfl pb (po + i * 6) (by rfl) ((O i).cells) _ (fun w' hS => hS) Try.underlying38 rfl sizeOp) hS0 ?_
      simp only [Act.put, List.getElem_toArray, List.getElem_cons_zero, List.getElem_cons_succ, List.setIfInBounds_toArray, List.set_cons_zero, List.set_cons_succ]
      refine wpAnyH_ready (rs := [6]) (by kernel_rfl) (by simp) (AllReadyH.cons rfl (fun Kt hK => ?_) AllReadyH.nil)
      refine wanted_pos rfl ?_
      refine wp_call (R := fun x w' => DoP W3 b lb mb r la na cl cn zl zn DD (.returned x) w') (vs := #[pp b, pp r, .agg (O i).cells.toArray]) rfl (by simp only [List.map_toArray, List.map_cons, List.map_nil]; rfl) (by go_simp) (Calls.mono HCo.out (fun e w' he => ⟨_, he.1, rfl, he.2⟩)) (fun x W6 hr => ?_)
      obtain ⟨ex, G6, hT6⟩ := hr
      cases ex
      have HT6 : Hid (PlS W3 W6 b lb mb r la na cl cn zl zn DD) := ⟨G6, hT6⟩
      have hS6 : W6.rangeAt pb (po + i * 6) (O i).cells := fun j v hv => later hT6.f.k (HP3.out j v hv)
      have HCd := hide (down_any hT6.f.d)
      have HC3 := hide hT6.g.c3
      refine hK.out _ _ hS6 (fun _ => ?_)
      clear hK Kt hT6 HCo HTd HT
      simp only [Act.put, List.getElem_toArray, List.getElem_cons_zero, List.getElem_cons_succ, List.setIfInBounds_toArray, List.set_cons_zero, List.set_cons_succ]
      refine wpAnyH_take (i := 7) (v := .bool false) rfl (by kernel_rfl) (by kernel_rfl) (by kernel_rfl) (fun _ _ _ h => h) (Or.inl ⟨by rfl, fun w' _ => by go_simp⟩) hS6 ?_
      simp only [Act.put, List.getElem_toArray, List.getElem_cons_zero, List.getElem_cons_succ, List.setIfInBounds_toArray, List.set_cons_zero, List.set_cons_succ]
      refine wpAnyH_take (i := 8) (v := .bool false) rfl (by kernel_rfl) (by kernel_rfl) (by kernel_rfl) (fun _ _ _ h => h) (Or.inl ⟨by rfl, fun w' _ => by go_simp⟩) hS6 ?_
      simp only [Act.put, List.getElem_toArray, List.getElem_cons_zero, List.getElem_cons_succ, List.setIfInBounds_toArray, List.set_cons_zero, List.set_cons_succ]
      refine wpAnyH_take (i := 9) (v := pp b) rfl (by kernel_rfl) (by kernel_rfl) (by kernel_rfl) (fun _ _ _ h => h) (Or.inl ⟨by rfl, fun w' _ => by go_simp⟩) hS6 ?_
      simp only [Act.put, List.getElem_toArray, List.getElem_cons_zero, List.getElem_cons_succ, List.setIfInBounds_toArray, List.set_cons_zero, List.set_cons_succ]
      refine wpAnyH_take (i := 11) (v := pp r) rfl (by kernel_rfl) (by kernel_rfl) (by kernel_rfl) (fun _ _ _ h => h) (Or.inl ⟨by rfl, fun w' _ => by go_simp⟩) hS6 ?_
      simp only [Act.put, List.getElem_toArray, List.getElem_cons_zero, List.getElem_cons_succ, List.setIfInBounds_toArray, List.set_cons_zero, List.set_cons_succ]
      refine wpAnyH_take (i := 12) (v := pp r) rfl (by kernel_rfl) (by kernel_rfl) (by kernel_rfl) (fun _ _ _ h => h) (Or.inl ⟨by rfl, fun w' _ => by go_simp⟩) hS6 ?_
      simp only [Act.put, List.getElem_toArray, List.getElem_cons_zero, List.getElem_cons_succ, List.setIfInBounds_toArray, List.set_cons_zero, List.set_cons_succ]
      refine wpAnyH_take (i := 13) (v := .pointer (some ⟨r, 3, none⟩)) rfl (by kernel_rfl) (by kernel_rfl) (by kernel_rfl) (fun _ _ _ h => h) (Or.inl ⟨by rfl, fun w' _ => by go_simp⟩) hS6 ?_
      simp only [Act.put, List.getElem_toArray, List.getElem_cons_zero, List.getElem_cons_succ, List.setIfInBounds_toArray, List.set_cons_zero, List.set_cons_succ]
      refine wpAnyH_ready (rs := [10, 14]) (by kernel_rfl) (by simp) (AllReadyH.cons rfl (fun Kt hK => ?_) (AllReadyH.cons rfl (fun Kt hK => ?_) AllReadyH.nil))
      · refine wanted_pos rfl ?_
        refine wp_call (R := fun x w' => x = .bool DD.dn ∧ w' = W6) (vs := #[pp b]) rfl (by simp only [List.map_toArray, List.map_cons, List.map_nil]; rfl) (by go_simp) (Calls.mono HCd.out (fun e w' he => ⟨_, he.1, rfl, he.2⟩)) (fun x W7 hr => ?_)
        obtain ⟨rfl, rfl⟩ := hr
        refine hK.out _ _ hS6 (fun _ => ?_)
        clear hK Kt
        simp only [Act.put, List.getElem_toArray, List.getElem_cons_zero, List.getElem_cons_succ, List.setIfInBounds_toArray, List.set_cons_zero, List.set_cons_succ]
        refine wpAnyH_ready (rs := [14]) (by kernel_rfl) (by simp) (AllReadyH.cons rfl (fun Kt hK => ?_) AllReadyH.nil)
        refine wanted_pos rfl ?_
        refine wp_loadB rfl (by rfl) HC3.out (hK.out _ _ hS6 (fun _ => ?_))
        clear hK Kt
        simp only [Act.put, List.getElem_toArray, List.getElem_cons_zero, List.getElem_cons_succ, List.setIfInBounds_toArray, List.set_cons_zero, List.set_cons_succ]
        refine wpAnyH_take (i := 15) (v := .bool false) rfl (by kernel_rfl) (by kernel_rfl) (by kernel_rfl) (fun _ _ _ h => h) (Or.inl ⟨by rfl, fun w' _ => by go_simp⟩) hS6 ?_
        simp only [Act.put, List.getElem_toArray, List.getElem_cons_zero, List.getElem_cons_succ, List.setIfInBounds_toArray, List.set_cons_zero, List.set_cons_succ]
        refine wpAnyH_take (i := 16) (v := .bool false) rfl (by kernel_rfl) (by kernel_rfl) (by kernel_rfl) (fun _ _ _ h => h) (Or.inl ⟨by rfl, fun w' _ => by go_simp⟩) hS6 ?_
        simp only [Act.put, List.getElem_toArray, List.getElem_cons_zero, List.getElem_cons_succ, List.setIfInBounds_toArray, List.set_cons_zero, List.set_cons_succ]
        refine wpAnyH_done (by kernel_rfl) ?_ _
        refine NoPanic.normal ?_
        clear hS0 hS6 HCd HC3 HPC
        go_wp2_with fail
        go_loopg [10] (k + 2) (fun g' s10 wr => ∃ s : Nat, g' = k + 2 - s ∧ s ≤ k + 2 ∧ s10 = .int .i64 ((s : Int) - 1) ∧ PlS W3 wr b lb mb r la na cl cn zl zn DD)
        case atStart => exact ⟨0, rfl, Nat.zero_le _, rfl, HT6.out⟩
        case round =>
          obtain ⟨s, rfl, hs, rfl, GG, hTT⟩ := hrel
          have HTT := hide hTT
          clear hTT
          by_cases hls : s < k + 2
          · have hls' : (s : Int) - 1 ≤ (k : Int) := by omega
            go_wp2_with (go_at_call 13; refine Calls.mono (do_any (o := ⟨5, (s : Int) - 1, none, 0, 0, fun _ => 0, none, [], 0, 0, 0⟩) HTT.out (rd_ok W3 (by omega) (by have := HKu.out; omega))) ?_; rintro e W8 ⟨rfl, G8, hT8⟩; rw [rd_dof] at hT8; replace hT8 := hide hT8)
            go_roundg (k + 2 - (s + 1))
            case measure => omega
            case rel => exact ⟨s + 1, rfl, by omega, by have := HKu.out; rw [show wrap64 (s : Int) = ((s + 1 : Nat) : Int) - 1 by unfold wrap64; omega], G8, hT8.out⟩
          · obtain rfl : s = k + 2 := by omega
            have hls' : decide (((k + 2 : Nat) : Int) - 1 ≤ (k : Int)) = false := decide_eq_false (by omega)
            have hls2 : ¬ (((k + 2 : Nat) : Int) - 1 ≤ (k : Int)) := by omega
            have hls3 : (k : Int) < ((k + 2 : Nat) : Int) - 1 := by omega
            go_wp2_with fail
            go_roundg (m - (i + 1))
            case measure => omega
            case rel => exact ⟨i + 1, rfl, by omega, by simp, GG, by rw [show pl k O (i + 1) = DD from HDD.out.symm]; exact HTT.out⟩
      · refine wanted_pos rfl ?_
        refine wp_loadB rfl (by rfl) HC3.out (hK.out _ _ hS6 (fun _ => ?_))
        clear hK Kt
        simp only [Act.put, List.getElem_toArray, List.getElem_cons_zero, List.getElem_cons_succ, List.setIfInBounds_toArray, List.set_cons_zero, List.set_cons_succ]
        refine wpAnyH_ready (rs := [10]) (by kernel_rfl) (by simp) (AllReadyH.cons rfl (fun Kt hK => ?_) AllReadyH.nil)
        refine wanted_pos rfl ?_
        refine wp_call (R := fun x w' => x = .bool DD.dn ∧ w' = W6) (vs := #[pp b]) rfl (by simp only [List.map_toArray, List.map_cons, List.map_nil]; rfl) (by go_simp) (Calls.mono HCd.out (fun e w' he => ⟨_, he.1, rfl, he.2⟩)) (fun x W7 hr => ?_)
        obtain ⟨rfl, rfl⟩ := hr
        refine hK.out _ _ hS6 (fun _ => ?_)
        clear hK Kt
        simp only [Act.put, List.getElem_toArray, List.getElem_cons_zero, List.getElem_cons_succ, List.setIfInBounds_toArray, List.set_cons_zero, List.set_cons_succ]
        refine wpAnyH_take (i := 15) (v := .bool false) rfl (by kernel_rfl) (by kernel_rfl) (by kernel_rfl) (fun _ _ _ h => h) (Or.inl ⟨by rfl, fun w' _ => by go_simp⟩) hS6 ?_
        simp only [Act.put, List.getElem_toArray, List.getElem_cons_zero, List.getElem_cons_succ, List.setIfInBounds_toArray, List.set_cons_zero, List.set_cons_succ]
        refine wpAnyH_take (i := 16) (v := .bool false) rfl (by kernel_rfl) (by kernel_rfl) (by kernel_rfl) (fun _ _ _ h => h) (Or.inl ⟨by rfl, fun w' _ => by go_simp⟩) hS6 ?_
        simp only [Act.put, List.getElem_toArray, List.getElem_cons_zero, List.getElem_cons_succ, List.setIfInBounds_toArray, List.set_cons_zero, List.set_cons_succ]
        refine wpAnyH_done (by kernel_rfl) ?_ _
        refine NoPanic.normal ?_
        clear hS0 hS6 HCd HC3 HPC
        go_wp2_with fail
        go_loopg [10] (k + 2) (fun g' s10 wr => ∃ s : Nat, g' = k + 2 - s ∧ s ≤ k + 2 ∧ s10 = .int .i64 ((s : Int) - 1) ∧ PlS W3 wr b lb mb r la na cl cn zl zn DD)
        case atStart => exact ⟨0, rfl, Nat.zero_le _, rfl, HT6.out⟩
        case round =>
          obtain ⟨s, rfl, hs, rfl, GG, hTT⟩ := hrel
          have HTT := hide hTT
          clear hTT
          by_cases hls : s < k + 2
          · have hls' : (s : Int) - 1 ≤ (k : Int) := by omega
            go_wp2_with (go_at_call 13; refine Calls.mono (do_any (o := ⟨5, (s : Int) - 1, none, 0, 0, fun _ => 0, none, [], 0, 0, 0⟩) HTT.out (rd_ok W3 (by omega) (by have := HKu.out; omega))) ?_; rintro e W8 ⟨rfl, G8, hT8⟩; rw [rd_dof] at hT8; replace hT8 := hide hT8)
            go_roundg (k + 2 - (s + 1))
            case measure => omega
            case rel => exact ⟨s + 1, rfl, by omega, by have := HKu.out; rw [show wrap64 (s : Int) = ((s + 1 : Nat) : Int) - 1 by unfold wrap64; omega], G8, hT8.out⟩
          · obtain rfl : s = k + 2 := by omega
            have hls' : decide (((k + 2 : Nat) : Int) - 1 ≤ (k : Int)) = false := decide_eq_false (by omega)
            have hls2 : ¬ (((k + 2 : Nat) : Int) - 1 ≤ (k : Int)) := by omega
            have hls3 : (k : Int) < ((k + 2 : Nat) : Int) - 1 := by omega
            go_wp2_with fail
            go_roundg (m - (i + 1))
            case measure => omega
            case rel => exact ⟨i + 1, rfl, by omega, by simp, GG, by rw [show pl k O (i + 1) = DD from HDD.out.symm]; exact HTT.out⟩
    · obtain rfl : i = m := by omega
      go_wp2_with fail
      go_ret
      exact ⟨rfl, K.call HB2.out HT.out.f.k⟩
end Go.Proofs.Ytmifmgnlfjahmaa
