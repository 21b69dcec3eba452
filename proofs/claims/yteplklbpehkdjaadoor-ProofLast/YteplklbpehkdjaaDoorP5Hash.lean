/- What the program's own hash answers. -/
import Derived.Test.YteplklbpehkdjaaDoorP5Take
namespace Go.Proofs.YteplklbpehkdjaaDoor
set_option maxRecDepth 100000
open Go.RowKit
attribute [local go_sem ↓] Go.wp_at_zero Go.wp_at_succ

def hP (s : St) (i j : Nat) : Nat := if j < i then hByte s j else 0
set_option maxRecDepth 100000 in
set_option maxHeartbeats 8000000 in
theorem hash_any (s : St) (w : World) :
    Calls Tryd.prog 39 #[.agg (aw s.w 8).toArray] w fun e w' => e = .returned (.agg (ab (hByte s) 32).toArray) ∧ Below w.heap.size w w' := by
  rw [aw8 s.w]
  go_enter Tryd.func39, Tryd.ntmps39
  go_upto_region 2 with fail
  refine wp_world (fun X hX => ?_)
  have hB : Below w.heap.size w X := by rw [hX]; exact K.alloc (K.alloc (K.alloc (Below.refl _ _) _) _) _
  have hS : RowW X w.heap.size 8 s.w := by rw [hX]; exact (RowW.made w 59 8 s.w _ (aw8 s.w).symm).keep (K.alloc (K.alloc (Below.refl _ _) _) _)
  have hR : RowB X (w.heap.size + 1) 32 (fun _ => 0) := by
    rw [hX]
    have h := Row8.keep (RowB.made (w.alloc (.cells #[.int .u32 (wn (s.w 0)), .int .u32 (wn (s.w 1)), .int .u32 (wn (s.w 2)), .int .u32 (wn (s.w 3)), .int .u32 (wn (s.w 4)), .int .u32 (wn (s.w 5)), .int .u32 (wn (s.w 6)), .int .u32 (wn (s.w 7))] 59)) 32 32 (fun _ => 0) _ zeros32) (K.alloc (Below.refl _ _) (.cells (ab (fun _ => 0) 32).toArray 32))
    rw [← zeros32] at h
    show Row8 _ _ _ _
    simpa using h
  have hO : RowB X (w.heap.size + 1 + 1) 32 (hP s 0) := by
    rw [hX]
    have h := RowB.made ((w.alloc (.cells #[.int .u32 (wn (s.w 0)), .int .u32 (wn (s.w 1)), .int .u32 (wn (s.w 2)), .int .u32 (wn (s.w 3)), .int .u32 (wn (s.w 4)), .int .u32 (wn (s.w 5)), .int .u32 (wn (s.w 6)), .int .u32 (wn (s.w 7))] 59)).alloc (.cells (ab (fun _ => 0) 32).toArray 32)) 32 32 (fun _ => 0) _ zeros32
    rw [← zeros32] at h
    have h' := Row8.congr h (g := fun i => ((hP s 0 i : Nat) : Int)) (fun i _ => by unfold hP; rw [if_neg (by omega)])
    show Row8 _ _ _ _
    simpa using h'
  clear hX
  obtain ⟨b0, hb0⟩ : ∃ b0, w.heap.size = b0 := ⟨_, rfl⟩
  rw [hb0] at hB hS hR hO ⊢
  have HS := hide hS
  have HR := hide hR
  have HO := hide hO
  have HB := hide hB
  clear hS hR hO hB
  go_wp2_with fail
  go_loopg [5] 32 (fun g s5 wr => ∃ i : Nat, g = 32 - i ∧ i ≤ 32 ∧ s5 = .int .i64 i ∧ RowW wr b0 8 s.w ∧ RowB wr (b0 + 1) 32 (fun _ => 0) ∧ RowB wr (b0 + 1 + 1) 32 (hP s i) ∧ Below b0 w wr)
  case atStart => exact ⟨0, rfl, by omega, rfl, HS.out, HR.out, HO.out, HB.out⟩
  case round =>
    clear HS HR HO HB
    obtain ⟨i, rfl, hi, rfl, hS, hR, hO, hB⟩ := hrel
    by_cases hlt : i < 32
    · have hii : (i : Int) < 32 := by omega
      obtain ⟨j, hj⟩ : ∃ j, j = i / 4 := ⟨_, rfl⟩
      have cs := hS.c j (by omega)
      have co := hO.c i hlt
      have zo := hO.z i hlt
      have j1 : (i : Int) / 4 = (j : Int) := by omega
      have j2 : (i : Int).tdiv 4 = (j : Int) := by rw [Int.tdiv_eq_ediv_of_nonneg (by omega)]; omega
      have j3 : (j : Int) < 8 := by omega
      have j4 : IntKind.i64.wrap (j : Int) = (j : Int) := by rw [IntKind.wrap_i64]; omega
      have j5 : j < 8 := by omega
      obtain ⟨x, hx⟩ : ∃ x, x = s.w j := ⟨_, rfl⟩
      have HV : Hid (hByte s i = x.toNat / 256 ^ (3 - i % 4) % 256) := by show _ = _; unfold hByte; rw [hx, hj]
      rw [← hx] at cs
      have HS := hide hS
      have HR := hide hR
      have HO := hide hO
      have HB := hide hB
      have HI := hide hlt
      have hol := hO.lt
      have hlo := wn_nn x
      have hhi := wn_lt x
      clear hO hS hR hB hi hlt hx hj
      rcases (show i % 4 = 0 ∨ i % 4 = 1 ∨ i % 4 = 2 ∨ i % 4 = 3 by omega) with hr | hr | hr | hr
      · have hv : wn x / 16777216 % 256 = ((hByte s i : Nat) : Int) := by rw [HV.out, hr]; unfold wn; omega
        have hv2 : IntKind.u8.wrap (wn x / 16777216) = ((hByte s i : Nat) : Int) := by rw [IntKind.wrap_u8', hv]
        have hri : (i : Int) % 4 = 0 := by omega
        have hrt : (i : Int).tmod 4 = 0 := by rw [Int.tmod_eq_emod_of_nonneg (by omega)]; omega
        clear hr
        go_wp2_with fail
        go_roundg (32 - (i + 1))
        case measure => have := HI.out; omega
        case rel => exact ⟨i + 1, rfl, by have := HI.out; omega, by go_num, HS.out.other (by omega) i _, row8_other HR.out (by omega) i _, (Row8.store HO.out i HI.out _).congr (fun j hj => by
          unfold hP
          by_cases e : j = i
          · subst e; simp
          · simp only [if_neg e]; (repeat' split) <;> first | rfl | omega), by subst hb0; exact K.set HB.out (by show w.heap.size ≤ w.heap.size + 1 + 1; omega) _⟩
      · have hv : wn x / 65536 % 256 = ((hByte s i : Nat) : Int) := by rw [HV.out, hr]; unfold wn; omega
        have hv2 : IntKind.u8.wrap (wn x / 65536) = ((hByte s i : Nat) : Int) := by rw [IntKind.wrap_u8', hv]
        have hri : (i : Int) % 4 = 1 := by omega
        have hrt : (i : Int).tmod 4 = 1 := by rw [Int.tmod_eq_emod_of_nonneg (by omega)]; omega
        clear hr
        go_wp2_with fail
        go_roundg (32 - (i + 1))
        case measure => have := HI.out; omega
        case rel => exact ⟨i + 1, rfl, by have := HI.out; omega, by go_num, HS.out.other (by omega) i _, row8_other HR.out (by omega) i _, (Row8.store HO.out i HI.out _).congr (fun j hj => by
          unfold hP
          by_cases e : j = i
          · subst e; simp
          · simp only [if_neg e]; (repeat' split) <;> first | rfl | omega), by subst hb0; exact K.set HB.out (by show w.heap.size ≤ w.heap.size + 1 + 1; omega) _⟩
      · have hv : wn x / 256 % 256 = ((hByte s i : Nat) : Int) := by rw [HV.out, hr]; unfold wn; omega
        have hv2 : IntKind.u8.wrap (wn x / 256) = ((hByte s i : Nat) : Int) := by rw [IntKind.wrap_u8', hv]
        have hri : (i : Int) % 4 = 2 := by omega
        have hrt : (i : Int).tmod 4 = 2 := by rw [Int.tmod_eq_emod_of_nonneg (by omega)]; omega
        clear hr
        go_wp2_with fail
        go_roundg (32 - (i + 1))
        case measure => have := HI.out; omega
        case rel => exact ⟨i + 1, rfl, by have := HI.out; omega, by go_num, HS.out.other (by omega) i _, row8_other HR.out (by omega) i _, (Row8.store HO.out i HI.out _).congr (fun j hj => by
          unfold hP
          by_cases e : j = i
          · subst e; simp
          · simp only [if_neg e]; (repeat' split) <;> first | rfl | omega), by subst hb0; exact K.set HB.out (by show w.heap.size ≤ w.heap.size + 1 + 1; omega) _⟩
      · have hv : wn x % 256 = ((hByte s i : Nat) : Int) := by rw [HV.out, hr]; unfold wn; omega
        have hv2 : IntKind.u8.wrap (wn x) = ((hByte s i : Nat) : Int) := by rw [IntKind.wrap_u8', hv]
        have hri : (i : Int) % 4 = 3 := by omega
        have hrt : (i : Int).tmod 4 = 3 := by rw [Int.tmod_eq_emod_of_nonneg (by omega)]; omega
        clear hr
        go_wp2_with fail
        go_roundg (32 - (i + 1))
        case measure => have := HI.out; omega
        case rel => exact ⟨i + 1, rfl, by have := HI.out; omega, by go_num, HS.out.other (by omega) i _, row8_other HR.out (by omega) i _, (Row8.store HO.out i HI.out _).congr (fun j hj => by
          unfold hP
          by_cases e : j = i
          · subst e; simp
          · simp only [if_neg e]; (repeat' split) <;> first | rfl | omega), by subst hb0; exact K.set HB.out (by show w.heap.size ≤ w.heap.size + 1 + 1; omega) _⟩
    · obtain rfl : i = 32 := by omega
      have hO' : RowB wr (b0 + 1 + 1) 32 (hByte s) := Row8.congr hO (fun j hj => by unfold hP; rw [if_pos hj])
      have HRr := hide (RowB.range hO')
      have HTH := hide (RowB.there hR (hByte s))
      have HST := hide (RowB.stored hR (hByte s))
      have HB : Hid (Below b0 w (wr.setCells (b0 + 1) 0 (ab (hByte s) 32).toArray.toList)) := by subst hb0; exact below_setCells _ _ hB (by omega)
      clear hO hO' hS hR hB hi hlt
      go_upto_region 7 with fail
      go_wp2_with (refine wpList_load_mid rfl 32 _ rfl _ 0 rfl (ab (hByte s) 32) _ HRr.out Tryd.underlying32 rfl (ilH _) ?_; simp only [Act.put, List.setIfInBounds_toArray, List.set_cons_zero, List.set_cons_succ]; refine wpList_store_mid rfl 32 _ _ rfl (b0 + 1) 0 (ab (hByte s) 32).toArray rfl rfl HTH.out (inH _) (all_oneCell_toArray (ab_one _ _)) ?_; generalize wr.setCells (b0 + 1) 0 (ab (hByte s) 32).toArray.toList = X at HST HB ⊢)
      exact bodyPost_ret (results_cell_mid Tryd.results39 _ _ (b0 + 1) (ab (hByte s) 32) _ rfl (RowB.range HST.out) Tryd.underlying32 rfl (ilH _)) rfl ⟨rfl, by rw [hb0]; exact HB.out⟩
end Go.Proofs.YteplklbpehkdjaaDoor
