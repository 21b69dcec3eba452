/- What the document's own Padded answers. What the document's own Sum answers. Two hashes are compared. Rows of bytes of one's own, as bytes that are handed on. The program's own Sum of one part, of two, of none. Single operations, as steps of a region that draws its order. A call of a function of the program, as a step of a region that draws its order. Layer 16: trees of hashes (no function of the program is named). -/
import Derived.Test.YtpokecijongkpaaDoorMB03
import Derived.Test.YtpokecijongkpaaDoorMB02
import Derived.Test.YtpokecijongkpaaDoorMB04
import Derived.Test.YtpokecijongkpaaDoorMB01
import Derived.Deep.LoopGhost
import Derived.Deep.DeepCutAuto
import Derived.Deep.RegionWith
namespace Go.Proofs.YtpokecijongkpaaDoor
set_option maxRecDepth 100000
open Go.RowKit
attribute [local go_sem ↓] Go.wp_at_zero Go.wp_at_succ

set_option maxRecDepth 100000 in
set_option maxHeartbeats 8000000 in
theorem refPadded_any {x : Option Addr} {n c : Nat} {f : Nat → Nat} {w : World} (h : BA w x n f) (hn : n ≤ 100000) :
    Calls Tryd.prog 39 #[.slice x n c] w fun e w' => ∃ v, e = .returned v ∧ w'.ownsRow w.heap.size 5 1 v (padLen n) (cells8 (padL f n)) ∧ Below w.heap.size w w' := by
  have H : Hid (BA w x n f) := h
  have hz := zs_eq n
  have hni : (n : Int) ≤ 100000 := by omega
  have hz64 : zs n ≤ 64 := by unfold zs padLen; omega
  clear h
  have hO0 : w.ownsRow w.heap.size 5 1 (.slice none 0 0) 0 (cells8 []) := World.ownsRow_nil _ _ _ _
  go_enter Tryd.func39, Tryd.ntmps39
  go_upto_region 3 with (at_builtin; refine wpList_app rfl _ _ rfl rfl hO0 rfl H.out (by omega) (Nat.le_refl _) ?_; intro v1 w1 hO1 hg1)
  have hB1 : Below w.heap.size w w1 := (Below.refl _ w).grown hg1 (Nat.le_refl _) (fun k hk => by cases hk)
  rw [Nat.zero_add, List.nil_append] at hO1
  clear hg1
  go_wp2_with (at_builtin; refine wpList_app rfl _ _ rfl rfl (hO1.alloc _) rfl (one_made w1 128 (by decide)) (by omega) (by have := hB1.size; simp; omega) ?_; intro v2 w2 hO2 hg2)
  have hB2 : Below w.heap.size w w2 := (K.alloc hB1 _).grown hg2 (K.alloc hB1 _).size (fun k hk => (hO1.lt k hk).1)
  clear hg2 hO1 hB1
  go_loopg [3] (zs n) (fun g v wr => ∃ (k : Nat) (u : Value), u = v ∧ g = zs n - k ∧ k ≤ zs n ∧ wr.ownsRow w.heap.size 5 1 u (n + 1 + k) (cells8 (fl f n ++ [128] ++ List.replicate k 0)) ∧ Below w.heap.size w wr)
  case atStart => exact ⟨0, _, rfl, rfl, by omega, by rw [List.replicate_zero, List.append_nil]; exact hO2, hB2⟩
  case round =>
    clear hO2 hB2
    obtain ⟨k, u, hu, rfl, hk, hO, hB⟩ := hrel
    subst hu
    obtain ⟨a, cap, rfl⟩ := own_shape hO
    by_cases hlt : k < zs n
    · have hne : (((n + 1 + k : Nat) : Int) % 64 == 56) = false := beq_eq_false_iff_ne.2 (by have := zs_no hlt; omega)
      obtain ⟨L, hL⟩ : ∃ L, L = n + 1 + k := ⟨_, rfl⟩
      have HL := hide hL
      rw [← hL] at hne hO ⊢
      have hLb : L ≤ 200000 := by omega
      have HK := hide hlt
      clear hL hlt hk
      go_wp2_with (at_builtin; refine wpList_app rfl _ _ rfl rfl (hO.alloc _) rfl (one_made wr 0 (by decide)) (by omega) (by have := hB.size; simp; omega) ?_; intro v2 w2 hO2 hg2)
      have hB2 : Below w.heap.size w w2 := (K.alloc hB _).grown hg2 (K.alloc hB _).size (fun k hk => (hO.lt k hk).1)
      have hO3 : w2.ownsRow w.heap.size 5 1 v2 (n + 1 + (k + 1)) (cells8 (fl f n ++ [128] ++ List.replicate (k + 1) 0)) := by
        rw [List.replicate_succ', ← List.append_assoc, show n + 1 + (k + 1) = L + 1 by have := HL.out; omega]
        exact hO2
      clear hO2 hg2 hO hB
      go_wp2_with fail
      go_roundg (zs n - (k + 1))
      case measure => have := HK.out; omega
      case rel => exact ⟨k + 1, _, rfl, rfl, by have := HK.out; omega, hO3, hB2⟩
    · obtain rfl : k = zs n := by omega
      have heq : ((n + 1 + zs n : Nat) : Int) % 64 = 56 := by omega
      obtain ⟨L, hL⟩ : ∃ L, L = n + 1 + zs n := ⟨_, rfl⟩
      have HL := hide hL
      rw [← hL] at heq hO ⊢
      have hLb : L ≤ 200000 := by omega
      have HO := hide hO
      have HB := hide hB
      have HZ := hide hz
      clear hL hlt hk hO hB hz
      go_wp2_with fail
      clear heq
      go_loopg [3, 4, 5] 8 (fun g v s4 s5 wr => ∃ (i : Nat) (u : Value), u = v ∧ g = 8 - i ∧ i ≤ 8 ∧ s5 = .int .i64 i ∧ s4 = .int .u64 (shN n i : Nat) ∧ wr.ownsRow w.heap.size 5 1 u (L + i) (cells8 (fl f n ++ [128] ++ List.replicate (zs n) 0 ++ lenB n i)) ∧ Below w.heap.size w wr)
      case atStart => exact ⟨0, _, rfl, rfl, by omega, rfl, congrArg (Value.int .u64) (by simp only [shN]; omega), by simp only [lenB, List.append_nil]; exact HO.out, HB.out⟩
      case round =>
        clear HO HB
        obtain ⟨i, u, hu, rfl, hi, rfl, rfl, hO, hB⟩ := hrel
        subst hu
        by_cases hlt : i < 8
        · have hii : (i : Int) < 8 := by omega
          have hsl := shN_lt n hn i
          have htop := shN_top n hn i hlt
          obtain ⟨bt, hbt⟩ : ∃ bt, bt = 8 * n / 256 ^ (7 - i) % 256 := ⟨_, rfl⟩
          have hb256 : bt < 256 := by rw [hbt]; exact Nat.mod_lt _ (by omega)
          have HLB : Hid (lenB n (i + 1) = lenB n i ++ [bt]) := by show _ = _; rw [hbt]; rfl
          have HSH : Hid (shN n (i + 1) = shN n i * 256 % 18446744073709551616) := rfl
          rw [← hbt] at htop
          generalize shN n i = q at *
          have h1 : (q : Int) / 72057594037927936 = (bt : Int) := by omega
          have hbi : (bt : Int) < 256 := by omega
          have h2 : (q : Int) <<< 8 % 18446744073709551616 = ((q * 256 % 18446744073709551616 : Nat) : Int) := by rw [Int.shiftLeft_eq]; omega
          have h3 : (q : Int) * 256 % 18446744073709551616 = ((q * 256 % 18446744073709551616 : Nat) : Int) := by omega
          have hqi : (q : Int) < 18446744073709551616 := by omega
          have HI := hide hlt
          clear hbt htop hlt hi
          go_wp2_with (at_builtin; refine wpList_app rfl _ _ rfl rfl (hO.alloc _) rfl (one_made wr bt hb256) (by omega) (by have := hB.size; simp; omega) ?_; intro v2 w2 hO2 hg2)
          have hB2 : Below w.heap.size w w2 := (K.alloc hB _).grown hg2 (K.alloc hB _).size (fun k hk => (hO.lt k hk).1)
          have hO3 : w2.ownsRow w.heap.size 5 1 v2 (L + (i + 1)) (cells8 (fl f n ++ [128] ++ List.replicate (zs n) 0 ++ lenB n (i + 1))) := by
            rw [HLB.out, ← List.append_assoc]
            exact hO2
          clear hO2 hg2 hO hB
          go_wp2_with fail
          go_roundg (8 - (i + 1))
          case measure => have := HI.out; omega
          case rel => exact ⟨i + 1, _, rfl, rfl, by have := HI.out; omega, by go_num, congrArg (Value.int .u64) (by rw [HSH.out, IntKind.wrap_u64]; omega), hO3, hB2⟩
        · obtain rfl : i = 8 := by omega
          have hO3 : wr.ownsRow w.heap.size 5 1 u (padLen n) (cells8 (padL f n)) := by
            have e : L + 8 = padLen n := by have := HL.out; have := HZ.out; omega
            rw [← e]; exact hO
          clear hO hlt hi
          go_wp2_with fail
          go_ret
          exact ⟨_, rfl, hO3, hB⟩
end Go.Proofs.YtpokecijongkpaaDoor
namespace Go.Proofs.YtpokecijongkpaaDoor
set_option maxRecDepth 100000
open Go.RowKit
attribute [local go_sem ↓] Go.wp_at_zero Go.wp_at_succ

/-- take, with its state written out. -/
theorem refTake8 {b o cap : Nat} {p : Nat → Nat} (hp : ∀ i, p i < 256) (s r : St) (hr : r = takeB s p) {w : World} (hD : Rd w b o 64 (fun i => ((p i : Nat) : Int))) :
    Calls Tryd.prog 40 #[.agg #[.int .u32 (wn (s.w 0)), .int .u32 (wn (s.w 1)), .int .u32 (wn (s.w 2)), .int .u32 (wn (s.w 3)), .int .u32 (wn (s.w 4)), .int .u32 (wn (s.w 5)), .int .u32 (wn (s.w 6)), .int .u32 (wn (s.w 7))], .slice (some ⟨b, o, none⟩) 64 cap] w fun e w' => e = .returned (.agg #[.int .u32 (wn (r.w 0)), .int .u32 (wn (r.w 1)), .int .u32 (wn (r.w 2)), .int .u32 (wn (r.w 3)), .int .u32 (wn (r.w 4)), .int .u32 (wn (r.w 5)), .int .u32 (wn (r.w 6)), .int .u32 (wn (r.w 7))]) ∧ Below w.heap.size w w' := by
  have := refTake_any (cap := cap) hp s hD
  rw [← hr, aw8, aw8] at this
  exact this

set_option maxRecDepth 100000 in
set_option maxHeartbeats 8000000 in
theorem refSum_any {x : Option Addr} {n c : Nat} {f : Nat → Nat} {w : World} (h : BA w x n f) (hn : n ≤ 100000) :
    Calls Tryd.prog 24 #[.slice x n c] w fun e w' => e = .returned (.agg (ab (hByte (hashS f n)) 32).toArray) ∧ Below w.heap.size w w' := by
  have H : Hid (BA w x n f) := h
  clear h
  go_enter Tryd.func24, Tryd.ntmps24
  go_wp2_with fail
  with_reducible refine Calls.mono (refStart_any _) ?_
  rintro e W1 ⟨rfl, hb⟩
  have hR := (RowB.made w 24 32 (fun _ => 0) _ zeros32).keep hb
  have hB1 : Below w.heap.size w W1 := K.call (K.alloc (Below.refl _ _) _) hb
  clear hb
  go_upto_region 2 with (refine wpList_store_new rfl 58 _ _ rfl _ (aw start.w 8).toArray rfl rfl (in8 _) (by rw [size8]; rfl) (all8 _) ?_)
  have hal := K.alloc (Below.refl _ W1) (.cells (aw start.w 8).toArray 58)
  have hS := RowW.made W1 58 8 start.w _ rfl
  have hn3 : w.heap.size < W1.heap.size := hR.lt
  have hR := hR.keep hal
  have hB2 : Below w.heap.size w (W1.alloc (.cells (aw start.w 8).toArray 58)) := K.call hB1 hal
  clear hal hB1
  generalize W1.alloc (.cells (aw start.w 8).toArray 58) = X1 at *
  generalize W1.heap.size = n3 at *
  have hn3X : n3 < X1.heap.size := hS.lt
  go_wp2_with fail
  with_reducible refine Calls.mono (refPadded_any (H.out.keep hB2) hn) ?_
  rintro e W2 ⟨v, rfl, hO, hb⟩
  have hS := hS.keep hb
  have hR := hR.keep hb
  have hB3 : Below w.heap.size w W2 := K.call hB2 hb
  have hpl := zs_eq n
  obtain ⟨g, cap, rfl, hg, hP⟩ := own_rd (f := fun i => ((pad f n i : Nat) : Int)) hO (fun i hi => by rw [cells8_at _ i (by rw [padL_len]; exact hi), padL_at f n i hi]) (by omega)
  have hcap := own_cap hO
  have hgn : g ≠ n3 := by omega
  have hgN : g ≠ w.heap.size := by omega
  have HPL : Hid (∀ i, pad f n i < 256) := pad_lt H.out.lt n
  have hPd := hP.rd
  obtain ⟨pl, hpl'⟩ : ∃ pl, pl = padLen n := ⟨_, rfl⟩
  obtain ⟨M, hM⟩ : ∃ M, M = padLen n / 64 := ⟨_, rfl⟩
  have HM : Hid (pl = 64 * M ∧ hashS f n = hs (pad f n) M) := ⟨by omega, by rw [hM]; rfl⟩
  have hplb : pl ≤ 200000 := by rw [hpl']; unfold padLen; omega
  rw [← hpl'] at hcap hPd ⊢
  clear hO hb hB2 hP hpl hM hpl' H
  have hpli : (pl : Int) ≤ 200000 := by omega
  have HS := hide hS
  have HR := hide hR
  have HPd := hide hPd
  have HB := hide hB3
  clear hS hR hPd hB3
  go_wp2_with fail
  go_loopg [5] M (fun q s5 wr => ∃ k : Nat, q = M - k ∧ k ≤ M ∧ s5 = .int .i64 ((64 * k : Nat) : Int) ∧ RowW wr n3 8 (hs (pad f n) k).w ∧ Rd wr g 0 pl (fun i => ((pad f n i : Nat) : Int)) ∧ RowB wr w.heap.size 32 (fun _ => 0) ∧ Below w.heap.size w wr)
  case atStart => exact ⟨0, rfl, by omega, rfl, HS.out, HPd.out, HR.out, HB.out⟩
  case round =>
    clear HS HPd HR HB
    obtain ⟨k, rfl, hk, rfl, hS, hP, hR, hB⟩ := hrel
    by_cases hlt : k < M
    · obtain ⟨m, hm⟩ : ∃ m, m = 64 * k := ⟨_, rfl⟩
      have HK : Hid (m = 64 * k ∧ k < M ∧ m + 64 ≤ pl) := ⟨hm, hlt, by have := HM.out.1; omega⟩
      have hpart := hP.part m 64 HK.out.2.2
      obtain ⟨r, hr⟩ : ∃ r, r = hs (pad f n) (k + 1) := ⟨_, rfl⟩
      obtain ⟨s, hs'⟩ : ∃ s, s = hs (pad f n) k := ⟨_, rfl⟩
      have HRK : Hid (r = takeB s (fun i => pad f n (m + i))) := by show _ = _; rw [hr, hs', hm]; rfl
      have HRE := hide hr
      rw [← hs'] at hS
      rw [← hm]
      have c0 := hS.c 0 (by omega)
      have c1 := hS.c 1 (by omega)
      have c2 := hS.c 2 (by omega)
      have c3 := hS.c 3 (by omega)
      have c4 := hS.c 4 (by omega)
      have c5 := hS.c 5 (by omega)
      have c6 := hS.c 6 (by omega)
      have c7 := hS.c 7 (by omega)
      have hmi : (m : Int) < pl := by have := HK.out; omega
      have hmi2 : (m : Int) + 64 ≤ pl := by have := HK.out; omega
      have hw : IntKind.i64.wrap ((m : Int) + 64) = (m : Int) + 64 := by rw [IntKind.wrap_i64]; omega
      have HPart := hide hpart
      have HS := hide hS
      have HP := hide hP
      have HR := hide hR
      have HB := hide hB
      clear hm hr hs' hpart hS hP hR hB hlt hk
      go_upto_region 6 with fail
      rw [Nat.zero_add] at HPart
      have hl1 : ((m : Int) + 64).toNat - m = 64 := by omega
      have hl2 : m + 64 - m = 64 := by omega
      have hcm : (m : Int) + 64 ≤ cap := by omega
      go_region_with (go_at_call 40; with_reducible refine Calls.mono (refTake8 (fun i => HPL.out (m + i)) s r HRK.out (HPart.out.keep (K.drew (Below.refl _ _)))) ?_; rintro e w' ⟨rfl, hb⟩; have hS2 := (HS.out.keep (K.drew (Below.refl _ _))).keep hb; have d0 := hS2.c 0 (by omega); have z0 := hS2.z 0 (by omega); have d1 := hS2.c 1 (by omega); have z1 := hS2.z 1 (by omega); have d2 := hS2.c 2 (by omega); have z2 := hS2.z 2 (by omega); have d3 := hS2.c 3 (by omega); have z3 := hS2.z 3 (by omega); have d4 := hS2.c 4 (by omega); have z4 := hS2.z 4 (by omega); have d5 := hS2.c 5 (by omega); have z5 := hS2.z 5 (by omega); have d6 := hS2.c 6 (by omega); have z6 := hS2.z 6 (by omega); have d7 := hS2.c 7 (by omega); have z7 := hS2.z 7 (by omega))
      all_goals
        have hdb : Below wr.heap.size wr wr.drew := K.drew (Below.refl _ _)
        have hS3 : RowW (w'.setCells n3 0 (aw r.w 8)) n3 8 r.w := hS2.stored r.w
        have hP3 := ((HP.out.keep hdb).keep hb).apart hgn 0 (aw r.w 8)
        have hR3 := Row8.apart ((Row8.keep HR.out hdb).keep hb) (g := n3) (by omega) 0 (aw r.w 8)
        have hB3 : Below w.heap.size w (w'.setCells n3 0 (aw r.w 8)) := below_setCells _ _ (K.call (K.call HB.out hdb) hb) (by omega)
        rw [show ((((((((w'.setCell ⟨n3, 0, none⟩ (.int .u32 (wn (r.w 0)))).setCell ⟨n3, 1, none⟩ (.int .u32 (wn (r.w 1)))).setCell ⟨n3, 2, none⟩ (.int .u32 (wn (r.w 2)))).setCell ⟨n3, 3, none⟩ (.int .u32 (wn (r.w 3)))).setCell ⟨n3, 4, none⟩ (.int .u32 (wn (r.w 4)))).setCell ⟨n3, 5, none⟩ (.int .u32 (wn (r.w 5)))).setCell ⟨n3, 6, none⟩ (.int .u32 (wn (r.w 6)))).setCell ⟨n3, 7, none⟩ (.int .u32 (wn (r.w 7)))) = w'.setCells n3 0 (aw r.w 8) from rfl]
        clear d0 z0 c0 d1 z1 c1 d2 z2 c2 d3 z3 c3 d4 z4 c4 d5 z5 c5 d6 z6 c6 d7 z7 c7 hS2 hb hdb HS HP HR HB HPart
        generalize w'.setCells n3 0 (aw r.w 8) = X at *
        go_wp2_with fail
        go_roundg (M - (k + 1))
        case measure => have := HK.out; omega
        case rel => exact ⟨k + 1, rfl, by have := HK.out; omega, congrArg (Value.int .i64) (by have := HK.out; omega), by rw [← HRE.out]; exact hS3, hP3, hR3, hB3⟩
    · obtain rfl : k = M := by omega
      obtain ⟨s, hs'⟩ : ∃ s, s = hs (pad f n) k := ⟨_, rfl⟩
      have HSE : Hid (s = hashS f n) := by rw [hs', HM.out.2]; rfl
      rw [← hs'] at hS
      obtain ⟨m, hm⟩ : ∃ m, m = 64 * k := ⟨_, rfl⟩
      have hmi : ¬ (m : Int) < pl := by have := HM.out.1; omega
      rw [← hm]
      have HS := hide hS
      have HR := hide hR
      have HB := hide hB
      clear hs' hm hS hP hR hB hlt hk
      go_wp2_with fail
      have hal := K.alloc (Below.refl _ wr) (.cells #[.int .u8 0, .int .u8 0, .int .u8 0, .int .u8 0, .int .u8 0, .int .u8 0, .int .u8 0, .int .u8 0, .int .u8 0, .int .u8 0, .int .u8 0, .int .u8 0, .int .u8 0, .int .u8 0, .int .u8 0, .int .u8 0, .int .u8 0, .int .u8 0, .int .u8 0, .int .u8 0, .int .u8 0, .int .u8 0, .int .u8 0, .int .u8 0, .int .u8 0, .int .u8 0, .int .u8 0, .int .u8 0, .int .u8 0, .int .u8 0, .int .u8 0, .int .u8 0] 24)
      have hS := HS.out.keep hal
      have hR := Row8.keep HR.out hal
      have hO := RowB.made wr 24 32 (fun _ => 0) _ zeros32
      have hB := K.call HB.out hal
      have hn6 : n3 < wr.heap.size := HS.out.lt
      have hnN : w.heap.size < wr.heap.size := HR.out.lt
      clear HS HR HB hal
      generalize wr.alloc (.cells #[.int .u8 0, .int .u8 0, .int .u8 0, .int .u8 0, .int .u8 0, .int .u8 0, .int .u8 0, .int .u8 0, .int .u8 0, .int .u8 0, .int .u8 0, .int .u8 0, .int .u8 0, .int .u8 0, .int .u8 0, .int .u8 0, .int .u8 0, .int .u8 0, .int .u8 0, .int .u8 0, .int .u8 0, .int .u8 0, .int .u8 0, .int .u8 0, .int .u8 0, .int .u8 0, .int .u8 0, .int .u8 0, .int .u8 0, .int .u8 0, .int .u8 0, .int .u8 0] 24) = X at *
      generalize wr.heap.size = n6 at *
      go_loopg [7] 32 (fun q s7 wr => ∃ i : Nat, q = 32 - i ∧ i ≤ 32 ∧ s7 = .int .i64 i ∧ RowB wr n6 32 (fun j => if j < i then hByte s j else 0) ∧ RowW wr n3 8 s.w ∧ RowB wr w.heap.size 32 (fun _ => 0) ∧ Below w.heap.size w wr)
      case atStart => exact ⟨0, rfl, by omega, rfl, hO.congr (fun j hj => by simp), hS, hR, hB⟩
      case round =>
      clear hO hS hR hB
      obtain ⟨i, rfl, hi, rfl, hO, hS, hR, hB⟩ := hrel
      by_cases hlt : i < 32
      · have co := hO.c i hlt
        have zo := hO.z i hlt
        obtain ⟨j, hj⟩ : ∃ j, j = i / 4 := ⟨_, rfl⟩
        have cs := hS.c j (by omega)
        have hji : (i : Int) / 4 = (j : Int) := by omega
        have hj8 : (j : Int) < 8 := by omega
        have hii : (i : Int) < 32 := by omega
        obtain ⟨x, hx⟩ : ∃ x, x = s.w j := ⟨_, rfl⟩
        have HV : Hid (hByte s i = x.toNat / 256 ^ (3 - i % 4) % 256) := by show _ = _; unfold hByte; rw [hx, hj]
        rw [← hx] at cs
        have HO := hide hO
        have HS := hide hS
        have HR := hide hR
        have HB := hide hB
        have HI := hide hlt
        have hol := hO.lt
        clear hO hS hR hB hi hlt hx hj
        rcases (show i % 4 = 0 ∨ i % 4 = 1 ∨ i % 4 = 2 ∨ i % 4 = 3 by omega) with hr | hr | hr | hr
        · have hv : wn x / 16777216 % 256 = ((hByte s i : Nat) : Int) := by rw [HV.out, hr]; unfold wn; omega
          have hv2 : IntKind.u8.wrap (wn x / 16777216) = ((hByte s i : Nat) : Int) := by rw [IntKind.wrap_u8', hv]
          have hlo := wn_nn x
          have hhi := wn_lt x
          have hri : (i : Int) % 4 = 0 := by omega
          clear hr
          go_wp2_with fail
          go_roundg (32 - (i + 1))
          case measure => have := HI.out; omega
          case rel => exact ⟨i + 1, rfl, by have := HI.out; omega, by go_num, (Row8.store HO.out i HI.out _).congr (fun j hj => by
            by_cases e : j = i
            · subst e; simp
            · simp only [if_neg e]; (repeat' split) <;> first | rfl | omega), HS.out.other (by omega) i _, row8_other HR.out (by omega) i _, K.set HB.out (by show w.heap.size ≤ n6; omega) _⟩
        · have hv : wn x / 65536 % 256 = ((hByte s i : Nat) : Int) := by rw [HV.out, hr]; unfold wn; omega
          have hv2 : IntKind.u8.wrap (wn x / 65536) = ((hByte s i : Nat) : Int) := by rw [IntKind.wrap_u8', hv]
          have hlo := wn_nn x
          have hhi := wn_lt x
          have hri : (i : Int) % 4 = 1 := by omega
          clear hr
          go_wp2_with fail
          go_roundg (32 - (i + 1))
          case measure => have := HI.out; omega
          case rel => exact ⟨i + 1, rfl, by have := HI.out; omega, by go_num, (Row8.store HO.out i HI.out _).congr (fun j hj => by
            by_cases e : j = i
            · subst e; simp
            · simp only [if_neg e]; (repeat' split) <;> first | rfl | omega), HS.out.other (by omega) i _, row8_other HR.out (by omega) i _, K.set HB.out (by show w.heap.size ≤ n6; omega) _⟩
        · have hv : wn x / 256 % 256 = ((hByte s i : Nat) : Int) := by rw [HV.out, hr]; unfold wn; omega
          have hv2 : IntKind.u8.wrap (wn x / 256) = ((hByte s i : Nat) : Int) := by rw [IntKind.wrap_u8', hv]
          have hlo := wn_nn x
          have hhi := wn_lt x
          have hri : (i : Int) % 4 = 2 := by omega
          clear hr
          go_wp2_with fail
          go_roundg (32 - (i + 1))
          case measure => have := HI.out; omega
          case rel => exact ⟨i + 1, rfl, by have := HI.out; omega, by go_num, (Row8.store HO.out i HI.out _).congr (fun j hj => by
            by_cases e : j = i
            · subst e; simp
            · simp only [if_neg e]; (repeat' split) <;> first | rfl | omega), HS.out.other (by omega) i _, row8_other HR.out (by omega) i _, K.set HB.out (by show w.heap.size ≤ n6; omega) _⟩
        · have hv : wn x % 256 = ((hByte s i : Nat) : Int) := by rw [HV.out, hr]; unfold wn; omega
          have hv2 : IntKind.u8.wrap (wn x) = ((hByte s i : Nat) : Int) := by rw [IntKind.wrap_u8', hv]
          have hlo := wn_nn x
          have hhi := wn_lt x
          have hri : (i : Int) % 4 = 3 := by omega
          clear hr
          go_wp2_with fail
          go_roundg (32 - (i + 1))
          case measure => have := HI.out; omega
          case rel => exact ⟨i + 1, rfl, by have := HI.out; omega, by go_num, (Row8.store HO.out i HI.out _).congr (fun j hj => by
            by_cases e : j = i
            · subst e; simp
            · simp only [if_neg e]; (repeat' split) <;> first | rfl | omega), HS.out.other (by omega) i _, row8_other HR.out (by omega) i _, K.set HB.out (by show w.heap.size ≤ n6; omega) _⟩
      · obtain rfl : i = 32 := by omega
        have hO' : RowB wr n6 32 (hByte s) := hO.congr (fun j hj => by simp only [if_pos hj])
        have HRr := hide (RowB.range hO')
        have HTH := hide (RowB.there hR (hByte s))
        have HS := hide (RowB.stored hR (hByte s))
        have HB : Hid (Below w.heap.size w (wr.setCells w.heap.size 0 (ab (hByte s) 32).toArray.toList)) := below_setCells _ _ hB (Nat.le_refl _)
        clear hO hO' hS hR hB hi hlt
        go_upto_region 12 with fail
        go_wp2_with (refine wpList_load_mid rfl 24 _ rfl _ 0 rfl (ab (hByte s) 32) _ HRr.out Tryd.underlying24 rfl (ilH _) ?_; simp only [Act.put, List.setIfInBounds_toArray, List.set_cons_zero, List.set_cons_succ]; refine wpList_store_mid rfl 24 _ _ rfl w.heap.size 0 (ab (hByte s) 32).toArray rfl rfl HTH.out (inH _) (all_oneCell_toArray (ab_one _ _)) ?_; generalize wr.setCells w.heap.size 0 (ab (hByte s) 32).toArray.toList = X at HS HB ⊢)
        refine bodyPost_ret (results_cell_mid Tryd.results24 _ _ w.heap.size (ab (hByte s) 32) _ rfl (RowB.range HS.out) Tryd.underlying24 rfl (ilH _)) rfl ⟨?_, HB.out⟩
        rw [HSE.out]
end Go.Proofs.YtpokecijongkpaaDoor
namespace Go.Proofs.YtpokecijongkpaaDoor
set_option maxRecDepth 100000
open Go.RowKit

theorem itemsH (f g : Nat → Nat) (w : World) : ∀ (js : List Nat), (∀ j ∈ js, j < 32) →
    (Op.eqItems 9999 5 1 (ab f 32).toArray (ab g 32).toArray js).run Tryd.prog w = .ok (decide (∀ j ∈ js, f j = g j)) w
  | [], _ => rfl
  | j :: js, h => by
    have he : Tryd.prog.plainKey 5 = true := by kernel_rfl
    have hj := h j (by simp)
    have hx : (ab f 32).toArray[j]? = some (.int .u8 ((f j : Nat) : Int)) := by have := ab_at f hj; simpa using this
    have hy : (ab g 32).toArray[j]? = some (.int .u8 ((g j : Nat) : Int)) := by have := ab_at g hj; simpa using this
    have ih := itemsH f g w js (fun k hk => h k (by simp [hk]))
    simp only [Op.eqItems, Sem.run_bind, Nat.mul_one, run_part_plain w he hx, run_part_plain w he hy, Result.andThen_ok, run_equalIn_int w 9998 5 .u8 .u8 _ _ Tryd.underlying5]
    by_cases e : f j = g j
    · have hb : (((f j : Nat) : Int) == ((g j : Nat) : Int)) = true := by rw [e]; simp
      rw [hb]
      simp only [Bool.not_true, Bool.false_eq_true, if_false, ih]
      congr 1
      rw [Bool.eq_iff_iff, decide_eq_true_eq, decide_eq_true_eq]
      simp [e]
    · have hb : (((f j : Nat) : Int) == ((g j : Nat) : Int)) = false := beq_eq_false_iff_ne.2 (by omega)
      rw [hb]
      simp [e]
def eqB (f g : Nat → Nat) (n : Nat) : Bool := decide (∀ i, i < n → f i = g i)
/-- Two hashes are the same just if their bytes are. -/
theorem eqH (f g : Nat → Nat) (w : World) : (Op.equalIn 10000 24 (.agg (ab f 32).toArray) (.agg (ab g 32).toArray)).run Tryd.prog w = .ok (eqB f g 32) w := by
  obtain ⟨i, hi⟩ := Option.isSome_iff_exists.1 (show (Tryd.prog.info? 5).isSome = true by kernel_rfl)
  rw [run_equalIn_array w 9999 _ _ Tryd.underlying24 hi, show Tryd.prog.cellsOf 5 = 1 by kernel_rfl, itemsH f g w _ (fun j hj => List.mem_range.1 hj)]
  congr 1
  unfold eqB
  rw [Bool.eq_iff_iff, decide_eq_true_eq, decide_eq_true_eq]
  simp
end Go.Proofs.YtpokecijongkpaaDoor
namespace Go.Proofs.YtpokecijongkpaaDoor
set_option maxRecDepth 100000
open Go.RowKit

theorem refSum_hA {x : Option Addr} {n c : Nat} {f : Nat → Nat} {w : World} (h : BA w x n f) (hn : n ≤ 100000) :
    Calls Tryd.prog 24 #[.slice x n c] w fun e w' => e = .returned (.agg (hA f n)) ∧ Below w.heap.size w w' := by
  unfold hA
  exact refSum_any h hn
/-- A hash's block, as bytes. -/
theorem RowB.ba {w : World} {b n : Nat} {f : Nat → Nat} (h : RowB w b n f) (hf : ∀ i, f i < 256) : BA w (some ⟨b, 0, none⟩) n f := ⟨hf, Or.inr ⟨b, 0, rfl, Row8.rd h⟩⟩
end Go.Proofs.YtpokecijongkpaaDoor
namespace Go.Proofs.YtpokecijongkpaaDoor
set_option maxRecDepth 100000
open Go.RowKit
attribute [local go_sem ↓] Go.wp_at_zero Go.wp_at_succ

theorem sum_none {w : World} (hT : Tab w) (f : Nat → Nat) : Calls Tryd.prog 31 #[.slice none 0 0] w fun e w' => e = .returned (.agg (hA f 0)) ∧ Below w.heap.size w w' := by
  have h := sum_any (c := 0) (x := none) (k := 0) (A := fun _ => none) (L := fun _ => 0) (C := fun _ => 0) (G := fun _ _ => 0) hT ⟨fun i hi => by omega, fun i hi => by omega, Or.inl rfl⟩ (by omega) (by simp only [lenF]; omega)
  have e : hashS (catF (fun _ => 0) (fun _ _ => 0) 0) (lenF (fun _ => 0) 0) = hashS f 0 := hashS_congr (fun i hi => by simp only [lenF] at hi; omega)
  rw [e] at h
  unfold hA
  exact h
theorem sum_two {w : World} {x y : Option Addr} {n c m d q : Nat} {g k : Nat → Nat} (hT : Tab w) (hb : BA w x n g) (hc : n ≤ c) (hm : c ≤ maxLen) (hb2 : BA w y m k) (hc2 : m ≤ d) (hm2 : d ≤ maxLen) (hn : n + m ≤ 800000) (t : TypeId) (hq : q = w.heap.size) :
    Calls Tryd.prog 31 #[.slice (some ⟨q, 0, none⟩) 2 2] (w.alloc (.cells #[.slice x n c, .slice y m d] t)) fun e w' => e = .returned (.agg (hA (cat g n k) (n + m))) ∧ Below w.heap.size w w' := by
  subst hq
  have hk := K.alloc (Below.refl _ w) (.cells #[.slice x n c, .slice y m d] t)
  have e1 : lenF (fun i => if i = 0 then n else m) 2 = n + m := by simp [lenF]
  have h := sum_any (c := 2) (x := some ⟨w.heap.size, 0, none⟩) (k := 2) (A := fun i => if i = 0 then x else y) (L := fun i => if i = 0 then n else m) (C := fun i => if i = 0 then c else d) (G := fun i => if i = 0 then g else k) (hT.keep hk) ⟨fun i hi => by
    rcases (show i = 0 ∨ i = 1 by omega) with rfl | rfl
    · exact hb.keep hk
    · exact hb2.keep hk, fun i hi => by
    rcases (show i = 0 ∨ i = 1 by omega) with rfl | rfl
    · exact ⟨hc, hm⟩
    · exact ⟨hc2, hm2⟩, Or.inr ⟨_, _, rfl, fun i hi => by
    rcases (show i = 0 ∨ i = 1 by omega) with rfl | rfl
    · rw [cell_of_row _ _ _ _ _ _ (heap_alloc_new w _)]; rfl
    · rw [cell_of_row _ _ _ _ _ _ (heap_alloc_new w _)]; rfl⟩⟩ (by omega) (by rw [e1]; exact hn)
  have e : hashS (catF (fun i => if i = 0 then n else m) (fun i => if i = 0 then g else k) 2) (lenF (fun i => if i = 0 then n else m) 2) = hashS (cat g n k) (n + m) := by
    rw [e1]
    simp [catF, lenF, cat_zero]
  rw [e] at h
  unfold hA
  exact Calls.mono h (fun e w' ⟨h1, h2⟩ => ⟨h1, K.call hk h2⟩)
set_option maxHeartbeats 4000000 in
theorem runEq (V U : Array Value) (x y : Operand) (r : Bool) (w : World) (q : (Op.equalIn 10000 24 (.agg V) (.agg U)).run Tryd.prog w = .ok r w) :
    (eqGuard .eql 24 x y (.agg V) (.agg U)).run Tryd.prog w = .ok () w ∧ (binOp .eql 24 (.agg V) (.agg U)).run Tryd.prog w = .ok (.bool r) w := by
  constructor
  · simp [go_sem]
  · simp only [go_sem, q, Result.andThen_ok]
set_option maxHeartbeats 4000000 in
theorem runNe (V U : Array Value) (x y : Operand) (r : Bool) (w : World) (q : (Op.equalIn 10000 24 (.agg V) (.agg U)).run Tryd.prog w = .ok r w) :
    (eqGuard .neq 24 x y (.agg V) (.agg U)).run Tryd.prog w = .ok () w ∧ (binOp .neq 24 (.agg V) (.agg U)).run Tryd.prog w = .ok (.bool (!r)) w := by
  constructor
  · simp [go_sem]
  · simp only [go_sem, q, Result.andThen_ok]
/-- Two hashes are compared, at a step of a plain region. -/
theorem wpList_eqH {w : World} {ops : Array Oper} {rest : List Oper} {op : Oper} {a : Act} {Q : Exit → Act → World → Prop} (hw : Region.wanted op (yielded ops a.tmps) = true) (x y : Operand) (t : TypeId) (ho : op.op = .binOp .eql 24 x y t)
    (V U : Array Value) (r : Bool) (hx : a.eval x = .agg V) (hy : a.eval y = .agg U) (q : (Op.equalIn 10000 24 (.agg V) (.agg U)).run Tryd.prog w = .ok r w) (h : wpList Tryd.prog ops Q rest (a.put op.dst (.bool r)) w) : wpList Tryd.prog ops Q (op :: rest) a w := by
  refine wpList_step fun K hK => ?_
  rw [if_pos hw]
  obtain ⟨h1, h2⟩ := runEq V U x y r w q
  unfold Oper.wp execOp
  simp only [ho, hx, hy, Sem.run_bind, Sem.run_pure, Result.andThen_ok, h1, h2]
  exact hK _ _ h
theorem wpList_neH {w : World} {ops : Array Oper} {rest : List Oper} {op : Oper} {a : Act} {Q : Exit → Act → World → Prop} (hw : Region.wanted op (yielded ops a.tmps) = true) (x y : Operand) (t : TypeId) (ho : op.op = .binOp .neq 24 x y t)
    (V U : Array Value) (r : Bool) (hx : a.eval x = .agg V) (hy : a.eval y = .agg U) (q : (Op.equalIn 10000 24 (.agg V) (.agg U)).run Tryd.prog w = .ok r w) (h : wpList Tryd.prog ops Q rest (a.put op.dst (.bool (!r))) w) : wpList Tryd.prog ops Q (op :: rest) a w := by
  refine wpList_step fun K hK => ?_
  rw [if_pos hw]
  obtain ⟨h1, h2⟩ := runNe V U x y r w q
  unfold Oper.wp execOp
  simp only [ho, hx, hy, Sem.run_bind, Sem.run_pure, Result.andThen_ok, h1, h2]
  exact hK _ _ h
end Go.Proofs.YtpokecijongkpaaDoor
namespace Go.Proofs.YtpokecijongkpaaDoor
set_option maxRecDepth 100000
open Go.RowKit

theorem wp_sum {op : Oper} {a : Act} {w : World} {Kt : Act → World → Prop} {Q : Exit → Act → World → Prop} {x : Operand} {v r : Value} (ho : op.op = .call { callee := .value (.func 31), args := #[x], argTypes := #[66] }) (hx : a.eval x = v)
    (hC : Calls Tryd.prog 31 #[v] w fun e w' => e = .returned r ∧ Below w.heap.size w w') (h : ∀ w', Below w.heap.size w w' → Kt (a.put op.dst r) w') : Oper.wp Tryd.prog op a w Kt Q := by
  have hf : a.eval (.func 31) = .func (.func 31) #[] #[] := rfl
  unfold Oper.wp execOp
  simp only [ho, resolve, invoke, hf, Deferred.ofValue, List.map_toArray, List.map_cons, List.map_nil, hx, Sem.run_bind, Sem.run_pure, Result.andThen_ok]
  go_simp
  refine Calls.mono hC ?_
  rintro e w' ⟨rfl, hb⟩
  exact h w' hb
end Go.Proofs.YtpokecijongkpaaDoor
namespace Go.Proofs.YtpokecijongkpaaDoor
set_option maxRecDepth 100000
open Go.RowKit

theorem wanted_pos {c : Bool} {A B : Prop} (h : c = true) (a : A) : if c = true then A else B := by rw [if_pos h]; exact a
theorem wp_call {F : Nat} {op : Oper} {a : Act} {w : World} {Kt : Act → World → Prop} {Q : Exit → Act → World → Prop} {xs : Array Operand} {ts : Array TypeId} {vs : Array Value} {R : Value → World → Prop} (ho : op.op = .call { callee := .value (.func F), args := xs, argTypes := ts }) (hx : xs.map a.eval = vs) (hE : (callFunc F vs).run Tryd.prog w = .ok (.enter F vs) w)
    (hC : Calls Tryd.prog F vs w fun e w' => ∃ r, e = .returned r ∧ R r w') (h : ∀ r w', R r w' → Kt (a.put op.dst r) w') : Oper.wp Tryd.prog op a w Kt Q := by
  have hf : a.eval (.func F) = .func (.func F) #[] #[] := rfl
  unfold Oper.wp execOp
  simp only [ho, resolve, invoke, hf, Deferred.ofValue, hx, Sem.run_bind, Sem.run_pure, Result.andThen_ok]
  rw [show (#[] ++ vs ++ #[] : Array Value) = vs by simp, hE, Oper.upon_enter]
  refine Calls.mono hC ?_
  rintro e w' ⟨r, rfl, hr⟩
  exact h r w' hr
end Go.Proofs.YtpokecijongkpaaDoor
namespace Go.Proofs.YtpokecijongkpaaDoor
set_option maxRecDepth 100000
open Go.RowKit

/-- The greatest power of two below n. -/
def sp (n : Nat) : Nat := if n < 2 then 0 else 2 ^ (n - 1).log2
theorem sp_small {n : Nat} (h : n < 2) : sp n = 0 := if_pos h
theorem sp_pow {n : Nat} (h : 2 ≤ n) : sp n = 2 ^ (n - 1).log2 := if_neg (by omega)
theorem sp_lt {n : Nat} (h : 2 ≤ n) : sp n < n := by
  rw [sp_pow h]
  have := Nat.log2_self_le (n := n - 1) (by omega)
  omega
theorem sp_pos {n : Nat} (h : 2 ≤ n) : 1 ≤ sp n := by
  rw [sp_pow h]
  exact Nat.two_pow_pos _
theorem sp_le {n : Nat} (h : 2 ≤ n) : n ≤ 2 * sp n := by
  rw [sp_pow h]
  have : n - 1 < 2 ^ ((n - 1).log2 + 1) := Nat.lt_log2_self
  rw [Nat.pow_succ] at this
  omega
theorem sp_of {n k : Nat} (h1 : 2 ^ k < n) (h2 : n ≤ 2 * 2 ^ k) : sp n = 2 ^ k := by
  have hp := Nat.two_pow_pos k
  rw [sp_pow (by omega)]
  congr 1
  rw [Nat.log2_eq_iff (by omega), Nat.pow_succ]
  omega
/-- The text of two hashes, and its hash. -/
def ndT (f g : Nat → Nat) : Nat → Nat := cat (fun _ => 1) 1 (cat f 32 g)
def nd (f g : Nat → Nat) : Nat → Nat := hByte (hashS (ndT f g) 65)
/-- The hash of an entry. -/
def lf (f : Nat → Nat) (n : Nat) : Nat → Nat := hByte (hashS (cat (fun _ => 0) 1 f) (1 + n))
/-- The hash of nothing. -/
def e0 : Nat → Nat := hByte (hashS (fun _ => 0) 0)
/-- The root of n hashes. -/
def rt (F : Nat → Nat → Nat) (n : Nat) : Nat → Nat :=
  if _h : n < 2 then (if n = 0 then e0 else F 0) else nd (rt F (sp n)) (rt (fun i => F (sp n + i)) (n - sp n))
termination_by n
decreasing_by
  · exact sp_lt (by omega)
  · have := sp_pos (n := n) (by omega)
    omega
theorem rt_zero (F : Nat → Nat → Nat) : rt F 0 = e0 := by rw [rt, dif_pos (by omega), if_pos rfl]
theorem rt_one (F : Nat → Nat → Nat) : rt F 1 = F 0 := by rw [rt, dif_pos (by omega), if_neg (by omega)]
theorem rt_more (F : Nat → Nat → Nat) {n : Nat} (h : 2 ≤ n) : rt F n = nd (rt F (sp n)) (rt (fun i => F (sp n + i)) (n - sp n)) := by rw [rt, dif_neg (by omega)]
theorem hByte_lt' (s : St) (i : Nat) : hByte s i < 256 := Nat.mod_lt _ (by omega)
theorem nd_lt (f g : Nat → Nat) (i : Nat) : nd f g i < 256 := hByte_lt' _ _
theorem ndT_lt {f g : Nat → Nat} (hf : ∀ i, f i < 256) (hg : ∀ i, g i < 256) (i : Nat) : ndT f g i < 256 := cat_lt (fun _ => by omega) (cat_lt hf hg 32) 1 i
theorem rt_lt {F : Nat → Nat → Nat} (hF : ∀ i j, F i j < 256) (n j : Nat) : rt F n j < 256 := by
  by_cases h : n < 2
  · rw [rt, dif_pos h]
    split
    · exact hByte_lt' _ _
    · exact hF _ _
  · rw [rt_more F (by omega)]
    exact nd_lt _ _ _
theorem nd_congr {f g f' g' : Nat → Nat} (h1 : ∀ j, j < 32 → f j = f' j) (h2 : ∀ j, j < 32 → g j = g' j) : nd f g = nd f' g' := by
  unfold nd
  rw [hashS_congr (f := ndT f g) (g := ndT f' g') (fun i hi => ?_)]
  unfold ndT cat
  by_cases e1 : i < 1
  · rw [if_pos e1, if_pos e1]
  · rw [if_neg e1, if_neg e1]
    by_cases e2 : i - 1 < 32
    · rw [if_pos e2, if_pos e2, h1 _ e2]
    · rw [if_neg e2, if_neg e2, h2 _ (by omega)]
/-- A hash, as a value. -/
def hv (f : Nat → Nat) : Value := .agg (ab f 32).toArray
/-- Hashes in memory. -/
structure HL (w : World) (x : Option Addr) (n : Nat) (F : Nat → Nat → Nat) : Prop where
  lt : ∀ i j, F i j < 256
  at_ : n = 0 ∨ ∃ b o, x = some ⟨b, o, none⟩ ∧ ∀ i, i < n → w.rangeAt b (o + i * 32) (ab (F i) 32)
theorem range_keep {W w1 : World} {b o : Nat} {vs : List Value} (h : W.rangeAt b o vs) (hb : Below W.heap.size W w1) : w1.rangeAt b o vs := fun j v hv => later hb (h j v hv)
theorem HL.keep {W w1 : World} {x : Option Addr} {n : Nat} {F : Nat → Nat → Nat} (h : HL W x n F) (hb : Below W.heap.size W w1) : HL w1 x n F :=
  ⟨h.lt, h.at_.elim Or.inl fun ⟨b, o, e, hc⟩ => Or.inr ⟨b, o, e, fun i hi => range_keep (hc i hi) hb⟩⟩
theorem HL.head {w : World} {x : Option Addr} {n : Nat} {F : Nat → Nat → Nat} (h : HL w x n F) (m : Nat) (hm : m ≤ n) : HL w x m F :=
  ⟨h.lt, h.at_.elim (fun h0 => Or.inl (by omega)) fun ⟨b, o, e, hc⟩ => Or.inr ⟨b, o, e, fun i hi => hc i (by omega)⟩⟩
end Go.Proofs.YtpokecijongkpaaDoor
