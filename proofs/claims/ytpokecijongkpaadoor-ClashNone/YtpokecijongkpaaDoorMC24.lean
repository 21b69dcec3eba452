/- Layer 20's laws: awake. ClashNone. How the parameters, and the program's two tables, are read before the call. How parameters of hashes, and of lists of hashes, are read before the call. A list of hashes within a parameter. How what is said of hashes is read before the call. -/
import Derived.Test.YtpokecijongkpaaDoorMC22
import Derived.Test.YtpokecijongkpaaDoorMC23
import Derived.Test.YtpokecijongkpaaDoorMC08
import Derived.Test.YtpokecijongkpaaDoorMC06
import Derived.Test.YtpokecijongkpaaDoorMC05
import Derived.Test.YtpokecijongkpaaDoorMC19
import Derived.Test.YtpokecijongkpaaDoorMC13
import Derived.Test.YtpokecijongkpaaDoorTie
import Derived.Test.YtpokecijongkpaaDoorCards
import Derived.ProofKit
import Derived.LaidMore
import Derived.MakeChecks
import Derived.Lib.LaidTab
import Derived.Stop.LaidErr
import Derived.Laws.IdiomArrays
import Derived.OpenShut
import Derived.Carry
import Derived.ChangeMaps5
import Derived.Stop.Joined
import Derived.Deep.Grids
import Derived.Deep.Slices
namespace Go.Proofs.YtpokecijongkpaaDoor
set_option maxRecDepth 100000
open Go.RowKit
attribute [local go_sem ↓] Go.wp_at_zero Go.wp_at_succ

theorem leaf_nil_ne (f : Nat → Nat) : eqB (lf f 0) (fun _ => 0) 32 = false := by
  refine decide_eq_false (fun h => ?_)
  have h0 := h 0 (by omega)
  unfold lf at h0
  rw [hashS_congr (f := cat (fun _ => 0) 1 f) (g := nil8) (fun i hi => by
    obtain rfl : i = 0 := by omega
    rfl), zb_hash] at h0
  exact absurd h0 (by decide)
theorem sp_three : sp 3 = 2 := by decide
set_option maxRecDepth 100000 in
set_option maxHeartbeats 4000000 in
theorem awake_any {w : World} (hT : Tab w) : Calls Tryd.prog 7 #[] w fun e w' => e = .returned (.bool true) ∧ Below w.heap.size w w' := by
  have HS := hide (fun W => split_any W (k := 3) (by omega) (by omega))
  rw [show (3 : Int).toNat = 3 from rfl, sp_three] at HS
  have HL := hide (leaf_any (w := w) (x := none) (n := 0) (c := 0) (f := fun _ => 0) hT ⟨fun _ => by omega, Or.inl rfl⟩ (Nat.le_refl _) (by unfold maxLen; omega) (by omega))
  have HE := hide (fun W => eqH (lf (fun _ => 0) 0) (fun _ => 0) W)
  rw [leaf_nil_ne] at HE
  unfold hv at HL
  generalize lf (fun _ => 0) 0 = s2 at HL HE
  clear hT
  go_enter Tryd.func7, Tryd.ntmps7
  go_wp2_with (first
    | (go_at_call 18; (with_reducible refine Calls.mono (HS.out _) ?_); rintro e w1 ⟨rfl, hw⟩; replace hw := hw.symm; subst hw)
    | (refine wpList_neH (by rfl) _ _ _ rfl _ _ false rfl rfl (HE.out _) ?_; simp only [Act.put, List.setIfInBounds_toArray, List.set_cons_zero, List.set_cons_succ])
    | (refine wpList_hk0 (by rfl) rfl ?_; simp only [Act.put, List.setIfInBounds_toArray, List.set_cons_zero, List.set_cons_succ])
    | (go_at_call 17; (with_reducible refine Calls.mono HL.out ?_); rintro e w2 ⟨rfl, hb⟩; have HB := hide hb; clear hb HL))
  go_ret
  exact ⟨rfl, HB.out⟩
end Go.Proofs.YtpokecijongkpaaDoor
namespace Go.Proofs.YtpokecijongkpaaDoor
set_option maxRecDepth 100000
open Go.RowKit
attribute [local go_sem ↓] Go.wp_at_zero Go.wp_at_succ

set_option maxRecDepth 100000 in
set_option maxHeartbeats 16000000 in
theorem clashNone_walk {w : World} {z : Option Addr} {n c : Nat} {F : Nat → Nat → Nat} {m : Int} (hT : TabZ w) (hx : HL w z n F) (hc : n ≤ c) (hcm : c ≤ maxLen) (hm0 : 0 ≤ m) (hm1 : m < 256) :
    Calls Tryd.prog 5 #[.slice z n c, .int .u8 m] w fun e w' => e = .returned (.bool true) ∧ Below w.heap.size w w' := by
  have HT := hide hT
  have HX := hide hx
  have HC := hide (And.intro hc hcm)
  clear hT hx hc hcm
  by_cases hn : n ≤ 60
  · have hq : (n : Int) ≤ 60 := by omega
    by_cases h0 : n = 0
    · subst h0
      clear hm0 hm1
      go_enter Tryd.func5, Tryd.ntmps5
      go_upto_region 2 with (go_at_call 7; (with_reducible refine Calls.mono (awake_any HT.out.tab) ?_); rintro e W1 ⟨rfl, hb⟩; have HB1 := hide hb; clear hb)
      go_wp2_with (go_at_call 7; (with_reducible refine Calls.mono (awake_any (HT.out.keep HB1.out).tab) ?_); rintro e W2 ⟨rfl, hb⟩; have HB2 := hide (Go.Proofs.YtpokecijongkpaaDoor.K.call HB1.out hb); clear hb)
      go_ret
      exact ⟨rfl, HB2.out⟩
    · obtain ⟨i, hi, hin⟩ := mod_n' hm0 (show 0 < n by omega)
      have hb0 : ((n : Int) == 0) = false := beq_eq_false_iff_ne.2 (by omega)
      obtain ⟨s, hs⟩ : ∃ s, i + 1 = s := ⟨_, rfl⟩
      have hi9 : i ≤ 1000 := by omega
      have hsn : s ≤ n := by omega
      have hs1 : 1 ≤ s := by omega
      have hiI : (i : Int) < (n : Int) := by omega
      have hsI : (s : Int) ≤ (n : Int) := by omega
      have hsC : (s : Int) ≤ (c : Int) := by have := HC.out.1; omega
      have hcn : ¬ (c = 0) := by have := HC.out.1; omega
      have HN := hide (And.intro hn (And.intro hin (And.intro hs1 hsn)))
      obtain ⟨t, ht⟩ : ∃ t, F i = t := ⟨_, rfl⟩
      obtain ⟨r2, hr2⟩ : ∃ r, rt F s = r := ⟨_, rfl⟩
      have htl : ∀ j, t j < 256 := by rw [← ht]; exact HX.out.lt i
      have hr2l : ∀ j, r2 j < 256 := by rw [← hr2]; exact rt_lt HX.out.lt s
      have hro2 := fun W (h : Below w.heap.size w W) => refRoot_any s (c := c) ((HX.out.keep h).head s hsn) (by have := HC.out.1; omega) HC.out.2 (by omega)
      have hpa := fun W (h : Below w.heap.size w W) => refPath_any (n := n) (c := c) (m := i) (HX.out.keep h) HC.out.1 HC.out.2 (by omega) hin
      have hpr := fun W (h : Below w.heap.size w W) => refProof_any (n := n) (c := c) (m := s) (HX.out.keep h) HC.out.1 HC.out.2 (by omega) ⟨hs1, hsn⟩
      obtain ⟨LA, hLA⟩ : ∃ L, pth F n i = L := ⟨_, rfl⟩
      obtain ⟨LB, hLB⟩ : ∃ L, prf F n s true = L := ⟨_, rfl⟩
      have hlA : ∀ f ∈ LA, ∀ j, f j < 256 := by rw [← hLA]; exact pth_lt n i HX.out.lt
      have hlB : ∀ f ∈ LB, ∀ j, f j < 256 := by rw [← hLB]; exact prf_lt n s true HX.out.lt
      have hnA : LA.length ≤ 1000 := by rw [← hLA]; exact Nat.le_trans (pth_len_n n i F) (by omega)
      have hnB : LB.length ≤ 1000 := by rw [← hLB]; exact Nat.le_trans (prf_len_n n s true F) (by omega)
      unfold hv at hro2
      rw [hr2] at hro2
      rw [hLA] at hpa
      rw [hLB] at hpr
      have hca := fun W (h : Below w.heap.size w W) (a : Option Addr) (d : Nat) (ha : HL W a LA.length (lF LA)) (hd : LA.length ≤ d ∧ d ≤ maxLen) => clashPath_any (w := W) (m := (i : Int)) (f := t) (c := c) (d := d) (HT.out.keep h).tab (HX.out.keep h) HC.out.1 HC.out.2 (by omega) ha hd.1 hd.2 hnA (by omega) (by omega) htl
      have hcb := fun W (h : Below w.heap.size w W) (a : Option Addr) (d : Nat) (ha : HL W a LB.length (lF LB)) (hd : LB.length ≤ d ∧ d ≤ maxLen) => clashProof_any (w := W) (m := (s : Int)) (f := r2) (c := c) (d := d) (HT.out.keep h) (HX.out.keep h) HC.out.1 HC.out.2 (by omega) ha hd.1 hd.2 hnB (by omega) (by omega) hr2l
      rw [dcv_there (by rw [ht]; exact eqB_refl t)] at hca
      rw [bty_there (by rw [hr2]; exact eqB_refl r2)] at hcb
      unfold hv at hca hcb
      rcases HX.out.at_ with h5 | ⟨bz, oz, rfl, _⟩
      · exact absurd h5 h0
      have hRi : w.rangeAt bz (oz + i * 32) (ab t 32) := by rw [← ht]; exact HX.out.rangeA hin
      have HRo2 := hide hro2
      have HPt := hide hpa
      have HPf := hide hpr
      have HCa := hide hca
      have HCb := hide hcb
      have HL2 := hide (And.intro hlA hlB)
      have HRz := hide hRi
      have hwn := wrap_n' hi9
      have hws : (i : Int) + 1 = (s : Int) := by omega
      have hi2 : (wrap64 m).tmod (n : Int) = (i : Int) := by rw [wrap_m' hm0 hm1]; exact hi
      clear hi hm0 hm1 hin hn hs hs1 hsn htl hr2l hro2 hpa hpr hlA hlB hnA hnB hRi ht hr2 hLA hLB hi9 hca hcb
      go_enter Tryd.func5, Tryd.ntmps5
      go_upto_region 3 with (go_at_call 7; (with_reducible refine Calls.mono (awake_any HT.out.tab) ?_); rintro e W1 ⟨rfl, hb⟩; have HB1 := hide hb; clear hb)
      go_upto_region 4 with fail
      clear hi2 hwn
      go_upto_region 5 with (go_at_call 13; (with_reducible refine Calls.mono (HPt.out _ HB1.out) ?_); rintro e W5 hp; obtain ⟨a3, c3, rfl, h3, hq3, hb3⟩ := hp.out HL2.out.1; obtain ⟨_, _, he3, hc3, hm3⟩ := hq3.form; cases he3; have HA5 := hide (And.intro h3 (And.intro hc3 hm3)); have HB5 := hide (Go.Proofs.YtpokecijongkpaaDoor.K.call HB1.out hb3); clear h3 hb3 hp hc3 hm3 hq3)
      go_upto_region 6 with (go_at_call 14; (with_reducible refine Calls.mono (HPf.out _ HB5.out) ?_); rintro e W6 hp; obtain ⟨a4, c4, rfl, h4, hq4, hb4⟩ := hp.out HL2.out.2; obtain ⟨_, _, he4, hc4, hm4⟩ := hq4.form; cases he4; have HB4 := hide (And.intro h4 (And.intro hc4 hm4)); have HA6 := hide (HA5.out.1.keep hb4); have HB6 := hide (Go.Proofs.YtpokecijongkpaaDoor.K.call HB5.out hb4); clear h4 hb4 hp hc4 hm4 hq4)
      go_upto_region 7 with (first
        | (go_at_call 8; (with_reducible refine Calls.mono (HCa.out _ HB6.out _ _ HA6.out HA5.out.2) ?_); rintro e W7 hE; obtain ⟨a, na, ca, b, nb, cb, A, B, rfl, _, _, hX2, hb⟩ := hE; obtain ⟨rfl, rfl⟩ := hX2.no rfl; have HB7 := hide (Go.Proofs.YtpokecijongkpaaDoor.K.call HB6.out hb); have HB47 := hide (HB4.out.1.keep hb); clear hX2 hb)
        | (refine wpList_load_h (g := bz) rfl _ rfl rfl (range_keep HRz.out HB6.out) ?_))
      go_upto_region 8 with (first
        | (go_at_call 11; (with_reducible refine Calls.mono (HCb.out _ HB8.out _ _ HB48.out HB4.out.2) ?_); rintro e W9 hE; obtain ⟨a', na', ca', b', nb', cb', A', B', rfl, _, _, hX2, hb⟩ := hE; obtain ⟨rfl, rfl⟩ := hX2.no rfl; have HB9 := hide (Go.Proofs.YtpokecijongkpaaDoor.K.call HB8.out hb); clear hX2 hb)
        | (go_at_call 15; (with_reducible refine Calls.mono (HRo2.out _ HB7.out) ?_); rintro e W8 ⟨rfl, hb⟩; have HB8 := hide (Go.Proofs.YtpokecijongkpaaDoor.K.call HB7.out hb); have HB48 := hide (HB47.out.keep hb); clear hb))
      go_wp2_with fail
      go_ret
      exact ⟨rfl, HB9.out⟩
  · have hq : (60 : Int) < (n : Int) := by omega
    clear hn hm0 hm1
    go_enter Tryd.func5, Tryd.ntmps5
    go_upto_region 2 with (go_at_call 7; (with_reducible refine Calls.mono (awake_any HT.out.tab) ?_); rintro e W1 ⟨rfl, hb⟩; have HB1 := hide hb; clear hb)
    go_wp2_with (go_at_call 7; (with_reducible refine Calls.mono (awake_any (HT.out.keep HB1.out).tab) ?_); rintro e W2 ⟨rfl, hb⟩; have HB2 := hide (Go.Proofs.YtpokecijongkpaaDoor.K.call HB1.out hb); clear hb)
    go_ret
    exact ⟨rfl, HB2.out⟩
end Go.Proofs.YtpokecijongkpaaDoor
namespace Go.Proofs.YtpokecijongkpaaDoor
set_option maxRecDepth 100000
open Go.ChangeShapes Go.WideShapes Go.ChangeAt Go.RowKit

theorem own : ownKnob Tryd.prog.godebug = none := by kernel_rfl
theorem Tryd.laidOut : laidOutB Tryd.prog = true := by kernel_rfl
theorem cellsU8 : Tryd.prog.cellsOf 5 = 1 := by kernel_rfl
theorem cellsU32 : Tryd.prog.cellsOf 57 = 1 := by kernel_rfl
theorem cellsSt : Tryd.prog.cellsOf 67 = 8 := by kernel_rfl
theorem cellsW64 : Tryd.prog.cellsOf 83 = 64 := by kernel_rfl
theorem u8_of_wf {x : Int} (h : (Lit.int .u8 x).wf = true) : 0 ≤ x ∧ x < 256 := by
  simp [Lit.wf, IntKind.min, IntKind.max, IntKind.signed, IntKind.bits] at h
  exact ⟨by omega, by omega⟩
theorem gFirst : Tryd.prog.globalNamed "chronicle/sha256.first" = some 0 := by kernel_rfl
theorem tFirst : (Tryd.prog.globals[0]?).map (·.type) = some 67 := by kernel_rfl
theorem gK : Tryd.prog.globalNamed "chronicle/sha256.constants" = some 3 := by kernel_rfl
theorem tK : (Tryd.prog.globals[3]?).map (·.type) = some 83 := by kernel_rfl
def laid2 : List (String × DataW Unit) := [("chronicle/sha256.first", Rows.laid_chronicle_sha256_first), ("chronicle/sha256.constants", Rows.laid_chronicle_sha256_constants)]
theorem cellsA64 : Tryd.prog.cellsOf 68 = 64 := by kernel_rfl
theorem gBits : Tryd.prog.globalNamed "math/bits.deBruijn64tab" = some 2 := by kernel_rfl
theorem tBits : (Tryd.prog.globals[2]?).map (·.type) = some 68 := by kernel_rfl
def laid4 : List (String × DataW Unit) := [("math/bits.deBruijn32tab", Rows.laid_math_bits_deBruijn32tab), ("math/bits.deBruijn64tab", Rows.laid_math_bits_deBruijn64tab), ("chronicle/sha256.first", Rows.laid_chronicle_sha256_first), ("chronicle/sha256.constants", Rows.laid_chronicle_sha256_constants)]
theorem bits_at : ∀ i, i < 64 → ([0, 1, 56, 2, 57, 49, 28, 3, 61, 58, 42, 50, 38, 29, 17, 4, 62, 47, 59, 36, 45, 43, 51, 22, 53, 39, 33, 30, 24, 18, 12, 5, 63, 55, 48, 27, 60, 41, 37, 16, 46, 35, 44, 21, 52, 32, 23, 11, 54, 26, 40, 15, 34, 20, 31, 10, 25, 14, 19, 9, 13, 8, 7, 6] : List Int).getD i 0 = ((Lib.deBruijn64tab.getD i 0 : Nat) : Int) := by decide +kernel
theorem first_at : ∀ i, i < 8 → ([1779033703, 3144134277, 1013904242, 2773480762, 1359893119, 2600822924, 528734635, 1541459225] : List Int).getD i 0 = wn (start.w i) := by decide +kernel
theorem k_at : ∀ i, i < 64 → ([1116352408, 1899447441, 3049323471, 3921009573, 961987163, 1508970993, 2453635748, 2870763221, 3624381080, 310598401, 607225278, 1426881987, 1925078388, 2162078206, 2614888103, 3248222580, 3835390401, 4022224774, 264347078, 604807628, 770255983, 1249150122, 1555081692, 1996064986, 2554220882, 2821834349, 2952996808, 3210313671, 3336571891, 3584528711, 113926993, 338241895, 666307205, 773529912, 1294757372, 1396182291, 1695183700, 1986661051, 2177026350, 2456956037, 2730485921, 2820302411, 3259730800, 3345764771, 3516065817, 3600352804, 4094571909, 275423344, 430227734, 506948616, 659060556, 883997877, 958139571, 1322822218, 1537002063, 1747873779, 1955562222, 2024104815, 2227730452, 2361852424, 2428436474, 2756734187, 3204031479, 3329325298] : List Int).getD i 0 = wn (kW i) := by decide +kernel
theorem tab_of_plain {W : World} (h : laidMet Tryd.prog laid2 W) : Tab W := by
  have h2 := h.tail
  have hf : Lib.TabIs Tryd.prog W "chronicle/sha256.first" .u32 [1779033703, 3144134277, 1013904242, 2773480762, 1359893119, 2600822924, 528734635, 1541459225] := Lib.tabIs_of_head (rest := [("chronicle/sha256.constants", Rows.laid_chronicle_sha256_constants)]) gFirst tFirst Tryd.underlying67 Tryd.underlying57 cellsU32 cellsSt h
  have hk : Lib.TabIs Tryd.prog W "chronicle/sha256.constants" .u32 [1116352408, 1899447441, 3049323471, 3921009573, 961987163, 1508970993, 2453635748, 2870763221, 3624381080, 310598401, 607225278, 1426881987, 1925078388, 2162078206, 2614888103, 3248222580, 3835390401, 4022224774, 264347078, 604807628, 770255983, 1249150122, 1555081692, 1996064986, 2554220882, 2821834349, 2952996808, 3210313671, 3336571891, 3584528711, 113926993, 338241895, 666307205, 773529912, 1294757372, 1396182291, 1695183700, 1986661051, 2177026350, 2456956037, 2730485921, 2820302411, 3259730800, 3345764771, 3516065817, 3600352804, 4094571909, 275423344, 430227734, 506948616, 659060556, 883997877, 958139571, 1322822218, 1537002063, 1747873779, 1955562222, 2024104815, 2227730452, 2361852424, 2428436474, 2756734187, 3204031479, 3329325298] := Lib.tabIs_of_head (rest := []) gK tK Tryd.underlying83 Tryd.underlying57 cellsU32 cellsW64 h2
  exact ⟨fun i hi => by rw [← first_at i hi]; exact hf.cell gFirst i hi, fun i hi => by rw [← k_at i hi]; exact hk.cell gK i hi⟩
theorem tabZ_of_laid {W : World} (h : laidMetH Tryd.prog laid4 W) : TabZ W := by
  rw [MakeChecks.laidMetH_plain _ _ _ (by kernel_rfl)] at h
  have h1 := h.tail
  have hb : Lib.TabIs Tryd.prog W "math/bits.deBruijn64tab" .u8 [0, 1, 56, 2, 57, 49, 28, 3, 61, 58, 42, 50, 38, 29, 17, 4, 62, 47, 59, 36, 45, 43, 51, 22, 53, 39, 33, 30, 24, 18, 12, 5, 63, 55, 48, 27, 60, 41, 37, 16, 46, 35, 44, 21, 52, 32, 23, 11, 54, 26, 40, 15, 34, 20, 31, 10, 25, 14, 19, 9, 13, 8, 7, 6] := Lib.tabIs_of_head (rest := laid2) gBits tBits Tryd.underlying68 Tryd.underlying5 cellsU8 cellsA64 h1
  exact ⟨tab_of_plain h1.tail, fun i hi => by rw [← bits_at i hi]; exact hb.cell gBits i hi⟩
theorem door_met4 (os : Os) (args : Array Value) : laidMetH Tryd.prog laid4 ((World.doorLaid Tryd.prog 200 os).forCall (fun _ _ => 0) ⟨#[], args, []⟩).memory :=
  laidMetH_of_parts3 (fuel := 8) (laidMet_of_run' 8 (by kernel_rfl) (by kernel_rfl)) (by kernel_rfl) (by kernel_rfl)
end Go.Proofs.YtpokecijongkpaaDoor
namespace Go.Proofs.YtpokecijongkpaaDoor
set_option maxRecDepth 100000
open Go.ChangeShapes Go.WideShapes Go.ChangeAt Go.RowKit

theorem cellsHash : Tryd.prog.cellsOf 24 = 32 := by kernel_rfl
theorem hash_cells {H : Type} {enc : TypeId × Value → H} {W : World} {fuel : Nat} {l : List Value} {y : DataW H × List MemPlace} (hl : l.length = 32)
    (hf : DataW.trod enc Tryd.prog W 0 (fun _ => true) true fuel 24 l = some y) : ∃ f : Nat → Nat, (∀ i, f i < 256) ∧ l = ab f 32 := by
  obtain ⟨xs, m, _, _, _, hxl, hat⟩ := DataW.trod_array Tryd.underlying24 hf
  have key : ∀ i, i < 32 → ∃ n : Nat, l[i]? = some (.int .u8 ((n : Nat) : Int)) ∧ n < 256 := fun i hi => by
    have h1 := hat i hi
    rw [cellsU8, Nat.mul_one, List.getElem?_eq_getElem (by omega)] at h1
    obtain ⟨n, e1, _, hw⟩ := DataW.trod_int Tryd.underlying5 h1
    have hb := u8_of_wf hw
    have e2 : (l.drop i).take 1 = [.int .u8 n] := e1
    have e3 : ((l.drop i).take 1)[0]? = some (.int .u8 n) := by rw [e2]; rfl
    rw [List.getElem?_take_of_lt (by decide), List.getElem?_drop, Nat.add_zero] at e3
    exact ⟨n.toNat, by rw [e3, Int.toNat_of_nonneg hb.1], by omega⟩
  obtain ⟨F, hF⟩ : ∃ F : Nat → Nat, ∀ i, F i < 256 ∧ (i < 32 → l[i]? = some (.int .u8 ((F i : Nat) : Int))) := by
    refine ⟨fun i => if hi : i < 32 then (key i hi).choose else 0, fun i => ?_⟩
    by_cases hi : i < 32
    · simp only [hi, dite_true, forall_const]
      exact ⟨(key i hi).choose_spec.2, (key i hi).choose_spec.1⟩
    · simp [hi]
  refine ⟨F, fun i => (hF i).1, ?_⟩
  apply List.ext_getElem?
  intro i
  rcases Nat.lt_or_ge i 32 with hi | hi
  · rw [(hF i).2 hi, ab_at F hi]
  · rw [List.getElem?_eq_none (by omega), List.getElem?_eq_none (by rw [ab_len]; exact hi)]
/-- A parameter that is a list of hashes. -/
theorem open_hashes {H : Type} {enc : TypeId × Value → H} {W : World} {base : Nat} {v : Value} {d : DataW H} {p : List MemPlace}
    (hv0 : Value.okWide Tryd.prog W .any base 22 v) (h : DataW.Trod enc Tryd.prog W 0 (fun _ => true) true 22 v d p) :
    ∃ z n c F, v = .slice z n c ∧ HL W z n F ∧ n ≤ c ∧ c ≤ maxLen := by
  obtain ⟨a0, len0, cap0, rfl⟩ := okWide_slice Tryd.underlying22 hv0
  obtain ⟨fuel, hf⟩ := h
  rcases Go.Deep.open_slice Tryd.underlying22 hf with ⟨hcs, _⟩ | ⟨a, len, cap, m, n, D, Pl, hcs, _, hl, hmx, hm, _, hx⟩
  · simp [Value.cells] at hcs
    exact ⟨none, 0, 0, fun _ _ => 0, by rw [hcs.1, hcs.2.1, hcs.2.2], ⟨fun _ _ => by omega, Or.inl rfl⟩, Nat.le_refl _, by unfold maxLen; omega⟩
  · simp [Value.cells] at hcs
    obtain ⟨rfl, rfl, rfl⟩ := hcs
    simp only [if_true] at hm
    subst hm
    rw [cellsHash] at hx
    have key : ∀ i, i < m → ∃ f : Nat → Nat, W.cells? 0 (a.add (i * 32)) 32 = some (ab f 32) ∧ ∀ j, f j < 256 := fun i hi => by
      obtain ⟨cs', h1, h2⟩ := hx i hi
      obtain ⟨_, hlen, _⟩ := World.cells?_some h1
      obtain ⟨f, hf1, rfl⟩ := hash_cells hlen h2
      exact ⟨f, h1, hf1⟩
    have hI : Inhabited (Nat → Nat) := ⟨fun _ => 0⟩
    obtain ⟨O, hO⟩ := Go.Deep.choose_lt key
    refine ⟨some a, len0, _, fun i => if i < m then O i else fun _ => 0, rfl, ⟨fun i j => ?_, ?_⟩, hl, hmx⟩
    · by_cases h : i < m
      · show (if i < m then O i else fun _ => 0) j < 256
        rw [if_pos h]
        exact (hO i h).2 j
      · show (if i < m then O i else fun _ => 0) j < 256
        rw [if_neg h]
        omega
    by_cases h0 : len0 = 0
    · exact Or.inl h0
    · right
      obtain ⟨b, off, spot⟩ := a
      have hc : ∀ i j, i < len0 → j < 32 → W.cell? (((⟨b, off, spot⟩ : Addr).add (i * 32)).add j) = (ab (O i) 32)[j]? := fun i j hi hj => (World.cells?_some (hO i (by omega)).1).2.2 j hj
      have hspot : spot = none := by
        have h1 : W.cell? (((⟨b, off, spot⟩ : Addr).add (0 * 32)).add 0) = some (.int .u8 ((O 0 0 : Nat) : Int)) := (hc 0 0 (by omega) (by omega)).trans (ab_at _ (by omega))
        simpa [Addr.add] using World.cell?_spot h1
      subst hspot
      refine ⟨b, off, rfl, fun i hi j v hv => ?_⟩
      have hi' : i < m := by omega
      simp only [hi', if_true] at hv
      have hj : j < 32 := by
        have := (List.getElem?_eq_some_iff.1 hv).1
        rwa [ab_len] at this
      have := hc i j hi hj
      rw [Addr.add_mid, Addr.add_mid] at this
      rw [this]
      exact hv
end Go.Proofs.YtpokecijongkpaaDoor
namespace Go.Proofs.YtpokecijongkpaaDoor
set_option maxRecDepth 100000
open Go.ChangeShapes Go.WideShapes Go.ChangeAt Go.RowKit

end Go.Proofs.YtpokecijongkpaaDoor
namespace Go.Proofs.YtpokecijongkpaaDoor
set_option maxRecDepth 100000
open Go.ChangeShapes Go.WideShapes Go.ChangeAt Go.RowKit

end Go.Proofs.YtpokecijongkpaaDoor
