/- How the parameters, and the program's two tables, are read before the call. How parameters of hashes, and of lists of hashes, are read before the call. ProofProofs. ProofShort. ProofLast. -/
import Derived.Test.YteplklbpehkdjaaDoorMQ05
import Derived.Test.YteplklbpehkdjaaDoorMQ09
import Derived.Test.YteplklbpehkdjaaDoorTie
import Derived.Test.YteplklbpehkdjaaDoorCards
import Derived.ProofKit
import Derived.LaidMore
import Derived.MakeChecks
import Derived.Lib.LaidTab
import Derived.Stop.LaidErr
import Derived.Laws.IdiomArrays
import Derived.OpenShut
import Derived.Carry
import Derived.ChangeMaps5
import Derived.Stop.Joined
import Derived.Deep.Grids
import Derived.Deep.Slices
namespace Go.Proofs.YteplklbpehkdjaaDoor
set_option maxRecDepth 100000
open Go.ChangeShapes Go.WideShapes Go.ChangeAt Go.RowKit

theorem own : ownKnob Tryd.prog.godebug = none := by kernel_rfl
theorem Tryd.laidOut : laidOutB Tryd.prog = true := by kernel_rfl
theorem cellsU8 : Tryd.prog.cellsOf 5 = 1 := by kernel_rfl
theorem cellsU32 : Tryd.prog.cellsOf 42 = 1 := by kernel_rfl
theorem cellsSt : Tryd.prog.cellsOf 59 = 8 := by kernel_rfl
theorem cellsW64 : Tryd.prog.cellsOf 52 = 64 := by kernel_rfl
theorem u8_of_wf {x : Int} (h : (Lit.int .u8 x).wf = true) : 0 ≤ x ∧ x < 256 := by
  simp [Lit.wf, IntKind.min, IntKind.max, IntKind.signed, IntKind.bits] at h
  exact ⟨by omega, by omega⟩
theorem gFirst : Tryd.prog.globalNamed "chronicle/sha256.first" = some 0 := by kernel_rfl
theorem tFirst : (Tryd.prog.globals[0]?).map (·.type) = some 59 := by kernel_rfl
theorem gK : Tryd.prog.globalNamed "chronicle/sha256.constants" = some 1 := by kernel_rfl
theorem tK : (Tryd.prog.globals[1]?).map (·.type) = some 52 := by kernel_rfl
def laid1 : List (String × DataW Unit) := [("chronicle/sha256.first", Rows.laid_chronicle_sha256_first), ("chronicle/sha256.constants", Rows.laid_chronicle_sha256_constants)]
theorem first_at : ∀ i, i < 8 → ([1779033703, 3144134277, 1013904242, 2773480762, 1359893119, 2600822924, 528734635, 1541459225] : List Int).getD i 0 = wn (start.w i) := by decide +kernel
theorem k_at : ∀ i, i < 64 → ([1116352408, 1899447441, 3049323471, 3921009573, 961987163, 1508970993, 2453635748, 2870763221, 3624381080, 310598401, 607225278, 1426881987, 1925078388, 2162078206, 2614888103, 3248222580, 3835390401, 4022224774, 264347078, 604807628, 770255983, 1249150122, 1555081692, 1996064986, 2554220882, 2821834349, 2952996808, 3210313671, 3336571891, 3584528711, 113926993, 338241895, 666307205, 773529912, 1294757372, 1396182291, 1695183700, 1986661051, 2177026350, 2456956037, 2730485921, 2820302411, 3259730800, 3345764771, 3516065817, 3600352804, 4094571909, 275423344, 430227734, 506948616, 659060556, 883997877, 958139571, 1322822218, 1537002063, 1747873779, 1955562222, 2024104815, 2227730452, 2361852424, 2428436474, 2756734187, 3204031479, 3329325298] : List Int).getD i 0 = wn (kW i) := by decide +kernel
theorem tab_of_laid {W : World} (h : laidMetH Tryd.prog laid1 W) : Tab W := by
  rw [MakeChecks.laidMetH_plain _ _ _ (by kernel_rfl)] at h
  have h2 := h.tail
  have hf : Lib.TabIs Tryd.prog W "chronicle/sha256.first" .u32 [1779033703, 3144134277, 1013904242, 2773480762, 1359893119, 2600822924, 528734635, 1541459225] := Lib.tabIs_of_head (rest := [("chronicle/sha256.constants", Rows.laid_chronicle_sha256_constants)]) gFirst tFirst Tryd.underlying59 Tryd.underlying42 cellsU32 cellsSt h
  have hk : Lib.TabIs Tryd.prog W "chronicle/sha256.constants" .u32 [1116352408, 1899447441, 3049323471, 3921009573, 961987163, 1508970993, 2453635748, 2870763221, 3624381080, 310598401, 607225278, 1426881987, 1925078388, 2162078206, 2614888103, 3248222580, 3835390401, 4022224774, 264347078, 604807628, 770255983, 1249150122, 1555081692, 1996064986, 2554220882, 2821834349, 2952996808, 3210313671, 3336571891, 3584528711, 113926993, 338241895, 666307205, 773529912, 1294757372, 1396182291, 1695183700, 1986661051, 2177026350, 2456956037, 2730485921, 2820302411, 3259730800, 3345764771, 3516065817, 3600352804, 4094571909, 275423344, 430227734, 506948616, 659060556, 883997877, 958139571, 1322822218, 1537002063, 1747873779, 1955562222, 2024104815, 2227730452, 2361852424, 2428436474, 2756734187, 3204031479, 3329325298] := Lib.tabIs_of_head (rest := []) gK tK Tryd.underlying52 Tryd.underlying42 cellsU32 cellsW64 h2
  exact ⟨fun i hi => by rw [← first_at i hi]; exact hf.cell gFirst i hi, fun i hi => by rw [← k_at i hi]; exact hk.cell gK i hi⟩
/-- The door's own heap meets the condition. -/
theorem door_met (os : Os) (args : Array Value) : laidMetH Tryd.prog laid1 ((World.doorLaid Tryd.prog 200 os).forCall (fun _ _ => 0) ⟨#[], args, []⟩).memory :=
  laidMetH_of_parts3 (fuel := 8) (laidMet_of_run' 8 (by kernel_rfl) (by kernel_rfl)) (by kernel_rfl) (by kernel_rfl)
end Go.Proofs.YteplklbpehkdjaaDoor
namespace Go.Proofs.YteplklbpehkdjaaDoor
set_option maxRecDepth 100000
open Go.ChangeShapes Go.WideShapes Go.ChangeAt Go.RowKit

theorem cellsHash : Tryd.prog.cellsOf 32 = 32 := by kernel_rfl
theorem hash_cells {H : Type} {enc : TypeId × Value → H} {W : World} {fuel : Nat} {l : List Value} {y : DataW H × List MemPlace} (hl : l.length = 32)
    (hf : DataW.trod enc Tryd.prog W 0 (fun _ => true) true fuel 32 l = some y) : ∃ f : Nat → Nat, (∀ i, f i < 256) ∧ l = ab f 32 := by
  obtain ⟨xs, m, _, _, _, hxl, hat⟩ := DataW.trod_array Tryd.underlying32 hf
  have key : ∀ i, i < 32 → ∃ n : Nat, l[i]? = some (.int .u8 ((n : Nat) : Int)) ∧ n < 256 := fun i hi => by
    have h1 := hat i hi
    rw [cellsU8, Nat.mul_one, List.getElem?_eq_getElem (by omega)] at h1
    obtain ⟨n, e1, _, hw⟩ := DataW.trod_int Tryd.underlying5 h1
    have hb := u8_of_wf hw
    have e2 : (l.drop i).take 1 = [.int .u8 n] := e1
    have e3 : ((l.drop i).take 1)[0]? = some (.int .u8 n) := by rw [e2]; rfl
    rw [List.getElem?_take_of_lt (by decide), List.getElem?_drop, Nat.add_zero] at e3
    exact ⟨n.toNat, by rw [e3, Int.toNat_of_nonneg hb.1], by omega⟩
  obtain ⟨F, hF⟩ : ∃ F : Nat → Nat, ∀ i, F i < 256 ∧ (i < 32 → l[i]? = some (.int .u8 ((F i : Nat) : Int))) := by
    refine ⟨fun i => if hi : i < 32 then (key i hi).choose else 0, fun i => ?_⟩
    by_cases hi : i < 32
    · simp only [hi, dite_true, forall_const]
      exact ⟨(key i hi).choose_spec.2, (key i hi).choose_spec.1⟩
    · simp [hi]
  refine ⟨F, fun i => (hF i).1, ?_⟩
  apply List.ext_getElem?
  intro i
  rcases Nat.lt_or_ge i 32 with hi | hi
  · rw [(hF i).2 hi, ab_at F hi]
  · rw [List.getElem?_eq_none (by omega), List.getElem?_eq_none (by rw [ab_len]; exact hi)]
/-- A parameter that is a list of hashes. -/
theorem open_hashes {H : Type} {enc : TypeId × Value → H} {W : World} {base : Nat} {v : Value} {d : DataW H} {p : List MemPlace}
    (hv0 : Value.okWide Tryd.prog W .any base 22 v) (h : DataW.Trod enc Tryd.prog W 0 (fun _ => true) true 22 v d p) :
    ∃ z n c F, v = .slice z n c ∧ HL W z n F ∧ n ≤ c ∧ c ≤ maxLen := by
  obtain ⟨a0, len0, cap0, rfl⟩ := okWide_slice Tryd.underlying22 hv0
  obtain ⟨fuel, hf⟩ := h
  rcases Go.Deep.open_slice Tryd.underlying22 hf with ⟨hcs, _⟩ | ⟨a, len, cap, m, n, D, Pl, hcs, _, hl, hmx, hm, _, hx⟩
  · simp [Value.cells] at hcs
    exact ⟨none, 0, 0, fun _ _ => 0, by rw [hcs.1, hcs.2.1, hcs.2.2], ⟨fun _ _ => by omega, Or.inl rfl⟩, Nat.le_refl _, by unfold maxLen; omega⟩
  · simp [Value.cells] at hcs
    obtain ⟨rfl, rfl, rfl⟩ := hcs
    simp only [if_true] at hm
    subst hm
    rw [cellsHash] at hx
    have key : ∀ i, i < m → ∃ f : Nat → Nat, W.cells? 0 (a.add (i * 32)) 32 = some (ab f 32) ∧ ∀ j, f j < 256 := fun i hi => by
      obtain ⟨cs', h1, h2⟩ := hx i hi
      obtain ⟨_, hlen, _⟩ := World.cells?_some h1
      obtain ⟨f, hf1, rfl⟩ := hash_cells hlen h2
      exact ⟨f, h1, hf1⟩
    have hI : Inhabited (Nat → Nat) := ⟨fun _ => 0⟩
    obtain ⟨O, hO⟩ := Go.Deep.choose_lt key
    refine ⟨some a, len0, _, fun i => if i < m then O i else fun _ => 0, rfl, ⟨fun i j => ?_, ?_⟩, hl, hmx⟩
    · by_cases h : i < m
      · show (if i < m then O i else fun _ => 0) j < 256
        rw [if_pos h]
        exact (hO i h).2 j
      · show (if i < m then O i else fun _ => 0) j < 256
        rw [if_neg h]
        omega
    by_cases h0 : len0 = 0
    · exact Or.inl h0
    · right
      obtain ⟨b, off, spot⟩ := a
      have hc : ∀ i j, i < len0 → j < 32 → W.cell? (((⟨b, off, spot⟩ : Addr).add (i * 32)).add j) = (ab (O i) 32)[j]? := fun i j hi hj => (World.cells?_some (hO i (by omega)).1).2.2 j hj
      have hspot : spot = none := by
        have h1 : W.cell? (((⟨b, off, spot⟩ : Addr).add (0 * 32)).add 0) = some (.int .u8 ((O 0 0 : Nat) : Int)) := (hc 0 0 (by omega) (by omega)).trans (ab_at _ (by omega))
        simpa [Addr.add] using World.cell?_spot h1
      subst hspot
      refine ⟨b, off, rfl, fun i hi j v hv => ?_⟩
      have hi' : i < m := by omega
      simp only [hi', if_true] at hv
      have hj : j < 32 := by
        have := (List.getElem?_eq_some_iff.1 hv).1
        rwa [ab_len] at this
      have := hc i j hi hj
      rw [Addr.add_mid, Addr.add_mid] at this
      rw [this]
      exact hv
end Go.Proofs.YteplklbpehkdjaaDoor
namespace Go.Proofs.YteplklbpehkdjaaDoor
set_option maxRecDepth 100000
open Go.RowKit
attribute [local go_sem ↓] Go.wp_at_zero Go.wp_at_succ

set_option maxRecDepth 100000 in
set_option maxHeartbeats 8000000 in
theorem proofProofs_walk {w : World} {z : Option Addr} {n c : Nat} {F : Nat → Nat → Nat} {m : Int} (hT : Tab w) (hx : HL w z n F) (hc : n ≤ c) (hcm : c ≤ maxLen) (_hm : (Lit.int .i64 m).wf = true) :
    Calls Tryd.prog 4 #[.slice z n c, .int .i64 m] w fun e w' => e = .returned (.bool true) ∧ Below w.heap.size w w' := by
  have HT := hide hT
  have HX := hide hx
  have HC := hide (And.intro hc hcm)
  clear hT hx hc hcm
  by_cases hn : n ≤ 80
  · have hq : (n : Int) ≤ 80 := by omega
    by_cases hm : m < 1 ∨ (n : Int) < m
    · have HE := hide (fun W => proof_er (w := W) (x := z) (c := c) hm)
      have HF := hide (fun W => refProof_er (w := W) (x := z) (c := c) hm)
      clear hm
      go_enter Tryd.func4, Tryd.ntmps4
      go_upto_region 3 with (go_at_call 8; refine Calls.mono (awake_any HT.out) ?_; rintro e W1 ⟨rfl, hb⟩; have HB1 := hide hb; clear hb)
      go_upto_region 4 with (go_at_call 12; refine Calls.mono (HE.out _) ?_; rintro e W2 ⟨rfl, hb⟩; have HB2 := hide (Go.Proofs.YteplklbpehkdjaaDoor.K.call HB1.out hb); clear hb)
      go_upto_region 5 with (go_at_call 13; refine Calls.mono (HF.out _) ?_; rintro e W3 ⟨rfl, hb⟩; have HB3 := hide (Go.Proofs.YteplklbpehkdjaaDoor.K.call HB2.out hb); clear hb)
      have HS := hide (fun W => same_l (W := W) (c := 0) (d := 0) (hl_nil W) (hl_nil W) (by omega))
      go_wp2_with (go_at_call 11; refine Calls.mono (HS.out _) ?_; rintro e W4 ⟨rfl, hb⟩; have HB4 := hide (Go.Proofs.YteplklbpehkdjaaDoor.K.call HB3.out hb); clear hb)
      go_ret
      exact ⟨rfl, HB4.out⟩
    · obtain ⟨k, rfl⟩ : ∃ k : Nat, m = (k : Int) := ⟨m.toNat, by omega⟩
      have hk : 1 ≤ k ∧ k ≤ n := by omega
      obtain ⟨L, hL⟩ : ∃ L, prf F n k true = L := ⟨_, rfl⟩
      have hlt : ∀ f ∈ L, ∀ j, f j < 256 := by rw [← hL]; exact prf_lt n k true HX.out.lt
      have hle : L.length ≤ 1000000 := by rw [← hL]; exact Nat.le_trans (prf_len_n n k true F) (by omega)
      have HE := hide (fun (W : World) (h : Below w.heap.size w W) => proof_any (c := c) (m := k) (HT.out.keep h) (HX.out.keep h) HC.out.1 HC.out.2 (by omega) hk)
      have HF := hide (fun (W : World) (h : Below w.heap.size w W) => refProof_any (c := c) (m := k) (HX.out.keep h) HC.out.1 HC.out.2 (by omega) hk)
      rw [hL] at HE HF
      have HLt := hide hlt
      have HLe := hide hle
      obtain ⟨q, hql⟩ : ∃ q, L.length = q := ⟨_, rfl⟩
      have HQ := hide hql
      clear hm hk hL hlt hle hql
      go_enter Tryd.func4, Tryd.ntmps4
      go_upto_region 3 with (go_at_call 8; refine Calls.mono (awake_any HT.out) ?_; rintro e W1 ⟨rfl, hb⟩; have HB1 := hide hb; clear hb)
      go_upto_region 4 with (go_at_call 12; refine Calls.mono (HE.out _ HB1.out) ?_; rintro e W2 hp; obtain ⟨a2, c2, rfl, h2, _, hb2⟩ := hp.out HLt.out; rw [HQ.out] at h2 ⊢; have HH2 := hide h2; have HB2 := hide (Go.Proofs.YteplklbpehkdjaaDoor.K.call HB1.out hb2); clear h2 hb2 hp)
      go_upto_region 5 with (go_at_call 13; refine Calls.mono (HF.out _ HB2.out) ?_; rintro e W3 hp; obtain ⟨a3, c3, rfl, h3, _, hb3⟩ := hp.out HLt.out; rw [HQ.out] at h3 ⊢; have HS := hide (same_l (c := c2) (d := c3) (HH2.out.keep hb3) h3 (by rw [← HQ.out]; exact HLe.out)); have HB3 := hide (Go.Proofs.YteplklbpehkdjaaDoor.K.call HB2.out hb3); clear h3 hb3 hp)
      go_wp2_with (go_at_call 11; refine Calls.mono HS.out ?_; rintro e W4 ⟨rfl, hb⟩; have HB4 := hide (Go.Proofs.YteplklbpehkdjaaDoor.K.call HB3.out hb); clear hb)
      go_ret
      exact ⟨rfl, HB4.out⟩
  · have hq : (80 : Int) < (n : Int) := by omega
    clear hn
    go_enter Tryd.func4, Tryd.ntmps4
    go_upto_region 2 with (go_at_call 8; refine Calls.mono (awake_any HT.out) ?_; rintro e W1 ⟨rfl, hb⟩; have HB1 := hide hb; clear hb)
    go_wp2_with (go_at_call 8; refine Calls.mono (awake_any (HT.out.keep HB1.out)) ?_; rintro e W2 ⟨rfl, hb⟩; have HB2 := hide (Go.Proofs.YteplklbpehkdjaaDoor.K.call HB1.out hb); clear hb)
    go_ret
    exact ⟨rfl, HB2.out⟩
end Go.Proofs.YteplklbpehkdjaaDoor
namespace Go.Proofs.YteplklbpehkdjaaDoor
set_option maxRecDepth 100000
open Go.RowKit
attribute [local go_sem ↓] Go.wp_at_zero Go.wp_at_succ

theorem half_le {x b n : Nat} (h : b + x ≤ n) (hx : 0 < x) : b + 1 + x / 2 ≤ n := by omega
theorem tdiv2 (x : Nat) : (x : Int).tdiv 2 = ((x / 2 : Nat) : Int) := by rw [Int.tdiv_eq_ediv_of_nonneg (by omega)]; omega
theorem wrap_n {i : Nat} (h : i ≤ 1000) : wrap64 (i : Int) = (i : Int) := by unfold wrap64; omega
theorem sub1_n {n : Nat} (h : 0 < n) : (n : Int) - 1 = ((n - 1 : Nat) : Int) := by omega
theorem wrap_h {x : Nat} (h : x ≤ 1000) : wrap64 ((x : Int) / 2) = (x : Int) / 2 := by unfold wrap64; omega
theorem wrap_m {m : Int} (h0 : 0 ≤ m) (h1 : m < 256) : wrap64 m = m := by unfold wrap64; omega
theorem wrap_1 {k : Nat} (h : k ≤ 1000) : wrap64 ((k : Int) + 1) = (k : Int) + 1 := by unfold wrap64; omega
theorem wrap_m1 {n : Nat} (h0 : 0 < n) (h : n ≤ 1000) : wrap64 ((n : Int) - 1) = ((n - 1 : Nat) : Int) := by unfold wrap64; omega
set_option maxRecDepth 100000 in
set_option maxHeartbeats 16000000 in
theorem proofShort_walk {w : World} {z : Option Addr} {n c : Nat} {F : Nat → Nat → Nat} {m : Int} (hT : Tab w) (hx : HL w z n F) (hc : n ≤ c) (hcm : c ≤ maxLen) (hm0 : 0 ≤ m) (_hm1 : m < 256) :
    Calls Tryd.prog 5 #[.slice z n c, .int .u8 m] w fun e w' => e = .returned (.bool true) ∧ Below w.heap.size w w' := by
  have HT := hide hT
  have HX := hide hx
  have HC := hide (And.intro hc hcm)
  clear hT hx hc hcm
  by_cases hn : n ≤ 80
  · have hq : (n : Int) ≤ 80 := by omega
    by_cases h0 : n = 0
    · subst h0
      go_enter Tryd.func5, Tryd.ntmps5
      go_upto_region 2 with (go_at_call 8; refine Calls.mono (awake_any HT.out) ?_; rintro e W1 ⟨rfl, hb⟩; have HB1 := hide hb; clear hb)
      go_wp2_with (go_at_call 8; refine Calls.mono (awake_any (HT.out.keep HB1.out)) ?_; rintro e W2 ⟨rfl, hb⟩; have HB2 := hide (Go.Proofs.YteplklbpehkdjaaDoor.K.call HB1.out hb); clear hb)
      go_ret
      exact ⟨rfl, HB2.out⟩
    · obtain ⟨k, hk, hkn⟩ := mod_n hm0 (show 0 < n by omega)
      have hw1 := wrap_1 (k := k) (by omega)
      have hwm := wrap_m1 (n := n) (by omega) (by omega)
      have HN := hide (And.intro hn hkn)
      have hb0 : ((n : Int) == 0) = false := beq_eq_false_iff_ne.2 (by omega)
      have HKm := hide hk
      have HWm := hide (wrap_m hm0 _hm1)
      clear hm0 hk
      go_enter Tryd.func5, Tryd.ntmps5
      go_upto_region 4 with (go_at_call 8; refine Calls.mono (awake_any HT.out) ?_; rintro e W1 ⟨rfl, hb⟩; have HB1 := hide hb; clear hb)
      have HX1 := hide (HX.out.keep HB1.out)
      go_upto_region 5 with (at_builtin; refine wpList_appH (base := W1.heap.size) rfl _ _ rfl rfl (OH.nil _ _ (fun _ _ => 0)) rfl HX1.out (by show 0 + n ≤ _; have := HN.out.1; omega) (by show W1.heap.size ≤ W1.heap.size; exact Nat.le_refl _) ?_; intro v2 W2 ho2 hg2; rw [Nat.zero_add, hcat_zero] at ho2; obtain ⟨a2, c2, rfl, h21, h22⟩ := ho2.form; have HW2 : Hid (Below W1.heap.size W1 W2) := ⟨hg2.os, hg2.tape, hg2.output, hg2.size, fun i hi => hg2.block i hi (fun e => by cases e)⟩; have HO2 := hide (ho2.hl HX.out.lt); clear ho2 hg2 h21 h22)
      have HB2 := hide (Go.Proofs.YteplklbpehkdjaaDoor.K.call HB1.out HW2.out)
      go_wp2_with fail
      go_loopg [6, 7] n (fun g s6 s7 wr => ∃ x b : Nat, x ≤ g ∧ s6 = .int .i64 (b : Int) ∧ s7 = .int .i64 (x : Int) ∧ BtR (n - 1) x b ∧ b + x ≤ n ∧ wr = W2)
      case atStart => exact ⟨n - 1, 0, by omega, rfl, by rw [sub1_n (by omega)], BtR.start _, by omega, rfl⟩
      case round =>
        obtain ⟨x, b, hxg, rfl, rfl, hO, hbx, hwr⟩ := hrel
        subst hwr
        have hb9 : b ≤ 1000 := by have := HN.out.1; omega
        have hwb := wrap_1 hb9
        by_cases hx : 0 < x
        · have HNx := hide (BtR.next hO hx)
          have HLe := hide (half_le hbx hx)
          have hx' : (0 : Int) < (x : Int) := by omega
          have hd2 := tdiv2 x
          have HWx := hide (wrap_h (x := x) (Nat.le_trans (Nat.le_trans (Nat.le_add_left x b) hbx) (Nat.le_trans HN.out.1 (by decide))))
          clear hO hbx
          go_wp2_with fail
          go_roundg (x / 2)
          case measure => omega
          case rel => exact ⟨x / 2, b + 1, Nat.le_refl _, by simp, by simp [HWx.out], HNx.out, HLe.out, rfl⟩
        · obtain rfl : x = 0 := by omega
          have hle := hO.done
          have hp := path_any (c := c) (m := k) (HT.out.keep HB2.out) (HX.out.keep HB2.out) HC.out.1 HC.out.2 (by omega) hkn
          obtain ⟨LA, hLA⟩ : ∃ L, pth F n k = L := ⟨_, rfl⟩
          have hlA : ∀ f ∈ LA, ∀ j, f j < 256 := by rw [← hLA]; exact pth_lt n k HX.out.lt
          have hnA : LA.length ≤ b := by rw [← hLA]; exact pth_len b F n k hle
          obtain ⟨LB, hLB⟩ : ∃ L, prf F n (k + 1) true = L := ⟨_, rfl⟩
          have hlB : ∀ f ∈ LB, ∀ j, f j < 256 := by rw [← hLB]; exact prf_lt n (k + 1) true HX.out.lt
          have hnB : LB.length ≤ b + 1 := by rw [← hLB]; exact prf_len b F n (k + 1) true hle
          rw [hLA] at hp
          have hq2 := fun W (h : Below w.heap.size w W) => proof_any (c := c) (m := k + 1) (HT.out.keep h) (HX.out.keep h) HC.out.1 HC.out.2 (by omega) ⟨by omega, by omega⟩
          rw [hLB, show ((k + 1 : Nat) : Int) = (k : Int) + 1 from rfl] at hq2
          have hq3 := fun W (h : Below w.heap.size w W) => proof_any (c := c) (m := n) (HT.out.keep h) (HX.out.keep h) HC.out.1 HC.out.2 (by omega) ⟨by omega, by omega⟩
          rw [prf_end F true (Or.inl (Nat.le_refl _)), if_pos rfl] at hq3
          obtain ⟨la, hla⟩ : ∃ l, LA.length = l := ⟨_, rfl⟩
          obtain ⟨lb, hlb⟩ : ∃ l, LB.length = l := ⟨_, rfl⟩
          rw [hla] at hnA
          rw [hlb] at hnB
          have HP := hide hp
          have HQ2 := hide hq2
          have HQ3 := hide hq3
          have HlA := hide (And.intro hlA hla)
          have HlB := hide (And.intro hlB hlb)
          have HO := HO2
          have HnA := hide hnA
          have HnB := hide hnB
          have hk : (wrap64 m).tmod (n : Int) = (k : Int) := by rw [HWm.out]; exact HKm.out
          have hwk := wrap_n (i := k) (by have := HN.out; omega)
          clear hp hq2 hq3 hlA hlB hla hlb hLA hLB hle hO hbx hnA hnB
          go_upto_region 12 with (go_at_call 9; refine Calls.mono HP.out ?_; rintro e W3 hp; obtain ⟨a3, c3, rfl, _, _, hb3⟩ := hp.out HlA.out.1; rw [HlA.out.2]; have HB3 := hide (Go.Proofs.YteplklbpehkdjaaDoor.K.call HB2.out hb3); have HW3 : Hid (Below wr.heap.size wr W3) := hb3; clear hb3 hp)
          clear hk hwk
          go_upto_region 13 with (go_at_call 12; refine Calls.mono (HQ2.out _ HB3.out) ?_; rintro e W4 hp; obtain ⟨a4, c4, rfl, _, _, hb4⟩ := hp.out HlB.out.1; rw [HlB.out.2]; have HB4 := hide (Go.Proofs.YteplklbpehkdjaaDoor.K.call HB3.out hb4); have HW4 := hide (Go.Proofs.YteplklbpehkdjaaDoor.K.call HW3.out hb4); clear hb4 hp)
          go_upto_region 14 with (go_at_call 12; refine Calls.mono (HQ3.out _ HB4.out) ?_; rintro e W5 hp; obtain ⟨a5, c5, rfl, _, _, hb5⟩ := hp.out (fun f h => by cases h); have HB5 := hide (Go.Proofs.YteplklbpehkdjaaDoor.K.call HB4.out hb5); have HW5 := hide (Go.Proofs.YteplklbpehkdjaaDoor.K.call HW4.out hb5); clear hb5 hp)
          have HS := hide (same_f (c := c2) (d := c) (HO.out.keep HW5.out) (HX.out.keep HB5.out) (by omega))
          have hnA := HnA.out
          have hnB := HnB.out
          go_wp2_with (go_at_call 11; refine Calls.mono HS.out ?_; rintro e W6 ⟨rfl, hb⟩; have HB6 := hide (Go.Proofs.YteplklbpehkdjaaDoor.K.call HB5.out hb); clear hb)
          go_ret
          exact ⟨rfl, HB6.out⟩
  · have hq : (80 : Int) < (n : Int) := by omega
    clear hn
    go_enter Tryd.func5, Tryd.ntmps5
    go_upto_region 2 with (go_at_call 8; refine Calls.mono (awake_any HT.out) ?_; rintro e W1 ⟨rfl, hb⟩; have HB1 := hide hb; clear hb)
    go_wp2_with (go_at_call 8; refine Calls.mono (awake_any (HT.out.keep HB1.out)) ?_; rintro e W2 ⟨rfl, hb⟩; have HB2 := hide (Go.Proofs.YteplklbpehkdjaaDoor.K.call HB1.out hb); clear hb)
    go_ret
    exact ⟨rfl, HB2.out⟩
end Go.Proofs.YteplklbpehkdjaaDoor
namespace Go.Proofs.YteplklbpehkdjaaDoor
set_option maxRecDepth 100000
open Go.RowKit
attribute [local go_sem ↓] Go.wp_at_zero Go.wp_at_succ

theorem sub_i {i k : Nat} (h : k ≤ i) : (i : Int) - (k : Int) = ((i - k : Nat) : Int) := by omega
set_option maxRecDepth 100000 in
set_option maxHeartbeats 16000000 in
theorem proofLast_walk {w : World} {z : Option Addr} {n c : Nat} {F : Nat → Nat → Nat} {m : Int} (hT : Tab w) (hx : HL w z n F) (hc : n ≤ c) (hcm : c ≤ maxLen) (hm0 : 0 ≤ m) (_hm1 : m < 256) :
    Calls Tryd.prog 6 #[.slice z n c, .int .u8 m] w fun e w' => e = .returned (.bool true) ∧ Below w.heap.size w w' := by
  have HT := hide hT
  have HX := hide hx
  have HC := hide (And.intro hc hcm)
  clear hT hx hc hcm
  by_cases hn : n ≤ 80
  · have hq : (n : Int) ≤ 80 := by omega
    by_cases h0 : n < 2
    · have hq2 : (n : Int) < 2 := by omega
      clear h0
      go_enter Tryd.func6, Tryd.ntmps6
      go_upto_region 2 with (go_at_call 8; refine Calls.mono (awake_any HT.out) ?_; rintro e W1 ⟨rfl, hb⟩; have HB1 := hide hb; clear hb)
      go_wp2_with (go_at_call 8; refine Calls.mono (awake_any (HT.out.keep HB1.out)) ?_; rintro e W2 ⟨rfl, hb⟩; have HB2 := hide (Go.Proofs.YteplklbpehkdjaaDoor.K.call HB1.out hb); clear hb)
      go_ret
      exact ⟨rfl, HB2.out⟩
    · have hq2 : (2 : Int) ≤ (n : Int) := by omega
      obtain ⟨i, hi, hin⟩ := mod_n hm0 (show 0 < n by omega)
      have hs1 := sp_lt (n := n) (by omega)
      have hs0 := sp_pos (n := n) (by omega)
      have HSp := hide (fun W => refSplit_any W (n := n) (by omega))
      obtain ⟨k, hk⟩ : ∃ k, sp n = k := ⟨_, rfl⟩
      rw [hk] at HSp hs1 hs0
      have HKs := hide hk
      have HN := hide (And.intro hn (And.intro h0 (And.intro hin (And.intro hs1 hs0))))
      have hi2 : (wrap64 m).tmod (n : Int) = (i : Int) := by rw [wrap_m hm0 _hm1]; exact hi
      have hwi := wrap_n (i := i) (by omega)
      have hn0 : ¬ (n = 0) := by omega
      have hb2 : decide ((n : Int) < 2) = false := decide_eq_false (by omega)
      rcases HX.out.at_ with h5 | ⟨bz, oz, rfl, _⟩
      · omega
      obtain ⟨LA, hLA⟩ : ∃ L, pth F n i = L := ⟨_, rfl⟩
      have hlA : ∀ f ∈ LA, ∀ j, f j < 256 := by rw [← hLA]; exact pth_lt n i HX.out.lt
      have hnA : LA.length ≤ n := by rw [← hLA]; exact pth_len_n n i F
      have HLA := hide hLA
      have HlA := hide hlA
      have HnA := hide hnA
      clear hm0 hk h0 hs1 hs0 hLA hlA hnA hi
      go_enter Tryd.func6, Tryd.ntmps6
      go_upto_region 3 with (go_at_call 8; refine Calls.mono (awake_any HT.out) ?_; rintro e W1 ⟨rfl, hb⟩; have HB1 := hide hb; clear hb)
      go_upto_region 5 with (go_at_call 14; refine Calls.mono (HSp.out _) ?_; rintro e W2 ⟨rfl, hw⟩; replace hw := hw.symm; subst hw)
      have hpa := path_any (c := c) (m := i) (HT.out.keep HB1.out) (HX.out.keep HB1.out) HC.out.1 HC.out.2 (by have := HN.out.1; omega) hin
      rw [HLA.out] at hpa
      have HPa := hide hpa
      clear hpa
      go_upto_region 7 with (go_at_call 9; refine Calls.mono HPa.out ?_; rintro e W3 hp; obtain ⟨a3, c3, rfl, h3, _, hb3⟩ := hp.out HlA.out; have HH3 := hide h3; have HB3 := hide (Go.Proofs.YteplklbpehkdjaaDoor.K.call HB1.out hb3); clear h3 hb3 hp)
      obtain ⟨la, hla⟩ : ∃ la, LA.length = la := ⟨_, rfl⟩
      have HLa := hide hla
      rw [hla] at HH3 ⊢
      clear hla hin
      clear hi2 hwi
      by_cases hik : i < k
      · have hik' : (i : Int) < (k : Int) := by omega

        have hkc : k ≤ c := by have := HC.out.1; have := HN.out.2.2.2.1; omega
        have hkn : k < n := HN.out.2.2.2.1
        have hck : ¬ (c = k) := by have := HC.out.1; omega
        have hkI : (k : Int) ≤ (n : Int) := by omega
        have hkJ : (k : Int) ≤ (c : Int) := by omega
        obtain ⟨LB, hLB⟩ : ∃ L, pth F (k) (i) = L := ⟨_, rfl⟩
        have hlB : ∀ f ∈ LB, ∀ j, f j < 256 := by rw [← hLB]; exact pth_lt _ _ HX.out.lt
        have hnB : LB.length ≤ n := by rw [← hLB]; exact Nat.le_trans (pth_len_n _ _ _) (by omega)
        obtain ⟨rr, hrr⟩ : ∃ rr, rt (fun i => F (k + i)) (n - k) = rr := ⟨_, rfl⟩
        have hrl : ∀ j, rr j < 256 := by rw [← hrr]; exact rt_all HX.out.lt _ _
        have heq : LA = LB ++ [rr] := by rw [← HLA.out, ← hLB, ← hrr, ← HKs.out]; exact pth_low F (by have := HN.out.2.1; omega) (by rw [HKs.out]; exact hik)
        have hpb := path_any (c := c) (m := i) (HT.out.keep HB3.out) ((HX.out.keep HB3.out).head k (by have := HN.out.2.2.2.1; omega)) (by have := HC.out.1; omega) (by have := HC.out.2; omega) (by have := HN.out.1; omega) (by have := HN.out.2.2.1; omega)
        rw [hLB] at hpb

        have HPb := hide hpb
        have HEq := hide heq
        have HlB := hide hlB
        have HnB := hide hnB
        have HRl := hide hrl
        have HRr := hide hrr
        have HIk := hide hik
        clear hpb heq hlB hnB hrl hrr hLB hik
        go_upto_region 9 with (go_at_call 9; with_reducible refine Calls.mono HPb.out ?_; rintro e W4 hp; obtain ⟨a4, c4, rfl, _, h4, hb4⟩ := hp.out HlB.out; have HO4 := hide h4; have HB4 := hide hb4; clear h4 hb4 hp)
        obtain ⟨lb, hlb⟩ : ∃ lb, LB.length = lb := ⟨_, rfl⟩
        have HLb := hide hlb
        have hro := refRoot_any (n - k) (c := c - k) ((((HX.out.keep HB3.out).keep HB4.out)).tail k) (by have := HC.out.1; omega) (by have := HC.out.2; omega) (by have := HN.out.1; omega)
        unfold hv at hro
        rw [HRr.out] at hro
        have HRo := hide hro
        clear hro hlb
        go_upto_region 12 with (first
          | (go_at_call 15; with_reducible refine Calls.mono HRo.out ?_; rintro e W5 ⟨rfl, hb5⟩; have HO5 := hide (HO4.out.keep hb5); have HB5 := hide (Go.Proofs.YteplklbpehkdjaaDoor.K.call HB4.out hb5); clear hb5)
          | (refine wpList_oneH rfl rfl (by rfl) HRl.out ?_; intro q6 W6 hq6 hl6 ho6 hb6; have HO6 := hide (HO5.out.keep hb6); have HL6 := hide ho6; have HB6 := hide (Go.Proofs.YteplklbpehkdjaaDoor.K.call HB5.out hb6); clear hq6 hl6 ho6 hb6)
          | (at_builtin; refine wpList_appH rfl _ _ rfl rfl HO6.out rfl HL6.out (by have := HnB.out; have := HN.out.1; omega) HB6.out.size ?_; intro v7 W7 ho7 hg7; have HB7 := hide (OH.below HO6.out HB6.out hg7); have ho8 := OH.snoc ho7; rw [← HEq.out, HLa.out] at ho8; obtain ⟨a7, c7, rfl, _, _⟩ := ho8.form; have HH7 := hide (ho8.hl (lF_lt HlA.out)); clear ho7 hg7 ho8))
        have HS := hide (same_l (c := c3) (d := c7) (HH3.out.keep HB7.out) HH7.out (by rw [← HLa.out]; have := HnA.out; have := HN.out.1; omega))
        go_wp2_with (go_at_call 11; refine Calls.mono HS.out ?_; rintro e W8 ⟨rfl, hb8⟩; have HB8 := hide (Go.Proofs.YteplklbpehkdjaaDoor.K.call HB3.out (Go.Proofs.YteplklbpehkdjaaDoor.K.call HB7.out hb8)); clear hb8)
        go_ret
        exact ⟨rfl, HB8.out⟩
      · have hik' : (k : Int) ≤ (i : Int) := by omega
        have hsub := sub_i (show k ≤ i by omega)
        have hsw : wrap64 ((i : Int) - (k : Int)) = (i : Int) - (k : Int) := by rw [hsub]; exact wrap_n (by have := HN.out.1; have := HN.out.2.2.1; omega)
        have hkc : k ≤ c := by have := HC.out.1; have := HN.out.2.2.2.1; omega
        have hkn : k < n := HN.out.2.2.2.1
        have hck : ¬ (c = k) := by have := HC.out.1; omega
        have hkI : (k : Int) ≤ (n : Int) := by omega
        have hkJ : (k : Int) ≤ (c : Int) := by omega
        obtain ⟨LB, hLB⟩ : ∃ L, pth (fun i => F (k + i)) (n - k) (i - k) = L := ⟨_, rfl⟩
        have hlB : ∀ f ∈ LB, ∀ j, f j < 256 := by rw [← hLB]; exact pth_lt _ _ (fun i j => HX.out.lt (k + i) j)
        have hnB : LB.length ≤ n := by rw [← hLB]; exact Nat.le_trans (pth_len_n _ _ _) (by omega)
        obtain ⟨rr, hrr⟩ : ∃ rr, rt F k = rr := ⟨_, rfl⟩
        have hrl : ∀ j, rr j < 256 := by rw [← hrr]; exact rt_lt HX.out.lt _
        have heq : LA = LB ++ [rr] := by rw [← HLA.out, ← hLB, ← hrr, ← HKs.out]; exact pth_up F (by have := HN.out.2.1; omega) (by rw [HKs.out]; exact hik)
        have hpb := path_any (c := c - k) (m := i - k) (HT.out.keep HB3.out) ((HX.out.keep HB3.out).tail k) (by have := HC.out.1; omega) (by have := HC.out.2; omega) (by have := HN.out.1; omega) (by have := HN.out.2.2.1; omega)
        rw [hLB] at hpb
        rw [← hsub] at hpb
        have HPb := hide hpb
        have HEq := hide heq
        have HlB := hide hlB
        have HnB := hide hnB
        have HRl := hide hrl
        have HRr := hide hrr
        have HIk := hide hik
        clear hpb heq hlB hnB hrl hrr hLB hik hsub
        go_upto_region 11 with (go_at_call 9; with_reducible refine Calls.mono HPb.out ?_; rintro e W4 hp; obtain ⟨a4, c4, rfl, _, h4, hb4⟩ := hp.out HlB.out; have HO4 := hide h4; have HB4 := hide hb4; clear h4 hb4 hp)
        obtain ⟨lb, hlb⟩ : ∃ lb, LB.length = lb := ⟨_, rfl⟩
        have HLb := hide hlb
        have hro := refRoot_any k (c := c) ((((HX.out.keep HB3.out).keep HB4.out)).head k (by have := HN.out.2.2.2.1; omega)) (by have := HC.out.1; have := HN.out.2.2.2.1; omega) HC.out.2 (by have := HN.out.1; have := HN.out.2.2.2.1; omega)
        unfold hv at hro
        rw [HRr.out] at hro
        have HRo := hide hro
        clear hro hlb
        go_upto_region 12 with (first
          | (go_at_call 15; with_reducible refine Calls.mono HRo.out ?_; rintro e W5 ⟨rfl, hb5⟩; have HO5 := hide (HO4.out.keep hb5); have HB5 := hide (Go.Proofs.YteplklbpehkdjaaDoor.K.call HB4.out hb5); clear hb5)
          | (refine wpList_oneH rfl rfl (by rfl) HRl.out ?_; intro q6 W6 hq6 hl6 ho6 hb6; have HO6 := hide (HO5.out.keep hb6); have HL6 := hide ho6; have HB6 := hide (Go.Proofs.YteplklbpehkdjaaDoor.K.call HB5.out hb6); clear hq6 hl6 ho6 hb6)
          | (at_builtin; refine wpList_appH rfl _ _ rfl rfl HO6.out rfl HL6.out (by have := HnB.out; have := HN.out.1; omega) HB6.out.size ?_; intro v7 W7 ho7 hg7; have HB7 := hide (OH.below HO6.out HB6.out hg7); have ho8 := OH.snoc ho7; rw [← HEq.out, HLa.out] at ho8; obtain ⟨a7, c7, rfl, _, _⟩ := ho8.form; have HH7 := hide (ho8.hl (lF_lt HlA.out)); clear ho7 hg7 ho8))
        have HS := hide (same_l (c := c3) (d := c7) (HH3.out.keep HB7.out) HH7.out (by rw [← HLa.out]; have := HnA.out; have := HN.out.1; omega))
        go_wp2_with (go_at_call 11; refine Calls.mono HS.out ?_; rintro e W8 ⟨rfl, hb8⟩; have HB8 := hide (Go.Proofs.YteplklbpehkdjaaDoor.K.call HB3.out (Go.Proofs.YteplklbpehkdjaaDoor.K.call HB7.out hb8)); clear hb8)
        go_ret
        exact ⟨rfl, HB8.out⟩
  · have hq : (80 : Int) < (n : Int) := by omega
    clear hn
    go_enter Tryd.func6, Tryd.ntmps6
    go_upto_region 2 with (go_at_call 8; refine Calls.mono (awake_any HT.out) ?_; rintro e W1 ⟨rfl, hb⟩; have HB1 := hide hb; clear hb)
    go_wp2_with (go_at_call 8; refine Calls.mono (awake_any (HT.out.keep HB1.out)) ?_; rintro e W2 ⟨rfl, hb⟩; have HB2 := hide (Go.Proofs.YteplklbpehkdjaaDoor.K.call HB1.out hb); clear hb)
    go_ret
    exact ⟨rfl, HB2.out⟩
end Go.Proofs.YteplklbpehkdjaaDoor
