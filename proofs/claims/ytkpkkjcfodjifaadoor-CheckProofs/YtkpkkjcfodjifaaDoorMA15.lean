/- How the parameters, and the program's two tables, are read before the call. How parameters of hashes, and of lists of hashes, are read before the call. How a pair of hashes, and a claim, are read before the call. CheckProofs. -/
import Derived.Test.YtkpkkjcfodjifaaDoorMA05
import Derived.Test.YtkpkkjcfodjifaaDoorMA11
import Derived.Test.YtkpkkjcfodjifaaDoorMA14
import Derived.Test.YtkpkkjcfodjifaaDoorTie
import Derived.Test.YtkpkkjcfodjifaaDoorCards
import Derived.ProofKit
import Derived.LaidMore
import Derived.MakeChecks
import Derived.Lib.LaidTab
import Derived.Stop.LaidErr
import Derived.Laws.IdiomArrays
import Derived.OpenShut
import Derived.Carry
import Derived.ChangeMaps5
import Derived.Stop.Joined
import Derived.Deep.Grids
import Derived.Deep.Slices
namespace Go.Proofs.YtkpkkjcfodjifaaDoor
set_option maxRecDepth 100000
open Go.ChangeShapes Go.WideShapes Go.ChangeAt Go.RowKit

theorem own : ownKnob Tryd.prog.godebug = none := by kernel_rfl
theorem Tryd.laidOut : laidOutB Tryd.prog = true := by kernel_rfl
theorem cellsU8 : Tryd.prog.cellsOf 5 = 1 := by kernel_rfl
theorem cellsU32 : Tryd.prog.cellsOf 37 = 1 := by kernel_rfl
theorem cellsSt : Tryd.prog.cellsOf 65 = 8 := by kernel_rfl
theorem cellsW64 : Tryd.prog.cellsOf 72 = 64 := by kernel_rfl
theorem u8_of_wf {x : Int} (h : (Lit.int .u8 x).wf = true) : 0 ≤ x ∧ x < 256 := by
  simp [Lit.wf, IntKind.min, IntKind.max, IntKind.signed, IntKind.bits] at h
  exact ⟨by omega, by omega⟩
theorem gFirst : Tryd.prog.globalNamed "chronicle/sha256.first" = some 2 := by kernel_rfl
theorem tFirst : (Tryd.prog.globals[2]?).map (·.type) = some 65 := by kernel_rfl
theorem gK : Tryd.prog.globalNamed "chronicle/sha256.constants" = some 3 := by kernel_rfl
theorem tK : (Tryd.prog.globals[3]?).map (·.type) = some 72 := by kernel_rfl
def laid2 : List (String × DataW Unit) := [("chronicle/sha256.first", Rows.laid_chronicle_sha256_first), ("chronicle/sha256.constants", Rows.laid_chronicle_sha256_constants)]
theorem cellsA64 : Tryd.prog.cellsOf 66 = 64 := by kernel_rfl
theorem gBits : Tryd.prog.globalNamed "math/bits.deBruijn64tab" = some 1 := by kernel_rfl
theorem tBits : (Tryd.prog.globals[1]?).map (·.type) = some 66 := by kernel_rfl
def laid4 : List (String × DataW Unit) := [("math/bits.deBruijn32tab", Rows.laid_math_bits_deBruijn32tab), ("math/bits.deBruijn64tab", Rows.laid_math_bits_deBruijn64tab), ("chronicle/sha256.first", Rows.laid_chronicle_sha256_first), ("chronicle/sha256.constants", Rows.laid_chronicle_sha256_constants)]
theorem bits_at : ∀ i, i < 64 → ([0, 1, 56, 2, 57, 49, 28, 3, 61, 58, 42, 50, 38, 29, 17, 4, 62, 47, 59, 36, 45, 43, 51, 22, 53, 39, 33, 30, 24, 18, 12, 5, 63, 55, 48, 27, 60, 41, 37, 16, 46, 35, 44, 21, 52, 32, 23, 11, 54, 26, 40, 15, 34, 20, 31, 10, 25, 14, 19, 9, 13, 8, 7, 6] : List Int).getD i 0 = ((Lib.deBruijn64tab.getD i 0 : Nat) : Int) := by decide +kernel
theorem first_at : ∀ i, i < 8 → ([1779033703, 3144134277, 1013904242, 2773480762, 1359893119, 2600822924, 528734635, 1541459225] : List Int).getD i 0 = wn (start.w i) := by decide +kernel
theorem k_at : ∀ i, i < 64 → ([1116352408, 1899447441, 3049323471, 3921009573, 961987163, 1508970993, 2453635748, 2870763221, 3624381080, 310598401, 607225278, 1426881987, 1925078388, 2162078206, 2614888103, 3248222580, 3835390401, 4022224774, 264347078, 604807628, 770255983, 1249150122, 1555081692, 1996064986, 2554220882, 2821834349, 2952996808, 3210313671, 3336571891, 3584528711, 113926993, 338241895, 666307205, 773529912, 1294757372, 1396182291, 1695183700, 1986661051, 2177026350, 2456956037, 2730485921, 2820302411, 3259730800, 3345764771, 3516065817, 3600352804, 4094571909, 275423344, 430227734, 506948616, 659060556, 883997877, 958139571, 1322822218, 1537002063, 1747873779, 1955562222, 2024104815, 2227730452, 2361852424, 2428436474, 2756734187, 3204031479, 3329325298] : List Int).getD i 0 = wn (kW i) := by decide +kernel
theorem tab_of_plain {W : World} (h : laidMet Tryd.prog laid2 W) : Tab W := by
  have h2 := h.tail
  have hf : Lib.TabIs Tryd.prog W "chronicle/sha256.first" .u32 [1779033703, 3144134277, 1013904242, 2773480762, 1359893119, 2600822924, 528734635, 1541459225] := Lib.tabIs_of_head (rest := [("chronicle/sha256.constants", Rows.laid_chronicle_sha256_constants)]) gFirst tFirst Tryd.underlying65 Tryd.underlying37 cellsU32 cellsSt h
  have hk : Lib.TabIs Tryd.prog W "chronicle/sha256.constants" .u32 [1116352408, 1899447441, 3049323471, 3921009573, 961987163, 1508970993, 2453635748, 2870763221, 3624381080, 310598401, 607225278, 1426881987, 1925078388, 2162078206, 2614888103, 3248222580, 3835390401, 4022224774, 264347078, 604807628, 770255983, 1249150122, 1555081692, 1996064986, 2554220882, 2821834349, 2952996808, 3210313671, 3336571891, 3584528711, 113926993, 338241895, 666307205, 773529912, 1294757372, 1396182291, 1695183700, 1986661051, 2177026350, 2456956037, 2730485921, 2820302411, 3259730800, 3345764771, 3516065817, 3600352804, 4094571909, 275423344, 430227734, 506948616, 659060556, 883997877, 958139571, 1322822218, 1537002063, 1747873779, 1955562222, 2024104815, 2227730452, 2361852424, 2428436474, 2756734187, 3204031479, 3329325298] := Lib.tabIs_of_head (rest := []) gK tK Tryd.underlying72 Tryd.underlying37 cellsU32 cellsW64 h2
  exact ⟨fun i hi => by rw [← first_at i hi]; exact hf.cell gFirst i hi, fun i hi => by rw [← k_at i hi]; exact hk.cell gK i hi⟩
theorem tab_of_laid {W : World} (h : laidMetH Tryd.prog laid2 W) : Tab W := by
  rw [MakeChecks.laidMetH_plain _ _ _ (by kernel_rfl)] at h
  exact tab_of_plain h
theorem tabZ_of_laid {W : World} (h : laidMetH Tryd.prog laid4 W) : TabZ W := by
  rw [MakeChecks.laidMetH_plain _ _ _ (by kernel_rfl)] at h
  have h1 := h.tail
  have hb : Lib.TabIs Tryd.prog W "math/bits.deBruijn64tab" .u8 [0, 1, 56, 2, 57, 49, 28, 3, 61, 58, 42, 50, 38, 29, 17, 4, 62, 47, 59, 36, 45, 43, 51, 22, 53, 39, 33, 30, 24, 18, 12, 5, 63, 55, 48, 27, 60, 41, 37, 16, 46, 35, 44, 21, 52, 32, 23, 11, 54, 26, 40, 15, 34, 20, 31, 10, 25, 14, 19, 9, 13, 8, 7, 6] := Lib.tabIs_of_head (rest := laid2) gBits tBits Tryd.underlying66 Tryd.underlying5 cellsU8 cellsA64 h1
  exact ⟨tab_of_plain h1.tail, fun i hi => by rw [← bits_at i hi]; exact hb.cell gBits i hi⟩
/-- The door's own heap meets the condition. -/
theorem door_met2 (os : Os) (args : Array Value) : laidMetH Tryd.prog laid2 ((World.doorLaid Tryd.prog 200 os).forCall (fun _ _ => 0) ⟨#[], args, []⟩).memory :=
  laidMetH_of_parts3 (fuel := 8) (laidMet_of_run' 8 (by kernel_rfl) (by kernel_rfl)) (by kernel_rfl) (by kernel_rfl)
theorem door_met4 (os : Os) (args : Array Value) : laidMetH Tryd.prog laid4 ((World.doorLaid Tryd.prog 200 os).forCall (fun _ _ => 0) ⟨#[], args, []⟩).memory :=
  laidMetH_of_parts3 (fuel := 8) (laidMet_of_run' 8 (by kernel_rfl) (by kernel_rfl)) (by kernel_rfl) (by kernel_rfl)
end Go.Proofs.YtkpkkjcfodjifaaDoor
namespace Go.Proofs.YtkpkkjcfodjifaaDoor
set_option maxRecDepth 100000
open Go.ChangeShapes Go.WideShapes Go.ChangeAt Go.RowKit

theorem cellsHash : Tryd.prog.cellsOf 23 = 32 := by kernel_rfl
theorem hash_cells {H : Type} {enc : TypeId × Value → H} {W : World} {fuel : Nat} {l : List Value} {y : DataW H × List MemPlace} (hl : l.length = 32)
    (hf : DataW.trod enc Tryd.prog W 0 (fun _ => true) true fuel 23 l = some y) : ∃ f : Nat → Nat, (∀ i, f i < 256) ∧ l = ab f 32 := by
  obtain ⟨xs, m, _, _, _, hxl, hat⟩ := DataW.trod_array Tryd.underlying23 hf
  have key : ∀ i, i < 32 → ∃ n : Nat, l[i]? = some (.int .u8 ((n : Nat) : Int)) ∧ n < 256 := fun i hi => by
    have h1 := hat i hi
    rw [cellsU8, Nat.mul_one, List.getElem?_eq_getElem (by omega)] at h1
    obtain ⟨n, e1, _, hw⟩ := DataW.trod_int Tryd.underlying5 h1
    have hb := u8_of_wf hw
    have e2 : (l.drop i).take 1 = [.int .u8 n] := e1
    have e3 : ((l.drop i).take 1)[0]? = some (.int .u8 n) := by rw [e2]; rfl
    rw [List.getElem?_take_of_lt (by decide), List.getElem?_drop, Nat.add_zero] at e3
    exact ⟨n.toNat, by rw [e3, Int.toNat_of_nonneg hb.1], by omega⟩
  obtain ⟨F, hF⟩ : ∃ F : Nat → Nat, ∀ i, F i < 256 ∧ (i < 32 → l[i]? = some (.int .u8 ((F i : Nat) : Int))) := by
    refine ⟨fun i => if hi : i < 32 then (key i hi).choose else 0, fun i => ?_⟩
    by_cases hi : i < 32
    · simp only [hi, dite_true, forall_const]
      exact ⟨(key i hi).choose_spec.2, (key i hi).choose_spec.1⟩
    · simp [hi]
  refine ⟨F, fun i => (hF i).1, ?_⟩
  apply List.ext_getElem?
  intro i
  rcases Nat.lt_or_ge i 32 with hi | hi
  · rw [(hF i).2 hi, ab_at F hi]
  · rw [List.getElem?_eq_none (by omega), List.getElem?_eq_none (by rw [ab_len]; exact hi)]
end Go.Proofs.YtkpkkjcfodjifaaDoor
namespace Go.Proofs.YtkpkkjcfodjifaaDoor
set_option maxRecDepth 100000
open Go.ChangeShapes Go.WideShapes Go.ChangeAt Go.RowKit

theorem i64_of_wf {x : Int} (h : (Lit.int .i64 x).wf = true) : -9223372036854775808 ≤ x ∧ x < 9223372036854775808 := by
  simp [Lit.wf, IntKind.min, IntKind.max, IntKind.signed, IntKind.bits] at h
  exact ⟨by omega, by omega⟩
theorem cellsClaim : Tryd.prog.cellsOf 26 = 67 := by kernel_rfl
theorem cellsHashes1 : Tryd.prog.cellsOf 24 = 1 := by kernel_rfl
theorem cellsInt1 : Tryd.prog.cellsOf 3 = 1 := by kernel_rfl
theorem open_hashes_cells {H : Type} {enc : TypeId × Value → H} {W : World} {fuel : Nat} {c0 : Value} {y : DataW H × List MemPlace} (hf : DataW.trod enc Tryd.prog W 0 (fun _ => true) true fuel 24 [c0] = some y) :
    ∃ z n c F, c0 = .slice z n c ∧ HL W z n F ∧ n ≤ c ∧ c ≤ maxLen := by
  rcases Go.Deep.open_slice Tryd.underlying24 hf with ⟨hcs, _⟩ | ⟨a, len, cap, m, n, D, Pl, hcs, _, hl, hmx, hm, _, hx⟩
  · simp at hcs
    exact ⟨none, 0, 0, fun _ _ => 0, hcs, ⟨fun _ _ => by omega, Or.inl rfl⟩, Nat.le_refl _, by unfold maxLen; omega⟩
  · simp at hcs
    subst hcs
    simp only [if_true] at hm
    subst hm
    rw [cellsHash] at hx
    have key : ∀ i, i < m → ∃ f : Nat → Nat, W.cells? 0 (a.add (i * 32)) 32 = some (ab f 32) ∧ ∀ j, f j < 256 := fun i hi => by
      obtain ⟨cs', h1, h2⟩ := hx i hi
      obtain ⟨_, hlen, _⟩ := World.cells?_some h1
      obtain ⟨f, hf1, rfl⟩ := hash_cells hlen h2
      exact ⟨f, h1, hf1⟩
    have hI : Inhabited (Nat → Nat) := ⟨fun _ => 0⟩
    obtain ⟨O, hO⟩ := Go.Deep.choose_lt key
    refine ⟨some a, len, _, fun i => if i < m then O i else fun _ => 0, rfl, ⟨fun i j => ?_, ?_⟩, hl, hmx⟩
    · by_cases h : i < m
      · show (if i < m then O i else fun _ => 0) j < 256
        rw [if_pos h]
        exact (hO i h).2 j
      · show (if i < m then O i else fun _ => 0) j < 256
        rw [if_neg h]
        omega
    by_cases h0 : len = 0
    · exact Or.inl h0
    · right
      obtain ⟨b, off, spot⟩ := a
      have hc : ∀ i j, i < len → j < 32 → W.cell? (((⟨b, off, spot⟩ : Addr).add (i * 32)).add j) = (ab (O i) 32)[j]? := fun i j hi hj => (World.cells?_some (hO i (by omega)).1).2.2 j hj
      have hspot : spot = none := by
        have h1 : W.cell? (((⟨b, off, spot⟩ : Addr).add (0 * 32)).add 0) = some (.int .u8 ((O 0 0 : Nat) : Int)) := (hc 0 0 (by omega) (by omega)).trans (ab_at _ (by omega))
        simpa [Addr.add] using World.cell?_spot h1
      subst hspot
      refine ⟨b, off, rfl, fun i hi j v hv => ?_⟩
      have hi' : i < m := by omega
      simp only [hi', if_true] at hv
      have hj : j < 32 := by
        have := (List.getElem?_eq_some_iff.1 hv).1
        rwa [ab_len] at this
      have := hc i j hi hj
      rw [Addr.add_mid, Addr.add_mid] at this
      rw [this]
      exact hv
/-- A parameter that is a claim. -/
theorem open_claim {H : Type} {enc : TypeId × Value → H} {W : World} {base : Nat} {v : Value} {d : DataW H} {p : List MemPlace}
    (hv0 : Value.okWide Tryd.prog W .any base 26 v) (h : DataW.Trod enc Tryd.prog W 0 (fun _ => true) true 26 v d p) :
    ∃ m n f x l c g F, v = .agg (cl m n f x l c g).toArray ∧ n < 9223372036854775808 ∧ (∀ j, f j < 256) ∧ HL W x l F ∧ l ≤ c ∧ c ≤ maxLen ∧ (∀ j, g j < 256) := by
  obtain ⟨cs, rfl, hsz, _⟩ : ∃ cs, v = .agg cs ∧ cs.size = Tryd.prog.cellsOf 26 ∧ Row.okWide Tryd.prog W .any base 26 cs := by
    simpa [Value.okWide, Tryd.underlying26] using hv0
  rw [cellsClaim] at hsz
  obtain ⟨l⟩ := cs
  have hl : l.length = 67 := by simpa using hsz
  obtain ⟨fuel, hf⟩ := h
  have hf : DataW.trod enc Tryd.prog W 0 (fun _ => true) true fuel 26 l = some (d, p) := hf
  obtain ⟨xs, k, _, _, _, hxl, hat⟩ := DataW.trod_struct Tryd.underlying26 hf
  have hxs : xs.length = 5 := hxl
  have g0 := hat 0 { name := "M", type := 3, offset := 0, embedded := false, tag := "", pkgPath := "", byteOffset := 0 } rfl
  have g1 := hat 1 { name := "N", type := 3, offset := 1, embedded := false, tag := "", pkgPath := "", byteOffset := 8 } rfl
  have g2 := hat 2 { name := "Hash", type := 23, offset := 2, embedded := false, tag := "", pkgPath := "", byteOffset := 16 } rfl
  have g3 := hat 3 { name := "List", type := 24, offset := 34, embedded := false, tag := "", pkgPath := "", byteOffset := 48 } rfl
  have g4 := hat 4 { name := "Root", type := 23, offset := 35, embedded := false, tag := "", pkgPath := "", byteOffset := 72 } rfl
  dsimp only at g0 g1 g2 g3 g4
  rw [cellsInt1] at g0 g1
  rw [cellsHash] at g2 g4
  rw [cellsHashes1] at g3
  rw [List.getElem?_eq_getElem (by omega)] at g0 g1 g2 g3 g4
  obtain ⟨m, e0, _, _⟩ := DataW.trod_int Tryd.underlying3 g0
  obtain ⟨n, e1, _, wn⟩ := DataW.trod_int Tryd.underlying3 g1
  obtain ⟨f, hf1, e2⟩ := hash_cells (by rw [List.length_take, List.length_drop]; omega) g2
  obtain ⟨g, hg1, e4⟩ := hash_cells (by rw [List.length_take, List.length_drop]; omega) g4
  obtain ⟨c0, e3⟩ : ∃ c0, (l.drop 34).take 1 = [c0] := by
    have hlen : ((l.drop 34).take 1).length = 1 := by rw [List.length_take, List.length_drop]; omega
    match (l.drop 34).take 1, hlen with
    | [c0], _ => exact ⟨c0, rfl⟩
  have e3' := e3
  rw [e3] at g3
  obtain ⟨x, ll, c, F, rfl, hL, h1, h2⟩ := open_hashes_cells g3
  refine ⟨m, n, f, x, ll, c, g, F, ?_, (i64_of_wf wn).2, hf1, hL, h1, h2, hg1⟩
  have e : l = l.take 1 ++ ((l.drop 1).take 1 ++ ((l.drop 2).take 32 ++ ((l.drop 34).take 1 ++ (l.drop 35).take 32))) := by
    conv => lhs; rw [← List.take_append_drop 1 l, ← List.take_append_drop 1 (l.drop 1), List.drop_drop, ← List.take_append_drop 32 (l.drop (1 + 1)), List.drop_drop, ← List.take_append_drop 1 (l.drop (1 + 1 + 32)), List.drop_drop]
    rw [List.take_of_length_le (l := l.drop 35) (i := 32) (by rw [List.length_drop]; omega)]
  have e0' : l.take 1 = [.int .i64 m] := by simpa using e0
  have e1' : (l.drop 1).take 1 = [.int .i64 n] := by simpa using e1
  rw [e, e0', e1', e2, e3', e4]
  rfl
end Go.Proofs.YtkpkkjcfodjifaaDoor
namespace Go.Proofs.YtkpkkjcfodjifaaDoor
set_option maxRecDepth 100000
open Go.RowKit
attribute [local go_sem ↓] Go.wp_at_zero Go.wp_at_succ

set_option maxRecDepth 100000 in
set_option maxHeartbeats 16000000 in
theorem checkProofs_walk {w : World} {m n : Int} {f g : Nat → Nat} {x : Option Addr} {l c : Nat} {F : Nat → Nat → Nat} (hT : TabZ w) (hn : n < 9223372036854775808) (hf : ∀ j, f j < 256) (hx : HL w x l F) (hc : l ≤ c) (hm : c ≤ maxLen) (hg : ∀ j, g j < 256) :
    Calls Tryd.prog 4 #[.agg (cl m n f x l c g).toArray] w fun e w' => e = .returned (.bool true) ∧ Below w.heap.size w w' := by
  have HT := hide hT
  have HX := hide hx
  have HC := hide (And.intro hc hm)
  have HF := hide (And.intro hf hg)
  have HN := hide hn
  clear hT hx hc hm hf hg hn
  by_cases hl : l ≤ 70
  · have hq : (l : Int) ≤ 70 := by omega
    have HL7 := hide hl
    clear hl
    go_enter Tryd.func4, Tryd.ntmps4
    go_upto_region 1 with fail
    refine wp_world (fun X hX => ?_)
    have hv : Vc w X [(w.heap.size, cl m n f x l c g)] := by rw [hX]; exact (Vc.nil w).made 26 _
    clear hX
    obtain ⟨b0, hb0⟩ : ∃ b0, w.heap.size = b0 := ⟨_, rfl⟩
    rw [hb0] at hv ⊢
    have HV := hide hv
    have HTX := hide (HT.out.keep hv.k)
    clear hv hb0
    go_upto_region 3 with (go_at_call 8; refine Calls.mono (awake_any HTX.out.tab) ?_; rintro e W1 ⟨rfl, hb⟩; have HV1 := hide (HV.out.keep hb); have HT1 := hide (HTX.out.keep hb); have hcx := cl_x (HV1.out.row 0 rfl).c; clear hb HV HTX)
    clear hcx
    go_upto_region 4 with (first
      | (refine HV3.out.listPutC (b := b3) 0 rfl rfl rfl rfl rfl (cl_len _ _ _ _ _ _ _) (fun Y hv => ?_); have HV6 : Hid (Vc w Y [(b3, cl m n f2 x l c g2), (b0, cl m n f x l c g)]) := hide hv; clear hv HV3)
      | (refine HV2.out.listNewC rfl rfl (fun b3 W3 hv hb => ?_); have HV3 := hide hv; clear hv hb HV2)
      | (go_at_call 9; (with_reducible refine Calls.mono (fits_any (HX.out.keep HV1.out.k) HC.out.1 HC.out.2 HN.out HF.out.1 HF.out.2 true) ?_); rintro e W2 hE; obtain ⟨f2, g2, rfl, hf2, hg2, hb⟩ := hE; have HV2 := hide (HV1.out.keep hb); have HF2 := hide (And.intro hf2 hg2); clear hb HV1 hf2 hg2)
      | (refine wpList_load_mid rfl 26 _ rfl b0 0 rfl (cl m n f x l c g) _ ((HV1.out.row 0 rfl).c) Tryd.underlying26 rfl (ilC _ _ _ _ _ _ _) ?_))
    have HRc := hide (HV6.out.row 1 rfl).c
    have HRd := hide (HV6.out.row 0 rfl).c
    have HTY := hide (HT.out.keep HV6.out.k)
    have HXY := hide (HX.out.keep HV6.out.k)
    obtain ⟨v, hv⟩ : ∃ v, ckT m n f (rv F l) g = v := ⟨_, rfl⟩
    obtain ⟨v2, hv2⟩ : ∃ v, ckT m n f2 (rv F l) g2 = v := ⟨_, rfl⟩
    have hPa := fun W (h : Below Y.heap.size Y W) => checkProof_any (w := W) (m := m) (n := n) (f := f) (g := g) (c := c) (HTY.out.keep h) (HXY.out.keep h) HC.out.1 HC.out.2 (by have := HL7.out; omega) HN.out HF.out.1 HF.out.2
    have hPb := fun W (h : Below Y.heap.size Y W) => refProof19_any (w := W) (m := m) (n := n) (f := f) (g := g) (c := c) (HXY.out.keep h) HC.out.1 HC.out.2 HN.out HF.out.1
    have hPc := fun W (h : Below Y.heap.size Y W) => checkProof_any (w := W) (m := m) (n := n) (f := f2) (g := g2) (c := c) (HTY.out.keep h) (HXY.out.keep h) HC.out.1 HC.out.2 (by have := HL7.out; omega) HN.out HF2.out.1 HF2.out.2
    have hPd := fun W (h : Below Y.heap.size Y W) => refProof19_any (w := W) (m := m) (n := n) (f := f2) (g := g2) (c := c) (HXY.out.keep h) HC.out.1 HC.out.2 HN.out HF2.out.1
    rw [hv] at hPa hPb
    rw [hv2] at hPc hPd
    clear hv hv2
    unfold Go.Proofs.YtkpkkjcfodjifaaDoor.hv at hPa hPb hPc hPd
    have HPa := hide hPa
    have HPb := hide hPb
    have HPc := hide hPc
    have HPd := hide hPd
    clear hPa hPb hPc hPd
    refine wp_region_noPanic ?_
    refine wp_region_held_drew (S := fun w' => Below Y.heap.size Y w') (by kernel_rfl) (Go.Proofs.YtkpkkjcfodjifaaDoor.K.drew (Below.refl _ Y)) (fun hS0 => ?_)
    refine wpAnyH_take (i := 0) (v := .pointer (some ⟨b0, 0, none⟩)) rfl (by kernel_rfl) (by kernel_rfl) (by kernel_rfl) (fun _ _ _ h => h) (Or.inl ⟨by rfl, fun w' _ => by go_simp⟩) hS0 ?_
    simp only [Act.put, List.getElem_toArray, List.getElem_cons_zero, List.setIfInBounds_toArray, List.set_cons_zero, List.set_cons_succ]
    refine wpAnyH_take (i := 1) (v := .int .i64 m) rfl (by kernel_rfl) (by kernel_rfl) (by kernel_rfl) (fun _ _ _ h => h) (Or.inl ⟨by rfl, fun w' hS => by have hc := later hS (cl_m HRc.out); go_simp⟩) hS0 ?_
    simp only [Act.put, List.getElem_toArray, List.getElem_cons_zero, List.getElem_cons_succ, List.setIfInBounds_toArray, List.set_cons_zero, List.set_cons_succ]
    refine wpAnyH_take (i := 2) (v := .pointer (some ⟨b0, 1, none⟩)) rfl (by kernel_rfl) (by kernel_rfl) (by kernel_rfl) (fun _ _ _ h => h) (Or.inl ⟨by rfl, fun w' _ => by go_simp⟩) hS0 ?_
    simp only [Act.put, List.getElem_toArray, List.getElem_cons_zero, List.getElem_cons_succ, List.setIfInBounds_toArray, List.set_cons_zero, List.set_cons_succ]
    refine wpAnyH_take (i := 3) (v := .int .i64 n) rfl (by kernel_rfl) (by kernel_rfl) (by kernel_rfl) (fun _ _ _ h => h) (Or.inl ⟨by rfl, fun w' hS => by have hc := later hS (cl_n HRc.out); go_simp⟩) hS0 ?_
    simp only [Act.put, List.getElem_toArray, List.getElem_cons_zero, List.getElem_cons_succ, List.setIfInBounds_toArray, List.set_cons_zero, List.set_cons_succ]
    refine wpAnyH_take (i := 4) (v := .pointer (some ⟨b0, 2, none⟩)) rfl (by kernel_rfl) (by kernel_rfl) (by kernel_rfl) (fun _ _ _ h => h) (Or.inl ⟨by rfl, fun w' _ => by go_simp⟩) hS0 ?_
    simp only [Act.put, List.getElem_toArray, List.getElem_cons_zero, List.getElem_cons_succ, List.setIfInBounds_toArray, List.set_cons_zero, List.set_cons_succ]
    refine wpAnyH_take (i := 5) (v := .agg (ab f 32).toArray) rfl (by kernel_rfl) (by kernel_rfl) (by kernel_rfl) (fun _ _ _ h => h) (yieldsIf_load_mid (by rfl) 23 _ rfl b0 2 (by rfl) (ab f 32) _ (fun w' hS => range_keep (cl_f HRc.out) hS) Tryd.underlying23 rfl (ilH _)) hS0 ?_
    simp only [Act.put, List.getElem_toArray, List.getElem_cons_zero, List.getElem_cons_succ, List.setIfInBounds_toArray, List.set_cons_zero, List.set_cons_succ]
    refine wpAnyH_take (i := 6) (v := .pointer (some ⟨b0, 34, none⟩)) rfl (by kernel_rfl) (by kernel_rfl) (by kernel_rfl) (fun _ _ _ h => h) (Or.inl ⟨by rfl, fun w' _ => by go_simp⟩) hS0 ?_
    simp only [Act.put, List.getElem_toArray, List.getElem_cons_zero, List.getElem_cons_succ, List.setIfInBounds_toArray, List.set_cons_zero, List.set_cons_succ]
    refine wpAnyH_take (i := 7) (v := .slice x l c) rfl (by kernel_rfl) (by kernel_rfl) (by kernel_rfl) (fun _ _ _ h => h) (Or.inl ⟨by rfl, fun w' hS => by have hc := later hS (cl_x HRc.out); go_simp⟩) hS0 ?_
    simp only [Act.put, List.getElem_toArray, List.getElem_cons_zero, List.getElem_cons_succ, List.setIfInBounds_toArray, List.set_cons_zero, List.set_cons_succ]
    refine wpAnyH_take (i := 8) (v := .pointer (some ⟨b0, 35, none⟩)) rfl (by kernel_rfl) (by kernel_rfl) (by kernel_rfl) (fun _ _ _ h => h) (Or.inl ⟨by rfl, fun w' _ => by go_simp⟩) hS0 ?_
    simp only [Act.put, List.getElem_toArray, List.getElem_cons_zero, List.getElem_cons_succ, List.setIfInBounds_toArray, List.set_cons_zero, List.set_cons_succ]
    refine wpAnyH_take (i := 9) (v := .agg (ab g 32).toArray) rfl (by kernel_rfl) (by kernel_rfl) (by kernel_rfl) (fun _ _ _ h => h) (yieldsIf_load_mid (by rfl) 23 _ rfl b0 35 (by rfl) (ab g 32) _ (fun w' hS => range_keep (cl_g HRc.out) hS) Tryd.underlying23 rfl (ilH _)) hS0 ?_
    simp only [Act.put, List.getElem_toArray, List.getElem_cons_zero, List.getElem_cons_succ, List.setIfInBounds_toArray, List.set_cons_zero, List.set_cons_succ]
    refine wpAnyH_take (i := 11) (v := .pointer (some ⟨b0, 0, none⟩)) rfl (by kernel_rfl) (by kernel_rfl) (by kernel_rfl) (fun _ _ _ h => h) (Or.inl ⟨by rfl, fun w' _ => by go_simp⟩) hS0 ?_
    simp only [Act.put, List.getElem_toArray, List.getElem_cons_zero, List.getElem_cons_succ, List.setIfInBounds_toArray, List.set_cons_zero, List.set_cons_succ]
    refine wpAnyH_take (i := 12) (v := .int .i64 m) rfl (by kernel_rfl) (by kernel_rfl) (by kernel_rfl) (fun _ _ _ h => h) (Or.inl ⟨by rfl, fun w' hS => by have hc := later hS (cl_m HRc.out); go_simp⟩) hS0 ?_
    simp only [Act.put, List.getElem_toArray, List.getElem_cons_zero, List.getElem_cons_succ, List.setIfInBounds_toArray, List.set_cons_zero, List.set_cons_succ]
    refine wpAnyH_take (i := 13) (v := .pointer (some ⟨b0, 1, none⟩)) rfl (by kernel_rfl) (by kernel_rfl) (by kernel_rfl) (fun _ _ _ h => h) (Or.inl ⟨by rfl, fun w' _ => by go_simp⟩) hS0 ?_
    simp only [Act.put, List.getElem_toArray, List.getElem_cons_zero, List.getElem_cons_succ, List.setIfInBounds_toArray, List.set_cons_zero, List.set_cons_succ]
    refine wpAnyH_take (i := 14) (v := .int .i64 n) rfl (by kernel_rfl) (by kernel_rfl) (by kernel_rfl) (fun _ _ _ h => h) (Or.inl ⟨by rfl, fun w' hS => by have hc := later hS (cl_n HRc.out); go_simp⟩) hS0 ?_
    simp only [Act.put, List.getElem_toArray, List.getElem_cons_zero, List.getElem_cons_succ, List.setIfInBounds_toArray, List.set_cons_zero, List.set_cons_succ]
    refine wpAnyH_take (i := 15) (v := .pointer (some ⟨b0, 2, none⟩)) rfl (by kernel_rfl) (by kernel_rfl) (by kernel_rfl) (fun _ _ _ h => h) (Or.inl ⟨by rfl, fun w' _ => by go_simp⟩) hS0 ?_
    simp only [Act.put, List.getElem_toArray, List.getElem_cons_zero, List.getElem_cons_succ, List.setIfInBounds_toArray, List.set_cons_zero, List.set_cons_succ]
    refine wpAnyH_take (i := 16) (v := .agg (ab f 32).toArray) rfl (by kernel_rfl) (by kernel_rfl) (by kernel_rfl) (fun _ _ _ h => h) (yieldsIf_load_mid (by rfl) 23 _ rfl b0 2 (by rfl) (ab f 32) _ (fun w' hS => range_keep (cl_f HRc.out) hS) Tryd.underlying23 rfl (ilH _)) hS0 ?_
    simp only [Act.put, List.getElem_toArray, List.getElem_cons_zero, List.getElem_cons_succ, List.setIfInBounds_toArray, List.set_cons_zero, List.set_cons_succ]
    refine wpAnyH_take (i := 17) (v := .pointer (some ⟨b0, 34, none⟩)) rfl (by kernel_rfl) (by kernel_rfl) (by kernel_rfl) (fun _ _ _ h => h) (Or.inl ⟨by rfl, fun w' _ => by go_simp⟩) hS0 ?_
    simp only [Act.put, List.getElem_toArray, List.getElem_cons_zero, List.getElem_cons_succ, List.setIfInBounds_toArray, List.set_cons_zero, List.set_cons_succ]
    refine wpAnyH_take (i := 18) (v := .slice x l c) rfl (by kernel_rfl) (by kernel_rfl) (by kernel_rfl) (fun _ _ _ h => h) (Or.inl ⟨by rfl, fun w' hS => by have hc := later hS (cl_x HRc.out); go_simp⟩) hS0 ?_
    simp only [Act.put, List.getElem_toArray, List.getElem_cons_zero, List.getElem_cons_succ, List.setIfInBounds_toArray, List.set_cons_zero, List.set_cons_succ]
    refine wpAnyH_take (i := 19) (v := .pointer (some ⟨b0, 35, none⟩)) rfl (by kernel_rfl) (by kernel_rfl) (by kernel_rfl) (fun _ _ _ h => h) (Or.inl ⟨by rfl, fun w' _ => by go_simp⟩) hS0 ?_
    simp only [Act.put, List.getElem_toArray, List.getElem_cons_zero, List.getElem_cons_succ, List.setIfInBounds_toArray, List.set_cons_zero, List.set_cons_succ]
    refine wpAnyH_take (i := 20) (v := .agg (ab g 32).toArray) rfl (by kernel_rfl) (by kernel_rfl) (by kernel_rfl) (fun _ _ _ h => h) (yieldsIf_load_mid (by rfl) 23 _ rfl b0 35 (by rfl) (ab g 32) _ (fun w' hS => range_keep (cl_g HRc.out) hS) Tryd.underlying23 rfl (ilH _)) hS0 ?_
    simp only [Act.put, List.getElem_toArray, List.getElem_cons_zero, List.getElem_cons_succ, List.setIfInBounds_toArray, List.set_cons_zero, List.set_cons_succ]
    refine wpAnyH_ready (rs := [10]) (by kernel_rfl) (by simp) (AllReadyH.cons rfl (fun Kt hK => ?_) AllReadyH.nil)
    refine wanted_pos rfl ?_
    refine wp_call (R := fun r w' => r = .bool v ∧ Below Y.heap.size Y w') (vs := #[.int .i64 m, .int .i64 n, .agg (ab f 32).toArray, .slice x l c, .agg (ab g 32).toArray]) rfl (by simp only [List.map_toArray, List.map_cons, List.map_nil]; rfl) (by go_simp) (Calls.mono (HPa.out _ hS0) (fun e w' ⟨he, hb⟩ => ⟨_, he, rfl, K.call hS0 hb⟩)) (fun r W1 ⟨hr, hb⟩ => ?_)
    subst hr
    refine hK.out _ _ hb (fun hS1 => ?_)
    clear hK Kt hb
    simp only [Act.put, List.getElem_toArray, List.getElem_cons_zero, List.getElem_cons_succ, List.setIfInBounds_toArray, List.set_cons_zero, List.set_cons_succ]
    refine wpAnyH_ready (rs := [21]) (by kernel_rfl) (by simp) (AllReadyH.cons rfl (fun Kt hK => ?_) AllReadyH.nil)
    refine wanted_pos rfl ?_
    refine wp_call (R := fun r w' => r = .bool v ∧ Below Y.heap.size Y w') (vs := #[.int .i64 m, .int .i64 n, .agg (ab f 32).toArray, .slice x l c, .agg (ab g 32).toArray]) rfl (by simp only [List.map_toArray, List.map_cons, List.map_nil]; rfl) (by go_simp) (Calls.mono (HPb.out _ hS1) (fun e w' ⟨he, hb⟩ => ⟨_, he, rfl, K.call hS1 hb⟩)) (fun r W2 ⟨hr, hb⟩ => ?_)
    subst hr
    refine hK.out _ _ hb (fun hS2 => ?_)
    clear hK Kt hb
    simp only [Act.put, List.getElem_toArray, List.getElem_cons_zero, List.getElem_cons_succ, List.setIfInBounds_toArray, List.set_cons_zero, List.set_cons_succ]
    refine wpAnyH_take (i := 22) (v := .bool true) rfl (by kernel_rfl) (by kernel_rfl) (by kernel_rfl) (fun _ _ _ h => h) (Or.inl ⟨by rfl, fun w' _ => by go_simp⟩) hS2 ?_
    simp only [Act.put, List.getElem_toArray, List.getElem_cons_zero, List.getElem_cons_succ, List.setIfInBounds_toArray, List.set_cons_zero, List.set_cons_succ]
    refine wpAnyH_take (i := 23) (v := .bool true) rfl (by kernel_rfl) (by kernel_rfl) (by kernel_rfl) (fun _ _ _ h => h) (Or.inl ⟨by rfl, fun w' _ => by go_simp⟩) hS2 ?_
    simp only [Act.put, List.getElem_toArray, List.getElem_cons_zero, List.getElem_cons_succ, List.setIfInBounds_toArray, List.set_cons_zero, List.set_cons_succ]
    refine wpAnyH_take (i := 24) (v := .pointer (some ⟨b3, 0, none⟩)) rfl (by kernel_rfl) (by kernel_rfl) (by kernel_rfl) (fun _ _ _ h => h) (Or.inl ⟨by rfl, fun w' _ => by go_simp⟩) hS2 ?_
    simp only [Act.put, List.getElem_toArray, List.getElem_cons_zero, List.getElem_cons_succ, List.setIfInBounds_toArray, List.set_cons_zero, List.set_cons_succ]
    refine wpAnyH_take (i := 25) (v := .int .i64 m) rfl (by kernel_rfl) (by kernel_rfl) (by kernel_rfl) (fun _ _ _ h => h) (Or.inl ⟨by rfl, fun w' hS => by have hc := later hS (cl_m HRd.out); go_simp⟩) hS2 ?_
    simp only [Act.put, List.getElem_toArray, List.getElem_cons_zero, List.getElem_cons_succ, List.setIfInBounds_toArray, List.set_cons_zero, List.set_cons_succ]
    refine wpAnyH_take (i := 26) (v := .pointer (some ⟨b3, 1, none⟩)) rfl (by kernel_rfl) (by kernel_rfl) (by kernel_rfl) (fun _ _ _ h => h) (Or.inl ⟨by rfl, fun w' _ => by go_simp⟩) hS2 ?_
    simp only [Act.put, List.getElem_toArray, List.getElem_cons_zero, List.getElem_cons_succ, List.setIfInBounds_toArray, List.set_cons_zero, List.set_cons_succ]
    refine wpAnyH_take (i := 27) (v := .int .i64 n) rfl (by kernel_rfl) (by kernel_rfl) (by kernel_rfl) (fun _ _ _ h => h) (Or.inl ⟨by rfl, fun w' hS => by have hc := later hS (cl_n HRd.out); go_simp⟩) hS2 ?_
    simp only [Act.put, List.getElem_toArray, List.getElem_cons_zero, List.getElem_cons_succ, List.setIfInBounds_toArray, List.set_cons_zero, List.set_cons_succ]
    refine wpAnyH_take (i := 28) (v := .pointer (some ⟨b3, 2, none⟩)) rfl (by kernel_rfl) (by kernel_rfl) (by kernel_rfl) (fun _ _ _ h => h) (Or.inl ⟨by rfl, fun w' _ => by go_simp⟩) hS2 ?_
    simp only [Act.put, List.getElem_toArray, List.getElem_cons_zero, List.getElem_cons_succ, List.setIfInBounds_toArray, List.set_cons_zero, List.set_cons_succ]
    refine wpAnyH_take (i := 29) (v := .agg (ab f2 32).toArray) rfl (by kernel_rfl) (by kernel_rfl) (by kernel_rfl) (fun _ _ _ h => h) (yieldsIf_load_mid (by rfl) 23 _ rfl b3 2 (by rfl) (ab f2 32) _ (fun w' hS => range_keep (cl_f HRd.out) hS) Tryd.underlying23 rfl (ilH _)) hS2 ?_
    simp only [Act.put, List.getElem_toArray, List.getElem_cons_zero, List.getElem_cons_succ, List.setIfInBounds_toArray, List.set_cons_zero, List.set_cons_succ]
    refine wpAnyH_take (i := 30) (v := .pointer (some ⟨b3, 34, none⟩)) rfl (by kernel_rfl) (by kernel_rfl) (by kernel_rfl) (fun _ _ _ h => h) (Or.inl ⟨by rfl, fun w' _ => by go_simp⟩) hS2 ?_
    simp only [Act.put, List.getElem_toArray, List.getElem_cons_zero, List.getElem_cons_succ, List.setIfInBounds_toArray, List.set_cons_zero, List.set_cons_succ]
    refine wpAnyH_take (i := 31) (v := .slice x l c) rfl (by kernel_rfl) (by kernel_rfl) (by kernel_rfl) (fun _ _ _ h => h) (Or.inl ⟨by rfl, fun w' hS => by have hc := later hS (cl_x HRd.out); go_simp⟩) hS2 ?_
    simp only [Act.put, List.getElem_toArray, List.getElem_cons_zero, List.getElem_cons_succ, List.setIfInBounds_toArray, List.set_cons_zero, List.set_cons_succ]
    refine wpAnyH_take (i := 32) (v := .pointer (some ⟨b3, 35, none⟩)) rfl (by kernel_rfl) (by kernel_rfl) (by kernel_rfl) (fun _ _ _ h => h) (Or.inl ⟨by rfl, fun w' _ => by go_simp⟩) hS2 ?_
    simp only [Act.put, List.getElem_toArray, List.getElem_cons_zero, List.getElem_cons_succ, List.setIfInBounds_toArray, List.set_cons_zero, List.set_cons_succ]
    refine wpAnyH_take (i := 33) (v := .agg (ab g2 32).toArray) rfl (by kernel_rfl) (by kernel_rfl) (by kernel_rfl) (fun _ _ _ h => h) (yieldsIf_load_mid (by rfl) 23 _ rfl b3 35 (by rfl) (ab g2 32) _ (fun w' hS => range_keep (cl_g HRd.out) hS) Tryd.underlying23 rfl (ilH _)) hS2 ?_
    simp only [Act.put, List.getElem_toArray, List.getElem_cons_zero, List.getElem_cons_succ, List.setIfInBounds_toArray, List.set_cons_zero, List.set_cons_succ]
    refine wpAnyH_take (i := 35) (v := .pointer (some ⟨b3, 0, none⟩)) rfl (by kernel_rfl) (by kernel_rfl) (by kernel_rfl) (fun _ _ _ h => h) (Or.inl ⟨by rfl, fun w' _ => by go_simp⟩) hS2 ?_
    simp only [Act.put, List.getElem_toArray, List.getElem_cons_zero, List.getElem_cons_succ, List.setIfInBounds_toArray, List.set_cons_zero, List.set_cons_succ]
    refine wpAnyH_take (i := 36) (v := .int .i64 m) rfl (by kernel_rfl) (by kernel_rfl) (by kernel_rfl) (fun _ _ _ h => h) (Or.inl ⟨by rfl, fun w' hS => by have hc := later hS (cl_m HRd.out); go_simp⟩) hS2 ?_
    simp only [Act.put, List.getElem_toArray, List.getElem_cons_zero, List.getElem_cons_succ, List.setIfInBounds_toArray, List.set_cons_zero, List.set_cons_succ]
    refine wpAnyH_take (i := 37) (v := .pointer (some ⟨b3, 1, none⟩)) rfl (by kernel_rfl) (by kernel_rfl) (by kernel_rfl) (fun _ _ _ h => h) (Or.inl ⟨by rfl, fun w' _ => by go_simp⟩) hS2 ?_
    simp only [Act.put, List.getElem_toArray, List.getElem_cons_zero, List.getElem_cons_succ, List.setIfInBounds_toArray, List.set_cons_zero, List.set_cons_succ]
    refine wpAnyH_take (i := 38) (v := .int .i64 n) rfl (by kernel_rfl) (by kernel_rfl) (by kernel_rfl) (fun _ _ _ h => h) (Or.inl ⟨by rfl, fun w' hS => by have hc := later hS (cl_n HRd.out); go_simp⟩) hS2 ?_
    simp only [Act.put, List.getElem_toArray, List.getElem_cons_zero, List.getElem_cons_succ, List.setIfInBounds_toArray, List.set_cons_zero, List.set_cons_succ]
    refine wpAnyH_take (i := 39) (v := .pointer (some ⟨b3, 2, none⟩)) rfl (by kernel_rfl) (by kernel_rfl) (by kernel_rfl) (fun _ _ _ h => h) (Or.inl ⟨by rfl, fun w' _ => by go_simp⟩) hS2 ?_
    simp only [Act.put, List.getElem_toArray, List.getElem_cons_zero, List.getElem_cons_succ, List.setIfInBounds_toArray, List.set_cons_zero, List.set_cons_succ]
    refine wpAnyH_take (i := 40) (v := .agg (ab f2 32).toArray) rfl (by kernel_rfl) (by kernel_rfl) (by kernel_rfl) (fun _ _ _ h => h) (yieldsIf_load_mid (by rfl) 23 _ rfl b3 2 (by rfl) (ab f2 32) _ (fun w' hS => range_keep (cl_f HRd.out) hS) Tryd.underlying23 rfl (ilH _)) hS2 ?_
    simp only [Act.put, List.getElem_toArray, List.getElem_cons_zero, List.getElem_cons_succ, List.setIfInBounds_toArray, List.set_cons_zero, List.set_cons_succ]
    refine wpAnyH_take (i := 41) (v := .pointer (some ⟨b3, 34, none⟩)) rfl (by kernel_rfl) (by kernel_rfl) (by kernel_rfl) (fun _ _ _ h => h) (Or.inl ⟨by rfl, fun w' _ => by go_simp⟩) hS2 ?_
    simp only [Act.put, List.getElem_toArray, List.getElem_cons_zero, List.getElem_cons_succ, List.setIfInBounds_toArray, List.set_cons_zero, List.set_cons_succ]
    refine wpAnyH_take (i := 42) (v := .slice x l c) rfl (by kernel_rfl) (by kernel_rfl) (by kernel_rfl) (fun _ _ _ h => h) (Or.inl ⟨by rfl, fun w' hS => by have hc := later hS (cl_x HRd.out); go_simp⟩) hS2 ?_
    simp only [Act.put, List.getElem_toArray, List.getElem_cons_zero, List.getElem_cons_succ, List.setIfInBounds_toArray, List.set_cons_zero, List.set_cons_succ]
    refine wpAnyH_take (i := 43) (v := .pointer (some ⟨b3, 35, none⟩)) rfl (by kernel_rfl) (by kernel_rfl) (by kernel_rfl) (fun _ _ _ h => h) (Or.inl ⟨by rfl, fun w' _ => by go_simp⟩) hS2 ?_
    simp only [Act.put, List.getElem_toArray, List.getElem_cons_zero, List.getElem_cons_succ, List.setIfInBounds_toArray, List.set_cons_zero, List.set_cons_succ]
    refine wpAnyH_take (i := 44) (v := .agg (ab g2 32).toArray) rfl (by kernel_rfl) (by kernel_rfl) (by kernel_rfl) (fun _ _ _ h => h) (yieldsIf_load_mid (by rfl) 23 _ rfl b3 35 (by rfl) (ab g2 32) _ (fun w' hS => range_keep (cl_g HRd.out) hS) Tryd.underlying23 rfl (ilH _)) hS2 ?_
    simp only [Act.put, List.getElem_toArray, List.getElem_cons_zero, List.getElem_cons_succ, List.setIfInBounds_toArray, List.set_cons_zero, List.set_cons_succ]
    refine wpAnyH_ready (rs := [34]) (by kernel_rfl) (by simp) (AllReadyH.cons rfl (fun Kt hK => ?_) AllReadyH.nil)
    refine wanted_pos rfl ?_
    refine wp_call (R := fun r w' => r = .bool v2 ∧ Below Y.heap.size Y w') (vs := #[.int .i64 m, .int .i64 n, .agg (ab f2 32).toArray, .slice x l c, .agg (ab g2 32).toArray]) rfl (by simp only [List.map_toArray, List.map_cons, List.map_nil]; rfl) (by go_simp) (Calls.mono (HPc.out _ hS2) (fun e w' ⟨he, hb⟩ => ⟨_, he, rfl, K.call hS2 hb⟩)) (fun r W3 ⟨hr, hb⟩ => ?_)
    subst hr
    refine hK.out _ _ hb (fun hS3 => ?_)
    clear hK Kt hb
    simp only [Act.put, List.getElem_toArray, List.getElem_cons_zero, List.getElem_cons_succ, List.setIfInBounds_toArray, List.set_cons_zero, List.set_cons_succ]
    refine wpAnyH_ready (rs := [45]) (by kernel_rfl) (by simp) (AllReadyH.cons rfl (fun Kt hK => ?_) AllReadyH.nil)
    refine wanted_pos rfl ?_
    refine wp_call (R := fun r w' => r = .bool v2 ∧ Below Y.heap.size Y w') (vs := #[.int .i64 m, .int .i64 n, .agg (ab f2 32).toArray, .slice x l c, .agg (ab g2 32).toArray]) rfl (by simp only [List.map_toArray, List.map_cons, List.map_nil]; rfl) (by go_simp) (Calls.mono (HPd.out _ hS3) (fun e w' ⟨he, hb⟩ => ⟨_, he, rfl, K.call hS3 hb⟩)) (fun r W4 ⟨hr, hb⟩ => ?_)
    subst hr
    refine hK.out _ _ hb (fun hS4 => ?_)
    clear hK Kt hb
    simp only [Act.put, List.getElem_toArray, List.getElem_cons_zero, List.getElem_cons_succ, List.setIfInBounds_toArray, List.set_cons_zero, List.set_cons_succ]
    refine wpAnyH_take (i := 46) (v := .bool true) rfl (by kernel_rfl) (by kernel_rfl) (by kernel_rfl) (fun _ _ _ h => h) (Or.inl ⟨by rfl, fun w' _ => by go_simp⟩) hS4 ?_
    simp only [Act.put, List.getElem_toArray, List.getElem_cons_zero, List.getElem_cons_succ, List.setIfInBounds_toArray, List.set_cons_zero, List.set_cons_succ]
    refine wpAnyH_take (i := 47) (v := .bool true) rfl (by kernel_rfl) (by kernel_rfl) (by kernel_rfl) (fun _ _ _ h => h) (Or.inl ⟨by rfl, fun w' _ => by go_simp⟩) hS4 ?_
    simp only [Act.put, List.getElem_toArray, List.getElem_cons_zero, List.getElem_cons_succ, List.setIfInBounds_toArray, List.set_cons_zero, List.set_cons_succ]
    refine wpAnyH_take (i := 48) (v := .bool true) rfl (by kernel_rfl) (by kernel_rfl) (by kernel_rfl) (fun _ _ _ h => h) (Or.inl ⟨by rfl, fun w' _ => by go_simp⟩) hS4 ?_
    simp only [Act.put, List.getElem_toArray, List.getElem_cons_zero, List.getElem_cons_succ, List.setIfInBounds_toArray, List.set_cons_zero, List.set_cons_succ]
    refine wpAnyH_done (by kernel_rfl) ?_ _
    refine NoPanic.normal ?_
    go_wp2_with fail
    go_ret
    exact ⟨rfl, Go.Proofs.YtkpkkjcfodjifaaDoor.K.call HV6.out.k hS4⟩
  · have hq : (70 : Int) < (l : Int) := by omega
    clear hl
    go_enter Tryd.func4, Tryd.ntmps4
    go_upto_region 1 with fail
    refine wp_world (fun X hX => ?_)
    have hv : Vc w X [(w.heap.size, cl m n f x l c g)] := by rw [hX]; exact (Vc.nil w).made 26 _
    clear hX
    obtain ⟨b0, hb0⟩ : ∃ b0, w.heap.size = b0 := ⟨_, rfl⟩
    rw [hb0] at hv ⊢
    have HV := hide hv
    have HTX := hide (HT.out.keep hv.k)
    clear hv hb0
    go_upto_region 2 with (go_at_call 8; refine Calls.mono (awake_any HTX.out.tab) ?_; rintro e W1 ⟨rfl, hb⟩; have HV1 := hide (HV.out.keep hb); have HT1 := hide (HTX.out.keep hb); have hcx := cl_x (HV1.out.row 0 rfl).c; clear hb HV HTX)
    clear hcx
    go_wp2_with (go_at_call 8; refine Calls.mono (awake_any HT1.out.tab) ?_; rintro e W2 ⟨rfl, hb⟩; have HV2 := hide (HV1.out.keep hb); clear hb)
    go_ret
    exact ⟨rfl, HV2.out.k⟩
end Go.Proofs.YtkpkkjcfodjifaaDoor
