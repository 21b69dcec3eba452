/- Layer 17: slices.Backward over hashes; the program's own Root. -/
import Derived.Test.YtjobcffelbddcaaDoorP17D
import Derived.RangeFuncNested
import Derived.RangeFuncBound
import Derived.RangeFuncCalls
import Derived.RangeFuncLeaves
import Derived.Shelf.Abstract
import Derived.WalkKit
import Derived.OwnWalkIn
import Derived.TacticsInMore
import Derived.LoopNIn
import Derived.LoopIn
namespace Go.Proofs.YtjobcffelbddcaaDoor
set_option maxRecDepth 100000
open Go.RowKit Go.Shelf
attribute [local go_sem] Oper.semAt_some

/-- The places from the last one on. -/
def dn (M k : Nat) : List Nat := (List.range k).map (fun j => M - 1 - j)
theorem dn_succ (M k : Nat) : dn M (k + 1) = dn M k ++ [M - 1 - k] := by
  unfold dn
  rw [List.range_succ, List.map_append]
  rfl
theorem dn_len (M k : Nat) : (dn M k).length = k := by unfold dn; rw [List.length_map, List.length_range]
/-- All that lay ahead of a loop stays but one block. -/
structure KpT (n t : Nat) (W W' : World) : Prop where
  size : W.heap.size ≤ W'.heap.size
  block : ∀ k, k < n → k ≠ t → W'.heap[k]? = W.heap[k]?
theorem KpT.refl (n t : Nat) (W : World) : KpT n t W W := ⟨Nat.le_refl _, fun _ _ _ => rfl⟩
theorem KpT.trans {n t : Nat} {A B C : World} (h : KpT n t A B) (k : KpT n t B C) : KpT n t A C := ⟨Nat.le_trans h.size k.size, fun i hi hn => (k.block i hi hn).trans (h.block i hi hn)⟩
theorem KpT.of {n t : Nat} {W W' : World} (h : W.grownBy W' (some t)) (hn : n ≤ W.heap.size) : KpT n t W W' := ⟨h.size, fun k hk hne => h.block k (by omega) (fun e => hne (Option.some.inj e))⟩
theorem KpT.obj {n t : Nat} {w : World} (hn : n ≤ w.heap.size) (W : World) (l : Nat) (o o' : Obj) (hl : w.heap.size ≤ l) (_ : W.heap[l]? = some o) (_ : o.isCells = false) (_ : o.isWalk = false) : KpT n t W (W.putObj l o') :=
  ⟨(grownBy_putObj' W l o').size, fun k hk _ => World.putObj_heap_other (by omega)⟩
theorem KpT.cell {n t : Nat} {W W' : World} (h : KpT n t W W') {p : Addr} (hp : p.block < n) (hn : p.block ≠ t) : W'.cell? p = W.cell? p := World.cell?_of_block (h.block _ hp hn)
/-- Hashes that the loop reads: they lie below n, and not in t. -/
def Lst1 (n t : Nat) (W : World) (a : Option Addr) (M : Nat) (F : Nat → Nat → Nat) : Prop := M = 0 ∨ ∃ b o, a = some ⟨b, o, none⟩ ∧ b < n ∧ b ≠ t ∧ ∀ i, i < M → W.rangeAt b (o + i * 32) (ab (F i) 32)
theorem Lst1.kept {n t : Nat} {W W' : World} {a : Option Addr} {M : Nat} {F : Nat → Nat → Nat} (h : Lst1 n t W a M F) (k : KpT n t W W') : Lst1 n t W' a M F :=
  h.elim Or.inl fun ⟨b, o, e, h1, h2, hr⟩ => Or.inr ⟨b, o, e, h1, h2, fun i hi j v hv => (k.cell (p := ⟨b, o + i * 32 + j, none⟩) h1 h2).trans (hr i hi j v hv)⟩
section
variable {F : Fence} {n : Nat} {w : World} {ops : Array Oper} {rest : List Oper} {o : Oper} {a : Act} {Q : Exit → Act → World → Prop}
theorem wpListIn_load_h (hg : o.guard = none) (x : Operand) (hop : o.op = Op.load 33 x) {g off : Nat} {f : Nat → Nat} (hx : a.eval x = .pointer (some ⟨g, off, none⟩)) (ht : w.rangeAt g off (ab f 32)) (hK : wpListIn F n Tryd.prog ops Q rest (a.put o.dst (.agg (ab f 32).toArray)) w) : wpListIn F n Tryd.prog ops Q (o :: rest) a w := by
  refine wpListIn_plain hg fun K hK' => ?_
  unfold Oper.wpIn
  refine ⟨?_, ?_⟩
  · simp [Oper.about, hop]
  · rw [Oper.semAt_plain F _ _ (by rw [hop]; intro c hc'; cases hc')]
    simp only [execOp, hop, hx, Instr.loadAt, Instr.sureAddr, Sem.run_bind, Sem.run_pure, Result.andThen_ok, run_loadVar_mid w g off 33 (ab f 32) _ ht Tryd.underlying33 rfl (ilH _)]
    exact hK' _ _ hK
theorem wpListIn_store_h (hg : o.guard = none) (x y : Operand) (hop : o.op = Op.store 33 x y) {b : Nat} {f g : Nat → Nat} (hx : a.eval x = .pointer (some ⟨b, 0, none⟩)) (hy : a.eval y = .agg (ab f 32).toArray) (ht : RowB w b 32 g) (hK : ∀ w', RowB w' b 32 f → w.grownBy w' (some b) → wpListIn F n Tryd.prog ops Q rest (a.put o.dst undef) w') : wpListIn F n Tryd.prog ops Q (o :: rest) a w := by
  refine wpListIn_plain hg fun K hK' => ?_
  unfold Oper.wpIn
  refine ⟨?_, ?_⟩
  · simp [Oper.about, hop]
  · rw [Oper.semAt_plain F _ _ (by rw [hop]; intro c hc'; cases hc')]
    simp only [execOp, hop, hx, hy, Instr.storeAt, Instr.sureAddr, Sem.run_bind, Sem.run_pure, Result.andThen_ok, run_storeVar_mid w b 0 33 (ab f 32).toArray (RowB.there ht f) (inH f) (all_oneCell_toArray (ab_one _ _))]
    exact hK' _ _ (hK _ (RowB.stored ht f) (grown_sets b _ 0 w))
theorem wpList_alloc_h (hg : o.guard = none) (hop : o.op = Op.alloc 33) (hK : ∀ w', RowB w' w.heap.size 32 (fun _ => 0) → Below w.heap.size w w' → wpList Tryd.prog ops Q rest (a.put o.dst (.pointer (some ⟨w.heap.size, 0, none⟩))) w') : wpList Tryd.prog ops Q (o :: rest) a w := by
  refine wpList_plain hg fun K hK' => ?_
  unfold Oper.wp
  have hrun : (execOp a.eval o).run Tryd.prog w = .ok (.value (.pointer (some ⟨w.heap.size, 0, none⟩))) (w.alloc (.cells (ab (fun _ => 0) 32).toArray 33)) := by
    unfold execOp
    simp [hop, Instr.alloc, newVar, newRow, Result.andThen, Value.cells]
    rfl
  rw [hrun]
  exact hK' _ _ (hK _ (RowB.made w 33 32 _ _ rfl) (Go.Proofs.YtjobcffelbddcaaDoor.K.alloc (Below.refl _ _) _))
theorem wpList_store_h (hg : o.guard = none) (x y : Operand) (hop : o.op = Op.store 33 x y) {b : Nat} {f g : Nat → Nat} (hx : a.eval x = .pointer (some ⟨b, 0, none⟩)) (hy : a.eval y = .agg (ab f 32).toArray) (ht : RowB w b 32 g) (hK : ∀ w', RowB w' b 32 f → w.grownBy w' (some b) → wpList Tryd.prog ops Q rest (a.put o.dst undef) w') : wpList Tryd.prog ops Q (o :: rest) a w :=
  wpList_store_mid hg 33 x y hop b 0 (ab f 32).toArray hx hy (RowB.there ht f) (inH f) (all_oneCell_toArray (ab_one _ _)) (hK _ (RowB.stored ht f) (grown_sets b _ 0 w))
theorem wpListIn_alloc_h (hg : o.guard = none) (hop : o.op = Op.alloc 33) (hK : ∀ w', RowB w' w.heap.size 32 (fun _ => 0) → Below w.heap.size w w' → wpListIn F n Tryd.prog ops Q rest (a.put o.dst (.pointer (some ⟨w.heap.size, 0, none⟩))) w') : wpListIn F n Tryd.prog ops Q (o :: rest) a w := by
  refine wpListIn_plain hg fun K hK' => ?_
  unfold Oper.wpIn
  refine ⟨?_, ?_⟩
  · simp [Oper.about, hop]
  · rw [Oper.semAt_plain F _ _ (by rw [hop]; intro c hc'; cases hc')]
    have hrun : (execOp a.eval o).run Tryd.prog w = .ok (.value (.pointer (some ⟨w.heap.size, 0, none⟩))) (w.alloc (.cells (ab (fun _ => 0) 32).toArray 33)) := by
      unfold execOp
      simp [hop, Instr.alloc, newVar, newRow, Result.andThen, Value.cells]
      rfl
    rw [hrun]
    exact hK' _ _ (hK _ (RowB.made w 33 32 _ _ rfl) (Go.Proofs.YtjobcffelbddcaaDoor.K.alloc (Below.refl _ _) _))
end
theorem back_i {M k : Nat} (h : k < M) : (M : Int) - 1 - (k : Int) = ((M - 1 - k : Nat) : Int) := by omega
theorem back_w {M k : Nat} (h : k ≤ M) (hM : M ≤ 1000000) : wrap64 ((M : Int) - 1 - (k : Int)) = (M : Int) - 1 - (k : Int) := by unfold wrap64; omega
set_option maxRecDepth 100000 in
set_option maxHeartbeats 4000000 in
theorem back1_in (n : Nat) (l Bs n₀ t : Nat) {a : Option Addr} {M c : Nat} {F : Nat → Nat → Nat} (hM : M ≤ 1000000) (hBs : Bs < n₀) (hne : Bs ≠ t) (J Jx : List Nat → World → Prop)
    (hY : ∀ pre (x : Nat) W, J pre W → pre.length < M → YieldAt Fence.wide (n - 1) Tryd.prog l #[.int .i64 (x : Int), hv (F x)] W fun e W' =>
      (e = .returned (.bool true) ∧ J (pre ++ [x]) W' ∧ KpT n₀ t W W') ∨ (e = .returned (.bool false) ∧ Jx (pre ++ [x]) W'))
    (W : World) (hs : W.cell? ⟨Bs, 0, none⟩ = some (.slice a M c)) (hL : Lst1 n₀ t W a M F) (h0 : J [] W) :
    CallsIn Fence.wide n Tryd.prog 27 #[.func (.yield l) #[] #[], .pointer (some ⟨Bs, 0, none⟩)] W fun e W' => (∃ v, e = .returned v) ∧
      ((∃ ys, ys = dn M M ∧ J ys W') ∨ (∃ pre, True ∧ Jx pre W')) := by
  refine callsIn_of_wp Tryd.func27 rfl trivial ?_ rfl
  simp only [Tryd.ntmps27, List.size_toArray, List.length_cons, List.length_nil, Nat.reduceAdd, Nat.reduceSub, Array.replicate_succ, Array.replicate_zero, List.push_toArray, List.append_toArray, List.nil_append, List.cons_append]
  have hw0 : wrap64 ((M : Int) - 1) = (M : Int) - 1 := by unfold wrap64; omega
  gi_wp2
  gi_loopw [3] (fun i wr => ∃ k : Nat, k ≤ M ∧ i = .int .i64 ((M : Int) - 1 - (k : Int)) ∧ J (dn M k) wr ∧ KpT n₀ t W wr)
    (fun i _ => (intOf i + 1).toNat)
  case atStart => exact ⟨0, Nat.zero_le _, by simp, h0, KpT.refl _ _ _⟩
  case round =>
    obtain ⟨k, hk, rfl, hJs, hnx⟩ := hrel
    have hs' := (hnx.cell (p := ⟨Bs, 0, none⟩) hBs hne).trans hs
    have hL' := hL.kept hnx
    by_cases hlt : k < M
    · obtain ⟨x, hx⟩ : ∃ x, x = M - 1 - k := ⟨_, rfl⟩
      have hxi : (M : Int) - 1 - (k : Int) = (x : Int) := by omega
      have hxm : (x : Int) < (M : Int) := by omega
      have hxn : x < M := by omega
      have hxw : wrap64 ((x : Int) - 1) = (x : Int) - 1 := by unfold wrap64; omega
      rcases hL' with e | ⟨b, o, rfl, hb, hbt, hr⟩
      · omega
      have hR := hide (hr x hxn)
      obtain ⟨fn, tmps, assign, body, hy, hR2⟩ := hY _ x wr hJs (by rw [dn_len]; exact hlt)
      unfold hv at hy
      rw [hxi]
      have HH := hide (And.intro hx hxi)
      clear hx hxi hr
      gi_wp2_with (refine wpListIn_load_h rfl _ rfl rfl hR.out ?_)
      refine ⟨fun h => (by cases h), ?_⟩
      refine hR2.mono ?_
      rintro e W3 (⟨rfl, hJ3, hk3⟩ | ⟨rfl, hJx3⟩)
      · gi_wp2
        go_roundw
        case rel => exact ⟨k + 1, hlt, by rw [show (x : Int) - 1 = (M : Int) - 1 - ((k + 1 : Nat) : Int) from by have := HH.out.2; omega], by rw [dn_succ, ← HH.out.1]; exact hJ3, hnx.trans hk3⟩
        case measure =>
          show ((x : Int) - 1 + 1).toNat < ((x : Int) + 1).toNat
          omega
      · gi_wp2
        refine bodyPost_ret (results_none rfl _ _ _) rfl ?_
        exact ⟨⟨_, rfl⟩, .inr ⟨_, trivial, hJx3⟩⟩
    · obtain rfl : k = M := by omega
      have hq : ¬ ((0 : Int) ≤ (k : Int) - 1 - (k : Int)) := by omega
      gi_wp2
      go_end0
      exact ⟨⟨_, rfl⟩, .inl hJs⟩
theorem back_stops (n : Nat) {Bs n₀ t : Nat} {a : Option Addr} {M c : Nat} {F : Nat → Nat → Nat} (hM : M ≤ 1000000) (hBs : Bs < n₀) (hne : Bs ≠ t) {w : World} (hn : n₀ ≤ w.heap.size) (hs : w.cell? ⟨Bs, 0, none⟩ = some (.slice a M c)) (hL : Lst1 n₀ t w a M F) :
    SeqStopsK Fence.wide n Tryd.prog 27 #[.pointer (some ⟨Bs, 0, none⟩)] (fun x : Nat => #[.int .i64 (x : Int), hv (F x)]) (KpT n₀ t) (fun ys => ys = dn M M) (fun _ => True) M w := fun l J Jx W hW _ _ hY h0 =>
  back1_in n l Bs n₀ t hM hBs hne J Jx hY W ((hW.cell (p := ⟨Bs, 0, none⟩) (by show Bs < _; omega)).trans hs) (hL.kept ⟨hW.size, fun k hk _ => hW.block k (by omega)⟩) h0
theorem back_any {a : Option Addr} {n c : Nat} (w : World) : Calls Tryd.prog 18 #[.slice a n c] w fun e w' => e = .returned (.func (.func 27) #[] #[.pointer (some ⟨w.heap.size, 0, none⟩)]) ∧ w' = w.alloc (.cells #[.slice a n c] 22) := by
  go_enter Tryd.func18, Tryd.ntmps18
  go_wp2_with fail
  go_ret
  exact ⟨rfl, rfl⟩
/-- The root while it is made, the places pre having come. -/
def fo (L : List (Nat → Nat)) (M : Nat) (pre : List Nat) : Nat → Nat := pre.foldl (fun r x => nd (lF L x) r) (lF L M)
theorem fo_snoc (L : List (Nat → Nat)) (M : Nat) (pre : List Nat) (x : Nat) : fo L M (pre ++ [x]) = nd (lF L x) (fo L M pre) := by unfold fo; rw [List.foldl_append]; rfl
theorem lF_at {L : List (Nat → Nat)} {i : Nat} {f : Nat → Nat} (h : L[i]? = some f) : lF L i = f := by
  unfold lF
  rw [List.getD_eq_getElem?_getD, h]
  rfl
theorem fo_drop {L : List (Nat → Nat)} {M : Nat} (hL : L.length = M + 1) : ∀ k, k ≤ M → fo L M (dn M k) = rO (L.drop (M - k))
  | 0, _ => by
    have h : L[M]? = some L[M] := List.getElem?_eq_getElem (by omega)
    have e : L.drop (M - 0) = [L[M]] := by
      rw [Nat.sub_zero, List.drop_eq_getElem_cons (by omega), List.drop_eq_nil_of_le (by omega)]
    rw [e]
    show lF L M = L[M]
    exact lF_at h
  | k + 1, hk => by
    have h : L[M - 1 - k]? = some L[M - 1 - k] := List.getElem?_eq_getElem (by omega)
    have e : L.drop (M - (k + 1)) = L[M - 1 - k] :: L.drop (M - k) := by
      have e1 : M - (k + 1) = M - 1 - k := by omega
      rw [e1, List.drop_eq_getElem_cons (by omega), show M - 1 - k + 1 = M - k by omega]
    rw [dn_succ, fo_snoc, fo_drop hL k (by omega), e, lF_at h]
    cases hd : L.drop (M - k) with
    | nil =>
      have := congrArg List.length hd
      rw [List.length_drop] at this
      simp at this
      omega
    | cons b l => rfl
theorem fo_all {L : List (Nat → Nat)} {M : Nat} (hL : L.length = M + 1) : fo L M (dn M M) = rO L := by
  rw [fo_drop hL M (Nat.le_refl _), Nat.sub_self, List.drop_zero]
theorem fo_lt' {L : List (Nat → Nat)} (hL : ∀ i j, lF L i j < 256) : ∀ (pre : List Nat) (r : Nat → Nat), (∀ j, r j < 256) → ∀ j, pre.foldl (fun r x => nd (lF L x) r) r j < 256
  | [], _, h, j => h j
  | _ :: pre, _, _, j => fo_lt' hL pre _ (fun i => nd_lt _ _ i) j
theorem fo_lt {L : List (Nat → Nat)} (hL : ∀ i j, lF L i j < 256) (M : Nat) (pre : List Nat) (j : Nat) : fo L M pre j < 256 := fo_lt' hL pre _ (hL M) j
theorem fold2 (T : Array Value) (v1 v2 : Value) : ((#[25, 26] : Array Tmp).zip #[v1, v2]).foldl (fun t (p, v) => t.setIfInBounds p v) T = (T.setIfInBounds 25 v1).setIfInBounds 26 v2 := by simp
theorem row8_own (B : Nat) (f : List Nat → Nat → Nat) : Own (fun s W => RowB W B 32 (f s)) := fun _ _ _ _ h hg hr =>
  ⟨Nat.lt_of_lt_of_le h.lt hg.size, fun i hi => cell_kept (h.c i hi) hg hr, fun i hi => (frozen_kept (h.c i hi) hg hr).trans (h.z i hi)⟩
set_option maxRecDepth 100000 in
set_option maxHeartbeats 16000000 in
theorem rootT_any {w : World} {P : Value} {L : List (Nat → Nat)} (hT : Tab w) (hE : ∀ W, Below w.heap.size w W → Calls Tryd.prog 11 #[P] W (EgP W L)) (hL : ∀ f ∈ L, ∀ j, f j < 256) (hn : L.length ≤ 100000) :
    Calls Tryd.prog 13 #[P] w fun e w' => e = .returned (hv (rO L)) ∧ Below w.heap.size w w' := by
  have HT := hide hT
  have HE := hide hE
  have HLt := hide (lF_lt hL)
  have HN := hide hn
  clear hT hE hL hn
  refine callsIn_wide.1 (callsIn_of_wp_marks (n := 5) Tryd.func13 rfl trivial ?_ rfl)
  simp only [Tryd.ntmps13, List.size_toArray, List.length_cons, List.length_nil, Nat.reduceAdd, Nat.reduceSub, Array.replicate_succ, Array.replicate_zero, List.push_toArray, List.append_toArray, List.nil_append, List.cons_append]
  refine wpIn_wide.2 ?_
  obtain ⟨Q0, hQ0⟩ : ∃ Q0, Q0 = bodyPostM Fence.wide 5 Tryd.prog Tryd.f13 (fun e w' => e = Ending.returned (hv (rO L)) ∧ Below w.heap.size w w') := ⟨_, rfl⟩
  rw [← hQ0]
  have HQ := hide hQ0
  clear hQ0
  go_upto_region 1 with fail
  refine wp_world (fun X hX => ?_)
  rw [zeros32] at hX
  obtain ⟨hB, hH⟩ := made_h hX
  clear hX
  obtain ⟨b0, hb0⟩ : ∃ b0, w.heap.size = b0 := ⟨_, rfl⟩
  have HTX := hide (HT.out.keep hB)
  have HEX := hide (HE.out X hB)
  rw [hb0] at hB hH ⊢
  have HB := hide hB
  have HH := hide hH
  clear hB hH HE
  go_upto_region 2 with (go_at_call 11; refine Calls.mono HEX.out ?_; rintro e W1 hEg; obtain ⟨v1, rfl, hO1, hB1⟩ := hEg; obtain ⟨a1, c1, rfl, h1, h2⟩ := hO1.form; have HO1 := hide hO1; have HB1 := hide hB1; have HC1 := hide (And.intro h1 h2); clear hO1 hB1 h1 h2)
  obtain ⟨m, hm⟩ : ∃ m, L.length = m := ⟨_, rfl⟩
  have HM := hide hm
  have HHl := hide (HO1.out.hl HLt.out)
  rw [hm] at HHl HC1 ⊢
  by_cases h0 : m = 0
  · subst h0
    have HL0 : Hid (L = []) := List.length_eq_zero_iff.1 hm
    have HT1 := hide (HTX.out.keep HB1.out)
    have HRt := hide (root_any 0 (x := none) (c := 0) (F := fun _ _ => 0) HT1.out ⟨fun _ _ => by omega, Or.inl rfl⟩ (Nat.le_refl _) (by unfold maxLen; omega) (by omega))
    rw [rt_zero] at HRt
    clear hm
    unfold hv at HRt
    go_wp2_with fail
    with_reducible refine Calls.mono HRt.out ?_
    rintro e W3 ⟨rfl, hb⟩
    obtain ⟨HTH, HST, HB9⟩ := put_h hb0 HH.out HB.out (K.call HB1.out hb) e0
    clear hb HRt
    go_wp2_with (refine wpList_store_mid rfl 33 _ _ rfl b0 0 (ab e0 32).toArray rfl rfl HTH.out (inH _) (all_oneCell_toArray (ab_one _ _)) ?_; generalize W3.setCells b0 0 (ab e0 32).toArray.toList = Z at HST HB9 ⊢)
    rw [HQ.out]
    refine ⟨_, results_cell_mid Tryd.results13 _ _ b0 (ab e0 32) _ rfl (RowB.range HST.out) Tryd.underlying33 rfl (ilH _), ?_, ?_⟩
    · rw [HL0.out]
      rfl
    · rw [hb0]
      exact HB9.out
  · obtain ⟨M, hM⟩ : ∃ M, m = M + 1 := ⟨m - 1, by omega⟩
    have hmw : wrap64 ((m : Int) - 1) = (M : Int) := by unfold wrap64; have := HN.out; omega
    have hm0 : ¬ (m = 0) := h0
    have hMm : (M : Int) < (m : Int) := by omega
    have hMn : M < m := by omega
    rcases HHl.out.at_ with h5 | ⟨g, o, rfl, hr⟩
    · exact absurd h5 h0
    have HR := hide (hr M hMn)
    have hgb : g < W1.heap.size := World.block_lt_of_cell? W1 _ (hr 0 (by omega) 0 _ (ab_at (lF L 0) (by omega)))
    have HHr := hide hr
    have HMM := hide hM
    clear hr hm hM h0
    go_upto_region 5 with fail
    have hMc : M ≤ c1 := by have := HC1.out.1; omega
    go_upto_region 6 with (first
      | (refine wpList_load_h rfl _ rfl rfl HR.out ?_)
      | (refine wpList_alloc_h rfl rfl ?_; intro W2 hr2 hb2; have HR2 := hide hr2; have HB2 := hide hb2; clear hr2 hb2)
      | (refine wpList_store_h rfl _ _ rfl rfl rfl HR2.out ?_; intro W3 hr3 hg3; have HR3 := hide hr3; have HB3 := hide (HB2.out.grown hg3 HB2.out.size (fun k hk => by cases hk; exact Nat.le_refl _)); clear hr3 hg3))
    go_wp2_with (go_at_call 18; refine Calls.mono (back_any _) ?_; rintro e W4 ⟨rfl, rfl⟩)
    obtain ⟨tb, htb⟩ : ∃ tb, W1.heap.size = tb := ⟨_, rfl⟩
    obtain ⟨Bs, hBs⟩ : ∃ Bs, W3.heap.size = Bs := ⟨_, rfl⟩
    obtain ⟨W4, hW4⟩ : ∃ W4, W4 = W3.alloc (.cells #[.slice (some ⟨g, o, none⟩) M c1] 22) := ⟨_, rfl⟩
    have hb34 : Below W3.heap.size W3 W4 := by rw [hW4]; exact Go.Proofs.YtjobcffelbddcaaDoor.K.alloc (Below.refl _ _) _
    have hcB : W4.cell? ⟨Bs, 0, none⟩ = some (.slice (some ⟨g, o, none⟩) M c1) := by rw [hW4, ← hBs]; exact (Boxed.new W3 22 _).cell
    have hs4 : W4.heap.size = Bs + 1 := by rw [hW4, World.size_alloc, hBs]
    have hb14 : Below W1.heap.size W1 W4 := Go.Proofs.YtjobcffelbddcaaDoor.K.call HB3.out hb34
    have hr4 : RowB W4 tb 32 (lF L M) := by rw [← htb]; exact HR3.out.keep hb34
    have hw4 : Below w.heap.size w W4 := by rw [hb0]; exact Below.trans HB.out ((Go.Proofs.YtjobcffelbddcaaDoor.K.call HB1.out hb14).mono (by rw [← hb0]; rw [← hb0] at HB; exact HB.out.size))
    have hh4 : RowB W4 b0 32 (fun _ => 0) := HH.out.keep (Go.Proofs.YtjobcffelbddcaaDoor.K.call HB1.out hb14)
    have hl4 : Lst1 W4.heap.size tb W4 (some ⟨g, o, none⟩) M (lF L) := Or.inr ⟨g, o, rfl, Nat.lt_of_lt_of_le hgb hb14.size, by omega, fun i hi => range_keep (HHr.out i (by omega)) hb14⟩
    have hbn : b0 ≠ tb := by
      have h1 := HH.out.lt
      have h2 := HB1.out.size
      omega
    have htl : tb < W4.heap.size := hr4.lt
    have hbt : tb < Bs := by rw [← hBs]; exact by rw [← htb]; exact HR3.out.lt
    have htw : w.heap.size ≤ tb := by
      have h1 := HH.out.lt
      have h2 := HB1.out.size
      omega
    have hM9 : M ≤ 1000000 := by have := HN.out; have := HM.out; omega
    rw [htb, hBs, ← hW4]
    have HTw := HT
    have HF := hide (And.intro HLt.out HM.out)
    have HWs := hide (And.intro hw4 hs4)
    have HMn := hide HMM.out
    clear hW4 HR HR2 HR3 HB2 HB3 HHr HHl HO1 HC1 HEX HTX HB1 HB HH hgb hmw hMm hMn hMc hb34 hb14 hm0
    refine (wpIn_wide (n := 5)).1 ?_
    refine wpIn_rangeFunc_ownH rfl (by decide) (gf := 27) (lb := #[.pointer (some ⟨Bs, 0, none⟩)]) rfl trivial (enters_of Tryd.func27 (by kernel_rfl) rfl)
      (back_stops (4) (n₀ := W4.heap.size) (t := tb) hM9 (by omega) (by omega) (Nat.le_refl _) hcB hl4) KpT.trans (KpT.obj (Nat.le_refl _)) (Below.refl _ _) (fun _ => rfl)
      (fun pre W => (RowB W tb 32 (fo L M pre) ∧ RowB W b0 32 (fun _ => 0)) ∧ Below w.heap.size w W ∧ W4.heap.size ≤ W.heap.size)
      (fun _ _ _ => False)
      (OwnFrom.and (OwnFrom.and (Own.from (row8_own tb (fo L M)) _) (Own.from (row8_own b0 (fun _ _ => 0)) _)) (OwnFrom.and (ownFrom_below (Nat.le_refl _) hw4.size) (fun _ _ _ _ hs hg _ => Nat.le_trans hs hg.size)))
      (fun _ _ _ _ _ hs _ _ => hs)
      ⟨⟨hr4, hh4⟩, hw4, Nat.le_refl _⟩
      (fun x a' W => ∃ Bx, Bx ≠ tb ∧ RowB W Bx 32 (lF L x) ∧ a' = { tmps := #[P, undef, .pointer (some ⟨b0, 0, none⟩), .slice (some ⟨g, o, none⟩) m c1, .int .i64 (M : Int), .pointer (some ⟨tb, 0, none⟩), undef, .pointer (some ⟨Bx, 0, none⟩), P, .slice (some ⟨g, o, none⟩) m c1, .slice (some ⟨g, o, none⟩) m c1, .int .i64 (m : Int), .bool false, undef, .slice (some ⟨g, o, none⟩) m c1, .int .i64 (m : Int), .int .i64 (M : Int), .slice (some ⟨g, o, none⟩) m c1, .int .i64 (M : Int), .pointer (some ⟨g, o + M * 32, none⟩), .agg (ab (lF L M) 32).toArray, .slice (some ⟨g, o, none⟩) m c1, .int .i64 (M : Int), .slice (some ⟨g, o, none⟩) M c1, .func (.func 27) #[] #[.pointer (some ⟨Bs, 0, none⟩)], .int .i64 (x : Int), .agg (ab (lF L x) 32).toArray, undef, undef, undef, undef], defers := [] })
      (fun x a' _ X Y row hs hg hr => by obtain ⟨Bx, h1, h2, h3⟩ := hs; exact ⟨Bx, h1, row8_own Bx (fun _ => lF L x) [] X Y row h2 hg (fun r e => (hr r e).2), h3⟩)
      ?assign ?body ?done ?stop
    case assign =>
      rintro l pre x W K ⟨⟨hr1, hh1⟩, hb1, hz1⟩ hK
      rw [fold2]
      simp only [hv, List.setIfInBounds_toArray, List.set_cons_zero, List.set_cons_succ]
      gi_wp2_with (first
        | (refine wpListIn_alloc_h rfl rfl ?_; intro V1 hv1 hc1; have HV1 := hide hv1; have HC1 := hide hc1; clear hv1 hc1)
        | (refine wpListIn_store_h rfl _ _ rfl rfl rfl HV1.out ?_; intro V2 hv2 hg2; have HV2 := hide hv2; have HC2 := hide (HC1.out.grown hg2 HC1.out.size (fun k hk => by cases hk; exact Nat.le_refl _)); clear hv2 hg2))
      exact hK _ _ (KeepsFrom.of_grownBy (grown_of HC2.out none) (fun j e => by cases e)) (KpT.of (grown_of HC2.out _) hz1) ⟨⟨Row8.keep hr1 HC2.out, Row8.keep hh1 HC2.out⟩, Go.Proofs.YtjobcffelbddcaaDoor.K.call hb1 HC2.out, Nat.le_trans hz1 HC2.out.size⟩ ⟨W.heap.size, by omega, HV2.out, rfl⟩
    case body =>
      rintro l pre x a' W hl ⟨r, hr⟩ ⟨⟨hr1, hh1⟩, hb1, hz1⟩ ⟨Bx, hBx, bX, rfl⟩ hlt
      have HNd := hide (node_any (HTw.out.keep hb1) (HF.out.1 x) (fo_lt HF.out.1 M pre))
      unfold hv at HNd
      obtain ⟨s2, hs2⟩ : ∃ s2, nd (lF L x) (fo L M pre) = s2 := ⟨_, rfl⟩
      rw [hs2] at HNd
      have HS2 := hide hs2
      have HX := hide (RowB.range bX)
      have HR := hide (RowB.range hr1)
      have HR1 := hide (And.intro hr1 hh1)
      have HB1 := hide (And.intro hb1 hz1)
      clear hs2 bX hr1 hh1 hb1 hz1
      gi_wp2_with (first
        | (refine wpListIn_load_h rfl _ rfl rfl HX.out ?_)
        | (refine wpListIn_load_h rfl _ rfl rfl HR.out ?_)
        | (refine ⟨trivial, ?_⟩; gi_at_call 19; refine (CallsIn.inRound l (callsIn_wide.2 HNd.out)).mono ?_; rintro e V1 ⟨rfl, hb⟩; have HV1 := hide hb; have HRv := hide (Row8.keep HR1.out.1 hb); clear hb)
        | (refine wpListIn_store_h rfl _ _ rfl rfl rfl HRv.out ?_; intro V2 hv2 hg2; have HV2 := hide hv2; have HG2 := hide (grown_trans (grown_of HV1.out _) hg2); clear hv2 hg2))
      refine ⟨KeepsFrom.of_grownBy HG2.out (fun j e => by cases e; exact htl), KpT.of HG2.out HB1.out.2, ⟨⟨?_, ?_⟩, ?_, Nat.le_trans HB1.out.2 HG2.out.size⟩⟩
      · rw [fo_snoc, HS2.out]
        exact HV2.out
      · exact ⟨Nat.lt_of_lt_of_le HR1.out.2.lt HG2.out.size, fun i hi => laterG HG2.out (fun e => hbn (Option.some.inj e)) (HR1.out.2.c i hi), fun i hi => (World.frozen?_of_block (HG2.out.block b0 HR1.out.2.lt (fun e => hbn (Option.some.inj e)))).trans (HR1.out.2.z i hi)⟩
      · exact HB1.out.1.grown HG2.out HB1.out.1.size (fun k hk => by cases hk; omega)
    case done =>
      rintro D ys W hD rfl ⟨⟨hr1, hh1⟩, hb1, hz1⟩ hK
      rw [fo_all (HF.out.2.trans HMn.out)] at hr1
      have HR := hide (RowB.range hr1)
      have HH := hide hh1
      have HB1 := hide hb1
      have HK := hide hK
      clear hr1 hh1 hb1 hz1 hK
      go_wp2_with (first
        | (refine wpList_load_h rfl _ rfl rfl HR.out ?_)
        | (refine wpList_store_h rfl _ _ rfl rfl rfl HH.out ?_; intro V2 hv2 hg2; have HV2 := hide hv2; have HG2 := hide hg2; clear hv2 hg2))
      rw [HQ.out]
      have hDb : D ≠ b0 := by have := HWs.out.1.size; omega
      have hD2 : V2.heap[D]? = some (.deferred (some [])) := (HG2.out.block D (Array.getElem?_eq_some_iff.1 HK.out).1 (fun e => hDb (Option.some.inj e))).trans HK.out
      refine ⟨by simp, .inl ⟨_, _, rfl, run_takeDeferred hD2, ?_⟩⟩
      have hp := row8_own b0 (fun _ => rO L) [] V2 _ (some D) HV2.out (grownBy_putObj' V2 D (.deferred none)) (fun r e => by cases e; exact ⟨_, hD2, rfl⟩)
      exact ⟨_, results_cell_mid Tryd.results13 _ _ b0 (ab (rO L) 32) _ rfl (RowB.range hp) Tryd.underlying33 rfl (ilH _), rfl, ((HB1.out.grown HG2.out HB1.out.size (fun k hk => by cases hk; omega)).grown (grownBy_putObj' V2 D (.deferred none)) (by have := HB1.out.size; have := HG2.out.size; omega) (fun k hk => by cases hk; have := HWs.out.1.size; omega))⟩
    case stop =>
      rintro D c pre W _ _ h _
      exact h.elim
end Go.Proofs.YtjobcffelbddcaaDoor
