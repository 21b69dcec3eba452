/- Layer 20: slices.Backward over pairs. -/
import Derived.Test.YtpokecijongkpaaDoorMA14
import Derived.Test.YtpokecijongkpaaDoorMA15
import Derived.RangeFuncNested
import Derived.RangeFuncBound
import Derived.RangeFuncLeaves
import Derived.Shelf.Abstract
import Derived.WalkKit
import Derived.OwnWalkIn
import Derived.TacticsInMore
import Derived.LoopNIn
import Derived.LoopIn
namespace Go.Proofs.YtpokecijongkpaaDoor
set_option maxRecDepth 100000
open Go.RowKit Go.Shelf
attribute [local go_sem] Oper.semAt_some

/-- The i-th pair. -/
def prAt (P : List HP) (i : Nat) : HP := P.getD i z20
/-- The places from the last one down to the k-th. -/
def dsc (l k : Nat) : List Nat := ((List.range l).drop k).reverse
theorem dsc_top (l : Nat) : dsc l l = [] := by
  unfold dsc
  rw [List.drop_eq_nil_of_le (by rw [List.length_range]; exact Nat.le_refl _)]
  rfl
theorem dsc_len (l k : Nat) : (dsc l k).length = l - k := by
  unfold dsc
  rw [List.length_reverse, List.length_drop, List.length_range]
theorem dsc_next {l j : Nat} (h : j < l) : dsc l j = dsc l (j + 1) ++ [j] := by
  unfold dsc
  rw [List.drop_eq_getElem_cons (by rw [List.length_range]; exact h), List.reverse_cons, List.getElem_range]
theorem dsc_pre (l : Nat) : ∀ k, k ≤ l → dsc l k <+: (List.range l).reverse
  | 0, _ => ⟨[], by rw [List.append_nil]; rfl⟩
  | k + 1, h => by
    obtain ⟨t, ht⟩ := dsc_pre l k (by omega)
    rw [dsc_next (by omega), List.append_assoc] at ht
    exact ⟨_, ht⟩
/-- What a round keeps: what lay, and the variable that holds the slice. -/
def Kq (n₀ Bs : Nat) (W W' : World) : Prop := Below n₀ W W' ∧ W'.heap[Bs]? = W.heap[Bs]?
theorem Kq.trans {n₀ Bs : Nat} {A B C : World} (h : Kq n₀ Bs A B) (k : Kq n₀ Bs B C) : Kq n₀ Bs A C := ⟨h.1.trans k.1, k.2.trans h.2⟩
theorem kq_b {n₀ Bs : Nat} {w : World} (hn : n₀ ≤ w.heap.size) (hB : Bs < w.heap.size) (W : World) (l : Nat) (o o' : Obj) (hl : w.heap.size ≤ l) (h : W.heap[l]? = some o) (hc : o.isCells = false) (hw : o.isWalk = false) : Kq n₀ Bs W (W.putObj l o') :=
  ⟨belowK_b hn W l o o' hl h hc hw, World.putObj_heap_other (by omega)⟩
theorem wpListIn_load_q {n : Nat} {w : World} {ops : Array Oper} {rest : List Oper} {o : Oper} {a : Act} {Q : Exit → Act → World → Prop} (hgd : o.guard = none) (x : Operand) (hop : o.op = Op.load 78 x) {g off : Nat} {q : HP} (hx : a.eval x = .pointer (some ⟨g, off, none⟩)) (ht : w.rangeAt g off (pq q)) (hK : wpListIn Fence.wide n Tryd.prog ops Q rest (a.put o.dst (pval q)) w) : wpListIn Fence.wide n Tryd.prog ops Q (o :: rest) a w :=
  wpListIn_plain hgd fun K hK' => oper_wide (fun c e => by rw [hop] at e; cases e) (wp_load_mid 78 x hop g off hx (pq q) _ ht Tryd.underlying78 rfl (ilQ q) (hK' _ _ hK))
theorem PrL.at_ {w : World} {y : Option Addr} {P : List HP} (h : PrL w y P) {j : Nat} (hj : j < P.length) : ∃ b o, y = some ⟨b, o, none⟩ ∧ w.rangeAt b (o + j * 64) (pq (prAt P j)) := by
  rcases h with rfl | ⟨b, o, e, hr⟩
  · simp at hj
  · refine ⟨b, o, e, hr j _ ?_⟩
    rw [List.getElem?_eq_getElem hj]
    congr 1
    unfold prAt
    rw [List.getD_eq_getElem?_getD, List.getElem?_eq_getElem hj]
    rfl
theorem back_call (n : Nat) {y : Option Addr} {l c : Nat} (w : World) :
    CallsIn Fence.wide n Tryd.prog 51 #[.slice y l c] w fun e w' => e = .returned (.func (.func 63) #[] #[.pointer (some ⟨w.heap.size, 0, none⟩)]) ∧ w' = w.alloc (.cells #[.slice y l c] 51) := by
  refine callsIn_of_wp Tryd.func51 rfl trivial ?_ rfl
  simp only [Tryd.ntmps51, List.size_toArray, List.length_cons, List.length_nil, Nat.reduceAdd, Nat.reduceSub, Array.replicate_succ, Array.replicate_zero, List.push_toArray, List.append_toArray, List.nil_append, List.cons_append]
  gi_wp2
  go_ret
  exact ⟨rfl, rfl⟩
theorem bk_m (j : Nat) : (intOf (.int .i64 ((j : Int) - 1)) + 1).toNat < (intOf (.int .i64 (j : Int)) + 1).toNat := by
  show ((j : Int) - 1 + 1).toNat < ((j : Int) + 1).toNat
  omega
set_option maxRecDepth 100000 in
set_option maxHeartbeats 4000000 in
theorem back_stops (n : Nat) {w0 w : World} {Bs l c : Nat} {y : Option Addr} {P : List HP} (hb : Below w0.heap.size w0 w) (hBs : w.cell? ⟨Bs, 0, none⟩ = some (.slice y l c)) (hBl : Bs < w.heap.size) (hp : PrL w0 y P) (hl : P.length = l) (hl1 : l ≤ 1000) :
    SeqStopsK Fence.wide n Tryd.prog 63 #[.pointer (some ⟨Bs, 0, none⟩)] (fun i : Nat => #[.int .i64 (i : Int), pval (prAt P i)]) (Kq w0.heap.size Bs) (fun ys => ys = (List.range l).reverse) (fun pre => pre <+: (List.range l).reverse) l w := by
  intro lY J Jx W hW hJ _ hY h0
  have hcW : W.cell? ⟨Bs, 0, none⟩ = some (.slice y l c) := (hW.cell (p := ⟨Bs, 0, none⟩) hBl).trans hBs
  have hbW : Below w0.heap.size w0 W := hb.trans (hW.mono hb.size)
  have hw0 : wrap64 ((l : Int) - 1) = (l : Int) - 1 := by unfold wrap64; omega
  have HP' := hide hp
  clear hW hBs hp hb
  refine callsIn_of_wp Tryd.func63 rfl trivial ?_ rfl
  simp only [Tryd.ntmps63, List.size_toArray, List.length_cons, List.length_nil, Nat.reduceAdd, Nat.reduceSub, Array.replicate_succ, Array.replicate_zero, List.push_toArray, List.append_toArray, List.nil_append, List.cons_append]
  gi_wp2
  gi_loopw [3] (fun i wr => ∃ (k : Nat) (v : Int), v = (k : Int) - 1 ∧ k ≤ l ∧ i = .int .i64 v ∧ J (dsc l k) wr ∧ Kq w0.heap.size Bs W wr) (fun i _ => (intOf i + 1).toNat)
  case atStart => exact ⟨l, _, rfl, Nat.le_refl _, rfl, by rw [dsc_top]; exact h0, ⟨Below.refl _ _, rfl⟩⟩
  case round =>
    obtain ⟨k, v, hv, hk, rfl, hJs, hK⟩ := hrel
    have hc' : wr.cell? ⟨Bs, 0, none⟩ = some (.slice y l c) := (World.cell?_of_block hK.2).trans hcW
    by_cases hk0 : k = 0
    · subst hk0
      have hv0 : ¬ (0 ≤ v) := by omega
      have hv1 : ¬ (v ≥ 0) := by omega
      gi_wp2
      go_end0
      exact ⟨⟨_, rfl⟩, .inl (by first | exact hJs | exact ⟨_, rfl, hJs⟩)⟩
    · obtain ⟨j, rfl⟩ : ∃ j, k = j + 1 := ⟨k - 1, by omega⟩
      obtain rfl : v = (j : Int) := by omega
      have hjl : j < l := by omega
      have hj0 : (0 : Int) ≤ (j : Int) := by omega
      obtain ⟨bP, oP, rfl, hr⟩ := HP'.out.at_ (j := j) (by omega)
      have hpr : wr.rangeAt bP (oP + j * 64) (pq (prAt P j)) := range_keep hr (hbW.trans hK.1)
      have HPR := hide hpr
      obtain ⟨fn, tmps, assign, body, hy, hR⟩ := hY _ j wr hJs (by rw [dsc_len]; omega)
      have HR := hide hR
      have hw1 : wrap64 ((j : Int) - 1) = (j : Int) - 1 := by unfold wrap64; omega
      clear hr hpr hv hR
      gi_wp2_with (refine wpListIn_load_q rfl _ rfl (by rfl) HPR.out ?_)
      refine ⟨fun h => (by cases h), ?_⟩
      refine HR.out.mono ?_
      rintro e W3 (⟨rfl, hJ3, hk3⟩ | ⟨rfl, hJx3⟩)
      · have hc3 : W3.cell? ⟨Bs, 0, none⟩ = some (.slice (some ⟨bP, oP, none⟩) l c) := (World.cell?_of_block hk3.2).trans hc'
        gi_wp2
        go_roundw
        case rel => exact ⟨j, (j : Int) - 1, rfl, by omega, rfl, by rw [dsc_next hjl]; exact hJ3, hK.trans hk3⟩
        case measure =>
          exact bk_m j
      · gi_wp2
        refine bodyPost_ret (results_none rfl _ _ _) rfl ?_
        exact ⟨⟨_, rfl⟩, .inr ⟨dsc l (j + 1) ++ [j], by rw [← dsc_next hjl]; exact dsc_pre l j (by omega), hJx3⟩⟩
end Go.Proofs.YtpokecijongkpaaDoor
