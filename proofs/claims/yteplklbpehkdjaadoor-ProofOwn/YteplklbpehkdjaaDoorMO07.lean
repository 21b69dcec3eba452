/- Layer 16: the document's own Split, Root, Same. Layer 17: the edge of a growing tree (no function of the program is named). Lists of hashes that are told as lists; a slice literal of one hash. Layer 18: paths and proofs (no function of the program is named). Layer 18: the document's own turned and Path. Layer 18: the document's own Path. -/
import Derived.Test.YteplklbpehkdjaaDoorMO06
import Derived.Test.YteplklbpehkdjaaDoorMO05
import Derived.Great.BuildSlice
namespace Go.Proofs.YteplklbpehkdjaaDoor
set_option maxRecDepth 100000
open Go.RowKit
attribute [local go_sem ↓] Go.wp_at_zero Go.wp_at_succ

/-- Two lists of hashes. -/
theorem refSame_any {w : World} {x y : Option Addr} {n m c d : Nat} {F G : Nat → Nat → Nat} (hx : HL w x n F) (hy : HL w y m G) (hn : n ≤ 1000000) :
    Calls Tryd.prog 11 #[.slice x n c, .slice y m d] w fun e w' => e = .returned (.bool (decide (n = m) && eqL F G n)) ∧ Below w.heap.size w w' := by
  by_cases hnm : n = m
  · subst hnm
    have HX := hide hx
    have HY := hide hy
    clear hx hy
    rw [decide_eq_true rfl, Bool.true_and]
    obtain ⟨V, hV⟩ : ∃ V, V = eqL F G n := ⟨_, rfl⟩
    rw [← hV]
    have HV := hide hV
    clear hV
    go_enter Tryd.func11, Tryd.ntmps11
    go_wp2_with fail
    go_loopg [5] n (fun g s wr => ∃ i : Nat, g = n - i ∧ i ≤ n ∧ s = .int .i64 (i : Int) ∧ (∀ j, j < i → eqB (F j) (G j) 32 = true) ∧ Below w.heap.size w wr)
    case atStart => exact ⟨0, rfl, Nat.zero_le _, rfl, fun j hj => by omega, Below.refl _ _⟩
    case round =>
      obtain ⟨i, rfl, hi, rfl, hA, hB⟩ := hrel
      have HA := hide hA
      have HB := hide hB
      clear hA hB
      by_cases hl : i < n
      · have hw : wrap64 ((i : Int) + 1) = (i : Int) + 1 := by unfold wrap64; omega
        have hq : (i : Int) < (n : Int) := by omega
        obtain ⟨b1, o1, rfl, hr1⟩ : ∃ b o, x = some ⟨b, o, none⟩ ∧ wr.rangeAt b (o + i * 32) (ab (F i) 32) := by
          rcases HX.out.at_ with h5 | ⟨b, o, e, hr⟩
          · omega
          · exact ⟨b, o, e, range_keep (hr i hl) HB.out⟩
        obtain ⟨b2, o2, rfl, hr2⟩ : ∃ b o, y = some ⟨b, o, none⟩ ∧ wr.rangeAt b (o + i * 32) (ab (G i) 32) := by
          rcases HY.out.at_ with h5 | ⟨b, o, e, hr⟩
          · omega
          · exact ⟨b, o, e, range_keep (hr i hl) HB.out⟩
        have HR1 := hide hr1
        have HR2 := hide hr2
        clear hr1 hr2
        have HE := fun w' => eqH (F i) (G i) w'
        cases he : eqB (F i) (G i) 32 with
        | true =>
          have HEt := hide he
          rw [he] at HE
          clear he
          go_upto_region 6 with fail
          refine wp_region_noPanic ?_
          refine wp_region_held_drew (S := fun w' => w'.rangeAt b1 (o1 + i * 32) (ab (F i) 32) ∧ w'.rangeAt b2 (o2 + i * 32) (ab (G i) 32)) (by kernel_rfl) ⟨range_keep HR1.out (Go.Proofs.YteplklbpehkdjaaDoor.K.drew (Below.refl _ _)), range_keep HR2.out (Go.Proofs.YteplklbpehkdjaaDoor.K.drew (Below.refl _ _))⟩ (fun hS0 => ?_)
          refine wpAnyH_take (i := 0) (v := .slice (some ⟨b1, o1, none⟩) n c) rfl (by kernel_rfl) (by kernel_rfl) (by kernel_rfl) (fun _ _ _ h => h) (Or.inl ⟨by rfl, fun w' _ => by go_simp⟩) hS0 ?_
          simp only [Act.put, List.getElem_toArray, List.getElem_cons_zero, List.setIfInBounds_toArray, List.set_cons_zero, List.set_cons_succ]
          refine wpAnyH_take (i := 1) (v := .int .i64 (i : Int)) rfl (by kernel_rfl) (by kernel_rfl) (by kernel_rfl) (fun _ _ _ h => h) (Or.inl ⟨by rfl, fun w' _ => by go_simp⟩) hS0 ?_
          simp only [Act.put, List.getElem_toArray, List.getElem_cons_zero, List.getElem_cons_succ, List.setIfInBounds_toArray, List.set_cons_zero, List.set_cons_succ]
          refine wpAnyH_take (i := 2) (v := .pointer (some ⟨b1, o1 + i * 32, none⟩)) rfl (by kernel_rfl) (by kernel_rfl) (by kernel_rfl) (fun _ _ _ h => h) (Or.inl ⟨by rfl, fun w' _ => by go_simp⟩) hS0 ?_
          simp only [Act.put, List.getElem_toArray, List.getElem_cons_zero, List.getElem_cons_succ, List.setIfInBounds_toArray, List.set_cons_zero, List.set_cons_succ]
          refine wpAnyH_take (i := 3) (v := .agg (ab (F i) 32).toArray) rfl (by kernel_rfl) (by kernel_rfl) (by kernel_rfl) (fun _ _ _ h => h) (yieldsIf_load_mid (by rfl) 32 _ rfl b1 (o1 + i * 32) (by rfl) (ab (F i) 32) _ (fun w' hS => hS.1) Tryd.underlying32 rfl (ilH _)) hS0 ?_
          simp only [Act.put, List.getElem_toArray, List.getElem_cons_zero, List.getElem_cons_succ, List.setIfInBounds_toArray, List.set_cons_zero, List.set_cons_succ]
          refine wpAnyH_take (i := 4) (v := .slice (some ⟨b2, o2, none⟩) n d) rfl (by kernel_rfl) (by kernel_rfl) (by kernel_rfl) (fun _ _ _ h => h) (Or.inl ⟨by rfl, fun w' _ => by go_simp⟩) hS0 ?_
          simp only [Act.put, List.getElem_toArray, List.getElem_cons_zero, List.getElem_cons_succ, List.setIfInBounds_toArray, List.set_cons_zero, List.set_cons_succ]
          refine wpAnyH_take (i := 5) (v := .int .i64 (i : Int)) rfl (by kernel_rfl) (by kernel_rfl) (by kernel_rfl) (fun _ _ _ h => h) (Or.inl ⟨by rfl, fun w' _ => by go_simp⟩) hS0 ?_
          simp only [Act.put, List.getElem_toArray, List.getElem_cons_zero, List.getElem_cons_succ, List.setIfInBounds_toArray, List.set_cons_zero, List.set_cons_succ]
          refine wpAnyH_take (i := 6) (v := .pointer (some ⟨b2, o2 + i * 32, none⟩)) rfl (by kernel_rfl) (by kernel_rfl) (by kernel_rfl) (fun _ _ _ h => h) (Or.inl ⟨by rfl, fun w' _ => by go_simp⟩) hS0 ?_
          simp only [Act.put, List.getElem_toArray, List.getElem_cons_zero, List.getElem_cons_succ, List.setIfInBounds_toArray, List.set_cons_zero, List.set_cons_succ]
          refine wpAnyH_take (i := 7) (v := .agg (ab (G i) 32).toArray) rfl (by kernel_rfl) (by kernel_rfl) (by kernel_rfl) (fun _ _ _ h => h) (yieldsIf_load_mid (by rfl) 32 _ rfl b2 (o2 + i * 32) (by rfl) (ab (G i) 32) _ (fun w' hS => hS.2) Tryd.underlying32 rfl (ilH _)) hS0 ?_
          simp only [Act.put, List.getElem_toArray, List.getElem_cons_zero, List.getElem_cons_succ, List.setIfInBounds_toArray, List.set_cons_zero, List.set_cons_succ]
          refine wpAnyH_take (i := 8) (v := .bool false) rfl (by kernel_rfl) (by kernel_rfl) (by kernel_rfl) (fun _ _ _ h => h) (Or.inl ⟨by rfl, fun w' _ => by have hc := HE w'; go_simp⟩) hS0 ?_
          simp only [Act.put, List.getElem_toArray, List.getElem_cons_zero, List.getElem_cons_succ, List.setIfInBounds_toArray, List.set_cons_zero, List.set_cons_succ]
          refine wpAnyH_done (by kernel_rfl) ?_ _
          refine NoPanic.normal ?_
          go_wp2_with fail
          go_roundg (n - (i + 1))
          case measure => omega
          case rel => exact ⟨i + 1, rfl, by omega, by simp, fun j hj => by
            by_cases hj' : j < i
            · exact HA.out j hj'
            · obtain rfl : j = i := by omega
              exact HEt.out, Go.Proofs.YteplklbpehkdjaaDoor.K.drew HB.out⟩
        | false =>
          have HEf := hide he
          rw [he] at HE
          clear he
          go_upto_region 6 with fail
          refine wp_region_noPanic ?_
          refine wp_region_held_drew (S := fun w' => w'.rangeAt b1 (o1 + i * 32) (ab (F i) 32) ∧ w'.rangeAt b2 (o2 + i * 32) (ab (G i) 32)) (by kernel_rfl) ⟨range_keep HR1.out (Go.Proofs.YteplklbpehkdjaaDoor.K.drew (Below.refl _ _)), range_keep HR2.out (Go.Proofs.YteplklbpehkdjaaDoor.K.drew (Below.refl _ _))⟩ (fun hS0 => ?_)
          refine wpAnyH_take (i := 0) (v := .slice (some ⟨b1, o1, none⟩) n c) rfl (by kernel_rfl) (by kernel_rfl) (by kernel_rfl) (fun _ _ _ h => h) (Or.inl ⟨by rfl, fun w' _ => by go_simp⟩) hS0 ?_
          simp only [Act.put, List.getElem_toArray, List.getElem_cons_zero, List.setIfInBounds_toArray, List.set_cons_zero, List.set_cons_succ]
          refine wpAnyH_take (i := 1) (v := .int .i64 (i : Int)) rfl (by kernel_rfl) (by kernel_rfl) (by kernel_rfl) (fun _ _ _ h => h) (Or.inl ⟨by rfl, fun w' _ => by go_simp⟩) hS0 ?_
          simp only [Act.put, List.getElem_toArray, List.getElem_cons_zero, List.getElem_cons_succ, List.setIfInBounds_toArray, List.set_cons_zero, List.set_cons_succ]
          refine wpAnyH_take (i := 2) (v := .pointer (some ⟨b1, o1 + i * 32, none⟩)) rfl (by kernel_rfl) (by kernel_rfl) (by kernel_rfl) (fun _ _ _ h => h) (Or.inl ⟨by rfl, fun w' _ => by go_simp⟩) hS0 ?_
          simp only [Act.put, List.getElem_toArray, List.getElem_cons_zero, List.getElem_cons_succ, List.setIfInBounds_toArray, List.set_cons_zero, List.set_cons_succ]
          refine wpAnyH_take (i := 3) (v := .agg (ab (F i) 32).toArray) rfl (by kernel_rfl) (by kernel_rfl) (by kernel_rfl) (fun _ _ _ h => h) (yieldsIf_load_mid (by rfl) 32 _ rfl b1 (o1 + i * 32) (by rfl) (ab (F i) 32) _ (fun w' hS => hS.1) Tryd.underlying32 rfl (ilH _)) hS0 ?_
          simp only [Act.put, List.getElem_toArray, List.getElem_cons_zero, List.getElem_cons_succ, List.setIfInBounds_toArray, List.set_cons_zero, List.set_cons_succ]
          refine wpAnyH_take (i := 4) (v := .slice (some ⟨b2, o2, none⟩) n d) rfl (by kernel_rfl) (by kernel_rfl) (by kernel_rfl) (fun _ _ _ h => h) (Or.inl ⟨by rfl, fun w' _ => by go_simp⟩) hS0 ?_
          simp only [Act.put, List.getElem_toArray, List.getElem_cons_zero, List.getElem_cons_succ, List.setIfInBounds_toArray, List.set_cons_zero, List.set_cons_succ]
          refine wpAnyH_take (i := 5) (v := .int .i64 (i : Int)) rfl (by kernel_rfl) (by kernel_rfl) (by kernel_rfl) (fun _ _ _ h => h) (Or.inl ⟨by rfl, fun w' _ => by go_simp⟩) hS0 ?_
          simp only [Act.put, List.getElem_toArray, List.getElem_cons_zero, List.getElem_cons_succ, List.setIfInBounds_toArray, List.set_cons_zero, List.set_cons_succ]
          refine wpAnyH_take (i := 6) (v := .pointer (some ⟨b2, o2 + i * 32, none⟩)) rfl (by kernel_rfl) (by kernel_rfl) (by kernel_rfl) (fun _ _ _ h => h) (Or.inl ⟨by rfl, fun w' _ => by go_simp⟩) hS0 ?_
          simp only [Act.put, List.getElem_toArray, List.getElem_cons_zero, List.getElem_cons_succ, List.setIfInBounds_toArray, List.set_cons_zero, List.set_cons_succ]
          refine wpAnyH_take (i := 7) (v := .agg (ab (G i) 32).toArray) rfl (by kernel_rfl) (by kernel_rfl) (by kernel_rfl) (fun _ _ _ h => h) (yieldsIf_load_mid (by rfl) 32 _ rfl b2 (o2 + i * 32) (by rfl) (ab (G i) 32) _ (fun w' hS => hS.2) Tryd.underlying32 rfl (ilH _)) hS0 ?_
          simp only [Act.put, List.getElem_toArray, List.getElem_cons_zero, List.getElem_cons_succ, List.setIfInBounds_toArray, List.set_cons_zero, List.set_cons_succ]
          refine wpAnyH_take (i := 8) (v := .bool true) rfl (by kernel_rfl) (by kernel_rfl) (by kernel_rfl) (fun _ _ _ h => h) (Or.inl ⟨by rfl, fun w' _ => by have hc := HE w'; go_simp⟩) hS0 ?_
          simp only [Act.put, List.getElem_toArray, List.getElem_cons_zero, List.getElem_cons_succ, List.setIfInBounds_toArray, List.set_cons_zero, List.set_cons_succ]
          refine wpAnyH_done (by kernel_rfl) ?_ _
          refine NoPanic.normal ?_
          go_wp2_with fail
          go_ret
          have hVf : V = false := by
            rw [HV.out]
            refine decide_eq_false (fun hall => ?_)
            have h5 := hall i hl
            rw [HEf.out] at h5
            cases h5
          exact ⟨by rw [hVf]; rfl, Go.Proofs.YteplklbpehkdjaaDoor.K.drew HB.out⟩
      · have hq : ¬ ((i : Int) < (n : Int)) := by omega
        obtain rfl : i = n := by omega
        go_wp2_with fail
        go_ret
        exact ⟨by rw [HV.out]; exact congrArg (fun b => Ending.returned (.bool b)) (decide_eq_true HA.out).symm, HB.out⟩
  · have hq : ¬ ((n : Int) = (m : Int)) := by omega
    rw [decide_eq_false hnm, Bool.false_and]
    go_enter Tryd.func11, Tryd.ntmps11
    go_wp2_with fail
    go_ret
    exact ⟨rfl, Below.refl _ _⟩
end Go.Proofs.YteplklbpehkdjaaDoor
namespace Go.Proofs.YteplklbpehkdjaaDoor
set_option maxRecDepth 100000
open Go.RowKit

/-- How many hashes parts of such powers of two have. -/
def sz : List Nat → Nat
  | [] => 0
  | e :: es => 2 ^ e + sz es
/-- From the greatest on, no two the same. -/
def Desc : List Nat → Prop
  | [] => True
  | [_] => True
  | e :: x :: es => x < e ∧ Desc (x :: es)
theorem Desc.tail {e : Nat} : ∀ {es : List Nat}, Desc (e :: es) → Desc es
  | [], _ => trivial
  | _ :: _, h => h.2
theorem Desc.snoc : ∀ {es : List Nat} {e : Nat}, Desc es → (∀ x, es.getLast? = some x → e < x) → Desc (es ++ [e])
  | [], _, _, _ => trivial
  | [a], e, _, h => ⟨h a rfl, trivial⟩
  | a :: b :: es, e, h, hl => ⟨h.1, Desc.snoc (es := b :: es) h.2 (fun x hx => hl x (by rw [List.getLast?_cons_cons]; exact hx))⟩
def on : Nat → Nat → Nat
  | 0, _ => 0
  | f + 1, n => if n = 0 then 0 else n % 2 + on f (n / 2)
end Go.Proofs.YteplklbpehkdjaaDoor
namespace Go.Proofs.YteplklbpehkdjaaDoor
set_option maxRecDepth 100000
open Go.RowKit

/-- A list of hashes, as a function. -/
def lF (L : List (Nat → Nat)) : Nat → Nat → Nat := fun i => L.getD i (fun _ => 0)
theorem lF_lt {L : List (Nat → Nat)} (h : ∀ f ∈ L, ∀ j, f j < 256) (i j : Nat) : lF L i j < 256 := by
  unfold lF
  rw [List.getD_eq_getElem?_getD]
  by_cases hi : i < L.length
  · rw [List.getElem?_eq_getElem hi]
    exact h _ (List.getElem_mem hi) j
  · rw [List.getElem?_eq_none (by omega)]
    show 0 < 256
    omega
theorem hc_congr {F G : Nat → Nat → Nat} {n : Nat} (h : ∀ i, i < n → F i = G i) : hc F n = hc G n := by
  unfold hc hfl fl
  congr 1
  apply List.map_congr_left
  intro k hk
  have := List.mem_range.1 hk
  rw [h (k / 32) (by omega)]
theorem OH.congr {w : World} {base n : Nat} {v : Value} {F G : Nat → Nat → Nat} (h : OH w base v n F) (e : ∀ i, i < n → F i = G i) : OH w base v n G := by
  show w.ownsRow base 32 32 v n (hc G n)
  rw [← hc_congr e]
  exact h
/-- One more at the end. -/
theorem OH.snoc {w : World} {base : Nat} {v : Value} {L : List (Nat → Nat)} {f : Nat → Nat} (h : OH w base v (L.length + 1) (hcat (lF L) L.length (fun _ => f))) : OH w base v (L ++ [f]).length (lF (L ++ [f])) := by
  rw [List.length_append]
  refine OH.congr h (fun i hi => ?_)
  unfold hcat lF
  rw [List.getD_eq_getElem?_getD, List.getD_eq_getElem?_getD]
  by_cases hi2 : i < L.length
  · rw [if_pos hi2, List.getElem?_append_left hi2]
  · have h1 : i < L.length + 1 := hi
    have e : i = L.length := by omega
    subst e
    rw [if_neg hi2, List.getElem?_append_right (Nat.le_refl _), Nat.sub_self]
    rfl
theorem hl_one (w : World) (f : Nat → Nat) (hf : ∀ i, f i < 256) : HL (w.alloc (.cells (ab f 32).toArray 32)) (some ⟨w.heap.size, 0, none⟩) 1 (fun _ => f) :=
  ⟨fun _ => hf, Or.inr ⟨_, _, rfl, fun i hi => by
    obtain rfl : i = 0 := by omega
    exact RowB.range (RowB.made w 32 32 f _ rfl)⟩⟩
set_option maxRecDepth 100000 in
theorem fillH (f : Nat → Nat) (z : Value) (hz : z = .agg (ab (fun _ => 0) 32).toArray) : Instr.fill (fun i => some (i * 32, 32)) ((Array.range (1 * 32)).map (z.cells[· % z.cells.size]!)) [(0, .agg (ab f 32).toArray)] = some (ab f 32).toArray := by
  subst hz
  kernel_rfl
theorem wpList_oneH {ops : Array Oper} {rest : List Oper} {op : Oper} {a : Act} {w : World} {Q : Exit → Act → World → Prop} {x : Operand} {f : Nat → Nat} (hg : op.guard = none) (ho : op.op = .buildSlice 22 1 #[(0, x)]) (hx : a.eval x = .agg (ab f 32).toArray) (hf : ∀ i, f i < 256)
    (h : ∀ p W', p = w.heap.size → p < W'.heap.size → HL W' (some ⟨p, 0, none⟩) 1 (fun _ => f) → Below w.heap.size w W' → wpList Tryd.prog ops Q rest (a.put op.dst (.slice (some ⟨p, 0, none⟩) 1 1)) W') : wpList Tryd.prog ops Q (op :: rest) a w := by
  obtain ⟨ie, hi, hz, hs, _⟩ := info_parts infoHv
  refine wpList_buildSlice hg 22 32 1 #[(0, x)] ho (ab f 32).toArray ie _ Tryd.underlying22 hi hz (by rw [hs]; decide) (by rw [hs]; decide) ?_ (h w.heap.size _ rfl (by simp) (hl_one w f hf) (K.alloc (Below.refl _ _) _))
  rw [hs]
  simp only [List.map_toArray, List.map_cons, List.map_nil, hx]
  exact fillH f _ rfl
end Go.Proofs.YteplklbpehkdjaaDoor
namespace Go.Proofs.YteplklbpehkdjaaDoor
set_option maxRecDepth 100000
open Go.RowKit

/-- The path of the m-th of n hashes. -/
def pth (F : Nat → Nat → Nat) (n m : Nat) : List (Nat → Nat) :=
  if _h : n < 2 then [] else if m < sp n then pth F (sp n) m ++ [rt (fun i => F (sp n + i)) (n - sp n)] else pth (fun i => F (sp n + i)) (n - sp n) (m - sp n) ++ [rt F (sp n)]
termination_by n
decreasing_by
  · exact sp_lt (by omega)
  · have := sp_pos (n := n) (by omega)
    omega
theorem pth_small (F : Nat → Nat → Nat) {n : Nat} (m : Nat) (h : n < 2) : pth F n m = [] := by rw [pth, dif_pos h]
theorem pth_low (F : Nat → Nat → Nat) {n m : Nat} (h : 2 ≤ n) (hm : m < sp n) : pth F n m = pth F (sp n) m ++ [rt (fun i => F (sp n + i)) (n - sp n)] := by rw [pth, dif_neg (by omega), if_pos hm]
theorem pth_up (F : Nat → Nat → Nat) {n m : Nat} (h : 2 ≤ n) (hm : ¬ m < sp n) : pth F n m = pth (fun i => F (sp n + i)) (n - sp n) (m - sp n) ++ [rt F (sp n)] := by rw [pth, dif_neg (by omega), if_neg hm]
/-- The proof of the first m of n hashes. -/
def prf (F : Nat → Nat → Nat) (n m : Nat) (b : Bool) : List (Nat → Nat) :=
  if _h : n ≤ m ∨ n < 2 then (if b then [] else [rt F n]) else if m ≤ sp n then prf F (sp n) m b ++ [rt (fun i => F (sp n + i)) (n - sp n)] else prf (fun i => F (sp n + i)) (n - sp n) (m - sp n) false ++ [rt F (sp n)]
termination_by n
decreasing_by
  · exact sp_lt (by omega)
  · have := sp_pos (n := n) (by omega)
    omega
theorem prf_end (F : Nat → Nat → Nat) {n m : Nat} (b : Bool) (h : n ≤ m ∨ n < 2) : prf F n m b = if b then [] else [rt F n] := by rw [prf, dif_pos h]
theorem prf_low (F : Nat → Nat → Nat) {n m : Nat} (b : Bool) (h : m < n) (h2 : 2 ≤ n) (hm : m ≤ sp n) : prf F n m b = prf F (sp n) m b ++ [rt (fun i => F (sp n + i)) (n - sp n)] := by rw [prf, dif_neg (by omega), if_pos hm]
theorem prf_up (F : Nat → Nat → Nat) {n m : Nat} (b : Bool) (h : m < n) (h2 : 2 ≤ n) (hm : ¬ m ≤ sp n) : prf F n m b = prf (fun i => F (sp n + i)) (n - sp n) (m - sp n) false ++ [rt F (sp n)] := by rw [prf, dif_neg (by omega), if_neg hm]
end Go.Proofs.YteplklbpehkdjaaDoor
namespace Go.Proofs.YteplklbpehkdjaaDoor
set_option maxRecDepth 100000
open Go.RowKit
attribute [local go_sem ↓] Go.wp_at_zero Go.wp_at_succ

end Go.Proofs.YteplklbpehkdjaaDoor
namespace Go.Proofs.YteplklbpehkdjaaDoor
set_option maxRecDepth 100000
open Go.RowKit
attribute [local go_sem ↓] Go.wp_at_zero Go.wp_at_succ

theorem OH.le {w : World} {base base' n : Nat} {v : Value} {F : Nat → Nat → Nat} (h : OH w base v n F) (hb : base' ≤ base) : OH w base' v n F := by
  refine ⟨h.1, ?_⟩
  rcases h.2 with h0 | ⟨g, cap, cur, e, hg, r⟩
  · exact Or.inl h0
  · exact Or.inr ⟨g, cap, cur, e, Nat.le_trans hb hg, r⟩
/-- What is told with no error. -/
def PthP (w : World) (L : List (Nat → Nat)) (e : Ending) (w' : World) : Prop := ∃ v, e = .returned (.tuple #[v, .int .i64 0]) ∧ OH w' w.heap.size v L.length (lF L) ∧ Below w.heap.size w w'
end Go.Proofs.YteplklbpehkdjaaDoor
