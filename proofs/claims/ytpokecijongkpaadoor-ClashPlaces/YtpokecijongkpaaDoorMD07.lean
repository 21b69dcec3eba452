/- Layer 16: the document's own Split, Root, Same. Layer 17: the edge of a growing tree (no function of the program is named). Lists of hashes that are told as lists; a slice literal of one hash. Layer 18: paths and proofs (no function of the program is named). Layer 18: the document's own turned and Path. Layer 18: the document's own Path. -/
import Derived.Test.YtpokecijongkpaaDoorMD06
import Derived.Test.YtpokecijongkpaaDoorMD05
import Derived.Great.BuildSlice
namespace Go.Proofs.YtpokecijongkpaaDoor
set_option maxRecDepth 100000
open Go.RowKit
attribute [local go_sem ↓] Go.wp_at_zero Go.wp_at_succ

/-- Two lists of hashes. -/
theorem refSame_any {w : World} {x y : Option Addr} {n m c d : Nat} {F G : Nat → Nat → Nat} (hx : HL w x n F) (hy : HL w y m G) (hn : n ≤ 1000000) :
    Calls Tryd.prog 16 #[.slice x n c, .slice y m d] w fun e w' => e = .returned (.bool (decide (n = m) && eqL F G n)) ∧ Below w.heap.size w w' := by
  by_cases hnm : n = m
  · subst hnm
    have HX := hide hx
    have HY := hide hy
    clear hx hy
    rw [decide_eq_true rfl, Bool.true_and]
    obtain ⟨V, hV⟩ : ∃ V, V = eqL F G n := ⟨_, rfl⟩
    rw [← hV]
    have HV := hide hV
    clear hV
    go_enter Tryd.func16, Tryd.ntmps16
    go_wp2_with fail
    go_loopg [5] n (fun g s wr => ∃ i : Nat, g = n - i ∧ i ≤ n ∧ s = .int .i64 (i : Int) ∧ (∀ j, j < i → eqB (F j) (G j) 32 = true) ∧ Below w.heap.size w wr)
    case atStart => exact ⟨0, rfl, Nat.zero_le _, rfl, fun j hj => by omega, Below.refl _ _⟩
    case round =>
      obtain ⟨i, rfl, hi, rfl, hA, hB⟩ := hrel
      have HA := hide hA
      have HB := hide hB
      clear hA hB
      by_cases hl : i < n
      · have hw : wrap64 ((i : Int) + 1) = (i : Int) + 1 := by unfold wrap64; omega
        have hq : (i : Int) < (n : Int) := by omega
        obtain ⟨b1, o1, rfl, hr1⟩ : ∃ b o, x = some ⟨b, o, none⟩ ∧ wr.rangeAt b (o + i * 32) (ab (F i) 32) := by
          rcases HX.out.at_ with h5 | ⟨b, o, e, hr⟩
          · omega
          · exact ⟨b, o, e, range_keep (hr i hl) HB.out⟩
        obtain ⟨b2, o2, rfl, hr2⟩ : ∃ b o, y = some ⟨b, o, none⟩ ∧ wr.rangeAt b (o + i * 32) (ab (G i) 32) := by
          rcases HY.out.at_ with h5 | ⟨b, o, e, hr⟩
          · omega
          · exact ⟨b, o, e, range_keep (hr i hl) HB.out⟩
        have HR1 := hide hr1
        have HR2 := hide hr2
        clear hr1 hr2
        have HE := fun w' => eqH (F i) (G i) w'
        cases he : eqB (F i) (G i) 32 with
        | true =>
          have HEt := hide he
          rw [he] at HE
          clear he
          go_upto_region 6 with fail
          refine wp_region_noPanic ?_
          refine wp_region_held_drew (S := fun w' => w'.rangeAt b1 (o1 + i * 32) (ab (F i) 32) ∧ w'.rangeAt b2 (o2 + i * 32) (ab (G i) 32)) (by kernel_rfl) ⟨range_keep HR1.out (Go.Proofs.YtpokecijongkpaaDoor.K.drew (Below.refl _ _)), range_keep HR2.out (Go.Proofs.YtpokecijongkpaaDoor.K.drew (Below.refl _ _))⟩ (fun hS0 => ?_)
          refine wpAnyH_take (i := 0) (v := .slice (some ⟨b1, o1, none⟩) n c) rfl (by kernel_rfl) (by kernel_rfl) (by kernel_rfl) (fun _ _ _ h => h) (Or.inl ⟨by rfl, fun w' _ => by go_simp⟩) hS0 ?_
          simp only [Act.put, List.getElem_toArray, List.getElem_cons_zero, List.setIfInBounds_toArray, List.set_cons_zero, List.set_cons_succ]
          refine wpAnyH_take (i := 1) (v := .int .i64 (i : Int)) rfl (by kernel_rfl) (by kernel_rfl) (by kernel_rfl) (fun _ _ _ h => h) (Or.inl ⟨by rfl, fun w' _ => by go_simp⟩) hS0 ?_
          simp only [Act.put, List.getElem_toArray, List.getElem_cons_zero, List.getElem_cons_succ, List.setIfInBounds_toArray, List.set_cons_zero, List.set_cons_succ]
          refine wpAnyH_take (i := 2) (v := .pointer (some ⟨b1, o1 + i * 32, none⟩)) rfl (by kernel_rfl) (by kernel_rfl) (by kernel_rfl) (fun _ _ _ h => h) (Or.inl ⟨by rfl, fun w' _ => by go_simp⟩) hS0 ?_
          simp only [Act.put, List.getElem_toArray, List.getElem_cons_zero, List.getElem_cons_succ, List.setIfInBounds_toArray, List.set_cons_zero, List.set_cons_succ]
          refine wpAnyH_take (i := 3) (v := .agg (ab (F i) 32).toArray) rfl (by kernel_rfl) (by kernel_rfl) (by kernel_rfl) (fun _ _ _ h => h) (yieldsIf_load_mid (by rfl) 24 _ rfl b1 (o1 + i * 32) (by rfl) (ab (F i) 32) _ (fun w' hS => hS.1) Tryd.underlying24 rfl (ilH _)) hS0 ?_
          simp only [Act.put, List.getElem_toArray, List.getElem_cons_zero, List.getElem_cons_succ, List.setIfInBounds_toArray, List.set_cons_zero, List.set_cons_succ]
          refine wpAnyH_take (i := 4) (v := .slice (some ⟨b2, o2, none⟩) n d) rfl (by kernel_rfl) (by kernel_rfl) (by kernel_rfl) (fun _ _ _ h => h) (Or.inl ⟨by rfl, fun w' _ => by go_simp⟩) hS0 ?_
          simp only [Act.put, List.getElem_toArray, List.getElem_cons_zero, List.getElem_cons_succ, List.setIfInBounds_toArray, List.set_cons_zero, List.set_cons_succ]
          refine wpAnyH_take (i := 5) (v := .int .i64 (i : Int)) rfl (by kernel_rfl) (by kernel_rfl) (by kernel_rfl) (fun _ _ _ h => h) (Or.inl ⟨by rfl, fun w' _ => by go_simp⟩) hS0 ?_
          simp only [Act.put, List.getElem_toArray, List.getElem_cons_zero, List.getElem_cons_succ, List.setIfInBounds_toArray, List.set_cons_zero, List.set_cons_succ]
          refine wpAnyH_take (i := 6) (v := .pointer (some ⟨b2, o2 + i * 32, none⟩)) rfl (by kernel_rfl) (by kernel_rfl) (by kernel_rfl) (fun _ _ _ h => h) (Or.inl ⟨by rfl, fun w' _ => by go_simp⟩) hS0 ?_
          simp only [Act.put, List.getElem_toArray, List.getElem_cons_zero, List.getElem_cons_succ, List.setIfInBounds_toArray, List.set_cons_zero, List.set_cons_succ]
          refine wpAnyH_take (i := 7) (v := .agg (ab (G i) 32).toArray) rfl (by kernel_rfl) (by kernel_rfl) (by kernel_rfl) (fun _ _ _ h => h) (yieldsIf_load_mid (by rfl) 24 _ rfl b2 (o2 + i * 32) (by rfl) (ab (G i) 32) _ (fun w' hS => hS.2) Tryd.underlying24 rfl (ilH _)) hS0 ?_
          simp only [Act.put, List.getElem_toArray, List.getElem_cons_zero, List.getElem_cons_succ, List.setIfInBounds_toArray, List.set_cons_zero, List.set_cons_succ]
          refine wpAnyH_take (i := 8) (v := .bool false) rfl (by kernel_rfl) (by kernel_rfl) (by kernel_rfl) (fun _ _ _ h => h) (Or.inl ⟨by rfl, fun w' _ => by have hc := HE w'; go_simp⟩) hS0 ?_
          simp only [Act.put, List.getElem_toArray, List.getElem_cons_zero, List.getElem_cons_succ, List.setIfInBounds_toArray, List.set_cons_zero, List.set_cons_succ]
          refine wpAnyH_done (by kernel_rfl) ?_ _
          refine NoPanic.normal ?_
          go_wp2_with fail
          go_roundg (n - (i + 1))
          case measure => omega
          case rel => exact ⟨i + 1, rfl, by omega, by simp, fun j hj => by
            by_cases hj' : j < i
            · exact HA.out j hj'
            · obtain rfl : j = i := by omega
              exact HEt.out, Go.Proofs.YtpokecijongkpaaDoor.K.drew HB.out⟩
        | false =>
          have HEf := hide he
          rw [he] at HE
          clear he
          go_upto_region 6 with fail
          refine wp_region_noPanic ?_
          refine wp_region_held_drew (S := fun w' => w'.rangeAt b1 (o1 + i * 32) (ab (F i) 32) ∧ w'.rangeAt b2 (o2 + i * 32) (ab (G i) 32)) (by kernel_rfl) ⟨range_keep HR1.out (Go.Proofs.YtpokecijongkpaaDoor.K.drew (Below.refl _ _)), range_keep HR2.out (Go.Proofs.YtpokecijongkpaaDoor.K.drew (Below.refl _ _))⟩ (fun hS0 => ?_)
          refine wpAnyH_take (i := 0) (v := .slice (some ⟨b1, o1, none⟩) n c) rfl (by kernel_rfl) (by kernel_rfl) (by kernel_rfl) (fun _ _ _ h => h) (Or.inl ⟨by rfl, fun w' _ => by go_simp⟩) hS0 ?_
          simp only [Act.put, List.getElem_toArray, List.getElem_cons_zero, List.setIfInBounds_toArray, List.set_cons_zero, List.set_cons_succ]
          refine wpAnyH_take (i := 1) (v := .int .i64 (i : Int)) rfl (by kernel_rfl) (by kernel_rfl) (by kernel_rfl) (fun _ _ _ h => h) (Or.inl ⟨by rfl, fun w' _ => by go_simp⟩) hS0 ?_
          simp only [Act.put, List.getElem_toArray, List.getElem_cons_zero, List.getElem_cons_succ, List.setIfInBounds_toArray, List.set_cons_zero, List.set_cons_succ]
          refine wpAnyH_take (i := 2) (v := .pointer (some ⟨b1, o1 + i * 32, none⟩)) rfl (by kernel_rfl) (by kernel_rfl) (by kernel_rfl) (fun _ _ _ h => h) (Or.inl ⟨by rfl, fun w' _ => by go_simp⟩) hS0 ?_
          simp only [Act.put, List.getElem_toArray, List.getElem_cons_zero, List.getElem_cons_succ, List.setIfInBounds_toArray, List.set_cons_zero, List.set_cons_succ]
          refine wpAnyH_take (i := 3) (v := .agg (ab (F i) 32).toArray) rfl (by kernel_rfl) (by kernel_rfl) (by kernel_rfl) (fun _ _ _ h => h) (yieldsIf_load_mid (by rfl) 24 _ rfl b1 (o1 + i * 32) (by rfl) (ab (F i) 32) _ (fun w' hS => hS.1) Tryd.underlying24 rfl (ilH _)) hS0 ?_
          simp only [Act.put, List.getElem_toArray, List.getElem_cons_zero, List.getElem_cons_succ, List.setIfInBounds_toArray, List.set_cons_zero, List.set_cons_succ]
          refine wpAnyH_take (i := 4) (v := .slice (some ⟨b2, o2, none⟩) n d) rfl (by kernel_rfl) (by kernel_rfl) (by kernel_rfl) (fun _ _ _ h => h) (Or.inl ⟨by rfl, fun w' _ => by go_simp⟩) hS0 ?_
          simp only [Act.put, List.getElem_toArray, List.getElem_cons_zero, List.getElem_cons_succ, List.setIfInBounds_toArray, List.set_cons_zero, List.set_cons_succ]
          refine wpAnyH_take (i := 5) (v := .int .i64 (i : Int)) rfl (by kernel_rfl) (by kernel_rfl) (by kernel_rfl) (fun _ _ _ h => h) (Or.inl ⟨by rfl, fun w' _ => by go_simp⟩) hS0 ?_
          simp only [Act.put, List.getElem_toArray, List.getElem_cons_zero, List.getElem_cons_succ, List.setIfInBounds_toArray, List.set_cons_zero, List.set_cons_succ]
          refine wpAnyH_take (i := 6) (v := .pointer (some ⟨b2, o2 + i * 32, none⟩)) rfl (by kernel_rfl) (by kernel_rfl) (by kernel_rfl) (fun _ _ _ h => h) (Or.inl ⟨by rfl, fun w' _ => by go_simp⟩) hS0 ?_
          simp only [Act.put, List.getElem_toArray, List.getElem_cons_zero, List.getElem_cons_succ, List.setIfInBounds_toArray, List.set_cons_zero, List.set_cons_succ]
          refine wpAnyH_take (i := 7) (v := .agg (ab (G i) 32).toArray) rfl (by kernel_rfl) (by kernel_rfl) (by kernel_rfl) (fun _ _ _ h => h) (yieldsIf_load_mid (by rfl) 24 _ rfl b2 (o2 + i * 32) (by rfl) (ab (G i) 32) _ (fun w' hS => hS.2) Tryd.underlying24 rfl (ilH _)) hS0 ?_
          simp only [Act.put, List.getElem_toArray, List.getElem_cons_zero, List.getElem_cons_succ, List.setIfInBounds_toArray, List.set_cons_zero, List.set_cons_succ]
          refine wpAnyH_take (i := 8) (v := .bool true) rfl (by kernel_rfl) (by kernel_rfl) (by kernel_rfl) (fun _ _ _ h => h) (Or.inl ⟨by rfl, fun w' _ => by have hc := HE w'; go_simp⟩) hS0 ?_
          simp only [Act.put, List.getElem_toArray, List.getElem_cons_zero, List.getElem_cons_succ, List.setIfInBounds_toArray, List.set_cons_zero, List.set_cons_succ]
          refine wpAnyH_done (by kernel_rfl) ?_ _
          refine NoPanic.normal ?_
          go_wp2_with fail
          go_ret
          have hVf : V = false := by
            rw [HV.out]
            refine decide_eq_false (fun hall => ?_)
            have h5 := hall i hl
            rw [HEf.out] at h5
            cases h5
          exact ⟨by rw [hVf]; rfl, Go.Proofs.YtpokecijongkpaaDoor.K.drew HB.out⟩
      · have hq : ¬ ((i : Int) < (n : Int)) := by omega
        obtain rfl : i = n := by omega
        go_wp2_with fail
        go_ret
        exact ⟨by rw [HV.out]; exact congrArg (fun b => Ending.returned (.bool b)) (decide_eq_true HA.out).symm, HB.out⟩
  · have hq : ¬ ((n : Int) = (m : Int)) := by omega
    rw [decide_eq_false hnm, Bool.false_and]
    go_enter Tryd.func16, Tryd.ntmps16
    go_wp2_with fail
    go_ret
    exact ⟨rfl, Below.refl _ _⟩
end Go.Proofs.YtpokecijongkpaaDoor
namespace Go.Proofs.YtpokecijongkpaaDoor
set_option maxRecDepth 100000
open Go.RowKit

/-- How many hashes parts of such powers of two have. -/
def sz : List Nat → Nat
  | [] => 0
  | e :: es => 2 ^ e + sz es
/-- From the greatest on, no two the same. -/
def Desc : List Nat → Prop
  | [] => True
  | [_] => True
  | e :: x :: es => x < e ∧ Desc (x :: es)
theorem Desc.tail {e : Nat} : ∀ {es : List Nat}, Desc (e :: es) → Desc es
  | [], _ => trivial
  | _ :: _, h => h.2
/-- A stack of parts, whose last one may be as great as the one ahead of it. -/
structure Stk (es : List Nat) (e : Nat) : Prop where
  d : Desc es
  l : ∀ x, es.getLast? = some x → e ≤ x
theorem Desc.snoc : ∀ {es : List Nat} {e : Nat}, Desc es → (∀ x, es.getLast? = some x → e < x) → Desc (es ++ [e])
  | [], _, _, _ => trivial
  | [a], e, _, h => ⟨h a rfl, trivial⟩
  | a :: b :: es, e, h, hl => ⟨h.1, Desc.snoc (es := b :: es) h.2 (fun x hx => hl x (by rw [List.getLast?_cons_cons]; exact hx))⟩
theorem Stk.done {es : List Nat} {e : Nat} (h : Stk es e) (hn : ∀ x, es.getLast? = some x → x ≠ e) : Desc (es ++ [e]) := h.d.snoc (fun x hx => by
  have h1 := h.l x hx
  have h2 := hn x hx
  omega)
def on : Nat → Nat → Nat
  | 0, _ => 0
  | f + 1, n => if n = 0 then 0 else n % 2 + on f (n / 2)
end Go.Proofs.YtpokecijongkpaaDoor
namespace Go.Proofs.YtpokecijongkpaaDoor
set_option maxRecDepth 100000
open Go.RowKit

/-- A list of hashes, as a function. -/
def lF (L : List (Nat → Nat)) : Nat → Nat → Nat := fun i => L.getD i (fun _ => 0)
theorem lF_lt {L : List (Nat → Nat)} (h : ∀ f ∈ L, ∀ j, f j < 256) (i j : Nat) : lF L i j < 256 := by
  unfold lF
  rw [List.getD_eq_getElem?_getD]
  by_cases hi : i < L.length
  · rw [List.getElem?_eq_getElem hi]
    exact h _ (List.getElem_mem hi) j
  · rw [List.getElem?_eq_none (by omega)]
    show 0 < 256
    omega
theorem hc_congr {F G : Nat → Nat → Nat} {n : Nat} (h : ∀ i, i < n → F i = G i) : hc F n = hc G n := by
  unfold hc hfl fl
  congr 1
  apply List.map_congr_left
  intro k hk
  have := List.mem_range.1 hk
  rw [h (k / 32) (by omega)]
theorem OH.congr {w : World} {base n : Nat} {v : Value} {F G : Nat → Nat → Nat} (h : OH w base v n F) (e : ∀ i, i < n → F i = G i) : OH w base v n G := by
  show w.ownsRow base 24 32 v n (hc G n)
  rw [← hc_congr e]
  exact h
/-- One more at the end. -/
theorem OH.snoc {w : World} {base : Nat} {v : Value} {L : List (Nat → Nat)} {f : Nat → Nat} (h : OH w base v (L.length + 1) (hcat (lF L) L.length (fun _ => f))) : OH w base v (L ++ [f]).length (lF (L ++ [f])) := by
  rw [List.length_append]
  refine OH.congr h (fun i hi => ?_)
  unfold hcat lF
  rw [List.getD_eq_getElem?_getD, List.getD_eq_getElem?_getD]
  by_cases hi2 : i < L.length
  · rw [if_pos hi2, List.getElem?_append_left hi2]
  · have h1 : i < L.length + 1 := hi
    have e : i = L.length := by omega
    subst e
    rw [if_neg hi2, List.getElem?_append_right (Nat.le_refl _), Nat.sub_self]
    rfl
end Go.Proofs.YtpokecijongkpaaDoor
namespace Go.Proofs.YtpokecijongkpaaDoor
set_option maxRecDepth 100000
open Go.RowKit

end Go.Proofs.YtpokecijongkpaaDoor
namespace Go.Proofs.YtpokecijongkpaaDoor
set_option maxRecDepth 100000
open Go.RowKit
attribute [local go_sem ↓] Go.wp_at_zero Go.wp_at_succ

end Go.Proofs.YtpokecijongkpaaDoor
namespace Go.Proofs.YtpokecijongkpaaDoor
set_option maxRecDepth 100000
open Go.RowKit
attribute [local go_sem ↓] Go.wp_at_zero Go.wp_at_succ

/-- What is told with no error. -/
def PthP (w : World) (L : List (Nat → Nat)) (e : Ending) (w' : World) : Prop := ∃ v, e = .returned (.tuple #[v, .int .i64 0]) ∧ OH w' w.heap.size v L.length (lF L) ∧ Below w.heap.size w w'
end Go.Proofs.YtpokecijongkpaaDoor
