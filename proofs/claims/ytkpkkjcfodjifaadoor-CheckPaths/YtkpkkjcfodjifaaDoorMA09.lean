/- Layer 19: a proof from the bottom up is the proof from the top down (no function of the program is named). Layer 19: hashes in variables of one's own; a list told from its last one on. Layer 19: the document's own Leads. -/
import Derived.Test.YtkpkkjcfodjifaaDoorMA08
namespace Go.Proofs.YtkpkkjcfodjifaaDoor
set_option maxRecDepth 100000
open Go.RowKit

theorem odd_pow {o j a : Nat} (ho : o % 2 = 1) (h : o * 2 ^ j = 2 ^ a) (hja : j ≤ a) : o = 1 := by
  rw [pow_split hja] at h
  have h1 : o = 2 ^ (a - j) := Nat.eq_of_mul_eq_mul_right (Nat.two_pow_pos j) h
  rcases hd : a - j with _ | d
  · rw [h1, hd, Nat.pow_zero]
  · rw [h1, hd, Nat.pow_succ] at ho
    omega
theorem pow_lt_j {j a : Nat} (h : 2 ^ j ≤ 2 ^ a) : j ≤ a := (Nat.pow_le_pow_iff_right (by decide)).1 h
theorem tw_one (w : Bool) (x : Nat → Nat) (p : List (Nat → Nat)) (n m : Nat) (h : n ≤ m ∨ n < 2) : tw n m w x p.reverse = beg (w && decide (1 = 1)) x p (fun y p => lvG pA pB 1 0 (y, y) p) := by
  rw [tw_end w x _ h]
  cases w
  · show (match p.reverse with | [y] => some (y, y) | _ => none) = (match p with | [] => none | y :: p => lvG pA pB 1 0 (y, y) p)
    cases p with
    | nil => rfl
    | cons y p =>
      show _ = lvG pA pB 1 0 (y, y) p
      rw [lvG_one pA pB 0 (y, y) p (by omega)]
      rcases List.eq_nil_or_concat p with rfl | ⟨r, t, rfl⟩
      · rfl
      · rw [List.concat_eq_append, ← List.cons_append, List.reverse_append]
        cases hr : (y :: r).reverse with
        | nil =>
          have := congrArg List.length hr
          rw [List.length_reverse] at this
          cases this
        | cons z l =>
          cases r <;> rfl
  · show (match p.reverse with | [] => some (x, x) | _ :: _ => none) = lvG pA pB 1 0 (x, x) p
    rw [lvG_one pA pB 0 (x, x) p (by omega)]
    rcases List.eq_nil_or_concat p with rfl | ⟨r, t, rfl⟩
    · rfl
    · rw [List.concat_eq_append, List.reverse_append]
      cases r <;> rfl
/-- Both are the same: of the first m = o 2^j, o odd, of n. -/
theorem tw_bu : ∀ (n j o : Nat) (w : Bool) (x : Nat → Nat) (p : List (Nat → Nat)), o % 2 = 1 → (o * 2 ^ j < n ∨ (o = 1 ∧ n = 2 ^ j)) → tw n (o * 2 ^ j) w x p.reverse = bu n j o w x p := fun n => by
  induction n using Nat.strongRecOn with
  | ind n ih =>
    intro j o w x p ho hm
    have hP := Nat.two_pow_pos j
    by_cases hn : o * 2 ^ j < n
    · have hoP : 2 ^ j ≤ o * 2 ^ j := Nat.le_mul_of_pos_left _ (by omega)
      have h1 := sp_lt (n := n) (by omega)
      have h0 := sp_pos (n := n) (by omega)
      have h3 := sp_le (n := n) (by omega)
      have hpw := sp_pow (n := n) (by omega)
      obtain ⟨a, ha⟩ : ∃ a, (n - 1).log2 = a := ⟨_, rfl⟩
      rw [ha] at hpw
      obtain ⟨s, hs⟩ : ∃ s, n = 2 ^ a + s := ⟨n - 2 ^ a, by omega⟩
      have hne : ¬ (n ≤ o * 2 ^ j ∨ n < 2) := by omega
      by_cases hk : o * 2 ^ j ≤ sp n
      · have hja : j ≤ a := pow_lt_j (by omega)
        have hsp := pow_split hja
        have ho2 : o ≤ 2 ^ (a - j) := Nat.le_of_mul_le_mul_right (c := 2 ^ j) (by rw [← hsp, ← hpw]; exact hk) hP
        have hC : (n + 2 ^ j - 1) / 2 ^ j = 2 ^ (a - j) + (s + 2 ^ j - 1) / 2 ^ j := by rw [hs, hsp, ceil_add _ s _ hP]
        have hC2 : (sp n + 2 ^ j - 1) / 2 ^ j = 2 ^ (a - j) := by rw [hpw, hsp, ceil_mul _ _ hP]
        have hb : bu n j o w x p = topG p (fun p => bu (sp n) j o w x p) pB := by
          unfold bu
          have hf : (fun (y : Nat → Nat) (p : List (Nat → Nat)) => lvG pA pB ((n + 2 ^ j - 1) / 2 ^ j) (o - 1) (y, y) p) = fun y p => topG p (fun p => lvG pA pB ((sp n + 2 ^ j - 1) / 2 ^ j) (o - 1) (y, y) p) pB := by
            funext y p
            rw [hC, hC2]
            exact lvG_left pA pB (a - j) _ (o - 1) (y, y) p (by omega) (ceil_pos (by omega) hP) (ceil_le (by rw [← hsp]; omega) hP)
          rw [hf]
          exact beg_top _ x p (fun y p => lvG pA pB ((sp n + 2 ^ j - 1) / 2 ^ j) (o - 1) (y, y) p) pB
        rw [hb]
        have hIH : o * 2 ^ j < sp n ∨ (o = 1 ∧ sp n = 2 ^ j) := by
          by_cases he : o * 2 ^ j < sp n
          · exact Or.inl he
          · have he2 : o * 2 ^ j = 2 ^ a := by omega
            have ho1 := odd_pow ho he2 hja
            rw [ho1, Nat.one_mul] at he2
            exact Or.inr ⟨ho1, by omega⟩
        rcases List.eq_nil_or_concat p with rfl | ⟨r, t, rfl⟩
        · rw [topG_nil]
          exact tw_nil w x hne
        · rw [List.concat_eq_append, topG_snoc, List.reverse_append]
          show tw n (o * 2 ^ j) w x (t :: r.reverse) = _
          rw [tw_low w x t _ hne hk, ih (sp n) h1 j o w x r ho hIH]
      · have hja : j < a := by
          rcases Nat.lt_or_ge j a with h | h
          · exact h
          · have h4 : 2 ^ a ≤ 2 ^ j := Nat.pow_le_pow_right (by decide) h
            have h5 : 3 * 2 ^ j ≤ o * 2 ^ j ∨ o = 1 := by
              by_cases e : o = 1
              · exact Or.inr e
              · exact Or.inl (Nat.mul_le_mul_right _ (by omega))
            rcases h5 with h5 | h5
            · omega
            · rw [h5, Nat.one_mul] at hk hn
              have h6 : j ≤ a + 1 := by
                rcases Nat.lt_or_ge (a + 1) j with h7 | h7
                · have := Nat.pow_le_pow_right (n := 2) (by decide) h7
                  rw [Nat.pow_succ, Nat.pow_succ] at this
                  omega
                · omega
              rcases (show j = a ∨ j = a + 1 by omega) with h7 | h7
              · rw [h7] at hk; omega
              · rw [h7, Nat.pow_succ] at hn; omega
        have hsp := pow_split (Nat.le_of_lt hja)
        obtain ⟨d, hd⟩ : ∃ d, a - j = d + 1 := ⟨a - j - 1, by omega⟩
        have he : 2 ^ (a - j) = 2 * 2 ^ d := by rw [hd, Nat.pow_succ, Nat.mul_comm]
        have hdp := Nat.two_pow_pos d
        have ho2 : 2 ^ (a - j) < o := by
          refine Nat.lt_of_mul_lt_mul_right (a := 2 ^ j) ?_
          rw [← hsp]
          omega
        obtain ⟨u, hu⟩ : ∃ u, o = 2 ^ (a - j) + u := ⟨o - 2 ^ (a - j), by omega⟩
        have hmu : o * 2 ^ j = 2 ^ a + u * 2 ^ j := by rw [hu, Nat.add_mul, ← hsp]
        have hu1 : u % 2 = 1 := by omega
        have hus : u * 2 ^ j < s := by omega
        have hC : (n + 2 ^ j - 1) / 2 ^ j = 2 ^ (a - j) + (s + 2 ^ j - 1) / 2 ^ j := by rw [hs, hsp, ceil_add _ s _ hP]
        have hsr : (s + 2 ^ j - 1) / 2 ^ j ≤ 2 ^ (a - j) := ceil_le (by rw [← hsp]; omega) hP
        have hur : u < (s + 2 ^ j - 1) / 2 ^ j := ceil_gt hus hP
        have hns : n - sp n = s := by omega
        have hb : bu n j o w x p = topG p (fun p => bu s j u false x p) pA := by
          unfold bu
          have hw : (w && decide (o = 1)) = false := by
            rw [decide_eq_false (by omega), Bool.and_false]
          rw [hw, Bool.false_and]
          have hf : (fun (y : Nat → Nat) (p : List (Nat → Nat)) => lvG pA pB ((n + 2 ^ j - 1) / 2 ^ j) (o - 1) (y, y) p) = fun y p => topG p (fun p => lvG pA pB ((s + 2 ^ j - 1) / 2 ^ j) (u - 1) (y, y) p) pA := by
            funext y p
            rw [hC, show o - 1 = 2 ^ (a - j) + (u - 1) by omega]
            exact lvG_right pA pB (a - j) _ (u - 1) (y, y) p (by omega) hsr
          rw [hf]
          exact beg_top _ x p (fun y p => lvG pA pB ((s + 2 ^ j - 1) / 2 ^ j) (u - 1) (y, y) p) pA
        rw [hb]
        rcases List.eq_nil_or_concat p with rfl | ⟨r, t, rfl⟩
        · rw [topG_nil]
          exact tw_nil w x hne
        · rw [List.concat_eq_append, topG_snoc, List.reverse_append]
          show tw n (o * 2 ^ j) w x (t :: r.reverse) = _
          rw [tw_up w x t _ hne hk, hns, show o * 2 ^ j - sp n = u * 2 ^ j by omega, ih s (by omega) j u false x r hu1 (Or.inl hus)]
    · obtain ⟨rfl, hn2⟩ := hm.resolve_left hn
      have hC : (n + 2 ^ j - 1) / 2 ^ j = 1 := by
        have := ceil_mul 1 (2 ^ j) hP
        rw [Nat.one_mul] at this
        rw [hn2]
        exact this
      unfold bu
      rw [hC]
      exact tw_one w x p n _ (Or.inl (by rw [Nat.one_mul]; omega))
end Go.Proofs.YtkpkkjcfodjifaaDoor
namespace Go.Proofs.YtkpkkjcfodjifaaDoor
set_option maxRecDepth 100000
open Go.RowKit
attribute [local go_sem ↓] Go.wp_at_zero Go.wp_at_succ

/-- Variables of one's own, made since w0, and the hashes in them. -/
structure Vs (w0 W : World) (L : List (Nat × (Nat → Nat))) : Prop where
  k : Below w0.heap.size w0 W
  at_ : ∀ p ∈ L, w0.heap.size ≤ p.1 ∧ RowB W p.1 32 p.2
  dn : (L.map Prod.fst).Nodup
theorem Vs.nil (w : World) : Vs w w [] := ⟨Below.refl _ _, (fun _ h => by cases h), List.nodup_nil⟩
theorem Vs.keep {w0 W W' : World} {L : List (Nat × (Nat → Nat))} (h : Vs w0 W L) (hb : Below W.heap.size W W') : Vs w0 W' L :=
  ⟨Go.Proofs.YtkpkkjcfodjifaaDoor.K.call h.k hb, fun p hp => ⟨(h.at_ p hp).1, Row8.keep (h.at_ p hp).2 hb⟩, h.dn⟩
theorem Vs.made {w0 W : World} {L : List (Nat × (Nat → Nat))} (h : Vs w0 W L) (f : Nat → Nat) : Vs w0 (W.alloc (.cells (ab f 32).toArray 23)) ((W.heap.size, f) :: L) := by
  have hb : Below W.heap.size W (W.alloc (.cells (ab f 32).toArray 23)) := Go.Proofs.YtkpkkjcfodjifaaDoor.K.alloc (Below.refl _ _) _
  refine ⟨Go.Proofs.YtkpkkjcfodjifaaDoor.K.alloc h.k _, fun p hp => ?_, ?_⟩
  · rcases List.mem_cons.1 hp with rfl | hp
    · exact ⟨h.k.size, RowB.made W 23 32 f _ rfl⟩
    · exact ⟨(h.at_ p hp).1, Row8.keep (h.at_ p hp).2 hb⟩
  · rw [List.map_cons]
    refine List.nodup_cons.2 ⟨fun hm => ?_, h.dn⟩
    obtain ⟨p, hp, e⟩ := List.mem_map.1 hm
    have hl := (h.at_ p hp).2.lt
    rw [e] at hl
    exact Nat.lt_irrefl _ hl
theorem Vs.put {w0 W : World} {L : List (Nat × (Nat → Nat))} (h : Vs w0 W L) {i b : Nat} {f : Nat → Nat} (hi : L[i]? = some (b, f)) (g : Nat → Nat) : Vs w0 (W.setCells b 0 (ab g 32).toArray.toList) (L.set i (b, g)) := by
  have hm := h.at_ (b, f) (List.mem_of_getElem? hi)
  have hil : i < L.length := (List.getElem?_eq_some_iff.1 hi).1
  have hb : (L.map Prod.fst)[i]? = some b := by rw [List.getElem?_map, hi]; rfl
  refine ⟨below_setCells _ _ h.k hm.1, fun p hp => ?_, ?_⟩
  · obtain ⟨j, hj⟩ := List.mem_iff_getElem?.1 hp
    rw [List.getElem?_set] at hj
    by_cases hij : i = j
    · rw [if_pos hij, if_pos hil] at hj
      cases hj
      exact ⟨hm.1, RowB.stored hm.2 g⟩
    · rw [if_neg hij] at hj
      have hp2 := h.at_ p (List.mem_of_getElem? hj)
      refine ⟨hp2.1, Row8.apart hp2.2 (fun e => hij ?_) _ _⟩
      refine (List.getElem?_inj (l := L.map Prod.fst) (by rw [List.length_map]; exact hil) h.dn).1 ?_
      rw [hb, List.getElem?_map, hj, ← e]
      rfl
  · have e : (L.set i (b, g)).map Prod.fst = L.map Prod.fst := by
      refine List.ext_getElem? fun j => ?_
      rw [List.getElem?_map, List.getElem?_map, List.getElem?_set]
      by_cases hij : i = j
      · rw [if_pos hij, if_pos hil, ← hij, hi]
        rfl
      · rw [if_neg hij]
    rw [e]
    exact h.dn
theorem Vs.rg {w0 W : World} {L : List (Nat × (Nat → Nat))} (h : Vs w0 W L) (i : Nat) {b : Nat} {f : Nat → Nat} (hi : L[i]? = some (b, f)) : W.rangeAt b 0 (ab f 32) := RowB.range (h.at_ (b, f) (List.mem_of_getElem? hi)).2
theorem Vs.drew {w0 W : World} {L : List (Nat × (Nat → Nat))} (h : Vs w0 W L) : Vs w0 W.drew L := h.keep (Go.Proofs.YtkpkkjcfodjifaaDoor.K.drew (Below.refl _ W))
/-- What a region that draws its order may read. -/
def Sv (w0 : World) (R : List (Nat × (Nat → Nat))) (W : World) : Prop := Below w0.heap.size w0 W ∧ ∀ p ∈ R, W.rangeAt p.1 0 (ab p.2 32)
theorem Vs.sv {w0 W : World} {L R : List (Nat × (Nat → Nat))} (h : Vs w0 W L) (hR : ∀ p ∈ R, p ∈ L) : Sv w0 R W := ⟨h.k, fun p hp => RowB.range (h.at_ p (hR p hp)).2⟩
theorem Sv.rg {w0 W : World} {R : List (Nat × (Nat → Nat))} (h : Sv w0 R W) (i : Nat) {b : Nat} {f : Nat → Nat} (hi : R[i]? = some (b, f)) : W.rangeAt b 0 (ab f 32) := h.2 (b, f) (List.mem_of_getElem? hi)
section
variable {w0 W : World} {L : List (Nat × (Nat → Nat))} {op : Oper} {a : Act} {Kt : Act → World → Prop} {Q : Exit → Act → World → Prop} {ops : Array Oper} {rest : List Oper}
theorem run_allocH (hop : op.op = Op.alloc 23) : (execOp a.eval op).run Tryd.prog W = .ok (.value (.pointer (some ⟨W.heap.size, 0, none⟩))) (W.alloc (.cells (ab (fun _ => 0) 32).toArray 23)) := by
  unfold execOp
  simp [hop, Instr.alloc, newVar, newRow, Result.andThen, Value.cells]
  rfl
theorem Vs.wpNew (hv : Vs w0 W L) (hop : op.op = Op.alloc 23) (h : ∀ y W', Vs w0 W' ((y, fun _ => 0) :: L) → Below W.heap.size W W' → Kt (a.put op.dst (.pointer (some ⟨y, 0, none⟩))) W') : Oper.wp Tryd.prog op a W Kt Q := by
  unfold Oper.wp
  rw [run_allocH hop]
  exact h _ _ (hv.made _) (Go.Proofs.YtkpkkjcfodjifaaDoor.K.alloc (Below.refl _ _) _)
theorem Vs.listNew (hv : Vs w0 W L) (hgd : op.guard = none) (hop : op.op = Op.alloc 23) (h : ∀ y W', Vs w0 W' ((y, fun _ => 0) :: L) → Below W.heap.size W W' → wpList Tryd.prog ops Q rest (a.put op.dst (.pointer (some ⟨y, 0, none⟩))) W') : wpList Tryd.prog ops Q (op :: rest) a W :=
  wpList_plain hgd fun _ hK => hv.wpNew hop fun y W' h1 h2 => hK _ _ (h y W' h1 h2)
theorem Vs.wpPut (hv : Vs w0 W L) (i : Nat) {x y : Operand} {b : Nat} {f g : Nat → Nat} (hop : op.op = Op.store 23 x y) (hx : a.eval x = .pointer (some ⟨b, 0, none⟩)) (hy : a.eval y = .agg (ab g 32).toArray) (hi : L[i]? = some (b, f)) (h : ∀ W', Vs w0 W' (L.set i (b, g)) → Kt (a.put op.dst undef) W') : Oper.wp Tryd.prog op a W Kt Q :=
  wp_store_mid 23 x y hop b 0 (ab g 32).toArray hx hy ((hv.at_ (b, f) (List.mem_of_getElem? hi)).2.there g) (inH _) (all_oneCell_toArray (ab_one _ _)) (h _ (hv.put hi g))
theorem Vs.listPut (hv : Vs w0 W L) (i : Nat) {x y : Operand} {b : Nat} {f g : Nat → Nat} (hgd : op.guard = none) (hop : op.op = Op.store 23 x y) (hx : a.eval x = .pointer (some ⟨b, 0, none⟩)) (hy : a.eval y = .agg (ab g 32).toArray) (hi : L[i]? = some (b, f)) (h : ∀ W', Vs w0 W' (L.set i (b, g)) → wpList Tryd.prog ops Q rest (a.put op.dst undef) W') : wpList Tryd.prog ops Q (op :: rest) a W :=
  wpList_plain hgd fun _ hK => hv.wpPut i hop hx hy hi fun W' h1 => hK _ _ (h W' h1)
end
/-- What is answered: a variable and a value; two variables and a value. -/
theorem results_cell_tmp {P : Program} {fn : Func} {p q : Tmp} {ty : TypeId} (h : fn.results = #[.cell p ty, .tmp q]) (tmps : Array Value) (w : World) (b : Nat) (cs : List Value) (d : TypeDesc) {v : Value}
    (hp : tmps.getD p undef = .pointer (some ⟨b, 0, none⟩)) (hc : w.rangeAt b 0 cs) (hu : P.underlying ty = some d) (hd : d.isRow = true) (hi : (P.info? ty).map (·.size) = some cs.length) (hv : tmps.getD q undef = v) :
    (results fn tmps).run P w = .ok (.tuple #[.agg cs.toArray, v]) w := by
  have hp' : tmps[p]?.getD undef = .pointer (some ⟨b, 0, none⟩) := by simpa using hp
  have hv' : tmps[q]?.getD undef = v := by simpa using hv
  simp [results, h, hp', hv', asAddr, run_loadVar_mid w b 0 ty cs d hc hu hd hi]
theorem results_cell2_tmp {P : Program} {fn : Func} {p p2 q : Tmp} {ty : TypeId} (h : fn.results = #[.cell p ty, .cell p2 ty, .tmp q]) (tmps : Array Value) (w : World) (b b2 : Nat) (cs cs2 : List Value) (d : TypeDesc) {v : Value}
    (hp : tmps.getD p undef = .pointer (some ⟨b, 0, none⟩)) (hc : w.rangeAt b 0 cs) (hp2 : tmps.getD p2 undef = .pointer (some ⟨b2, 0, none⟩)) (hc2 : w.rangeAt b2 0 cs2) (hu : P.underlying ty = some d) (hd : d.isRow = true) (hi : (P.info? ty).map (·.size) = some cs.length) (hi2 : (P.info? ty).map (·.size) = some cs2.length) (hv : tmps.getD q undef = v) :
    (results fn tmps).run P w = .ok (.tuple #[.agg cs.toArray, .agg cs2.toArray, v]) w := by
  have hp' : tmps[p]?.getD undef = .pointer (some ⟨b, 0, none⟩) := by simpa using hp
  have hp2' : tmps[p2]?.getD undef = .pointer (some ⟨b2, 0, none⟩) := by simpa using hp2
  have hv' : tmps[q]?.getD undef = v := by simpa using hv
  simp [results, h, hp', hp2', hv', asAddr, run_loadVar_mid w b 0 ty cs d hc hu hd hi, run_loadVar_mid w b2 0 ty cs2 d hc2 hu hd hi2]
/-- Several orders meet again. -/
theorem meet4 {A B C D : Type} {G : Prop} {P : A → B → C → D → Prop} (main : (∀ a b c d, P a b c d) → G) (x : ∀ a b c d, P a b c d) : G := main x
theorem meet6 {A B C D E F : Type} {G : Prop} {P : A → B → C → D → E → F → Prop} (main : (∀ a b c d e f, P a b c d e f) → G) (x : ∀ a b c d e f, P a b c d e f) : G := main x
/-- A list's first n, the last one first. -/
def rv (F : Nat → Nat → Nat) : Nat → List (Nat → Nat)
  | 0 => []
  | n + 1 => F n :: rv F n
theorem HL.rangeA {w : World} {b o n : Nat} {F : Nat → Nat → Nat} (h : HL w (some ⟨b, o, none⟩) n F) {i : Nat} (hi : i < n) : w.rangeAt b (o + i * 32) (ab (F i) 32) := by
  rcases h.at_ with h5 | ⟨b', o', e, hr⟩
  · omega
  · cases e
    exact hr i hi
/-- A hash of noughts. -/
theorem hk0_build : Tryd.prog.built 23 [] = some (ab (fun _ => 0) 32).toArray := by kernel_rfl
theorem wpList_hk0 {w : World} {ops : Array Oper} {rest : List Oper} {op : Oper} {a : Act} {Q : Exit → Act → World → Prop} (hw : Region.wanted op (yielded ops a.tmps) = true) (ho : op.op = .build 23 #[])
    (h : wpList Tryd.prog ops Q rest (a.put op.dst (.agg (ab (fun _ => 0) 32).toArray)) w) : wpList Tryd.prog ops Q (op :: rest) a w :=
  wpList_buildC hw 23 _ ho _ (by simp only [List.map_toArray, List.map_nil]; exact hk0_build) h
theorem refSplit_big (w : World) {n : Nat} (hn : n < 9223372036854775808) : Calls Tryd.prog 24 #[.int .i64 (n : Int)] w fun e w' => e = .returned (.int .i64 (sp n : Int)) ∧ w' = w := by
  by_cases h : n < 2
  · have h' : (n : Int) < 2 := by omega
    rw [sp_small h]
    go_enter Tryd.func24, Tryd.ntmps24
    go_wp2_with fail
    go_ret
    exact ⟨rfl, rfl⟩
  · have h' : ¬ ((n : Int) < 2) := by omega
    go_enter Tryd.func24, Tryd.ntmps24
    go_wp2_with fail
    go_loopg [3] (n - 1) (fun g s wr => ∃ k j : Nat, g = n - k ∧ k = 2 ^ j ∧ k < n ∧ s = .int .i64 (k : Int) ∧ wr = w)
    case atStart => exact ⟨1, 0, rfl, rfl, by omega, rfl, rfl⟩
    case round =>
      obtain ⟨k, j, rfl, hk, hkn, rfl, rfl⟩ := hrel
      have hp := Nat.two_pow_pos j
      have hk1 : 1 ≤ k := by omega
      have hw1 : wrap64 ((n : Int) - (k : Int)) = (n : Int) - (k : Int) := by unfold wrap64; omega
      by_cases hl : 2 * k < n
      · have hc : (k : Int) < (n : Int) - (k : Int) := by omega
        have hw2 : wrap64 (2 * (k : Int)) = 2 * (k : Int) := by unfold wrap64; omega
        have HK := hide hk
        clear hk hp
        go_wp2_with fail
        go_roundg (n - 2 * k)
        case measure => omega
        case rel => exact ⟨2 * k, j + 1, rfl, by rw [HK.out, Nat.pow_succ]; omega, hl, by simp, rfl⟩
      · have hc : ¬ ((k : Int) < (n : Int) - (k : Int)) := by omega
        have hs : sp n = k := by rw [hk]; exact sp_of (by omega) (by omega)
        clear hk hp
        go_wp2_with fail
        go_ret
        exact ⟨rfl, rfl⟩
end Go.Proofs.YtkpkkjcfodjifaaDoor
namespace Go.Proofs.YtkpkkjcfodjifaaDoor
set_option maxRecDepth 100000
open Go.RowKit
attribute [local go_sem ↓] Go.wp_at_zero Go.wp_at_succ

/-- What is known of what Leads answers. -/
structure LdA (o : Option (Nat → Nat)) (f : Nat → Nat) (b : Bool) : Prop where
  lt : ∀ j, f j < 256
  b_ : b = o.isSome
  o_ : ∀ y, o = some y → f = y
theorem LdA.one {f : Nat → Nat} (hf : ∀ j, f j < 256) : LdA (some f) f true := ⟨hf, rfl, fun y e => by cases e; rfl⟩
theorem LdA.no {f : Nat → Nat} (hf : ∀ j, f j < 256) : LdA none f false := ⟨hf, rfl, fun y e => by cases e⟩
theorem LdA.map {o : Option (Nat → Nat)} {f : Nat → Nat} {b : Bool} (h : LdA o f b) (g : (Nat → Nat) → Nat → Nat) (hg : ∀ j, g f j < 256) : LdA (o.map g) (g f) b :=
  ⟨hg, by rw [h.b_]; cases o <;> rfl, fun y e => by
    cases o with
    | none => cases e
    | some x => cases e; rw [h.o_ x rfl]⟩
def LdP (w : World) (o : Option (Nat → Nat)) (e : Ending) (w' : World) : Prop := ∃ f b, e = .returned (.tuple #[hv f, .bool b]) ∧ LdA o f b ∧ Below w.heap.size w w'
theorem Vs.boxed {w X : World} {f : Nat → Nat} (hX : X = (w.alloc (.cells (ab f 32).toArray 23)).alloc (.cells (ab (fun _ => 0) 32).toArray 23)) : Vs w X [(w.heap.size + 1, fun _ => 0), (w.heap.size, f)] := by
  rw [hX]
  have h := ((Vs.nil w).made f).made (fun _ => 0)
  have e : ∀ o, (w.alloc o).heap.size = w.heap.size + 1 := fun o => by simp
  rw [e] at h
  exact h
set_option maxRecDepth 100000 in
set_option maxHeartbeats 8000000 in
theorem refLeads_any : ∀ (l : Nat) {w : World} {x : Option Addr} {n m c : Nat} {F : Nat → Nat → Nat} {f : Nat → Nat}, HL w x l F → l ≤ c → c ≤ maxLen → 1 ≤ n → n < 9223372036854775808 → m < n → (∀ j, f j < 256) → Calls Tryd.prog 18 #[.int .i64 (m : Int), .int .i64 (n : Int), hv f, .slice x l c] w (LdP w (ld n m f (rv F l))) := fun l => by
  induction l with
  | zero =>
    intro w x n m c F f hL hc hmx hn1 hn hm hf
    have HF := hide hf
    rw [show rv F 0 = [] from rfl]
    unfold hv
    by_cases h1 : n = 1
    · subst h1
      rw [ld_one m f [] (by omega)]
      show Calls _ _ _ _ (LdP w (some f))
      clear hL hc hmx hn1 hn hm hf
      go_enter Tryd.func18, Tryd.ntmps18
      go_upto_region 1 with fail
      refine wp_world (fun X hX => ?_)
      rw [zeros32] at hX
      have hv := Vs.boxed hX
      clear hX
      obtain ⟨b0, hb0⟩ : ∃ b0, w.heap.size = b0 := ⟨_, rfl⟩
      rw [hb0] at hv ⊢
      have HV := hide hv
      clear hv hb0
      go_wp2_with (first | (refine wpList_load_h rfl _ rfl rfl (HV.out.rg 1 rfl) ?_) | (refine HV.out.listPut 0 rfl rfl rfl rfl rfl (fun Z hz => ?_); have HZ := hide hz; clear hz))
      exact bodyPost_ret (results_cell_tmp Tryd.results18 _ _ (b0 + 1) (ab f 32) _ rfl (HZ.out.rg 0 rfl) Tryd.underlying23 rfl (ilH _) rfl) rfl ⟨f, true, rfl, LdA.one HF.out, HZ.out.k⟩
    · rw [ld_nil m f (by omega)]
      have hb1 : ((n : Int) == 1) = false := beq_eq_false_iff_ne.2 (by omega)
      clear hL hc hmx hn1 hn hm hf h1
      go_enter Tryd.func18, Tryd.ntmps18
      go_upto_region 1 with fail
      refine wp_world (fun X hX => ?_)
      rw [zeros32] at hX
      have hv := Vs.boxed hX
      clear hX
      obtain ⟨b0, hb0⟩ : ∃ b0, w.heap.size = b0 := ⟨_, rfl⟩
      rw [hb0] at hv ⊢
      have HV := hide hv
      clear hv hb0
      go_wp2_with (first | (refine wpList_hk0 rfl rfl ?_) | (refine HV.out.listPut 0 rfl rfl rfl rfl rfl (fun Z hz => ?_); have HZ := hide hz; clear hz))
      exact bodyPost_ret (results_cell_tmp Tryd.results18 _ _ (b0 + 1) (ab (fun _ => 0) 32) _ rfl (HZ.out.rg 0 rfl) Tryd.underlying23 rfl (ilH _) rfl) rfl ⟨(fun _ => 0), false, rfl, LdA.no (fun _ => by omega), HZ.out.k⟩
  | succ l ih =>
    intro w x n m c F f hL hc hmx hn1 hn hm hf
    have HF := hide hf
    rw [show rv F (l + 1) = F l :: rv F l from rfl]
    unfold hv
    obtain ⟨s, hs⟩ : ∃ s, l + 1 = s := ⟨_, rfl⟩
    rw [hs] at hL hc ⊢
    by_cases h1 : n = 1
    · subst h1
      rw [ld_one m f _ (by omega)]
      show Calls _ _ _ _ (LdP w none)
      have hb1 : ((s : Int) == 0) = false := beq_eq_false_iff_ne.2 (by omega)
      clear ih hL hc hmx hn1 hn hm hf hs
      go_enter Tryd.func18, Tryd.ntmps18
      go_upto_region 1 with fail
      refine wp_world (fun X hX => ?_)
      rw [zeros32] at hX
      have hv := Vs.boxed hX
      clear hX
      obtain ⟨b0, hb0⟩ : ∃ b0, w.heap.size = b0 := ⟨_, rfl⟩
      rw [hb0] at hv ⊢
      have HV := hide hv
      clear hv hb0
      go_wp2_with (first | (refine wpList_load_h rfl _ rfl rfl (HV.out.rg 1 rfl) ?_) | (refine HV.out.listPut 0 rfl rfl rfl rfl rfl (fun Z hz => ?_); have HZ := hide hz; clear hz))
      exact bodyPost_ret (results_cell_tmp Tryd.results18 _ _ (b0 + 1) (ab f 32) _ rfl (HZ.out.rg 0 rfl) Tryd.underlying23 rfl (ilH _) rfl) rfl ⟨f, false, rfl, LdA.no HF.out, HZ.out.k⟩
    · have hb1 : ((n : Int) == 1) = false := beq_eq_false_iff_ne.2 (by omega)
      have hb2 : ((s : Int) == 0) = false := beq_eq_false_iff_ne.2 (by omega)
      have k1 := sp_lt (n := n) (by omega)
      have k0 := sp_pos (n := n) (by omega)
      have HSp := hide (fun W => refSplit_big W (n := n) hn)
      obtain ⟨bz, oz, rfl⟩ := hL.ad (by omega)
      obtain ⟨t, ht⟩ : ∃ t, F l = t := ⟨_, rfl⟩
      have htl : ∀ j, t j < 256 := by rw [← ht]; exact hL.lt l
      have hRt : w.rangeAt bz (oz + l * 32) (ab t 32) := by rw [← ht]; exact hL.rangeA (by omega)
      rw [ht]
      have hws : wrap64 ((s : Int) - 1) = (l : Int) := by unfold wrap64; unfold maxLen at hmx; omega
      have hls : (l : Int) ≤ (s : Int) := by omega
      have hlc : (l : Int) ≤ (c : Int) := by omega
      have hlt : (l : Int) < (s : Int) := by omega
      have hc0 : ¬ (c = 0) := by omega
      have HR := hide hRt
      have HTl := hide htl
      by_cases hmk : m < sp n
      · rw [ld_low f t (rv F l) (by omega) hmk]
        obtain ⟨k, hk⟩ : ∃ k, sp n = k := ⟨_, rfl⟩
        rw [hk] at HSp k1 k0 hmk ⊢
        have hmI : (m : Int) < (k : Int) := by omega
        obtain ⟨O, hO⟩ : ∃ O, ld k m f (rv F l) = O := ⟨_, rfl⟩
        have hih := fun W (h : Below w.heap.size w W) => ih (w := W) (c := c) ((hL.keep h).head l (by omega)) (by omega) hmx (by omega) (by omega) hmk hf
        rw [hO] at hih ⊢
        have HIH := hide hih
        clear hih ih hL hc hmx hn1 hn hm hf hs h1 k1 k0 hk hmk hRt htl ht hO
        go_enter Tryd.func18, Tryd.ntmps18
        go_upto_region 1 with fail
        refine wp_world (fun X hX => ?_)
        rw [zeros32] at hX
        have hv := Vs.boxed hX
        clear hX
        obtain ⟨b0, hb0⟩ : ∃ b0, w.heap.size = b0 := ⟨_, rfl⟩
        rw [hb0] at hv ⊢
        have HV := hide hv
        clear hv hb0
        go_upto_region 8 with (go_at_call 24; with_reducible refine Calls.mono (HSp.out _) ?_; rintro e' w' ⟨rfl, hw⟩; replace hw := hw.symm; subst hw)
        have HVd := hide HV.out.drew
        apply meet4 (A := Nat → Nat) (B := Bool) (C := Nat) (D := World)
        · intro hcut
          refine wp_region_noPanic ?_
          refine wp_region_held_drew (S := Sv w [(b0, f)]) (by kernel_rfl) (HVd.out.sv (by simp)) (fun hS0 => ?_)
          refine wpAnyH_take (i := 0) (v := .int .i64 (m : Int)) rfl (by kernel_rfl) (by kernel_rfl) (by kernel_rfl) (fun _ _ _ h => h) (Or.inl ⟨by rfl, fun w' _ => by go_simp⟩) hS0 ?_
          simp only [Act.put, List.getElem_toArray, List.getElem_cons_zero, List.setIfInBounds_toArray, List.set_cons_zero, List.set_cons_succ]
          refine wpAnyH_take (i := 1) (v := .int .i64 (k : Int)) rfl (by kernel_rfl) (by kernel_rfl) (by kernel_rfl) (fun _ _ _ h => h) (Or.inl ⟨by rfl, fun w' _ => by go_simp⟩) hS0 ?_
          simp only [Act.put, List.getElem_toArray, List.getElem_cons_zero, List.getElem_cons_succ, List.setIfInBounds_toArray, List.set_cons_zero, List.set_cons_succ]
          refine wpAnyH_take (i := 2) (v := .agg (ab f 32).toArray) rfl (by kernel_rfl) (by kernel_rfl) (by kernel_rfl) (fun _ _ _ h => h) (yieldsIf_load_mid (by rfl) 23 _ rfl b0 0 (by rfl) (ab f 32) _ (fun w' hS => hS.rg 0 rfl) Tryd.underlying23 rfl (ilH _)) hS0 ?_
          simp only [Act.put, List.getElem_toArray, List.getElem_cons_zero, List.getElem_cons_succ, List.setIfInBounds_toArray, List.set_cons_zero, List.set_cons_succ]
          refine wpAnyH_take (i := 3) (v := .slice (some ⟨bz, oz, none⟩) s c) rfl (by kernel_rfl) (by kernel_rfl) (by kernel_rfl) (fun _ _ _ h => h) (Or.inl ⟨by rfl, fun w' _ => by go_simp⟩) hS0 ?_
          simp only [Act.put, List.getElem_toArray, List.getElem_cons_zero, List.getElem_cons_succ, List.setIfInBounds_toArray, List.set_cons_zero, List.set_cons_succ]
          refine wpAnyH_take (i := 4) (v := .int .i64 (l : Int)) rfl (by kernel_rfl) (by kernel_rfl) (by kernel_rfl) (fun _ _ _ h => h) (Or.inl ⟨by rfl, fun w' _ => by go_simp⟩) hS0 ?_
          simp only [Act.put, List.getElem_toArray, List.getElem_cons_zero, List.getElem_cons_succ, List.setIfInBounds_toArray, List.set_cons_zero, List.set_cons_succ]
          refine wpAnyH_take (i := 5) (v := .slice (some ⟨bz, oz, none⟩) l c) rfl (by kernel_rfl) (by kernel_rfl) (by kernel_rfl) (fun _ _ _ h => h) (Or.inl ⟨by rfl, fun w' _ => by go_simp⟩) hS0 ?_
          simp only [Act.put, List.getElem_toArray, List.getElem_cons_zero, List.getElem_cons_succ, List.setIfInBounds_toArray, List.set_cons_zero, List.set_cons_succ]
          refine wpAnyH_ready (rs := [6, 10]) (by kernel_rfl) (by simp) (AllReadyH.cons rfl (fun Kt hK => ?_) (AllReadyH.cons rfl (fun Kt hK => ?_) AllReadyH.nil))
          · refine wanted_pos rfl ?_
            refine wp_call (R := fun r w' => ∃ f1 t1, r = .tuple #[.agg (ab f1 32).toArray, .bool t1] ∧ LdA O f1 t1 ∧ Below w.heap.size w w' ∧ Vs w w' [(b0 + 1, (fun _ => 0)), (b0, f)]) (vs := #[.int .i64 (m : Int), .int .i64 (k : Int), .agg (ab f 32).toArray, .slice (some ⟨bz, oz, none⟩) l c]) rfl (by simp only [List.map_toArray, List.map_cons, List.map_nil]; rfl) (by go_simp) (Calls.mono (HIH.out _ HVd.out.k) (fun e w' hE => by
              obtain ⟨f1, t1, he, ha, hb⟩ := hE
              exact ⟨_, he, f1, t1, rfl, ha, Go.Proofs.YtkpkkjcfodjifaaDoor.K.call HVd.out.k hb, HVd.out.keep hb⟩)) (fun r W1 hr => ?_)
            obtain ⟨f1, t1, hr, ha, hb, hv⟩ := hr
            subst hr
            have HA := hide ha
            have HVdc := hide hv
            refine hK.out _ _ (HVdc.out.sv (by simp)) (fun hS1 => ?_)
            clear hK Kt hb ha hv
            simp only [Act.put, List.getElem_toArray, List.getElem_cons_zero, List.getElem_cons_succ, List.setIfInBounds_toArray, List.set_cons_zero, List.set_cons_succ]
            refine wpAnyH_take (i := 7) (v := .tuple #[.agg (ab f1 32).toArray, .bool t1]) rfl (by kernel_rfl) (by kernel_rfl) (by kernel_rfl) (fun _ _ _ h => h) (Or.inl ⟨by rfl, fun w' _ => by go_simp⟩) hS1 ?_
            simp only [Act.put, List.getElem_toArray, List.getElem_cons_zero, List.getElem_cons_succ, List.setIfInBounds_toArray, List.set_cons_zero, List.set_cons_succ]
            refine wpAnyH_take (i := 8) (v := .agg (ab f1 32).toArray) rfl (by kernel_rfl) (by kernel_rfl) (by kernel_rfl) (fun _ _ _ h => h) (Or.inl ⟨by rfl, fun w' _ => by go_simp⟩) hS1 ?_
            simp only [Act.put, List.getElem_toArray, List.getElem_cons_zero, List.getElem_cons_succ, List.setIfInBounds_toArray, List.set_cons_zero, List.set_cons_succ]
            refine wpAnyH_take (i := 9) (v := .bool t1) rfl (by kernel_rfl) (by kernel_rfl) (by kernel_rfl) (fun _ _ _ h => h) (Or.inl ⟨by rfl, fun w' _ => by go_simp⟩) hS1 ?_
            simp only [Act.put, List.getElem_toArray, List.getElem_cons_zero, List.getElem_cons_succ, List.setIfInBounds_toArray, List.set_cons_zero, List.set_cons_succ]
            refine wpAnyH_ready (rs := [10]) (by kernel_rfl) (by simp) (AllReadyH.cons rfl (fun Kt hK => ?_) AllReadyH.nil)
            refine wanted_pos rfl ?_
            refine HVdc.out.wpNew rfl (fun y W2 hv hb => ?_)
            have HVdcn := hide hv
            refine hK.out _ _ (HVdcn.out.sv (by simp)) (fun hS2 => ?_)
            clear hK Kt hv hb
            simp only [Act.put, List.getElem_toArray, List.getElem_cons_zero, List.getElem_cons_succ, List.setIfInBounds_toArray, List.set_cons_zero, List.set_cons_succ]
            refine wpAnyH_ready (rs := [11]) (by kernel_rfl) (by simp) (AllReadyH.cons rfl (fun Kt hK => ?_) AllReadyH.nil)
            refine wanted_pos rfl ?_
            refine HVdcn.out.wpPut 0 rfl (by rfl) (by rfl) rfl (fun W3 hv => ?_)
            have HVdcnp := hide hv
            refine hK.out _ _ (HVdcnp.out.sv (by simp)) (fun hS3 => ?_)
            clear hK Kt hv
            simp only [Act.put, List.getElem_toArray, List.getElem_cons_zero, List.getElem_cons_succ]
            refine wpAnyH_take (i := 12) (v := .bool t1) rfl (by kernel_rfl) (by kernel_rfl) (by kernel_rfl) (fun _ _ _ h => h) (Or.inl ⟨by rfl, fun w' _ => by go_simp⟩) hS3 ?_
            simp only [Act.put, List.getElem_toArray, List.getElem_cons_zero, List.getElem_cons_succ, List.setIfInBounds_toArray, List.set_cons_zero, List.set_cons_succ]
            refine wpAnyH_done (by kernel_rfl) ?_ _
            refine NoPanic.normal ?_
            have HVe : Hid (Vs w _ [(y, f1), (b0 + 1, (fun _ => 0)), (b0, f)]) := HVdcnp
            revert HA HVe
            exact hcut f1 t1 y W3
          · refine wanted_pos rfl ?_
            refine HVd.out.wpNew rfl (fun y W4 hv hb => ?_)
            have HVdn := hide hv
            refine hK.out _ _ (HVdn.out.sv (by simp)) (fun hS4 => ?_)
            clear hK Kt hv hb
            simp only [Act.put, List.getElem_toArray, List.getElem_cons_zero, List.getElem_cons_succ, List.setIfInBounds_toArray, List.set_cons_zero, List.set_cons_succ]
            refine wpAnyH_ready (rs := [6]) (by kernel_rfl) (by simp) (AllReadyH.cons rfl (fun Kt hK => ?_) AllReadyH.nil)
            refine wanted_pos rfl ?_
            refine wp_call (R := fun r w' => ∃ f1 t1, r = .tuple #[.agg (ab f1 32).toArray, .bool t1] ∧ LdA O f1 t1 ∧ Below w.heap.size w w' ∧ Vs w w' [(y, (fun _ => 0)), (b0 + 1, (fun _ => 0)), (b0, f)]) (vs := #[.int .i64 (m : Int), .int .i64 (k : Int), .agg (ab f 32).toArray, .slice (some ⟨bz, oz, none⟩) l c]) rfl (by simp only [List.map_toArray, List.map_cons, List.map_nil]; rfl) (by go_simp) (Calls.mono (HIH.out _ HVdn.out.k) (fun e w' hE => by
              obtain ⟨f1, t1, he, ha, hb⟩ := hE
              exact ⟨_, he, f1, t1, rfl, ha, Go.Proofs.YtkpkkjcfodjifaaDoor.K.call HVdn.out.k hb, HVdn.out.keep hb⟩)) (fun r W5 hr => ?_)
            obtain ⟨f1, t1, hr, ha, hb, hv⟩ := hr
            subst hr
            have HA := hide ha
            have HVdnc := hide hv
            refine hK.out _ _ (HVdnc.out.sv (by simp)) (fun hS5 => ?_)
            clear hK Kt hb ha hv
            simp only [Act.put, List.getElem_toArray, List.getElem_cons_zero, List.getElem_cons_succ, List.setIfInBounds_toArray, List.set_cons_zero, List.set_cons_succ]
            refine wpAnyH_take (i := 7) (v := .tuple #[.agg (ab f1 32).toArray, .bool t1]) rfl (by kernel_rfl) (by kernel_rfl) (by kernel_rfl) (fun _ _ _ h => h) (Or.inl ⟨by rfl, fun w' _ => by go_simp⟩) hS5 ?_
            simp only [Act.put, List.getElem_toArray, List.getElem_cons_zero, List.getElem_cons_succ, List.setIfInBounds_toArray, List.set_cons_zero, List.set_cons_succ]
            refine wpAnyH_take (i := 8) (v := .agg (ab f1 32).toArray) rfl (by kernel_rfl) (by kernel_rfl) (by kernel_rfl) (fun _ _ _ h => h) (Or.inl ⟨by rfl, fun w' _ => by go_simp⟩) hS5 ?_
            simp only [Act.put, List.getElem_toArray, List.getElem_cons_zero, List.getElem_cons_succ, List.setIfInBounds_toArray, List.set_cons_zero, List.set_cons_succ]
            refine wpAnyH_take (i := 9) (v := .bool t1) rfl (by kernel_rfl) (by kernel_rfl) (by kernel_rfl) (fun _ _ _ h => h) (Or.inl ⟨by rfl, fun w' _ => by go_simp⟩) hS5 ?_
            simp only [Act.put, List.getElem_toArray, List.getElem_cons_zero, List.getElem_cons_succ, List.setIfInBounds_toArray, List.set_cons_zero, List.set_cons_succ]
            refine wpAnyH_ready (rs := [11]) (by kernel_rfl) (by simp) (AllReadyH.cons rfl (fun Kt hK => ?_) AllReadyH.nil)
            refine wanted_pos rfl ?_
            refine HVdnc.out.wpPut 0 rfl (by rfl) (by rfl) rfl (fun W6 hv => ?_)
            have HVdncp := hide hv
            refine hK.out _ _ (HVdncp.out.sv (by simp)) (fun hS6 => ?_)
            clear hK Kt hv
            simp only [Act.put, List.getElem_toArray, List.getElem_cons_zero, List.getElem_cons_succ]
            refine wpAnyH_take (i := 12) (v := .bool t1) rfl (by kernel_rfl) (by kernel_rfl) (by kernel_rfl) (fun _ _ _ h => h) (Or.inl ⟨by rfl, fun w' _ => by go_simp⟩) hS6 ?_
            simp only [Act.put, List.getElem_toArray, List.getElem_cons_zero, List.getElem_cons_succ, List.setIfInBounds_toArray, List.set_cons_zero, List.set_cons_succ]
            refine wpAnyH_done (by kernel_rfl) ?_ _
            refine NoPanic.normal ?_
            have HVe : Hid (Vs w _ [(y, f1), (b0 + 1, (fun _ => 0)), (b0, f)]) := HVdncp
            revert HA HVe
            exact hcut f1 t1 y W6
        intro f1 t1 y Y HA HVy
        clear HV HVd HIH HSp
        have HNd := hide (fun W => refNode_any (w := W) HA.out.lt HTl.out)
        have HNl := hide (nd_lt f1 t)
        unfold hv at HNd
        obtain ⟨u, hu⟩ : ∃ u, nd f1 t = u := ⟨_, rfl⟩
        rw [hu] at HNd HNl
        have HM := hide (HA.out.map (fun y => nd y t) (by show ∀ j, nd f1 t j < 256; rw [hu]; exact HNl.out))
        rw [hu] at HM
        clear hu
        have HVd := hide HVy.out.drew
        go_upto_region 9 with fail
        refine wp_region_noPanic ?_
        refine wp_region_held_drew (S := Sv w [(y, f1)]) (by kernel_rfl) (HVd.out.sv (by simp)) (fun hS0 => ?_)
        refine wpAnyH_take (i := 0) (v := .agg (ab f1 32).toArray) rfl (by kernel_rfl) (by kernel_rfl) (by kernel_rfl) (fun _ _ _ h => h) (yieldsIf_load_mid (by rfl) 23 _ rfl y 0 (by rfl) (ab f1 32) _ (fun w' hS => hS.rg 0 rfl) Tryd.underlying23 rfl (ilH _)) hS0 ?_
        simp only [Act.put, List.getElem_toArray, List.getElem_cons_zero, List.setIfInBounds_toArray, List.set_cons_zero, List.set_cons_succ]
        refine wpAnyH_take (i := 1) (v := .slice (some ⟨bz, oz, none⟩) s c) rfl (by kernel_rfl) (by kernel_rfl) (by kernel_rfl) (fun _ _ _ h => h) (Or.inl ⟨by rfl, fun w' _ => by go_simp⟩) hS0 ?_
        simp only [Act.put, List.getElem_toArray, List.getElem_cons_zero, List.getElem_cons_succ, List.setIfInBounds_toArray, List.set_cons_zero, List.set_cons_succ]
        refine wpAnyH_take (i := 2) (v := .int .i64 (l : Int)) rfl (by kernel_rfl) (by kernel_rfl) (by kernel_rfl) (fun _ _ _ h => h) (Or.inl ⟨by rfl, fun w' _ => by go_simp⟩) hS0 ?_
        simp only [Act.put, List.getElem_toArray, List.getElem_cons_zero, List.getElem_cons_succ, List.setIfInBounds_toArray, List.set_cons_zero, List.set_cons_succ]
        refine wpAnyH_take (i := 3) (v := .pointer (some ⟨bz, oz + l * 32, none⟩)) rfl (by kernel_rfl) (by kernel_rfl) (by kernel_rfl) (fun _ _ _ h => h) (Or.inl ⟨by rfl, fun w' _ => by go_simp⟩) hS0 ?_
        simp only [Act.put, List.getElem_toArray, List.getElem_cons_zero, List.getElem_cons_succ, List.setIfInBounds_toArray, List.set_cons_zero, List.set_cons_succ]
        refine wpAnyH_take (i := 4) (v := .agg (ab t 32).toArray) rfl (by kernel_rfl) (by kernel_rfl) (by kernel_rfl) (fun _ _ _ h => h) (yieldsIf_load_mid (by rfl) 23 _ rfl bz (oz + l * 32) (by rfl) (ab t 32) _ (fun w' hS => range_keep HR.out hS.1) Tryd.underlying23 rfl (ilH _)) hS0 ?_
        simp only [Act.put, List.getElem_toArray, List.getElem_cons_zero, List.getElem_cons_succ, List.setIfInBounds_toArray, List.set_cons_zero, List.set_cons_succ]
        refine wpAnyH_take (i := 6) (v := .bool t1) rfl (by kernel_rfl) (by kernel_rfl) (by kernel_rfl) (fun _ _ _ h => h) (Or.inl ⟨by rfl, fun w' _ => by go_simp⟩) hS0 ?_
        simp only [Act.put, List.getElem_toArray, List.getElem_cons_zero, List.getElem_cons_succ, List.setIfInBounds_toArray, List.set_cons_zero, List.set_cons_succ]
        refine wpAnyH_ready (rs := [5]) (by kernel_rfl) (by simp) (AllReadyH.cons rfl (fun Kt hK => ?_) AllReadyH.nil)
        refine wanted_pos rfl ?_
        refine wp_call (R := fun r w' => r = .agg (ab u 32).toArray ∧ Vs w w' [(y, f1), (b0 + 1, (fun _ => 0)), (b0, f)]) (vs := #[.agg (ab f1 32).toArray, .agg (ab t 32).toArray]) rfl (by simp only [List.map_toArray, List.map_cons, List.map_nil]; rfl) (by go_simp) (Calls.mono (HNd.out _) (fun e w' ⟨he, hb⟩ => ⟨_, he, rfl, HVd.out.keep hb⟩)) (fun r W1 hr => ?_)
        obtain ⟨hr, hv⟩ := hr
        subst hr
        have HVdd := hide hv
        refine hK.out _ _ (HVdd.out.sv (by simp)) (fun hS1 => ?_)
        clear hK Kt hv
        simp only [Act.put, List.getElem_toArray, List.getElem_cons_zero, List.getElem_cons_succ, List.setIfInBounds_toArray, List.set_cons_zero, List.set_cons_succ]
        refine wpAnyH_ready (rs := [7]) (by kernel_rfl) (by simp) (AllReadyH.cons rfl (fun Kt hK => ?_) AllReadyH.nil)
        refine wanted_pos rfl ?_
        refine HVdd.out.wpPut 1 rfl (by rfl) (by rfl) rfl (fun W2 hv => ?_)
        have HVddp := hide hv
        refine hK.out _ _ (HVddp.out.sv (by simp)) (fun hS2 => ?_)
        clear hK Kt hv
        simp only [Act.put, List.getElem_toArray, List.getElem_cons_zero, List.getElem_cons_succ]
        refine wpAnyH_take (i := 8) (v := .bool t1) rfl (by kernel_rfl) (by kernel_rfl) (by kernel_rfl) (fun _ _ _ h => h) (Or.inl ⟨by rfl, fun w' _ => by go_simp⟩) hS2 ?_
        simp only [Act.put, List.getElem_toArray, List.getElem_cons_zero, List.getElem_cons_succ, List.setIfInBounds_toArray, List.set_cons_zero, List.set_cons_succ]
        refine wpAnyH_done (by kernel_rfl) ?_ _
        refine NoPanic.normal ?_
        go_wp2_with fail
        exact bodyPost_ret (results_cell_tmp Tryd.results18 _ _ (b0 + 1) (ab u 32) _ rfl (HVddp.out.rg 1 rfl) Tryd.underlying23 rfl (ilH _) rfl) rfl ⟨u, t1, rfl, HM.out, HVddp.out.k⟩
      · rw [ld_up f t (rv F l) (by omega) hmk]
        obtain ⟨k, hk⟩ : ∃ k, sp n = k := ⟨_, rfl⟩
        rw [hk] at HSp k1 k0 hmk ⊢
        have hmI : ¬ ((m : Int) < (k : Int)) := by omega
        obtain ⟨q, hq⟩ : ∃ q, m - k = q := ⟨_, rfl⟩
        obtain ⟨r, hr⟩ : ∃ r, n - k = r := ⟨_, rfl⟩
        have hwq : IntKind.i64.wrap ((m : Int) - (k : Int)) = (q : Int) := by rw [IntKind.wrap_i64]; omega
        have hwr : IntKind.i64.wrap ((n : Int) - (k : Int)) = (r : Int) := by rw [IntKind.wrap_i64]; omega
        rw [hq, hr]
        obtain ⟨O, hO⟩ : ∃ O, ld r q f (rv F l) = O := ⟨_, rfl⟩
        have hih := fun W (h : Below w.heap.size w W) => ih (w := W) (c := c) (n := r) (m := q) ((hL.keep h).head l (by omega)) (by omega) hmx (by omega) (by omega) (by omega) hf
        rw [hO] at hih ⊢
        have HIH := hide hih
        clear hih ih hL hc hmx hn1 hn hm hf hs h1 k1 k0 hk hmk hRt htl ht hO hq hr
        go_enter Tryd.func18, Tryd.ntmps18
        go_upto_region 1 with fail
        refine wp_world (fun X hX => ?_)
        rw [zeros32] at hX
        have hv := Vs.boxed hX
        clear hX
        obtain ⟨b0, hb0⟩ : ∃ b0, w.heap.size = b0 := ⟨_, rfl⟩
        rw [hb0] at hv ⊢
        have HV := hide hv
        clear hv hb0
        go_upto_region 10 with (go_at_call 24; with_reducible refine Calls.mono (HSp.out _) ?_; rintro e' w' ⟨rfl, hw⟩; replace hw := hw.symm; subst hw)
        have HVd := hide HV.out.drew
        apply meet4 (A := Nat → Nat) (B := Bool) (C := Nat) (D := World)
        · intro hcut
          refine wp_region_noPanic ?_
          refine wp_region_held_drew (S := Sv w [(b0, f)]) (by kernel_rfl) (HVd.out.sv (by simp)) (fun hS0 => ?_)
          refine wpAnyH_take (i := 0) (v := .int .i64 (m : Int)) rfl (by kernel_rfl) (by kernel_rfl) (by kernel_rfl) (fun _ _ _ h => h) (Or.inl ⟨by rfl, fun w' _ => by go_simp⟩) hS0 ?_
          simp only [Act.put, List.getElem_toArray, List.getElem_cons_zero, List.setIfInBounds_toArray, List.set_cons_zero, List.set_cons_succ]
          refine wpAnyH_take (i := 1) (v := .int .i64 (k : Int)) rfl (by kernel_rfl) (by kernel_rfl) (by kernel_rfl) (fun _ _ _ h => h) (Or.inl ⟨by rfl, fun w' _ => by go_simp⟩) hS0 ?_
          simp only [Act.put, List.getElem_toArray, List.getElem_cons_zero, List.getElem_cons_succ, List.setIfInBounds_toArray, List.set_cons_zero, List.set_cons_succ]
          refine wpAnyH_take (i := 2) (v := .int .i64 (q : Int)) rfl (by kernel_rfl) (by kernel_rfl) (by kernel_rfl) (fun _ _ _ h => h) (Or.inl ⟨by rfl, fun w' _ => by go_simp⟩) hS0 ?_
          simp only [Act.put, List.getElem_toArray, List.getElem_cons_zero, List.getElem_cons_succ, List.setIfInBounds_toArray, List.set_cons_zero, List.set_cons_succ]
          refine wpAnyH_take (i := 3) (v := .int .i64 (n : Int)) rfl (by kernel_rfl) (by kernel_rfl) (by kernel_rfl) (fun _ _ _ h => h) (Or.inl ⟨by rfl, fun w' _ => by go_simp⟩) hS0 ?_
          simp only [Act.put, List.getElem_toArray, List.getElem_cons_zero, List.getElem_cons_succ, List.setIfInBounds_toArray, List.set_cons_zero, List.set_cons_succ]
          refine wpAnyH_take (i := 4) (v := .int .i64 (k : Int)) rfl (by kernel_rfl) (by kernel_rfl) (by kernel_rfl) (fun _ _ _ h => h) (Or.inl ⟨by rfl, fun w' _ => by go_simp⟩) hS0 ?_
          simp only [Act.put, List.getElem_toArray, List.getElem_cons_zero, List.getElem_cons_succ, List.setIfInBounds_toArray, List.set_cons_zero, List.set_cons_succ]
          refine wpAnyH_take (i := 5) (v := .int .i64 (r : Int)) rfl (by kernel_rfl) (by kernel_rfl) (by kernel_rfl) (fun _ _ _ h => h) (Or.inl ⟨by rfl, fun w' _ => by go_simp⟩) hS0 ?_
          simp only [Act.put, List.getElem_toArray, List.getElem_cons_zero, List.getElem_cons_succ, List.setIfInBounds_toArray, List.set_cons_zero, List.set_cons_succ]
          refine wpAnyH_take (i := 6) (v := .agg (ab f 32).toArray) rfl (by kernel_rfl) (by kernel_rfl) (by kernel_rfl) (fun _ _ _ h => h) (yieldsIf_load_mid (by rfl) 23 _ rfl b0 0 (by rfl) (ab f 32) _ (fun w' hS => hS.rg 0 rfl) Tryd.underlying23 rfl (ilH _)) hS0 ?_
          simp only [Act.put, List.getElem_toArray, List.getElem_cons_zero, List.getElem_cons_succ, List.setIfInBounds_toArray, List.set_cons_zero, List.set_cons_succ]
          refine wpAnyH_take (i := 7) (v := .slice (some ⟨bz, oz, none⟩) s c) rfl (by kernel_rfl) (by kernel_rfl) (by kernel_rfl) (fun _ _ _ h => h) (Or.inl ⟨by rfl, fun w' _ => by go_simp⟩) hS0 ?_
          simp only [Act.put, List.getElem_toArray, List.getElem_cons_zero, List.getElem_cons_succ, List.setIfInBounds_toArray, List.set_cons_zero, List.set_cons_succ]
          refine wpAnyH_take (i := 8) (v := .int .i64 (l : Int)) rfl (by kernel_rfl) (by kernel_rfl) (by kernel_rfl) (fun _ _ _ h => h) (Or.inl ⟨by rfl, fun w' _ => by go_simp⟩) hS0 ?_
          simp only [Act.put, List.getElem_toArray, List.getElem_cons_zero, List.getElem_cons_succ, List.setIfInBounds_toArray, List.set_cons_zero, List.set_cons_succ]
          refine wpAnyH_take (i := 9) (v := .slice (some ⟨bz, oz, none⟩) l c) rfl (by kernel_rfl) (by kernel_rfl) (by kernel_rfl) (fun _ _ _ h => h) (Or.inl ⟨by rfl, fun w' _ => by go_simp⟩) hS0 ?_
          simp only [Act.put, List.getElem_toArray, List.getElem_cons_zero, List.getElem_cons_succ, List.setIfInBounds_toArray, List.set_cons_zero, List.set_cons_succ]
          refine wpAnyH_ready (rs := [10, 14]) (by kernel_rfl) (by simp) (AllReadyH.cons rfl (fun Kt hK => ?_) (AllReadyH.cons rfl (fun Kt hK => ?_) AllReadyH.nil))
          · refine wanted_pos rfl ?_
            refine wp_call (R := fun r w' => ∃ f1 t1, r = .tuple #[.agg (ab f1 32).toArray, .bool t1] ∧ LdA O f1 t1 ∧ Below w.heap.size w w' ∧ Vs w w' [(b0 + 1, (fun _ => 0)), (b0, f)]) (vs := #[.int .i64 (q : Int), .int .i64 (r : Int), .agg (ab f 32).toArray, .slice (some ⟨bz, oz, none⟩) l c]) rfl (by simp only [List.map_toArray, List.map_cons, List.map_nil]; rfl) (by go_simp) (Calls.mono (HIH.out _ HVd.out.k) (fun e w' hE => by
              obtain ⟨f1, t1, he, ha, hb⟩ := hE
              exact ⟨_, he, f1, t1, rfl, ha, Go.Proofs.YtkpkkjcfodjifaaDoor.K.call HVd.out.k hb, HVd.out.keep hb⟩)) (fun r W1 hr => ?_)
            obtain ⟨f1, t1, hr, ha, hb, hv⟩ := hr
            subst hr
            have HA := hide ha
            have HVdc := hide hv
            refine hK.out _ _ (HVdc.out.sv (by simp)) (fun hS1 => ?_)
            clear hK Kt hb ha hv
            simp only [Act.put, List.getElem_toArray, List.getElem_cons_zero, List.getElem_cons_succ, List.setIfInBounds_toArray, List.set_cons_zero, List.set_cons_succ]
            refine wpAnyH_take (i := 11) (v := .tuple #[.agg (ab f1 32).toArray, .bool t1]) rfl (by kernel_rfl) (by kernel_rfl) (by kernel_rfl) (fun _ _ _ h => h) (Or.inl ⟨by rfl, fun w' _ => by go_simp⟩) hS1 ?_
            simp only [Act.put, List.getElem_toArray, List.getElem_cons_zero, List.getElem_cons_succ, List.setIfInBounds_toArray, List.set_cons_zero, List.set_cons_succ]
            refine wpAnyH_take (i := 12) (v := .agg (ab f1 32).toArray) rfl (by kernel_rfl) (by kernel_rfl) (by kernel_rfl) (fun _ _ _ h => h) (Or.inl ⟨by rfl, fun w' _ => by go_simp⟩) hS1 ?_
            simp only [Act.put, List.getElem_toArray, List.getElem_cons_zero, List.getElem_cons_succ, List.setIfInBounds_toArray, List.set_cons_zero, List.set_cons_succ]
            refine wpAnyH_take (i := 13) (v := .bool t1) rfl (by kernel_rfl) (by kernel_rfl) (by kernel_rfl) (fun _ _ _ h => h) (Or.inl ⟨by rfl, fun w' _ => by go_simp⟩) hS1 ?_
            simp only [Act.put, List.getElem_toArray, List.getElem_cons_zero, List.getElem_cons_succ, List.setIfInBounds_toArray, List.set_cons_zero, List.set_cons_succ]
            refine wpAnyH_ready (rs := [14]) (by kernel_rfl) (by simp) (AllReadyH.cons rfl (fun Kt hK => ?_) AllReadyH.nil)
            refine wanted_pos rfl ?_
            refine HVdc.out.wpNew rfl (fun y W2 hv hb => ?_)
            have HVdcn := hide hv
            refine hK.out _ _ (HVdcn.out.sv (by simp)) (fun hS2 => ?_)
            clear hK Kt hv hb
            simp only [Act.put, List.getElem_toArray, List.getElem_cons_zero, List.getElem_cons_succ, List.setIfInBounds_toArray, List.set_cons_zero, List.set_cons_succ]
            refine wpAnyH_ready (rs := [15]) (by kernel_rfl) (by simp) (AllReadyH.cons rfl (fun Kt hK => ?_) AllReadyH.nil)
            refine wanted_pos rfl ?_
            refine HVdcn.out.wpPut 0 rfl (by rfl) (by rfl) rfl (fun W3 hv => ?_)
            have HVdcnp := hide hv
            refine hK.out _ _ (HVdcnp.out.sv (by simp)) (fun hS3 => ?_)
            clear hK Kt hv
            simp only [Act.put, List.getElem_toArray, List.getElem_cons_zero, List.getElem_cons_succ]
            refine wpAnyH_take (i := 16) (v := .bool t1) rfl (by kernel_rfl) (by kernel_rfl) (by kernel_rfl) (fun _ _ _ h => h) (Or.inl ⟨by rfl, fun w' _ => by go_simp⟩) hS3 ?_
            simp only [Act.put, List.getElem_toArray, List.getElem_cons_zero, List.getElem_cons_succ, List.setIfInBounds_toArray, List.set_cons_zero, List.set_cons_succ]
            refine wpAnyH_done (by kernel_rfl) ?_ _
            refine NoPanic.normal ?_
            have HVe : Hid (Vs w _ [(y, f1), (b0 + 1, (fun _ => 0)), (b0, f)]) := HVdcnp
            revert HA HVe
            exact hcut f1 t1 y W3
          · refine wanted_pos rfl ?_
            refine HVd.out.wpNew rfl (fun y W4 hv hb => ?_)
            have HVdn := hide hv
            refine hK.out _ _ (HVdn.out.sv (by simp)) (fun hS4 => ?_)
            clear hK Kt hv hb
            simp only [Act.put, List.getElem_toArray, List.getElem_cons_zero, List.getElem_cons_succ, List.setIfInBounds_toArray, List.set_cons_zero, List.set_cons_succ]
            refine wpAnyH_ready (rs := [10]) (by kernel_rfl) (by simp) (AllReadyH.cons rfl (fun Kt hK => ?_) AllReadyH.nil)
            refine wanted_pos rfl ?_
            refine wp_call (R := fun r w' => ∃ f1 t1, r = .tuple #[.agg (ab f1 32).toArray, .bool t1] ∧ LdA O f1 t1 ∧ Below w.heap.size w w' ∧ Vs w w' [(y, (fun _ => 0)), (b0 + 1, (fun _ => 0)), (b0, f)]) (vs := #[.int .i64 (q : Int), .int .i64 (r : Int), .agg (ab f 32).toArray, .slice (some ⟨bz, oz, none⟩) l c]) rfl (by simp only [List.map_toArray, List.map_cons, List.map_nil]; rfl) (by go_simp) (Calls.mono (HIH.out _ HVdn.out.k) (fun e w' hE => by
              obtain ⟨f1, t1, he, ha, hb⟩ := hE
              exact ⟨_, he, f1, t1, rfl, ha, Go.Proofs.YtkpkkjcfodjifaaDoor.K.call HVdn.out.k hb, HVdn.out.keep hb⟩)) (fun r W5 hr => ?_)
            obtain ⟨f1, t1, hr, ha, hb, hv⟩ := hr
            subst hr
            have HA := hide ha
            have HVdnc := hide hv
            refine hK.out _ _ (HVdnc.out.sv (by simp)) (fun hS5 => ?_)
            clear hK Kt hb ha hv
            simp only [Act.put, List.getElem_toArray, List.getElem_cons_zero, List.getElem_cons_succ, List.setIfInBounds_toArray, List.set_cons_zero, List.set_cons_succ]
            refine wpAnyH_take (i := 11) (v := .tuple #[.agg (ab f1 32).toArray, .bool t1]) rfl (by kernel_rfl) (by kernel_rfl) (by kernel_rfl) (fun _ _ _ h => h) (Or.inl ⟨by rfl, fun w' _ => by go_simp⟩) hS5 ?_
            simp only [Act.put, List.getElem_toArray, List.getElem_cons_zero, List.getElem_cons_succ, List.setIfInBounds_toArray, List.set_cons_zero, List.set_cons_succ]
            refine wpAnyH_take (i := 12) (v := .agg (ab f1 32).toArray) rfl (by kernel_rfl) (by kernel_rfl) (by kernel_rfl) (fun _ _ _ h => h) (Or.inl ⟨by rfl, fun w' _ => by go_simp⟩) hS5 ?_
            simp only [Act.put, List.getElem_toArray, List.getElem_cons_zero, List.getElem_cons_succ, List.setIfInBounds_toArray, List.set_cons_zero, List.set_cons_succ]
            refine wpAnyH_take (i := 13) (v := .bool t1) rfl (by kernel_rfl) (by kernel_rfl) (by kernel_rfl) (fun _ _ _ h => h) (Or.inl ⟨by rfl, fun w' _ => by go_simp⟩) hS5 ?_
            simp only [Act.put, List.getElem_toArray, List.getElem_cons_zero, List.getElem_cons_succ, List.setIfInBounds_toArray, List.set_cons_zero, List.set_cons_succ]
            refine wpAnyH_ready (rs := [15]) (by kernel_rfl) (by simp) (AllReadyH.cons rfl (fun Kt hK => ?_) AllReadyH.nil)
            refine wanted_pos rfl ?_
            refine HVdnc.out.wpPut 0 rfl (by rfl) (by rfl) rfl (fun W6 hv => ?_)
            have HVdncp := hide hv
            refine hK.out _ _ (HVdncp.out.sv (by simp)) (fun hS6 => ?_)
            clear hK Kt hv
            simp only [Act.put, List.getElem_toArray, List.getElem_cons_zero, List.getElem_cons_succ]
            refine wpAnyH_take (i := 16) (v := .bool t1) rfl (by kernel_rfl) (by kernel_rfl) (by kernel_rfl) (fun _ _ _ h => h) (Or.inl ⟨by rfl, fun w' _ => by go_simp⟩) hS6 ?_
            simp only [Act.put, List.getElem_toArray, List.getElem_cons_zero, List.getElem_cons_succ, List.setIfInBounds_toArray, List.set_cons_zero, List.set_cons_succ]
            refine wpAnyH_done (by kernel_rfl) ?_ _
            refine NoPanic.normal ?_
            have HVe : Hid (Vs w _ [(y, f1), (b0 + 1, (fun _ => 0)), (b0, f)]) := HVdncp
            revert HA HVe
            exact hcut f1 t1 y W6
        intro f1 t1 y Y HA HVy
        clear HV HVd HIH HSp
        have HNd := hide (fun W => refNode_any (w := W) HTl.out HA.out.lt)
        have HNl := hide (nd_lt t f1)
        unfold hv at HNd
        obtain ⟨u, hu⟩ : ∃ u, nd t f1 = u := ⟨_, rfl⟩
        rw [hu] at HNd HNl
        have HM := hide (HA.out.map (fun y => nd t y) (by show ∀ j, nd t f1 j < 256; rw [hu]; exact HNl.out))
        rw [hu] at HM
        clear hu
        have HVd := hide HVy.out.drew
        go_upto_region 11 with fail
        refine wp_region_noPanic ?_
        refine wp_region_held_drew (S := Sv w [(y, f1)]) (by kernel_rfl) (HVd.out.sv (by simp)) (fun hS0 => ?_)
        refine wpAnyH_take (i := 0) (v := .slice (some ⟨bz, oz, none⟩) s c) rfl (by kernel_rfl) (by kernel_rfl) (by kernel_rfl) (fun _ _ _ h => h) (Or.inl ⟨by rfl, fun w' _ => by go_simp⟩) hS0 ?_
        simp only [Act.put, List.getElem_toArray, List.getElem_cons_zero, List.setIfInBounds_toArray, List.set_cons_zero, List.set_cons_succ]
        refine wpAnyH_take (i := 1) (v := .int .i64 (l : Int)) rfl (by kernel_rfl) (by kernel_rfl) (by kernel_rfl) (fun _ _ _ h => h) (Or.inl ⟨by rfl, fun w' _ => by go_simp⟩) hS0 ?_
        simp only [Act.put, List.getElem_toArray, List.getElem_cons_zero, List.getElem_cons_succ, List.setIfInBounds_toArray, List.set_cons_zero, List.set_cons_succ]
        refine wpAnyH_take (i := 2) (v := .pointer (some ⟨bz, oz + l * 32, none⟩)) rfl (by kernel_rfl) (by kernel_rfl) (by kernel_rfl) (fun _ _ _ h => h) (Or.inl ⟨by rfl, fun w' _ => by go_simp⟩) hS0 ?_
        simp only [Act.put, List.getElem_toArray, List.getElem_cons_zero, List.getElem_cons_succ, List.setIfInBounds_toArray, List.set_cons_zero, List.set_cons_succ]
        refine wpAnyH_take (i := 3) (v := .agg (ab t 32).toArray) rfl (by kernel_rfl) (by kernel_rfl) (by kernel_rfl) (fun _ _ _ h => h) (yieldsIf_load_mid (by rfl) 23 _ rfl bz (oz + l * 32) (by rfl) (ab t 32) _ (fun w' hS => range_keep HR.out hS.1) Tryd.underlying23 rfl (ilH _)) hS0 ?_
        simp only [Act.put, List.getElem_toArray, List.getElem_cons_zero, List.getElem_cons_succ, List.setIfInBounds_toArray, List.set_cons_zero, List.set_cons_succ]
        refine wpAnyH_take (i := 4) (v := .agg (ab f1 32).toArray) rfl (by kernel_rfl) (by kernel_rfl) (by kernel_rfl) (fun _ _ _ h => h) (yieldsIf_load_mid (by rfl) 23 _ rfl y 0 (by rfl) (ab f1 32) _ (fun w' hS => hS.rg 0 rfl) Tryd.underlying23 rfl (ilH _)) hS0 ?_
        simp only [Act.put, List.getElem_toArray, List.getElem_cons_zero, List.getElem_cons_succ, List.setIfInBounds_toArray, List.set_cons_zero, List.set_cons_succ]
        refine wpAnyH_take (i := 6) (v := .bool t1) rfl (by kernel_rfl) (by kernel_rfl) (by kernel_rfl) (fun _ _ _ h => h) (Or.inl ⟨by rfl, fun w' _ => by go_simp⟩) hS0 ?_
        simp only [Act.put, List.getElem_toArray, List.getElem_cons_zero, List.getElem_cons_succ, List.setIfInBounds_toArray, List.set_cons_zero, List.set_cons_succ]
        refine wpAnyH_ready (rs := [5]) (by kernel_rfl) (by simp) (AllReadyH.cons rfl (fun Kt hK => ?_) AllReadyH.nil)
        refine wanted_pos rfl ?_
        refine wp_call (R := fun r w' => r = .agg (ab u 32).toArray ∧ Vs w w' [(y, f1), (b0 + 1, (fun _ => 0)), (b0, f)]) (vs := #[.agg (ab t 32).toArray, .agg (ab f1 32).toArray]) rfl (by simp only [List.map_toArray, List.map_cons, List.map_nil]; rfl) (by go_simp) (Calls.mono (HNd.out _) (fun e w' ⟨he, hb⟩ => ⟨_, he, rfl, HVd.out.keep hb⟩)) (fun r W1 hr => ?_)
        obtain ⟨hr, hv⟩ := hr
        subst hr
        have HVdd := hide hv
        refine hK.out _ _ (HVdd.out.sv (by simp)) (fun hS1 => ?_)
        clear hK Kt hv
        simp only [Act.put, List.getElem_toArray, List.getElem_cons_zero, List.getElem_cons_succ, List.setIfInBounds_toArray, List.set_cons_zero, List.set_cons_succ]
        refine wpAnyH_ready (rs := [7]) (by kernel_rfl) (by simp) (AllReadyH.cons rfl (fun Kt hK => ?_) AllReadyH.nil)
        refine wanted_pos rfl ?_
        refine HVdd.out.wpPut 1 rfl (by rfl) (by rfl) rfl (fun W2 hv => ?_)
        have HVddp := hide hv
        refine hK.out _ _ (HVddp.out.sv (by simp)) (fun hS2 => ?_)
        clear hK Kt hv
        simp only [Act.put, List.getElem_toArray, List.getElem_cons_zero, List.getElem_cons_succ]
        refine wpAnyH_take (i := 8) (v := .bool t1) rfl (by kernel_rfl) (by kernel_rfl) (by kernel_rfl) (fun _ _ _ h => h) (Or.inl ⟨by rfl, fun w' _ => by go_simp⟩) hS2 ?_
        simp only [Act.put, List.getElem_toArray, List.getElem_cons_zero, List.getElem_cons_succ, List.setIfInBounds_toArray, List.set_cons_zero, List.set_cons_succ]
        refine wpAnyH_done (by kernel_rfl) ?_ _
        refine NoPanic.normal ?_
        go_wp2_with fail
        exact bodyPost_ret (results_cell_tmp Tryd.results18 _ _ (b0 + 1) (ab u 32) _ rfl (HVddp.out.rg 1 rfl) Tryd.underlying23 rfl (ilH _) rfl) rfl ⟨u, t1, rfl, HM.out, HVddp.out.k⟩
end Go.Proofs.YtkpkkjcfodjifaaDoor
