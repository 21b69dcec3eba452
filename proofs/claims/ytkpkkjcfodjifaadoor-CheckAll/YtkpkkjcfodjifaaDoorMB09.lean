/- Layer 19: a proof from the bottom up is the proof from the top down (no function of the program is named). Layer 19: hashes in variables of one's own; a list told from its last one on. Layer 19: the document's own Leads. -/
import Derived.Test.YtkpkkjcfodjifaaDoorMB08
namespace Go.Proofs.YtkpkkjcfodjifaaDoor
set_option maxRecDepth 100000
open Go.RowKit

theorem odd_pow {o j a : Nat} (ho : o % 2 = 1) (h : o * 2 ^ j = 2 ^ a) (hja : j ≤ a) : o = 1 := by
  rw [pow_split hja] at h
  have h1 : o = 2 ^ (a - j) := Nat.eq_of_mul_eq_mul_right (Nat.two_pow_pos j) h
  rcases hd : a - j with _ | d
  · rw [h1, hd, Nat.pow_zero]
  · rw [h1, hd, Nat.pow_succ] at ho
    omega
theorem pow_lt_j {j a : Nat} (h : 2 ^ j ≤ 2 ^ a) : j ≤ a := (Nat.pow_le_pow_iff_right (by decide)).1 h
theorem tw_one (w : Bool) (x : Nat → Nat) (p : List (Nat → Nat)) (n m : Nat) (h : n ≤ m ∨ n < 2) : tw n m w x p.reverse = beg (w && decide (1 = 1)) x p (fun y p => lvG pA pB 1 0 (y, y) p) := by
  rw [tw_end w x _ h]
  cases w
  · show (match p.reverse with | [y] => some (y, y) | _ => none) = (match p with | [] => none | y :: p => lvG pA pB 1 0 (y, y) p)
    cases p with
    | nil => rfl
    | cons y p =>
      show _ = lvG pA pB 1 0 (y, y) p
      rw [lvG_one pA pB 0 (y, y) p (by omega)]
      rcases List.eq_nil_or_concat p with rfl | ⟨r, t, rfl⟩
      · rfl
      · rw [List.concat_eq_append, ← List.cons_append, List.reverse_append]
        cases hr : (y :: r).reverse with
        | nil =>
          have := congrArg List.length hr
          rw [List.length_reverse] at this
          cases this
        | cons z l =>
          cases r <;> rfl
  · show (match p.reverse with | [] => some (x, x) | _ :: _ => none) = lvG pA pB 1 0 (x, x) p
    rw [lvG_one pA pB 0 (x, x) p (by omega)]
    rcases List.eq_nil_or_concat p with rfl | ⟨r, t, rfl⟩
    · rfl
    · rw [List.concat_eq_append, List.reverse_append]
      cases r <;> rfl
/-- Both are the same: of the first m = o 2^j, o odd, of n. -/
theorem tw_bu : ∀ (n j o : Nat) (w : Bool) (x : Nat → Nat) (p : List (Nat → Nat)), o % 2 = 1 → (o * 2 ^ j < n ∨ (o = 1 ∧ n = 2 ^ j)) → tw n (o * 2 ^ j) w x p.reverse = bu n j o w x p := fun n => by
  induction n using Nat.strongRecOn with
  | ind n ih =>
    intro j o w x p ho hm
    have hP := Nat.two_pow_pos j
    by_cases hn : o * 2 ^ j < n
    · have hoP : 2 ^ j ≤ o * 2 ^ j := Nat.le_mul_of_pos_left _ (by omega)
      have h1 := sp_lt (n := n) (by omega)
      have h0 := sp_pos (n := n) (by omega)
      have h3 := sp_le (n := n) (by omega)
      have hpw := sp_pow (n := n) (by omega)
      obtain ⟨a, ha⟩ : ∃ a, (n - 1).log2 = a := ⟨_, rfl⟩
      rw [ha] at hpw
      obtain ⟨s, hs⟩ : ∃ s, n = 2 ^ a + s := ⟨n - 2 ^ a, by omega⟩
      have hne : ¬ (n ≤ o * 2 ^ j ∨ n < 2) := by omega
      by_cases hk : o * 2 ^ j ≤ sp n
      · have hja : j ≤ a := pow_lt_j (by omega)
        have hsp := pow_split hja
        have ho2 : o ≤ 2 ^ (a - j) := Nat.le_of_mul_le_mul_right (c := 2 ^ j) (by rw [← hsp, ← hpw]; exact hk) hP
        have hC : (n + 2 ^ j - 1) / 2 ^ j = 2 ^ (a - j) + (s + 2 ^ j - 1) / 2 ^ j := by rw [hs, hsp, ceil_add _ s _ hP]
        have hC2 : (sp n + 2 ^ j - 1) / 2 ^ j = 2 ^ (a - j) := by rw [hpw, hsp, ceil_mul _ _ hP]
        have hb : bu n j o w x p = topG p (fun p => bu (sp n) j o w x p) pB := by
          unfold bu
          have hf : (fun (y : Nat → Nat) (p : List (Nat → Nat)) => lvG pA pB ((n + 2 ^ j - 1) / 2 ^ j) (o - 1) (y, y) p) = fun y p => topG p (fun p => lvG pA pB ((sp n + 2 ^ j - 1) / 2 ^ j) (o - 1) (y, y) p) pB := by
            funext y p
            rw [hC, hC2]
            exact lvG_left pA pB (a - j) _ (o - 1) (y, y) p (by omega) (ceil_pos (by omega) hP) (ceil_le (by rw [← hsp]; omega) hP)
          rw [hf]
          exact beg_top _ x p (fun y p => lvG pA pB ((sp n + 2 ^ j - 1) / 2 ^ j) (o - 1) (y, y) p) pB
        rw [hb]
        have hIH : o * 2 ^ j < sp n ∨ (o = 1 ∧ sp n = 2 ^ j) := by
          by_cases he : o * 2 ^ j < sp n
          · exact Or.inl he
          · have he2 : o * 2 ^ j = 2 ^ a := by omega
            have ho1 := odd_pow ho he2 hja
            rw [ho1, Nat.one_mul] at he2
            exact Or.inr ⟨ho1, by omega⟩
        rcases List.eq_nil_or_concat p with rfl | ⟨r, t, rfl⟩
        · rw [topG_nil]
          exact tw_nil w x hne
        · rw [List.concat_eq_append, topG_snoc, List.reverse_append]
          show tw n (o * 2 ^ j) w x (t :: r.reverse) = _
          rw [tw_low w x t _ hne hk, ih (sp n) h1 j o w x r ho hIH]
      · have hja : j < a := by
          rcases Nat.lt_or_ge j a with h | h
          · exact h
          · have h4 : 2 ^ a ≤ 2 ^ j := Nat.pow_le_pow_right (by decide) h
            have h5 : 3 * 2 ^ j ≤ o * 2 ^ j ∨ o = 1 := by
              by_cases e : o = 1
              · exact Or.inr e
              · exact Or.inl (Nat.mul_le_mul_right _ (by omega))
            rcases h5 with h5 | h5
            · omega
            · rw [h5, Nat.one_mul] at hk hn
              have h6 : j ≤ a + 1 := by
                rcases Nat.lt_or_ge (a + 1) j with h7 | h7
                · have := Nat.pow_le_pow_right (n := 2) (by decide) h7
                  rw [Nat.pow_succ, Nat.pow_succ] at this
                  omega
                · omega
              rcases (show j = a ∨ j = a + 1 by omega) with h7 | h7
              · rw [h7] at hk; omega
              · rw [h7, Nat.pow_succ] at hn; omega
        have hsp := pow_split (Nat.le_of_lt hja)
        obtain ⟨d, hd⟩ : ∃ d, a - j = d + 1 := ⟨a - j - 1, by omega⟩
        have he : 2 ^ (a - j) = 2 * 2 ^ d := by rw [hd, Nat.pow_succ, Nat.mul_comm]
        have hdp := Nat.two_pow_pos d
        have ho2 : 2 ^ (a - j) < o := by
          refine Nat.lt_of_mul_lt_mul_right (a := 2 ^ j) ?_
          rw [← hsp]
          omega
        obtain ⟨u, hu⟩ : ∃ u, o = 2 ^ (a - j) + u := ⟨o - 2 ^ (a - j), by omega⟩
        have hmu : o * 2 ^ j = 2 ^ a + u * 2 ^ j := by rw [hu, Nat.add_mul, ← hsp]
        have hu1 : u % 2 = 1 := by omega
        have hus : u * 2 ^ j < s := by omega
        have hC : (n + 2 ^ j - 1) / 2 ^ j = 2 ^ (a - j) + (s + 2 ^ j - 1) / 2 ^ j := by rw [hs, hsp, ceil_add _ s _ hP]
        have hsr : (s + 2 ^ j - 1) / 2 ^ j ≤ 2 ^ (a - j) := ceil_le (by rw [← hsp]; omega) hP
        have hur : u < (s + 2 ^ j - 1) / 2 ^ j := ceil_gt hus hP
        have hns : n - sp n = s := by omega
        have hb : bu n j o w x p = topG p (fun p => bu s j u false x p) pA := by
          unfold bu
          have hw : (w && decide (o = 1)) = false := by
            rw [decide_eq_false (by omega), Bool.and_false]
          rw [hw, Bool.false_and]
          have hf : (fun (y : Nat → Nat) (p : List (Nat → Nat)) => lvG pA pB ((n + 2 ^ j - 1) / 2 ^ j) (o - 1) (y, y) p) = fun y p => topG p (fun p => lvG pA pB ((s + 2 ^ j - 1) / 2 ^ j) (u - 1) (y, y) p) pA := by
            funext y p
            rw [hC, show o - 1 = 2 ^ (a - j) + (u - 1) by omega]
            exact lvG_right pA pB (a - j) _ (u - 1) (y, y) p (by omega) hsr
          rw [hf]
          exact beg_top _ x p (fun y p => lvG pA pB ((s + 2 ^ j - 1) / 2 ^ j) (u - 1) (y, y) p) pA
        rw [hb]
        rcases List.eq_nil_or_concat p with rfl | ⟨r, t, rfl⟩
        · rw [topG_nil]
          exact tw_nil w x hne
        · rw [List.concat_eq_append, topG_snoc, List.reverse_append]
          show tw n (o * 2 ^ j) w x (t :: r.reverse) = _
          rw [tw_up w x t _ hne hk, hns, show o * 2 ^ j - sp n = u * 2 ^ j by omega, ih s (by omega) j u false x r hu1 (Or.inl hus)]
    · obtain ⟨rfl, hn2⟩ := hm.resolve_left hn
      have hC : (n + 2 ^ j - 1) / 2 ^ j = 1 := by
        have := ceil_mul 1 (2 ^ j) hP
        rw [Nat.one_mul] at this
        rw [hn2]
        exact this
      unfold bu
      rw [hC]
      exact tw_one w x p n _ (Or.inl (by rw [Nat.one_mul]; omega))
end Go.Proofs.YtkpkkjcfodjifaaDoor
namespace Go.Proofs.YtkpkkjcfodjifaaDoor
set_option maxRecDepth 100000
open Go.RowKit
attribute [local go_sem ↓] Go.wp_at_zero Go.wp_at_succ

/-- Variables of one's own, made since w0, and the hashes in them. -/
structure Vs (w0 W : World) (L : List (Nat × (Nat → Nat))) : Prop where
  k : Below w0.heap.size w0 W
  at_ : ∀ p ∈ L, w0.heap.size ≤ p.1 ∧ RowB W p.1 32 p.2
  dn : (L.map Prod.fst).Nodup
theorem Vs.nil (w : World) : Vs w w [] := ⟨Below.refl _ _, (fun _ h => by cases h), List.nodup_nil⟩
theorem Vs.keep {w0 W W' : World} {L : List (Nat × (Nat → Nat))} (h : Vs w0 W L) (hb : Below W.heap.size W W') : Vs w0 W' L :=
  ⟨Go.Proofs.YtkpkkjcfodjifaaDoor.K.call h.k hb, fun p hp => ⟨(h.at_ p hp).1, Row8.keep (h.at_ p hp).2 hb⟩, h.dn⟩
theorem Vs.made {w0 W : World} {L : List (Nat × (Nat → Nat))} (h : Vs w0 W L) (f : Nat → Nat) : Vs w0 (W.alloc (.cells (ab f 32).toArray 23)) ((W.heap.size, f) :: L) := by
  have hb : Below W.heap.size W (W.alloc (.cells (ab f 32).toArray 23)) := Go.Proofs.YtkpkkjcfodjifaaDoor.K.alloc (Below.refl _ _) _
  refine ⟨Go.Proofs.YtkpkkjcfodjifaaDoor.K.alloc h.k _, fun p hp => ?_, ?_⟩
  · rcases List.mem_cons.1 hp with rfl | hp
    · exact ⟨h.k.size, RowB.made W 23 32 f _ rfl⟩
    · exact ⟨(h.at_ p hp).1, Row8.keep (h.at_ p hp).2 hb⟩
  · rw [List.map_cons]
    refine List.nodup_cons.2 ⟨fun hm => ?_, h.dn⟩
    obtain ⟨p, hp, e⟩ := List.mem_map.1 hm
    have hl := (h.at_ p hp).2.lt
    rw [e] at hl
    exact Nat.lt_irrefl _ hl
theorem Vs.put {w0 W : World} {L : List (Nat × (Nat → Nat))} (h : Vs w0 W L) {i b : Nat} {f : Nat → Nat} (hi : L[i]? = some (b, f)) (g : Nat → Nat) : Vs w0 (W.setCells b 0 (ab g 32).toArray.toList) (L.set i (b, g)) := by
  have hm := h.at_ (b, f) (List.mem_of_getElem? hi)
  have hil : i < L.length := (List.getElem?_eq_some_iff.1 hi).1
  have hb : (L.map Prod.fst)[i]? = some b := by rw [List.getElem?_map, hi]; rfl
  refine ⟨below_setCells _ _ h.k hm.1, fun p hp => ?_, ?_⟩
  · obtain ⟨j, hj⟩ := List.mem_iff_getElem?.1 hp
    rw [List.getElem?_set] at hj
    by_cases hij : i = j
    · rw [if_pos hij, if_pos hil] at hj
      cases hj
      exact ⟨hm.1, RowB.stored hm.2 g⟩
    · rw [if_neg hij] at hj
      have hp2 := h.at_ p (List.mem_of_getElem? hj)
      refine ⟨hp2.1, Row8.apart hp2.2 (fun e => hij ?_) _ _⟩
      refine (List.getElem?_inj (l := L.map Prod.fst) (by rw [List.length_map]; exact hil) h.dn).1 ?_
      rw [hb, List.getElem?_map, hj, ← e]
      rfl
  · have e : (L.set i (b, g)).map Prod.fst = L.map Prod.fst := by
      refine List.ext_getElem? fun j => ?_
      rw [List.getElem?_map, List.getElem?_map, List.getElem?_set]
      by_cases hij : i = j
      · rw [if_pos hij, if_pos hil, ← hij, hi]
        rfl
      · rw [if_neg hij]
    rw [e]
    exact h.dn
theorem Vs.rg {w0 W : World} {L : List (Nat × (Nat → Nat))} (h : Vs w0 W L) (i : Nat) {b : Nat} {f : Nat → Nat} (hi : L[i]? = some (b, f)) : W.rangeAt b 0 (ab f 32) := RowB.range (h.at_ (b, f) (List.mem_of_getElem? hi)).2
theorem Vs.drew {w0 W : World} {L : List (Nat × (Nat → Nat))} (h : Vs w0 W L) : Vs w0 W.drew L := h.keep (Go.Proofs.YtkpkkjcfodjifaaDoor.K.drew (Below.refl _ W))
/-- What a region that draws its order may read. -/
def Sv (w0 : World) (R : List (Nat × (Nat → Nat))) (W : World) : Prop := Below w0.heap.size w0 W ∧ ∀ p ∈ R, W.rangeAt p.1 0 (ab p.2 32)
theorem Vs.sv {w0 W : World} {L R : List (Nat × (Nat → Nat))} (h : Vs w0 W L) (hR : ∀ p ∈ R, p ∈ L) : Sv w0 R W := ⟨h.k, fun p hp => RowB.range (h.at_ p (hR p hp)).2⟩
theorem Sv.rg {w0 W : World} {R : List (Nat × (Nat → Nat))} (h : Sv w0 R W) (i : Nat) {b : Nat} {f : Nat → Nat} (hi : R[i]? = some (b, f)) : W.rangeAt b 0 (ab f 32) := h.2 (b, f) (List.mem_of_getElem? hi)
section
variable {w0 W : World} {L : List (Nat × (Nat → Nat))} {op : Oper} {a : Act} {Kt : Act → World → Prop} {Q : Exit → Act → World → Prop} {ops : Array Oper} {rest : List Oper}
theorem run_allocH (hop : op.op = Op.alloc 23) : (execOp a.eval op).run Tryd.prog W = .ok (.value (.pointer (some ⟨W.heap.size, 0, none⟩))) (W.alloc (.cells (ab (fun _ => 0) 32).toArray 23)) := by
  unfold execOp
  simp [hop, Instr.alloc, newVar, newRow, Result.andThen, Value.cells]
  rfl
theorem Vs.wpNew (hv : Vs w0 W L) (hop : op.op = Op.alloc 23) (h : ∀ y W', Vs w0 W' ((y, fun _ => 0) :: L) → Below W.heap.size W W' → Kt (a.put op.dst (.pointer (some ⟨y, 0, none⟩))) W') : Oper.wp Tryd.prog op a W Kt Q := by
  unfold Oper.wp
  rw [run_allocH hop]
  exact h _ _ (hv.made _) (Go.Proofs.YtkpkkjcfodjifaaDoor.K.alloc (Below.refl _ _) _)
theorem Vs.listNew (hv : Vs w0 W L) (hgd : op.guard = none) (hop : op.op = Op.alloc 23) (h : ∀ y W', Vs w0 W' ((y, fun _ => 0) :: L) → Below W.heap.size W W' → wpList Tryd.prog ops Q rest (a.put op.dst (.pointer (some ⟨y, 0, none⟩))) W') : wpList Tryd.prog ops Q (op :: rest) a W :=
  wpList_plain hgd fun _ hK => hv.wpNew hop fun y W' h1 h2 => hK _ _ (h y W' h1 h2)
theorem Vs.wpPut (hv : Vs w0 W L) (i : Nat) {x y : Operand} {b : Nat} {f g : Nat → Nat} (hop : op.op = Op.store 23 x y) (hx : a.eval x = .pointer (some ⟨b, 0, none⟩)) (hy : a.eval y = .agg (ab g 32).toArray) (hi : L[i]? = some (b, f)) (h : ∀ W', Vs w0 W' (L.set i (b, g)) → Kt (a.put op.dst undef) W') : Oper.wp Tryd.prog op a W Kt Q :=
  wp_store_mid 23 x y hop b 0 (ab g 32).toArray hx hy ((hv.at_ (b, f) (List.mem_of_getElem? hi)).2.there g) (inH _) (all_oneCell_toArray (ab_one _ _)) (h _ (hv.put hi g))
theorem Vs.listPut (hv : Vs w0 W L) (i : Nat) {x y : Operand} {b : Nat} {f g : Nat → Nat} (hgd : op.guard = none) (hop : op.op = Op.store 23 x y) (hx : a.eval x = .pointer (some ⟨b, 0, none⟩)) (hy : a.eval y = .agg (ab g 32).toArray) (hi : L[i]? = some (b, f)) (h : ∀ W', Vs w0 W' (L.set i (b, g)) → wpList Tryd.prog ops Q rest (a.put op.dst undef) W') : wpList Tryd.prog ops Q (op :: rest) a W :=
  wpList_plain hgd fun _ hK => hv.wpPut i hop hx hy hi fun W' h1 => hK _ _ (h W' h1)
end
theorem results_cell2_tmp {P : Program} {fn : Func} {p p2 q : Tmp} {ty : TypeId} (h : fn.results = #[.cell p ty, .cell p2 ty, .tmp q]) (tmps : Array Value) (w : World) (b b2 : Nat) (cs cs2 : List Value) (d : TypeDesc) {v : Value}
    (hp : tmps.getD p undef = .pointer (some ⟨b, 0, none⟩)) (hc : w.rangeAt b 0 cs) (hp2 : tmps.getD p2 undef = .pointer (some ⟨b2, 0, none⟩)) (hc2 : w.rangeAt b2 0 cs2) (hu : P.underlying ty = some d) (hd : d.isRow = true) (hi : (P.info? ty).map (·.size) = some cs.length) (hi2 : (P.info? ty).map (·.size) = some cs2.length) (hv : tmps.getD q undef = v) :
    (results fn tmps).run P w = .ok (.tuple #[.agg cs.toArray, .agg cs2.toArray, v]) w := by
  have hp' : tmps[p]?.getD undef = .pointer (some ⟨b, 0, none⟩) := by simpa using hp
  have hp2' : tmps[p2]?.getD undef = .pointer (some ⟨b2, 0, none⟩) := by simpa using hp2
  have hv' : tmps[q]?.getD undef = v := by simpa using hv
  simp [results, h, hp', hp2', hv', asAddr, run_loadVar_mid w b 0 ty cs d hc hu hd hi, run_loadVar_mid w b2 0 ty cs2 d hc2 hu hd hi2]
theorem meet6 {A B C D E F : Type} {G : Prop} {P : A → B → C → D → E → F → Prop} (main : (∀ a b c d e f, P a b c d e f) → G) (x : ∀ a b c d e f, P a b c d e f) : G := main x
/-- A list's first n, the last one first. -/
def rv (F : Nat → Nat → Nat) : Nat → List (Nat → Nat)
  | 0 => []
  | n + 1 => F n :: rv F n
theorem HL.rangeA {w : World} {b o n : Nat} {F : Nat → Nat → Nat} (h : HL w (some ⟨b, o, none⟩) n F) {i : Nat} (hi : i < n) : w.rangeAt b (o + i * 32) (ab (F i) 32) := by
  rcases h.at_ with h5 | ⟨b', o', e, hr⟩
  · omega
  · cases e
    exact hr i hi
/-- A hash of noughts. -/
theorem hk0_build : Tryd.prog.built 23 [] = some (ab (fun _ => 0) 32).toArray := by kernel_rfl
theorem wpList_hk0 {w : World} {ops : Array Oper} {rest : List Oper} {op : Oper} {a : Act} {Q : Exit → Act → World → Prop} (hw : Region.wanted op (yielded ops a.tmps) = true) (ho : op.op = .build 23 #[])
    (h : wpList Tryd.prog ops Q rest (a.put op.dst (.agg (ab (fun _ => 0) 32).toArray)) w) : wpList Tryd.prog ops Q (op :: rest) a w :=
  wpList_buildC hw 23 _ ho _ (by simp only [List.map_toArray, List.map_nil]; exact hk0_build) h
end Go.Proofs.YtkpkkjcfodjifaaDoor
namespace Go.Proofs.YtkpkkjcfodjifaaDoor
set_option maxRecDepth 100000
open Go.RowKit
attribute [local go_sem ↓] Go.wp_at_zero Go.wp_at_succ

/-- What is known of what Leads answers. -/
structure LdA (o : Option (Nat → Nat)) (f : Nat → Nat) (b : Bool) : Prop where
  lt : ∀ j, f j < 256
  b_ : b = o.isSome
  o_ : ∀ y, o = some y → f = y
theorem LdA.one {f : Nat → Nat} (hf : ∀ j, f j < 256) : LdA (some f) f true := ⟨hf, rfl, fun y e => by cases e; rfl⟩
theorem LdA.no {f : Nat → Nat} (hf : ∀ j, f j < 256) : LdA none f false := ⟨hf, rfl, fun y e => by cases e⟩
theorem LdA.map {o : Option (Nat → Nat)} {f : Nat → Nat} {b : Bool} (h : LdA o f b) (g : (Nat → Nat) → Nat → Nat) (hg : ∀ j, g f j < 256) : LdA (o.map g) (g f) b :=
  ⟨hg, by rw [h.b_]; cases o <;> rfl, fun y e => by
    cases o with
    | none => cases e
    | some x => cases e; rw [h.o_ x rfl]⟩
end Go.Proofs.YtkpkkjcfodjifaaDoor
