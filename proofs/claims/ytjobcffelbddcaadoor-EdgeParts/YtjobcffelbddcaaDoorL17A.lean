/- Layer 17's laws: a tree of n hashes; awake. -/
import Derived.Test.YtjobcffelbddcaaDoorP17E
import Derived.Test.YtjobcffelbddcaaDoorR17A
namespace Go.Proofs.YtjobcffelbddcaaDoor
set_option maxRecDepth 100000
open Go.RowKit
attribute [local go_sem ↓] Go.wp_at_zero Go.wp_at_succ

/-- A tree that has n hashes. -/
structure Tr (w : World) (b n : Nat) (F : Nat → Nat → Nat) : Prop where
  lt : ∀ i j, F i j < 256
  st : ∃ es, Desc es ∧ sz es = n ∧ TrQ w b (qs F es)
theorem Tr.congr {w : World} {b n : Nat} {F G : Nat → Nat → Nat} (h : Tr w b n F) (hG : ∀ i j, G i j < 256) (e : ∀ i, i < n → F i = G i) : Tr w b n G := by
  obtain ⟨es, h1, h2, h3⟩ := h.st
  exact ⟨hG, es, h1, h2, by rw [← qs_ext es (F := F) (fun i hi => e i (by omega))]; exact h3⟩
theorem Tr.keep {w w' : World} {b n : Nat} {F : Nat → Nat → Nat} (h : Tr w b n F) (hb : Below w.heap.size w w') : Tr w' b n F :=
  ⟨h.lt, h.st.elim fun es h => ⟨es, h.1, h.2.1, h.2.2.keep hb⟩⟩
theorem Tr.size {w : World} {b n : Nat} {F : Nat → Nat → Nat} (h : Tr w b n F) : b < w.heap.size := h.st.elim fun _ h => h.2.2.lt
/-- The block that bears a tree. -/
def TB (w : World) (b : Nat) : Prop := ∃ v, Boxed w b 27 v
theorem TrQ.tb {w : World} {b : Nat} {Q : List Pt2} (h : TrQ w b Q) : TB w b := h.elim fun v h => ⟨v, h.1⟩
theorem Tr.tb {w : World} {b n : Nat} {F : Nat → Nat → Nat} (h : Tr w b n F) : TB w b := h.st.elim fun _ h => h.2.2.tb
theorem Tr.other {w w' : World} {b c n : Nat} {F : Nat → Nat → Nat} (h : Tr w b n F) (hc : TB w c) (hg : w.grownBy w' (some c)) (hn : b ≠ c) : Tr w' b n F :=
  ⟨h.lt, h.st.elim fun es h => ⟨es, h.1, h.2.1, hc.elim fun _ hc => h.2.2.other hc hg hn⟩⟩
theorem Tr.row {w w' : World} {b base m n : Nat} {F G : Nat → Nat → Nat} {u : Value} (h : Tr w b n F) (hc : OH w base u m G) (hg : w.grownBy w' u.ownBlock) : Tr w' b n F :=
  ⟨h.lt, h.st.elim fun es h => ⟨es, h.1, h.2.1, h.2.2.row hc hg⟩⟩
theorem desc_len : ∀ (es : List Nat), es.length ≤ sz es
  | [] => Nat.le_refl _
  | e :: es => by
    have := desc_len es
    have := Nat.two_pow_pos e
    rw [List.length_cons, sz]
    omega
theorem qs_lt {F : Nat → Nat → Nat} (hF : ∀ i j, F i j < 256) : ∀ (es : List Nat) (p : Nat) (i : Nat) (q : Pt2), (qs (fun i => F (p + i)) es)[i]? = some q → ∀ j, q.1 j < 256
  | [], _, _, _, h, _ => by simp [qs] at h
  | e :: es, p, 0, q, h, j => by
    simp only [qs, List.getElem?_cons_zero, Option.some.injEq] at h
    subst h
    exact rt_lt (fun i => hF (p + i)) _ j
  | e :: es, p, i + 1, q, h, j => by
    rw [qs, List.getElem?_cons_succ] at h
    refine qs_lt hF es (p + 2 ^ e) i q ?_ j
    have e2 : (fun i => F (p + 2 ^ e + i)) = fun i => F (p + (2 ^ e + i)) := by funext i; rw [Nat.add_assoc]
    rw [e2]
    exact h
theorem qs_lt0 {F : Nat → Nat → Nat} (hF : ∀ i j, F i j < 256) (es : List Nat) (i : Nat) (q : Pt2) (h : (qs F es)[i]? = some q) : ∀ j, q.1 j < 256 := by
  have e : (fun i => F (0 + i)) = F := by funext i; rw [Nat.zero_add]
  exact qs_lt hF es 0 i q (by rw [e]; exact h)
/-- What a push leaves. -/
def TpP (w : World) (b n : Nat) (F : Nat → Nat → Nat) (e : Ending) (w' : World) : Prop := (∃ v, e = .returned v) ∧ Tr w' b n F ∧ w.grownBy w' (some b)
theorem tr_push {w : World} {b n : Nat} {F G : Nat → Nat → Nat} {f : Nat → Nat} (hT : Tab w) (h : Tr w b n F) (hG : ∀ i j, G i j < 256) (e : ∀ i, i < n → G i = F i) (ef : G n = f) (hn : n ≤ 800) :
    Calls Tryd.prog 15 #[.pointer (some ⟨b, 0, none⟩), hv f] w (TpP w b (n + 1) G) := by
  obtain ⟨es, h1, h2, h3⟩ := h.st
  have hl := desc_len es
  obtain ⟨es', k1, k2, k3⟩ := push_qs (G := G) h1 (fun i hi => e i (by omega))
  refine Calls.mono (push_any hT h3 (qs_lt0 h.lt es) (f := f) (by rw [← ef]; exact hG n) (by rw [sm_qs]; omega) (by rw [qs_len]; omega)) ?_
  rintro e w' ⟨r1, r2, r3⟩
  refine ⟨r1, ⟨hG, es', k1, by omega, ?_⟩, r3⟩
  rw [h2, ef] at k3
  rw [← k3]
  exact r2
theorem push_nil (w : World) (f : Nat → Nat) : Calls Tryd.prog 15 #[.pointer none, hv f] w fun e w' => (∃ v, e = .returned v) ∧ Below w.heap.size w w' := by
  unfold hv
  go_enter Tryd.func15, Tryd.ntmps15
  go_upto_region 1 with fail
  refine wp_world (fun X hX => ?_)
  have hB : Below w.heap.size w X := by rw [hX]; exact K.alloc (Below.refl _ _) _
  clear hX
  go_wp2_with fail
  refine bodyPost_ret (results_none rfl _ _ _) rfl ?_
  exact ⟨⟨_, rfl⟩, hB⟩
theorem tr_len {w : World} {b n : Nat} {F : Nat → Nat → Nat} (h : Tr w b n F) (hn : n ≤ 100000) :
    Calls Tryd.prog 9 #[.pointer (some ⟨b, 0, none⟩)] w fun e w' => e = .returned (.int .i64 (n : Int)) ∧ Below w.heap.size w w' := by
  obtain ⟨es, h1, h2, h3⟩ := h.st
  have hl := desc_len es
  have := len_any (parts_tree h3) (by rw [sm_qs]; omega) (by rw [qs_len]; omega)
  rw [sm_qs, h2] at this
  exact this
theorem tr_edge {w : World} {b n : Nat} {F : Nat → Nat → Nat} (h : Tr w b n F) (hn : n ≤ 100000) :
    Calls Tryd.prog 11 #[.pointer (some ⟨b, 0, none⟩)] w (EgP w (eL F n)) := by
  obtain ⟨es, h1, h2, h3⟩ := h.st
  have hl := desc_len es
  have := edge_any (parts_tree h3) (qs_lt0 h.lt es) (by rw [qs_len]; omega)
  rw [qs_fst, ← eL_parts F h1, h2] at this
  exact this
theorem pR_lt {F : Nat → Nat → Nat} (hF : ∀ i j, F i j < 256) (es : List Nat) : ∀ f ∈ pR F es, ∀ j, f j < 256 := fun f hf j => by
  rw [← qs_fst] at hf
  obtain ⟨q, hq, rfl⟩ := List.mem_map.1 hf
  obtain ⟨i, hi, e⟩ := List.mem_iff_getElem.1 hq
  exact qs_lt0 hF es i q (by rw [List.getElem?_eq_getElem hi, e]) j
theorem tr_root {w : World} {b n : Nat} {F : Nat → Nat → Nat} (hT : Tab w) (h : Tr w b n F) (hn : n ≤ 100000) :
    Calls Tryd.prog 13 #[.pointer (some ⟨b, 0, none⟩)] w fun e w' => e = .returned (hv (rt F n)) ∧ Below w.heap.size w w' := by
  obtain ⟨es, h1, h2, h3⟩ := h.st
  have hl := desc_len es
  have := rootT_any (L := pR F es) hT (fun W hW => by
    have := edge_any (parts_tree (h3.keep hW)) (qs_lt0 h.lt es) (by rw [qs_len]; omega)
    rw [qs_fst] at this
    exact this) (pR_lt h.lt es) (by rw [pR_len]; omega)
  rw [← rt_parts F h1, h2] at this
  exact this
theorem tr_new (w : World) {F : Nat → Nat → Nat} (hF : ∀ i j, F i j < 256) : Tr (w.alloc (.cells #[.slice none 0 0] 27)) w.heap.size 0 F :=
  ⟨hF, [], trivial, rfl, _, Boxed.new w 27 _, World.ownsRow_nil _ _ _ _⟩
/-- The hash whose first byte is 1. -/
def h1 : Nat → Nat := fun i => if i = 0 then 1 else 0
theorem h1_lt (i : Nat) : h1 i < 256 := by unfold h1; split <;> omega
theorem h1_build : Tryd.prog.built 33 [(0, .int .u8 1)] = some (ab h1 32).toArray := by kernel_rfl
/-- A literal of an array or a struct whose cells are told. -/
theorem wpList_buildC {w : World} {ops : Array Oper} {rest : List Oper} {op : Oper} {a : Act} {Q : Exit → Act → World → Prop} (hw : Region.wanted op (yielded ops a.tmps) = true) (t : TypeId) (parts : Array (Nat × Operand)) (ho : op.op = .build t parts) (cells : Array Value)
    (hb : Tryd.prog.built t (parts.map fun (i, x) => (i, a.eval x)).toList = some cells) (h : wpList Tryd.prog ops Q rest (a.put op.dst (.agg cells)) w) : wpList Tryd.prog ops Q (op :: rest) a w := by
  refine wpList_step fun K hK => ?_
  rw [if_pos hw]
  refine wp_build t parts ho (by rw [hb]; rfl) ?_
  rw [hb]
  exact hK _ _ h
set_option maxRecDepth 100000 in
set_option maxHeartbeats 4000000 in
theorem awake_any {w : World} (hT : Tab w) : Calls Tryd.prog 8 #[] w fun e w' => e = .returned (.bool true) ∧ Below w.heap.size w w' := by
  have HT := hide hT
  clear hT
  have HX := hide (fun W => eqH_same h1 W)
  go_enter Tryd.func8, Tryd.ntmps8
  go_upto_region 2 with fail
  refine wp_world (fun X hX => ?_)
  have hB : Below w.heap.size w X := by rw [hX]; exact K.alloc (Below.refl _ _) _
  have hR : Tr X w.heap.size 0 (fun _ => h1) := by rw [hX]; exact tr_new w (fun _ i => h1_lt i)
  clear hX
  obtain ⟨b, hb⟩ : ∃ b, w.heap.size = b := ⟨_, rfl⟩
  rw [hb] at hR ⊢
  have HB := hide hB
  have HP := hide (tr_push (f := h1) (HT.out.keep hB) hR (fun _ i => h1_lt i) (fun _ _ => rfl) rfl (by omega))
  clear hB hR
  go_wp2_with (first
    | (refine wpList_buildC (by rfl) 33 _ rfl _ h1_build ?_; simp only [Act.put, List.setIfInBounds_toArray, List.set_cons_zero, List.set_cons_succ])
    | (go_at_call 15; refine Calls.mono HP.out ?_; rintro e W1 hp; obtain ⟨⟨v1, rfl⟩, hp2, hp3⟩ := hp; have HP1 := hide hp2; have HB1 := hide (HB.out.grown hp3 HB.out.size (fun k hk => by cases hk; omega)); have HL1 := hide (tr_len hp2 (by omega)); clear hp2 hp3)
    | (go_at_call 9; refine Calls.mono HL1.out ?_; rintro e W2 ⟨rfl, hb2⟩; have HB2 := hide (Go.Proofs.YtjobcffelbddcaaDoor.K.call HB1.out hb2); have hr2 := tr_root (HT.out.keep HB2.out) (HP1.out.keep hb2) (by omega); rw [Nat.zero_add, rt_one] at hr2; unfold hv at hr2; have HR2 := hide hr2; clear hb2 hr2)
    | (go_at_call 13; refine Calls.mono HR2.out ?_; rintro e W3 ⟨rfl, hb3⟩; have HB3 := hide (Go.Proofs.YtjobcffelbddcaaDoor.K.call HB2.out hb3); clear hb3)
    | (refine wpList_eqH (by rfl) _ _ _ rfl _ _ true rfl rfl (HX.out _) ?_; simp only [Act.put, List.setIfInBounds_toArray, List.set_cons_zero, List.set_cons_succ]))
  go_ret
  exact ⟨rfl, HB3.out⟩
end Go.Proofs.YtjobcffelbddcaaDoor
