/- Layer 19's laws: awake. Layer 19's laws: lists of one's own in a region that draws its order. Layer 19's laws: rows of cells in variables of one's own; what is claimed. CheckPaths, CheckProofs: what is claimed. CheckPaths. -/
import Derived.Test.YtkpkkjcfodjifaaDoorMA13
import Derived.Test.YtkpkkjcfodjifaaDoorMA12
import Derived.Great.BuildSlice
namespace Go.Proofs.YtkpkkjcfodjifaaDoor
set_option maxRecDepth 100000
open Go.RowKit
attribute [local go_sem ↓] Go.wp_at_zero Go.wp_at_succ

set_option maxRecDepth 100000 in
set_option maxHeartbeats 8000000 in
theorem awake_any {w : World} (hT : Tab w) : Calls Tryd.prog 8 #[] w fun e w' => e = .returned (.bool true) ∧ Below w.heap.size w w' := by
  have HT := hide hT
  clear hT
  have HP := hide (checkPath_any (m := 0) (n := 1) (f := hk 5) (g := hk 5) HT.out (hl_nil w) (Nat.le_refl 0) (by unfold maxLen; omega) (by omega) (by omega) (hk_lt (by omega)) (hk_lt (by omega)))
  rw [show rv (lF []) 0 = [] from rfl, ckP_one, eqB_refl] at HP
  unfold hv at HP
  go_enter Tryd.func8, Tryd.ntmps8
  go_wp2_with (first
    | (refine wpList_hk5 (by rfl) rfl ?_; simp only [Act.put, List.setIfInBounds_toArray, List.set_cons_zero, List.set_cons_succ])
    | (go_at_call 10; (with_reducible refine Calls.mono HP.out ?_); rintro e W2 ⟨rfl, hb⟩; have HB := hide hb; clear hb))
  go_ret
  exact ⟨rfl, HB.out⟩
end Go.Proofs.YtkpkkjcfodjifaaDoor
namespace Go.Proofs.YtkpkkjcfodjifaaDoor
set_option maxRecDepth 100000
open Go.RowKit
attribute [local go_sem ↓] Go.wp_at_zero Go.wp_at_succ

end Go.Proofs.YtkpkkjcfodjifaaDoor
namespace Go.Proofs.YtkpkkjcfodjifaaDoor
set_option maxRecDepth 100000
open Go.RowKit
attribute [local go_sem ↓] Go.wp_at_zero Go.wp_at_succ

/-- A variable's cells. -/
structure RowC (W : World) (b : Nat) (cs : List Value) : Prop where
  lt : b < W.heap.size
  c : W.rangeAt b 0 cs
  z : ∀ j, j < cs.length → W.frozen? ⟨b, j, none⟩ = false
theorem RowC.made (w : World) (t : TypeId) (cs : List Value) : RowC (w.alloc (.cells cs.toArray t)) w.heap.size cs := by
  refine ⟨by simp, fun j v hv => ?_, fun j hj => frozen_of_row _ _ _ _ _ (heap_alloc_new w _)⟩
  rw [cell_of_row _ _ _ _ _ _ (heap_alloc_new w _), Nat.zero_add]
  simpa using hv
theorem RowC.keep {W W' : World} {b : Nat} {cs : List Value} (h : RowC W b cs) (hb : Below W.heap.size W W') : RowC W' b cs :=
  ⟨Nat.lt_of_lt_of_le h.lt hb.size, range_keep h.c hb, fun j hj => by rw [World.frozen?_of_block (hb.block b h.lt)]; exact h.z j hj⟩
theorem RowC.apart {W : World} {b g : Nat} {cs : List Value} (h : RowC W b cs) (hg : b ≠ g) (o : Nat) (vs : List Value) : RowC (W.setCells g o vs) b cs :=
  ⟨by rw [size_setCells]; exact h.lt, World.rangeAt_setCells_apart h.c g o vs (Or.inl hg), fun j hj => by rw [World.frozen?_setCells]; exact h.z j hj⟩
/-- Some cells are put anew. -/
def ov (cs : List Value) (o : Nat) (vs : List Value) : List Value := cs.take o ++ (vs ++ cs.drop (o + vs.length))
theorem range_app {W : World} {b o : Nat} {A B : List Value} (hA : W.rangeAt b o A) (hB : W.rangeAt b (o + A.length) B) : W.rangeAt b o (A ++ B) := fun j v hv => by
  rcases Nat.lt_or_ge j A.length with h | h
  · rw [List.getElem?_append_left h] at hv
    exact hA j v hv
  · rw [List.getElem?_append_right h] at hv
    have := hB (j - A.length) v hv
    rwa [show o + A.length + (j - A.length) = o + j by omega] at this
theorem range_take {W : World} {b : Nat} {A : List Value} (h : W.rangeAt b 0 A) (o : Nat) : W.rangeAt b 0 (A.take o) := fun j v hv => by
  rw [List.getElem?_take] at hv
  split at hv
  · exact h j v hv
  · cases hv
theorem range_drop {W : World} {b : Nat} {A : List Value} (h : W.rangeAt b 0 A) (o : Nat) : W.rangeAt b o (A.drop o) := fun j v hv => by
  rw [List.getElem?_drop] at hv
  have := h (o + j) v hv
  rwa [Nat.zero_add] at this
theorem RowC.there {W : World} {b : Nat} {cs : List Value} (h : RowC W b cs) (o n : Nat) (hn : o + n ≤ cs.length) : W.there b o n := fun j hj => by
  have h1 := h.c (o + j) _ (List.getElem?_eq_getElem (by omega))
  rw [Nat.zero_add] at h1
  exact ⟨by rw [h1]; rfl, h.z _ (by omega)⟩
theorem RowC.put {W : World} {b : Nat} {cs : List Value} (h : RowC W b cs) (o : Nat) (vs : List Value) (hn : o + vs.length ≤ cs.length) : RowC (W.setCells b o vs) b (ov cs o vs) := by
  refine ⟨by rw [size_setCells]; exact h.lt, ?_, fun j hj => ?_⟩
  · have ho : (cs.take o).length = o := by rw [List.length_take]; omega
    refine range_app (World.rangeAt_setCells_apart (range_take h.c o) b o vs (Or.inr (Or.inl (by rw [ho]; omega)))) (range_app ?_ ?_)
    · rw [ho, Nat.zero_add]
      exact World.rangeAt_setCells_same W b o vs (h.there o _ hn)
    · rw [ho, Nat.zero_add]
      exact World.rangeAt_setCells_apart (range_drop h.c _) b o vs (Or.inr (Or.inr (Nat.le_refl _)))
  · rw [World.frozen?_setCells]
    refine h.z j ?_
    have : (ov cs o vs).length = cs.length := by unfold ov; rw [List.length_append, List.length_append, List.length_take, List.length_drop]; omega
    omega
/-- Variables of one's own, made since w0, and their cells. -/
structure Vc (w0 W : World) (L : List (Nat × List Value)) : Prop where
  k : Below w0.heap.size w0 W
  at_ : ∀ p ∈ L, w0.heap.size ≤ p.1 ∧ RowC W p.1 p.2
  dn : (L.map Prod.fst).Nodup
theorem Vc.nil (w : World) : Vc w w [] := ⟨Below.refl _ _, (fun _ h => by cases h), List.nodup_nil⟩
theorem Vc.keep {w0 W W' : World} {L : List (Nat × List Value)} (h : Vc w0 W L) (hb : Below W.heap.size W W') : Vc w0 W' L :=
  ⟨Go.Proofs.YtkpkkjcfodjifaaDoor.K.call h.k hb, (fun p hp => ⟨(h.at_ p hp).1, (h.at_ p hp).2.keep hb⟩), h.dn⟩
theorem Vc.made {w0 W : World} {L : List (Nat × List Value)} (h : Vc w0 W L) (t : TypeId) (cs : List Value) : Vc w0 (W.alloc (.cells cs.toArray t)) ((W.heap.size, cs) :: L) := by
  have hb : Below W.heap.size W (W.alloc (.cells cs.toArray t)) := Go.Proofs.YtkpkkjcfodjifaaDoor.K.alloc (Below.refl _ _) _
  refine ⟨Go.Proofs.YtkpkkjcfodjifaaDoor.K.alloc h.k _, fun p hp => ?_, ?_⟩
  · rcases List.mem_cons.1 hp with rfl | hp
    · exact ⟨h.k.size, RowC.made W t cs⟩
    · exact ⟨(h.at_ p hp).1, (h.at_ p hp).2.keep hb⟩
  · rw [List.map_cons]
    refine List.nodup_cons.2 ⟨fun hm => ?_, h.dn⟩
    obtain ⟨p, hp, e⟩ := List.mem_map.1 hm
    have hl := (h.at_ p hp).2.lt
    rw [e] at hl
    exact Nat.lt_irrefl _ hl
theorem Vc.put {w0 W : World} {L : List (Nat × List Value)} (h : Vc w0 W L) {i b : Nat} {cs : List Value} (hi : L[i]? = some (b, cs)) (o : Nat) (vs : List Value) (hn : o + vs.length ≤ cs.length) : Vc w0 (W.setCells b o vs) (L.set i (b, ov cs o vs)) := by
  have hm := h.at_ (b, cs) (List.mem_of_getElem? hi)
  have hil : i < L.length := (List.getElem?_eq_some_iff.1 hi).1
  have hb : (L.map Prod.fst)[i]? = some b := by rw [List.getElem?_map, hi]; rfl
  refine ⟨below_setCells _ _ h.k hm.1, fun p hp => ?_, ?_⟩
  · obtain ⟨j, hj⟩ := List.mem_iff_getElem?.1 hp
    rw [List.getElem?_set] at hj
    by_cases hij : i = j
    · rw [if_pos hij, if_pos hil] at hj
      cases hj
      exact ⟨hm.1, hm.2.put o vs hn⟩
    · rw [if_neg hij] at hj
      have hp2 := h.at_ p (List.mem_of_getElem? hj)
      refine ⟨hp2.1, hp2.2.apart (fun e => hij ?_) _ _⟩
      refine (List.getElem?_inj (l := L.map Prod.fst) (by rw [List.length_map]; exact hil) h.dn).1 ?_
      rw [hb, List.getElem?_map, hj, ← e]
      rfl
  · have e : (L.set i (b, ov cs o vs)).map Prod.fst = L.map Prod.fst := by
      refine List.ext_getElem? fun j => ?_
      rw [List.getElem?_map, List.getElem?_map, List.getElem?_set]
      by_cases hij : i = j
      · rw [if_pos hij, if_pos hil, ← hij, hi]
        rfl
      · rw [if_neg hij]
    rw [e]
    exact h.dn
theorem Vc.row {w0 W : World} {L : List (Nat × List Value)} (h : Vc w0 W L) (i : Nat) {b : Nat} {cs : List Value} (hi : L[i]? = some (b, cs)) : RowC W b cs := (h.at_ (b, cs) (List.mem_of_getElem? hi)).2
theorem Vc.of {w W : World} (h : Below w.heap.size w W) : Vc w W [] := ⟨h, (fun _ h => by cases h), List.nodup_nil⟩
section
variable {w0 W : World} {L : List (Nat × List Value)} {op : Oper} {a : Act} {Q : Exit → Act → World → Prop} {ops : Array Oper} {rest : List Oper}
theorem Vc.listNewH (hv : Vc w0 W L) (hgd : op.guard = none) (hop : op.op = Op.alloc 23) (h : ∀ y W', Vc w0 W' ((y, ab (fun _ => 0) 32) :: L) → Below W.heap.size W W' → wpList Tryd.prog ops Q rest (a.put op.dst (.pointer (some ⟨y, 0, none⟩))) W') : wpList Tryd.prog ops Q (op :: rest) a W :=
  wpList_plain hgd fun _ hK => by
    unfold Oper.wp
    rw [run_allocH hop]
    exact hK _ _ (h _ _ (hv.made 23 _) (Go.Proofs.YtkpkkjcfodjifaaDoor.K.alloc (Below.refl _ _) _))
theorem Vc.listPutH (hv : Vc w0 W L) (i o : Nat) {x y : Operand} {b : Nat} {cs : List Value} {g : Nat → Nat} (hgd : op.guard = none) (hop : op.op = Op.store 23 x y) (hx : a.eval x = .pointer (some ⟨b, o, none⟩)) (hy : a.eval y = .agg (ab g 32).toArray) (hi : L[i]? = some (b, cs)) (hn : o + (ab g 32).length ≤ cs.length) (h : ∀ W', Vc w0 W' (L.set i (b, ov cs o (ab g 32))) → wpList Tryd.prog ops Q rest (a.put op.dst undef) W') : wpList Tryd.prog ops Q (op :: rest) a W :=
  wpList_plain hgd fun _ hK => wp_store_mid 23 x y hop b o (ab g 32).toArray hx hy ((hv.row i hi).there o _ (by rw [List.size_toArray]; exact hn)) (inH _) (all_oneCell_toArray (ab_one _ _)) (hK _ _ (h _ (hv.put hi o (ab g 32) hn)))
end
end Go.Proofs.YtkpkkjcfodjifaaDoor
namespace Go.Proofs.YtkpkkjcfodjifaaDoor
set_option maxRecDepth 100000
open Go.RowKit
attribute [local go_sem ↓] Go.wp_at_zero Go.wp_at_succ

/-- A claim's cells. -/
def cl (m n : Int) (f : Nat → Nat) (x : Option Addr) (l c : Nat) (g : Nat → Nat) : List Value := [.int .i64 m, .int .i64 n] ++ (ab f 32 ++ (.slice x l c :: ab g 32))
theorem cl_len (m n : Int) (f : Nat → Nat) (x : Option Addr) (l c : Nat) (g : Nat → Nat) : (cl m n f x l c g).length = 67 := by
  unfold cl
  simp only [List.length_append, List.length_cons, List.length_nil, ab_len]
theorem cl_put2 (m n : Int) (f : Nat → Nat) (x : Option Addr) (l c : Nat) (g f' : Nat → Nat) : ov (cl m n f x l c g) 2 (ab f' 32) = cl m n f' x l c g := by kernel_rfl
theorem cl_put35 (m n : Int) (f : Nat → Nat) (x : Option Addr) (l c : Nat) (g g' : Nat → Nat) : ov (cl m n f x l c g) 35 (ab g' 32) = cl m n f x l c g' := by kernel_rfl
theorem range_mid {W : World} {b : Nat} {A B C : List Value} (h : W.rangeAt b 0 (A ++ (B ++ C))) {o : Nat} (ho : A.length = o) : W.rangeAt b o B := fun j v hv => by
  have hj := (List.getElem?_eq_some_iff.1 hv).1
  have := h (o + j) v (by rw [List.getElem?_append_right (by omega), ho, Nat.add_sub_cancel_left, List.getElem?_append_left hj]; exact hv)
  rwa [Nat.zero_add] at this
section
variable {W : World} {b : Nat} {m n : Int} {f : Nat → Nat} {x : Option Addr} {l c : Nat} {g : Nat → Nat}
theorem cl_m (h : W.rangeAt b 0 (cl m n f x l c g)) : W.cell? ⟨b, 0, none⟩ = some (.int .i64 m) := h 0 _ rfl
theorem cl_n (h : W.rangeAt b 0 (cl m n f x l c g)) : W.cell? ⟨b, 1, none⟩ = some (.int .i64 n) := h 1 _ rfl
theorem cl_f (h : W.rangeAt b 0 (cl m n f x l c g)) : W.rangeAt b 2 (ab f 32) := range_mid h rfl
theorem cl_x (h : W.rangeAt b 0 (cl m n f x l c g)) : W.cell? ⟨b, 34, none⟩ = some (.slice x l c) := h 34 _ (by kernel_rfl)
theorem cl_g (h : W.rangeAt b 0 (cl m n f x l c g)) : W.rangeAt b 35 (ab g 32) := fun j v hv => by
  have hj := (List.getElem?_eq_some_iff.1 hv).1
  rw [ab_len] at hj
  have e : (cl m n f x l c g)[35 + j]? = (ab g 32)[j]? := by
    unfold cl
    rw [← List.append_assoc, List.getElem?_append_right (by rw [List.length_append, ab_len]; show 2 + 32 ≤ 35 + j; omega), List.length_append, ab_len, show 35 + j - ([Value.int .i64 m, .int .i64 n].length + 32) = j + 1 by show 35 + j - (2 + 32) = j + 1; omega, List.getElem?_cons_succ]
  have := h (35 + j) v (by rw [e]; exact hv)
  rwa [Nat.zero_add] at this
end
theorem ilC (m n : Int) (f : Nat → Nat) (x : Option Addr) (l c : Nat) (g : Nat → Nat) : (Tryd.prog.info? 26).map (·.size) = some (cl m n f x l c g).length := by rw [cl_len]; kernel_rfl
theorem zeroCi : (Tryd.prog.info? 26).map (·.zero) = some (some (.agg (cl 0 0 (fun _ => 0) none 0 0 (fun _ => 0)).toArray)) := by kernel_rfl
def zeroCc : Array Value := (cl 0 0 (fun _ => 0) none 0 0 (fun _ => 0)).toArray
theorem zeroCl : zeroCc = (cl 0 0 (fun _ => 0) none 0 0 (fun _ => 0)).toArray := rfl
theorem zeroCv (w : World) : Sem.run Tryd.prog (zeroValue 26) w = .ok (.agg zeroCc) w := by
  obtain ⟨i, hi, hz⟩ : ∃ i, Tryd.prog.info? 26 = some i ∧ i.zero = some (.agg zeroCc) := by
    have h := zeroCi
    rw [← zeroCl] at h
    cases hi : Tryd.prog.info? 26 with
    | none => rw [hi] at h; cases h
    | some i => rw [hi] at h; exact ⟨i, rfl, Option.some.inj h⟩
  simp [zeroValue, typeInfo, hi, hz]
attribute [local go_sem] zeroCv
theorem ov_full {cs vs : List Value} (h : cs.length = vs.length) : ov cs 0 vs = vs := by
  unfold ov
  rw [List.take_zero, Nat.zero_add, ← h, List.drop_length, List.append_nil, List.nil_append]
theorem cl_one (m n : Int) (f : Nat → Nat) (x : Option Addr) (l c : Nat) (g : Nat → Nat) : ∀ v ∈ cl m n f x l c g, v.oneCell' = true := fun v hv => by
  unfold cl at hv
  rcases List.mem_append.1 hv with h | h
  · rcases List.mem_cons.1 h with rfl | h
    · rfl
    · rw [List.mem_singleton.1 h]; rfl
  · rcases List.mem_append.1 h with h | h
    · exact ab_one _ _ v h
    · rcases List.mem_cons.1 h with rfl | h
      · rfl
      · exact ab_one _ _ v h
theorem Vc.boxedc {w X : World} {cs zs : List Value} (hX : X = (w.alloc (.cells cs.toArray 26)).alloc (.cells zs.toArray 26)) : Vc w X [(w.heap.size + 1, zs), (w.heap.size, cs)] := by
  rw [hX]
  have h := ((Vc.nil w).made 26 cs).made 26 zs
  have e : ∀ o, (w.alloc o).heap.size = w.heap.size + 1 := fun o => by simp
  rw [e] at h
  exact h
theorem Vc.listPutC {w0 W : World} {L : List (Nat × List Value)} {op : Oper} {a : Act} {Q : Exit → Act → World → Prop} {ops : Array Oper} {rest : List Oper} (hv : Vc w0 W L) (i : Nat) {x' y' : Operand} {b : Nat} {cs : List Value} {m n : Int} {f : Nat → Nat} {x : Option Addr} {l c : Nat} {g : Nat → Nat} (hgd : op.guard = none) (hop : op.op = Op.store 26 x' y') (hx : a.eval x' = .pointer (some ⟨b, 0, none⟩)) (hy : a.eval y' = .agg (cl m n f x l c g).toArray) (hi : L[i]? = some (b, cs)) (hn : cs.length = 67) (h : ∀ W', Vc w0 W' (L.set i (b, cl m n f x l c g)) → wpList Tryd.prog ops Q rest (a.put op.dst undef) W') : wpList Tryd.prog ops Q (op :: rest) a W :=
  wpList_plain hgd fun _ hK => wp_store_mid 26 x' y' hop b 0 (cl m n f x l c g).toArray hx hy ((hv.row i hi).there 0 _ (by rw [List.size_toArray, cl_len, hn]; decide)) (by rw [List.size_toArray]; exact ilC m n f x l c g) (all_oneCell_toArray (cl_one m n f x l c g)) (hK _ _ (h _ (by
    have h2 := hv.put hi 0 (cl m n f x l c g) (by rw [cl_len, hn]; decide)
    rw [ov_full (by rw [hn, cl_len])] at h2
    exact h2)))
section
variable {w0 W : World} {f g h k : Nat → Nat} {a b c d : Nat} {m n : Int} {x : Option Addr} {l r : Nat} {A B : Nat × List Value}
theorem Vc.fit0 {R : List (Nat × List Value)} (hv : Vc w0 W (List.set ((a, ab f 32) :: R) 0 (a, ov (ab f 32) 0 (ab g 32)))) : Vc w0 W ((a, ab g 32) :: R) := by
  rw [ov_full (by rw [ab_len, ab_len])] at hv
  exact hv
theorem Vc.fit1 {R : List (Nat × List Value)} (hv : Vc w0 W (List.set (A :: (a, ab f 32) :: R) 1 (a, ov (ab f 32) 0 (ab g 32)))) : Vc w0 W (A :: (a, ab g 32) :: R) := by
  rw [ov_full (by rw [ab_len, ab_len])] at hv
  exact hv
theorem Vc.fit35 (hv : Vc w0 W (List.set [A, B, (a, cl m n f x l r g)] 2 (a, ov (cl m n f x l r g) 35 (ab h 32)))) : Vc w0 W [A, B, (a, cl m n f x l r h)] := by
  rw [cl_put35] at hv
  exact hv
theorem Vc.fit2 {C : Nat × List Value} (hv : Vc w0 W (List.set [A, B, C, (a, cl m n f x l r g)] 3 (a, ov (cl m n f x l r g) 2 (ab h 32)))) : Vc w0 W [A, B, C, (a, cl m n h x l r g)] := by
  rw [cl_put2] at hv
  exact hv
theorem Vc.fit35b {C : Nat × List Value} (hv : Vc w0 W (List.set [A, B, C, (a, cl m n f x l r g)] 3 (a, ov (cl m n f x l r g) 35 (ab h 32)))) : Vc w0 W [A, B, C, (a, cl m n f x l r h)] := by
  rw [cl_put35] at hv
  exact hv
end
set_option maxRecDepth 100000 in
set_option maxHeartbeats 8000000 in
theorem fits_any {w : World} {m n : Int} {f g : Nat → Nat} {x : Option Addr} {l c : Nat} {F : Nat → Nat → Nat} (hx : HL w x l F) (hc : l ≤ c) (hm : c ≤ maxLen) (hn : n < 9223372036854775808) (hf : ∀ j, f j < 256) (hg : ∀ j, g j < 256) (pr : Bool) :
    Calls Tryd.prog 9 #[.agg (cl m n f x l c g).toArray, .bool pr] w fun e w' => ∃ f' g', e = .returned (.agg (cl m n f' x l c g').toArray) ∧ (∀ j, f' j < 256) ∧ (∀ j, g' j < 256) ∧ Below w.heap.size w w' := by
  have HF := hide (And.intro hf hg)
  by_cases h1 : m < 0
  · clear hx hc hm hn hf hg
    go_enter Tryd.func9, Tryd.ntmps9
    go_upto_region 1 with fail
    refine wp_world (fun X hX => ?_)
    rw [zeroCl] at hX
    have hv := Vc.boxedc hX
    clear hX
    obtain ⟨b0, hb0⟩ : ∃ b0, w.heap.size = b0 := ⟨_, rfl⟩
    rw [hb0] at hv ⊢
    have HV := hide hv
    have hcm := cl_m (hv.row 1 rfl).c
    have hcn := cl_n (hv.row 1 rfl).c
    have hcx := cl_x (hv.row 1 rfl).c
    have HRf := hide (cl_f (hv.row 1 rfl).c)
    clear hv hb0
    go_wp2_with (first
      | (refine HV.out.listPutC (b := b0 + 1) 0 rfl rfl rfl rfl rfl (cl_len _ _ _ _ _ _ _) (fun Z hv => ?_); have HZ := hide hv; clear hv)
      | (refine wpList_load_mid rfl 26 _ rfl b0 0 rfl (cl m n f x l c g) _ ((HV.out.row 1 rfl).c) Tryd.underlying26 rfl (ilC _ _ _ _ _ _ _) ?_))
    exact bodyPost_ret (results_cell_mid Tryd.results9 _ _ (b0 + 1) (cl m n f x l c g) _ rfl (HZ.out.row 0 rfl).c Tryd.underlying26 rfl (ilC _ _ _ _ _ _ _)) rfl ⟨_, _, rfl, HF.out.1, HF.out.2, HZ.out.k⟩
  by_cases h2 : n < m
  · clear hx hc hm hn hf hg
    go_enter Tryd.func9, Tryd.ntmps9
    go_upto_region 1 with fail
    refine wp_world (fun X hX => ?_)
    rw [zeroCl] at hX
    have hv := Vc.boxedc hX
    clear hX
    obtain ⟨b0, hb0⟩ : ∃ b0, w.heap.size = b0 := ⟨_, rfl⟩
    rw [hb0] at hv ⊢
    have HV := hide hv
    have hcm := cl_m (hv.row 1 rfl).c
    have hcn := cl_n (hv.row 1 rfl).c
    have hcx := cl_x (hv.row 1 rfl).c
    have HRf := hide (cl_f (hv.row 1 rfl).c)
    clear hv hb0
    go_wp2_with (first
      | (refine HV.out.listPutC (b := b0 + 1) 0 rfl rfl rfl rfl rfl (cl_len _ _ _ _ _ _ _) (fun Z hv => ?_); have HZ := hide hv; clear hv)
      | (refine wpList_load_mid rfl 26 _ rfl b0 0 rfl (cl m n f x l c g) _ ((HV.out.row 1 rfl).c) Tryd.underlying26 rfl (ilC _ _ _ _ _ _ _) ?_))
    exact bodyPost_ret (results_cell_mid Tryd.results9 _ _ (b0 + 1) (cl m n f x l c g) _ rfl (HZ.out.row 0 rfl).c Tryd.underlying26 rfl (ilC _ _ _ _ _ _ _)) rfl ⟨_, _, rfl, HF.out.1, HF.out.2, HZ.out.k⟩
  by_cases h3 : n < 1
  · clear hx hc hm hn hf hg
    go_enter Tryd.func9, Tryd.ntmps9
    go_upto_region 1 with fail
    refine wp_world (fun X hX => ?_)
    rw [zeroCl] at hX
    have hv := Vc.boxedc hX
    clear hX
    obtain ⟨b0, hb0⟩ : ∃ b0, w.heap.size = b0 := ⟨_, rfl⟩
    rw [hb0] at hv ⊢
    have HV := hide hv
    have hcm := cl_m (hv.row 1 rfl).c
    have hcn := cl_n (hv.row 1 rfl).c
    have hcx := cl_x (hv.row 1 rfl).c
    have HRf := hide (cl_f (hv.row 1 rfl).c)
    clear hv hb0
    go_wp2_with (first
      | (refine HV.out.listPutC (b := b0 + 1) 0 rfl rfl rfl rfl rfl (cl_len _ _ _ _ _ _ _) (fun Z hv => ?_); have HZ := hide hv; clear hv)
      | (refine wpList_load_mid rfl 26 _ rfl b0 0 rfl (cl m n f x l c g) _ ((HV.out.row 1 rfl).c) Tryd.underlying26 rfl (ilC _ _ _ _ _ _ _) ?_))
    exact bodyPost_ret (results_cell_mid Tryd.results9 _ _ (b0 + 1) (cl m n f x l c g) _ rfl (HZ.out.row 0 rfl).c Tryd.underlying26 rfl (ilC _ _ _ _ _ _ _)) rfl ⟨_, _, rfl, HF.out.1, HF.out.2, HZ.out.k⟩
  cases pr with
  | false =>
    by_cases h4 : m = n
    · have hb4 : (m == n) = true := beq_iff_eq.2 h4
      clear hx hc hm hn hf hg h4
      go_enter Tryd.func9, Tryd.ntmps9
      go_upto_region 1 with fail
      refine wp_world (fun X hX => ?_)
      rw [zeroCl] at hX
      have hv := Vc.boxedc hX
      clear hX
      obtain ⟨b0, hb0⟩ : ∃ b0, w.heap.size = b0 := ⟨_, rfl⟩
      rw [hb0] at hv ⊢
      have HV := hide hv
      have hcm := cl_m (hv.row 1 rfl).c
      have hcn := cl_n (hv.row 1 rfl).c
      have hcx := cl_x (hv.row 1 rfl).c
      have HRf := hide (cl_f (hv.row 1 rfl).c)
      clear hv hb0
      go_wp2_with (first
        | (refine HV.out.listPutC (b := b0 + 1) 0 rfl rfl rfl rfl rfl (cl_len _ _ _ _ _ _ _) (fun Z hv => ?_); have HZ := hide hv; clear hv)
        | (refine wpList_load_mid rfl 26 _ rfl b0 0 rfl (cl m n f x l c g) _ ((HV.out.row 1 rfl).c) Tryd.underlying26 rfl (ilC _ _ _ _ _ _ _) ?_))
      exact bodyPost_ret (results_cell_mid Tryd.results9 _ _ (b0 + 1) (cl m n f x l c g) _ rfl (HZ.out.row 0 rfl).c Tryd.underlying26 rfl (ilC _ _ _ _ _ _ _)) rfl ⟨_, _, rfl, HF.out.1, HF.out.2, HZ.out.k⟩
    · have hb4 : (m == n) = false := beq_eq_false_iff_ne.2 h4
      obtain ⟨m, rfl⟩ := Int.eq_ofNat_of_zero_le (show 0 ≤ m by omega)
      obtain ⟨n, rfl⟩ := Int.eq_ofNat_of_zero_le (show 0 ≤ n by omega)
      have hih := fun W (h : Below w.heap.size w W) => refLeads_any l (w := W) (c := c) (f := f) (n := n) (m := m) (hx.keep h) hc hm (by omega) (by omega) (by omega) hf
      unfold hv at hih
      have HIH := hide hih
      clear hx hc hm hn hf hg h4 hih
      go_enter Tryd.func9, Tryd.ntmps9
      go_upto_region 1 with fail
      refine wp_world (fun X hX => ?_)
      rw [zeroCl] at hX
      have hv := Vc.boxedc hX
      clear hX
      obtain ⟨b0, hb0⟩ : ∃ b0, w.heap.size = b0 := ⟨_, rfl⟩
      rw [hb0] at hv ⊢
      have HV := hide hv
      have hcm := cl_m (hv.row 1 rfl).c
      have hcn := cl_n (hv.row 1 rfl).c
      have hcx := cl_x (hv.row 1 rfl).c
      have HRf := hide (cl_f (hv.row 1 rfl).c)
      clear hv hb0
      go_upto_region 8 with fail
      go_upto_region 9 with (first
        | (refine HV2.out.listPutH (b := y) 0 0 rfl rfl rfl rfl rfl (by rw [ab_len, ab_len]; decide) (fun W3 hv => ?_); have HV3 := hide (Vc.fit0 hv); clear hv HV2)
        | (refine HV1.out.listNewH rfl rfl (fun y W2 hv hb => ?_); have HV2 := hide hv; clear hv hb HV1)
        | (go_at_call 18; (with_reducible refine Calls.mono (HIH.out _ HV.out.k) ?_); rintro e W1 hE; obtain ⟨f1, t1, rfl, ha, hb⟩ := hE; have HV1 := hide (HV.out.keep hb); have HA := hide ha.lt; clear ha hb HV; unfold hv)
        | (refine wpList_load_h (g := b0) rfl _ rfl rfl HRf.out ?_))
      clear hcm hcn hcx HRf
      go_upto_region 10 with (first
        | (refine HV3.out.listPutH (b := b0) 2 35 rfl rfl rfl rfl rfl (by rw [cl_len, ab_len]; decide) (fun W4 hv => ?_); have HV4 := hide (Vc.fit35 hv); clear hv HV3)
        | (refine wpList_load_h (g := y) rfl _ rfl rfl (HV3.out.row 0 rfl).c ?_))
      go_wp2_with (first
        | (refine HV4.out.listPutC (b := b0 + 1) 1 rfl rfl rfl rfl rfl (cl_len _ _ _ _ _ _ _) (fun Z hv => ?_); have HZ := hide hv; clear hv)
        | (refine wpList_load_mid rfl 26 _ rfl b0 0 rfl (cl (m : Int) (n : Int) f x l c f1) _ ((HV4.out.row 2 rfl).c) Tryd.underlying26 rfl (ilC _ _ _ _ _ _ _) ?_))
      exact bodyPost_ret (results_cell_mid Tryd.results9 _ _ (b0 + 1) (cl (m : Int) (n : Int) f x l c f1) _ rfl (HZ.out.row 1 rfl).c Tryd.underlying26 rfl (ilC _ _ _ _ _ _ _)) rfl ⟨_, _, rfl, HF.out.1, HA.out, HZ.out.k⟩
  | true =>
    by_cases h5 : m = 0
    · have hb5 : (m == 0) = true := beq_iff_eq.2 h5
      clear hx hc hm hn hf hg h5
      go_enter Tryd.func9, Tryd.ntmps9
      go_upto_region 1 with fail
      refine wp_world (fun X hX => ?_)
      rw [zeroCl] at hX
      have hv := Vc.boxedc hX
      clear hX
      obtain ⟨b0, hb0⟩ : ∃ b0, w.heap.size = b0 := ⟨_, rfl⟩
      rw [hb0] at hv ⊢
      have HV := hide hv
      have hcm := cl_m (hv.row 1 rfl).c
      have hcn := cl_n (hv.row 1 rfl).c
      have hcx := cl_x (hv.row 1 rfl).c
      have HRf := hide (cl_f (hv.row 1 rfl).c)
      clear hv hb0
      go_wp2_with (first
        | (refine HV.out.listPutC (b := b0 + 1) 0 rfl rfl rfl rfl rfl (cl_len _ _ _ _ _ _ _) (fun Z hv => ?_); have HZ := hide hv; clear hv)
        | (refine wpList_load_mid rfl 26 _ rfl b0 0 rfl (cl m n f x l c g) _ ((HV.out.row 1 rfl).c) Tryd.underlying26 rfl (ilC _ _ _ _ _ _ _) ?_))
      exact bodyPost_ret (results_cell_mid Tryd.results9 _ _ (b0 + 1) (cl m n f x l c g) _ rfl (HZ.out.row 0 rfl).c Tryd.underlying26 rfl (ilC _ _ _ _ _ _ _)) rfl ⟨_, _, rfl, HF.out.1, HF.out.2, HZ.out.k⟩
    · have hb5 : (m == 0) = false := beq_eq_false_iff_ne.2 h5
      obtain ⟨m, rfl⟩ := Int.eq_ofNat_of_zero_le (show 0 ≤ m by omega)
      obtain ⟨n, rfl⟩ := Int.eq_ofNat_of_zero_le (show 0 ≤ n by omega)
      have hih := fun W (h : Below w.heap.size w W) => refTwos_any l (w := W) (c := c) (f := f) (n := n) (m := m) (wh := true) (hx.keep h) hc hm (by omega) (by omega) (by omega) hf
      unfold hv at hih
      have HIH := hide hih
      clear hx hc hm hn hf hg h5 hih
      go_enter Tryd.func9, Tryd.ntmps9
      go_upto_region 1 with fail
      refine wp_world (fun X hX => ?_)
      rw [zeroCl] at hX
      have hv := Vc.boxedc hX
      clear hX
      obtain ⟨b0, hb0⟩ : ∃ b0, w.heap.size = b0 := ⟨_, rfl⟩
      rw [hb0] at hv ⊢
      have HV := hide hv
      have hcm := cl_m (hv.row 1 rfl).c
      have hcn := cl_n (hv.row 1 rfl).c
      have hcx := cl_x (hv.row 1 rfl).c
      have HRf := hide (cl_f (hv.row 1 rfl).c)
      clear hv hb0
      go_upto_region 4 with fail
      go_upto_region 5 with (first
        | (refine HV4.out.listPutH (b := y2) 0 0 rfl rfl rfl rfl rfl (by rw [ab_len, ab_len]; decide) (fun W5 hv => ?_); have HV5 := hide (Vc.fit0 hv); clear hv HV4)
        | (refine HV3.out.listPutH (b := y1) 1 0 rfl rfl rfl rfl rfl (by rw [ab_len, ab_len]; decide) (fun W4 hv => ?_); have HV4 := hide (Vc.fit1 hv); clear hv HV3)
        | (refine HV2.out.listNewH rfl rfl (fun y2 W3 hv hb => ?_); have HV3 := hide hv; clear hv hb HV2)
        | (refine HV1.out.listNewH rfl rfl (fun y1 W2 hv hb => ?_); have HV2 := hide hv; clear hv hb HV1)
        | (go_at_call 17; (with_reducible refine Calls.mono (HIH.out _ HV.out.k) ?_); rintro e W1 hE; obtain ⟨f1, g1, t1, rfl, ha, hb⟩ := hE; have HV1 := hide (HV.out.keep hb); have HA := hide (And.intro ha.lt ha.lt2); clear ha hb HV; unfold hv)
        | (refine wpList_load_h (g := b0) rfl _ rfl rfl HRf.out ?_))
      clear hcm hcn hcx HRf
      go_upto_region 6 with (first
        | (refine HV5.out.listPutH (b := b0) 3 2 rfl rfl rfl rfl rfl (by rw [cl_len, ab_len]; decide) (fun W6 hv => ?_); have HV6 := hide (Vc.fit2 hv); clear hv HV5)
        | (refine wpList_load_h (g := y1) rfl _ rfl rfl (HV5.out.row 1 rfl).c ?_))
      go_upto_region 7 with (first
        | (refine HV6.out.listPutH (b := b0) 3 35 rfl rfl rfl rfl rfl (by rw [cl_len, ab_len]; decide) (fun W7 hv => ?_); have HV7 := hide (Vc.fit35b hv); clear hv HV6)
        | (refine wpList_load_h (g := y2) rfl _ rfl rfl (HV6.out.row 0 rfl).c ?_))
      go_wp2_with (first
        | (refine HV7.out.listPutC (b := b0 + 1) 2 rfl rfl rfl rfl rfl (cl_len _ _ _ _ _ _ _) (fun Z hv => ?_); have HZ := hide hv; clear hv)
        | (refine wpList_load_mid rfl 26 _ rfl b0 0 rfl (cl (m : Int) (n : Int) f1 x l c g1) _ ((HV7.out.row 3 rfl).c) Tryd.underlying26 rfl (ilC _ _ _ _ _ _ _) ?_))
      exact bodyPost_ret (results_cell_mid Tryd.results9 _ _ (b0 + 1) (cl (m : Int) (n : Int) f1 x l c g1) _ rfl (HZ.out.row 2 rfl).c Tryd.underlying26 rfl (ilC _ _ _ _ _ _ _)) rfl ⟨_, _, rfl, HA.out.1, HA.out.2, HZ.out.k⟩
end Go.Proofs.YtkpkkjcfodjifaaDoor
namespace Go.Proofs.YtkpkkjcfodjifaaDoor
set_option maxRecDepth 100000
open Go.RowKit
attribute [local go_sem ↓] Go.wp_at_zero Go.wp_at_succ

theorem run_allocC {W : World} {op : Oper} {a : Act} (hop : op.op = Op.alloc 26) : (execOp a.eval op).run Tryd.prog W = .ok (.value (.pointer (some ⟨W.heap.size, 0, none⟩))) (W.alloc (.cells (cl 0 0 (fun _ => 0) none 0 0 (fun _ => 0)).toArray 26)) := by
  unfold execOp
  simp [hop, Instr.alloc, newVar, newRow, Result.andThen, Value.cells, zeroCv]
  rfl
theorem Vc.listNewC {w0 W : World} {L : List (Nat × List Value)} {op : Oper} {a : Act} {Q : Exit → Act → World → Prop} {ops : Array Oper} {rest : List Oper} (hv : Vc w0 W L) (hgd : op.guard = none) (hop : op.op = Op.alloc 26) (h : ∀ y W', Vc w0 W' ((y, cl 0 0 (fun _ => 0) none 0 0 (fun _ => 0)) :: L) → Below W.heap.size W W' → wpList Tryd.prog ops Q rest (a.put op.dst (.pointer (some ⟨y, 0, none⟩))) W') : wpList Tryd.prog ops Q (op :: rest) a W :=
  wpList_plain hgd fun _ hK => by
    unfold Oper.wp
    rw [run_allocC hop]
    exact hK _ _ (h _ _ (hv.made 26 _) (Go.Proofs.YtkpkkjcfodjifaaDoor.K.alloc (Below.refl _ _) _))
set_option maxRecDepth 100000 in
set_option maxHeartbeats 16000000 in
theorem checkPaths_walk {w : World} {m n : Int} {f g : Nat → Nat} {x : Option Addr} {l c : Nat} {F : Nat → Nat → Nat} (hT : Tab w) (hn : n < 9223372036854775808) (hf : ∀ j, f j < 256) (hx : HL w x l F) (hc : l ≤ c) (hm : c ≤ maxLen) (hg : ∀ j, g j < 256) :
    Calls Tryd.prog 3 #[.agg (cl m n f x l c g).toArray] w fun e w' => e = .returned (.bool true) ∧ Below w.heap.size w w' := by
  have HT := hide hT
  have HX := hide hx
  have HC := hide (And.intro hc hm)
  have HF := hide (And.intro hf hg)
  have HN := hide hn
  clear hT hx hc hm hf hg hn
  by_cases hl : l ≤ 70
  · have hq : (l : Int) ≤ 70 := by omega
    have HL7 := hide hl
    clear hl
    go_enter Tryd.func3, Tryd.ntmps3
    go_upto_region 1 with fail
    refine wp_world (fun X hX => ?_)
    have hv : Vc w X [(w.heap.size, cl m n f x l c g)] := by rw [hX]; exact (Vc.nil w).made 26 _
    clear hX
    obtain ⟨b0, hb0⟩ : ∃ b0, w.heap.size = b0 := ⟨_, rfl⟩
    rw [hb0] at hv ⊢
    have HV := hide hv
    have HTX := hide (HT.out.keep hv.k)
    clear hv hb0
    go_upto_region 3 with (go_at_call 8; refine Calls.mono (awake_any HTX.out) ?_; rintro e W1 ⟨rfl, hb⟩; have HV1 := hide (HV.out.keep hb); have HT1 := hide (HTX.out.keep hb); have hcx := cl_x (HV1.out.row 0 rfl).c; clear hb HV HTX)
    clear hcx
    go_upto_region 4 with (first
      | (refine HV3.out.listPutC (b := b3) 0 rfl rfl rfl rfl rfl (cl_len _ _ _ _ _ _ _) (fun Y hv => ?_); have HV6 : Hid (Vc w Y [(b3, cl m n f2 x l c g2), (b0, cl m n f x l c g)]) := hide hv; clear hv HV3)
      | (refine HV2.out.listNewC rfl rfl (fun b3 W3 hv hb => ?_); have HV3 := hide hv; clear hv hb HV2)
      | (go_at_call 9; (with_reducible refine Calls.mono (fits_any (HX.out.keep HV1.out.k) HC.out.1 HC.out.2 HN.out HF.out.1 HF.out.2 false) ?_); rintro e W2 hE; obtain ⟨f2, g2, rfl, hf2, hg2, hb⟩ := hE; have HV2 := hide (HV1.out.keep hb); have HF2 := hide (And.intro hf2 hg2); clear hb HV1 hf2 hg2)
      | (refine wpList_load_mid rfl 26 _ rfl b0 0 rfl (cl m n f x l c g) _ ((HV1.out.row 0 rfl).c) Tryd.underlying26 rfl (ilC _ _ _ _ _ _ _) ?_))
    have HRc := hide (HV6.out.row 1 rfl).c
    have HRd := hide (HV6.out.row 0 rfl).c
    have HTY := hide (HT.out.keep HV6.out.k)
    have HXY := hide (HX.out.keep HV6.out.k)
    obtain ⟨v, hv⟩ : ∃ v, ckP m n f (rv F l) g = v := ⟨_, rfl⟩
    obtain ⟨v2, hv2⟩ : ∃ v, ckP m n f2 (rv F l) g2 = v := ⟨_, rfl⟩
    have hPa := fun W (h : Below Y.heap.size Y W) => checkPath_any (w := W) (m := m) (n := n) (f := f) (g := g) (c := c) (HTY.out.keep h) (HXY.out.keep h) HC.out.1 HC.out.2 (by have := HL7.out; omega) HN.out HF.out.1 HF.out.2
    have hPb := fun W (h : Below Y.heap.size Y W) => refPath19_any (w := W) (m := m) (n := n) (f := f) (g := g) (c := c) (HXY.out.keep h) HC.out.1 HC.out.2 HN.out HF.out.1
    have hPc := fun W (h : Below Y.heap.size Y W) => checkPath_any (w := W) (m := m) (n := n) (f := f2) (g := g2) (c := c) (HTY.out.keep h) (HXY.out.keep h) HC.out.1 HC.out.2 (by have := HL7.out; omega) HN.out HF2.out.1 HF2.out.2
    have hPd := fun W (h : Below Y.heap.size Y W) => refPath19_any (w := W) (m := m) (n := n) (f := f2) (g := g2) (c := c) (HXY.out.keep h) HC.out.1 HC.out.2 HN.out HF2.out.1
    rw [hv] at hPa hPb
    rw [hv2] at hPc hPd
    clear hv hv2
    unfold Go.Proofs.YtkpkkjcfodjifaaDoor.hv at hPa hPb hPc hPd
    have HPa := hide hPa
    have HPb := hide hPb
    have HPc := hide hPc
    have HPd := hide hPd
    clear hPa hPb hPc hPd
    refine wp_region_noPanic ?_
    refine wp_region_held_drew (S := fun w' => Below Y.heap.size Y w') (by kernel_rfl) (Go.Proofs.YtkpkkjcfodjifaaDoor.K.drew (Below.refl _ Y)) (fun hS0 => ?_)
    refine wpAnyH_take (i := 0) (v := .pointer (some ⟨b0, 0, none⟩)) rfl (by kernel_rfl) (by kernel_rfl) (by kernel_rfl) (fun _ _ _ h => h) (Or.inl ⟨by rfl, fun w' _ => by go_simp⟩) hS0 ?_
    simp only [Act.put, List.getElem_toArray, List.getElem_cons_zero, List.setIfInBounds_toArray, List.set_cons_zero, List.set_cons_succ]
    refine wpAnyH_take (i := 1) (v := .int .i64 m) rfl (by kernel_rfl) (by kernel_rfl) (by kernel_rfl) (fun _ _ _ h => h) (Or.inl ⟨by rfl, fun w' hS => by have hc := later hS (cl_m HRc.out); go_simp⟩) hS0 ?_
    simp only [Act.put, List.getElem_toArray, List.getElem_cons_zero, List.getElem_cons_succ, List.setIfInBounds_toArray, List.set_cons_zero, List.set_cons_succ]
    refine wpAnyH_take (i := 2) (v := .pointer (some ⟨b0, 1, none⟩)) rfl (by kernel_rfl) (by kernel_rfl) (by kernel_rfl) (fun _ _ _ h => h) (Or.inl ⟨by rfl, fun w' _ => by go_simp⟩) hS0 ?_
    simp only [Act.put, List.getElem_toArray, List.getElem_cons_zero, List.getElem_cons_succ, List.setIfInBounds_toArray, List.set_cons_zero, List.set_cons_succ]
    refine wpAnyH_take (i := 3) (v := .int .i64 n) rfl (by kernel_rfl) (by kernel_rfl) (by kernel_rfl) (fun _ _ _ h => h) (Or.inl ⟨by rfl, fun w' hS => by have hc := later hS (cl_n HRc.out); go_simp⟩) hS0 ?_
    simp only [Act.put, List.getElem_toArray, List.getElem_cons_zero, List.getElem_cons_succ, List.setIfInBounds_toArray, List.set_cons_zero, List.set_cons_succ]
    refine wpAnyH_take (i := 4) (v := .pointer (some ⟨b0, 2, none⟩)) rfl (by kernel_rfl) (by kernel_rfl) (by kernel_rfl) (fun _ _ _ h => h) (Or.inl ⟨by rfl, fun w' _ => by go_simp⟩) hS0 ?_
    simp only [Act.put, List.getElem_toArray, List.getElem_cons_zero, List.getElem_cons_succ, List.setIfInBounds_toArray, List.set_cons_zero, List.set_cons_succ]
    refine wpAnyH_take (i := 5) (v := .agg (ab f 32).toArray) rfl (by kernel_rfl) (by kernel_rfl) (by kernel_rfl) (fun _ _ _ h => h) (yieldsIf_load_mid (by rfl) 23 _ rfl b0 2 (by rfl) (ab f 32) _ (fun w' hS => range_keep (cl_f HRc.out) hS) Tryd.underlying23 rfl (ilH _)) hS0 ?_
    simp only [Act.put, List.getElem_toArray, List.getElem_cons_zero, List.getElem_cons_succ, List.setIfInBounds_toArray, List.set_cons_zero, List.set_cons_succ]
    refine wpAnyH_take (i := 6) (v := .pointer (some ⟨b0, 34, none⟩)) rfl (by kernel_rfl) (by kernel_rfl) (by kernel_rfl) (fun _ _ _ h => h) (Or.inl ⟨by rfl, fun w' _ => by go_simp⟩) hS0 ?_
    simp only [Act.put, List.getElem_toArray, List.getElem_cons_zero, List.getElem_cons_succ, List.setIfInBounds_toArray, List.set_cons_zero, List.set_cons_succ]
    refine wpAnyH_take (i := 7) (v := .slice x l c) rfl (by kernel_rfl) (by kernel_rfl) (by kernel_rfl) (fun _ _ _ h => h) (Or.inl ⟨by rfl, fun w' hS => by have hc := later hS (cl_x HRc.out); go_simp⟩) hS0 ?_
    simp only [Act.put, List.getElem_toArray, List.getElem_cons_zero, List.getElem_cons_succ, List.setIfInBounds_toArray, List.set_cons_zero, List.set_cons_succ]
    refine wpAnyH_take (i := 8) (v := .pointer (some ⟨b0, 35, none⟩)) rfl (by kernel_rfl) (by kernel_rfl) (by kernel_rfl) (fun _ _ _ h => h) (Or.inl ⟨by rfl, fun w' _ => by go_simp⟩) hS0 ?_
    simp only [Act.put, List.getElem_toArray, List.getElem_cons_zero, List.getElem_cons_succ, List.setIfInBounds_toArray, List.set_cons_zero, List.set_cons_succ]
    refine wpAnyH_take (i := 9) (v := .agg (ab g 32).toArray) rfl (by kernel_rfl) (by kernel_rfl) (by kernel_rfl) (fun _ _ _ h => h) (yieldsIf_load_mid (by rfl) 23 _ rfl b0 35 (by rfl) (ab g 32) _ (fun w' hS => range_keep (cl_g HRc.out) hS) Tryd.underlying23 rfl (ilH _)) hS0 ?_
    simp only [Act.put, List.getElem_toArray, List.getElem_cons_zero, List.getElem_cons_succ, List.setIfInBounds_toArray, List.set_cons_zero, List.set_cons_succ]
    refine wpAnyH_take (i := 11) (v := .pointer (some ⟨b0, 0, none⟩)) rfl (by kernel_rfl) (by kernel_rfl) (by kernel_rfl) (fun _ _ _ h => h) (Or.inl ⟨by rfl, fun w' _ => by go_simp⟩) hS0 ?_
    simp only [Act.put, List.getElem_toArray, List.getElem_cons_zero, List.getElem_cons_succ, List.setIfInBounds_toArray, List.set_cons_zero, List.set_cons_succ]
    refine wpAnyH_take (i := 12) (v := .int .i64 m) rfl (by kernel_rfl) (by kernel_rfl) (by kernel_rfl) (fun _ _ _ h => h) (Or.inl ⟨by rfl, fun w' hS => by have hc := later hS (cl_m HRc.out); go_simp⟩) hS0 ?_
    simp only [Act.put, List.getElem_toArray, List.getElem_cons_zero, List.getElem_cons_succ, List.setIfInBounds_toArray, List.set_cons_zero, List.set_cons_succ]
    refine wpAnyH_take (i := 13) (v := .pointer (some ⟨b0, 1, none⟩)) rfl (by kernel_rfl) (by kernel_rfl) (by kernel_rfl) (fun _ _ _ h => h) (Or.inl ⟨by rfl, fun w' _ => by go_simp⟩) hS0 ?_
    simp only [Act.put, List.getElem_toArray, List.getElem_cons_zero, List.getElem_cons_succ, List.setIfInBounds_toArray, List.set_cons_zero, List.set_cons_succ]
    refine wpAnyH_take (i := 14) (v := .int .i64 n) rfl (by kernel_rfl) (by kernel_rfl) (by kernel_rfl) (fun _ _ _ h => h) (Or.inl ⟨by rfl, fun w' hS => by have hc := later hS (cl_n HRc.out); go_simp⟩) hS0 ?_
    simp only [Act.put, List.getElem_toArray, List.getElem_cons_zero, List.getElem_cons_succ, List.setIfInBounds_toArray, List.set_cons_zero, List.set_cons_succ]
    refine wpAnyH_take (i := 15) (v := .pointer (some ⟨b0, 2, none⟩)) rfl (by kernel_rfl) (by kernel_rfl) (by kernel_rfl) (fun _ _ _ h => h) (Or.inl ⟨by rfl, fun w' _ => by go_simp⟩) hS0 ?_
    simp only [Act.put, List.getElem_toArray, List.getElem_cons_zero, List.getElem_cons_succ, List.setIfInBounds_toArray, List.set_cons_zero, List.set_cons_succ]
    refine wpAnyH_take (i := 16) (v := .agg (ab f 32).toArray) rfl (by kernel_rfl) (by kernel_rfl) (by kernel_rfl) (fun _ _ _ h => h) (yieldsIf_load_mid (by rfl) 23 _ rfl b0 2 (by rfl) (ab f 32) _ (fun w' hS => range_keep (cl_f HRc.out) hS) Tryd.underlying23 rfl (ilH _)) hS0 ?_
    simp only [Act.put, List.getElem_toArray, List.getElem_cons_zero, List.getElem_cons_succ, List.setIfInBounds_toArray, List.set_cons_zero, List.set_cons_succ]
    refine wpAnyH_take (i := 17) (v := .pointer (some ⟨b0, 34, none⟩)) rfl (by kernel_rfl) (by kernel_rfl) (by kernel_rfl) (fun _ _ _ h => h) (Or.inl ⟨by rfl, fun w' _ => by go_simp⟩) hS0 ?_
    simp only [Act.put, List.getElem_toArray, List.getElem_cons_zero, List.getElem_cons_succ, List.setIfInBounds_toArray, List.set_cons_zero, List.set_cons_succ]
    refine wpAnyH_take (i := 18) (v := .slice x l c) rfl (by kernel_rfl) (by kernel_rfl) (by kernel_rfl) (fun _ _ _ h => h) (Or.inl ⟨by rfl, fun w' hS => by have hc := later hS (cl_x HRc.out); go_simp⟩) hS0 ?_
    simp only [Act.put, List.getElem_toArray, List.getElem_cons_zero, List.getElem_cons_succ, List.setIfInBounds_toArray, List.set_cons_zero, List.set_cons_succ]
    refine wpAnyH_take (i := 19) (v := .pointer (some ⟨b0, 35, none⟩)) rfl (by kernel_rfl) (by kernel_rfl) (by kernel_rfl) (fun _ _ _ h => h) (Or.inl ⟨by rfl, fun w' _ => by go_simp⟩) hS0 ?_
    simp only [Act.put, List.getElem_toArray, List.getElem_cons_zero, List.getElem_cons_succ, List.setIfInBounds_toArray, List.set_cons_zero, List.set_cons_succ]
    refine wpAnyH_take (i := 20) (v := .agg (ab g 32).toArray) rfl (by kernel_rfl) (by kernel_rfl) (by kernel_rfl) (fun _ _ _ h => h) (yieldsIf_load_mid (by rfl) 23 _ rfl b0 35 (by rfl) (ab g 32) _ (fun w' hS => range_keep (cl_g HRc.out) hS) Tryd.underlying23 rfl (ilH _)) hS0 ?_
    simp only [Act.put, List.getElem_toArray, List.getElem_cons_zero, List.getElem_cons_succ, List.setIfInBounds_toArray, List.set_cons_zero, List.set_cons_succ]
    refine wpAnyH_ready (rs := [10]) (by kernel_rfl) (by simp) (AllReadyH.cons rfl (fun Kt hK => ?_) AllReadyH.nil)
    refine wanted_pos rfl ?_
    refine wp_call (R := fun r w' => r = .bool v ∧ Below Y.heap.size Y w') (vs := #[.int .i64 m, .int .i64 n, .agg (ab f 32).toArray, .slice x l c, .agg (ab g 32).toArray]) rfl (by simp only [List.map_toArray, List.map_cons, List.map_nil]; rfl) (by go_simp) (Calls.mono (HPa.out _ hS0) (fun e w' ⟨he, hb⟩ => ⟨_, he, rfl, K.call hS0 hb⟩)) (fun r W1 ⟨hr, hb⟩ => ?_)
    subst hr
    refine hK.out _ _ hb (fun hS1 => ?_)
    clear hK Kt hb
    simp only [Act.put, List.getElem_toArray, List.getElem_cons_zero, List.getElem_cons_succ, List.setIfInBounds_toArray, List.set_cons_zero, List.set_cons_succ]
    refine wpAnyH_ready (rs := [21]) (by kernel_rfl) (by simp) (AllReadyH.cons rfl (fun Kt hK => ?_) AllReadyH.nil)
    refine wanted_pos rfl ?_
    refine wp_call (R := fun r w' => r = .bool v ∧ Below Y.heap.size Y w') (vs := #[.int .i64 m, .int .i64 n, .agg (ab f 32).toArray, .slice x l c, .agg (ab g 32).toArray]) rfl (by simp only [List.map_toArray, List.map_cons, List.map_nil]; rfl) (by go_simp) (Calls.mono (HPb.out _ hS1) (fun e w' ⟨he, hb⟩ => ⟨_, he, rfl, K.call hS1 hb⟩)) (fun r W2 ⟨hr, hb⟩ => ?_)
    subst hr
    refine hK.out _ _ hb (fun hS2 => ?_)
    clear hK Kt hb
    simp only [Act.put, List.getElem_toArray, List.getElem_cons_zero, List.getElem_cons_succ, List.setIfInBounds_toArray, List.set_cons_zero, List.set_cons_succ]
    refine wpAnyH_take (i := 22) (v := .bool true) rfl (by kernel_rfl) (by kernel_rfl) (by kernel_rfl) (fun _ _ _ h => h) (Or.inl ⟨by rfl, fun w' _ => by go_simp⟩) hS2 ?_
    simp only [Act.put, List.getElem_toArray, List.getElem_cons_zero, List.getElem_cons_succ, List.setIfInBounds_toArray, List.set_cons_zero, List.set_cons_succ]
    refine wpAnyH_take (i := 23) (v := .bool true) rfl (by kernel_rfl) (by kernel_rfl) (by kernel_rfl) (fun _ _ _ h => h) (Or.inl ⟨by rfl, fun w' _ => by go_simp⟩) hS2 ?_
    simp only [Act.put, List.getElem_toArray, List.getElem_cons_zero, List.getElem_cons_succ, List.setIfInBounds_toArray, List.set_cons_zero, List.set_cons_succ]
    refine wpAnyH_take (i := 24) (v := .pointer (some ⟨b3, 0, none⟩)) rfl (by kernel_rfl) (by kernel_rfl) (by kernel_rfl) (fun _ _ _ h => h) (Or.inl ⟨by rfl, fun w' _ => by go_simp⟩) hS2 ?_
    simp only [Act.put, List.getElem_toArray, List.getElem_cons_zero, List.getElem_cons_succ, List.setIfInBounds_toArray, List.set_cons_zero, List.set_cons_succ]
    refine wpAnyH_take (i := 25) (v := .int .i64 m) rfl (by kernel_rfl) (by kernel_rfl) (by kernel_rfl) (fun _ _ _ h => h) (Or.inl ⟨by rfl, fun w' hS => by have hc := later hS (cl_m HRd.out); go_simp⟩) hS2 ?_
    simp only [Act.put, List.getElem_toArray, List.getElem_cons_zero, List.getElem_cons_succ, List.setIfInBounds_toArray, List.set_cons_zero, List.set_cons_succ]
    refine wpAnyH_take (i := 26) (v := .pointer (some ⟨b3, 1, none⟩)) rfl (by kernel_rfl) (by kernel_rfl) (by kernel_rfl) (fun _ _ _ h => h) (Or.inl ⟨by rfl, fun w' _ => by go_simp⟩) hS2 ?_
    simp only [Act.put, List.getElem_toArray, List.getElem_cons_zero, List.getElem_cons_succ, List.setIfInBounds_toArray, List.set_cons_zero, List.set_cons_succ]
    refine wpAnyH_take (i := 27) (v := .int .i64 n) rfl (by kernel_rfl) (by kernel_rfl) (by kernel_rfl) (fun _ _ _ h => h) (Or.inl ⟨by rfl, fun w' hS => by have hc := later hS (cl_n HRd.out); go_simp⟩) hS2 ?_
    simp only [Act.put, List.getElem_toArray, List.getElem_cons_zero, List.getElem_cons_succ, List.setIfInBounds_toArray, List.set_cons_zero, List.set_cons_succ]
    refine wpAnyH_take (i := 28) (v := .pointer (some ⟨b3, 2, none⟩)) rfl (by kernel_rfl) (by kernel_rfl) (by kernel_rfl) (fun _ _ _ h => h) (Or.inl ⟨by rfl, fun w' _ => by go_simp⟩) hS2 ?_
    simp only [Act.put, List.getElem_toArray, List.getElem_cons_zero, List.getElem_cons_succ, List.setIfInBounds_toArray, List.set_cons_zero, List.set_cons_succ]
    refine wpAnyH_take (i := 29) (v := .agg (ab f2 32).toArray) rfl (by kernel_rfl) (by kernel_rfl) (by kernel_rfl) (fun _ _ _ h => h) (yieldsIf_load_mid (by rfl) 23 _ rfl b3 2 (by rfl) (ab f2 32) _ (fun w' hS => range_keep (cl_f HRd.out) hS) Tryd.underlying23 rfl (ilH _)) hS2 ?_
    simp only [Act.put, List.getElem_toArray, List.getElem_cons_zero, List.getElem_cons_succ, List.setIfInBounds_toArray, List.set_cons_zero, List.set_cons_succ]
    refine wpAnyH_take (i := 30) (v := .pointer (some ⟨b3, 34, none⟩)) rfl (by kernel_rfl) (by kernel_rfl) (by kernel_rfl) (fun _ _ _ h => h) (Or.inl ⟨by rfl, fun w' _ => by go_simp⟩) hS2 ?_
    simp only [Act.put, List.getElem_toArray, List.getElem_cons_zero, List.getElem_cons_succ, List.setIfInBounds_toArray, List.set_cons_zero, List.set_cons_succ]
    refine wpAnyH_take (i := 31) (v := .slice x l c) rfl (by kernel_rfl) (by kernel_rfl) (by kernel_rfl) (fun _ _ _ h => h) (Or.inl ⟨by rfl, fun w' hS => by have hc := later hS (cl_x HRd.out); go_simp⟩) hS2 ?_
    simp only [Act.put, List.getElem_toArray, List.getElem_cons_zero, List.getElem_cons_succ, List.setIfInBounds_toArray, List.set_cons_zero, List.set_cons_succ]
    refine wpAnyH_take (i := 32) (v := .pointer (some ⟨b3, 35, none⟩)) rfl (by kernel_rfl) (by kernel_rfl) (by kernel_rfl) (fun _ _ _ h => h) (Or.inl ⟨by rfl, fun w' _ => by go_simp⟩) hS2 ?_
    simp only [Act.put, List.getElem_toArray, List.getElem_cons_zero, List.getElem_cons_succ, List.setIfInBounds_toArray, List.set_cons_zero, List.set_cons_succ]
    refine wpAnyH_take (i := 33) (v := .agg (ab g2 32).toArray) rfl (by kernel_rfl) (by kernel_rfl) (by kernel_rfl) (fun _ _ _ h => h) (yieldsIf_load_mid (by rfl) 23 _ rfl b3 35 (by rfl) (ab g2 32) _ (fun w' hS => range_keep (cl_g HRd.out) hS) Tryd.underlying23 rfl (ilH _)) hS2 ?_
    simp only [Act.put, List.getElem_toArray, List.getElem_cons_zero, List.getElem_cons_succ, List.setIfInBounds_toArray, List.set_cons_zero, List.set_cons_succ]
    refine wpAnyH_take (i := 35) (v := .pointer (some ⟨b3, 0, none⟩)) rfl (by kernel_rfl) (by kernel_rfl) (by kernel_rfl) (fun _ _ _ h => h) (Or.inl ⟨by rfl, fun w' _ => by go_simp⟩) hS2 ?_
    simp only [Act.put, List.getElem_toArray, List.getElem_cons_zero, List.getElem_cons_succ, List.setIfInBounds_toArray, List.set_cons_zero, List.set_cons_succ]
    refine wpAnyH_take (i := 36) (v := .int .i64 m) rfl (by kernel_rfl) (by kernel_rfl) (by kernel_rfl) (fun _ _ _ h => h) (Or.inl ⟨by rfl, fun w' hS => by have hc := later hS (cl_m HRd.out); go_simp⟩) hS2 ?_
    simp only [Act.put, List.getElem_toArray, List.getElem_cons_zero, List.getElem_cons_succ, List.setIfInBounds_toArray, List.set_cons_zero, List.set_cons_succ]
    refine wpAnyH_take (i := 37) (v := .pointer (some ⟨b3, 1, none⟩)) rfl (by kernel_rfl) (by kernel_rfl) (by kernel_rfl) (fun _ _ _ h => h) (Or.inl ⟨by rfl, fun w' _ => by go_simp⟩) hS2 ?_
    simp only [Act.put, List.getElem_toArray, List.getElem_cons_zero, List.getElem_cons_succ, List.setIfInBounds_toArray, List.set_cons_zero, List.set_cons_succ]
    refine wpAnyH_take (i := 38) (v := .int .i64 n) rfl (by kernel_rfl) (by kernel_rfl) (by kernel_rfl) (fun _ _ _ h => h) (Or.inl ⟨by rfl, fun w' hS => by have hc := later hS (cl_n HRd.out); go_simp⟩) hS2 ?_
    simp only [Act.put, List.getElem_toArray, List.getElem_cons_zero, List.getElem_cons_succ, List.setIfInBounds_toArray, List.set_cons_zero, List.set_cons_succ]
    refine wpAnyH_take (i := 39) (v := .pointer (some ⟨b3, 2, none⟩)) rfl (by kernel_rfl) (by kernel_rfl) (by kernel_rfl) (fun _ _ _ h => h) (Or.inl ⟨by rfl, fun w' _ => by go_simp⟩) hS2 ?_
    simp only [Act.put, List.getElem_toArray, List.getElem_cons_zero, List.getElem_cons_succ, List.setIfInBounds_toArray, List.set_cons_zero, List.set_cons_succ]
    refine wpAnyH_take (i := 40) (v := .agg (ab f2 32).toArray) rfl (by kernel_rfl) (by kernel_rfl) (by kernel_rfl) (fun _ _ _ h => h) (yieldsIf_load_mid (by rfl) 23 _ rfl b3 2 (by rfl) (ab f2 32) _ (fun w' hS => range_keep (cl_f HRd.out) hS) Tryd.underlying23 rfl (ilH _)) hS2 ?_
    simp only [Act.put, List.getElem_toArray, List.getElem_cons_zero, List.getElem_cons_succ, List.setIfInBounds_toArray, List.set_cons_zero, List.set_cons_succ]
    refine wpAnyH_take (i := 41) (v := .pointer (some ⟨b3, 34, none⟩)) rfl (by kernel_rfl) (by kernel_rfl) (by kernel_rfl) (fun _ _ _ h => h) (Or.inl ⟨by rfl, fun w' _ => by go_simp⟩) hS2 ?_
    simp only [Act.put, List.getElem_toArray, List.getElem_cons_zero, List.getElem_cons_succ, List.setIfInBounds_toArray, List.set_cons_zero, List.set_cons_succ]
    refine wpAnyH_take (i := 42) (v := .slice x l c) rfl (by kernel_rfl) (by kernel_rfl) (by kernel_rfl) (fun _ _ _ h => h) (Or.inl ⟨by rfl, fun w' hS => by have hc := later hS (cl_x HRd.out); go_simp⟩) hS2 ?_
    simp only [Act.put, List.getElem_toArray, List.getElem_cons_zero, List.getElem_cons_succ, List.setIfInBounds_toArray, List.set_cons_zero, List.set_cons_succ]
    refine wpAnyH_take (i := 43) (v := .pointer (some ⟨b3, 35, none⟩)) rfl (by kernel_rfl) (by kernel_rfl) (by kernel_rfl) (fun _ _ _ h => h) (Or.inl ⟨by rfl, fun w' _ => by go_simp⟩) hS2 ?_
    simp only [Act.put, List.getElem_toArray, List.getElem_cons_zero, List.getElem_cons_succ, List.setIfInBounds_toArray, List.set_cons_zero, List.set_cons_succ]
    refine wpAnyH_take (i := 44) (v := .agg (ab g2 32).toArray) rfl (by kernel_rfl) (by kernel_rfl) (by kernel_rfl) (fun _ _ _ h => h) (yieldsIf_load_mid (by rfl) 23 _ rfl b3 35 (by rfl) (ab g2 32) _ (fun w' hS => range_keep (cl_g HRd.out) hS) Tryd.underlying23 rfl (ilH _)) hS2 ?_
    simp only [Act.put, List.getElem_toArray, List.getElem_cons_zero, List.getElem_cons_succ, List.setIfInBounds_toArray, List.set_cons_zero, List.set_cons_succ]
    refine wpAnyH_ready (rs := [34]) (by kernel_rfl) (by simp) (AllReadyH.cons rfl (fun Kt hK => ?_) AllReadyH.nil)
    refine wanted_pos rfl ?_
    refine wp_call (R := fun r w' => r = .bool v2 ∧ Below Y.heap.size Y w') (vs := #[.int .i64 m, .int .i64 n, .agg (ab f2 32).toArray, .slice x l c, .agg (ab g2 32).toArray]) rfl (by simp only [List.map_toArray, List.map_cons, List.map_nil]; rfl) (by go_simp) (Calls.mono (HPc.out _ hS2) (fun e w' ⟨he, hb⟩ => ⟨_, he, rfl, K.call hS2 hb⟩)) (fun r W3 ⟨hr, hb⟩ => ?_)
    subst hr
    refine hK.out _ _ hb (fun hS3 => ?_)
    clear hK Kt hb
    simp only [Act.put, List.getElem_toArray, List.getElem_cons_zero, List.getElem_cons_succ, List.setIfInBounds_toArray, List.set_cons_zero, List.set_cons_succ]
    refine wpAnyH_ready (rs := [45]) (by kernel_rfl) (by simp) (AllReadyH.cons rfl (fun Kt hK => ?_) AllReadyH.nil)
    refine wanted_pos rfl ?_
    refine wp_call (R := fun r w' => r = .bool v2 ∧ Below Y.heap.size Y w') (vs := #[.int .i64 m, .int .i64 n, .agg (ab f2 32).toArray, .slice x l c, .agg (ab g2 32).toArray]) rfl (by simp only [List.map_toArray, List.map_cons, List.map_nil]; rfl) (by go_simp) (Calls.mono (HPd.out _ hS3) (fun e w' ⟨he, hb⟩ => ⟨_, he, rfl, K.call hS3 hb⟩)) (fun r W4 ⟨hr, hb⟩ => ?_)
    subst hr
    refine hK.out _ _ hb (fun hS4 => ?_)
    clear hK Kt hb
    simp only [Act.put, List.getElem_toArray, List.getElem_cons_zero, List.getElem_cons_succ, List.setIfInBounds_toArray, List.set_cons_zero, List.set_cons_succ]
    refine wpAnyH_take (i := 46) (v := .bool true) rfl (by kernel_rfl) (by kernel_rfl) (by kernel_rfl) (fun _ _ _ h => h) (Or.inl ⟨by rfl, fun w' _ => by go_simp⟩) hS4 ?_
    simp only [Act.put, List.getElem_toArray, List.getElem_cons_zero, List.getElem_cons_succ, List.setIfInBounds_toArray, List.set_cons_zero, List.set_cons_succ]
    refine wpAnyH_take (i := 47) (v := .bool true) rfl (by kernel_rfl) (by kernel_rfl) (by kernel_rfl) (fun _ _ _ h => h) (Or.inl ⟨by rfl, fun w' _ => by go_simp⟩) hS4 ?_
    simp only [Act.put, List.getElem_toArray, List.getElem_cons_zero, List.getElem_cons_succ, List.setIfInBounds_toArray, List.set_cons_zero, List.set_cons_succ]
    refine wpAnyH_take (i := 48) (v := .bool true) rfl (by kernel_rfl) (by kernel_rfl) (by kernel_rfl) (fun _ _ _ h => h) (Or.inl ⟨by rfl, fun w' _ => by go_simp⟩) hS4 ?_
    simp only [Act.put, List.getElem_toArray, List.getElem_cons_zero, List.getElem_cons_succ, List.setIfInBounds_toArray, List.set_cons_zero, List.set_cons_succ]
    refine wpAnyH_done (by kernel_rfl) ?_ _
    refine NoPanic.normal ?_
    go_wp2_with fail
    go_ret
    exact ⟨rfl, Go.Proofs.YtkpkkjcfodjifaaDoor.K.call HV6.out.k hS4⟩
  · have hq : (70 : Int) < (l : Int) := by omega
    clear hl
    go_enter Tryd.func3, Tryd.ntmps3
    go_upto_region 1 with fail
    refine wp_world (fun X hX => ?_)
    have hv : Vc w X [(w.heap.size, cl m n f x l c g)] := by rw [hX]; exact (Vc.nil w).made 26 _
    clear hX
    obtain ⟨b0, hb0⟩ : ∃ b0, w.heap.size = b0 := ⟨_, rfl⟩
    rw [hb0] at hv ⊢
    have HV := hide hv
    have HTX := hide (HT.out.keep hv.k)
    clear hv hb0
    go_upto_region 2 with (go_at_call 8; refine Calls.mono (awake_any HTX.out) ?_; rintro e W1 ⟨rfl, hb⟩; have HV1 := hide (HV.out.keep hb); have HT1 := hide (HTX.out.keep hb); have hcx := cl_x (HV1.out.row 0 rfl).c; clear hb HV HTX)
    clear hcx
    go_wp2_with (go_at_call 8; refine Calls.mono (awake_any HT1.out) ?_; rintro e W2 ⟨rfl, hb⟩; have HV2 := hide (HV1.out.keep hb); clear hb)
    go_ret
    exact ⟨rfl, HV2.out.k⟩
end Go.Proofs.YtkpkkjcfodjifaaDoor
