/- Layer 15: the law of what is refused. Layer 15: the law of whatever stands there. Layer 15: the calls of a script, as they are handed in. Layer 15: what the law of crashes walks over. -/
import Derived.Test.YtjgpopjpmfkfmaaMD43
import Derived.Test.YtjgpopjpmfkfmaaMD28
namespace Go.Proofs.Ytjgpopjpmfkfmaa
open Go.RowKit Go.Maps
attribute [local go_sem ↓] Go.wp_at_zero Go.wp_at_succ

/-- A list beside a store whose calls go on. -/
theorem Lst.grown {w w' : World} {base : Nat} {O : Nat → Bool} {v : Value} {L : List (List Nat)} {cs : List Value} (h : Lst w base O v L cs) (hK : Kp O w w') : Lst w' base (grow O w w') v L cs :=
  (h.more (Y := grow O w w') (fun _ hk => (grow_of.1 hk).imp id And.left)).kp (hK.mono (fun _ hk => grow_of.2 (Or.inl hk)))
/-- The disk's blocks, and a list's row. -/
def Yw (b lb mb : Nat) (v : Value) (k : Nat) : Bool := X3 b lb mb k || decide (v.ownBlock = some k)
theorem Yw_of {b lb mb : Nat} {v : Value} {k : Nat} : Yw b lb mb v k = true ↔ X3 b lb mb k = true ∨ v.ownBlock = some k := by
  unfold Yw
  simp
/-- A store, and a list that is gathered beside it. -/
structure FuI (w wr : World) (b lb mb t : Nat) (O : Nat → Bool) (v : Value) (L : List (List Nat)) (cs : List Value) (s : SM) : Prop where
  p : PW wr b lb mb t O (Yw b lb mb v) s
  l : Lst wr w.heap.size O v L cs
  g : ∀ k, O k = true → w.heap.size ≤ k
  k : Below w.heap.size w wr
section
variable {w wr w1 : World} {b lb mb t : Nat} {O : Nat → Bool} {v : Value} {L : List (List Nat)} {cs : List Value} {s s' : SM}
theorem FuI.keep (h : FuI w wr b lb mb t O v L cs s) (hB : Below wr.heap.size wr w1) : FuI w w1 b lb mb t O v L cs s :=
  ⟨h.p.keep hB, h.l.keep hB, h.g, h.k.trans (hB.mono h.k.size)⟩
theorem FuI.call (h : FuI w wr b lb mb t O v L cs s) (hp : PW w1 b lb mb t (grow O wr w1) (Yw b lb mb v) s') (hK : Kp O wr w1) : FuI w w1 b lb mb t (grow O wr w1) v L cs s' :=
  ⟨hp, h.l.grown hK, fun k hk => by
    rcases grow_of.1 hk with e | e
    · exact h.g k e
    · exact Nat.le_trans h.k.size e.1, kp_below h.k hK h.g⟩
/-- One text more in the list. -/
theorem FuI.push (h : FuI w wr b lb mb t O v L cs s) {x : Option Addr} {m c : Nat} {f : Nat → Nat} (hb : BA wr x m f) (hx : 0 < m → ∀ p, x = some p → p.block < w.heap.size ∨ (O p.block = false ∧ v.ownBlock ≠ some p.block)) {o : Obj} {v' : Value}
    (ho : w1.ownsRow w.heap.size 38 1 v' (L.length + 1) (cs ++ [.slice x m c])) (hG : (wr.alloc o).grownBy w1 v.ownBlock) (hat : v'.ownBlock = v.ownBlock ∨ v'.ownBlock = some (wr.alloc o).heap.size) : FuI w w1 b lb mb t O v' (L ++ [fl f m]) (cs ++ [.slice x m c]) s := by
  have hB := K.alloc (Below.refl _ wr) o
  have h1 := h.keep hB
  have hX : ∀ k, X3 b lb mb k = true → O k = true := fun k hk => h.p.x3 hk
  have hl : Lst w1 w.heap.size O v' (L ++ [fl f m]) (cs ++ [.slice x m c]) := h1.l.push (fun k hk => h1.p.ol hk) (hb.keep hB) (fun hm p hp => by
    rcases hx hm p hp with e | e
    · refine ⟨?_, fun e2 => ?_⟩
      · cases hq : O p.block with
        | false => rfl
        | true => have := h.g _ hq; omega
      · have := (h.l.o.lt _ e2).1; omega
    · exact e) ho hG hat
  refine ⟨h1.p.other (Z := fun k => decide (v.ownBlock = some k)) (grown_kp hG (fun k hk => decide_eq_true hk)) (fun k hk => ⟨Yw_of.2 (Or.inr (of_decide_eq_true hk)), ?_⟩) (fun k hk => ?_) (fun k hk => Yw_of.2 (Or.inl hk)), hl, h.g, h1.k.grown hG h1.k.size (fun k hk => (h1.l.o.lt k hk).1)⟩
  · cases hq : X3 b lb mb k with
    | false => rfl
    | true => have := h.l.x k (of_decide_eq_true hk); rw [hX k hq] at this; cases this
  · rcases Yw_of.1 hk with e | e
    · exact ⟨Or.inl (Yw_of.2 (Or.inl e)), Nat.lt_of_lt_of_le (h1.p.ol (hX k e)) hG.size⟩
    · refine ⟨?_, (hl.o.lt k e).2⟩
      rcases hat with e2 | e2
      · exact Or.inl (Yw_of.2 (Or.inr (e2.symm.trans e)))
      · rw [e2] at e
        cases e
        exact Or.inr (Nat.le_refl _)
end
/-- While the entries are appended: all that was taken waits, and is gathered. -/
structure FlI (w wr : World) (b lb mb t : Nat) (O : Nat → Bool) (v : Value) (cs : List Value) (s : SM) (N : Nat) : Prop where
  i : FuI w wr b lb mb t O v s.W cs s
  f : s.D.free
  o : s.o = false
  k : s.K = []
  n : s.D.n = N
theorem FlI.keep {w wr w1 : World} {b lb mb t N : Nat} {O : Nat → Bool} {v : Value} {cs : List Value} {s : SM} (h : FlI w wr b lb mb t O v cs s N) (hB : Below wr.heap.size wr w1) : FlI w w1 b lb mb t O v cs s N := ⟨h.i.keep hB, h.f, h.o, h.k, h.n⟩
section
variable {w wr : World} {b lb mb t N : Nat} {O : Nat → Bool} {v : Value} {cs : List Value} {s : SM}
theorem FuI.out3 {L : List (List Nat)} (h : FuI w wr b lb mb t O v L cs s) {x : Option Addr} {m : Nat} {f : Nat → Nat} (hb : BA w x m f) (h0 : 0 < m) (p : Addr) (hp : x = some p) : p.block < w.heap.size ∧ X3 b lb mb p.block = false := by
  obtain ⟨b1, o1, e, hl⟩ := ba_lt hb h0
  rw [hp] at e
  cases e
  refine ⟨hl, ?_⟩
  cases hq : X3 b lb mb b1 with
  | false => rfl
  | true => have := h.g _ (h.p.x3 hq); omega
theorem FlI.ap_ok (h : FlI w wr b lb mb t O v cs s N) {x : Option Addr} {m c : Nat} {f : Nat → Nat} (hb : BA w x m f) (hm : ¬ 200 < m) (hn : ¬ N < 3 + tks s.W + tk m) : Calls Try.prog 15 #[pp t, .slice x m c] wr fun e w' => e = .returned (.int .i64 0) ∧ ∃ O' s', FuI w w' b lb mb t O' v s.W cs s' ∧ s'.D.free ∧ s'.o = false ∧ s'.K = [] ∧ s'.D.n = N ∧ s'.W = s.W ++ [fl f m] := by
  have hl : (fl f m).length = m := fl_len f m
  have hk0 : tks s.K = 0 := by rw [h.k]; rfl
  obtain ⟨g1, g2, g3, g4, g5, g6⟩ := ap_free (s := s) (l := fl f m) h.f h.o (fun y hy => by obtain ⟨i, _, rfl⟩ := List.mem_map.1 hy; exact hb.lt i) (by rw [hl]; omega) (by rw [hl, hk0, h.n]; omega)
  refine Calls.mono (ap_pw h.i.p (hb.keep h.i.k) (fun h0 p hp => (h.i.out3 hb h0 p hp).2)) ?_
  rintro e w' ⟨rfl, h1, h2⟩
  rw [g1]
  exact ⟨rfl, _, _, h.i.call h1 h2, g2, g6, g4.trans h.k, g3.trans h.n, g5⟩
end
end Go.Proofs.Ytjgpopjpmfkfmaa
namespace Go.Proofs.Ytjgpopjpmfkfmaa
open Go.RowKit Go.Maps
attribute [local go_sem ↓] Go.wp_at_zero Go.wp_at_succ

theorem open_yes {w : World} {b lb mb : Nat} {D : DM} (h : Dsk w b lb mb D) (he : D.opE = 0) : Calls Try.prog 12 #[pp b] w fun e w' => ∃ t, e = .returned (.tuple #[pp t, .int .i64 0]) ∧ PW w' b lb mb t (grow (X3 b lb mb) w w') (X3 b lb mb) ⟨D.mendD 0, D.opL, [], false⟩ ∧ Kp (X3 b lb mb) w w' := by
  refine Calls.mono (open_pw (Y := X3 b lb mb) h (fun _ hg => hg) h.xl) ?_
  rintro e w' ⟨W, h1, h2, h3, ⟨_, t, rfl, h4, _⟩ | ⟨hne, _⟩⟩
  · exact ⟨t, rfl, h4, h2.trans (Kp.of h3)⟩
  · exact absurd he hne
end Go.Proofs.Ytjgpopjpmfkfmaa
namespace Go.Proofs.Ytjgpopjpmfkfmaa
open Go.ChangeShapes Go.WideShapes Go.ChangeAt Go.RowKit

theorem cellsOp : Try.prog.cellsOf 43 = 6 := by kernel_rfl
theorem open_op_cells {H : Type} {enc : TypeId × Value → H} {W : World} {fuel : Nat} {x0 x1 x2 x3 x4 x5 : Value} {y : DataW H × List MemPlace} (hf : DataW.trod enc Try.prog W 0 (fun _ => true) true fuel 43 [x0, x1, x2, x3, x4, x5] = some y) :
    ∃ o : OpV, [x0, x1, x2, x3, x4, x5] = o.cells ∧ o.ok W := by
  cases fuel with
  | zero => simp [DataW.trod] at hf
  | succ fuel =>
    simp only [DataW.trod, Try.underlying43, cellsOp] at hf
    split at hf
    · simp only [Option.map_eq_some_iff, List.mapM_cons, List.mapM_nil, Option.bind_eq_bind, Option.bind_eq_some_iff, Option.pure_def, Option.some.injEq] at hf
      obtain ⟨ys, ⟨y0, h0, _, ⟨y1, h1, _, ⟨y2, h2, _, ⟨y3, h3, _, rfl, rfl⟩, rfl⟩, rfl⟩, rfl⟩, hx⟩ := hf
      obtain ⟨kd, e, rfl, wk⟩ := DataW.trod_int Try.underlying3 h0
      simp [cellsInt] at e
      subst e
      obtain ⟨i, e, rfl, wi⟩ := DataW.trod_int Try.underlying3 h1
      simp [cellsInt] at e
      subst e
      simp [cellsBytes] at h2
      obtain ⟨x, m, c, f, rfl, hb, _⟩ := open_byteslice h2
      simp [cellsFate] at h3
      obtain ⟨z, KL, k, t, a, rfl, rfl, rfl, hk, ht, ha⟩ := open_fate_cells h3
      exact ⟨⟨kd, i, x, m, c, f, z, KL, k, t, a⟩, rfl, ⟨i64_of wk, i64_of wi, hb, hk, ht, ha⟩⟩
    · cases hf
set_option maxRecDepth 100000 in
theorem open_ops_cells {H : Type} {enc : TypeId × Value → H} {W : World} {fuel : Nat} {c0 : Value} {y : DataW H × List MemPlace} (hf : DataW.trod enc Try.prog W 0 (fun _ => true) true fuel 22 [c0] = some y) :
    ∃ z n c O, c0 = .slice z n c ∧ OpsAt W z n O := by
  rcases Go.Deep.open_slice Try.underlying22 hf with ⟨hcs, _⟩ | ⟨a, len, cap, m, n, D, Pl, hcs, _, hl, _, hm, _, hx⟩
  · simp at hcs
    exact ⟨none, 0, 0, fun _ => ⟨0, 0, none, 0, 0, fun _ => 0, none, [], 0, 0, 0⟩, hcs, ⟨Or.inl rfl, fun i hi => by omega⟩⟩
  · simp at hcs
    simp only [if_true] at hm
    subst hm hcs
    rw [cellsOp] at hx
    have key : ∀ i, i < m → ∃ o : OpV, W.cells? 0 (a.add (i * 6)) 6 = some o.cells ∧ o.ok W := fun i hi => by
      obtain ⟨cs', h1, h2⟩ := hx i hi
      obtain ⟨_, hlen, _⟩ := World.cells?_some h1
      obtain ⟨x0, x1, x2, x3, x4, x5, rfl⟩ := list6 cs' hlen
      obtain ⟨o, e, ho⟩ := open_op_cells h2
      exact ⟨o, by rw [h1, e], ho⟩
    have hI : Inhabited OpV := ⟨⟨0, 0, none, 0, 0, fun _ => 0, none, [], 0, 0, 0⟩⟩
    obtain ⟨O, hO⟩ := Go.Deep.choose_lt key
    refine ⟨some a, len, m, O, rfl, ⟨?_, fun i hi => (hO i (by omega)).2⟩⟩
    by_cases h0 : len = 0
    · exact Or.inl h0
    · right
      obtain ⟨b, off, spot⟩ := a
      have hc : ∀ i j, i < len → j < 6 → W.cell? (((⟨b, off, spot⟩ : Addr).add (i * 6)).add j) = (O i).cells[j]? := fun i j hi hj => (World.cells?_some (hO i (by omega)).1).2.2 j hj
      have hspot : spot = none := by
        have h1 : W.cell? (((⟨b, off, spot⟩ : Addr).add (0 * 6)).add 0) = some (.int .i64 (O 0).kd) := hc 0 0 (by omega) (by omega)
        simpa [Addr.add] using World.cell?_spot h1
      subst hspot
      refine ⟨b, off, rfl, fun i hi j v hv => ?_⟩
      have hj : j < 6 := (List.getElem?_eq_some_iff.1 hv).1
      have := hc i j hi hj
      rw [Addr.add_mid, Addr.add_mid] at this
      rw [this]
      exact hv
set_option maxRecDepth 100000 in
theorem open_ops {H : Type} {enc : TypeId × Value → H} {W : World} {base : Nat} {v : Value} {d : DataW H} {p : List MemPlace}
    (hv : Value.okWide Try.prog W .any base 22 v) (h : DataW.Trod enc Try.prog W 0 (fun _ => true) true 22 v d p) :
    ∃ z n c O, v = .slice z n c ∧ OpsAt W z n O := by
  obtain ⟨a0, len, cap, rfl⟩ := okWide_slice Try.underlying22 hv
  obtain ⟨fuel, hf⟩ := h
  exact open_ops_cells hf
theorem sizeOp : (Try.prog.info? 43).map (·.size) = some 6 := by kernel_rfl
attribute [local go_sem ↓] Go.wp_at_zero Go.wp_at_succ
section
variable {w : World} {ops : Array Oper} {rest : List Oper} {o : Oper} {a : Act} {Q : Exit → Act → World → Prop}
theorem wpList_load_op (hgd : o.guard = none) (x : Operand) (hop : o.op = Op.load 43 x) {g off : Nat} {ov : OpV} (hx : a.eval x = .pointer (some ⟨g, off, none⟩)) (ht : w.rangeAt g off ov.cells) (hK : wpList Try.prog ops Q rest (a.put o.dst (.agg ov.cells.toArray)) w) : wpList Try.prog ops Q (o :: rest) a w :=
  wpList_load_mid hgd 43 x hop g off hx ov.cells _ ht Try.underlying43 rfl sizeOp hK
theorem wpList_alloc_op (hgd : o.guard = none) (hop : o.op = Op.alloc 43) (hK : ∀ w', Below w.heap.size w w' → w'.heap.size = w.heap.size + 1 → w'.there w.heap.size 0 6 → wpList Try.prog ops Q rest (a.put o.dst (pp w.heap.size)) w') : wpList Try.prog ops Q (o :: rest) a w := by
  refine wpList_plain hgd fun K' hK' => ?_
  unfold Oper.wp
  have hrun : (execOp a.eval o).run Try.prog w = .ok (.value (pp w.heap.size)) (w.alloc (.cells #[.int .i64 0, .int .i64 0, .slice none 0 0, .slice none 0 0, .int .i64 0, .int .i64 0] 43)) := by
    unfold execOp
    simp [hop, Instr.alloc, newVar, newRow, Result.andThen, Value.cells]
  rw [hrun]
  have hh : (w.alloc (.cells #[.int .i64 0, .int .i64 0, .slice none 0 0, .slice none 0 0, .int .i64 0, .int .i64 0] 43)).heap[w.heap.size]? = some (.cells #[.int .i64 0, .int .i64 0, .slice none 0 0, .slice none 0 0, .int .i64 0, .int .i64 0] 43) := heap_alloc_new w _
  refine hK' _ _ (hK _ (K.alloc (Below.refl _ _) _) (by simp) (fun j hj => ⟨?_, ?_⟩))
  · unfold World.cell?
    simp only [hh, Nat.zero_add]
    rw [Array.getElem?_eq_getElem (by exact hj)]
    rfl
  · unfold World.frozen?
    simp only [hh]
    simp
theorem wpList_store_op (hgd : o.guard = none) (x y : Operand) (hop : o.op = Op.store 43 x y) {g : Nat} {ov : OpV} {w0 : World} (hx : a.eval x = .pointer (some ⟨g, 0, none⟩)) (hy : a.eval y = .agg ov.cells.toArray) (hB : Below w0.heap.size w0 w) (hg : w0.heap.size ≤ g) (hl : g < w.heap.size) (ht : w.there g 0 6) (hK : ∀ w', VarO w0 w' g ov → wpList Try.prog ops Q rest (a.put o.dst undef) w') : wpList Try.prog ops Q (o :: rest) a w :=
  wpList_store_mid hgd 43 x y hop g 0 ov.cells.toArray hx hy ht sizeOp (all_oneCell_toArray (opcells_one ov)) (hK _ ⟨below_sets g hg _ _ _ hB, hg, by rw [size_sets]; exact hl, World.rangeAt_setCells_same _ _ _ _ ht⟩)
end
end Go.Proofs.Ytjgpopjpmfkfmaa
namespace Go.Proofs.Ytjgpopjpmfkfmaa
open Go.RowKit Go.Maps
attribute [local go_sem ↓] Go.wp_at_zero Go.wp_at_succ

theorem OpsAt.cells' {W : World} {z : Option Addr} {n : Nat} {O : Nat → OpV} (h : OpsAt W z n O) (hn : 0 < n) : ∃ b o, z = some ⟨b, o, none⟩ ∧ ∀ i, i < n → W.rangeAt b (o + i * 6) (O i).cells := h.at_.resolve_left (by omega)
/-- Calls of a size that is looked at. -/
def fewO (n : Nat) (O : Nat → OpV) : Prop := n ≤ 40 ∧ ∀ j, j < n → (O j).m ≤ 300 ∧ (O j).KL.length ≤ 200
def FeP (w : World) (r : Bool) (e : Ending) (w' : World) : Prop := e = .returned (.bool r) ∧ w' = w
theorem few_f {r : Bool} {n : Nat} {O : Nat → OpV} (hr : r = true ↔ fewO n O) (h : ¬ fewO n O) : r = false := by
  cases r with
  | false => rfl
  | true => exact absurd (hr.1 rfl) h
set_option maxRecDepth 100000 in
set_option maxHeartbeats 4000000 in
theorem few_n {w : World} {z : Option Addr} {n c : Nat} {O : Nat → OpV} (h : OpsAt w z n O) {r : Bool} (hr : r = true ↔ fewO n O) : Calls Try.prog 9 #[.slice z n c, .int .i64 40] w (FeP w r) := by
  have HO := hide h
  have HR := hide hr
  clear h hr
  go_enter Try.func9, Try.ntmps9
  go_wp2_with fail
  go_loopg [5] n (fun g' s5 wr => ∃ i : Nat, g' = n - i ∧ i ≤ n ∧ i ≤ 200 ∧ s5 = .int .i64 (i : Int) ∧ wr = w ∧ Hid (∀ j, j < i → (O j).m ≤ 300 ∧ (O j).KL.length ≤ 200))
  case atStart => exact ⟨0, rfl, Nat.zero_le _, Nat.zero_le _, rfl, rfl, fun j hj => absurd hj (by omega)⟩
  case round =>
    obtain ⟨i, rfl, hi, hi2, rfl, rfl, HJ⟩ := hrel
    by_cases hlt : i < n
    · have hlt' : (i : Int) < (n : Int) := by omega
      by_cases h2 : i < 200
      · have h2' : (i : Int) < 200 := by omega
        have hw1 : wrap64 ((i : Int) + 1) = (i : Int) + 1 := w63 (by omega) (by omega)
        obtain ⟨bb, oo, rfl, hc⟩ := HO.out.cells' (by omega)
        have c2 := hc i hlt 2 _ rfl
        have c3 := hc i hlt 3 _ rfl
        clear hc
        by_cases m1 : 300 < (O i).m
        · have m1' : (300 : Int) < ((O i).m : Int) := by omega
          go_wp2_with fail
          go_ret
          exact ⟨by rw [few_f HR.out (fun hh => by have := (hh.2 i hlt).1; omega)]; rfl, rfl⟩
        · have m1' : ¬ ((300 : Int) < ((O i).m : Int)) := by omega
          by_cases m2 : 200 < (O i).KL.length
          · have m2' : (200 : Int) < ((O i).KL.length : Int) := by omega
            go_wp2_with fail
            go_ret
            exact ⟨by rw [few_f HR.out (fun hh => by have := (hh.2 i hlt).2; omega)]; rfl, rfl⟩
          · have m2' : ¬ ((200 : Int) < ((O i).KL.length : Int)) := by omega
            have HJ2 : Hid (∀ j, j < i + 1 → (O j).m ≤ 300 ∧ (O j).KL.length ≤ 200) := fun j hj => by
              by_cases e : j = i
              · rw [e]; exact ⟨by omega, by omega⟩
              · exact HJ.out j (by omega)
            go_wp2_with fail
            go_roundg (n - (i + 1))
            case measure => omega
            case rel => exact ⟨i + 1, rfl, hlt, h2, by simp, rfl, HJ2⟩
      · have h2' : ¬ ((i : Int) < 200) := by omega
        have h3 : ¬ ((n : Int) ≤ 40) := by omega
        go_wp2_with fail
        go_ret
        exact ⟨by rw [few_f HR.out (fun hh => by have := hh.1; omega)]; rfl, rfl⟩
    · obtain rfl : i = n := by omega
      by_cases h3 : i ≤ 40
      · have h3' : (i : Int) ≤ 40 := by omega
        have er : r = true := HR.out.2 ⟨h3, HJ.out⟩
        go_wp2_with fail
        go_ret
        exact ⟨by rw [er]; rfl, rfl⟩
      · have h3' : ¬ ((i : Int) ≤ 40) := by omega
        go_wp2_with fail
        go_ret
        exact ⟨by rw [few_f HR.out (fun hh => h3 hh.1)]; rfl, rfl⟩
theorem sizeFt : (Try.prog.info? 41).map (·.size) = some 3 := by kernel_rfl
theorem wpList_load_f3 {w : World} {ops : Array Oper} {rest : List Oper} {o : Oper} {a : Act} {Q : Exit → Act → World → Prop} (hgd : o.guard = none) (x : Operand) (hop : o.op = Op.load 41 x) {g off : Nat} {v0 v1 v2 : Value} (hx : a.eval x = .pointer (some ⟨g, off, none⟩)) (ht : w.rangeAt g off [v0, v1, v2]) (hK : wpList Try.prog ops Q rest (a.put o.dst (.agg #[v0, v1, v2])) w) : wpList Try.prog ops Q (o :: rest) a w :=
  wpList_load_mid hgd 41 x hop g off hx [v0, v1, v2] _ ht Try.underlying41 rfl sizeFt hK
section
variable {op : Oper} {a : Act} {w : World} {Kt : Act → World → Prop} {Q : Exit → Act → World → Prop}
theorem wp_build0L (ho : op.op = .buildSlice 47 0 #[]) (h : Kt (a.put op.dst (.slice (some ⟨w.heap.size, 0, none⟩) 0 0)) (w.alloc (.cells #[] 38))) : Oper.wp Try.prog op a w Kt Q := by
  unfold Oper.wp execOp
  simp only [ho]
  go_simp
  exact h
theorem wp_build0B (ho : op.op = .buildSlice 38 0 #[]) (h : Kt (a.put op.dst (.slice (some ⟨w.heap.size, 0, none⟩) 0 0)) (w.alloc (.cells #[] 5))) : Oper.wp Try.prog op a w Kt Q := by
  unfold Oper.wp execOp
  simp only [ho]
  go_simp
  exact h
theorem wp_appB (s x : Operand) (hop : op.op = .call { callee := .builtin .append, args := #[s, x], argTypes := #[38, 38] })
    {base : Nat} {v : Value} {n : Nat} {l : List Nat} (hs : a.eval s = v) (hown : w.ownsRow base 5 1 v n (cells8 l)) {y : Option Addr} {m c : Nat} {f : Nat → Nat} (hx : a.eval x = .slice y m c) (hy : BA w y m f) (hb : n + m ≤ 1000000) (hbase : base ≤ w.heap.size)
    (hK : ∀ v' w', w'.ownsRow base 5 1 v' (n + m) (cells8 (l ++ fl f m)) → w.grownBy w' v.ownBlock → Kt (a.put op.dst v') w') : Oper.wp Try.prog op a w Kt Q := by
  obtain ⟨v', w', hr, h2, h3, _⟩ := run_appA (c := c) hown hy hb hbase op.type
  unfold Oper.wp execOp
  simp only [hop, resolve, invoke, builtin, Sem.run_bind, Sem.run_pure, Result.andThen_ok, List.map_toArray, List.map_cons, List.map_nil, hs, hx, hr]
  exact hK v' w' h2 h3
end
/-- Along the script: the store at work, what is sure, what may be. -/
structure CrW (w wr : World) (b lb mb t : Nat) (O : Nat → Bool) (vS vM : Value) (S M : List (List Nat)) (cS cM : List Value) (s : SM) : Prop where
  p : PW wr b lb mb t O (X3 b lb mb) s
  c : CrM 100 s S M
  ls : Lst wr w.heap.size O vS S cS
  lm : Lst wr w.heap.size O vM M cM
  g : ∀ k, O k = true → w.heap.size ≤ k
  k : Below w.heap.size w wr
/-- Along the crashes: the disk alone. -/
structure CrX (w wr : World) (b lb mb : Nat) (O : Nat → Bool) (vS vM : Value) (S M : List (List Nat)) (cS cM : List Value) (D : DM) : Prop where
  d : Dsk wr b lb mb D
  x : ∀ k, X3 b lb mb k = true → O k = true
  ls : Lst wr w.heap.size O vS S cS
  lm : Lst wr w.heap.size O vM M cM
  ol : ∀ k, O k = true → k < wr.heap.size
  g : ∀ k, O k = true → w.heap.size ≤ k
  k : Below w.heap.size w wr
section
variable {w wr w1 : World} {b lb mb t : Nat} {O : Nat → Bool} {vS vM : Value} {S M : List (List Nat)} {cS cM : List Value} {s s' : SM} {D : DM}
theorem CrW.keep (h : CrW w wr b lb mb t O vS vM S M cS cM s) (hB : Below wr.heap.size wr w1) : CrW w w1 b lb mb t O vS vM S M cS cM s :=
  ⟨h.p.keep hB, h.c, h.ls.keep hB, h.lm.keep hB, h.g, h.k.trans (hB.mono h.k.size)⟩
theorem CrX.keep (h : CrX w wr b lb mb O vS vM S M cS cM D) (hB : Below wr.heap.size wr w1) : CrX w w1 b lb mb O vS vM S M cS cM D :=
  ⟨h.d.keep hB, h.x, h.ls.keep hB, h.lm.keep hB, fun k hk => Nat.lt_of_lt_of_le (h.ol k hk) hB.size, h.g, h.k.trans (hB.mono h.k.size)⟩
theorem CrX.next {D' : DM} (h : CrX w wr b lb mb O vS vM S M cS cM D) (hd : Dsk w1 b lb mb D') (hK : Kp (X3 b lb mb) wr w1) : CrX w w1 b lb mb O vS vM S M cS cM D' :=
  ⟨hd, h.x, h.ls.kp (hK.mono h.x), h.lm.kp (hK.mono h.x), fun k hk => Nat.lt_of_lt_of_le (h.ol k hk) hK.size, h.g, kp_below h.k hK (fun k hk => h.g k (h.x k hk))⟩
theorem CrW.out (h : CrW w wr b lb mb t O vS vM S M cS cM s) {x : Option Addr} {m : Nat} {f : Nat → Nat} (hb : BA w x m f) (h0 : 0 < m) (p : Addr) (hp : x = some p) : X3 b lb mb p.block = false := by
  obtain ⟨b1, o1, e, hl⟩ := ba_lt hb h0
  rw [hp] at e
  cases e
  cases hq : X3 b lb mb b1 with
  | false => rfl
  | true => have := h.g _ (h.p.x3 hq); omega
theorem Lst.gr3 {vv : Value} {L : List (List Nat)} {cs : List Value} (h : Lst wr w.heap.size O vv L cs) (hx : ∀ k, X3 b lb mb k = true → O k = true) (hK : Kp (X3 b lb mb) wr w1) : Lst w1 w.heap.size O vv L cs := h.kp (hK.mono hx)
theorem kb_out {z : Option Addr} {KL : List Bool} (hK : Kb w z KL) (hx : ∀ k, X3 b lb mb k = true → w.heap.size ≤ k) : KL ≠ [] → ∀ p, z = some p → X3 b lb mb p.block = false := fun hne p hp => by
  rcases hK with e | ⟨b1, o1, e, hr⟩
  · exact absurd e hne
  · rw [hp] at e
    cases e
    cases KL with
    | nil => exact absurd rfl hne
    | cons v r =>
      have hl := World.block_lt_of_cell? w _ (hr 0 v rfl)
      cases hq : X3 b lb mb b1 with
      | false => rfl
      | true => have := hx _ hq; exact absurd (show b1 < w.heap.size from hl) (by omega)
/-- Append. -/
theorem CrW.ap (h : CrW w wr b lb mb t O vS vM S M cS cM s) {x : Option Addr} {m c : Nat} {f : Nat → Nat} (hb : BA w x m f) : Calls Try.prog 15 #[pp t, .slice x m c] wr fun e w' => ∃ O' s', e = .returned (.int .i64 (s.apE (fl f m))) ∧ Kp O wr w' ∧ (s.apE (fl f m) ≠ 0 → CrW w w' b lb mb t O' vS vM S M cS cM s') ∧ (s.apE (fl f m) = 0 → PW w' b lb mb t O' (X3 b lb mb) s' ∧ CrM 100 s' S (M ++ [fl f m]) ∧ Lst w' w.heap.size O' vS S cS ∧ Lst w' w.heap.size O' vM M cM ∧ (∀ k, O' k = true → w.heap.size ≤ k) ∧ Below w.heap.size w w') := by
  refine Calls.mono (ap_pw h.p (hb.keep h.k) (fun h0 p hp => h.out hb h0 p hp)) ?_
  rintro e w' ⟨rfl, h1, h2⟩
  have hg : ∀ k, grow O wr w' k = true → w.heap.size ≤ k := fun k hk => by
    rcases grow_of.1 hk with e | e
    · exact h.g k e
    · exact Nat.le_trans h.k.size e.1
  exact ⟨_, _, rfl, h2, fun hne => ⟨h1, (h.c.ap _).2 hne, h.ls.grown h2, h.lm.grown h2, hg, kp_below h.k h2 h.g⟩, fun he => ⟨h1, (h.c.ap _).1 he, h.ls.grown h2, h.lm.grown h2, hg, kp_below h.k h2 h.g⟩⟩
theorem CrW.co (h : CrW w wr b lb mb t O vS vM S M cS cM s) : Calls Try.prog 17 #[pp t] wr fun e w' => ∃ O' s', e = .returned (.int .i64 s.coE) ∧ Kp O wr w' ∧ (s.coE ≠ 0 → CrW w w' b lb mb t O' vS vM S M cS cM s') ∧ (s.coE = 0 → CrW w w' b lb mb t O' vM vM M M cM cM s') := by
  refine Calls.mono (co_pw h.p) ?_
  rintro e w' ⟨rfl, h1, h2⟩
  have hg : ∀ k, grow O wr w' k = true → w.heap.size ≤ k := fun k hk => by
    rcases grow_of.1 hk with e | e
    · exact h.g k e
    · exact Nat.le_trans h.k.size e.1
  exact ⟨_, _, rfl, h2, fun hne => ⟨h1, (h.c.co h.p.ok).2 hne, h.ls.grown h2, h.lm.grown h2, hg, kp_below h.k h2 h.g⟩, fun he => ⟨h1, (h.c.co h.p.ok).1 he, h.lm.grown h2, h.lm.grown h2, hg, kp_below h.k h2 h.g⟩⟩
theorem CrW.fu (h : CrW w wr b lb mb t O vS vM S M cS cM s) (i : Int) (hi : i < 9223372036854775808) : Calls Try.prog 19 #[pp b, .int .i64 i] wr fun e w' => (∃ v, e = .returned v) ∧ Kp O wr w' ∧ CrW w w' b lb mb t O vS vM S M cS cM { s with D := s.D.fuse i } := by
  refine Calls.mono (fuse_any h.p.dsk i hi) ?_
  rintro e w' ⟨he, h1, h2⟩
  have hx : ∀ k, X3 b lb mb k = true → O k = true := fun k hk => h.p.x3 hk
  exact ⟨he, h2.mono hx, h.p.disk h1 h2 (h.p.ok.fuse i), h.c.fuse i, h.ls.gr3 hx h2, h.lm.gr3 hx h2, h.g, kp_below h.k h2 (fun k hk => h.g k (hx k hk))⟩
theorem CrW.cr (h : CrW w wr b lb mb t O vS vM S M cS cM s) {z : Option Addr} {KL : List Bool} {c : Nat} (hK : Kb w z KL) (tt aa : Int) : Calls Try.prog 20 #[pp b, .agg #[.slice z KL.length c, .int .i64 tt, .int .i64 aa]] wr fun e w' => (∃ v, e = .returned v) ∧ Kp O wr w' ∧ CrX w w' b lb mb O vS vM S M cS cM (s.D.cr KL tt aa) := by
  have hx : ∀ k, X3 b lb mb k = true → O k = true := fun k hk => h.p.x3 hk
  refine Calls.mono (crash_any h.p.dsk (hK.keep h.k) (kb_out hK (fun k hk => h.g k (hx k hk))) tt aa) ?_
  rintro e w' ⟨he, h1, h2⟩
  exact ⟨he, h2.mono hx, h1, hx, h.ls.gr3 hx h2, h.lm.gr3 hx h2, fun k hk => Nat.lt_of_lt_of_le (h.p.ol hk) h2.size, h.g, kp_below h.k h2 (fun k hk => h.g k (hx k hk))⟩
theorem CrX.cr (h : CrX w wr b lb mb O vS vM S M cS cM D) {z : Option Addr} {KL : List Bool} {c : Nat} (hK : Kb w z KL) (tt aa : Int) : Calls Try.prog 20 #[pp b, .agg #[.slice z KL.length c, .int .i64 tt, .int .i64 aa]] wr fun e w' => (∃ v, e = .returned v) ∧ Kp O wr w' ∧ CrX w w' b lb mb O vS vM S M cS cM (D.cr KL tt aa) := by
  refine Calls.mono (crash_any h.d (hK.keep h.k) (kb_out hK (fun k hk => h.g k (h.x k hk))) tt aa) ?_
  rintro e w' ⟨he, h1, h2⟩
  exact ⟨he, h2.mono h.x, h.next h1 h2⟩
theorem CrX.fu (h : CrX w wr b lb mb O vS vM S M cS cM D) (i : Int) (hi : i < 9223372036854775808) : Calls Try.prog 19 #[pp b, .int .i64 i] wr fun e w' => (∃ v, e = .returned v) ∧ Kp O wr w' ∧ CrX w w' b lb mb O vS vM S M cS cM (D.fuse i) := by
  refine Calls.mono (fuse_any h.d i hi) ?_
  rintro e w' ⟨he, h1, h2⟩
  exact ⟨he, h2.mono h.x, h.next h1 h2⟩
theorem CrX.op (h : CrX w wr b lb mb O vS vM S M cS cM D) : Calls Try.prog 12 #[pp b] wr fun e w' => (∃ v, e = .returned v) ∧ Kp O wr w' ∧ CrX w w' b lb mb O vS vM S M cS cM (D.mendD 0) := by
  refine Calls.mono (open_pw (Y := X3 b lb mb) h.d (fun _ hg => hg) h.d.xl) ?_
  rintro e w' ⟨W, h1, h2, h3, h4⟩
  have h5 : ∃ v, e = .returned v := by
    rcases h4 with ⟨_, t, rfl, _⟩ | ⟨_, rfl⟩
    · exact ⟨_, rfl⟩
    · exact ⟨_, rfl⟩
  exact ⟨h5, (h2.trans (Kp.of h3)).mono h.x, (h.next h1 h2).keep h3⟩
end
end Go.Proofs.Ytjgpopjpmfkfmaa
