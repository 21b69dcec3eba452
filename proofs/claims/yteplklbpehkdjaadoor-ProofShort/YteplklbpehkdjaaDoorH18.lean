/- Layer 18's laws: literals of hashes, lists that are the same, what is answered. -/
import Derived.Test.YteplklbpehkdjaaDoorR18D
import Derived.Test.YteplklbpehkdjaaDoorS16Z
namespace Go.Proofs.YteplklbpehkdjaaDoor
set_option maxRecDepth 100000
open Go.RowKit
attribute [local go_sem ↓] Go.wp_at_zero Go.wp_at_succ

/-- A literal of an array or a struct whose cells are told. -/
theorem wpList_buildC {w : World} {ops : Array Oper} {rest : List Oper} {op : Oper} {a : Act} {Q : Exit → Act → World → Prop} (hw : Region.wanted op (yielded ops a.tmps) = true) (t : TypeId) (parts : Array (Nat × Operand)) (ho : op.op = .build t parts) (cells : Array Value)
    (hb : Tryd.prog.built t (parts.map fun (i, x) => (i, a.eval x)).toList = some cells) (h : wpList Tryd.prog ops Q rest (a.put op.dst (.agg cells)) w) : wpList Tryd.prog ops Q (op :: rest) a w := by
  refine wpList_step fun K hK => ?_
  rw [if_pos hw]
  refine wp_build t parts ho (by rw [hb]; rfl) ?_
  rw [hb]
  exact hK _ _ h
theorem wpList_load_g {w : World} {ops : Array Oper} {rest : List Oper} {op : Oper} {a : Act} {Q : Exit → Act → World → Prop} (hw : Region.wanted op (yielded ops a.tmps) = true) (x : Operand) (hop : op.op = Op.load 32 x) {g off : Nat} {f : Nat → Nat} (hx : a.eval x = .pointer (some ⟨g, off, none⟩)) (ht : w.rangeAt g off (ab f 32))
    (h : wpList Tryd.prog ops Q rest (a.put op.dst (.agg (ab f 32).toArray)) w) : wpList Tryd.prog ops Q (op :: rest) a w := by
  refine wpList_step fun K hK => ?_
  rw [if_pos hw]
  exact wp_load_mid 32 x hop g off hx (ab f 32) _ ht Tryd.underlying32 rfl (ilH _) (hK _ _ h)
/-- The hash whose first byte is k. -/
def hk (k : Nat) : Nat → Nat := fun i => if i = 0 then k else 0
theorem hk_lt {k : Nat} (h : k < 256) (i : Nat) : hk k i < 256 := by unfold hk; split <;> omega
theorem hk1_build : Tryd.prog.built 32 [(0, .int .u8 1)] = some (ab (hk 1) 32).toArray := by kernel_rfl
theorem hk2_build : Tryd.prog.built 32 [(0, .int .u8 2)] = some (ab (hk 2) 32).toArray := by kernel_rfl
theorem wpList_hk1 {w : World} {ops : Array Oper} {rest : List Oper} {op : Oper} {a : Act} {Q : Exit → Act → World → Prop} (hw : Region.wanted op (yielded ops a.tmps) = true) (ho : op.op = .build 32 #[(0, .const (.int .u8 1))])
    (h : wpList Tryd.prog ops Q rest (a.put op.dst (.agg (ab (hk 1) 32).toArray)) w) : wpList Tryd.prog ops Q (op :: rest) a w :=
  wpList_buildC hw 32 _ ho _ (by simp only [List.map_toArray, List.map_cons, List.map_nil]; exact hk1_build) h
theorem wpList_hk2 {w : World} {ops : Array Oper} {rest : List Oper} {op : Oper} {a : Act} {Q : Exit → Act → World → Prop} (hw : Region.wanted op (yielded ops a.tmps) = true) (ho : op.op = .build 32 #[(0, .const (.int .u8 2))])
    (h : wpList Tryd.prog ops Q rest (a.put op.dst (.agg (ab (hk 2) 32).toArray)) w) : wpList Tryd.prog ops Q (op :: rest) a w :=
  wpList_buildC hw 32 _ ho _ (by simp only [List.map_toArray, List.map_cons, List.map_nil]; exact hk2_build) h
set_option maxRecDepth 100000 in
theorem fillH2 (f g : Nat → Nat) (z : Value) (hz : z = .agg (ab (fun _ => 0) 32).toArray) : Instr.fill (fun i => some (i * 32, 32)) ((Array.range (2 * 32)).map (z.cells[· % z.cells.size]!)) [(0, .agg (ab f 32).toArray), (1, .agg (ab g 32).toArray)] = some (ab f 32 ++ ab g 32).toArray := by
  subst hz
  kernel_rfl
theorem two_lt {f g : Nat → Nat} (hf : ∀ j, f j < 256) (hg : ∀ j, g j < 256) (i j : Nat) : lF [f, g] i j < 256 := lF_lt (fun x hx j => by
  rcases List.mem_cons.1 hx with e | e
  · rw [e]; exact hf j
  · rw [List.mem_singleton] at e; rw [e]; exact hg j) i j
theorem hl_two (w : World) {f g : Nat → Nat} (hf : ∀ i, f i < 256) (hg : ∀ i, g i < 256) : HL (w.alloc (.cells (ab f 32 ++ ab g 32).toArray 32)) (some ⟨w.heap.size, 0, none⟩) 2 (lF [f, g]) := by
  refine ⟨two_lt hf hg, Or.inr ⟨_, _, rfl, fun i hi j v hv => ?_⟩⟩
  have hj : j < 32 := by
    rcases Nat.lt_or_ge j 32 with h' | h'
    · exact h'
    · rw [List.getElem?_eq_none (by rw [ab_len]; exact h')] at hv; cases hv
  rw [cell_of_row _ _ _ _ _ _ (heap_alloc_new w _), List.getElem?_toArray]
  rcases (show i = 0 ∨ i = 1 by omega) with rfl | rfl
  · rw [List.getElem?_append_left (by rw [ab_len]; omega), show 0 + 0 * 32 + j = j by omega]
    exact hv
  · rw [List.getElem?_append_right (by rw [ab_len]; omega), ab_len, show 0 + 1 * 32 + j - 32 = j by omega]
    exact hv
theorem wpList_twoH {w : World} {ops : Array Oper} {rest : List Oper} {op : Oper} {a : Act} {Q : Exit → Act → World → Prop} {x y : Operand} {f g : Nat → Nat} (hgd : op.guard = none) (ho : op.op = .buildSlice 22 2 #[(0, x), (1, y)]) (hx : a.eval x = .agg (ab f 32).toArray) (hy : a.eval y = .agg (ab g 32).toArray) (hf : ∀ i, f i < 256) (hg : ∀ i, g i < 256)
    (h : ∀ p W', p = w.heap.size → HL W' (some ⟨p, 0, none⟩) 2 (lF [f, g]) → Below w.heap.size w W' → wpList Tryd.prog ops Q rest (a.put op.dst (.slice (some ⟨p, 0, none⟩) 2 2)) W') : wpList Tryd.prog ops Q (op :: rest) a w := by
  obtain ⟨ie, hi, hz, hs, _⟩ := info_parts infoHv
  refine wpList_buildSlice hgd 22 32 2 #[(0, x), (1, y)] ho (ab f 32 ++ ab g 32).toArray ie _ Tryd.underlying22 hi hz (by rw [hs]; decide) (by rw [hs]; decide) ?_ (h w.heap.size _ rfl (hl_two w hf hg) (K.alloc (Below.refl _ _) _))
  rw [hs]
  simp only [List.map_toArray, List.map_cons, List.map_nil, hx, hy]
  exact fillH2 f g _ rfl
theorem pth_two (F : Nat → Nat → Nat) : pth F 2 0 = [F 1] := by
  have h : sp 2 = 1 := by decide
  rw [pth_low F (by omega) (by rw [h]; omega), h, pth_small F 0 (by omega), List.nil_append, rt_one]
/-- Two lists that are the same. -/
theorem same_l {W : World} {x y : Option Addr} {k c d : Nat} {L : List (Nat → Nat)} (hx : HL W x k (lF L)) (hy : HL W y k (lF L)) (hn : k ≤ 1000000) :
    Calls Tryd.prog 11 #[.slice x k c, .slice y k d] W fun e w' => e = .returned (.bool true) ∧ Below W.heap.size W w' := by
  have h := refSame_any (c := c) (d := d) hx hy hn
  rw [eqL_same] at h
  simpa using h
theorem same_f {W : World} {x y : Option Addr} {k c d : Nat} {F : Nat → Nat → Nat} (hx : HL W x k F) (hy : HL W y k F) (hn : k ≤ 1000000) :
    Calls Tryd.prog 11 #[.slice x k c, .slice y k d] W fun e w' => e = .returned (.bool true) ∧ Below W.heap.size W w' := by
  have h := refSame_any (c := c) (d := d) hx hy hn
  rw [eqL_same] at h
  simpa using h
theorem hcat_zero (L G : Nat → Nat → Nat) : hcat L 0 G = G := by funext i; unfold hcat; rw [if_neg (by omega), Nat.sub_zero]
theorem mod_n {m : Int} {n : Nat} (hm0 : 0 ≤ m) (hn : 0 < n) : ∃ k : Nat, m.tmod (n : Int) = (k : Int) ∧ k < n := by
  have ht : m.tmod (n : Int) = m % (n : Int) := Int.tmod_eq_emod_of_nonneg hm0
  obtain ⟨k, hk⟩ := Int.eq_ofNat_of_zero_le (Int.emod_nonneg m (show (n : Int) ≠ 0 by omega))
  have h6 := Int.emod_lt_of_pos m (show (0 : Int) < (n : Int) by omega)
  exact ⟨k, ht.trans hk, by rw [hk] at h6; exact Int.ofNat_lt.1 h6⟩
theorem HL.first {w : World} {b o n : Nat} {F : Nat → Nat → Nat} (h : HL w (some ⟨b, o, none⟩) n F) (hn : 0 < n) : w.rangeAt b o (ab (F 0) 32) := by
  rcases h.at_ with h0 | ⟨b', o', e, hr⟩
  · omega
  · cases e
    have := hr 0 hn
    rwa [Nat.zero_mul, Nat.add_zero] at this
theorem HL.ad {w : World} {a : Option Addr} {n : Nat} {F : Nat → Nat → Nat} (h : HL w a n F) (hn : 0 < n) : ∃ b o, a = some ⟨b, o, none⟩ :=
  h.at_.elim (fun e => by omega) fun ⟨b, o, e, _⟩ => ⟨b, o, e⟩
theorem hl_nil (W : World) : HL W none 0 (lF []) := ⟨fun _ _ => by show 0 < 256; omega, Or.inl rfl⟩
/-- What was answered, taken apart. -/
theorem PthP.out {w w' : World} {L : List (Nat → Nat)} {e : Ending} (h : PthP w L e w') (hL : ∀ f ∈ L, ∀ j, f j < 256) : ∃ a c, e = .returned (.tuple #[.slice a L.length c, .int .i64 0]) ∧ HL w' a L.length (lF L) ∧ OH w' w.heap.size (.slice a L.length c) L.length (lF L) ∧ Below w.heap.size w w' := by
  obtain ⟨v, he, ho, hb⟩ := h
  obtain ⟨a, c, rfl, _, _⟩ := ho.form
  exact ⟨a, c, he, ho.hl (lF_lt hL), ho, hb⟩
end Go.Proofs.YteplklbpehkdjaaDoor
