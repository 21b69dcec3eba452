/- Rows of hashes of one's own. -/
import Derived.Test.YtiahjnfopeiliaaDoorS5Own
import Derived.Test.YtiahjnfopeiliaaDoorKGrown
import Derived.Great.BuildSlice
namespace Go.Proofs.YtiahjnfopeiliaaDoor
open Go.RowKit

/-- n hashes, as cells. -/
def hcells (F : Nat → Nat → Nat) : Nat → List Value
  | 0 => []
  | n + 1 => hcells F n ++ ab (F n) 32
theorem hcells_len (F : Nat → Nat → Nat) : ∀ n, (hcells F n).length = n * 32
  | 0 => rfl
  | n + 1 => by rw [hcells, List.length_append, hcells_len F n, ab_len]; omega
theorem hcells_at (F : Nat → Nat → Nat) : ∀ (n i j : Nat), i < n → j < 32 → (hcells F n)[32 * i + j]? = some (.int .u8 ((F i j : Nat) : Int))
  | 0, i, j, h, _ => by omega
  | n + 1, i, j, h, hj => by
    rw [hcells]
    by_cases e : i = n
    · subst e
      rw [List.getElem?_append_right (by rw [hcells_len]; omega), hcells_len, show 32 * i + j - i * 32 = j by omega, ab_at _ hj]
    · rw [List.getElem?_append_left (by rw [hcells_len]; omega)]
      exact hcells_at F n i j (by omega) hj
theorem hcells_congr {F H : Nat → Nat → Nat} : ∀ (n : Nat), (∀ i, i < n → F i = H i) → hcells F n = hcells H n
  | 0, _ => rfl
  | n + 1, h => by rw [hcells, hcells, hcells_congr n (fun i hi => h i (by omega)), h n (by omega)]
theorem infoHash : (Tryd.prog.info? 25).map (fun i => (i.zero, i.size, i.bytes)) = some (some (.agg (ab (fun _ => 0) 32).toArray), 32, 32) := by kernel_rfl
theorem fillH (v : Nat → Nat) (z : Array Value) (hz : z = (ab (fun _ => 0) 32).toArray) : Instr.fill (fun i => some (i * 32, 32)) ((Array.range (1 * 32)).map (z[· % z.size]!)) [(0, .agg (ab v 32).toArray)] = some (ab v 32).toArray := by
  subst hz
  kernel_rfl
/-- One hash as a list. -/
theorem wpList_listH {w : World} {ops : Array Oper} {rest : List Oper} {op : Oper} {a : Act} {Q : Exit → Act → World → Prop} (hgd : op.guard = none) (x : Operand) (ho : op.op = .buildSlice 31 1 #[(0, x)]) (v : Nat → Nat) (hx : a.eval x = .agg (ab v 32).toArray)
    (h : wpList Tryd.prog ops Q rest (a.put op.dst (.slice (some ⟨w.heap.size, 0, none⟩) 1 1)) (w.alloc (.cells (ab v 32).toArray 25))) : wpList Tryd.prog ops Q (op :: rest) a w := by
  obtain ⟨ie, hi, hz0, hz1, hz2⟩ := info_parts infoHash
  refine wpList_buildSlice hgd 31 25 1 _ ho (ab v 32).toArray ie _ Tryd.underlying31 hi hz0 (by rw [hz1]; omega) (by rw [hz1]; omega) ?_ h
  simp only [List.map_toArray, List.map_cons, List.map_nil, hx, hz1]
  exact fillH v _ rfl
/-- A hash that is appended to a row of one's own. -/
theorem wpList_appH {W : World} {ops : Array Oper} {rest : List Oper} {op : Oper} {a : Act} {Q : Exit → Act → World → Prop} (hgd : op.guard = none) (s x : Operand)
    (ho : op.op = .call { callee := .builtin .append, args := #[s, x], argTypes := #[31, 31] })
    {base : Nat} {v : Value} {n : Nat} {F : Nat → Nat → Nat} (hs : a.eval s = v) (hown : W.ownsRow base 25 32 v n (hcells F n)) {b c : Nat} {f : Nat → Nat} (hx : a.eval x = .slice (some ⟨b, 0, none⟩) 1 c) (hr : RowB W b 32 f) (hf : F n = f) (hb : n ≤ 1000000) (hbase : base ≤ W.heap.size)
    (h : ∀ v' w', w'.ownsRow base 25 32 v' (n + 1) (hcells F (n + 1)) → W.grownBy w' v.ownBlock → wpList Tryd.prog ops Q rest (a.put op.dst v') w') : wpList Tryd.prog ops Q (op :: rest) a W := by
  obtain ⟨i0, hi, hz0, hz1, hz2⟩ := info_parts infoHash
  obtain ⟨v', w', h1, h2, h3, _⟩ := run_append_own (P := Tryd.prog) W base 31 op.type 25 i0 _ 32 32 Tryd.underlying31 hi hz0 hz1 hz2 (by rw [Value.cells, List.size_toArray, ab_len]) (by decide) v n _ hown ⟨b, 0, none⟩ 1 c (ab f 32) (by rw [ab_len]) (fun j u hu => by
    have := RowB.range hr j u hu
    rw [Addr.add_mid]
    exact this) (ab_one _ _) (by unfold maxLen; omega) (by omega) hbase
  refine wpList_plain hgd fun K hK => ?_
  unfold Oper.wp execOp
  simp only [ho, resolve, invoke, builtin, Sem.run_bind, Sem.run_pure, Result.andThen_ok, List.map_toArray, List.map_cons, List.map_nil, hs, hx, h1]
  refine hK _ _ (h v' w' ?_ h3)
  rw [hcells, hf]
  exact h2
/-- Hashes in memory. -/
structure HL (w : World) (x : Option Addr) (n : Nat) (F : Nat → Nat → Nat) : Prop where
  at_ : n = 0 ∨ ∃ b, x = some ⟨b, 0, none⟩ ∧ ∀ i, i < n → ∀ j, j < 32 → w.cell? ⟨b, 32 * i + j, none⟩ = some (.int .u8 ((F i j : Nat) : Int))
theorem HL.keep {W w1 : World} {x : Option Addr} {n : Nat} {F : Nat → Nat → Nat} (h : HL W x n F) (hb : Below W.heap.size W w1) : HL w1 x n F :=
  ⟨h.at_.elim Or.inl fun ⟨b, e, hc⟩ => Or.inr ⟨b, e, fun i hi j hj => later hb (hc i hi j hj)⟩⟩
theorem own_hl {w : World} {base n : Nat} {v : Value} {F : Nat → Nat → Nat} (h : w.ownsRow base 25 32 v n (hcells F n)) : ∃ x c, v = .slice x n c ∧ HL w x n F ∧ ∀ p, x = some p → base ≤ p.block := by
  rcases h.2 with ⟨rfl, rfl⟩ | ⟨g, cap, cur, rfl, hg, _⟩
  · exact ⟨_, _, rfl, ⟨Or.inl rfl⟩, fun p hp => by cases hp⟩
  · exact ⟨_, _, rfl, ⟨Or.inr ⟨g, rfl, fun i hi j hj => by rw [h.cellAt (32 * i + j) (by omega)]; exact hcells_at F n i j hi hj⟩⟩, fun p hp => by cases hp; exact hg⟩
end Go.Proofs.YtiahjnfopeiliaaDoor
