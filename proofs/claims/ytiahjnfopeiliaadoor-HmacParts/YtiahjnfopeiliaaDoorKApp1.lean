/- One byte that is appended to a row of one's own, and where the row then lies. -/
import Derived.Test.YtiahjnfopeiliaaDoorKApp
import Derived.Deep.AppendLies
namespace Go.Proofs.YtiahjnfopeiliaaDoor
open Go.RowKit

theorem wpList_app1 {W : World} {ops : Array Oper} {rest : List Oper} {op : Oper} {a : Act} {Q : Exit → Act → World → Prop} (hgd : op.guard = none) (s x : Operand)
    (ho : op.op = .call { callee := .builtin .append, args := #[s, x], argTypes := #[22, 22] })
    {base : Nat} {v : Value} {n : Nat} {l : List Nat} {o : Obj} (hs : a.eval s = v) (hown : (W.alloc o).ownsRow base 5 1 v n (cells8 l)) {b c : Nat} (hb : b < 256) (hx : a.eval x = .slice (some ⟨W.heap.size, 0, none⟩) 1 c) (hq : o = .cells #[.int .u8 (b : Int)] 5) (hn : n + 1 ≤ 1000000) (hbase : base ≤ W.heap.size)
    (h : ∀ g cap w', w'.ownsRow base 5 1 (.slice (some ⟨g, 0, none⟩) (n + 1) cap) (n + 1) (cells8 (l ++ [b])) → (W.alloc o).grownBy w' v.ownBlock → (v.ownBlock = some g ∨ g = W.heap.size + 1) → g < w'.heap.size → wpList Tryd.prog ops Q rest (a.put op.dst (.slice (some ⟨g, 0, none⟩) (n + 1) cap)) w') :
    wpList Tryd.prog ops Q (op :: rest) a (W.alloc o) := by
  obtain ⟨i0, hi, hz0, hz1, hz2⟩ := info_parts info8
  have hy := one_made W b hb
  subst hq
  refine wpList_append_lies (W.alloc (.cells #[.int .u8 (b : Int)] 5)) hgd s x 22 ho base 5 i0 (.int .u8 0) 1 1 Tryd.underlying22 hi hz0 hz1 hz2 rfl (by decide) v n _ hs hown ⟨W.heap.size, 0, none⟩ 1 c [.int .u8 (b : Int)] hx rfl (fun j u hu => ?_) (fun u hu => by simp only [List.mem_singleton] at hu; subst hu; rfl) (by omega) (by unfold maxLen; omega) (by omega) (by simp; omega) (W.heap.size + 1) (by simp) (fun g cap w' h1 h2 h3 h4 => ?_)
  · rcases j with _ | j
    · rcases hy.at_ with h0 | ⟨b', o', e, hr⟩
      · omega
      · cases e
        have h0 := hr.c 0 (by omega)
        simp only [List.getElem?_cons_zero, Option.some.injEq] at hu
        subst hu
        rw [Addr.add_mid]
        exact h0
    · simp at hu
  · refine h g cap w' ?_ h2 h3 h4
    rw [show cells8 (l ++ [b]) = cells8 l ++ [.int .u8 (b : Int)] from List.map_append]
    exact h1
theorem fl_succ (f : Nat → Nat) (n : Nat) : fl f (n + 1) = fl f n ++ [f n] := by
  unfold fl
  rw [List.range_succ, List.map_append]
  rfl
theorem xor_lt {a b : Nat} (ha : a < 256) (hb : b < 256) : a ^^^ b < 256 := Nat.xor_lt_two_pow (n := 8) ha hb
end Go.Proofs.YtiahjnfopeiliaaDoor
