/- Layer 13: the law of the fuse. -/
import Derived.Test.YtpophfeommlajaaMP21
namespace Go.Proofs.Ytpophfeommlajaa
set_option maxRecDepth 100000
open Go.RowKit Go.Maps
attribute [local go_sem ↓] Go.wp_at_zero Go.wp_at_succ

structure FzR (w wr : World) (b lb mb : Nat) (D : DM) : Prop where
  d : Dsk wr b lb mb D
  b : w.heap.size ≤ b
  l : w.heap.size ≤ lb
  m : w.heap.size ≤ mb
  k : Below w.heap.size w wr
theorem Kp.own {w wr w' : World} {b lb mb : Nat} (h1 : w.heap.size ≤ b) (h2 : w.heap.size ≤ lb) (h3 : w.heap.size ≤ mb) (hB : Below w.heap.size w wr) (hK : Kp (X3 b lb mb) wr w') : Below w.heap.size w w' :=
  ⟨hK.os.trans hB.os, hK.tape.trans hB.tape, hK.output.trans hB.output, Nat.le_trans hB.size hK.size, fun k hk => (hK.block k (Nat.lt_of_lt_of_le hk hB.size) (by
    cases hx : X3 b lb mb k with
    | false => rfl
    | true => rcases X3_of.1 hx with e | e | e <;> omega)).trans (hB.block k hk)⟩
theorem FzR.next {w wr w' : World} {b lb mb : Nat} {D D' : DM} (h : FzR w wr b lb mb D) (hD : Dsk w' b lb mb D') (hK : Kp (X3 b lb mb) wr w') : FzR w w' b lb mb D' :=
  ⟨hD, h.b, h.l, h.m, Kp.own h.b h.l h.m h.k hK⟩
theorem FzR.grow {w wr w' : World} {b lb mb : Nat} {D : DM} (h : FzR w wr b lb mb D) (hB : Below wr.heap.size wr w') : FzR w w' b lb mb D :=
  ⟨h.d.keep hB, h.b, h.l, h.m, K.call h.k hB⟩
theorem FzR.out {w wr : World} {b lb mb : Nat} {D : DM} (h : FzR w wr b lb mb D) {g : Nat} (hg : wr.heap.size ≤ g) : X3 b lb mb g = false := by
  cases hx : X3 b lb mb g with
  | false => rfl
  | true =>
    have h1 := h.d.bl
    have h2 := h.d.ll
    have h3 := h.d.mp.lt
    rcases X3_of.1 hx with e | e | e <;> omega
theorem wp_mk64 {w : World} {o : Oper} {a : Act} {Kt : Act → World → Prop} {Q : Exit → Act → World → Prop} (l c : Operand) (hop : o.op = Op.makeSlice 38 l c) (hl : a.eval l = .int .i64 64) (hc : a.eval c = .int .i64 64) (h : Kt (a.put o.dst (.slice (some ⟨w.heap.size, 0, none⟩) 64 64)) (w.alloc o64)) : o.wp Try.prog a w Kt Q := by
  have hrun := run_mk64 w
  unfold Oper.wp
  simp only [execOp, hop, hl, hc, hrun, Sem.run_bind, Sem.run_pure, Result.andThen_ok]
  exact h
end Go.Proofs.Ytpophfeommlajaa
