/- Layer 13: the law of the fuse. -/
import Derived.Test.YtjgpopjpmfkfmaaD13F
namespace Go.Proofs.Ytjgpopjpmfkfmaa
set_option maxRecDepth 100000
open Go.RowKit Go.Maps
attribute [local go_sem ↓] Go.wp_at_zero Go.wp_at_succ

/-- The disk behind i operations of the law. -/
def fz (k F : Nat) : Nat → DM
  | 0 => (DM.new k).fuse (F : Int)
  | i + 1 => if i % 2 = 0 then (fz k F i).wr ((i % k : Nat) : Int) z64 else (fz k F i).sy
theorem fz_ok {k F : Nat} (hk : 0 < k) : ∀ i, i ≤ F → (fz k F i).dn = false ∧ (fz k F i).fu = some (F - i) ∧ (fz k F i).n = k
  | 0, _ => ⟨rfl, by show (if 0 ≤ (F : Int) then some (F : Int).toNat else none) = _; rw [if_pos (by omega)]; simp, rfl⟩
  | i + 1, hi => by
    obtain ⟨h1, h2, h3⟩ := fz_ok (F := F) hk i (by omega)
    have hlt : i % k < k := Nat.mod_lt _ hk
    obtain ⟨q, hq⟩ : ∃ q, F - i = q + 1 := ⟨F - i - 1, by omega⟩
    rw [hq] at h2
    have hmay : (fz k F i).may = true := by unfold DM.may; rw [h2]; rfl
    have hb : (fz k F i).burn = { fz k F i with fu := some q } := by unfold DM.burn; rw [h2]
    show (if i % 2 = 0 then (fz k F i).wr ((i % k : Nat) : Int) z64 else (fz k F i).sy).dn = false ∧ (if i % 2 = 0 then (fz k F i).wr ((i % k : Nat) : Int) z64 else (fz k F i).sy).fu = some (F - (i + 1)) ∧ (if i % 2 = 0 then (fz k F i).wr ((i % k : Nat) : Int) z64 else (fz k F i).sy).n = k
    have hd : ¬ (fz k F i).dn = true := by simp [h1]
    split
    · unfold DM.wr
      rw [if_neg hd, if_pos ⟨by omega, by rw [h3]; omega⟩, if_pos z64_sec.1, if_pos hmay, hb]
      exact ⟨h1, by show some q = _; congr 1; omega, h3⟩
    · unfold DM.sy
      rw [if_neg hd, if_pos hmay, hb]
      exact ⟨h1, by show some q = _; congr 1; omega, h3⟩
theorem fl0_64 : fl (fun _ => 0) 64 = z64 := by decide
structure FzR (w wr : World) (b lb mb : Nat) (D : DM) : Prop where
  d : Dsk wr b lb mb D
  b : w.heap.size ≤ b
  l : w.heap.size ≤ lb
  m : w.heap.size ≤ mb
  k : Below w.heap.size w wr
theorem Kp.own {w wr w' : World} {b lb mb : Nat} (h1 : w.heap.size ≤ b) (h2 : w.heap.size ≤ lb) (h3 : w.heap.size ≤ mb) (hB : Below w.heap.size w wr) (hK : Kp (X3 b lb mb) wr w') : Below w.heap.size w w' :=
  ⟨hK.os.trans hB.os, hK.tape.trans hB.tape, hK.output.trans hB.output, Nat.le_trans hB.size hK.size, fun k hk => (hK.block k (Nat.lt_of_lt_of_le hk hB.size) (by
    cases hx : X3 b lb mb k with
    | false => rfl
    | true => rcases X3_of.1 hx with e | e | e <;> omega)).trans (hB.block k hk)⟩
theorem FzR.next {w wr w' : World} {b lb mb : Nat} {D D' : DM} (h : FzR w wr b lb mb D) (hD : Dsk w' b lb mb D') (hK : Kp (X3 b lb mb) wr w') : FzR w w' b lb mb D' :=
  ⟨hD, h.b, h.l, h.m, Kp.own h.b h.l h.m h.k hK⟩
theorem FzR.grow {w wr w' : World} {b lb mb : Nat} {D : DM} (h : FzR w wr b lb mb D) (hB : Below wr.heap.size wr w') : FzR w w' b lb mb D :=
  ⟨h.d.keep hB, h.b, h.l, h.m, K.call h.k hB⟩
theorem FzR.out {w wr : World} {b lb mb : Nat} {D : DM} (h : FzR w wr b lb mb D) {g : Nat} (hg : wr.heap.size ≤ g) : X3 b lb mb g = false := by
  cases hx : X3 b lb mb g with
  | false => rfl
  | true =>
    have h1 := h.d.bl
    have h2 := h.d.ll
    have h3 := h.d.mp.lt
    rcases X3_of.1 hx with e | e | e <;> omega
theorem nil_ba (w : World) : BA w none 0 (fun _ => 0) := ⟨fun _ => by omega, Or.inl rfl⟩
theorem wp_mk64 {w : World} {o : Oper} {a : Act} {Kt : Act → World → Prop} {Q : Exit → Act → World → Prop} (l c : Operand) (hop : o.op = Op.makeSlice 38 l c) (hl : a.eval l = .int .i64 64) (hc : a.eval c = .int .i64 64) (h : Kt (a.put o.dst (.slice (some ⟨w.heap.size, 0, none⟩) 64 64)) (w.alloc o64)) : o.wp Try.prog a w Kt Q := by
  have hrun := run_mk64 w
  unfold Oper.wp
  simp only [execOp, hop, hl, hc, hrun, Sem.run_bind, Sem.run_pure, Result.andThen_ok]
  exact h
end Go.Proofs.Ytjgpopjpmfkfmaa
