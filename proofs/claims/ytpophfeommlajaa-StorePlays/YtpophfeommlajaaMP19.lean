/- Layer 13: the program's Crash. -/
import Derived.Test.YtpophfeommlajaaMP18
namespace Go.Proofs.Ytpophfeommlajaa
set_option maxRecDepth 100000
open Go.RowKit Go.Maps
attribute [local go_sem ↓] Go.wp_at_zero Go.wp_at_succ

theorem grown_tr {w w1 w2 : World} {r : Option Nat} (h : w.grownBy w1 r) (k : w1.grownBy w2 r) : w.grownBy w2 r :=
  ⟨k.os.trans h.os, k.tape.trans h.tape, k.output.trans h.output, Nat.le_trans h.size k.size, fun i hi hr => (k.block i (Nat.lt_of_lt_of_le hi h.size) hr).trans (h.block i hi hr)⟩
/-- The first k bytes of what was written, and behind them what lasted. -/
def mix (k : Nat) (s l : List Nat) : List Nat := s.take k ++ l.drop k
theorem mix_sec {k : Nat} {s l : List Nat} (hs : sec s) (hl : sec l) : sec (mix k s l) := by
  refine ⟨?_, fun x hx => ?_⟩
  · have h1 := hs.1
    have h2 := hl.1
    simp only [mix, List.length_append, List.length_take, List.length_drop]
    omega
  · rcases List.mem_append.1 hx with h | h
    · exact hs.2 x (List.mem_of_mem_take h)
    · exact hl.2 x (List.mem_of_mem_drop h)
/-- What a crash leaves of a sector. -/
def DM.crA (D : DM) (K : List Bool) (t at_ : Int) (i : Nat) : List Nat := match D.nw i with
  | none => D.la i
  | some s => mix (lv K t at_ (rk D.nw i)) s (D.la i)
def DM.cr (D : DM) (K : List Bool) (t at_ : Int) : DM := ⟨D.n, D.crA K t at_, fun _ => none, none, false⟩
/-- .. while the first p of those written are done. -/
def DM.crp (D : DM) (K : List Bool) (t at_ : Int) (p : Nat) : DM := { D with la := fun i => if rk D.nw i < p then D.crA K t at_ i else D.la i }
theorem DM.crp_zero (D : DM) (K : List Bool) (t at_ : Int) : D.crp K t at_ 0 = D := by
  obtain ⟨n, la, nw, fu, dn⟩ := D
  exact congrArg (fun la => DM.mk n la nw fu dn) (funext fun i => if_neg (by omega))
theorem DM.crp_succ {D : DM} (hok : D.ok) (K : List Bool) (t at_ : Int) {p i : Nat} (h : (wrs D.n D.nw)[p]? = some i) {s : List Nat} (hs : D.nw i = some s) :
    { D.crp K t at_ p with la := upd (D.crp K t at_ p).la i (mix (lv K t at_ p) s ((D.crp K t at_ p).la i)) } = D.crp K t at_ (p + 1) := by
  obtain ⟨hi, _, hr⟩ := wrs_rk h
  refine congrArg (fun la => DM.mk D.n la D.nw D.fu D.dn) (funext fun j => ?_)
  show (if j = i then mix (lv K t at_ p) s (if rk D.nw i < p then D.crA K t at_ i else D.la i) else if rk D.nw j < p then D.crA K t at_ j else D.la j) = if rk D.nw j < p + 1 then D.crA K t at_ j else D.la j
  by_cases e : j = i
  · subst e
    rw [if_pos rfl, if_neg (by omega), if_pos (by omega)]
    unfold DM.crA
    rw [hs, hr]
  · rw [if_neg e]
    by_cases h1 : rk D.nw j < p
    · rw [if_pos h1, if_pos (by omega)]
    · rw [if_neg h1]
      by_cases h2 : rk D.nw j < p + 1
      · rw [if_pos h2]
        unfold DM.crA
        cases hn : D.nw j with
        | none => rfl
        | some s' =>
          exfalso
          have := wrs_at (nw := D.nw) (hok.nw j s' hn).1 (by rw [hn]; rfl)
          rw [show rk D.nw j = p by omega, h] at this
          exact e (Option.some.inj this).symm
      · rw [if_neg h2]
theorem DM.crp_end {D : DM} (hok : D.ok) (K : List Bool) (t at_ : Int) : (D.crp K t at_ (wrs D.n D.nw).length).la = D.crA K t at_ := by
  funext i
  show (if rk D.nw i < (wrs D.n D.nw).length then D.crA K t at_ i else D.la i) = _
  split
  · rfl
  · rename_i hh
    unfold DM.crA
    cases hn : D.nw i with
    | none => rfl
    | some s => exact absurd (rk_lt (hok.nw i s hn).1 (by rw [hn]; rfl)) hh
/-- The first bytes of a sector of what lasts are put anew. -/
theorem Dsk.rowk {w : World} {b lb mb : Nat} {D : DM} (h : Dsk w b lb mb D) {i : Nat} (hi : i < D.n) {s : List Nat} (hs : sec s) (k : Nat) : Dsk (w.setCells lb (i * 64) (cells8 (s.take k))) b lb mb { D with la := upd D.la i (mix k s (D.la i)) } := by
  have hg := grown_set64 lb (cells8 (s.take k)) (i * 64) w
  have e1 := hg.block b h.bl (fun e => h.n1 (Option.some.inj e))
  have e3 := hg.block mb h.mp.lt (fun e => h.n3 (Option.some.inj e).symm)
  have c1 : ∀ o, (w.setCells lb (i * 64) (cells8 (s.take k))).cell? ⟨b, o, none⟩ = w.cell? ⟨b, o, none⟩ := fun o => World.cell?_of_block (w := w) e1
  have f1 : ∀ o, (w.setCells lb (i * 64) (cells8 (s.take k))).frozen? ⟨b, o, none⟩ = w.frozen? ⟨b, o, none⟩ := fun o => World.frozen?_of_block (w := w) e1
  have hlen : (cells8 (s.take k)).length ≤ 64 := by rw [cells8_len, List.length_take, hs.1]; omega
  have ht : w.there lb (i * 64) (cells8 (s.take k)).length := fun j hj => by
    have := h.th (i * 64 + j) (by omega)
    rwa [Nat.zero_add] at this
  obtain ⟨E, ⟨es, clock, hbm, r⟩, hE⟩ := h.mp
  refine ⟨(c1 0).trans h.c0, (c1 1).trans h.c1, (c1 2).trans h.c2, (c1 3).trans h.c3, (c1 4).trans h.c4, fun i hi => (f1 i).trans (h.z i hi), Nat.lt_of_lt_of_le h.bl hg.size, Nat.lt_of_lt_of_le h.ll hg.size,
    fun j hj => ?_, World.there_setCells h.th _ _ _, ⟨E, ⟨es, clock, e3.trans hbm, r⟩, hE⟩, h.n1, h.n2, h.n3, ⟨h.ok.n, fun j => ?_, h.ok.nw, h.ok.fu⟩⟩
  · by_cases e : j = i
    · subst e
      simp only [upd, if_true]
      intro q v hv
      have hv' : (cells8 (s.take k) ++ cells8 ((D.la j).drop k))[q]? = some v := by
        rw [← hv]
        simp [mix, cells8]
      by_cases hq : q < (cells8 (s.take k)).length
      · rw [List.getElem?_append_left hq] at hv'
        exact World.rangeAt_setCells_same _ _ _ _ ht q v hv'
      · rw [World.cell?_setCells_out lb _ _ _ _ (fun _ _ => Or.inr (by show _ ≤ j * 64 + q; omega))]
        rw [List.getElem?_append_right (by omega)] at hv'
        refine h.rows j hj q v ?_
        have hl := h.ok.la j
        have hk : k ≤ 64 ∨ 64 < k := by omega
        rcases hk with hk | hk
        · have e2 : (cells8 (s.take k)).length = k := by rw [cells8_len, List.length_take, hs.1]; omega
          rw [e2] at hv' hq
          have : (cells8 ((D.la j).drop k)) = (cells8 (D.la j)).drop k := by simp [cells8]
          rw [this, List.getElem?_drop] at hv'
          rwa [show k + (q - k) = q by omega] at hv'
        · have e2 : (D.la j).drop k = [] := List.drop_eq_nil_of_le (by rw [hl.1]; omega)
          rw [e2] at hv'
          simp [cells8] at hv'
    · simp only [upd, if_neg e]
      refine World.rangeAt_setCells_apart (h.rows j hj) _ _ _ (Or.inr ?_)
      rw [cells8_len' (h.ok.la j)]
      omega
  · by_cases e : j = i
    · subst e; simp only [upd, if_true]; exact mix_sec hs (h.ok.la j)
    · simp only [upd, if_neg e]; exact h.ok.la j
/-- Numbers in a row of one's own. -/
theorem row_ints {w : World} {base m : Nat} {v : Value} {cs : List Value} (h : w.ownsRow base 3 1 v m cs) : ∃ z cap g, v = .slice z m cap ∧ (0 < m → z = some ⟨g, 0, none⟩ ∧ base ≤ g ∧ g < w.heap.size ∧ ∀ p, p < m → w.cell? ⟨g, p, none⟩ = cs[p]?) := by
  rcases h.2 with ⟨rfl, rfl⟩ | ⟨g, cap, cur, rfl, hg, _⟩
  · exact ⟨none, 0, 0, rfl, fun h => absurd h (by omega)⟩
  · exact ⟨_, cap, g, rfl, fun _ => ⟨rfl, hg, (h.lt g rfl).2, fun p hp => by
      rw [h.cellAt p (by omega)]⟩⟩
theorem copy_row {w : World} {lb i g k c : Nat} {s : List Nat} (hs : sec s) (hk : k ≤ 64) (ht : w.there lb (i * 64) 64) (hr : w.rangeAt g 0 (cells8 s)) (ty : TypeId) :
    (Builtin.copy_ #[38, 38] ty #[.slice (some ⟨lb, i * 64, none⟩) 64 64, .slice (some ⟨g, 0, none⟩) k c]).run Try.prog w = .ok (.int .i64 (k : Int)) (w.setCells lb (i * 64) (cells8 (s.take k))) := by
  have hl : (cells8 (s.take k)).length = k := by rw [cells8_len, List.length_take, hs.1]; omega
  have := run_copy_cells (P := Try.prog) w 38 38 ty 5 lb (i * 64) 64 64 ⟨g, 0, none⟩ k c (cells8 (s.take k)) Try.underlying38 (by kernel_rfl) (by rw [hl]; exact (Nat.min_eq_left hk).symm) (fun j v hv => by
      have hj : j < k := by have := (List.getElem?_eq_some_iff.1 hv).1; omega
      rw [Addr.add_mid]
      refine hr j v ?_
      have e : cells8 (s.take k) = (cells8 s).take k := by simp [cells8]
      rw [e, List.getElem?_take_of_lt hj] at hv
      exact hv) (fun j hj => (ht j (by omega)).1) (fun j hj => (ht j (by omega)).2) (cells8_one _)
  rw [this, hl]
  rfl
theorem run_bound64 {w : World} {k : Nat} (hk : k ≤ 64) (b : BoundsCode) : (Instr.sliceBound (.int .i64 (k : Int)) 64 b).run Try.prog w = .ok k w := by
  simp [Instr.sliceBound, asIntOf]
  intro h
  omega
theorem run_head_sec {w : World} {g k : Nat} (hk : k ≤ 64) : (Instr.sliceAt 93 (.pointer (some ⟨g, 0, none⟩)) none (some (.int .i64 (k : Int))) none).run Try.prog w = .ok (.slice (some ⟨g, 0, none⟩) k 64) w := by
  have hz : (Try.prog.info? 5).map (·.size) = some 1 := by kernel_rfl
  cases hq : Try.prog.info? 5 with
  | none => simp [hq] at hz
  | some t =>
    simp [Instr.sliceAt, run_underlying Try.underlying93, Instr.sureAddr, Instr.sliceBounds, sizeOf, typeInfo, hq, Addr.add_mid, run_bound64 hk]
theorem wp_copy_row {w : World} {o : Oper} {a : Act} {Kt : Act → World → Prop} {Q : Exit → Act → World → Prop} (x y : Operand) (hop : o.op = Op.call { callee := .builtin .copy, args := #[x, y], argTypes := #[38, 38] }) {lb i g k c : Nat} {s : List Nat} (hx : a.eval x = .slice (some ⟨lb, i * 64, none⟩) 64 64) (hy : a.eval y = .slice (some ⟨g, 0, none⟩) k c) (hs : sec s) (hk : k ≤ 64) (ht : w.there lb (i * 64) 64) (hr : w.rangeAt g 0 (cells8 s))
    (h : Kt (a.put o.dst (.int .i64 (k : Int))) (w.setCells lb (i * 64) (cells8 (s.take k)))) : o.wp Try.prog a w Kt Q := by
  have hrun := copy_row (c := c) hs hk ht hr o.type
  unfold Oper.wp
  simp only [execOp, hop, resolve, invoke, builtin, List.map_toArray, List.map_cons, List.map_nil, hx, hy, hrun, Sem.run_bind, Sem.run_pure, Result.andThen_ok]
  exact h
end Go.Proofs.Ytpophfeommlajaa
