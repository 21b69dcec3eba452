/- Layer 13: the law of what lasts. -/
import Derived.Test.YtjgpopjpmfkfmaaD13G
import Derived.Test.YtjgpopjpmfkfmaaSameBA
namespace Go.Proofs.Ytjgpopjpmfkfmaa
set_option maxRecDepth 100000
open Go.RowKit Go.Maps
attribute [local go_sem ↓] Go.wp_at_zero Go.wp_at_succ

/-- A call of a script, on a disk. -/
def DM.step (D : DM) (o : OpV) : DM := if o.kd = 1 then D.wr o.i (fl o.f o.m) else if o.kd = 2 then D.sy else if o.kd = 4 then D.cr o.KL o.t o.a else D
def lp (k : Nat) (O : Nat → OpV) : Nat → DM
  | 0 => DM.new k
  | i + 1 => (lp k O i).step (O i)
theorem step_free {D : DM} (h1 : D.dn = false) (h2 : D.fu = none) (o : OpV) : (D.step o).dn = false ∧ (D.step o).fu = none ∧ (D.step o).n = D.n := by
  have hd : ¬ D.dn = true := by simp [h1]
  have hb : D.burn = D := by unfold DM.burn; rw [h2]
  have hm : D.may = true := by unfold DM.may; rw [h2]
  unfold DM.step
  split
  · unfold DM.wr
    rw [if_neg hd, if_pos hm]
    split
    · split
      · show D.burn.dn = false ∧ D.burn.fu = none ∧ D.burn.n = D.n
        rw [hb]
        exact ⟨h1, h2, rfl⟩
      · exact ⟨h1, h2, rfl⟩
    · exact ⟨h1, h2, rfl⟩
  · split
    · unfold DM.sy
      rw [if_neg hd, if_pos hm]
      show D.burn.dn = false ∧ D.burn.fu = none ∧ D.burn.n = D.n
      rw [hb]
      exact ⟨h1, h2, rfl⟩
    · split
      · exact ⟨rfl, rfl, rfl⟩
      · exact ⟨h1, h2, rfl⟩
theorem lp_free (k : Nat) (O : Nat → OpV) : ∀ i, (lp k O i).dn = false ∧ (lp k O i).fu = none ∧ (lp k O i).n = k
  | 0 => ⟨rfl, rfl, rfl⟩
  | i + 1 => by
    obtain ⟨h1, h2, h3⟩ := lp_free k O i
    obtain ⟨g1, g2, g3⟩ := step_free h1 h2 (O i)
    exact ⟨g1, g2, g3.trans h3⟩
theorem ba_range {w : World} {g : Nat} {l : List Nat} (h : w.rangeAt g 0 (cells8 l)) (hl : ∀ x ∈ l, x < 256) : BA w (some ⟨g, 0, none⟩) l.length (fun i => l.getD i 0) := by
  refine ⟨fun i => getD_lt hl i, Or.inr ⟨g, 0, rfl, ⟨fun i hi => ?_⟩⟩⟩
  exact h i _ (cells8_at l i hi)
theorem fl_of {l : List Nat} {n : Nat} (h : l.length = n) : fl (fun i => l.getD i 0) n = l := by
  apply List.ext_getElem?
  intro i
  rcases Nat.lt_or_ge i n with hi | hi
  · rw [fl_at _ hi, List.getElem?_eq_getElem (by omega)]
    simp [List.getD_eq_getElem?_getD, List.getElem?_eq_getElem (show i < l.length by omega)]
  · rw [List.getElem?_eq_none (by rw [fl_len]; exact hi), List.getElem?_eq_none (by omega)]
theorem ba_sec {w : World} {g : Nat} {l : List Nat} (h : w.rangeAt g 0 (cells8 l)) (hl : sec l) : BA w (some ⟨g, 0, none⟩) 64 (fun i => l.getD i 0) := by
  have := ba_range h hl.2
  rwa [hl.1] at this
theorem OpV.ok.keep {W w1 : World} {o : OpV} (h : o.ok W) (hb : Below W.heap.size W w1) : o.ok w1 := ⟨h.kd, h.i, h.b.keep hb, h.k.keep hb, h.t, h.a⟩
theorem OpsAt.keep {W w1 : World} {z : Option Addr} {n : Nat} {O : Nat → OpV} (h : OpsAt W z n O) (hb : Below W.heap.size W w1) : OpsAt w1 z n O :=
  ⟨h.at_.imp id fun ⟨b, o, e, hr⟩ => ⟨b, o, e, fun i hi j v hv => later hb (hr i hi j v hv)⟩, fun i hi => (h.r i hi).keep hb⟩
/-- What is handed in lies ahead of the disk. -/
theorem ba_ahead {w wr : World} {b lb mb : Nat} {D : DM} (h : FzR w wr b lb mb D) {x : Option Addr} {m : Nat} {f : Nat → Nat} (hb : BA w x m f) : 0 < m → ∀ p, x = some p → X3 b lb mb p.block = false := fun hm p hp => by
  rcases hb.at_ with h0 | ⟨q, o, e, hr⟩
  · omega
  · rw [hp] at e
    obtain rfl := Option.some.inj e
    have := World.block_lt_of_cell? w _ (hr.c 0 hm)
    cases hx : X3 b lb mb q with
    | false => rfl
    | true =>
      have h1 := h.b
      have h2 := h.l
      have h3 := h.m
      have h4 : q < w.heap.size := this
      rcases X3_of.1 hx with e | e | e <;> omega
theorem kb_ahead {w wr : World} {b lb mb : Nat} {D : DM} (h : FzR w wr b lb mb D) {z : Option Addr} {K : List Bool} (hk : Kb w z K) : K ≠ [] → ∀ p, z = some p → X3 b lb mb p.block = false := fun hK p hp => by
  rcases hk with h0 | ⟨q, o, e, hr⟩
  · exact absurd h0 hK
  · rw [hp] at e
    obtain rfl := Option.some.inj e
    cases K with
    | nil => exact absurd rfl hK
    | cons x r =>
      have := World.block_lt_of_cell? w _ (hr 0 x rfl)
      cases hx : X3 b lb mb q with
      | false => rfl
      | true =>
        have h1 := h.b
        have h2 := h.l
        have h3 := h.m
        have h4 : q < w.heap.size := this
        rcases X3_of.1 hx with e | e | e <;> omega
/-- A Write of bytes that were handed in. -/
theorem write_fz {w wr : World} {b lb mb : Nat} {D : DM} (h : FzR w wr b lb mb D) (i : Int) {x : Option Addr} {m c : Nat} {f : Nat → Nat} (hb : BA w x m f) : Calls Try.prog 22 #[pp b, .int .i64 i, .slice x m c] wr (fun e w' => e = .returned (.int .i64 (D.wrE i m)) ∧ FzR w w' b lb mb (D.wr i (fl f m))) :=
  Calls.mono (write_any h.d i (hb.keep h.k) (ba_ahead h hb)) (fun _ _ ⟨he, hD, hK⟩ => ⟨he, h.next hD hK⟩)
theorem crash_fz {w wr : World} {b lb mb : Nat} {D : DM} (h : FzR w wr b lb mb D) {z : Option Addr} {KL : List Bool} {c : Nat} (hk : Kb w z KL) (t a : Int) : Calls Try.prog 20 #[pp b, .agg #[.slice z KL.length c, .int .i64 t, .int .i64 a]] wr (fun e w' => (∃ v, e = .returned v) ∧ FzR w w' b lb mb (D.cr KL t a)) :=
  Calls.mono (crash_any h.d (hk.keep h.k) (kb_ahead h hk) t a) (fun _ _ ⟨he, hD, hK⟩ => ⟨he, h.next hD hK⟩)
theorem mix_all {s l : List Nat} (hs : sec s) (hl : sec l) : mix 64 s l = s := by
  unfold mix
  rw [List.take_of_length_le (by rw [hs.1]; omega), List.drop_eq_nil_of_le (by rw [hl.1]; omega), List.append_nil]
theorem opcells_one (o : OpV) : ∀ v ∈ o.cells, v.oneCell' = true := by
  intro v hv
  simp only [OpV.cells, List.mem_cons, List.not_mem_nil, or_false] at hv
  rcases hv with rfl | rfl | rfl | rfl | rfl | rfl <;> rfl
/-- A variable that holds a call of a script. -/
structure VarO (w w' : World) (g : Nat) (o : OpV) : Prop where
  bl : Below w.heap.size w w'
  ge : w.heap.size ≤ g
  lt : g < w'.heap.size
  r : w'.rangeAt g 0 o.cells
section
variable {w : World} {ops : Array Oper} {rest : List Oper} {o : Oper} {a : Act} {Q : Exit → Act → World → Prop}
end
theorem FzR.gro {w wr w' : World} {b lb mb : Nat} {D : DM} (h : FzR w wr b lb mb D) {v : Value} {n : Nat} {e : TypeId} {xs : List Value} (ho : wr.ownsRow w.heap.size e 1 v n xs) (hx : ∀ g, v.ownBlock = some g → X3 b lb mb g = false) (hG : wr.grownBy w' v.ownBlock) : FzR w w' b lb mb D := by
  have hne : ∀ k, X3 b lb mb k = true → some k ≠ v.ownBlock := fun k hk e => by
    rw [hx k e.symm] at hk
    cases hk
  refine ⟨h.d.same hG.size (fun k hk => hG.block k (by
      rcases X3_of.1 hk with rfl | rfl | rfl
      · exact h.d.bl
      · exact h.d.ll
      · exact h.d.mp.lt) (hne k hk)), h.b, h.l, h.m, ⟨hG.os.trans h.k.os, hG.tape.trans h.k.tape, hG.output.trans h.k.output, Nat.le_trans h.k.size hG.size, fun k hk => (hG.block k (Nat.lt_of_lt_of_le hk h.k.size) (fun e => ?_)).trans (h.k.block k hk)⟩⟩
  have := (ho.lt k e.symm).1
  omega
theorem own_form {w : World} {base n : Nat} {e : TypeId} {v : Value} {xs : List Value} (h : w.ownsRow base e 1 v n xs) (hn : 0 < n) : ∃ q cap, v = .slice (some ⟨q, 0, none⟩) n cap ∧ ∀ i, i < n → w.cell? ⟨q, i, none⟩ = xs[i]? := by
  rcases h.2 with ⟨_, h0⟩ | ⟨g, cap, cur, rfl, _⟩
  · omega
  · exact ⟨g, cap, rfl, fun i hi => by rw [h.cellAt i (by omega)]⟩
theorem sy_free {D : DM} (h1 : D.dn = false) (h2 : D.fu = none) : D.sy.dn = false ∧ D.sy.fu = none ∧ D.sy.n = D.n ∧ D.sy.nw = fun _ => none := by
  have hd : ¬ D.dn = true := by simp [h1]
  have hb : D.burn = D := by unfold DM.burn; rw [h2]
  have hm : D.may = true := by unfold DM.may; rw [h2]
  unfold DM.sy
  rw [if_neg hd, if_pos hm]
  show D.burn.dn = false ∧ D.burn.fu = none ∧ D.burn.n = D.n ∧ _
  rw [hb]
  exact ⟨h1, h2, rfl, rfl⟩
/-- What a disk with nothing written since tells. -/
theorem rd_last {D : DM} (h1 : D.dn = false) (h2 : D.nw = fun _ => none) {i : Nat} (hi : i < D.n) : D.rdB (i : Int) = D.la i ∧ D.rdE (i : Int) = 0 := by
  have hd : ¬ D.dn = true := by simp [h1]
  have hr : 0 ≤ (i : Int) ∧ (i : Int) < D.n := by omega
  refine ⟨?_, (if_neg hd).trans (if_pos hr)⟩
  refine ((if_neg hd).trans (if_pos hr)).trans ?_
  show (D.nw (i : Int).toNat).getD (D.la (i : Int).toNat) = _
  rw [h2]
  rfl
/-- What isn't written since is as it was behind a crash. -/
theorem cr_last {D : DM} (h1 : D.dn = false) (hf : D.fu = none) (h2 : D.nw = fun _ => none) (at_ : Int) (K : List Bool) (t a : Int) {i : Nat} (hc : D.wrE at_ 64 ≠ 0 ∨ (i : Int) ≠ at_) : ((D.wr at_ z64).cr K t a).la i = D.la i := by
  have hd : ¬ D.dn = true := by simp [h1]
  have hb : D.burn = D := by unfold DM.burn; rw [hf]
  have hm : D.may = true := by unfold DM.may; rw [hf]
  have key : ∀ (E : DM), E.la = D.la → E.nw i = none → (E.cr K t a).la i = D.la i := fun E e1 e2 => by
    show (match E.nw i with | none => E.la i | some s => mix (lv K t a (rk E.nw i)) s (E.la i)) = D.la i
    rw [e2]
    show E.la i = D.la i
    rw [e1]
  have e64 : z64.length = 64 := z64_sec.1
  unfold DM.wrE at hc
  rw [if_neg hd] at hc
  unfold DM.wr
  rw [if_neg hd]
  by_cases hr : 0 ≤ at_ ∧ at_ < D.n
  · rw [if_pos hr, if_pos rfl, if_pos hm] at hc
    rw [if_pos hr, if_pos e64, if_pos hm]
    refine key _ (burn_la D) ?_
    show upd D.nw at_.toNat (some z64) i = none
    have : i ≠ at_.toNat := by
      rcases hc with hc | hc
      · exact absurd rfl hc
      · omega
    unfold upd
    rw [if_neg this, h2]
  · rw [if_neg hr]
    exact key D rfl (by rw [h2])
structure LaP (w wr : World) (b lb mb : Nat) (D : DM) (v : Value) (m : Nat) (cs : List Value) : Prop where
  f : FzR w wr b lb mb D
  a : AllR w wr b lb mb v m D.la cs
/-- While the sectors are compared. -/
def CmR (w wr : World) (b lb mb : Nat) (D D3 : DM) (v : Value) (k : Nat) (cs : List Value) : Prop := FzR w wr b lb mb D3 ∧ AllR w wr b lb mb v k D.la cs
end Go.Proofs.Ytjgpopjpmfkfmaa
