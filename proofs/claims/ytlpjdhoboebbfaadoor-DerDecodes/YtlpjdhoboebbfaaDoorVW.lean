/- Walks by states where memory is written through a pointer that is handed in: what such calls do, and where they panic; bytes copied into an array of one's own. -/
import Derived.Test.YtlpjdhoboebbfaaDoorVD2
import Derived.Test.YtlpjdhoboebbfaaDoorVQ7
namespace Go.Proofs.YtlpjdhoboebbfaaDoor
open Go.RowKit

theorem Rp.kp {W : Bs} {n : Nat} {σ : SS} {a : Act} {w : World} (h : Rp W n σ a w) : W.kp w := let ⟨_, h⟩ := h; h.bl
theorem grown_kp {W : Bs} {w w' : World} {b : Nat} (hk : W.kp w) (b1 : W.w.heap.size ≤ b ∨ W.X b = true) (hw : w.grownBy w' (some b)) : W.kp w' := by
  have hk : Kp W.X W.w w := hk
  exact ⟨hw.os.trans hk.os, hw.tape.trans hk.tape, hw.output.trans hk.output, Nat.le_trans hk.size hw.size, fun k hlt hx => (hw.block k (Nat.lt_of_lt_of_le hlt hk.size) (fun e => by
    have e := Option.some.inj e
    rcases b1 with b1 | b1
    · omega
    · rw [← e, hx] at b1; cases b1)).trans (hk.block k hlt hx)⟩
theorem grown_refl (w : World) (b : Option Nat) : w.grownBy w b := World.grownBy.refl _ _
theorem grown_trans {w w1 w2 : World} {b : Nat} (h : w.grownBy w1 (some b)) (h2 : w1.grownBy w2 (some b)) : w.grownBy w2 (some b) :=
  ⟨h2.os.trans h.os, h2.tape.trans h.tape, h2.output.trans h.output, Nat.le_trans h.size h2.size, fun k hk hn => (h2.block k (Nat.lt_of_lt_of_le hk h.size) hn).trans (h.block k hk hn)⟩
theorem grown_below {w w1 : World} {b : Nat} (h : Below w.heap.size w w1) : w.grownBy w1 (some b) :=
  ⟨h.os, h.tape, h.output, h.size, fun k hk _ => h.block k hk⟩
theorem enterB {P : Program} {f : FuncId} {fn : Func} {c : Code} {args : List Value} {w : World} {R : Ending → World → Prop} {X : Nat → Bool} (hf : P.funcs[f]? = some fn) (hb : fn.body = some c) (n : Nat) (hn : fn.ntmps = n) (hl : args.length ≤ n)
    (h : ∀ a, Rp ⟨w, X, []⟩ n (SS.init args) a w → c.wp P (bodyPost P fn R) a w) : Calls P f args.toArray w R := by
  refine calls_of_wp hf hb (h _ ⟨fun _ => ⟨0, undef, fun _ => false⟩, rfl, ?_, ?_, Kp.refl _ _, fun x cs hx => (by cases hx), fun x y hx => (by cases hx), fun j v x o _ hv e => (by cases hv; cases e), ⟨fun x p hx => (by cases hx), fun x y hx => (by cases hx), fun x y hx => (by cases hx), fun j v x g _ hv e => (by cases hv; cases e)⟩⟩)
  · simp [hn]; omega
  · intro j v hj hv
    cases hv
    simp only [SV.at]
    by_cases h1 : j < args.length
    · rw [Array.getElem?_append_left (by simpa using h1)]
      simp [h1]
    · rw [Array.getElem?_append_right (by simpa using h1)]
      have h2 : (Array.replicate (fn.ntmps - args.toArray.size) undef)[j - args.toArray.size]? = some undef := by
        rw [Array.getElem?_replicate, if_pos (by simp [hn]; omega)]
      rw [h2, List.getD_eq_getElem?_getD, List.getElem?_eq_none (Nat.le_of_not_lt h1)]
      rfl
section
variable {P : Program} {W : Bs} {n : Nat} {ops : Array Oper} {i : Nat} {o : Oper} {L : Nat → Bool} {xs : List OE} {σ : SS}
theorem u_nilV (u : Up ops i o L) (hg : Gd ops n o (run L 0 xs σ)) (dd : Nat) (hdd : o.dst = some dd) (x : Operand) (ho : o.op = .nilCheck x) {p : Addr} (hx : lookO n ops i o xs σ x = some (.val (.pointer (some p)))) : GStep P W n ops o (run L 0 xs σ) ((eS dd (.val (.pointer (some p)))).app (run L 0 xs σ)) := by
  refine u_any u hg dd hdd _ (fun _ _ e => by cases e) fun β a w hr => ?_
  have ex : a.eval x = .pointer (some p) := hr.eval (u.ev hx)
  unfold execOp
  simp [ho, ex, SV.at]
theorem u_fieldV (u : Up ops i o L) (hg : Gd ops n o (run L 0 xs σ)) (dd : Nat) (hdd : o.dst = some dd) (ty : TypeId) (x : Operand) (j : Nat) (ho : o.op = .fieldAddr ty x j) {g off : Nat} (hx : lookO n ops i o xs σ x = some (.val (.pointer (some ⟨g, off, none⟩)))) {fs : Array Field} (hu : P.underlying ty = some (.struct fs)) {f0 : Field} (hf : fs[j]? = some f0) {k : Nat} (hz : (P.info? f0.type).map (·.size) = some (k + 1)) (off' : Nat) (ho' : off' = off + f0.offset) : GStep P W n ops o (run L 0 xs σ) ((eS dd (.val (.pointer (some ⟨g, off', none⟩)))).app (run L 0 xs σ)) := by
  subst ho'
  refine u_any u hg dd hdd _ (fun _ _ e => by cases e) fun β a w hr => ?_
  cases hq : P.info? f0.type with
  | none => simp [hq] at hz
  | some t =>
    have hs : t.size = k + 1 := by simpa [hq] using hz
    have ex : a.eval x = .pointer (some ⟨g, off, none⟩) := hr.eval (u.ev hx)
    unfold execOp
    simp [ho, ex, SV.at, Instr.fieldAt, run_underlying hu, hf, Instr.sureAddr, fieldPlace, sizeOf, typeInfo, hq, hs, Addr.add_mid]
theorem u_loadF1 (u : Up ops i o L) (hg : Gd ops n o (run L 0 xs σ)) (dd : Nat) (hdd : o.dst = some dd) (ty : TypeId) (x : Operand) (ho : o.op = .load ty x) {g off : Nat} (hx : lookO n ops i o xs σ x = some (.val (.pointer (some ⟨g, off, none⟩)))) (y : Nat) {cs : List Value} (hq : lookQ (deps o) i 0 ops.toList xs y (some (σ.q y)) = some (some (varPd g cs))) {d : TypeDesc} (hu : P.underlying ty = some d) (hd : d.isRow = false) (v : Value) (hv : cs[off]? = some v) : GStep P W n ops o (run L 0 xs σ) ((eS dd (.val v)).app (run L 0 xs σ)) := by
  refine u_valQ u hg dd hdd y hq _ fun β a w hr hp => ?_
  obtain ⟨_, _, h3, _⟩ := hp
  have ex : a.eval x = .pointer (some ⟨g, off, none⟩) := hr.eval (u.ev hx)
  have hc : w.cell? ⟨g, off, none⟩ = some v := by
    have := h3 off v hv
    rw [Nat.zero_add] at this
    exact this
  have hagg : (isAgg ty).run P w = .ok false w := by
    unfold isAgg
    rw [Sem.run_bind, run_underlying hu w]
    cases d <;> simp_all
  unfold execOp
  simp [ho, ex, Instr.loadAt, Instr.sureAddr, loadVar, hagg, hc]
/-- One cell of memory that stays whatever is written here. -/
theorem u_loadK (u : Up ops i o L) (hg : Gd ops n o (run L 0 xs σ)) (dd : Nat) (hdd : o.dst = some dd) (ty : TypeId) (x : Operand) (ho : o.op = .load ty x) {p : Addr} (hx : lookO n ops i o xs σ x = some (.val (.pointer (some p)))) {d : TypeDesc} (hu : P.underlying ty = some d) (hd : d.isRow = false) (v : Value) (hv : ∀ w, W.kp w → w.cell? p = some v) : GStep P W n ops o (run L 0 xs σ) ((eS dd (.val v)).app (run L 0 xs σ)) := by
  refine u_any u hg dd hdd _ (fun x c hp => by cases hp) fun β a w hr => ?_
  have hc : w.cell? p = some v := hv w hr.bl
  have hagg : (isAgg ty).run P w = .ok false w := by
    unfold isAgg
    rw [Sem.run_bind, run_underlying hu w]
    cases d <;> simp_all
  unfold execOp
  simp [ho, hr.eval (u.ev hx), SV.at, Instr.loadAt, Instr.sureAddr, loadVar, hagg, hc]
/-- A call that writes a told variable. -/
theorem u_callW (u : Up ops i o L) (hg : Gd ops n o (run L 0 xs σ)) (dd : Nat) (hdd : o.dst = some dd) (F : Nat) (ar : Array Operand) (ts : Array TypeId) (ho : o.op = .call { callee := .value (.func F), args := ar, argTypes := ts }) (vs : List Value) (hx : ar.toList.map (lookO n ops i o xs σ) = vs.map (fun v => some (.val v))) (hE : ∀ (vs : Array Value) (w : World), (callFunc F vs).run P w = .ok (.enter F vs) w) (x : Nat) {b : Nat} {cs : List Value} (hq : lookQ (deps o) i 0 ops.toList xs x (some (σ.q x)) = some (some (varPd b cs))) (v : Value) (cs' : List Value)
    (hC : ∀ w, W.kp w → (W.w.heap.size ≤ b ∨ W.X b = true) → w.rangeAt b 0 cs → w.there b 0 cs.length → b < w.heap.size → Calls P F vs.toArray w fun e w' => e = .returned v ∧ w.grownBy w' (some b) ∧ w'.rangeAt b 0 cs' ∧ w'.there b 0 cs'.length) : GStep P W n ops o (run L 0 xs σ) ((eT dd (.val v) x (varPd b cs')).app (run L 0 xs σ)) := by
  refine u_callT u hg dd hdd F ar ts ho (vs.map SV.val) (by rw [List.map_map]; exact hx) hE x hq v (varPd b cs') fun β a w hr => ?_
  obtain ⟨⟨p1, p2, p3, p4⟩, hF⟩ := hr.qk.qa x _ (u.q hq)
  have hb := hF b ((p2 b).2 rfl)
  have e : (vs.map SV.val).map (SV.at β) = vs := by
    rw [List.map_map]
    exact (List.map_congr_left (fun _ _ => rfl)).trans (List.map_id vs)
  rw [e]
  refine Calls.mono (hC w hr.bl hb.1 p3 p4 hb.2) ?_
  rintro e w' ⟨rfl, hw, h3, h4⟩
  exact ⟨rfl, (β x).F, ⟨p1, p2, h3, h4⟩, fun k hk => ⟨Or.inl hk, Nat.lt_of_lt_of_le (hF k hk).2 hw.size⟩, hw.os, hw.tape, hw.output, hw.size, fun k hk hf => hw.block k hk (fun e => by
    have e := Option.some.inj e
    rw [(p2 k).2 e] at hf
    cases hf)⟩
theorem u_max (u : Up ops i o L) (hg : Gd ops n o (run L 0 xs σ)) (dd : Nat) (hdd : o.dst = some dd) (x y : Operand) (ts : Array TypeId) (ho : o.op = .call { callee := .builtin .max, args := #[x, y], argTypes := ts }) {k : IntKind} {p q : Int} (hx : lookO n ops i o xs σ x = some (.val (.int k p))) (hy : lookO n ops i o xs σ y = some (.val (.int k q))) (r : Int) (hr : r = if q > p then q else p) : GStep P W n ops o (run L 0 xs σ) ((eS dd (.val (.int k r))).app (run L 0 xs σ)) := by
  refine u_any u hg dd hdd _ (fun _ _ e => by cases e) fun β a w h => ?_
  have ex : a.eval x = .int k p := h.eval (u.ev hx)
  have ey : a.eval y = .int k q := h.eval (u.ev hy)
  subst hr
  unfold execOp
  by_cases h1 : q > p
  · simp [ho, resolve, invoke, builtin, ex, ey, SV.at, Builtin.max_, Builtin.max2, h1]
  · simp [ho, resolve, invoke, builtin, ex, ey, SV.at, Builtin.max_, Builtin.max2, h1]
theorem run_bound {P : Program} (k l : Nat) (c : BoundsCode) (h : k ≤ l) (w : World) : (Instr.sliceBound (.int .i64 (k : Int)) l c).run P w = .ok k w := by
  simp [Instr.sliceBound, asIntOf, h]
/-- An own array's slice from a place on. -/
theorem u_sliceT (u : Up ops i o L) (hg : Gd ops n o (run L 0 xs σ)) (dd : Nat) (hdd : o.dst = some dd) (ty : TypeId) (x e : Operand) (ho : o.op = .slice ty x (some e) none none) {y : Nat} (hx : lookO n ops i o xs σ x = some (.ptr y 0)) {cs : List Value} (hm : lookM (deps o) i 0 ops.toList xs y (some (σ.m y)) = some (some cs)) {k : Nat} {t : TypeId} (hu : P.underlying ty = some (.array k t)) (hz : (P.info? t).map (·.size) = some 1) {off : Nat} (he : lookO n ops i o xs σ e = some (.val (.int .i64 (off : Int)))) (hk : off ≤ k) (off' : Nat) (ho' : off' = if k = off then 0 else off) : GStep P W n ops o (run L 0 xs σ) ((eS dd (.sli y off' (k - off) (k - off))).app (run L 0 xs σ)) := by
  subst ho'
  refine u_any u hg dd hdd _ (fun x c hp => by cases hp; exact ⟨cs, hm⟩) fun β a w hr => ?_
  have ee : a.eval e = .int .i64 (off : Int) := hr.eval (u.ev he)
  cases hq : P.info? t with
  | none => simp [hq] at hz
  | some ti =>
    have hs : ti.size = 1 := by simpa [hq] using hz
    unfold execOp
    simp [ho, hr.eval (u.ev hx), ee, SV.at, Instr.sliceAt, run_underlying hu, Instr.sureAddr, Instr.sliceBounds, sizeOf, typeInfo, hq, hs, Addr.add_mid, run_bound off k _ hk]
    split <;> rfl
end
section
variable {P : Program} {W : Bs} {n : Nat} {ops : Array Oper} {i : Nat} {o : Oper} {σ : SS} {Q : Exit → Act → World → Prop} {rest : List Nat} {a : Act} {w : World}
/-- A call that panics, and may have written a told variable by then. -/
theorem sq_callPW (h : Rp W n σ a w) (ho : ops[i]? = some o) (hg : Gd ops n o σ) (F : Nat) (ar : Array Operand) (ts : Array TypeId) (hop : o.op = .call { callee := .value (.func F), args := ar, argTypes := ts }) (vs : List Value) (hx : ar.toList.map (σ.ev n) = vs.map (fun v => some (.val v))) (hE : ∀ (vs : Array Value) (w : World), (callFunc F vs).run P w = .ok (.enter F vs) w) (x : Nat) {b : Nat} {cs : List Value} (hq : σ.q x = some (varPd b cs))
    (hC : ∀ w, W.kp w → (W.w.heap.size ≤ b ∨ W.X b = true) → w.rangeAt b 0 cs → w.there b 0 cs.length → b < w.heap.size → Calls P F vs.toArray w fun e w' => Pn e ∧ w.grownBy w' (some b))
    (hk : ∀ (t : TypeId) (v : Value) (w' : World), W.kp w' → a.defers = W.D → Q (.panic [{ v := .iface t v, recovered := false }]) a w') : wpOps P ops Q (i :: rest) a w := by
  obtain ⟨β, hr⟩ := h
  obtain ⟨⟨p1, p2, p3, p4⟩, hF⟩ := hr.qk.qa x _ hq
  have hb := hF b ((p2 b).2 rfl)
  rw [wpOps_cons]
  refine wpOp_step ho (fun K' hK => ?_)
  rw [if_pos (wanted_of hr hg)]
  have hf : a.eval (.func F) = .func (.func F) #[] #[] := rfl
  have key : ∀ (l : List Operand) (vs : List Value), l.map (σ.ev n) = vs.map (fun v => some (SV.val v)) → l.map a.eval = vs := by
    intro l
    induction l with
    | nil => intro vs h; cases vs with
      | nil => rfl
      | cons v vs => simp at h
    | cons x l ih => intro vs h; cases vs with
      | nil => simp at h
      | cons v vs =>
        simp only [List.map_cons, List.cons.injEq] at h ⊢
        exact ⟨hr.eval h.1, ih vs h.2⟩
  have hxs : ar.map a.eval = vs.toArray := Array.toList_inj.1 (by rw [Array.toList_map]; exact key ar.toList vs hx)
  unfold Oper.wp execOp
  simp only [hop, resolve, invoke, hf, Deferred.ofValue, hxs, Sem.run_bind, Sem.run_pure, Result.andThen_ok]
  rw [show (#[] ++ vs.toArray ++ #[] : Array Value) = vs.toArray by simp, hE, Oper.upon_enter]
  refine Calls.mono (hC w hr.bl hb.1 p3 p4 hb.2) ?_
  rintro e w' ⟨⟨t, v, rfl⟩, hw⟩
  exact hk t v w' (grown_kp hr.bl hb.1 hw) hr.df
end
theorem pan_X {P : Program} {w0 : World} {b : Nat} {a : Act} {w : World} {fn : Func} {t : TypeId} {v : Value} (hk : Bs.kp ⟨w0, fun k => Nat.beq k b, []⟩ w) (hd : a.defers = []) : bodyPost P fn (fun e w' => Pn e ∧ w0.grownBy w' (some b)) (.panic [{ v := .iface t v, recovered := false }]) a w := ⟨hd, ⟨t, v, rfl⟩, Kp.grown hk⟩
theorem pan_B {P : Program} {w0 : World} {a : Act} {w : World} {fn : Func} {t : TypeId} {v : Value} (hk : (Bs.of w0).kp w) (hd : a.defers = []) : bodyPost P fn (fun e w' => Pn e ∧ Below w0.heap.size w0 w') (.panic [{ v := .iface t v, recovered := false }]) a w := ⟨hd, ⟨t, v, rfl⟩, Bs.kp_of hk⟩
/-- What a told variable that was handed in holds at the end. -/
theorem Rp.wrote {w0 : World} {b n : Nat} {σ : SS} {a : Act} {w : World} (h : Rp ⟨w0, fun k => Nat.beq k b, []⟩ n σ a w) {x : Nat} {cs : List Value} (hq : σ.q x = some (varPd b cs)) : w0.grownBy w (some b) ∧ w.rangeAt b 0 cs ∧ w.there b 0 cs.length := ⟨Kp.grown h.kp, (h.told hq).1, (h.told hq).2.1⟩
/-- Bytes copied into an array of one's own. -/
theorem run_copyB {W : World} {b o dLen dCap n c : Nat} {x : Option Addr} {g : Nat → Nat} (hx : BA W x n g) (hk : n ≤ dLen) (ht : W.there b o n) (ty : TypeId) :
    (Builtin.copy_ #[22, 22] ty #[.slice (some ⟨b, o, none⟩) dLen dCap, .slice x n c]).run Tryd.prog W = .ok (goInt n) (W.setCells b o (cells8 (fl g n))) := by
  have hl : (cells8 (fl g n)).length = n := by rw [cells8_len, fl_len]
  rcases hx.at_ with h0 | ⟨xb, xo, rfl, hr⟩
  · subst h0
    exact run_copy_none (P := Tryd.prog) W 22 22 ty 5 (some ⟨b, o, none⟩) x dLen dCap 0 c Tryd.underlying22 (by kernel_rfl) (Nat.zero_min _)
  · have h := run_copy_cells (P := Tryd.prog) W 22 22 ty 5 b o dLen dCap ⟨xb, xo, none⟩ n c (cells8 (fl g n)) Tryd.underlying22 (by kernel_rfl) (by rw [hl]; exact (Nat.min_eq_left hk).symm) (fun j v hv => by
      have hj : j < n := by
        rcases Nat.lt_or_ge j n with h' | h'
        · exact h'
        · rw [List.getElem?_eq_none (by rw [hl]; exact h')] at hv; cases hv
      rw [cells8_at _ j (by rw [fl_len]; exact hj), List.getD_eq_getElem?_getD, fl_at g hj] at hv
      rw [Addr.add_mid, hr.c j hj]
      simpa using hv) (fun j hj => (ht j (by rw [hl] at hj; exact hj)).1) (fun j hj => (ht j (by rw [hl] at hj; exact hj)).2) (cells8_one _)
    rw [hl] at h
    exact h
section
variable {W : Bs} {n : Nat} {ops : Array Oper} {i : Nat} {o : Oper} {L : Nat → Bool} {xs : List OE} {σ : SS}
theorem u_cpy (u : Up ops i o L) (hg : Gd ops n o (run L 0 xs σ)) (dd : Nat) (hdd : o.dst = some dd) (x s : Operand) (ho : o.op = .call { callee := .builtin .copy, args := #[x, s], argTypes := #[22, 22] }) {y off k k' : Nat} (hx : lookO n ops i o xs σ x = some (.sli y off k k')) {cs : List Value} (hm : lookM (deps o) i 0 ops.toList xs y (some (σ.m y)) = some (some cs)) {z : Option Addr} {m c : Nat} (hs : lookO n ops i o xs σ s = some (.val (.slice z m c))) {f : Nat → Nat} (hba : ∀ w, W.kp w → BA w z m f) (hk : m ≤ k) (hl : off + m ≤ cs.length) (cs' : List Value) (hc : cs' = splice cs off (cells8 (fl f m))) : GStep Tryd.prog W n ops o (run L 0 xs σ) ((⟨some (dd, .val (.int .i64 (m : Int))), some (y, cs'), none, none, none⟩ : OE).app (run L 0 xs σ)) := by
  subst hc
  refine Step.gd hg fun β a w Q hr => ?_
  have hm0 := u.m hm
  obtain ⟨_, _, _, c4⟩ := hr.va y cs hm0
  have ex : a.eval x = .slice (some ⟨(β y).b, off, none⟩) k k' := hr.eval (u.ev hx)
  have es : a.eval s = .slice z m c := hr.eval (u.ev hs)
  have hlen : (cells8 (fl f m)).length = m := by rw [cells8_len, fl_len]
  have hrun := run_copyB (c := c) (dCap := k') (b := (β y).b) (o := off) (hba w hr.bl) hk (fun j hj => by have := c4 (off + j) (by omega); rw [Nat.zero_add] at this; exact this) o.type
  unfold Oper.wp execOp
  simp only [ho, resolve, invoke, builtin, Sem.run_bind, Sem.run_pure, Result.andThen_ok, List.map_toArray, List.map_cons, List.map_nil, ex, es, hrun]
  have g := (hr.stored (vs := cells8 (fl f m)) hm0 (by rw [hlen]; exact hl)).put (some dd) (.val (.int .i64 (m : Int))) val_hp val_hu
  show (fun a' w' => ∃ β', Rep W n β' _ a' w') (a.put o.dst (goInt m)) (w.setCells (β y).b off (cells8 (fl f m)))
  rw [hdd]
  exact ⟨β, g⟩
end
end Go.Proofs.YtlpjdhoboebbfaaDoor
