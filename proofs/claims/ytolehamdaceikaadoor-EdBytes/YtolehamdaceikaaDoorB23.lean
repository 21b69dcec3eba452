/- Regions that keep to the text's order, operation by operation: calls whose answers are not told ahead; the states are then told over the world behind the call. Walks by states, in the text's order: a call that answers a slice that it made, and bytes appended to none, with whatever room behind them. Walks by states: bytes in states, remainders, and answers that are slices. What the document's own PutLittle and Little answer. Square roots modulo the second prime, and the points of the second curve by their bytes. The bytes of the number that a point's bytes are. Numbers and their bytes, there and back. What the document's own Encode of layer 9 answers. What the document's own Half answers. Two lists of bytes are the same. What the document's own Same answers, of all lists of bytes. Steps of states for bytes that came in: how many, one's address, a part of them. What the document's own Add answers, for all numbers: the same as limb.Add. -/
import Derived.Test.YtolehamdaceikaaDoorB01
import Derived.Test.YtolehamdaceikaaDoorB22
import Derived.Test.YtolehamdaceikaaDoorB03
import Derived.Test.YtolehamdaceikaaDoorB20
import Derived.Test.YtolehamdaceikaaDoorB18
import Derived.Test.YtolehamdaceikaaDoorB02
import Derived.Deep.LoopGhost
import Derived.Deep.DeepCutAuto
import Derived.Deep.RegionWith
namespace Go.Proofs.YtolehamdaceikaaDoor
open Go.RowKit

def seqFrom : Nat → List Oper → Bool
  | _, [] => true
  | k, o :: os => lessAll k (deps o) && seqFrom (k + 1) os
theorem seq_spec : ∀ {k : Nat} {os : List Oper}, seqFrom k os = true → ∀ j o, os[j]? = some o → ∀ d ∈ deps o, d < k + j
  | k, [], _, j, o, ho, _, _ => by simp at ho
  | k, o' :: os, h, j, o, ho, d, hd => by
    simp only [seqFrom, Bool.and_eq_true] at h
    cases j with
    | zero =>
      simp at ho
      subst ho
      exact lessAll_spec h.1 d hd
    | succ j =>
      have := seq_spec h.2 j o (by simpa using ho) d hd
      omega
theorem up_seq {ops : Array Oper} {i : Nat} {o : Oper} (hs : seqFrom 0 ops.toList = true) (ho : ops[i]? = some o) : Up ops i o (fun j => decide (j < i)) := by
  refine ⟨by simp, fun j hj => ?_, fun k ok hk hLk j hj => ?_⟩
  · have := seq_spec hs i o (by simpa using ho) j hj
    simp; omega
  · have := seq_spec hs k ok (by simpa using hk) j hj
    simp only [decide_eq_true_eq] at hLk ⊢
    omega
section
variable {P : Program} {W : Bs} {n : Nat} {ops : Array Oper} {i : Nat} {o : Oper} {σ σ' : SS} {Q : Exit → Act → World → Prop} {rest : List Nat} {a : Act} {w : World}
theorem sq_begin {id : Nat} (l : List Nat) (hl : List.range ops.size = l) (h : wpOps P ops Q l a w) : (Code.region id ops false).wp P Q a w := wp_region (by rw [hl]; exact h)
theorem sq_end (h : Q .normal a w) : wpOps P ops Q [] a w := h
theorem sq_step (h : Rp W n σ a w) (ho : ops[i]? = some o) (hg : GStep P W n ops o σ σ') (hk : ∀ a w, Rp W n σ' a w → wpOps P ops Q rest a w) : wpOps P ops Q (i :: rest) a w := by
  rw [wpOps_cons]
  refine wpOp_step ho (fun K' hK => ?_)
  have g := hg a w Q h
  split
  · rename_i hw
    rw [if_pos hw] at g
    exact Oper.wp_mono (fun a' w' hR' => hK a' w' (hk a' w' hR')) g
  · rename_i hw
    rw [if_neg hw] at g
    exact hK _ _ (hk _ _ g)
end
/-- The world behind a call takes the place of the one at the beginning: what was made before the call may be written, what it made may not. -/
def Bs.re (W : Bs) (w w' : World) : Bs := ⟨w', fun k => W.X k || (Nat.ble W.w.heap.size k && Nat.blt k w.heap.size)⟩
theorem re_kp {W : Bs} {w w' w2 : World} (h1 : W.kp w') (h : (W.re w w').kp w2) : W.kp w2 := by
  have h1 : Kp W.X W.w w' := h1
  have h : Kp (fun k => W.X k || (Nat.ble W.w.heap.size k && Nat.blt k w.heap.size)) w' w2 := h
  refine ⟨h.os.trans h1.os, h.tape.trans h1.tape, h.output.trans h1.output, Nat.le_trans h1.size h.size, fun k hk hx => ?_⟩
  rw [h.block k (Nat.lt_of_lt_of_le hk h1.size) (by
    have : Nat.ble W.w.heap.size k = false := by
      cases hb : Nat.ble W.w.heap.size k with
      | false => rfl
      | true => have := Nat.le_of_ble_eq_true hb; omega
    simp only [hx, this, Bool.false_and, Bool.or_false])]
  exact h1.block k hk hx
/-- Blocks that the call made are kept. -/
theorem re_new {W : Bs} {w w' : World} (hX : ∀ k, W.X k = true → k < W.w.heap.size) (hs : W.w.heap.size ≤ w.heap.size) {g : Nat} (hg : w.heap.size ≤ g) : (W.re w w').X g = false := by
  show (W.X g || (Nat.ble W.w.heap.size g && Nat.blt g w.heap.size)) = false
  have h1 : W.X g = false := by
    cases h : W.X g with
    | false => rfl
    | true => have := hX g h; omega
  have h2 : Nat.blt g w.heap.size = false := by
    cases h : Nat.blt g w.heap.size with
    | false => rfl
    | true => have := Nat.blt_eq ▸ h; omega
  rw [h1, h2, Bool.and_false, Bool.or_false]
theorem re_X {W : Bs} {w w' : World} (hX : ∀ k, W.X k = true → k < W.w.heap.size) (hs : W.w.heap.size ≤ w.heap.size) (hs2 : w.heap.size ≤ w'.heap.size) : ∀ k, (W.re w w').X k = true → k < (W.re w w').w.heap.size := by
  intro k hk
  have hk : (W.X k || (Nat.ble W.w.heap.size k && Nat.blt k w.heap.size)) = true := hk
  show k < w'.heap.size
  rcases Bool.or_eq_true _ _ ▸ hk with h | h
  · have := hX k h; omega
  · have h2 : Nat.blt k w.heap.size = true := by
      cases hb : Nat.blt k w.heap.size with
      | true => rfl
      | false => rw [hb, Bool.and_false] at h; cases h
    have := (Nat.blt_eq ▸ h2 : k < w.heap.size)
    omega
theorem Rep.re {W : Bs} {n : Nat} {β : Nat → Nat} {σ : SS} {a : Act} {w w' : World} (h : Rep W n β σ a w) (hb : Below w.heap.size w w') : Rep (W.re w w') n β σ a w' := by
  have g := h.grow hb
  refine ⟨g.df, g.sz, g.sl, Kp.refl _ _, fun x cs hx => ?_, g.ne, g.pt⟩
  obtain ⟨h1, h2, _, _⟩ := h.va x cs hx
  obtain ⟨_, g2, g3, g4⟩ := g.va x cs hx
  refine ⟨Or.inr ?_, g2, g3, g4⟩
  show (W.X (β x) || (Nat.ble W.w.heap.size (β x) && Nat.blt (β x) w.heap.size)) = true
  rcases h1 with h1 | h1
  · have e1 : Nat.ble W.w.heap.size (β x) = true := Nat.ble_eq ▸ h1
    have e2 : Nat.blt (β x) w.heap.size = true := Nat.blt_eq ▸ h2
    rw [e1, e2]
    simp
  · rw [h1]
    rfl
section
variable {P : Program} {W : Bs} {n : Nat} {ops : Array Oper} {i : Nat} {o : Oper} {σ : SS} {Q : Exit → Act → World → Prop} {rest : List Nat} {a : Act} {w : World}
/-- A call that only makes memory; what it answers is told by R. -/
theorem sq_call (h : Rp W n σ a w) (HX : ∀ k, W.X k = true → k < W.w.heap.size) (ho : ops[i]? = some o) (hg : Gd ops n o σ) (dd : Nat) (hdd : o.dst = some dd) (F : Nat) (ar : Array Operand) (ts : Array TypeId) (hop : o.op = .call { callee := .value (.func F), args := ar, argTypes := ts }) (vs : List Value) (hx : ar.toList.map (σ.ev n) = vs.map (fun v => some (SV.val v))) (hE : ∀ w, (callFunc F vs.toArray).run P w = .ok (.enter F vs.toArray) w) (R : Value → World → World → Prop)
    (hC : W.kp w → Calls P F vs.toArray w fun e w' => ∃ r, e = .returned r ∧ R r w w' ∧ Below w.heap.size w w')
    (hk : ∀ (r : Value) (a' : Act) (w' : World) (W2 : Bs), R r w w' → (∀ w2, W2.kp w2 → W.kp w2) → (∀ k, w.heap.size ≤ k → W2.X k = false) → (∀ k, W2.X k = true → k < W2.w.heap.size) → W2.w = w' → Rp W2 n (σ.set (some dd) (.val r)) a' w' → wpOps P ops Q rest a' w') : wpOps P ops Q (i :: rest) a w := by
  obtain ⟨β, hr⟩ := h
  rw [wpOps_cons]
  refine wpOp_step ho (fun K' hK => ?_)
  have hw : Region.wanted o (yielded ops a.tmps) = true := by
    cases hgd : o.guard with
    | none => simp [Region.wanted, hgd]
    | some q =>
      obtain ⟨j, b⟩ := q
      have := yes_eq ⟨β, hr⟩ (hg j b hgd)
      simp [Region.wanted, hgd, this]
  rw [if_pos hw]
  have hf : a.eval (.func F) = .func (.func F) #[] #[] := rfl
  have key : ∀ (l : List Operand) (vs : List Value), l.map (σ.ev n) = vs.map (fun v => some (SV.val v)) → l.map a.eval = vs := by
    intro l
    induction l with
    | nil => intro vs h; cases vs with
      | nil => rfl
      | cons v vs => simp at h
    | cons x l ih => intro vs h; cases vs with
      | nil => simp at h
      | cons v vs =>
        simp only [List.map_cons, List.cons.injEq] at h ⊢
        exact ⟨hr.eval h.1, ih vs h.2⟩
  have hxs : ar.map a.eval = vs.toArray := Array.toList_inj.1 (by rw [Array.toList_map]; exact key ar.toList vs hx)
  unfold Oper.wp execOp
  simp only [hop, resolve, invoke, hf, Deferred.ofValue, hxs, Sem.run_bind, Sem.run_pure, Result.andThen_ok]
  rw [show (#[] ++ vs.toArray ++ #[] : Array Value) = vs.toArray by simp, hE, Oper.upon_enter]
  refine Calls.mono (hC hr.bl) ?_
  rintro e w' ⟨r, rfl, hR, hb⟩
  refine hK _ _ (hk r _ w' (W.re w w') hR (fun w2 h2 => re_kp (Kp.grow hr.bl hb) h2) (fun k hk => re_new HX (Kp.size hr.bl) hk) (re_X HX (Kp.size hr.bl) hb.size) rfl ⟨β, ?_⟩)
  have := (hr.re hb).put (some dd) (.val r) val_hp
  rw [hdd]
  exact this
theorem gq0 (h : o.guard = none) : Gd ops n o σ := fun j b e => by rw [h] at e; cases e
theorem gq1 (j : Nat) (b : Bool) (h : o.guard = some (j, b)) (hy : σ.yes ops n j = some b) : Gd ops n o σ := fun j' b' e => by rw [h] at e; cases e; exact hy
end
theorem Rd.kpx {X : Nat → Bool} {W w : World} {b o n : Nat} {f : Nat → Int} (hk : Kp X W w) (h : Rd W b o n f) (hx : X b = false) : Rd w b o n f :=
  ⟨fun i hi => by
    have hc := h.c i hi
    rw [Kp.cell hk (World.block_lt_of_cell? W _ hc) hx]
    exact hc⟩
theorem BA.kpx {X : Nat → Bool} {W w : World} {a : Option Addr} {n : Nat} {f : Nat → Nat} (hk : Kp X W w) (h : BA W a n f) (hx : ∀ p, a = some p → X p.block = false) : BA w a n f :=
  ⟨h.lt, h.at_.elim Or.inl fun ⟨b, o, e, hr⟩ => Or.inr ⟨b, o, e, hr.kpx hk (hx _ e)⟩⟩
theorem BA.re {W2 : Bs} {w' w2 : World} {a : Option Addr} {n : Nat} {f : Nat → Nat} (hw : W2.w = w') (h2 : W2.kp w2) (h : BA w' a n f) (hx : ∀ p, a = some p → W2.X p.block = false) : BA w2 a n f := by
  subst hw
  exact BA.kpx h2 h hx
end Go.Proofs.YtolehamdaceikaaDoor
namespace Go.Proofs.YtolehamdaceikaaDoor
open Go.RowKit

section
variable {P : Program} {W : Bs} {n : Nat} {ops : Array Oper} {i : Nat} {o : Oper} {σ : SS} {Q : Exit → Act → World → Prop} {rest : List Nat} {a : Act} {w : World}
theorem yes_wanted {β : Nat → Nat} (hr : Rep W n β σ a w) (hg : Gd ops n o σ) : Region.wanted o (yielded ops a.tmps) = true := by
  cases hgd : o.guard with
  | none => simp [Region.wanted, hgd]
  | some q =>
    obtain ⟨j, b⟩ := q
    have := yes_eq ⟨β, hr⟩ (hg j b hgd)
    simp [Region.wanted, hgd, this]
theorem sq_callN (h : Rp W n σ a w) (ho : ops[i]? = some o) (hg : Gd ops n o σ) (dd : Nat) (hdd : o.dst = some dd) (hn : σ.m dd = none) (F : Nat) (ar : Array Operand) (ts : Array TypeId) (hop : o.op = .call { callee := .value (.func F), args := ar, argTypes := ts }) (vs : List Value) (hx : ar.toList.map (σ.ev n) = vs.map (fun v => some (SV.val v))) (hE : ∀ w, (callFunc F vs.toArray).run P w = .ok (.enter F vs.toArray) w) (m : Nat) (cs : List Value)
    (hC : W.kp w → Calls P F vs.toArray w fun e w' => ∃ b c, e = .returned (.slice (some ⟨b, 0, none⟩) m c) ∧ m ≤ c ∧ w.heap.size ≤ b ∧ b < w'.heap.size ∧ w'.rangeAt b 0 cs ∧ w'.there b 0 cs.length ∧ Below w.heap.size w w')
    (hk : ∀ (c : Nat) (a' : Act) (w' : World), m ≤ c → Rp W n ((σ.var dd cs).set (some dd) (.sli dd 0 m c)) a' w' → wpOps P ops Q rest a' w') : wpOps P ops Q (i :: rest) a w := by
  obtain ⟨β, hr⟩ := h
  rw [wpOps_cons]
  refine wpOp_step ho (fun K' hK => ?_)
  rw [if_pos (yes_wanted hr hg)]
  have hf : a.eval (.func F) = .func (.func F) #[] #[] := rfl
  have key : ∀ (l : List Operand) (vs : List Value), l.map (σ.ev n) = vs.map (fun v => some (SV.val v)) → l.map a.eval = vs := by
    intro l
    induction l with
    | nil => intro vs h; cases vs with
      | nil => rfl
      | cons v vs => simp at h
    | cons x l ih => intro vs h; cases vs with
      | nil => simp at h
      | cons v vs =>
        simp only [List.map_cons, List.cons.injEq] at h ⊢
        exact ⟨hr.eval h.1, ih vs h.2⟩
  have hxs : ar.map a.eval = vs.toArray := Array.toList_inj.1 (by rw [Array.toList_map]; exact key ar.toList vs hx)
  unfold Oper.wp execOp
  simp only [hop, resolve, invoke, hf, Deferred.ofValue, hxs, Sem.run_bind, Sem.run_pure, Result.andThen_ok]
  rw [show (#[] ++ vs.toArray ++ #[] : Array Value) = vs.toArray by simp, hE, Oper.upon_enter]
  refine Calls.mono (hC hr.bl) ?_
  rintro e w' ⟨b, c, rfl, hc, h1, h2, h3, h4, hb⟩
  have g := hr.found hb dd hn b h1 h2 cs h3 h4 (some (m, c))
  have e : ((⟨undef, some (dd, 0), some (m, c)⟩ : SV).at fun y => if y = dd then b else β y) = .slice (some ⟨b, 0, none⟩) m c := by simp [SV.at]
  rw [e] at g
  rw [hdd]
  exact hK _ _ (hk c _ w' hc ⟨_, g⟩)
end
section
variable {W : Bs} {n : Nat} {ops : Array Oper} {i : Nat} {o : Oper} {σ : SS} {Q : Exit → Act → World → Prop} {rest : List Nat} {a : Act} {w : World}
theorem sq_app0 (h : Rp W n σ a w) (ho : ops[i]? = some o) (hg : Gd ops n o σ) (dd : Nat) (hdd : o.dst = some dd) (hn : σ.m dd = none) (s x : Operand) (hop : o.op = .call { callee := .builtin .append, args := #[s, x], argTypes := #[43, 43] }) (hs : σ.ev n s = some (.val (.slice none 0 0))) {y : Option Addr} {m c : Nat} (hx : σ.ev n x = some (.val (.slice y m c))) {f : Nat → Nat} (hy : W.kp w → BA w y m f) (h0 : 0 < m) (hm : m ≤ 1000) (cs : List Value) (hcs : cs = cells8 (fl f m))
    (hk : ∀ (c : Nat) (a' : Act) (w' : World), m ≤ c → Rp W n ((σ.var dd cs).set (some dd) (.sli dd 0 m c)) a' w' → wpOps Tryd.prog ops Q rest a' w') : wpOps Tryd.prog ops Q (i :: rest) a w := by
  obtain ⟨β, hr⟩ := h
  rw [wpOps_cons]
  refine wpOp_step ho (fun K' hK => ?_)
  rw [if_pos (yes_wanted hr hg)]
  obtain ⟨v', w', hrun, hO, hG⟩ := run_app (c := c) (base := w.heap.size) (n := 0) (l := []) (v := .slice none 0 0) (World.ownsRow_nil w w.heap.size 5 1 : w.ownsRow w.heap.size 5 1 (.slice none 0 0) 0 (cells8 [])) (hy hr.bl) (by omega) (Nat.le_refl _) o.type
  have e1 : a.eval s = .slice none 0 0 := hr.eval hs
  have e2 : a.eval x = .slice y m c := hr.eval hx
  unfold Oper.wp execOp
  simp only [hop, resolve, invoke, builtin, Sem.run_bind, Sem.run_pure, Result.andThen_ok, List.map_toArray, List.map_cons, List.map_nil, e1, e2, hrun]
  rw [Nat.zero_add, List.nil_append, ← hcs] at hO
  have hl : cs.length = m := by rw [hcs, cells8_len, fl_len]
  have hB : Below w.heap.size w w' := (Below.refl _ w).grown hG (Nat.le_refl _) (fun k hk => by cases hk)
  rcases hO.2 with ⟨_, h9⟩ | ⟨g, cap, cur, rfl, hge, _, hle, _⟩
  · omega
  · have q := hr.found hB dd hn g hge (hO.lt g rfl).2 cs (fun j v hj => by
      have hjm : j < m := by
        rcases Nat.lt_or_ge j m with h' | h'
        · exact h'
        · rw [List.getElem?_eq_none (by omega)] at hj; cases hj
      rw [Nat.zero_add, hO.cellAt j (by omega)]; exact hj) (fun j hj => by
      have hjm : j < m := by omega
      rw [Nat.zero_add]
      exact ⟨by rw [hO.cellAt j (by omega), List.getElem?_eq_getElem hj]; rfl, hO.frozenAt j⟩) (some (m, cap))
    have e : ((⟨undef, some (dd, 0), some (m, cap)⟩ : SV).at fun y => if y = dd then g else β y) = .slice (some ⟨g, 0, none⟩) m cap := by simp [SV.at]
    rw [e] at q
    show K' (a.put o.dst (.slice (some ⟨g, 0, none⟩) m cap)) w'
    rw [hdd]
    exact hK _ _ (hk cap _ w' hle ⟨_, q⟩)
end
end Go.Proofs.YtolehamdaceikaaDoor
namespace Go.Proofs.YtolehamdaceikaaDoor
open Go.RowKit

theorem i_rem {P : Program} (ty : TypeId) (k : IntKind) (a b c : Int) (ha : 0 ≤ a) (hb : 0 < b) (hc : c = a % b) (w : World) : (binOp .rem ty (.int k a) (.int k b)).run P w = .ok (.int k c) w := by
  have e : a.tmod b = c := by rw [hc, Int.tmod_eq_emod_of_nonneg ha]
  have hb0 : b ≠ 0 := by omega
  simp [binOp, Op.intDiv, hb0, e]
theorem i_addB {P : Program} (ty : TypeId) (a b c : Int) (hc : c = a + b) (h : 0 ≤ c ∧ c < 256) (w : World) : (binOp .add ty (.int .u8 a) (.int .u8 b)).run P w = .ok (.int .u8 c) w := by
  have e : IntKind.u8.wrap (a + b) = c := by
    rw [← hc]
    simp only [IntKind.wrap, IntKind.bits, IntKind.signed]
    simp
    omega
  simp [binOp, Op.intArith, e]
theorem wrapB {c : Int} (h : 0 ≤ c ∧ c < 256) : IntKind.u8.wrap c = c := by
  simp only [IntKind.wrap, IntKind.bits, IntKind.signed]
  simp
  omega
theorem wrapW {c : Int} (h : 0 ≤ c ∧ c < 18446744073709551616) : IntKind.u64.wrap c = c := by
  simp only [IntKind.wrap, IntKind.bits, IntKind.signed]
  simp
  omega
/-- A word of a number (walks by states bind L). -/
abbrev lw (i : Nat) (x : Int) : Int := L i x
/-- 32 bytes, as they lie in memory. -/
def by32 (f : Nat → Int) : List Value := [.int .u8 (f 0), .int .u8 (f 1), .int .u8 (f 2), .int .u8 (f 3), .int .u8 (f 4), .int .u8 (f 5), .int .u8 (f 6), .int .u8 (f 7), .int .u8 (f 8), .int .u8 (f 9), .int .u8 (f 10), .int .u8 (f 11), .int .u8 (f 12), .int .u8 (f 13), .int .u8 (f 14), .int .u8 (f 15), .int .u8 (f 16), .int .u8 (f 17), .int .u8 (f 18), .int .u8 (f 19), .int .u8 (f 20), .int .u8 (f 21), .int .u8 (f 22), .int .u8 (f 23), .int .u8 (f 24), .int .u8 (f 25), .int .u8 (f 26), .int .u8 (f 27), .int .u8 (f 28), .int .u8 (f 29), .int .u8 (f 30), .int .u8 (f 31)]
/-- The same, with another last one. -/
def by31 (f : Nat → Int) (x : Int) : List Value := [.int .u8 (f 0), .int .u8 (f 1), .int .u8 (f 2), .int .u8 (f 3), .int .u8 (f 4), .int .u8 (f 5), .int .u8 (f 6), .int .u8 (f 7), .int .u8 (f 8), .int .u8 (f 9), .int .u8 (f 10), .int .u8 (f 11), .int .u8 (f 12), .int .u8 (f 13), .int .u8 (f 14), .int .u8 (f 15), .int .u8 (f 16), .int .u8 (f 17), .int .u8 (f 18), .int .u8 (f 19), .int .u8 (f 20), .int .u8 (f 21), .int .u8 (f 22), .int .u8 (f 23), .int .u8 (f 24), .int .u8 (f 25), .int .u8 (f 26), .int .u8 (f 27), .int .u8 (f 28), .int .u8 (f 29), .int .u8 (f 30), .int .u8 x]
theorem by32_at (f : Nat → Int) : ∀ i, i < 32 → (by32 f)[i]? = some (.int .u8 (f i)) := by
  intro i hi
  match i, hi with
  | 0, _ => rfl
  | 1, _ => rfl
  | 2, _ => rfl
  | 3, _ => rfl
  | 4, _ => rfl
  | 5, _ => rfl
  | 6, _ => rfl
  | 7, _ => rfl
  | 8, _ => rfl
  | 9, _ => rfl
  | 10, _ => rfl
  | 11, _ => rfl
  | 12, _ => rfl
  | 13, _ => rfl
  | 14, _ => rfl
  | 15, _ => rfl
  | 16, _ => rfl
  | 17, _ => rfl
  | 18, _ => rfl
  | 19, _ => rfl
  | 20, _ => rfl
  | 21, _ => rfl
  | 22, _ => rfl
  | 23, _ => rfl
  | 24, _ => rfl
  | 25, _ => rfl
  | 26, _ => rfl
  | 27, _ => rfl
  | 28, _ => rfl
  | 29, _ => rfl
  | 30, _ => rfl
  | 31, _ => rfl
  | n + 32, h => omega
theorem by32_len (f : Nat → Int) : (by32 f).length = 32 := rfl
theorem by32_ext {f g : Nat → Int} (h : ∀ i, i < 32 → f i = g i) : by32 f = by32 g := by
  unfold by32
  rw [h 0 (by decide), h 1 (by decide), h 2 (by decide), h 3 (by decide), h 4 (by decide), h 5 (by decide), h 6 (by decide), h 7 (by decide), h 8 (by decide), h 9 (by decide), h 10 (by decide), h 11 (by decide), h 12 (by decide), h 13 (by decide), h 14 (by decide), h 15 (by decide), h 16 (by decide), h 17 (by decide), h 18 (by decide), h 19 (by decide), h 20 (by decide), h 21 (by decide), h 22 (by decide), h 23 (by decide), h 24 (by decide), h 25 (by decide), h 26 (by decide), h 27 (by decide), h 28 (by decide), h 29 (by decide), h 30 (by decide), h 31 (by decide)]
theorem by31_ext {f g : Nat → Int} {x : Int} (h : ∀ i, i < 31 → f i = g i) (hx : x = g 31) : by31 f x = by32 g := by
  unfold by32 by31
  rw [h 0 (by decide), h 1 (by decide), h 2 (by decide), h 3 (by decide), h 4 (by decide), h 5 (by decide), h 6 (by decide), h 7 (by decide), h 8 (by decide), h 9 (by decide), h 10 (by decide), h 11 (by decide), h 12 (by decide), h 13 (by decide), h 14 (by decide), h 15 (by decide), h 16 (by decide), h 17 (by decide), h 18 (by decide), h 19 (by decide), h 20 (by decide), h 21 (by decide), h 22 (by decide), h 23 (by decide), h 24 (by decide), h 25 (by decide), h 26 (by decide), h 27 (by decide), h 28 (by decide), h 29 (by decide), h 30 (by decide), hx]
theorem rd_by {w : World} {b : Nat} {f : Nat → Int} (h : w.rangeAt b 0 (by32 f)) : Rd w b 0 32 f := ⟨fun i hi => h i _ (by32_at f i hi)⟩
/-- A slice that a function has made, of 32 bytes. -/
def New32 (f : Nat → Int) (w : World) (e : Ending) (w' : World) : Prop := ∃ b c, e = .returned (.slice (some ⟨b, 0, none⟩) 32 c) ∧ 32 ≤ c ∧ w.heap.size ≤ b ∧ b < w'.heap.size ∧ w'.rangeAt b 0 (by32 f) ∧ w'.there b 0 32 ∧ Below w.heap.size w w'
theorem New32.congr {f g : Nat → Int} {w w' : World} {e : Ending} (h : New32 f w e w') (q : ∀ i, i < 32 → f i = g i) : New32 g w e w' := by
  unfold New32 at *
  rw [← by32_ext q]
  exact h
theorem new32_row {f : Nat → Int} {w w' : World} {e : Ending} {g cap : Nat} (he : e = .returned (.slice (some ⟨g, 0, none⟩) 32 cap)) (hg : w.heap.size ≤ g) (hc : 32 ≤ cap) (hr : Row8 w' g 32 f) (hb : Below w.heap.size w w') : New32 f w e w' :=
  ⟨g, cap, he, hc, hg, hr.lt, fun j v hj => by
    have hl : j < 32 := by
      rcases Nat.lt_or_ge j 32 with h | h
      · exact h
      · rw [List.getElem?_eq_none (by rw [by32_len]; exact h)] at hj; cases hj
    rw [Nat.zero_add, hr.c j hl, ← by32_at f j hl]; exact hj, fun j hj => by
    rw [Nat.zero_add]
    exact ⟨by rw [hr.c j hj]; rfl, hr.z j hj⟩, hb⟩
/-- An answer that is a slice of a variable. -/
theorem ret_new32 {P : Program} {w0 : World} {n : Nat} {σ : SS} {a : Act} {w : World} {fn : Func} {f : Nat → Int} (h : Rp (Bs.of w0) n σ a w) (d : Nat) (hres : fn.results = #[.tmp d]) (hd : d < n) (x c : Nat) (hs : σ.s d = some (.sli x 0 32 c)) (hc : 32 ≤ c) {cs : List Value} (hm : σ.m x = some cs) (hcs : cs = by32 f) : bodyPost P fn (New32 f w0) .ret a w := by
  obtain ⟨β, hp⟩ := h
  have e : a.tmps[d]? = some (.slice (some ⟨β x, 0, none⟩) 32 c) := by
    rw [hp.sl d _ hd hs]
    rfl
  obtain ⟨h1, h2, h3, h4⟩ := hp.va x cs hm
  subst hcs
  refine ⟨hp.df, .slice (some ⟨β x, 0, none⟩) 32 c, by simp [results, hres, e], β x, c, rfl, hc, ?_, h2, h3, h4, Bs.kp_of hp.bl⟩
  rcases h1 with h1 | h1
  · exact h1
  · cases h1
/-- The same, with no room behind it. -/
def NewC (f : Nat → Int) (w : World) (e : Ending) (w' : World) : Prop := ∃ b, e = .returned (.slice (some ⟨b, 0, none⟩) 32 32) ∧ w.heap.size ≤ b ∧ b < w'.heap.size ∧ w'.rangeAt b 0 (by32 f) ∧ w'.there b 0 32 ∧ Below w.heap.size w w'
theorem NewC.new {f : Nat → Int} {w w' : World} {e : Ending} (h : NewC f w e w') : New32 f w e w' :=
  let ⟨b, h1, h2, h3, h4, h5, h6⟩ := h
  ⟨b, 32, h1, Nat.le_refl _, h2, h3, h4, h5, h6⟩
theorem NewC.congr {f g : Nat → Int} {w w' : World} {e : Ending} (h : NewC f w e w') (q : ∀ i, i < 32 → f i = g i) : NewC g w e w' := by
  unfold NewC at *
  rw [← by32_ext q]
  exact h
theorem newC_row {f : Nat → Int} {w w' : World} {e : Ending} {g : Nat} (he : e = .returned (.slice (some ⟨g, 0, none⟩) 32 32)) (hg : w.heap.size ≤ g) (hr : Row8 w' g 32 f) (hb : Below w.heap.size w w') : NewC f w e w' := by
  obtain ⟨b, c, h1, _, h2, h3, h4, h5, h6⟩ := new32_row he hg (Nat.le_refl _) hr hb
  rw [he] at h1
  cases h1
  exact ⟨g, he, h2, h3, h4, h5, h6⟩
theorem ret_newC {P : Program} {w0 : World} {n : Nat} {σ : SS} {a : Act} {w : World} {fn : Func} {f : Nat → Int} (h : Rp (Bs.of w0) n σ a w) (d : Nat) (hres : fn.results = #[.tmp d]) (hd : d < n) (x : Nat) (hs : σ.s d = some (.sli x 0 32 32)) {cs : List Value} (hm : σ.m x = some cs) (hcs : cs = by32 f) : bodyPost P fn (NewC f w0) .ret a w := by
  obtain ⟨β, hp⟩ := h
  have e : a.tmps[d]? = some (.slice (some ⟨β x, 0, none⟩) 32 32) := by
    rw [hp.sl d _ hd hs]
    rfl
  obtain ⟨h1, h2, h3, h4⟩ := hp.va x cs hm
  subst hcs
  refine ⟨hp.df, .slice (some ⟨β x, 0, none⟩) 32 32, by simp [results, hres, e], β x, rfl, ?_, h2, h3, h4, Bs.kp_of hp.bl⟩
  rcases h1 with h1 | h1
  · exact h1
  · cases h1
end Go.Proofs.YtolehamdaceikaaDoor
namespace Go.Proofs.YtolehamdaceikaaDoor
open Go.RowKit
attribute [local go_sem ↓] Go.wp_at_zero Go.wp_at_succ

/-- The region ends in one way. -/
def Only (A : Act) (W : World) : Exit → Act → World → Prop
  | .normal, a, w => a = A ∧ w = W
  | _, _, _ => False
theorem Only.intro (A : Act) (W : World) : Only A W .normal A W := ⟨rfl, rfl⟩
theorem Only.out {A : Act} {W : World} {Q : Exit → Act → World → Prop} (h : Q .normal A W) : ∀ e a w, Only A W e a w → Q e a w := by
  intro e a w hq
  cases e <;> first | exact (hq : False).elim | (obtain ⟨rfl, rfl⟩ := hq; exact h)

/-- The first m bytes of a number. -/
def pl (a : Int) (m : Nat) : List Value := (List.range m).map (fun j => Value.int .u8 (Y j a))
theorem pl_succ (a : Int) (m : Nat) : pl a (m + 1) = pl a m ++ [Value.int .u8 (Y m a)] := by simp [pl, List.range_succ]
theorem pl_at (a : Int) (m j : Nat) (h : j < m) : (pl a m)[j]? = some (Value.int .u8 (Y j a)) := by simp [pl, h]
theorem arr_at {w : World} {b : Nat} {a : Int} (h : Arr w b (L 0 a) (L 1 a) (L 2 a) (L 3 a)) (i : Nat) (hi : i < 4) : w.cell? ⟨b, i, none⟩ = some (.int .u64 (L i a)) := by
  match i, hi with
  | 0, _ => exact h.c0
  | 1, _ => exact h.c1
  | 2, _ => exact h.c2
  | 3, _ => exact h.c3
theorem div_next (x : Int) (k : Nat) : x / 256 ^ k / 256 = x / 256 ^ (k + 1) := by
  rw [Int.pow_succ, ← Int.ediv_ediv_of_nonneg (Int.le_of_lt (Int.pow_pos (by omega)))]
theorem div_bd {x : Int} (h0 : 0 ≤ x) (h1 : x < 18446744073709551616) (k : Nat) : 0 ≤ x / 256 ^ k ∧ x / 256 ^ k < 18446744073709551616 :=
  ⟨Int.ediv_nonneg h0 (Int.le_of_lt (Int.pow_pos (by omega))), Int.lt_of_le_of_lt (Int.ediv_le_self _ h0) h1⟩

set_option maxRecDepth 100000 in
set_option maxHeartbeats 4000000 in
theorem refPutLittle_any (a : Int) (w : World) :
    Calls Tryd.prog 62 #[.agg #[.int .u64 (L 0 a), .int .u64 (L 1 a), .int .u64 (L 2 a), .int .u64 (L 3 a)]] w fun e w' => New32 (fun i => Y i a) w e w' := by
  obtain ⟨i0, hi, hz0, hz1, hz2⟩ := info_parts info8
  have hA := Arr.new w w.heap.size rfl 24 (L 0 a) (L 1 a) (L 2 a) (L 3 a)
  have hw : Below w.heap.size w (w.alloc (.cells #[.int .u64 (L 0 a), .int .u64 (L 1 a), .int .u64 (L 2 a), .int .u64 (L 3 a)] 24)) := K.alloc (Below.refl _ _) _
  go_enter Tryd.func62, Tryd.ntmps62
  go_wp2_with fail
  generalize w.alloc (.cells #[.int .u64 (L 0 a), .int .u64 (L 1 a), .int .u64 (L 2 a), .int .u64 (L 3 a)] 24) = W0 at *
  go_loopg [3, 4] 4 (fun g v s wr => ∃ i : Nat, g = 4 - i ∧ i ≤ 4 ∧ s = .int .i64 i ∧ wr.ownsRow W0.heap.size 5 1 v (8 * i) (pl a (8 * i)) ∧ Below W0.heap.size W0 wr)
  case atStart => exact ⟨0, rfl, by omega, rfl, World.ownsRow_nil _ _ _ _, Below.refl _ _⟩
  case round =>
    obtain ⟨i, rfl, hle, rfl, hO, hB⟩ := hrel
    by_cases hlt : i < 4
    · have hc := arr_at (hA.keep hB) i hlt
      have hii : (i : Int) < 4 := by omega
      have HL : Hid (0 ≤ L i a ∧ L i a < 18446744073709551616) := ⟨L_lo _ _, L_hi _ _⟩
      have HI : Hid (i < 4) := hlt
      clear hlt hle
      go_wp2_with fail
      go_loopg [3, 5, 6] 8 (fun g v x s wr => ∃ k : Nat, g = 8 - k ∧ k ≤ 8 ∧ s = .int .i64 k ∧ x = .int .u64 (L i a / 256 ^ k) ∧ wr.ownsRow W0.heap.size 5 1 v (8 * i + k) (pl a (8 * i + k)) ∧ Below W0.heap.size W0 wr)
      case atStart => exact ⟨0, rfl, by omega, rfl, by simp, hO, hB⟩
      case round =>
        clear hO hB hc
        obtain ⟨k, rfl, hle, rfl, rfl, hO, hB⟩ := hrel
        by_cases hlt : k < 8
        · have hbd := div_bd HL.out.1 HL.out.2 k
          have HD : Hid (L i a / 256 ^ k % 256 = Y (8 * i + k) a ∧ L i a / 256 ^ k / 256 = L i a / 256 ^ (k + 1)) := ⟨byte_word a i k hlt, div_next _ _⟩
          generalize L i a / 256 ^ k = x at *
          go_wp2_with (at_builtin; refine wpList_append_own _ rfl _ _ 43 rfl W0.heap.size 5 i0 (.int .u8 0) 1 1 Tryd.underlying43 hi hz0 hz1 hz2 rfl (by decide) _ _ _ rfl (hO.alloc _) ⟨wr.heap.size, 0, none⟩ 1 1 [.int .u8 (x % 256)] rfl rfl ?c1 ?c2 ?c3 ?c4 ?c5 ?_)
          case c1 =>
            intro j u hu
            match j, hu with
            | 0, hu => simp at hu; subst hu; simp [Addr.add]
          case c2 => intro u hu; simp at hu; subst hu; rfl
          case c3 => have := HI.out; unfold maxLen; omega
          case c4 => have := HI.out; omega
          case c5 => have := hB.size; simp; omega
          intro v' w1 hown' hgrow _
          have R1 : Below W0.heap.size W0 w1 := (K.alloc hB _).grown hgrow (K.alloc hB _).size (fun k hk => (hO.lt k hk).1)
          have R2 : w1.ownsRow W0.heap.size 5 1 v' (8 * i + (k + 1)) (pl a (8 * i + (k + 1))) := by rw [← Nat.add_assoc, pl_succ, ← HD.out.1]; exact hown'
          clear hown' hgrow hO hB
          go_wp2_with fail
          go_roundg (8 - (k + 1))
          case measure => omega
          case rel => exact ⟨k + 1, rfl, by omega, by go_num, by rw [← HD.out.2], R2, R1⟩
        · obtain rfl : k = 8 := by omega
          go_wp2_with fail
          go_roundg (4 - (i + 1))
          case measure => have := HI.out; omega
          case rel => exact ⟨i + 1, rfl, by have := HI.out; omega, by go_num, hO, hB⟩
    · obtain rfl : i = 4 := by omega
      go_wp2_with fail
      have hcp := hO
      obtain ⟨g, cap, rfl, hge, hR⟩ := own_rd (f := fun i => Y i a) hO (fun j hj => pl_at a _ j hj) (by omega)
      go_ret
      exact new32_row rfl (Nat.le_trans hw.size hge) (own_cap hcp) hR (K.call hw hB)
set_option maxRecDepth 100000 in
set_option maxHeartbeats 2000000 in
theorem eight_any {b o cap : Nat} {f : Nat → Int} (hf : ∀ i, 0 ≤ f i ∧ f i < 256) {w : World} (hD : Rd w b o 8 f) :
    Calls Tryd.prog 71 #[.slice (some ⟨b, o, none⟩) 8 cap] w fun e w' => e = .returned (.int .u64 (E f 0 8)) ∧ w' = w := by
  have c0 := hD.c 0 (by omega)
  have l0 := (hf 0).1
  have u0 := (hf 0).2
  have c1 := hD.c 1 (by omega)
  have l1 := (hf 1).1
  have u1 := (hf 1).2
  have c2 := hD.c 2 (by omega)
  have l2 := (hf 2).1
  have u2 := (hf 2).2
  have c3 := hD.c 3 (by omega)
  have l3 := (hf 3).1
  have u3 := (hf 3).2
  have c4 := hD.c 4 (by omega)
  have l4 := (hf 4).1
  have u4 := (hf 4).2
  have c5 := hD.c 5 (by omega)
  have l5 := (hf 5).1
  have u5 := (hf 5).2
  have c6 := hD.c 6 (by omega)
  have l6 := (hf 6).1
  have u6 := (hf 6).2
  have c7 := hD.c 7 (by omega)
  have l7 := (hf 7).1
  have u7 := (hf 7).2
  rw [Nat.add_zero] at c0
  have HE : Hid (E f 0 8 = f 0 + 256 * (f 1 + 256 * (f 2 + 256 * (f 3 + 256 * (f 4 + 256 * (f 5 + 256 * (f 6 + 256 * f 7))))))) := by
    show _ = _
    simp [E]
    omega
  clear hf hD
  generalize f 0 = x0 at *
  generalize f 1 = x1 at *
  generalize f 2 = x2 at *
  generalize f 3 = x3 at *
  generalize f 4 = x4 at *
  generalize f 5 = x5 at *
  generalize f 6 = x6 at *
  generalize f 7 = x7 at *
  go_enter Tryd.func71, Tryd.ntmps71
  go_wp2_with fail
  refine wp_loop_rounds 9 ?_
  rw [rounds_succ]
  go_wp2_with fail
  rw [rounds_succ]
  go_wp2_with fail
  rw [rounds_succ]
  go_wp2_with fail
  rw [rounds_succ]
  go_wp2_with fail
  rw [rounds_succ]
  go_wp2_with fail
  rw [rounds_succ]
  go_wp2_with fail
  rw [rounds_succ]
  go_wp2_with fail
  rw [rounds_succ]
  go_wp2_with fail
  rw [rounds_succ]
  go_wp2_with fail
  go_ret
  exact ⟨ret_int (by rw [HE.out]; omega), rfl⟩
theorem E_shift (f : Nat → Int) (k : Nat) : ∀ r, E (fun i => f (k + i)) 0 r = E f k r
  | 0 => rfl
  | r + 1 => by simp only [E]; rw [E_shift f k r, Nat.zero_add]
theorem eight_at {b o n cap : Nat} (k : Nat) {f : Nat → Int} (hf : ∀ i, 0 ≤ f i ∧ f i < 256) (hk : k + 8 ≤ n) {w : World} (hD : Rd w b o n f) :
    Calls Tryd.prog 71 #[.slice (some ⟨b, o + k, none⟩) 8 cap] w fun e w' => e = .returned (.int .u64 (E f k 8)) ∧ w' = w := by
  have h := eight_any (cap := cap) (fun i => hf (k + i)) (hD.part k 8 hk)
  rw [E_shift] at h
  exact h
theorem eight_at0 {b o n cap : Nat} {f : Nat → Int} (hf : ∀ i, 0 ≤ f i ∧ f i < 256) (hk : 8 ≤ n) {w : World} (hD : Rd w b o n f) :
    Calls Tryd.prog 71 #[.slice (some ⟨b, o, none⟩) 8 cap] w fun e w' => e = .returned (.int .u64 (E f 0 8)) ∧ w' = w :=
  eight_at (cap := cap) 0 hf (by omega) hD
set_option maxRecDepth 100000 in
set_option maxHeartbeats 1000000 in
theorem refLittle_any {b o cap : Nat} {f : Nat → Int} (hcap : 32 ≤ cap) (hf : ∀ i, 0 ≤ f i ∧ f i < 256) {w : World} (hD : Rd w b o 32 f) :
    Calls Tryd.prog 57 #[.slice (some ⟨b, o, none⟩) 32 cap] w fun e w' => e = .returned (.tuple #[.agg #[.int .u64 (E f 0 8), .int .u64 (E f 8 8), .int .u64 (E f 16 8), .int .u64 (E f 24 8)], .bool true]) ∧ Below w.heap.size w w' := by
  have HF : Hid (∀ i, 0 ≤ f i ∧ f i < 256) := hf
  have HD : Hid (∀ w1, Below w.heap.size w w1 → Rd w1 b o 32 f) := fun w1 hb => hD.keep hb
  have hci : (32 : Int) ≤ cap := by omega
  clear hf hD
  go_enter Tryd.func57, Tryd.ntmps57
  go_wp2_with fail
  apply wp_mono (Q := Only _ _)
  · go_region_with (first
      | (go_at_call 71; with_reducible refine Calls.mono (eight_at0 HF.out (by omega) (HD.out _ (K.drew (K.alloc (Below.refl _ _) _)))) ?_; rintro e w' ⟨rfl, rfl⟩)
      | (go_at_call 71; with_reducible refine Calls.mono (eight_at 8 HF.out (by omega) (HD.out _ (K.drew (K.alloc (Below.refl _ _) _)))) ?_; rintro e w' ⟨rfl, rfl⟩)
      | (go_at_call 71; with_reducible refine Calls.mono (eight_at 16 HF.out (by omega) (HD.out _ (K.drew (K.alloc (Below.refl _ _) _)))) ?_; rintro e w' ⟨rfl, rfl⟩)
      | (go_at_call 71; with_reducible refine Calls.mono (eight_at 24 HF.out (by omega) (HD.out _ (K.drew (K.alloc (Below.refl _ _) _)))) ?_; rintro e w' ⟨rfl, rfl⟩))
    all_goals exact Only.intro _ _
  refine Only.out ?_
  go_wp2_with fail
  exact bodyPost_ret (v := .tuple #[.agg #[.int .u64 (E f 0 8), .int .u64 (E f 8 8), .int .u64 (E f 16 8), .int .u64 (E f 24 8)], .bool true]) (by simp [results, Tryd.results57, go_sem]) rfl ⟨rfl, K.drew (K.alloc (Below.refl _ _) _)⟩
end Go.Proofs.YtolehamdaceikaaDoor
namespace Go.Proofs.YtolehamdaceikaaDoor

/-- A number whose square is -1. -/
def imN : Nat := 19681161376707505956807079304988542015446066515923890162744021073123829784752
def im : Fin m2 := kc (imN : Int)
theorem im_sq : im * im = - 1 := by
  rw [im, ← kc_mul]
  exact neg_kc (by decide +kernel) rfl
/-- What X X is, with that Y. -/
def xx2 (y : Fin m2) : Fin m2 := (y * y - 1) * fiv (ed * (y * y) + 1)
def ex8 : Nat := 7237005577332262213973186563042994240829374041602535252466099000494570602494
theorem ex8_4 : 2 * (2 * ex8) = (m2 - 1) / 2 + 2 := by decide +kernel
theorem ex8_pos : ex8 = 7237005577332262213973186563042994240829374041602535252466099000494570602493 + 1 := by decide +kernel
def rt (y : Fin m2) : Fin m2 := xx2 y ^ ex8
theorem nil_den {p : Nat} [NeZero p] (d : Fin p) (h : d * (0 * 0) + 1 = 0) : (1 : Fin p) = 0 := by grobner
theorem den_ne (y : Fin m2) : ed * (y * y) + 1 ≠ 0 := by
  intro h
  by_cases hy : y = 0
  · have h1 := fld2.one
    subst hy
    exact h1 (nil_den ed h)
  · refine ns_frac ek2 (u := im) (v := y) hy ?_
    have := im_sq
    clear hy
    grobner
theorem on_xx {a : Ep m2} (h : a.on ed) : a.x * a.x = xx2 a.y := by
  have h1 := fld2.inv _ (den_ne a.y)
  unfold Ep.on at h
  unfold xx2
  generalize fiv (ed * (a.y * a.y) + 1) = v at *
  generalize a.x = x at *
  generalize a.y = y at *
  generalize ed = d at *
  grobner
theorem xx_on {x y : Fin m2} (h : x * x = xx2 y) : (⟨x, y⟩ : Ep m2).on ed := by
  have h1 := fld2.inv _ (den_ne y)
  show y * y - x * x = 1 + ed * (x * x * (y * y))
  unfold xx2 at h
  generalize fiv (ed * (y * y) + 1) = v at *
  generalize ed = d at *
  grobner
theorem sq_two {x y : Fin m2} (h : x * x = y * y) : y = x ∨ y = - x := by
  have e : (y - x) * (y + x) = 0 := by grobner
  rcases fld2.dom e with e | e
  · exact Or.inl (by clear h; grobner)
  · exact Or.inr (by clear h; grobner)
theorem pow_nil {n : Nat} : (0 : Fin m2) ^ (n + 1) = 0 := by
  have : (0 : Fin m2) ^ (n + 1) = 0 ^ n * 0 := by grobner
  rw [this]
  generalize (0 : Fin m2) ^ n = z
  grobner
theorem pow_two_more (x : Fin m2) (n : Nat) : x ^ (n + 2) = x ^ n * (x * x) := by grobner
theorem pow_mul_self (x : Fin m2) (n : Nat) : x ^ n * x ^ n = x ^ (2 * n) := by
  rw [← pow_sq]
  have h : ∀ n : Nat, x ^ n * x ^ n = (x * x) ^ n := fun n => by
    induction n with
    | zero => grobner
    | succ n ih =>
      have a1 : x ^ (n + 1) * x ^ (n + 1) = x ^ n * x ^ n * (x * x) := by clear ih; grobner
      have a2 : (x * x) ^ (n + 1) = (x * x) ^ n * (x * x) := by clear ih a1; grobner
      rw [a1, a2, ih]
  exact h n
/-- A power of a square is its root, or the root of its other one. -/
theorem rt_sq (x : Fin m2) : (x * x) ^ ex8 * (x * x) ^ ex8 = x * x ∨ (x * x) ^ ex8 * (x * x) ^ ex8 = - (x * x) := by
  by_cases hx : x = 0
  · subst hx
    left
    rw [show (0 : Fin m2) * 0 = 0 from nil_sq, ex8_pos, pow_nil]
    exact nil_sq
  · have h1 : (x * x) ^ ex8 * (x * x) ^ ex8 = x ^ ((m2 - 1) / 2) * (x * x) := by
      rw [pow_sq, pow_mul_self, ex8_4, pow_two_more]
    have h2 : x ^ ((m2 - 1) / 2) * x ^ ((m2 - 1) / 2) = 1 := by
      rw [pow_mul_self, show 2 * ((m2 - 1) / 2) = m2 - 1 by unfold m2 q2; omega]
      exact fermat_fin m2_full hx
    rw [h1]
    clear h1
    generalize x ^ ((m2 - 1) / 2) = u at *
    rcases sq_two (x := 1) (y := u) (by grobner) with rfl | rfl
    · left; grobner
    · right; grobner
theorem rt_ok {a : Ep m2} (h : a.on ed) : (rt a.y * rt a.y = xx2 a.y ∧ (a.x = rt a.y ∨ a.x = - rt a.y)) ∨ (rt a.y * rt a.y = - xx2 a.y ∧ (a.x = rt a.y * im ∨ a.x = - (rt a.y * im))) := by
  have e := on_xx h
  have r := rt_sq a.x
  rw [e] at r
  rcases r with r | r
  · exact Or.inl ⟨r, sq_two (show rt a.y * rt a.y = a.x * a.x by rw [e]; exact r)⟩
  · refine Or.inr ⟨r, sq_two ?_⟩
    rw [e]
    have r2 : rt a.y * rt a.y = - xx2 a.y := r
    have i2 := im_sq
    clear r e h
    generalize rt a.y = x at *
    generalize xx2 a.y = z at *
    grobner
theorem neg_val {x : Fin m2} (h : x ≠ 0) : (- x).val = m2 - x.val := by
  have h0 : x.val ≠ 0 := fun e => h (Fin.ext (by rw [e]; rfl))
  have h1 := x.isLt
  rw [Fin.val_neg, if_neg h]
theorem par_neg {x : Fin m2} (h : x ≠ 0) : (- x).val % 2 ≠ x.val % 2 := by
  rw [neg_val h]
  have h1 := x.isLt
  unfold m2 q2 at *
  omega
/-- Of two numbers with one square the one with that last bit. -/
theorem par_one {x y : Fin m2} (h : y = x ∨ y = - x) (e : y.val % 2 = x.val % 2) : y = x := by
  rcases h with h | h
  · exact h
  · by_cases h0 : x = 0
    · rw [h, h0]; decide +kernel
    · exact absurd (h ▸ e) (par_neg h0)
theorem par_other {x y : Fin m2} (h : y = x ∨ y = - x) (e : y.val % 2 ≠ x.val % 2) : y = - x := by
  rcases h with h | h
  · exact absurd (by rw [h]) e
  · exact h
/-- The number that a point's bytes are. -/
def code (a : Ep m2) : Nat := a.y.val + 2 ^ 255 * (a.x.val % 2)
theorem y_lt (a : Ep m2) : a.y.val < 2 ^ 255 := by
  have := a.y.isLt
  unfold m2 q2 at this
  omega
theorem code_mod (a : Ep m2) : code a % 2 ^ 255 = a.y.val := by
  have := y_lt a
  unfold code
  rw [Nat.add_mul_mod_self_left, Nat.mod_eq_of_lt this]
theorem code_div (a : Ep m2) : code a / 2 ^ 255 = a.x.val % 2 := by
  have := y_lt a
  unfold code
  rw [Nat.add_mul_div_left _ _ (by decide), Nat.div_eq_of_lt this, Nat.zero_add]
theorem code_lt (a : Ep m2) : code a < 2 ^ 256 := by
  have := y_lt a
  have : a.x.val % 2 < 2 := Nat.mod_lt _ (by decide)
  unfold code
  omega
theorem code_inj {a b : Ep m2} (ha : a.on ed) (hb : b.on ed) (h : code a = code b) : a = b := by
  have e1 : a.y = b.y := Fin.ext (by rw [← code_mod, ← code_mod, h])
  have e2 : a.x.val % 2 = b.x.val % 2 := by rw [← code_div, ← code_div, h]
  have e3 : a.x = b.x := par_one (sq_two (by rw [on_xx ha, on_xx hb, e1])) e2
  cases a; cases b; cases e1; cases e3; rfl
/-- The four numbers that the document tries. -/
def tr (y : Fin m2) : Nat → Fin m2
  | 0 => rt y
  | 1 => rt y * im
  | 2 => 0 - rt y
  | _ + 3 => 0 - rt y * im
def goodB (U : Nat) (y : Fin m2) (i : Nat) : Bool := decide (y * y - tr y i * tr y i = 1 + ed * (tr y i * tr y i * (y * y))) && decide (code ⟨tr y i, y⟩ = U)
theorem goodB_iff {U : Nat} {y : Fin m2} {i : Nat} : goodB U y i = true ↔ (⟨tr y i, y⟩ : Ep m2).on ed ∧ code ⟨tr y i, y⟩ = U := by
  unfold goodB Ep.on
  rw [Bool.and_eq_true, decide_eq_true_eq, decide_eq_true_eq]
def dec (U : Nat) : Option (Ep m2) := if U % 2 ^ 255 < m2 then ((List.range 4).find? (goodB U (kc ((U % 2 ^ 255 : Nat) : Int)))).map fun i => ⟨tr (kc ((U % 2 ^ 255 : Nat) : Int)) i, kc ((U % 2 ^ 255 : Nat) : Int)⟩ else none
theorem dec_is {U : Nat} {a : Ep m2} (h : dec U = some a) : a.on ed ∧ code a = U := by
  unfold dec at h
  split at h
  · rw [Option.map_eq_some_iff] at h
    obtain ⟨i, hi, rfl⟩ := h
    exact goodB_iff.1 (List.find?_some hi)
  · cases h
theorem tr_ok {a : Ep m2} (h : a.on ed) : ∃ i, i < 4 ∧ tr a.y i = a.x := by
  rcases rt_ok h with ⟨_, e | e⟩ | ⟨_, e | e⟩
  · exact ⟨0, by decide, e.symm⟩
  · exact ⟨2, by decide, by rw [e]; show 0 - rt a.y = _; generalize rt a.y = x; grobner⟩
  · exact ⟨1, by decide, e.symm⟩
  · exact ⟨3, by decide, by rw [e]; show 0 - rt a.y * im = _; generalize rt a.y * im = x; grobner⟩
theorem y_of_code {U : Nat} {a : Ep m2} (h : code a = U) : U % 2 ^ 255 < m2 ∧ (kc ((U % 2 ^ 255 : Nat) : Int) : Fin m2) = a.y := by
  rw [← h, code_mod]
  exact ⟨a.y.isLt, kc_self _⟩
theorem dec_of {U : Nat} {a : Ep m2} (ha : a.on ed) (hc : code a = U) : dec U = some a := by
  obtain ⟨hy, e⟩ := y_of_code hc
  obtain ⟨i, hi, et⟩ := tr_ok ha
  have hg : goodB U a.y i = true := goodB_iff.2 (by rw [et]; exact ⟨ha, hc⟩)
  cases hd : dec U with
  | some b => rw [code_inj (dec_is hd).1 ha ((dec_is hd).2.trans hc.symm)]
  | none =>
    unfold dec at hd
    rw [if_pos hy, e, Option.map_eq_none_iff, List.find?_eq_none] at hd
    exact absurd hg (hd i (List.mem_range.2 hi))
theorem dec_none {U : Nat} (h : ∀ a : Ep m2, a.on ed → code a ≠ U) : dec U = none := by
  cases hd : dec U with
  | none => rfl
  | some b => exact absurd (dec_is hd).2 (h b (dec_is hd).1)
theorem dec_code {a : Ep m2} (h : a.on ed) : dec (code a) = some a := dec_of h rfl
/-- The point that is answered; whether there is one. -/
def dpt (U : Nat) : Ep m2 := (dec U).getD (Ep.o m2)
def dok (U : Nat) : Bool := (dec U).isSome
theorem dpt_some {U : Nat} {a : Ep m2} (h : dec U = some a) : dpt U = a ∧ dok U = true := by unfold dpt dok; rw [h]; exact ⟨rfl, rfl⟩
theorem dpt_none {U : Nat} (h : dec U = none) : dpt U = Ep.o m2 ∧ dok U = false := by unfold dpt dok; rw [h]; exact ⟨rfl, rfl⟩
theorem dpt_on (U : Nat) : (dpt U).on ed := by
  cases h : dec U with
  | none => rw [(dpt_none h).1]; exact Ep.o_on _
  | some a => rw [(dpt_some h).1]; exact (dec_is h).1
/-- One of the tries, the first that does: so is the answer. -/
theorem dec_try {U : Nat} {y : Fin m2} {i : Nat} (h1 : (⟨tr y i, y⟩ : Ep m2).on ed) (h2 : code ⟨tr y i, y⟩ = U) : dec U = some ⟨tr y i, y⟩ := dec_of h1 h2
/-- None of the tries does: there is none. -/
theorem dec_tries {U : Nat} (hy : ∀ a : Ep m2, a.on ed → code a = U → False ∨ ∃ i, i < 4 ∧ tr a.y i = a.x ∧ ¬ ((⟨tr a.y i, a.y⟩ : Ep m2).on ed ∧ code ⟨tr a.y i, a.y⟩ = U)) : dec U = none := by
  refine dec_none fun a ha hc => ?_
  rcases hy a ha hc with h | ⟨i, _, et, h⟩
  · exact h
  · exact h (by rw [et]; exact ⟨ha, hc⟩)
/-- A root, turned where it is the root of the other one, with the last bit that is asked: the X, if there is one. -/
theorem root_told {a : Ep m2} (ha : a.on ed) {s x1 x2 : Fin m2} (h1 : x1 = if rt a.y * rt a.y = xx2 a.y then rt a.y else rt a.y * im) (_ : s = a.x) (h2 : x2 = if x1.val % 2 = a.x.val % 2 then x1 else - x1) : x2 = a.x := by
  have h3 : a.x = x1 ∨ a.x = - x1 := by
    rcases rt_ok ha with ⟨e, h⟩ | ⟨e, h⟩
    · rw [if_pos e] at h1
      rw [h1]; exact h
    · by_cases e2 : rt a.y * rt a.y = xx2 a.y
      · rw [if_pos e2] at h1
        have e3 := on_xx ha
        rw [h1]
        exact sq_two (by rw [e2, e3])
      · rw [if_neg e2] at h1
        rw [h1]; exact h
  by_cases hp : x1.val % 2 = a.x.val % 2
  · rw [if_pos hp] at h2
    rw [h2]; exact (par_one h3 hp.symm).symm
  · rw [if_neg hp] at h2
    rw [h2]; exact (par_other h3 (fun e => hp e.symm)).symm
end Go.Proofs.YtolehamdaceikaaDoor
namespace Go.Proofs.YtolehamdaceikaaDoor
open Go.RowKit

/-- A number below 2^255, and one bit above it: their bytes. -/
theorem Y_add (y t : Int) (i : Nat) : Y i (y + 256 ^ (i + 1) * t) = Y i y := by
  unfold Y
  rw [Int.pow_succ, Int.mul_assoc, Int.add_mul_ediv_left _ _ (Int.ne_of_gt (Int.pow_pos (by omega))), Int.add_mul_emod_self_left]
theorem top_pow {i : Nat} (hi : i < 31) : (2 : Int) ^ 255 = 256 ^ (i + 1) * 2 ^ (255 - 8 * (i + 1)) := by
  rw [show (256 : Int) = 2 ^ 8 from rfl, ← Int.pow_mul, ← Int.pow_add, show 8 * (i + 1) + (255 - 8 * (i + 1)) = 255 by omega]
theorem Y_low (y s : Int) {i : Nat} (hi : i < 31) : Y i (y + 2 ^ 255 * s) = Y i y := by
  rw [top_pow hi, Int.mul_assoc, Y_add]
theorem Y_top {y : Int} (h0 : 0 ≤ y) (h : y < 2 ^ 255) : 0 ≤ Y 31 y ∧ Y 31 y < 128 ∧ Y 31 y = y / 256 ^ 31 := by
  unfold Y
  have e : (2 : Int) ^ 255 = 256 ^ 31 * 128 := by decide +kernel
  have h1 : 0 ≤ y / 256 ^ 31 := Int.ediv_nonneg h0 (by decide +kernel)
  have h2 : y / 256 ^ 31 < 128 := Int.ediv_lt_of_lt_mul (by decide +kernel) (by rw [Int.mul_comm, ← e]; exact h)
  omega
theorem Y_high {y s : Int} (h0 : 0 ≤ y) (h : y < 2 ^ 255) (hs : s = 0 ∨ s = 1) : Y 31 (y + 2 ^ 255 * s) = Y 31 y + 128 * s := by
  obtain ⟨a, b, c⟩ := Y_top h0 h
  rw [c] at a b
  rw [c]
  unfold Y
  rw [show (2 : Int) ^ 255 = 256 ^ 31 * 128 by decide +kernel, Int.mul_assoc, Int.add_mul_ediv_left _ _ (by decide +kernel)]
  omega
theorem lw_lo (i : Nat) (x : Int) : 0 ≤ lw i x := L_lo i x
theorem L0_odd (x : Int) : lw 0 x % 2 = x % 2 := by
  show L 0 x % 2 = x % 2
  rw [L0]
  omega
theorem code_int (a : Ep m2) : ((code a : Nat) : Int) = (a.y.val : Int) + 2 ^ 255 * ((a.x.val % 2 : Nat) : Int) := by
  unfold code
  rw [Int.natCast_add, Int.natCast_mul, Int.natCast_pow]
  rfl
theorem y_int (a : Ep m2) : (a.y.val : Int) < 2 ^ 255 := by
  have := y_lt a
  rw [show (2 : Int) ^ 255 = ((2 ^ 255 : Nat) : Int) from rfl]
  omega
theorem code_even {a : Ep m2} (h : a.x.val % 2 = 0) : code a = a.y.val := by unfold code; rw [h]; rfl
theorem code_o : code (Ep.o m2) = 1 := by decide +kernel
theorem o_even : lw 0 ((((Ep.o m2).x).val : Nat) : Int) % 2 = 0 := by decide +kernel
theorem by32_o : by32 (fun i => Y i ((code (Ep.o m2) : Nat) : Int)) = [Value.int .u8 1] ++ [Value.int .u8 0] ++ [Value.int .u8 0] ++ [Value.int .u8 0] ++ [Value.int .u8 0] ++ [Value.int .u8 0] ++ [Value.int .u8 0] ++ [Value.int .u8 0] ++ [Value.int .u8 0] ++ [Value.int .u8 0] ++ [Value.int .u8 0] ++ [Value.int .u8 0] ++ [Value.int .u8 0] ++ [Value.int .u8 0] ++ [Value.int .u8 0] ++ [Value.int .u8 0] ++ [Value.int .u8 0] ++ [Value.int .u8 0] ++ [Value.int .u8 0] ++ [Value.int .u8 0] ++ [Value.int .u8 0] ++ [Value.int .u8 0] ++ [Value.int .u8 0] ++ [Value.int .u8 0] ++ [Value.int .u8 0] ++ [Value.int .u8 0] ++ [Value.int .u8 0] ++ [Value.int .u8 0] ++ [Value.int .u8 0] ++ [Value.int .u8 0] ++ [Value.int .u8 0] ++ [Value.int .u8 0] := by
  rw [code_o]
  kernel_rfl
theorem e_on {a : Ep m2} (i : Nat) (hi : i < 31) : Y i ((code a : Nat) : Int) = Y i (a.y.val : Int) := by rw [code_int, Y_low _ _ hi]
theorem code_top {a : Ep m2} (h : a.x.val % 2 = 1) : Y 31 ((code a : Nat) : Int) = Y 31 (a.y.val : Int) + 128 := by
  rw [code_int, Y_high (by omega) (y_int a) (Or.inr (by rw [h]; rfl)), h]
  rfl
end Go.Proofs.YtolehamdaceikaaDoor
namespace Go.Proofs.YtolehamdaceikaaDoor
open Go.RowKit

theorem E_byte {f : Nat → Int} (hf : ∀ i, 0 ≤ f i ∧ f i < 256) (o r : Nat) (hr : r < 8) : E f o 8 / 256 ^ r % 256 = f (o + r) := by
  have h0 := hf (o + 0)
  have h1 := hf (o + 1)
  have h2 := hf (o + 2)
  have h3 := hf (o + 3)
  have h4 := hf (o + 4)
  have h5 := hf (o + 5)
  have h6 := hf (o + 6)
  have h7 := hf (o + 7)
  simp only [E]
  match r, hr with
  | 0, _ => simp only [Nat.add_zero] at *; omega
  | 1, _ => simp only [Nat.add_zero] at *; omega
  | 2, _ => simp only [Nat.add_zero] at *; omega
  | 3, _ => simp only [Nat.add_zero] at *; omega
  | 4, _ => simp only [Nat.add_zero] at *; omega
  | 5, _ => simp only [Nat.add_zero] at *; omega
  | 6, _ => simp only [Nat.add_zero] at *; omega
  | 7, _ => simp only [Nat.add_zero] at *; omega
  | n + 8, h => omega
/-- Bytes that are a number's. -/
theorem num_bytes {f : Nat → Int} (hf : ∀ i, 0 ≤ f i ∧ f i < 256) : ∃ u, Num u ∧ (E f 0 8 = L 0 u ∧ E f 8 8 = L 1 u ∧ E f 16 8 = L 2 u ∧ E f 24 8 = L 3 u) ∧ ∀ i, i < 32 → Y i u = f i := by
  have hb : ∀ o, 0 ≤ E f o 8 ∧ E f o 8 < 18446744073709551616 := fun o => by have h := E_bd hf o 8; exact ⟨h.1, Int.lt_of_lt_of_le h.2 (by decide)⟩
  obtain ⟨u, hu, h0, h1, h2, h3⟩ := num_of (E f 0 8) (E f 8 8) (E f 16 8) (E f 24 8) (hb _) (hb _) (hb _) (hb _)
  refine ⟨u, hu, ⟨h0, h1, h2, h3⟩, fun i hi => ?_⟩
  have e : 8 * (i / 8) + i % 8 = i := by omega
  have hq : i / 8 = 0 ∨ i / 8 = 1 ∨ i / 8 = 2 ∨ i / 8 = 3 := by omega
  rw [← e, ← byte_word u (i / 8) (i % 8) (by omega)]
  rcases hq with hq | hq | hq | hq
  · rw [hq, ← h0, E_byte hf 0 _ (by omega)]
  · rw [hq, ← h1, E_byte hf 8 _ (by omega)]
  · rw [hq, ← h2, E_byte hf 16 _ (by omega)]
  · rw [hq, ← h3, E_byte hf 24 _ (by omega)]
theorem E_words (a : Int) : E (fun i => Y i a) 0 8 = L 0 a ∧ E (fun i => Y i a) 8 8 = L 1 a ∧ E (fun i => Y i a) 16 8 = L 2 a ∧ E (fun i => Y i a) 24 8 = L 3 a :=
  ⟨E_word a 0, E_word a 1, E_word a 2, E_word a 3⟩
theorem E_turned (a : Int) (o : Nat) (ho : o + 8 ≤ 32) : E (fun i => Y (31 - (31 - i)) a) o 8 = E (fun i => Y i a) o 8 := E_congr o 8 (fun i hi => by rw [show 31 - (31 - (o + i)) = o + i by omega])
end Go.Proofs.YtolehamdaceikaaDoor
namespace Go.Proofs.YtolehamdaceikaaDoor
open Go.RowKit

theorem i5 : (Tryd.prog.info? 5).map (·.size) = some 1 := by kernel_rfl
theorem i22 : (Tryd.prog.info? 22).map (·.size) = some 1 := by kernel_rfl
theorem cE62 (vs : List Value) : ∀ w, (callFunc 62 vs.toArray).run Tryd.prog w = .ok (.enter 62 vs.toArray) w := callFunc_enter Tryd.func62 (by kernel_rfl) (by kernel_rfl) _
theorem cE26 (vs : List Value) : ∀ w, (callFunc 26 vs.toArray).run Tryd.prog w = .ok (.enter 26 vs.toArray) w := callFunc_enter Tryd.func26 (by kernel_rfl) (by kernel_rfl) _
theorem cE57 (vs : List Value) : ∀ w, (callFunc 57 vs.toArray).run Tryd.prog w = .ok (.enter 57 vs.toArray) w := callFunc_enter Tryd.func57 (by kernel_rfl) (by kernel_rfl) _
theorem cE23 (vs : List Value) : ∀ w, (callFunc 23 vs.toArray).run Tryd.prog w = .ok (.enter 23 vs.toArray) w := callFunc_enter Tryd.func23 (by kernel_rfl) (by kernel_rfl) _
theorem cE60 (vs : List Value) : ∀ w, (callFunc 60 vs.toArray).run Tryd.prog w = .ok (.enter 60 vs.toArray) w := callFunc_enter Tryd.func60 (by kernel_rfl) (by kernel_rfl) _
theorem cE25 (vs : List Value) : ∀ w, (callFunc 25 vs.toArray).run Tryd.prog w = .ok (.enter 25 vs.toArray) w := callFunc_enter Tryd.func25 (by kernel_rfl) (by kernel_rfl) _
theorem cE77 (vs : List Value) : ∀ w, (callFunc 77 vs.toArray).run Tryd.prog w = .ok (.enter 77 vs.toArray) w := callFunc_enter Tryd.func77 (by kernel_rfl) (by kernel_rfl) _
theorem cE64 (vs : List Value) : ∀ w, (callFunc 64 vs.toArray).run Tryd.prog w = .ok (.enter 64 vs.toArray) w := callFunc_enter Tryd.func64 (by kernel_rfl) (by kernel_rfl) _
theorem cE59 (vs : List Value) : ∀ w, (callFunc 59 vs.toArray).run Tryd.prog w = .ok (.enter 59 vs.toArray) w := callFunc_enter Tryd.func59 (by kernel_rfl) (by kernel_rfl) _
set_option maxRecDepth 100000 in
set_option maxHeartbeats 4000000 in
theorem s_enc_even {w : World} (hT : Tab w) {x y : Fin m2} (hq : y * y - x * x = 1 + ed * (x * x * (y * y))) (hp : lw 0 ((x.val : Nat) : Int) % 2 = 0) (h2 : x.val % 2 = 0) : Calls Tryd.prog 26 [.agg (gc (x) ++ gc (y) ++ [Value.bool false]).toArray].toArray w fun e w' => New32 (fun i => Y i (((code ⟨x, y⟩ : Nat)) : Int)) w e w' := by
  refine enter (args := [.agg (gc (x) ++ gc (y) ++ [Value.bool false]).toArray]) Tryd.func26 rfl 22 rfl (lk rfl) (fun a h => ?_)
  refine go_region h hm [eN 1 (gc (x) ++ gc (y) ++ [Value.bool false]), eS 2 (.val ((Value.slice none 0 0)))] (by kernel_rfl) ⟨
    fun L u => u_box u (gd0 rfl) 26 (.tmp 0) rfl 1 rfl rfl rfl _ rfl,
    fun L u => u_move u (gd0 rfl) 2 rfl (.const (.slice none 0 0)) (Or.inr rfl) rfl,
    trivial⟩ [(1, .ptr 1 0)] [(1, gc (x) ++ gc (y) ++ [Value.bool false])] ⟨rfl, trivial⟩ ⟨rfl, trivial⟩ rfl (fun a w h => ?_)
  refine wp_seq ?_
  refine go_region h hm [eS 4 (.val (.agg (gc (x) ++ gc (y) ++ [Value.bool false]).toArray)), eS 5 (.val (Value.bool true)), eS 6 (.val (Value.bool false))] (by kernel_rfl) ⟨
    fun L u => u_load u (gd0 rfl) 4 rfl 26 (.tmp 1) rfl rfl rfl Tryd.underlying26 rfl i26 (lk rfl) _ rfl,
    fun L u => u_call u (gd0 rfl) 5 rfl 11 #[(.tmp 4)] #[26] rfl [.agg (gc (x) ++ gc (y) ++ [Value.bool false]).toArray] rfl (cE11 _) (Value.bool true) (fun w hb => by have f := s_formed_at (hT.keep (Bs.kp_of hb)) x y; rw [decide_eq_true hq] at f; exact f),
    fun L u => u_not u (gd0 rfl) 6 rfl 4 (.tmp 5) rfl rfl _ rfl,
    trivial⟩ [(1, .ptr 1 0), (6, .val (Value.bool false))] [(1, gc (x) ++ gc (y) ++ [Value.bool false])] ⟨rfl, rfl, trivial⟩ ⟨rfl, trivial⟩ rfl (fun a w h => ?_)
  refine go_cond h false rfl (fun ht => ?_) (fun hf => ?_)
  case refine_1 => cases ht
  refine wp_skip ?_
  refine then_norm ?_
  refine wp_seq ?_
  refine sq_begin [0, 1, 2, 3] rfl ?_
  refine sq_step h (i := 0) rfl (u_field (xs := []) (up_seq (i := 0) (by kernel_rfl) rfl) (gd0 rfl) 8 rfl 26 (.tmp 1) 1 rfl rfl rfl Tryd.underlying26 rfl i24 _ rfl) (fun a w h => ?_)
  refine sq_step h (i := 1) rfl (u_load (xs := []) (up_seq (i := 1) (by kernel_rfl) rfl) (gd0 rfl) 9 rfl 24 (.tmp 8) rfl rfl rfl Tryd.underlying24 rfl i24 (lk rfl) _ rfl) (fun a w h => ?_)
  refine sq_callN h (i := 2) rfl (gq0 rfl) 10 rfl rfl 62 #[(.tmp 9)] #[24] rfl [.agg (gc (y)).toArray] rfl (cE62 _) 32 (by32 (fun i => Y i ((((y).val : Nat) : Int)))) (fun hb => refPutLittle_any ((((y).val : Nat) : Int)) w) (fun c10 a w hc10 h => ?_)
  replace h := h.keep [(1, .ptr 1 0), (6, .val (Value.bool false)), (8, .ptr 1 4), (9, .val (.agg (gc (y)).toArray)), (10, .sli 10 0 32 c10)] [(1, gc (x) ++ gc (y) ++ [Value.bool false]), (10, by32 (fun i => Y i ((((y).val : Nat) : Int))))] ⟨rfl, rfl, rfl, rfl, rfl, trivial⟩ ⟨rfl, rfl, trivial⟩ rfl
  refine sq_step h (i := 3) rfl (u_copy (xs := []) (up_seq (i := 3) (by kernel_rfl) rfl) (gd0 rfl) 3 rfl (.tmp 10) (Or.inr rfl) rfl (fun x c hp => by cases hp; exact ⟨_, rfl⟩)) (fun a w h => ?_)
  replace h := h.keep [(1, .ptr 1 0), (3, .sli 10 0 32 c10)] [(1, gc (x) ++ gc (y) ++ [Value.bool false]), (10, by32 (fun i => Y i ((((y).val : Nat) : Int))))] ⟨rfl, rfl, trivial⟩ ⟨rfl, rfl, trivial⟩ rfl
  refine sq_end ?_
  refine then_norm ?_
  refine wp_seq ?_
  refine go_region h hm [eS 11 (.ptr 1 0), eS 12 (.ptr 1 0), eS 13 (.val (Value.int .u64 (lw 0 (((x).val : Nat) : Int)))), eS 14 (.val (Value.int .u64 ((lw 0 (((x).val : Nat) : Int)) % 2))), eS 15 (.val (Value.bool false))] (by kernel_rfl) ⟨
    fun L u => u_field u (gd0 rfl) 11 rfl 26 (.tmp 1) 0 rfl rfl rfl Tryd.underlying26 rfl i24 _ rfl,
    fun L u => u_at u (gd0 rfl) 12 rfl 24 (.tmp 11) (.const (.int .i64 0)) rfl rfl rfl (k := 0) rfl Tryd.underlying24 i22 (by decide) 0 rfl,
    fun L u => u_load1 u (gd0 rfl) 13 rfl 22 (.tmp 12) rfl rfl rfl Tryd.underlying22 rfl _ rfl,
    fun L u => u_bin u (gd0 rfl) 14 rfl .rem 22 22 (.tmp 13) (.const (.int .u64 2)) rfl rfl rfl (eqg_int _ _ _ _ _ _ _ _) (Value.int .u64 ((lw 0 (((x).val : Nat) : Int)) % 2)) (fun w => i_rem _ _ _ _ _ (lw_lo _ _) (by decide) rfl w),
    fun L u => u_bin u (gd0 rfl) 15 rfl .eql 22 22 (.tmp 14) (.const (.int .u64 1)) rfl rfl rfl (eqg_int _ _ _ _ _ _ _ _) (Value.bool false) (no_of (fun w => i_eql _ _ _ _ w) (by rw [hp]; decide)),
    trivial⟩ [(3, .sli 10 0 32 c10), (15, .val (Value.bool false))] [(10, by32 (fun i => Y i ((((y).val : Nat) : Int))))] ⟨rfl, rfl, trivial⟩ ⟨rfl, trivial⟩ rfl (fun a w h => ?_)
  refine go_cond h false rfl (fun ht => ?_) (fun hf => ?_)
  case refine_1 => cases ht
  refine wp_skip ?_
  refine then_norm ?_
  refine go_region h hm [eS 21 (.sli 10 0 32 c10), eS 2 (.sli 10 0 32 c10)] (by kernel_rfl) ⟨
    fun L u => u_copy u (gd0 rfl) 21 rfl (.tmp 3) (Or.inl rfl) rfl (fun x c hp => by cases hp; exact ⟨_, rfl⟩),
    fun L u => u_copy u (gd0 rfl) 2 rfl (.tmp 21) (Or.inr rfl) rfl (fun x c hp => by cases hp; exact ⟨_, rfl⟩),
    trivial⟩ [(2, .sli 10 0 32 c10)] [(10, by32 (fun i => Y i ((((y).val : Nat) : Int))))] ⟨rfl, trivial⟩ ⟨rfl, trivial⟩ rfl (fun a w h => ?_)
  refine wp_ret ?_
  refine ret_new32 (cs := by32 (fun i => Y i ((((y).val : Nat) : Int)))) h 2 rfl (lk rfl) 10 c10 rfl hc10 rfl ?_
  refine by32_ext ?_; intro i hi; show Y i _ = Y i _; rw [code_even (a := ⟨x, y⟩) h2]
set_option maxRecDepth 100000 in
set_option maxHeartbeats 4000000 in
theorem s_enc_odd {w : World} (hT : Tab w) {x y : Fin m2} (hq : y * y - x * x = 1 + ed * (x * x * (y * y))) (hp : lw 0 ((x.val : Nat) : Int) % 2 = 1) (h2 : x.val % 2 = 1) (hbd : 0 ≤ Y 31 ((y.val : Nat) : Int) + 128 ∧ Y 31 ((y.val : Nat) : Int) + 128 < 256) : Calls Tryd.prog 26 [.agg (gc (x) ++ gc (y) ++ [Value.bool false]).toArray].toArray w fun e w' => New32 (fun i => Y i (((code ⟨x, y⟩ : Nat)) : Int)) w e w' := by
  refine enter (args := [.agg (gc (x) ++ gc (y) ++ [Value.bool false]).toArray]) Tryd.func26 rfl 22 rfl (lk rfl) (fun a h => ?_)
  refine go_region h hm [eN 1 (gc (x) ++ gc (y) ++ [Value.bool false]), eS 2 (.val ((Value.slice none 0 0)))] (by kernel_rfl) ⟨
    fun L u => u_box u (gd0 rfl) 26 (.tmp 0) rfl 1 rfl rfl rfl _ rfl,
    fun L u => u_move u (gd0 rfl) 2 rfl (.const (.slice none 0 0)) (Or.inr rfl) rfl,
    trivial⟩ [(1, .ptr 1 0)] [(1, gc (x) ++ gc (y) ++ [Value.bool false])] ⟨rfl, trivial⟩ ⟨rfl, trivial⟩ rfl (fun a w h => ?_)
  refine wp_seq ?_
  refine go_region h hm [eS 4 (.val (.agg (gc (x) ++ gc (y) ++ [Value.bool false]).toArray)), eS 5 (.val (Value.bool true)), eS 6 (.val (Value.bool false))] (by kernel_rfl) ⟨
    fun L u => u_load u (gd0 rfl) 4 rfl 26 (.tmp 1) rfl rfl rfl Tryd.underlying26 rfl i26 (lk rfl) _ rfl,
    fun L u => u_call u (gd0 rfl) 5 rfl 11 #[(.tmp 4)] #[26] rfl [.agg (gc (x) ++ gc (y) ++ [Value.bool false]).toArray] rfl (cE11 _) (Value.bool true) (fun w hb => by have f := s_formed_at (hT.keep (Bs.kp_of hb)) x y; rw [decide_eq_true hq] at f; exact f),
    fun L u => u_not u (gd0 rfl) 6 rfl 4 (.tmp 5) rfl rfl _ rfl,
    trivial⟩ [(1, .ptr 1 0), (6, .val (Value.bool false))] [(1, gc (x) ++ gc (y) ++ [Value.bool false])] ⟨rfl, rfl, trivial⟩ ⟨rfl, trivial⟩ rfl (fun a w h => ?_)
  refine go_cond h false rfl (fun ht => ?_) (fun hf => ?_)
  case refine_1 => cases ht
  refine wp_skip ?_
  refine then_norm ?_
  refine wp_seq ?_
  refine sq_begin [0, 1, 2, 3] rfl ?_
  refine sq_step h (i := 0) rfl (u_field (xs := []) (up_seq (i := 0) (by kernel_rfl) rfl) (gd0 rfl) 8 rfl 26 (.tmp 1) 1 rfl rfl rfl Tryd.underlying26 rfl i24 _ rfl) (fun a w h => ?_)
  refine sq_step h (i := 1) rfl (u_load (xs := []) (up_seq (i := 1) (by kernel_rfl) rfl) (gd0 rfl) 9 rfl 24 (.tmp 8) rfl rfl rfl Tryd.underlying24 rfl i24 (lk rfl) _ rfl) (fun a w h => ?_)
  refine sq_callN h (i := 2) rfl (gq0 rfl) 10 rfl rfl 62 #[(.tmp 9)] #[24] rfl [.agg (gc (y)).toArray] rfl (cE62 _) 32 (by32 (fun i => Y i ((((y).val : Nat) : Int)))) (fun hb => refPutLittle_any ((((y).val : Nat) : Int)) w) (fun c10 a w hc10 h => ?_)
  replace h := h.keep [(1, .ptr 1 0), (6, .val (Value.bool false)), (8, .ptr 1 4), (9, .val (.agg (gc (y)).toArray)), (10, .sli 10 0 32 c10)] [(1, gc (x) ++ gc (y) ++ [Value.bool false]), (10, by32 (fun i => Y i ((((y).val : Nat) : Int))))] ⟨rfl, rfl, rfl, rfl, rfl, trivial⟩ ⟨rfl, rfl, trivial⟩ rfl
  refine sq_step h (i := 3) rfl (u_copy (xs := []) (up_seq (i := 3) (by kernel_rfl) rfl) (gd0 rfl) 3 rfl (.tmp 10) (Or.inr rfl) rfl (fun x c hp => by cases hp; exact ⟨_, rfl⟩)) (fun a w h => ?_)
  replace h := h.keep [(1, .ptr 1 0), (3, .sli 10 0 32 c10)] [(1, gc (x) ++ gc (y) ++ [Value.bool false]), (10, by32 (fun i => Y i ((((y).val : Nat) : Int))))] ⟨rfl, rfl, trivial⟩ ⟨rfl, rfl, trivial⟩ rfl
  refine sq_end ?_
  refine then_norm ?_
  refine wp_seq ?_
  refine go_region h hm [eS 11 (.ptr 1 0), eS 12 (.ptr 1 0), eS 13 (.val (Value.int .u64 (lw 0 (((x).val : Nat) : Int)))), eS 14 (.val (Value.int .u64 ((lw 0 (((x).val : Nat) : Int)) % 2))), eS 15 (.val (Value.bool true))] (by kernel_rfl) ⟨
    fun L u => u_field u (gd0 rfl) 11 rfl 26 (.tmp 1) 0 rfl rfl rfl Tryd.underlying26 rfl i24 _ rfl,
    fun L u => u_at u (gd0 rfl) 12 rfl 24 (.tmp 11) (.const (.int .i64 0)) rfl rfl rfl (k := 0) rfl Tryd.underlying24 i22 (by decide) 0 rfl,
    fun L u => u_load1 u (gd0 rfl) 13 rfl 22 (.tmp 12) rfl rfl rfl Tryd.underlying22 rfl _ rfl,
    fun L u => u_bin u (gd0 rfl) 14 rfl .rem 22 22 (.tmp 13) (.const (.int .u64 2)) rfl rfl rfl (eqg_int _ _ _ _ _ _ _ _) (Value.int .u64 ((lw 0 (((x).val : Nat) : Int)) % 2)) (fun w => i_rem _ _ _ _ _ (lw_lo _ _) (by decide) rfl w),
    fun L u => u_bin u (gd0 rfl) 15 rfl .eql 22 22 (.tmp 14) (.const (.int .u64 1)) rfl rfl rfl (eqg_int _ _ _ _ _ _ _ _) (Value.bool true) (yes_of (fun w => i_eql _ _ _ _ w) hp),
    trivial⟩ [(3, .sli 10 0 32 c10), (15, .val (Value.bool true))] [(10, by32 (fun i => Y i ((((y).val : Nat) : Int))))] ⟨rfl, rfl, trivial⟩ ⟨rfl, trivial⟩ rfl (fun a w h => ?_)
  refine go_cond h true rfl (fun ht => ?_) (fun hf => ?_)
  case refine_2 => cases hf
  refine go_end h hm [eS 16 (.sli 10 0 32 c10), eS 17 (.ptr 10 31), eS 18 (.val (Value.int .u8 ((fun i => Y i ((((y).val : Nat) : Int))) 31))), eS 19 (.val (Value.int .u8 (((fun i => Y i ((((y).val : Nat) : Int))) 31) + 128))), eS 20 (.ptr 10 31), eM 10 (by31 (fun i => Y i ((((y).val : Nat) : Int))) ((((fun i => Y i ((((y).val : Nat) : Int))) 31) + 128)))] (by kernel_rfl) ⟨
    fun L u => u_copy u (gd0 rfl) 16 rfl (.tmp 3) (Or.inl rfl) rfl (fun x c hp => by cases hp; exact ⟨_, rfl⟩),
    fun L u => u_atS u (gd0 rfl) 17 rfl 43 (.tmp 16) (.const (.int .i64 31)) rfl rfl rfl (k := 31) rfl Tryd.underlying43 i5 (by decide) 31 rfl,
    fun L u => u_load1 u (gd0 rfl) 18 rfl 5 (.tmp 17) rfl rfl rfl Tryd.underlying5 rfl _ rfl,
    fun L u => u_bin u (gd0 rfl) 19 rfl .add 5 5 (.tmp 18) (.const (.int .u8 128)) rfl rfl rfl (eqg_int _ _ _ _ _ _ _ _) (Value.int .u8 (((fun i => Y i ((((y).val : Nat) : Int))) 31) + 128)) (fun w => i_addB _ _ _ _ rfl hbd w),
    fun L u => u_atS u (gd0 rfl) 20 rfl 43 (.tmp 16) (.const (.int .i64 31)) rfl rfl rfl (k := 31) rfl Tryd.underlying43 i5 (by decide) 31 rfl,
    fun L u => u_store1 u (gd0 rfl) 5 (.tmp 20) (.tmp 19) rfl rfl rfl rfl rfl i5 (lk rfl) rfl _ rfl,
    trivial⟩ [(3, .sli 10 0 32 c10)] [(10, by31 (fun i => Y i ((((y).val : Nat) : Int))) ((((fun i => Y i ((((y).val : Nat) : Int))) 31) + 128)))] ⟨rfl, trivial⟩ ⟨rfl, trivial⟩ rfl (fun a w h => ?_)
  refine then_norm ?_
  refine go_region h hm [eS 21 (.sli 10 0 32 c10), eS 2 (.sli 10 0 32 c10)] (by kernel_rfl) ⟨
    fun L u => u_copy u (gd0 rfl) 21 rfl (.tmp 3) (Or.inl rfl) rfl (fun x c hp => by cases hp; exact ⟨_, rfl⟩),
    fun L u => u_copy u (gd0 rfl) 2 rfl (.tmp 21) (Or.inr rfl) rfl (fun x c hp => by cases hp; exact ⟨_, rfl⟩),
    trivial⟩ [(2, .sli 10 0 32 c10)] [(10, by31 (fun i => Y i ((((y).val : Nat) : Int))) ((((fun i => Y i ((((y).val : Nat) : Int))) 31) + 128)))] ⟨rfl, trivial⟩ ⟨rfl, trivial⟩ rfl (fun a w h => ?_)
  refine wp_ret ?_
  refine ret_new32 (cs := by31 (fun i => Y i ((((y).val : Nat) : Int))) ((((fun i => Y i ((((y).val : Nat) : Int))) 31) + 128))) h 2 rfl (lk rfl) 10 c10 rfl hc10 rfl ?_
  refine by31_ext ?_ ?_; (intro i hi; show Y i _ = Y i _; rw [code_int, Y_low _ _ hi]); (show Y 31 _ + 128 = Y 31 _; rw [code_int, Y_high (by omega) (y_int ⟨x, y⟩) (Or.inr (by rw [h2]; rfl)), h2]; rfl)
set_option maxRecDepth 100000 in
set_option maxHeartbeats 4000000 in
theorem s_enc_off {w : World} (hT : Tab w) {A B : Int} {t : Bool} (hF : ∀ {w : World}, Tab w → Calls Tryd.prog 11 [.agg (nc A ++ nc B ++ [Value.bool t]).toArray].toArray w fun e w' => e = .returned (.bool false) ∧ Below w.heap.size w w') : Calls Tryd.prog 26 [.agg (nc (A) ++ nc (B) ++ [Value.bool t]).toArray].toArray w fun e w' => New32 (fun i => Y i (((code (Ep.o m2) : Nat)) : Int)) w e w' := by
  refine enter (args := [.agg (nc (A) ++ nc (B) ++ [Value.bool t]).toArray]) Tryd.func26 rfl 22 rfl (lk rfl) (fun a h => ?_)
  refine go_region h hm [eN 1 (nc (A) ++ nc (B) ++ [Value.bool t]), eS 2 (.val ((Value.slice none 0 0)))] (by kernel_rfl) ⟨
    fun L u => u_box u (gd0 rfl) 26 (.tmp 0) rfl 1 rfl rfl rfl _ rfl,
    fun L u => u_move u (gd0 rfl) 2 rfl (.const (.slice none 0 0)) (Or.inr rfl) rfl,
    trivial⟩ [(1, .ptr 1 0)] [(1, nc (A) ++ nc (B) ++ [Value.bool t])] ⟨rfl, trivial⟩ ⟨rfl, trivial⟩ rfl (fun a w h => ?_)
  refine wp_seq ?_
  refine go_region h hm [eS 4 (.val (.agg (nc (A) ++ nc (B) ++ [Value.bool t]).toArray)), eS 5 (.val (Value.bool false)), eS 6 (.val (Value.bool true))] (by kernel_rfl) ⟨
    fun L u => u_load u (gd0 rfl) 4 rfl 26 (.tmp 1) rfl rfl rfl Tryd.underlying26 rfl i26 (lk rfl) _ rfl,
    fun L u => u_call u (gd0 rfl) 5 rfl 11 #[(.tmp 4)] #[26] rfl [.agg (nc (A) ++ nc (B) ++ [Value.bool t]).toArray] rfl (cE11 _) (Value.bool false) (fun w hb => hF (hT.keep (Bs.kp_of hb))),
    fun L u => u_not u (gd0 rfl) 6 rfl 4 (.tmp 5) rfl rfl _ rfl,
    trivial⟩ [(1, .ptr 1 0), (6, .val (Value.bool true))] [(1, nc (A) ++ nc (B) ++ [Value.bool t])] ⟨rfl, rfl, trivial⟩ ⟨rfl, trivial⟩ rfl (fun a w h => ?_)
  refine go_cond h true rfl (fun ht => ?_) (fun hf => ?_)
  case refine_2 => cases hf
  refine go_end h hm [eS 7 (.val (.agg (gc ((Ep.o m2).x) ++ gc ((Ep.o m2).y) ++ [Value.bool false]).toArray)), eM 1 (gc ((Ep.o m2).x) ++ gc ((Ep.o m2).y) ++ [Value.bool false])] (by kernel_rfl) ⟨
    fun L u => u_call u (gd0 rfl) 7 rfl 56 #[] #[] rfl [] rfl (cE56 _) (.agg (gc ((Ep.o m2).x) ++ gc ((Ep.o m2).y) ++ [Value.bool false]).toArray) (fun w hb => s_None),
    fun L u => u_store u (gd0 rfl) 26 (.tmp 1) (.tmp 7) rfl rfl rfl (vs := gc ((Ep.o m2).x) ++ gc ((Ep.o m2).y) ++ [Value.bool false]) rfl rfl i26 (lk rfl) rfl _ rfl,
    trivial⟩ [(1, .ptr 1 0)] [(1, gc ((Ep.o m2).x) ++ gc ((Ep.o m2).y) ++ [Value.bool false])] ⟨rfl, trivial⟩ ⟨rfl, trivial⟩ rfl (fun a w h => ?_)
  refine then_norm ?_
  refine wp_seq ?_
  refine sq_begin [0, 1, 2, 3] rfl ?_
  refine sq_step h (i := 0) rfl (u_field (xs := []) (up_seq (i := 0) (by kernel_rfl) rfl) (gd0 rfl) 8 rfl 26 (.tmp 1) 1 rfl rfl rfl Tryd.underlying26 rfl i24 _ rfl) (fun a w h => ?_)
  refine sq_step h (i := 1) rfl (u_load (xs := []) (up_seq (i := 1) (by kernel_rfl) rfl) (gd0 rfl) 9 rfl 24 (.tmp 8) rfl rfl rfl Tryd.underlying24 rfl i24 (lk rfl) _ rfl) (fun a w h => ?_)
  refine sq_callN h (i := 2) rfl (gq0 rfl) 10 rfl rfl 62 #[(.tmp 9)] #[24] rfl [.agg (gc ((Ep.o m2).y)).toArray] rfl (cE62 _) 32 (by32 (fun i => Y i (((((Ep.o m2).y).val : Nat) : Int)))) (fun hb => refPutLittle_any (((((Ep.o m2).y).val : Nat) : Int)) w) (fun c10 a w hc10 h => ?_)
  replace h := h.keep [(1, .ptr 1 0), (8, .ptr 1 4), (9, .val (.agg (gc ((Ep.o m2).y)).toArray)), (10, .sli 10 0 32 c10)] [(1, gc ((Ep.o m2).x) ++ gc ((Ep.o m2).y) ++ [Value.bool false]), (10, by32 (fun i => Y i (((((Ep.o m2).y).val : Nat) : Int))))] ⟨rfl, rfl, rfl, rfl, trivial⟩ ⟨rfl, rfl, trivial⟩ rfl
  refine sq_step h (i := 3) rfl (u_copy (xs := []) (up_seq (i := 3) (by kernel_rfl) rfl) (gd0 rfl) 3 rfl (.tmp 10) (Or.inr rfl) rfl (fun x c hp => by cases hp; exact ⟨_, rfl⟩)) (fun a w h => ?_)
  replace h := h.keep [(1, .ptr 1 0), (3, .sli 10 0 32 c10)] [(1, gc ((Ep.o m2).x) ++ gc ((Ep.o m2).y) ++ [Value.bool false]), (10, by32 (fun i => Y i (((((Ep.o m2).y).val : Nat) : Int))))] ⟨rfl, rfl, trivial⟩ ⟨rfl, rfl, trivial⟩ rfl
  refine sq_end ?_
  refine then_norm ?_
  refine wp_seq ?_
  refine go_region h hm [eS 11 (.ptr 1 0), eS 12 (.ptr 1 0), eS 13 (.val (Value.int .u64 (lw 0 ((((Ep.o m2).x).val : Nat) : Int)))), eS 14 (.val (Value.int .u64 ((lw 0 ((((Ep.o m2).x).val : Nat) : Int)) % 2))), eS 15 (.val (Value.bool false))] (by kernel_rfl) ⟨
    fun L u => u_field u (gd0 rfl) 11 rfl 26 (.tmp 1) 0 rfl rfl rfl Tryd.underlying26 rfl i24 _ rfl,
    fun L u => u_at u (gd0 rfl) 12 rfl 24 (.tmp 11) (.const (.int .i64 0)) rfl rfl rfl (k := 0) rfl Tryd.underlying24 i22 (by decide) 0 rfl,
    fun L u => u_load1 u (gd0 rfl) 13 rfl 22 (.tmp 12) rfl rfl rfl Tryd.underlying22 rfl _ rfl,
    fun L u => u_bin u (gd0 rfl) 14 rfl .rem 22 22 (.tmp 13) (.const (.int .u64 2)) rfl rfl rfl (eqg_int _ _ _ _ _ _ _ _) (Value.int .u64 ((lw 0 ((((Ep.o m2).x).val : Nat) : Int)) % 2)) (fun w => i_rem _ _ _ _ _ (lw_lo _ _) (by decide) rfl w),
    fun L u => u_bin u (gd0 rfl) 15 rfl .eql 22 22 (.tmp 14) (.const (.int .u64 1)) rfl rfl rfl (eqg_int _ _ _ _ _ _ _ _) (Value.bool false) (no_of (fun w => i_eql _ _ _ _ w) (by rw [o_even]; decide)),
    trivial⟩ [(3, .sli 10 0 32 c10), (15, .val (Value.bool false))] [(10, by32 (fun i => Y i (((((Ep.o m2).y).val : Nat) : Int))))] ⟨rfl, rfl, trivial⟩ ⟨rfl, trivial⟩ rfl (fun a w h => ?_)
  refine go_cond h false rfl (fun ht => ?_) (fun hf => ?_)
  case refine_1 => cases ht
  refine wp_skip ?_
  refine then_norm ?_
  refine go_region h hm [eS 21 (.sli 10 0 32 c10), eS 2 (.sli 10 0 32 c10)] (by kernel_rfl) ⟨
    fun L u => u_copy u (gd0 rfl) 21 rfl (.tmp 3) (Or.inl rfl) rfl (fun x c hp => by cases hp; exact ⟨_, rfl⟩),
    fun L u => u_copy u (gd0 rfl) 2 rfl (.tmp 21) (Or.inr rfl) rfl (fun x c hp => by cases hp; exact ⟨_, rfl⟩),
    trivial⟩ [(2, .sli 10 0 32 c10)] [(10, by32 (fun i => Y i (((((Ep.o m2).y).val : Nat) : Int))))] ⟨rfl, trivial⟩ ⟨rfl, trivial⟩ rfl (fun a w h => ?_)
  refine wp_ret ?_
  refine ret_new32 (cs := by32 (fun i => Y i (((((Ep.o m2).y).val : Nat) : Int)))) h 2 rfl (lk rfl) 10 c10 rfl hc10 rfl ?_
  refine by32_ext ?_; intro i hi; show Y i _ = Y i _; rw [code_o]; rfl
theorem s_enc_on {w : World} (hT : Tab w) {x y : Fin m2} (hq : y * y - x * x = 1 + ed * (x * x * (y * y))) : Calls Tryd.prog 26 [.agg (gc (x) ++ gc (y) ++ [Value.bool false]).toArray].toArray w fun e w' => New32 (fun i => Go.Proofs.YtolehamdaceikaaDoor.Y i (((code ⟨x, y⟩ : Nat)) : Int)) w e w' := by
  have hp := L0_odd ((x.val : Nat) : Int)
  obtain ⟨a, b, _⟩ := Y_top (y := ((y.val : Nat) : Int)) (by omega) (y_int ⟨x, y⟩)
  by_cases h2 : x.val % 2 = 0
  · exact s_enc_even hT hq (by rw [hp]; omega) h2
  · exact s_enc_odd hT hq (by rw [hp]; omega) (by omega) (by omega)
theorem s_Encode {w : World} (hT : Tab w) {X Y : Int} (hX : Num X) (hY : Num Y) (t : Bool) : Calls Tryd.prog 26 [.agg (rc X Y t).toArray].toArray w fun e w' => New32 (fun i => Go.Proofs.YtolehamdaceikaaDoor.Y i (((code (rpE X Y t) : Nat)) : Int)) w e w' := by
  cases t with
  | true =>
    rw [show rpE X Y true = Ep.o m2 from if_neg (fun h => by cases h.1)]
    exact s_enc_off hT (fun _ => s_formed_none)
  | false =>
    by_cases h1 : X < md 2
    · by_cases h2 : Y < md 2
      · have e1 := nc_gc hX.lo h1
        have e2 := nc_gc hY.lo h2
        by_cases h3 : (kc Y : Fin m2) * kc Y - kc X * kc X = 1 + ed * (kc X * kc X * (kc Y * kc Y))
        · rw [show rpE X Y false = ⟨kc X, kc Y⟩ from if_pos ⟨rfl, h1, h2, h3⟩]
          rw [rc, e1, e2]
          exact s_enc_on hT h3
        · rw [show rpE X Y false = Ep.o m2 from if_neg (fun h => h3 h.2.2.2)]
          refine s_enc_off hT (fun hT => ?_)
          rw [e1, e2]
          have f := s_formed_at hT (kc X) (kc Y)
          rw [decide_eq_false h3] at f
          exact f
      · rw [show rpE X Y false = Ep.o m2 from if_neg (fun h => h2 h.2.2.1)]
        exact s_enc_off hT (fun _ => s_formed_y hX (decide_eq_true h1) hY (decide_eq_false h2))
    · rw [show rpE X Y false = Ep.o m2 from if_neg (fun h => h1 h.2.1)]
      exact s_enc_off hT (fun _ => s_formed_x hX (decide_eq_false h1))
end Go.Proofs.YtolehamdaceikaaDoor
namespace Go.Proofs.YtolehamdaceikaaDoor
open Go.RowKit
attribute [local go_sem ↓] Go.wp_at_zero Go.wp_at_succ

theorem ref_half0_0 (a : Int) (h : L 1 a % 2 = 0) : L 0 a / 2 = L 0 (a / 2) := by
  rw [L1] at h
  rw [L0, L0]
  omega
theorem ref_half0_1 (a : Int) (h : L 1 a % 2 = 1) : IntKind.u64.wrap (L 0 a / 2 + 9223372036854775808) = L 0 (a / 2) := by
  rw [L1] at h
  rw [IntKind.wrap_u64, L0, L0]
  omega
theorem ref_half1_0 (a : Int) (h : L 2 a % 2 = 0) : L 1 a / 2 = L 1 (a / 2) := by
  rw [L2] at h
  rw [L1, L1]
  omega
theorem ref_half1_1 (a : Int) (h : L 2 a % 2 = 1) : IntKind.u64.wrap (L 1 a / 2 + 9223372036854775808) = L 1 (a / 2) := by
  rw [L2] at h
  rw [IntKind.wrap_u64, L1, L1]
  omega
theorem ref_half2_0 (a : Int) (h : L 3 a % 2 = 0) : L 2 a / 2 = L 2 (a / 2) := by
  rw [L3] at h
  rw [L2, L2]
  omega
theorem ref_half2_1 (a : Int) (h : L 3 a % 2 = 1) : IntKind.u64.wrap (L 2 a / 2 + 9223372036854775808) = L 2 (a / 2) := by
  rw [L3] at h
  rw [IntKind.wrap_u64, L2, L2]
  omega
theorem ref_half3 {a : Int} (h : Num a) : L 3 a / 2 = L 3 (a / 2) := by
  obtain ⟨h1, h2⟩ := h
  unfold M at h2
  rw [L3, L3]
  omega

set_option maxRecDepth 100000 in
set_option maxHeartbeats 4000000 in
theorem ref_half_any {a : Int} (h : Num a) (w : World) :
    Calls Tryd.prog 77 #[.agg #[.int .u64 (L 0 a), .int .u64 (L 1 a), .int .u64 (L 2 a), .int .u64 (L 3 a)]] w fun e w' => e = .returned (.agg #[.int .u64 (L 0 (a / 2)), .int .u64 (L 1 (a / 2)), .int .u64 (L 2 (a / 2)), .int .u64 (L 3 (a / 2))]) ∧ Below w.heap.size w w' := by
  have l0 := L_lo 0 a
  have l1 := L_lo 1 a
  have l2 := L_lo 2 a
  have l3 := L_lo 3 a
  have m0 := L_hi 0 a
  have m1 := L_hi 1 a
  have m2 := L_hi 2 a
  have m3 := L_hi 3 a
  have q3 := ref_half3 h
  have p1 : L 1 a % 2 = 0 ∨ L 1 a % 2 = 1 := by omega
  have p2 : L 2 a % 2 = 0 ∨ L 2 a % 2 = 1 := by omega
  have p3 : L 3 a % 2 = 0 ∨ L 3 a % 2 = 1 := by omega
  rcases p1 with p1 | p1
  · have q0 := ref_half0_0 a p1
    rcases p2 with p2 | p2
    · have q1 := ref_half1_0 a p2
      rcases p3 with p3 | p3
      · have q2 := ref_half2_0 a p3
        go_enter Tryd.func77, Tryd.ntmps77
        go_wp2
        refine wp_loop_rounds 5 ?_
        rw [rounds_succ]
        go_wp2
        rw [rounds_succ]
        go_wp2
        rw [rounds_succ]
        go_wp2
        rw [rounds_succ]
        go_wp2
        rw [rounds_succ]
        go_wp2
        go_returns
        refine ⟨rfl, ?_⟩
        repeat' (first | (with_reducible exact Below.refl _ _) | (with_reducible refine K.drewN ?_ _) | (with_reducible refine K.drew ?_) | (with_reducible refine K.alloc ?_ _) | (with_reducible refine K.set ?_ ?_ _) | (simp; done) | (simp; omega))
      · have q2 := ref_half2_1 a p3
        go_enter Tryd.func77, Tryd.ntmps77
        go_wp2
        refine wp_loop_rounds 5 ?_
        rw [rounds_succ]
        go_wp2
        rw [rounds_succ]
        go_wp2
        rw [rounds_succ]
        go_wp2
        rw [rounds_succ]
        go_wp2
        rw [rounds_succ]
        go_wp2
        go_returns
        refine ⟨rfl, ?_⟩
        repeat' (first | (with_reducible exact Below.refl _ _) | (with_reducible refine K.drewN ?_ _) | (with_reducible refine K.drew ?_) | (with_reducible refine K.alloc ?_ _) | (with_reducible refine K.set ?_ ?_ _) | (simp; done) | (simp; omega))
    · have q1 := ref_half1_1 a p2
      rcases p3 with p3 | p3
      · have q2 := ref_half2_0 a p3
        go_enter Tryd.func77, Tryd.ntmps77
        go_wp2
        refine wp_loop_rounds 5 ?_
        rw [rounds_succ]
        go_wp2
        rw [rounds_succ]
        go_wp2
        rw [rounds_succ]
        go_wp2
        rw [rounds_succ]
        go_wp2
        rw [rounds_succ]
        go_wp2
        go_returns
        refine ⟨rfl, ?_⟩
        repeat' (first | (with_reducible exact Below.refl _ _) | (with_reducible refine K.drewN ?_ _) | (with_reducible refine K.drew ?_) | (with_reducible refine K.alloc ?_ _) | (with_reducible refine K.set ?_ ?_ _) | (simp; done) | (simp; omega))
      · have q2 := ref_half2_1 a p3
        go_enter Tryd.func77, Tryd.ntmps77
        go_wp2
        refine wp_loop_rounds 5 ?_
        rw [rounds_succ]
        go_wp2
        rw [rounds_succ]
        go_wp2
        rw [rounds_succ]
        go_wp2
        rw [rounds_succ]
        go_wp2
        rw [rounds_succ]
        go_wp2
        go_returns
        refine ⟨rfl, ?_⟩
        repeat' (first | (with_reducible exact Below.refl _ _) | (with_reducible refine K.drewN ?_ _) | (with_reducible refine K.drew ?_) | (with_reducible refine K.alloc ?_ _) | (with_reducible refine K.set ?_ ?_ _) | (simp; done) | (simp; omega))
  · have q0 := ref_half0_1 a p1
    rcases p2 with p2 | p2
    · have q1 := ref_half1_0 a p2
      rcases p3 with p3 | p3
      · have q2 := ref_half2_0 a p3
        go_enter Tryd.func77, Tryd.ntmps77
        go_wp2
        refine wp_loop_rounds 5 ?_
        rw [rounds_succ]
        go_wp2
        rw [rounds_succ]
        go_wp2
        rw [rounds_succ]
        go_wp2
        rw [rounds_succ]
        go_wp2
        rw [rounds_succ]
        go_wp2
        go_returns
        refine ⟨rfl, ?_⟩
        repeat' (first | (with_reducible exact Below.refl _ _) | (with_reducible refine K.drewN ?_ _) | (with_reducible refine K.drew ?_) | (with_reducible refine K.alloc ?_ _) | (with_reducible refine K.set ?_ ?_ _) | (simp; done) | (simp; omega))
      · have q2 := ref_half2_1 a p3
        go_enter Tryd.func77, Tryd.ntmps77
        go_wp2
        refine wp_loop_rounds 5 ?_
        rw [rounds_succ]
        go_wp2
        rw [rounds_succ]
        go_wp2
        rw [rounds_succ]
        go_wp2
        rw [rounds_succ]
        go_wp2
        rw [rounds_succ]
        go_wp2
        go_returns
        refine ⟨rfl, ?_⟩
        repeat' (first | (with_reducible exact Below.refl _ _) | (with_reducible refine K.drewN ?_ _) | (with_reducible refine K.drew ?_) | (with_reducible refine K.alloc ?_ _) | (with_reducible refine K.set ?_ ?_ _) | (simp; done) | (simp; omega))
    · have q1 := ref_half1_1 a p2
      rcases p3 with p3 | p3
      · have q2 := ref_half2_0 a p3
        go_enter Tryd.func77, Tryd.ntmps77
        go_wp2
        refine wp_loop_rounds 5 ?_
        rw [rounds_succ]
        go_wp2
        rw [rounds_succ]
        go_wp2
        rw [rounds_succ]
        go_wp2
        rw [rounds_succ]
        go_wp2
        rw [rounds_succ]
        go_wp2
        go_returns
        refine ⟨rfl, ?_⟩
        repeat' (first | (with_reducible exact Below.refl _ _) | (with_reducible refine K.drewN ?_ _) | (with_reducible refine K.drew ?_) | (with_reducible refine K.alloc ?_ _) | (with_reducible refine K.set ?_ ?_ _) | (simp; done) | (simp; omega))
      · have q2 := ref_half2_1 a p3
        go_enter Tryd.func77, Tryd.ntmps77
        go_wp2
        refine wp_loop_rounds 5 ?_
        rw [rounds_succ]
        go_wp2
        rw [rounds_succ]
        go_wp2
        rw [rounds_succ]
        go_wp2
        rw [rounds_succ]
        go_wp2
        rw [rounds_succ]
        go_wp2
        go_returns
        refine ⟨rfl, ?_⟩
        repeat' (first | (with_reducible exact Below.refl _ _) | (with_reducible refine K.drewN ?_ _) | (with_reducible refine K.drew ?_) | (with_reducible refine K.alloc ?_ _) | (with_reducible refine K.set ?_ ?_ _) | (simp; done) | (simp; omega))
end Go.Proofs.YtolehamdaceikaaDoor
namespace Go.Proofs.YtolehamdaceikaaDoor

/-- Two lists of n bytes are the same. -/
def sameB (f g : Nat → Int) (n : Nat) : Bool := decide (∀ i, i < n → f i = g i)
theorem same_no {f g : Nat → Int} {n k : Nat} (h : k < n) (hne : f k ≠ g k) : sameB f g n = false := by
  unfold sameB
  rw [decide_eq_false_iff_not]
  exact fun hh => hne (hh k h)
theorem same_yes {f g : Nat → Int} {n : Nat} (h : ∀ i, i < n → f i = g i) : sameB f g n = true := decide_eq_true h

end Go.Proofs.YtolehamdaceikaaDoor
namespace Go.Proofs.YtolehamdaceikaaDoor
open Go.RowKit
attribute [local go_sem ↓] Go.wp_at_zero Go.wp_at_succ

set_option maxHeartbeats 1000000 in
theorem same_len (a1 a2 : Option Addr) (n1 n2 c1 c2 : Nat) (h : n1 ≠ n2) (w : World) :
    Calls Tryd.prog 25 #[.slice a1 n1 c1, .slice a2 n2 c2] w fun e w' => e = .returned (.bool false) ∧ w' = w := by
  have hb : ((n1 : Int) == (n2 : Int)) = false := beq_eq_false_iff_ne.2 (by omega)
  go_enter Tryd.func25, Tryd.ntmps25
  go_wp2_with fail
  go_ret
  exact ⟨rfl, rfl⟩
set_option maxHeartbeats 1000000 in
theorem same_none (a1 a2 : Option Addr) (c1 c2 : Nat) (w : World) :
    Calls Tryd.prog 25 #[.slice a1 0 c1, .slice a2 0 c2] w fun e w' => e = .returned (.bool true) ∧ w' = w := by
  go_enter Tryd.func25, Tryd.ntmps25
  go_wp2_with fail
  refine wp_loop_rounds 1 ?_
  rw [rounds_succ]
  go_wp2_with fail
  go_ret
  exact ⟨rfl, rfl⟩

set_option maxHeartbeats 2000000 in
theorem same_any {b o c b2 o2 c2 n : Nat} {f g : Nat → Int} (hn : n ≤ 1000000) {w : World} (h1 : Rd w b o n f) (h2 : Rd w b2 o2 n g) :
    Calls Tryd.prog 25 #[.slice (some ⟨b, o, none⟩) n c, .slice (some ⟨b2, o2, none⟩) n c2] w fun e w' => e = .returned (.bool (sameB f g n)) ∧ Below w.heap.size w w' := by
  have H1 : Hid (Rd w b o n f) := h1
  have H2 : Hid (Rd w b2 o2 n g) := h2
  clear h1 h2
  go_enter Tryd.func25, Tryd.ntmps25
  go_wp2_with fail
  go_loopg [5] n (fun gh s wr => ∃ k : Nat, gh = n - k ∧ k ≤ n ∧ s = .int .i64 k ∧ (∀ i, i < k → f i = g i) ∧ Below w.heap.size w wr)
  case atStart => exact ⟨0, rfl, by omega, rfl, fun i h => by omega, Below.refl _ _⟩
  case round =>
    obtain ⟨k, rfl, hk, rfl, hall, hB⟩ := hrel
    have HA : Hid (∀ i, i < k → f i = g i) := hall
    have HB : Hid (Below w.heap.size w wr) := hB
    by_cases hlt : k < n
    · have hc1 := (H1.out.keep hB).c k hlt
      have hc2 := (H2.out.keep hB).c k hlt
      clear hB hall
      by_cases he : f k = g k
      · have HS : Hid (∀ i, i < k + 1 → f i = g i) := fun i hi => by
          by_cases e : i = k
          · rw [e]; exact he
          · exact HA.out i (by omega)
        rw [← he] at hc2
        clear he
        go_upto_region 6 with fail
        go_quiet (fail)
        go_wp2_with fail
        go_roundg (n - (k + 1))
        case measure => omega
        case rel => exact ⟨k + 1, rfl, by omega, by go_num, HS.out, K.drewN HB.out _⟩
      · have hb : (f k == g k) = false := beq_eq_false_iff_ne.2 he
        have HS : Hid (sameB f g n = false) := same_no hlt he
        clear he
        go_upto_region 6 with fail
        go_quiet (fail)
        go_wp2_with fail
        go_ret
        exact ⟨ret_bool HS.out.symm, K.drewN HB.out _⟩
    · obtain rfl : k = n := by omega
      clear hall hB
      go_wp2_with fail
      go_ret
      exact ⟨ret_bool (same_yes HA.out).symm, HB.out⟩
end Go.Proofs.YtolehamdaceikaaDoor
namespace Go.Proofs.YtolehamdaceikaaDoor
open Go.RowKit

section
variable {P : Program} {W : Bs} {n : Nat} {ops : Array Oper} {i : Nat} {o : Oper} {L : Nat → Bool} {xs : List OE} {σ : SS}
theorem u_lenV (u : Up ops i o L) (hg : Gd ops n o (run L 0 xs σ)) (dd : Nat) (hdd : o.dst = some dd) (x : Operand) (t : TypeId) (ho : o.op = .call { callee := .builtin .len, args := #[x], argTypes := #[t] }) {a : Option Addr} {m c : Nat} (hx : lookO n ops i o xs σ x = some (.val (.slice a m c))) {e : TypeId} (hu : P.underlying t = some (.slice e)) : GStep P W n ops o (run L 0 xs σ) ((eS dd (.val (.int .i64 (m : Int)))).app (run L 0 xs σ)) := by
  refine u_any u hg dd hdd _ (fun x c hp => by cases hp) fun β a w hr => ?_
  unfold execOp
  simp [ho, resolve, invoke, builtin, hr.eval (u.ev hx), SV.at, Builtin.len_, goInt, run_underlying hu]
theorem u_atX (u : Up ops i o L) (hg : Gd ops n o (run L 0 xs σ)) (dd : Nat) (hdd : o.dst = some dd) (ty : TypeId) (x ix : Operand) (ho : o.op = .indexAddr ty x ix) {b off m c : Nat} (hx : lookO n ops i o xs σ x = some (.val (.slice (some ⟨b, off, none⟩) m c))) {kd : IntKind} {k : Nat} (hi : lookO n ops i o xs σ ix = some (.val (.int kd (k : Int)))) {e : TypeId} (hu : P.underlying ty = some (.slice e)) {z : Nat} (hz : (P.info? e).map (·.size) = some z) (hk : k < m) (off' : Nat) (ho' : off' = off + k * z) : GStep P W n ops o (run L 0 xs σ) ((eS dd (.val (.pointer (some ⟨b, off', none⟩)))).app (run L 0 xs σ)) := by
  subst ho'
  refine u_any u hg dd hdd _ (fun x c hp => by cases hp) fun β a w hr => ?_
  cases hq : P.info? e with
  | none => simp [hq] at hz
  | some t =>
    have hs : t.size = z := by simpa [hq] using hz
    unfold execOp
    simp [ho, hr.eval (u.ev hx), hr.eval (u.ev hi), SV.at, Instr.indexAt, asIntOf, run_underlying hu, sizeOf, typeInfo, hq, hs, Addr.add_mid, hk]
/-- A part of bytes that came in: what a run of the cut answers is handed. -/
theorem u_part2 (u : Up ops i o L) (hg : Gd ops n o (run L 0 xs σ)) (dd : Nat) (hdd : o.dst = some dd) (ty : TypeId) (x l h : Operand) (ho : o.op = .slice ty x (some l) (some h) none) {vx vl vh : Value} (hx : lookO n ops i o xs σ x = some (.val vx)) (hl : lookO n ops i o xs σ l = some (.val vl)) (hh : lookO n ops i o xs σ h = some (.val vh)) (v : Value) (hr : ∀ w : World, (Instr.sliceAt ty vx (some vl) (some vh) none).run P w = .ok v w) : GStep P W n ops o (run L 0 xs σ) ((eS dd (.val v)).app (run L 0 xs σ)) := by
  refine u_any u hg dd hdd _ (fun x c hp => by cases hp) fun β a w hq => ?_
  unfold execOp
  simp only [ho, Option.map, hq.eval (u.ev hx), hq.eval (u.ev hl), hq.eval (u.ev hh), SV.at, Sem.run_bind, Sem.run_pure, Result.andThen_ok, hr]
theorem u_partT (u : Up ops i o L) (hg : Gd ops n o (run L 0 xs σ)) (dd : Nat) (hdd : o.dst = some dd) (ty : TypeId) (x l : Operand) (ho : o.op = .slice ty x (some l) none none) {vx vl : Value} (hx : lookO n ops i o xs σ x = some (.val vx)) (hl : lookO n ops i o xs σ l = some (.val vl)) (v : Value) (hr : ∀ w : World, (Instr.sliceAt ty vx (some vl) none none).run P w = .ok v w) : GStep P W n ops o (run L 0 xs σ) ((eS dd (.val v)).app (run L 0 xs σ)) := by
  refine u_any u hg dd hdd _ (fun x c hp => by cases hp) fun β a w hq => ?_
  unfold execOp
  simp only [ho, Option.map, hq.eval (u.ev hx), hq.eval (u.ev hl), SV.at, Sem.run_bind, Sem.run_pure, Result.andThen_ok, hr]
theorem u_partH (u : Up ops i o L) (hg : Gd ops n o (run L 0 xs σ)) (dd : Nat) (hdd : o.dst = some dd) (ty : TypeId) (x h : Operand) (ho : o.op = .slice ty x none (some h) none) {vx vh : Value} (hx : lookO n ops i o xs σ x = some (.val vx)) (hh : lookO n ops i o xs σ h = some (.val vh)) (v : Value) (hr : ∀ w : World, (Instr.sliceAt ty vx none (some vh) none).run P w = .ok v w) : GStep P W n ops o (run L 0 xs σ) ((eS dd (.val v)).app (run L 0 xs σ)) := by
  refine u_any u hg dd hdd _ (fun x c hp => by cases hp) fun β a w hq => ?_
  unfold execOp
  simp only [ho, Option.map, hq.eval (u.ev hx), hq.eval (u.ev hh), SV.at, Sem.run_bind, Sem.run_pure, Result.andThen_ok, hr]
end
/-- A part of a slice of bytes. -/
def cutA (a : Option Addr) (c k : Nat) : Option Addr := if c = k then a else a.map (·.add k)
theorem run_midS {a : Option Addr} {n c k m : Nat} (hk : k ≤ m) (hc : m ≤ c) (W : World) : (Instr.sliceAt 43 (.slice a n c) (some (.int .i64 (k : Int))) (some (.int .i64 (m : Int))) none).run Tryd.prog W = .ok (.slice (cutA a c k) (m - k) (c - k)) W := by
  have hu : Tryd.prog.underlying 43 = some (.slice (Tryd.prog.elem 43)) := by kernel_rfl
  have he : Tryd.prog.elem 43 = 5 := by kernel_rfl
  have h1 : (sizeOf 5).run Tryd.prog W = .ok 1 W := by
    obtain ⟨i, hi⟩ := Option.isSome_iff_exists.1 (show (Tryd.prog.info? 5).isSome = true by kernel_rfl)
    have : (Tryd.prog.info? 5).map (·.size) = some 1 := by kernel_rfl
    rw [hi] at this
    simp [sizeOf, typeInfo, hi]
    simpa using this
  rw [run_sliceAt_slice W 43 _ _ _ _ hu, run_slice_lh W 43 _ n c hu .i64 .i64 (k : Int) (m : Int) (by omega) (by omega) (by omega), he, h1]
  simp only [Result.andThen_ok, sliced, Int.toNat_natCast, Nat.mul_one, cutA]
theorem run_fromS {a : Option Addr} {n c k : Nat} (hk : k ≤ n) (W : World) : (Instr.sliceAt 43 (.slice a n c) (some (.int .i64 (k : Int))) none none).run Tryd.prog W = .ok (.slice (cutA a c k) (n - k) (c - k)) W := by
  have hu : Tryd.prog.underlying 43 = some (.slice (Tryd.prog.elem 43)) := by kernel_rfl
  have he : Tryd.prog.elem 43 = 5 := by kernel_rfl
  have h1 : (sizeOf 5).run Tryd.prog W = .ok 1 W := by
    obtain ⟨i, hi⟩ := Option.isSome_iff_exists.1 (show (Tryd.prog.info? 5).isSome = true by kernel_rfl)
    have : (Tryd.prog.info? 5).map (·.size) = some 1 := by kernel_rfl
    rw [hi] at this
    simp [sizeOf, typeInfo, hi]
    simpa using this
  rw [run_sliceAt_slice W 43 _ _ _ _ hu, run_slice_l W 43 _ n c hu .i64 (k : Int) (by omega) (by omega), he, h1]
  simp only [Result.andThen_ok, sliced, Int.toNat_natCast, Nat.mul_one, cutA]
theorem run_toS {a : Option Addr} {n c m : Nat} (hc : m ≤ c) (W : World) : (Instr.sliceAt 43 (.slice a n c) none (some (.int .i64 (m : Int))) none).run Tryd.prog W = .ok (.slice (cutA a c 0) m c) W := by
  have hu : Tryd.prog.underlying 43 = some (.slice (Tryd.prog.elem 43)) := by kernel_rfl
  have he : Tryd.prog.elem 43 = 5 := by kernel_rfl
  have h1 : (sizeOf 5).run Tryd.prog W = .ok 1 W := by
    obtain ⟨i, hi⟩ := Option.isSome_iff_exists.1 (show (Tryd.prog.info? 5).isSome = true by kernel_rfl)
    have : (Tryd.prog.info? 5).map (·.size) = some 1 := by kernel_rfl
    rw [hi] at this
    simp [sizeOf, typeInfo, hi]
    simpa using this
  rw [run_sliceAt_slice W 43 _ _ _ _ hu, run_slice_h W 43 _ n c hu .i64 (m : Int) (by omega) (by omega), he, h1]
  simp only [Result.andThen_ok, sliced, Int.toNat_natCast, Nat.mul_one, cutA, Nat.sub_zero]
theorem BA.cut {w : World} {a : Option Addr} {n : Nat} {f : Nat → Nat} (h : BA w a n f) (c k m : Nat) (hk : k + m ≤ n) (hc : n ≤ c) : BA w (cutA a c k) m (fun i => f (k + i)) := by
  refine ⟨fun i => h.lt _, ?_⟩
  by_cases h0 : m = 0
  · exact Or.inl h0
  · rcases h.at_ with hn | ⟨b, o, rfl, hr⟩
    · omega
    · refine Or.inr ⟨b, o + k, ?_, hr.part k m hk⟩
      unfold cutA
      rw [if_neg (by omega), Option.map_some, Addr.add_mid]
end Go.Proofs.YtolehamdaceikaaDoor
namespace Go.Proofs.YtolehamdaceikaaDoor
open Go.RowKit
attribute [local go_sem ↓] Go.wp_at_zero Go.wp_at_succ

def cb (a b : Int) (k : Nat) : Bool := C a b k == 1
theorem cb_zero (a b : Int) : cb a b 0 = false := by unfold cb; rw [C_zero]; rfl
theorem ref_add_0 (a b : Int) (k : Nat) (h : cb a b k = false) : IntKind.u64.wrap (L k a + L k b) = L k (a + b) := by
  have c1 := C_lo a b k
  have c2 := C_hi a b k
  have hc : C a b k = 0 := by unfold cb at h; simp at h; omega
  have e := add_word a b k
  rw [hc, Int.add_zero] at e
  rw [IntKind.wrap_u64, e]
theorem ref_add_1 (a b : Int) (k : Nat) (h : cb a b k = true) : IntKind.u64.wrap (IntKind.u64.wrap (L k a + L k b) + 1) = L k (a + b) := by
  have hc : C a b k = 1 := by unfold cb at h; simpa using h
  have e := add_word a b k
  rw [hc] at e
  rw [IntKind.wrap_u64, IntKind.wrap_u64, ← e]
  omega
theorem ref_add_o0 (a b : Int) (k : Nat) (h : cb a b k = false) : decide (L k (a + b) < L k a) = cb a b (k + 1) := by
  have c1 := C_lo a b k
  have c2 := C_hi a b k
  have hc : C a b k = 0 := by unfold cb at h; simp at h; omega
  have e := add_word a b k
  have f := add_carry a b k
  have a1 := L_lo k a
  have a2 := L_hi k a
  have b1 := L_lo k b
  have b2 := L_hi k b
  rw [hc] at e f
  unfold cb
  rw [← f, ← e, Bool.eq_iff_iff]
  simp only [decide_eq_true_eq, beq_iff_eq]
  omega
theorem ref_add_o1 (a b : Int) (k : Nat) (h : cb a b k = true) : (decide (IntKind.u64.wrap (L k a + L k b) < L k a) || (L k (a + b) == 0)) = cb a b (k + 1) := by
  have hc : C a b k = 1 := by unfold cb at h; simpa using h
  have e := add_word a b k
  have f := add_carry a b k
  have a1 := L_lo k a
  have a2 := L_hi k a
  have b1 := L_lo k b
  have b2 := L_hi k b
  rw [hc] at e f
  unfold cb
  rw [← f, ← e, IntKind.wrap_u64, Bool.eq_iff_iff]
  simp only [decide_eq_true_eq, beq_iff_eq, Bool.or_eq_true]
  omega

set_option maxHeartbeats 1000000 in
theorem ref_add_walk (a b : Int) (w : World) :
    Calls Tryd.prog 18 #[.agg #[.int .u64 (L 0 a), .int .u64 (L 1 a), .int .u64 (L 2 a), .int .u64 (L 3 a)], .agg #[.int .u64 (L 0 b), .int .u64 (L 1 b), .int .u64 (L 2 b), .int .u64 (L 3 b)]] w fun e w' =>
      e = .returned (.tuple #[.agg #[.int .u64 (L 0 (a + b)), .int .u64 (L 1 (a + b)), .int .u64 (L 2 (a + b)), .int .u64 (L 3 (a + b))], .bool (cb a b 4)]) ∧ Below w.heap.size w w' := by
  go_enter Tryd.func18, Tryd.ntmps18
  go_wp2
  go_loopw [7, 8] (fun s7 s8 w' => (s8 = .int .i64 0 ∧ s7 = .bool false ∧ ∃ n, w' = ((((w.alloc (.cells #[.int .u64 (L 0 a), .int .u64 (L 1 a), .int .u64 (L 2 a), .int .u64 (L 3 a)] 24)).alloc (.cells #[.int .u64 (L 0 b), .int .u64 (L 1 b), .int .u64 (L 2 b), .int .u64 (L 3 b)] 24)).alloc (.cells #[.int .u64 0, .int .u64 0, .int .u64 0, .int .u64 0] 24)).alloc (.cells #[.int .u64 0, .int .u64 0, .int .u64 0, .int .u64 0] 24)).drewN n) ∨ (s8 = .int .i64 1 ∧ s7 = .bool (cb a b 1) ∧ ∃ n, w' = ((((w.alloc (.cells #[.int .u64 (L 0 a), .int .u64 (L 1 a), .int .u64 (L 2 a), .int .u64 (L 3 a)] 24)).alloc (.cells #[.int .u64 (L 0 b), .int .u64 (L 1 b), .int .u64 (L 2 b), .int .u64 (L 3 b)] 24)).alloc (.cells #[.int .u64 0, .int .u64 0, .int .u64 0, .int .u64 0] 24)).alloc (.cells #[.int .u64 (L 0 (a + b)), .int .u64 0, .int .u64 0, .int .u64 0] 24)).drewN n) ∨ (s8 = .int .i64 2 ∧ s7 = .bool (cb a b 2) ∧ ∃ n, w' = ((((w.alloc (.cells #[.int .u64 (L 0 a), .int .u64 (L 1 a), .int .u64 (L 2 a), .int .u64 (L 3 a)] 24)).alloc (.cells #[.int .u64 (L 0 b), .int .u64 (L 1 b), .int .u64 (L 2 b), .int .u64 (L 3 b)] 24)).alloc (.cells #[.int .u64 0, .int .u64 0, .int .u64 0, .int .u64 0] 24)).alloc (.cells #[.int .u64 (L 0 (a + b)), .int .u64 (L 1 (a + b)), .int .u64 0, .int .u64 0] 24)).drewN n) ∨ (s8 = .int .i64 3 ∧ s7 = .bool (cb a b 3) ∧ ∃ n, w' = ((((w.alloc (.cells #[.int .u64 (L 0 a), .int .u64 (L 1 a), .int .u64 (L 2 a), .int .u64 (L 3 a)] 24)).alloc (.cells #[.int .u64 (L 0 b), .int .u64 (L 1 b), .int .u64 (L 2 b), .int .u64 (L 3 b)] 24)).alloc (.cells #[.int .u64 0, .int .u64 0, .int .u64 0, .int .u64 0] 24)).alloc (.cells #[.int .u64 (L 0 (a + b)), .int .u64 (L 1 (a + b)), .int .u64 (L 2 (a + b)), .int .u64 0] 24)).drewN n) ∨ (s8 = .int .i64 4 ∧ s7 = .bool (cb a b 4) ∧ ∃ n, w' = ((((w.alloc (.cells #[.int .u64 (L 0 a), .int .u64 (L 1 a), .int .u64 (L 2 a), .int .u64 (L 3 a)] 24)).alloc (.cells #[.int .u64 (L 0 b), .int .u64 (L 1 b), .int .u64 (L 2 b), .int .u64 (L 3 b)] 24)).alloc (.cells #[.int .u64 0, .int .u64 0, .int .u64 0, .int .u64 0] 24)).alloc (.cells #[.int .u64 (L 0 (a + b)), .int .u64 (L 1 (a + b)), .int .u64 (L 2 (a + b)), .int .u64 (L 3 (a + b))] 24)).drewN n)) (fun _ s8 _ => 4 - (intOf s8).toNat)
  case atStart => exact Or.inl ⟨rfl, rfl, 0, rfl⟩
  case round =>
    rcases hrel with ⟨rfl, rfl, n, rfl⟩ | ⟨rfl, rfl, n, rfl⟩ | ⟨rfl, rfl, n, rfl⟩ | ⟨rfl, rfl, n, rfl⟩ | ⟨rfl, rfl, n, rfl⟩
    · have q1 := ref_add_0 a b 0 (cb_zero a b)
      have q2 : decide (L 0 (a + b) < L 0 a) = cb a b 1 := ref_add_o0 a b 0 (cb_zero a b)
      go_wp2
      go_quiet (fail)
      go_wp2
      exact ⟨Or.inr (Or.inl ⟨rfl, (by first | rfl | exact congrArg Value.bool q3.symm), n + nq, set_out (by simp) _ _ _ _ _⟩), by simp [intOf]⟩
    · cases hcb : cb a b 1
      · have q1 := ref_add_0 a b 1 hcb
        have q2 : decide (L 1 (a + b) < L 1 a) = cb a b 2 := ref_add_o0 a b 1 hcb
        go_wp2
        go_quiet (fail)
        go_wp2
        exact ⟨Or.inr (Or.inr (Or.inl ⟨rfl, (by first | rfl | exact congrArg Value.bool q3.symm), n + nq, set_out (by simp) _ _ _ _ _⟩)), by simp [intOf]⟩
      · have q1 := ref_add_1 a b 1 hcb
        have q2 := ref_add_o1 a b 1 hcb
        by_cases o : IntKind.u64.wrap (L 1 a + L 1 b) < L 1 a
        · have q3 : cb a b 2 = true := by rw [← q2]; simp [o]
          clear q2
          go_wp2
          go_quiet (fail)
          go_wp2
          exact ⟨Or.inr (Or.inr (Or.inl ⟨rfl, (by first | rfl | exact congrArg Value.bool q3.symm), n + nq, set_out (by simp) _ _ _ _ _⟩)), by simp [intOf]⟩
        · have o2 : decide (IntKind.u64.wrap (L 1 a + L 1 b) < L 1 a) = false := by simpa using o
          have q3 : (L 1 (a + b) == 0) = cb a b 2 := by rw [o2, Bool.false_or] at q2; exact q2
          clear q2
          go_wp2
          go_quiet (fail)
          go_wp2
          exact ⟨Or.inr (Or.inr (Or.inl ⟨rfl, (by first | rfl | exact congrArg Value.bool q3.symm), n + nq, set_out (by simp) _ _ _ _ _⟩)), by simp [intOf]⟩
    · cases hcb : cb a b 2
      · have q1 := ref_add_0 a b 2 hcb
        have q2 : decide (L 2 (a + b) < L 2 a) = cb a b 3 := ref_add_o0 a b 2 hcb
        go_wp2
        go_quiet (fail)
        go_wp2
        exact ⟨Or.inr (Or.inr (Or.inr (Or.inl ⟨rfl, (by first | rfl | exact congrArg Value.bool q3.symm), n + nq, set_out (by simp) _ _ _ _ _⟩))), by simp [intOf]⟩
      · have q1 := ref_add_1 a b 2 hcb
        have q2 := ref_add_o1 a b 2 hcb
        by_cases o : IntKind.u64.wrap (L 2 a + L 2 b) < L 2 a
        · have q3 : cb a b 3 = true := by rw [← q2]; simp [o]
          clear q2
          go_wp2
          go_quiet (fail)
          go_wp2
          exact ⟨Or.inr (Or.inr (Or.inr (Or.inl ⟨rfl, (by first | rfl | exact congrArg Value.bool q3.symm), n + nq, set_out (by simp) _ _ _ _ _⟩))), by simp [intOf]⟩
        · have o2 : decide (IntKind.u64.wrap (L 2 a + L 2 b) < L 2 a) = false := by simpa using o
          have q3 : (L 2 (a + b) == 0) = cb a b 3 := by rw [o2, Bool.false_or] at q2; exact q2
          clear q2
          go_wp2
          go_quiet (fail)
          go_wp2
          exact ⟨Or.inr (Or.inr (Or.inr (Or.inl ⟨rfl, (by first | rfl | exact congrArg Value.bool q3.symm), n + nq, set_out (by simp) _ _ _ _ _⟩))), by simp [intOf]⟩
    · cases hcb : cb a b 3
      · have q1 := ref_add_0 a b 3 hcb
        have q2 : decide (L 3 (a + b) < L 3 a) = cb a b 4 := ref_add_o0 a b 3 hcb
        go_wp2
        go_quiet (fail)
        go_wp2
        exact ⟨Or.inr (Or.inr (Or.inr (Or.inr (⟨rfl, (by first | rfl | exact congrArg Value.bool q3.symm), n + nq, set_out (by simp) _ _ _ _ _⟩)))), by simp [intOf]⟩
      · have q1 := ref_add_1 a b 3 hcb
        have q2 := ref_add_o1 a b 3 hcb
        by_cases o : IntKind.u64.wrap (L 3 a + L 3 b) < L 3 a
        · have q3 : cb a b 4 = true := by rw [← q2]; simp [o]
          clear q2
          go_wp2
          go_quiet (fail)
          go_wp2
          exact ⟨Or.inr (Or.inr (Or.inr (Or.inr (⟨rfl, (by first | rfl | exact congrArg Value.bool q3.symm), n + nq, set_out (by simp) _ _ _ _ _⟩)))), by simp [intOf]⟩
        · have o2 : decide (IntKind.u64.wrap (L 3 a + L 3 b) < L 3 a) = false := by simpa using o
          have q3 : (L 3 (a + b) == 0) = cb a b 4 := by rw [o2, Bool.false_or] at q2; exact q2
          clear q2
          go_wp2
          go_quiet (fail)
          go_wp2
          exact ⟨Or.inr (Or.inr (Or.inr (Or.inr (⟨rfl, (by first | rfl | exact congrArg Value.bool q3.symm), n + nq, set_out (by simp) _ _ _ _ _⟩)))), by simp [intOf]⟩
    · go_wp2
      go_returns
      refine ⟨rfl, ?_⟩
      repeat' (first | (with_reducible exact Below.refl _ _) | (with_reducible refine K.drewN ?_ _) | (with_reducible refine K.drew ?_) | (with_reducible refine K.alloc ?_ _) | (with_reducible refine K.set ?_ ?_ _) | (simp; done) | (simp; omega))
end Go.Proofs.YtolehamdaceikaaDoor
