/- Operations that a state tells by itself: one look for all of them. -/
import Derived.Test.YtlpjdhoboebbfaaDoorVWalk
namespace Go.Proofs.YtlpjdhoboebbfaaDoor
open Go.RowKit

/-- What is to be known of a type. -/
structure TyE : Type where
  row : Bool
  size : Nat
  zero : Option (List Value)
  flds : List Nat
  arr : Option (Nat × Nat)
def lkT : List (TypeId × TyE) → TypeId → Option TyE
  | [], _ => none
  | q :: r, t => bif Nat.beq q.1 t then some q.2 else lkT r t
structure TyOk (P : Program) (t : TypeId) (e : TyE) : Prop where
  desc : ∃ d, P.underlying t = some d ∧ d.isRow = e.row
  size : (P.info? t).map (·.size) = some e.size
  zero : ∀ z, e.zero = some z → ∃ v, (P.info? t).map (·.zero) = some (some v) ∧ z = v.cells.toList
  fld : ∀ (i : Nat) (off : Nat), e.flds[i]? = some off → ∃ (fs : Array Field) (f : Field) (k : Nat), P.underlying t = some (.struct fs) ∧ fs[i]? = some f ∧ f.offset = off ∧ (P.info? f.type).map (·.size) = some (k + 1)
  arr : ∀ (len z : Nat), e.arr = some (len, z) → ∃ el, P.underlying t = some (.array len el) ∧ (P.info? el).map (·.size) = some z
def AllT (P : Program) : List (TypeId × TyE) → Prop
  | [] => True
  | q :: r => TyOk P q.1 q.2 ∧ AllT P r
theorem AllT.at {P : Program} : ∀ {tt : List (TypeId × TyE)}, AllT P tt → ∀ {t : TypeId} {e : TyE}, lkT tt t = some e → TyOk P t e
  | [], _, _, _, h => by cases h
  | q :: r, hl, t, e, h => by
    rw [lkT] at h
    cases hb : Nat.beq q.1 t with
    | true =>
      simp only [hb, cond_true, Option.some.injEq] at h
      rw [← Nat.eq_of_beq_eq_true hb, ← h]
      exact hl.1
    | false =>
      simp only [hb, cond_false] at h
      exact AllT.at hl.2 h
section
variable (tt : List (TypeId × TyE)) (lo : Operand → Option SV) (lm : Nat → Option (Option (List Value)))
def aMove (d : Option Nat) (x : Operand) : Option OE := match d, lo x with
  | some d, some ⟨v, none, none, none⟩ => some (eS d (.val v))
  | some d, some ⟨v, some (y, c), k, none⟩ => match lm y with
    | some (some _) => some (eS d ⟨v, some (y, c), k, none⟩)
    | _ => none
  | _, _ => none
def aLoad (d : Option Nat) (ty : TypeId) (x : Operand) : Option OE := match d, lo x, lkT tt ty with
  | some d, some ⟨.tuple ⟨[]⟩, some (y, off), none, none⟩, some e => match lm y with
    | some (some cs) => match e.row with
      | true => bif Nat.ble (off + e.size) cs.length then some (eS d (.val (.agg ((cs.drop off).take e.size).toArray))) else none
      | false => match cs[off]? with
        | some v => some (eS d (.val v))
        | none => none
    | _ => none
  | _, _, _ => none
def aStore (d : Option Nat) (ty : TypeId) (x z : Operand) : Option OE := match d, lo x, lkT tt ty, lo z with
  | none, some ⟨.tuple ⟨[]⟩, some (y, off), none, none⟩, some e, some ⟨v, none, none, none⟩ => match lm y, e.row, v with
    | some (some cs), true, .agg ⟨vs⟩ => bif Nat.ble (off + vs.length) cs.length && Nat.beq vs.length e.size && vs.all (·.oneCell') then some (eM y (splice cs off vs)) else none
    | some (some cs), false, v => bif Nat.ble (off + 1) cs.length && Nat.beq e.size 1 && v.oneCell' then some (eM y (splice cs off [v])) else none
    | _, _, _ => none
  | _, _, _, _ => none
def aAlloc (d : Option Nat) (ty : TypeId) : Option OE := match d, lkT tt ty with
  | some d, some e => match lm d, e.zero with
    | some none, some z => some (eN d z)
    | _, _ => none
  | _, _ => none
def aBox (d : Option Nat) (x : Operand) : Option OE := match d, lo x with
  | some d, some ⟨v, none, none, none⟩ => match lm d with
    | some none => some (eN d v.cells.toList)
    | _ => none
  | _, _ => none
def aField (d : Option Nat) (ty : TypeId) (x : Operand) (i : Nat) : Option OE := match d, lo x, lkT tt ty with
  | some d, some ⟨.tuple ⟨[]⟩, some (y, off), none, none⟩, some e => match lm y, e.flds[i]? with
    | some (some _), some o => some (eS d (.ptr y (off + o)))
    | _, _ => none
  | _, _, _ => none
def aAt (d : Option Nat) (ty : TypeId) (x ix : Operand) : Option OE := match d, lo x, lkT tt ty, lo ix with
  | some d, some ⟨.tuple ⟨[]⟩, some (y, off), none, none⟩, some e, some ⟨.int _ (.ofNat k), none, none, none⟩ => match lm y, e.arr with
    | some (some _), some (len, z) => bif Nat.blt k len then some (eS d (.ptr y (off + k * z))) else none
    | _, _ => none
  | _, _, _, _ => none
def aPart (d : Option Nat) (x : Operand) (k : Nat) : Option OE := match d, lo x with
  | some d, some ⟨.tuple ⟨vs⟩, none, none, none⟩ => match vs[k]? with
    | some v => some (eS d (.val v))
    | none => none
  | _, _ => none
def aPick (d : Option Nat) (c x y : Operand) : Option OE := match d, lo c, lo x, lo y with
  | some d, some ⟨.bool t, none, none, none⟩, some ⟨vx, none, none, none⟩, some ⟨vy, none, none, none⟩ => some (eS d (.val (bif t then vx else vy)))
  | _, _, _, _ => none
def aNot (d : Option Nat) (x : Operand) : Option OE := match d, lo x with
  | some d, some ⟨.bool t, none, none, none⟩ => some (eS d (.val (.bool (!t))))
  | _, _ => none
def aOp (o : Oper) : Option OE := match o.op with
  | .move x => aMove lo lm o.dst x
  | .assign x => aMove lo lm o.dst x
  | .load ty x => aLoad tt lo lm o.dst ty x
  | .store ty x z => aStore tt lo lm o.dst ty x z
  | .alloc ty => aAlloc tt lm o.dst ty
  | .box _ x => aBox lo lm o.dst x
  | .fieldAddr ty x i => aField tt lo lm o.dst ty x i
  | .indexAddr ty x ix => aAt tt lo lm o.dst ty x ix
  | .extract x k => aPart lo o.dst x k
  | .pick c x y => aPick lo o.dst c x y
  | .unOp .not _ x => aNot lo o.dst x
  | _ => none
/-- The same, where it hangs on another's answer. -/
def aGd (n : Nat) (ops : Array Oper) (o : Oper) : Option OE := match o.guard with
  | none => aOp tt lo lm o
  | some (j, b) => match (ops[j]?).bind (·.dst) with
    | some d => bif Nat.blt d n then (match lo (.tmp d), o.dst with
      | some ⟨.bool c, none, none, none⟩, _ => bif c == b then aOp tt lo lm o else (match o.dst with
        | some dd => some (eS dd (.val undef))
        | none => none)
      | some ⟨.tuple ⟨[]⟩, none, none, none⟩, some dd => some (eS dd (.val undef))
      | _, _ => none) else none
    | none => none
end
section
variable {P : Program} {W : Bs} {n : Nat} {ops : Array Oper} {i : Nat} {o : Oper} {L : Nat → Bool} {xs : List OE} {σ : SS} {tt : List (TypeId × TyE)} {e : OE}
theorem a_move (u : Up ops i o L) (hg : Gd ops n o (run L 0 xs σ)) {x : Operand} (ho : o.op = .move x ∨ o.op = .assign x) (h : aMove (lookO n ops i o xs σ) (fun y => lookM (deps o) i 0 ops.toList xs y (some (σ.m y))) o.dst x = some e) : GStep P W n ops o (run L 0 xs σ) (e.app (run L 0 xs σ)) := by
  unfold aMove at h
  split at h
  · rename_i d v hd hx
    cases h
    exact u_move u hg d hd x ho hx
  · rename_i d v y c k hd hx
    split at h
    · rename_i cs hm
      cases h
      exact u_copy u hg d hd x ho hx (fun y' c' hp => by cases hp; exact ⟨cs, hm⟩)
    · cases h
  · cases h
theorem a_load (hT : AllT P tt) (u : Up ops i o L) (hg : Gd ops n o (run L 0 xs σ)) {ty : TypeId} {x : Operand} (ho : o.op = .load ty x) (h : aLoad tt (lookO n ops i o xs σ) (fun y => lookM (deps o) i 0 ops.toList xs y (some (σ.m y))) o.dst ty x = some e) : GStep P W n ops o (run L 0 xs σ) (e.app (run L 0 xs σ)) := by
  unfold aLoad at h
  split at h
  · rename_i d y off t hd hx ht
    obtain ⟨⟨td, hu, hr⟩, hs, _, _, _⟩ := hT.at ht
    split at h
    · rename_i cs hm
      split at h
      · rename_i hrow
        rw [hrow] at hr
        cases hb : Nat.ble (off + t.size) cs.length with
        | false => simp [hb] at h
        | true =>
          simp only [hb, cond_true, Option.some.injEq] at h
          rw [← h]
          exact u_load u hg d hd ty x ho hx hm hu hr hs (Nat.le_of_ble_eq_true hb) _ rfl
      · rename_i hrow
        rw [hrow] at hr
        split at h
        · rename_i v hv
          cases h
          exact u_load1 u hg d hd ty x ho hx hm hu hr v hv
        · cases h
    · cases h
  · cases h
theorem a_store (hT : AllT P tt) (u : Up ops i o L) (hg : Gd ops n o (run L 0 xs σ)) {ty : TypeId} {x z : Operand} (ho : o.op = .store ty x z) (h : aStore tt (lookO n ops i o xs σ) (fun y => lookM (deps o) i 0 ops.toList xs y (some (σ.m y))) o.dst ty x z = some e) : GStep P W n ops o (run L 0 xs σ) (e.app (run L 0 xs σ)) := by
  unfold aStore at h
  split at h
  · rename_i y off t v hd hx ht hz
    obtain ⟨_, hs, _, _, _⟩ := hT.at ht
    split at h
    · rename_i cs vs hm hrow
      cases hb : (Nat.ble (off + vs.length) cs.length && Nat.beq vs.length t.size && vs.all (·.oneCell')) with
      | false => simp [hb] at h
      | true =>
        simp only [hb, cond_true, Option.some.injEq] at h
        simp only [Bool.and_eq_true] at hb
        rw [← h]
        exact u_store u hg ty x z ho hd hx (vs := vs) hz hm (by rw [hs, Nat.eq_of_beq_eq_true hb.1.2]) (Nat.le_of_ble_eq_true hb.1.1) hb.2 _ rfl
    · rename_i v _ _ _ cs hm hrow
      cases hb : (Nat.ble (off + 1) cs.length && Nat.beq t.size 1 && v.oneCell') with
      | false => simp [hb] at h
      | true =>
        simp only [hb, cond_true, Option.some.injEq] at h
        simp only [Bool.and_eq_true] at hb
        rw [← h]
        exact u_store1 u hg ty x z ho hd hx hz hm (by rw [hs, Nat.eq_of_beq_eq_true hb.1.2]) (Nat.le_of_ble_eq_true hb.1.1) hb.2 _ rfl
    · cases h
  · cases h
theorem a_alloc (hT : AllT P tt) (u : Up ops i o L) (hg : Gd ops n o (run L 0 xs σ)) {ty : TypeId} (ho : o.op = .alloc ty) (h : aAlloc tt (fun y => lookM (deps o) i 0 ops.toList xs y (some (σ.m y))) o.dst ty = some e) : GStep P W n ops o (run L 0 xs σ) (e.app (run L 0 xs σ)) := by
  unfold aAlloc at h
  split at h
  · rename_i d t hd ht
    obtain ⟨_, _, hz, _, _⟩ := hT.at ht
    split at h
    · rename_i z hm hz0
      cases h
      obtain ⟨v, h1, h2⟩ := hz z hz0
      exact u_alloc u hg ty ho d hd hm h1 _ h2
    · cases h
  · cases h
theorem a_box (u : Up ops i o L) (hg : Gd ops n o (run L 0 xs σ)) {ty : TypeId} {x : Operand} (ho : o.op = .box ty x) (h : aBox (lookO n ops i o xs σ) (fun y => lookM (deps o) i 0 ops.toList xs y (some (σ.m y))) o.dst x = some e) : GStep P W n ops o (run L 0 xs σ) (e.app (run L 0 xs σ)) := by
  unfold aBox at h
  split at h
  · rename_i d v hd hx
    split at h
    · rename_i hm
      cases h
      exact u_box u hg ty x ho d hd hm hx _ rfl
    · cases h
  · cases h
theorem a_field (hT : AllT P tt) (u : Up ops i o L) (hg : Gd ops n o (run L 0 xs σ)) {ty : TypeId} {x : Operand} {f : Nat} (ho : o.op = .fieldAddr ty x f) (h : aField tt (lookO n ops i o xs σ) (fun y => lookM (deps o) i 0 ops.toList xs y (some (σ.m y))) o.dst ty x f = some e) : GStep P W n ops o (run L 0 xs σ) (e.app (run L 0 xs σ)) := by
  unfold aField at h
  split at h
  · rename_i d y off t hd hx ht
    obtain ⟨_, _, _, hf, _⟩ := hT.at ht
    split at h
    · rename_i cs k hm hk
      cases h
      obtain ⟨fs, fd, k, h1, h2, h3, h4⟩ := hf f _ hk
      exact u_field u hg d hd ty x f ho hx hm h1 h2 h4 _ (by rw [h3])
    · cases h
  · cases h
theorem a_at (hT : AllT P tt) (u : Up ops i o L) (hg : Gd ops n o (run L 0 xs σ)) {ty : TypeId} {x ix : Operand} (ho : o.op = .indexAddr ty x ix) (h : aAt tt (lookO n ops i o xs σ) (fun y => lookM (deps o) i 0 ops.toList xs y (some (σ.m y))) o.dst ty x ix = some e) : GStep P W n ops o (run L 0 xs σ) (e.app (run L 0 xs σ)) := by
  unfold aAt at h
  split at h
  · rename_i d y off t kd k hd hx ht hi
    obtain ⟨_, _, _, _, ha⟩ := hT.at ht
    split at h
    · rename_i cs len z hm hk
      cases hb : Nat.blt k len with
      | false => simp [hb] at h
      | true =>
        simp only [hb, cond_true, Option.some.injEq] at h
        rw [← h]
        obtain ⟨el, h1, h2⟩ := ha len z hk
        exact u_at u hg d hd ty x ix ho hx hm (k := k) hi h1 h2 (Nat.blt_eq ▸ hb) _ rfl
    · cases h
  · cases h
theorem a_part (u : Up ops i o L) (hg : Gd ops n o (run L 0 xs σ)) {x : Operand} {k : Nat} (ho : o.op = .extract x k) (h : aPart (lookO n ops i o xs σ) o.dst x k = some e) : GStep P W n ops o (run L 0 xs σ) (e.app (run L 0 xs σ)) := by
  unfold aPart at h
  split at h
  · rename_i d vs hd hx
    split at h
    · rename_i v hv
      cases h
      exact u_part u hg d hd x k ho (vs := vs) hx v hv
    · cases h
  · cases h
theorem a_pick (u : Up ops i o L) (hg : Gd ops n o (run L 0 xs σ)) {c x y : Operand} (ho : o.op = .pick c x y) (h : aPick (lookO n ops i o xs σ) o.dst c x y = some e) : GStep P W n ops o (run L 0 xs σ) (e.app (run L 0 xs σ)) := by
  unfold aPick at h
  split at h
  · rename_i d t vx vy hd hc hx hy
    cases h
    exact u_pick u hg d hd c x y ho hc hx hy _ rfl
  · cases h
theorem a_not (u : Up ops i o L) (hg : Gd ops n o (run L 0 xs σ)) {ty : TypeId} {x : Operand} (ho : o.op = .unOp .not ty x) (h : aNot (lookO n ops i o xs σ) o.dst x = some e) : GStep P W n ops o (run L 0 xs σ) (e.app (run L 0 xs σ)) := by
  unfold aNot at h
  split at h
  · rename_i d t hd hx
    cases h
    exact u_not u hg d hd ty x ho hx _ rfl
  · cases h
theorem a_op (hT : AllT P tt) (u : Up ops i o L) (hg : Gd ops n o (run L 0 xs σ)) (h : aOp tt (lookO n ops i o xs σ) (fun y => lookM (deps o) i 0 ops.toList xs y (some (σ.m y))) o = some e) : GStep P W n ops o (run L 0 xs σ) (e.app (run L 0 xs σ)) := by
  unfold aOp at h
  split at h
  · rename_i x ho; exact a_move u hg (Or.inl ho) h
  · rename_i x ho; exact a_move u hg (Or.inr ho) h
  · rename_i ty x ho; exact a_load hT u hg ho h
  · rename_i ty x z ho; exact a_store hT u hg ho h
  · rename_i ty ho; exact a_alloc hT u hg ho h
  · rename_i ty x ho; exact a_box u hg ho h
  · rename_i ty x f ho; exact a_field hT u hg ho h
  · rename_i ty x ix ho; exact a_at hT u hg ho h
  · rename_i x k ho; exact a_part u hg ho h
  · rename_i c x y ho; exact a_pick u hg ho h
  · rename_i ty x ho; exact a_not u hg ho h
  · cases h
/-- An operation that the state tells by itself. -/
theorem u_auto (hT : AllT P tt) (u : Up ops i o L) (h : aGd tt (lookO n ops i o xs σ) (fun y => lookM (deps o) i 0 ops.toList xs y (some (σ.m y))) n ops o = some e) : GStep P W n ops o (run L 0 xs σ) (e.app (run L 0 xs σ)) := by
  unfold aGd at h
  split at h
  · rename_i hgd
    exact a_op hT u (gd0 hgd) h
  · rename_i j b hgd
    split at h
    · rename_i d hd
      cases hn : Nat.blt d n with
      | false => simp [hn] at h
      | true =>
        have hn' : d < n := Nat.blt_eq ▸ hn
        simp only [hn, cond_true] at h
        split at h
        · rename_i c hc
          cases hb : (c == b) with
          | true =>
            simp only [hb, cond_true] at h
            have e : c = b := by simpa using hb
            subst e
            exact a_op hT u (gd1 u j c hgd d hd hn' hc) h
          | false =>
            simp only [hb, cond_false] at h
            have e : c = !b := by cases c <;> cases b <;> simp_all
            subst e
            split at h
            · rename_i dd hdd
              cases h
              exact u_no u j b hgd d hd hn' hc dd hdd
            · cases h
        · rename_i dd hc hdd
          cases h
          exact u_noU u j b hgd d hd hn' hc dd hdd
        · cases h
    · cases h
/-- Each operation's step: the state's own look, or (ks) a proof. -/
def AllA (P : Program) (W : Bs) (n : Nat) (tt : List (TypeId × TyE)) (ks : List Nat) (ops : Array Oper) (xs : List OE) (σ : SS) : Nat → List Oper → List OE → Prop
  | _, [], _ => True
  | _, _ :: _, [] => False
  | i, o :: os, x :: r => (match has ks i with
    | false => aGd tt (lookO n ops i o xs σ) (fun y => lookM (deps o) i 0 ops.toList xs y (some (σ.m y))) n ops o = some x
    | true => ∀ L, Up ops i o L → GStep P W n ops o (run L 0 xs σ) (x.app (run L 0 xs σ))) ∧ AllA P W n tt ks ops xs σ (i + 1) os r
theorem AllA.st {ks : List Nat} (hT : AllT P tt) : ∀ {i : Nat} {os : List Oper} {r : List OE}, AllA P W n tt ks ops xs σ i os r → AllSt P W n ops xs σ i os r
  | _, [], _, _ => trivial
  | _, _ :: _, [], h => h
  | i, o :: os, x :: r, h => by
    refine ⟨fun L u => ?_, AllA.st hT h.2⟩
    have h1 := h.1
    cases ha : has ks i with
    | false => rw [ha] at h1; exact u_auto hT u h1
    | true => rw [ha] at h1; exact h1 L u
end
theorem a_region {y : Code} {P : Program} {W : Bs} {n : Nat} {tt : List (TypeId × TyE)} (hT : AllT P tt) {id : Nat} {ops : Array Oper} {b : Bool} {Q : Exit → Act → World → Prop} {σ : SS} {a : Act} {w : World} (h : Rp W n σ a w) (hm : P.follows .mixedOrders = true) (ks : List Nat) (xs : List OE) (hok : orderOk ops xs = true)
    (hstep : AllA P W n tt ks ops xs σ 0 ops.toList xs) (s : List (Nat × SV)) (m : List (Nat × List Value)) (h1 : AllS (run (fun _ => true) 0 xs σ).s s) (h2 : AllM (run (fun _ => true) 0 xs σ).m m) (h3 : aimed m s = true) (hk : ∀ a' w', Rp W n (SS.mk' s m) a' w' → y.wp P Q a' w') : (Code.seq (Code.region id ops b) y).wp P Q a w := go_region h hm xs hok (hstep.st hT) s m h1 h2 h3 hk
theorem a_end {P : Program} {W : Bs} {n : Nat} {tt : List (TypeId × TyE)} (hT : AllT P tt) {id : Nat} {ops : Array Oper} {b : Bool} {Q : Exit → Act → World → Prop} {σ : SS} {a : Act} {w : World} (h : Rp W n σ a w) (hm : P.follows .mixedOrders = true) (ks : List Nat) (xs : List OE) (hok : orderOk ops xs = true)
    (hstep : AllA P W n tt ks ops xs σ 0 ops.toList xs) (s : List (Nat × SV)) (m : List (Nat × List Value)) (h1 : AllS (run (fun _ => true) 0 xs σ).s s) (h2 : AllM (run (fun _ => true) 0 xs σ).m m) (h3 : aimed m s = true) (hk : ∀ a' w', Rp W n (SS.mk' s m) a' w' → Q .normal a' w') : (Code.region id ops b).wp P Q a w := go_end h hm xs hok (hstep.st hT) s m h1 h2 h3 hk
theorem a_regionQ {y : Code} {P : Program} {W : Bs} {n : Nat} {tt : List (TypeId × TyE)} (hT : AllT P tt) {id : Nat} {ops : Array Oper} {b : Bool} {Q : Exit → Act → World → Prop} {σ : SS} {a : Act} {w : World} (h : Rp W n σ a w) (hm : P.follows .mixedOrders = true) (ks : List Nat) (xs : List OE) (hok : orderOk ops xs = true)
    (hstep : AllA P W n tt ks ops xs σ 0 ops.toList xs) (s : List (Nat × SV)) (m : List (Nat × List Value)) (q : List (Nat × Pd)) (h1 : AllS (run (fun _ => true) 0 xs σ).s s) (h2 : AllM (run (fun _ => true) 0 xs σ).m m) (hq : AllQ (run (fun _ => true) 0 xs σ).q q) (h3 : aimQ m q s = true) (hk : ∀ a' w', Rp W n (SS.mkQ s m q) a' w' → y.wp P Q a' w') : (Code.seq (Code.region id ops b) y).wp P Q a w := go_regionQ h hm xs hok (hstep.st hT) s m q h1 h2 hq h3 hk
theorem a_endQ {P : Program} {W : Bs} {n : Nat} {tt : List (TypeId × TyE)} (hT : AllT P tt) {id : Nat} {ops : Array Oper} {b : Bool} {Q : Exit → Act → World → Prop} {σ : SS} {a : Act} {w : World} (h : Rp W n σ a w) (hm : P.follows .mixedOrders = true) (ks : List Nat) (xs : List OE) (hok : orderOk ops xs = true)
    (hstep : AllA P W n tt ks ops xs σ 0 ops.toList xs) (s : List (Nat × SV)) (m : List (Nat × List Value)) (q : List (Nat × Pd)) (h1 : AllS (run (fun _ => true) 0 xs σ).s s) (h2 : AllM (run (fun _ => true) 0 xs σ).m m) (hq : AllQ (run (fun _ => true) 0 xs σ).q q) (h3 : aimQ m q s = true) (hk : ∀ a' w', Rp W n (SS.mkQ s m q) a' w' → Q .normal a' w') : (Code.region id ops b).wp P Q a w := go_endQ h hm xs hok (hstep.st hT) s m q h1 h2 hq h3 hk
end Go.Proofs.YtlpjdhoboebbfaaDoor
