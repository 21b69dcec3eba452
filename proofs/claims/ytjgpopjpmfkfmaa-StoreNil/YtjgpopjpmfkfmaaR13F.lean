/- Layer 13: both disks side by side; a call on both. -/
import Derived.Test.YtjgpopjpmfkfmaaR13E
namespace Go.Proofs.Ytjgpopjpmfkfmaa
set_option maxRecDepth 100000
open Go.RowKit Go.Maps
attribute [local go_sem ↓] Go.wp_at_zero Go.wp_at_succ

structure TwR (w wr : World) (b lb mb r la na cl cn : Nat) (zl zn : Option Addr) (D E : DM) (G : Nat → Bool) : Prop where
  f : FzR w wr b lb mb D
  g : RDk wr r la na cl cn zl zn E G
  q : ∀ k, G k = true → w.heap.size ≤ k ∧ X3 b lb mb k = false
section
variable {w wr w' : World} {b lb mb r la na cl cn : Nat} {zl zn : Option Addr} {D E D' E' : DM} {G G' : Nat → Bool}
theorem FzR.lt3 (h : FzR w wr b lb mb D) {q : Nat} (hq : X3 b lb mb q = true) : q < wr.heap.size := by
  have h1 := h.d.bl
  have h2 := h.d.ll
  have h3 := h.d.mp.lt
  rcases X3_of.1 hq with e | e | e <;> omega
theorem TwR.call1 (h : TwR w wr b lb mb r la na cl cn zl zn D E G) (hD : Dsk w' b lb mb D') (hK : Kp (X3 b lb mb) wr w') : TwR w w' b lb mb r la na cl cn zl zn D' E G :=
  ⟨h.f.next hD hK, h.g.same hK.size (fun k hk => hK.block k (h.g.gl k hk) (h.q k hk).2), h.q⟩
theorem TwR.ap (h : TwR w wr b lb mb r la na cl cn zl zn D E G) {k : Nat} (hk : X3 b lb mb k = true) : X3 r la na k = false := by
  cases hx : X3 r la na k with
  | false => rfl
  | true =>
    have := (h.q k (h.g.gx k hx)).2
    rw [hk] at this
    cases this
theorem TwR.call2 (h : TwR w wr b lb mb r la na cl cn zl zn D E G) (hR : RDk w' r la na cl cn zl zn E' G') (hK : Kp (X3 r la na) wr w') (hG : ∀ k, G' k = true → G k = true ∨ wr.heap.size ≤ k) : TwR w w' b lb mb r la na cl cn zl zn D E' G' := by
  have g1 := (h.q r (h.g.gx r (X3_of.2 (Or.inl rfl)))).1
  have g2 := (h.q la (h.g.gx la (X3_of.2 (Or.inr (Or.inl rfl))))).1
  have g3 := (h.q na (h.g.gx na (X3_of.2 (Or.inr (Or.inr rfl))))).1
  refine ⟨⟨h.f.d.same hK.size (fun k hk => hK.block k (h.f.lt3 hk) (h.ap hk)), h.f.b, h.f.l, h.f.m, Kp.own g1 g2 g3 h.f.k hK⟩, hR, fun k hk => ?_⟩
  rcases hG k hk with h' | h'
  · exact h.q k h'
  · exact ⟨Nat.le_trans h.f.k.size h', h.f.out h'⟩
theorem TwR.grow (h : TwR w wr b lb mb r la na cl cn zl zn D E G) (hB : Below wr.heap.size wr w') : TwR w w' b lb mb r la na cl cn zl zn D E G :=
  ⟨h.f.grow hB, h.g.same hB.size (fun k hk => hB.block k (h.g.gl k hk)), h.q⟩
theorem TwR.old (h : TwR w wr b lb mb r la na cl cn zl zn D E G) {k : Nat} (hk : k < w.heap.size) : X3 r la na k = false := by
  cases hx : X3 r la na k with
  | false => rfl
  | true => have := (h.q k (h.g.gx k hx)).1; omega
theorem TwR.baA (h : TwR w wr b lb mb r la na cl cn zl zn D E G) {x : Option Addr} {m : Nat} {f : Nat → Nat} (hb : BA w x m f) : 0 < m → ∀ p, x = some p → X3 r la na p.block = false := fun hm p hp => by
  rcases hb.at_ with h0 | ⟨q, o, e, hr⟩
  · omega
  · rw [hp] at e
    obtain rfl := Option.some.inj e
    exact h.old (World.block_lt_of_cell? w _ (hr.c 0 hm))
theorem TwR.kbA (h : TwR w wr b lb mb r la na cl cn zl zn D E G) {z : Option Addr} {K : List Bool} (hk : Kb w z K) : K ≠ [] → ∀ p, z = some p → X3 r la na p.block = false := fun hK p hp => by
  rcases hk with h0 | ⟨q, o, e, hr⟩
  · exact absurd h0 hK
  · rw [hp] at e
    obtain rfl := Option.some.inj e
    cases K with
    | nil => exact absurd rfl hK
    | cons x r => exact h.old (World.block_lt_of_cell? w _ (hr 0 x rfl))
end
theorem ba_zero (w : World) (x : Option Addr) : BA w x 0 (fun _ => 0) := ⟨fun _ => by decide, Or.inl rfl⟩
theorem rdB_ok {D : DM} (h : D.ok) (i : Int) : D.rdB i = [] ∨ sec (D.rdB i) := by
  unfold DM.rdB
  split
  · exact Or.inl rfl
  · split
    · exact Or.inr (DM.cur_sec h _)
    · exact Or.inl rfl
theorem nb_ba {w w' : World} {v : Value} {l : List Nat} (h : NewB w w' v l) (hl : l = [] ∨ sec l) : ∃ a n c f, v = .slice a n c ∧ BA w' a n f ∧ fl f n = l ∧ n ≤ 64 := by
  rcases h with ⟨rfl, rfl⟩ | ⟨g, rfl, _, _, hr⟩
  · exact ⟨_, _, _, _, rfl, ba_zero _ _, rfl, by omega⟩
  · rcases hl with rfl | hl
    · exact ⟨_, _, _, _, rfl, ba_zero _ _, rfl, by simp⟩
    · exact ⟨_, _, _, _, by rw [hl.1], ba_sec hr hl, fl_of hl.1, Nat.le_refl _⟩
theorem rr_ba {w : World} {G : Nat → Bool} {r la na : Nat} {v : Value} {l : List Nat} (h : (l = [] ∧ v = .slice none 0 0) ∨ sec l ∧ Sl w G r la na v l) : ∃ a n c f, v = .slice a n c ∧ BA w a n f ∧ fl f n = l := by
  rcases h with ⟨rfl, rfl⟩ | ⟨hl, g, c, rfl, hr, _⟩
  · exact ⟨_, _, _, _, rfl, ba_zero _ _, rfl⟩
  · exact ⟨_, _, _, _, rfl, ba_sec hr hl, fl_of hl.1⟩
/-- What a call does to a disk. -/
def DM.dof (D : DM) (o : OpV) : DM := if o.kd = 1 then D.wr o.i (fl o.f o.m) else if o.kd = 2 then D.sy else if o.kd = 3 then D.fuse o.i else if o.kd = 4 then D.cr o.KL o.t o.a else D
def DoP (w : World) (b lb mb r la na cl cn : Nat) (zl zn : Option Addr) (D : DM) (e : Ending) (w' : World) : Prop := e = .returned (.bool true) ∧ ∃ G, TwR w w' b lb mb r la na cl cn zl zn D D G
end Go.Proofs.Ytjgpopjpmfkfmaa
