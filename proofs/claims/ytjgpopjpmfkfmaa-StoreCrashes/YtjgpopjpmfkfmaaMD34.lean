/- Layer 14: the document's own Load, Save and Mend, over its disk. Layer 14: the document's own Mend. Layer 13: the document's Crash. Layer 13: both disks side by side; a call on both. -/
import Derived.Test.YtjgpopjpmfkfmaaMD33
namespace Go.Proofs.Ytjgpopjpmfkfmaa
set_option maxRecDepth 100000
open Go.RowKit Go.Maps
attribute [local go_sem ↓] Go.wp_at_zero Go.wp_at_succ

section
variable {w w' : World} {r la na cl cn : Nat} {zl zn : Option Addr} {D : DM} {G G' : Nat → Bool}
theorem RDk.keep (h : RDk w r la na cl cn zl zn D G) (hB : Below w.heap.size w w') : RDk w' r la na cl cn zl zn D G := h.same hB.size (fun k hk => hB.block k (h.gl k hk))
theorem Sl.keep {v : Value} {l : List Nat} (h : Sl w G r la na v l) (hg : ∀ k, G k = true → k < w.heap.size) (hB : Below w.heap.size w w') : Sl w' G r la na v l := h.same (fun k hk _ => hB.block k (hg k hk))
theorem Sl.kp {v : Value} {l : List Nat} (h : Sl w G r la na v l) (hg : ∀ k, G k = true → k < w.heap.size) (hK : Kp (X3 r la na) w w') : Sl w' G r la na v l := h.same (fun k hk hx => hK.block k (hg k hk) hx)
theorem RDk.out (h : RDk w r la na cl cn zl zn D G) {g : Nat} (hg : w.heap.size ≤ g) : X3 r la na g = false := by
  cases hx : X3 r la na g with
  | false => rfl
  | true => have := h.gl g (h.gx g hx); omega
theorem Sl.ba {v : Value} {l : List Nat} (h : Sl w G r la na v l) (hl : sec l) : ∃ g c, v = .slice (some ⟨g, 0, none⟩) 64 c ∧ BA w (some ⟨g, 0, none⟩) 64 (fun i => l.getD i 0) ∧ X3 r la na g = false := by
  obtain ⟨g, c, e, h1, _, h3, _⟩ := h
  exact ⟨g, c, e, ba_sec h1 hl, h3⟩
end
/-- While the document's Save writes the three. -/
structure RsR (w wr : World) (r la na cl cn : Nat) (zl zn : Option Addr) (E : DM) (G G' : Nat → Bool) : Prop where
  d : RDk wr r la na cl cn zl zn E G'
  k : Kp (X3 r la na) w wr
  g : ∀ k, G' k = true → G k = true ∨ w.heap.size ≤ k
theorem RsR.grow {w wr w' : World} {r la na cl cn : Nat} {zl zn : Option Addr} {E : DM} {G G' : Nat → Bool} (h : RsR w wr r la na cl cn zl zn E G G') (hB : Below wr.heap.size wr w') : RsR w w' r la na cl cn zl zn E G G' := ⟨h.d.keep hB, h.k.trans (Kp.of hB), h.g⟩
theorem RsR.next {w wr w' : World} {r la na cl cn : Nat} {zl zn : Option Addr} {E E' : DM} {G G' G2 : Nat → Bool} (h : RsR w wr r la na cl cn zl zn E G G') (hd : RDk w' r la na cl cn zl zn E' G2) (hK : Kp (X3 r la na) wr w') (hg : ∀ k, G2 k = true → G' k = true ∨ wr.heap.size ≤ k) : RsR w w' r la na cl cn zl zn E' G G2 :=
  ⟨hd, h.k.trans hK, fun k hk => by
    rcases hg k hk with h1 | h1
    · exact h.g k h1
    · exact Or.inr (Nat.le_trans h.k.size h1)⟩
theorem RsR.post {w wr : World} {r la na cl cn : Nat} {zl zn : Option Addr} {E : DM} {G G' : Nat → Bool} (h : RsR w wr r la na cl cn zl zn E G G') {er : Int} {e : Ending} (he : e = .returned (.int .i64 er)) : RwP w r la na cl cn zl zn E G er e wr := ⟨he, G', h.d, h.k, h.g⟩
end Go.Proofs.Ytjgpopjpmfkfmaa
namespace Go.Proofs.Ytjgpopjpmfkfmaa
set_option maxRecDepth 100000
open Go.RowKit Go.Maps
attribute [local go_sem ↓] Go.wp_at_zero Go.wp_at_succ

theorem ba_kp {X : Nat → Bool} {w w' : World} {g n : Nat} {f : Nat → Nat} (h : BA w (some ⟨g, 0, none⟩) n f) (hx : X g = false) (hK : Kp X w w') : BA w' (some ⟨g, 0, none⟩) n f := h.kp (fun p hp => by cases hp; exact hx) hK
/-- While the three are mended. -/
structure RmR (w wr : World) (r la na cl cn gv : Nat) (zl zn : Option Addr) (E : DM) (G G' : Nat → Bool) (v : List Nat) : Prop where
  s : RsR w wr r la na cl cn zl zn E G G'
  b : BA wr (some ⟨gv, 0, none⟩) 64 (fun i => v.getD i 0)
  x : X3 r la na gv = false
theorem RmR.grow {w wr w' : World} {r la na cl cn gv : Nat} {zl zn : Option Addr} {E : DM} {G G' : Nat → Bool} {v : List Nat} (h : RmR w wr r la na cl cn gv zl zn E G G' v) (hB : Below wr.heap.size wr w') : RmR w w' r la na cl cn gv zl zn E G G' v := ⟨h.s.grow hB, h.b.keep hB, h.x⟩
theorem RmR.next {w wr w' : World} {r la na cl cn gv : Nat} {zl zn : Option Addr} {E E' : DM} {G G' G2 : Nat → Bool} {v : List Nat} (h : RmR w wr r la na cl cn gv zl zn E G G' v) (hd : RDk w' r la na cl cn zl zn E' G2) (hK : Kp (X3 r la na) wr w') (hg : ∀ k, G2 k = true → G' k = true ∨ wr.heap.size ≤ k) : RmR w w' r la na cl cn gv zl zn E' G G2 v := ⟨h.s.next hd hK hg, ba_kp h.b h.x hK, h.x⟩
end Go.Proofs.Ytjgpopjpmfkfmaa
namespace Go.Proofs.Ytjgpopjpmfkfmaa
set_option maxRecDepth 100000
open Go.RowKit Go.Maps
attribute [local go_sem ↓] Go.wp_at_zero Go.wp_at_succ

end Go.Proofs.Ytjgpopjpmfkfmaa
namespace Go.Proofs.Ytjgpopjpmfkfmaa
set_option maxRecDepth 100000
open Go.RowKit Go.Maps
attribute [local go_sem ↓] Go.wp_at_zero Go.wp_at_succ

structure TwR (w wr : World) (b lb mb r la na cl cn : Nat) (zl zn : Option Addr) (D E : DM) (G : Nat → Bool) : Prop where
  f : FzR w wr b lb mb D
  g : RDk wr r la na cl cn zl zn E G
  q : ∀ k, G k = true → w.heap.size ≤ k ∧ X3 b lb mb k = false
section
variable {w wr w' : World} {b lb mb r la na cl cn : Nat} {zl zn : Option Addr} {D E D' E' : DM} {G G' : Nat → Bool}
theorem TwR.ap (h : TwR w wr b lb mb r la na cl cn zl zn D E G) {k : Nat} (hk : X3 b lb mb k = true) : X3 r la na k = false := by
  cases hx : X3 r la na k with
  | false => rfl
  | true =>
    have := (h.q k (h.g.gx k hx)).2
    rw [hk] at this
    cases this
theorem TwR.grow (h : TwR w wr b lb mb r la na cl cn zl zn D E G) (hB : Below wr.heap.size wr w') : TwR w w' b lb mb r la na cl cn zl zn D E G :=
  ⟨h.f.grow hB, h.g.same hB.size (fun k hk => hB.block k (h.g.gl k hk)), h.q⟩
theorem TwR.old (h : TwR w wr b lb mb r la na cl cn zl zn D E G) {k : Nat} (hk : k < w.heap.size) : X3 r la na k = false := by
  cases hx : X3 r la na k with
  | false => rfl
  | true => have := (h.q k (h.g.gx k hx)).1; omega
end
end Go.Proofs.Ytjgpopjpmfkfmaa
