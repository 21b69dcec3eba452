/- Layer 15: the document's numbers in bytes, and its mark. Layer 13: the document's disk in memory; its small methods. Layer 13: the document's Read and Write. -/
import Derived.Test.YtjgpopjpmfkfmaaMD30
import Derived.Test.YtjgpopjpmfkfmaaMD28
namespace Go.Proofs.Ytjgpopjpmfkfmaa
set_option maxRecDepth 100000
open Go.RowKit Go.Maps
attribute [local go_sem ↓] Go.wp_at_zero Go.wp_at_succ

def pn (f : Nat → Nat) : Nat → Nat
  | 0 => 0
  | i + 1 => pn f i + f i * 256 ^ i
theorem pn_lt {f : Nat → Nat} (h : ∀ i, f i < 256) : ∀ i, pn f i < 256 ^ i
  | 0 => Nat.one_pos
  | i + 1 => by
    have h1 := pn_lt h i
    have h2 := h i
    have h3 : f i * 256 ^ i ≤ 255 * 256 ^ i := Nat.mul_le_mul_right _ (by omega)
    show pn f i + f i * 256 ^ i < 256 ^ (i + 1)
    rw [Nat.pow_succ]
    omega
structure OwR (w wr : World) (v : Value) (f : Nat → Nat) (j : Nat) : Prop where
  k : Below w.heap.size w wr
  o : wr.ownsRow w.heap.size 5 1 v j (cells8 (fl f j))
theorem OwR.step {w wr w1 : World} {v v' : Value} {f : Nat → Nat} {j : Nat} (h : OwR w wr v f j) {o : Obj} {x : Nat} (hx : x = f j) (ho : w1.ownsRow w.heap.size 5 1 v' (j + 1) (cells8 (fl f j ++ fl (fun _ => x) 1))) (hg : (wr.alloc o).grownBy w1 v.ownBlock) : OwR w w1 v' f (j + 1) := by
  refine ⟨below_append (K.alloc h.k o) (own_keep h.o (K.alloc (Below.refl _ _) _)) hg, ?_⟩
  rw [fl_succ]
  subst hx
  exact ho
end Go.Proofs.Ytjgpopjpmfkfmaa
namespace Go.Proofs.Ytjgpopjpmfkfmaa
set_option maxRecDepth 100000
open Go.RowKit Go.Maps
attribute [local go_sem ↓] Go.wp_at_zero Go.wp_at_succ

/-- A slice of a sector's bytes, which nobody writes any more. -/
def Sl (w : World) (G : Nat → Bool) (r la na : Nat) (v : Value) (l : List Nat) : Prop := ∃ g c, v = .slice (some ⟨g, 0, none⟩) 64 c ∧ w.rangeAt g 0 (cells8 l) ∧ G g = true ∧ X3 r la na g = false ∧ 64 ≤ c
def fuI (D : DM) : Int := match D.fu with
  | none => -1
  | some k => (k : Int)
/-- The document's disk. -/
structure RDk (w : World) (r la na cl cn : Nat) (zl zn : Option Addr) (D : DM) (G : Nat → Bool) : Prop where
  c0 : w.cell? ⟨r, 0, none⟩ = some (.slice zl D.n cl)
  c1 : w.cell? ⟨r, 1, none⟩ = some (.slice zn D.n cn)
  c2 : w.cell? ⟨r, 2, none⟩ = some (.int .i64 (fuI D))
  c3 : w.cell? ⟨r, 3, none⟩ = some (.bool D.dn)
  z : ∀ i, i < 4 → w.frozen? ⟨r, i, none⟩ = false
  a : 0 < D.n → zl = some ⟨la, 0, none⟩ ∧ zn = some ⟨na, 0, none⟩ ∧ la ≠ r ∧ na ≠ r ∧ la ≠ na
  lz : ∀ i, i < D.n → w.frozen? ⟨la, i, none⟩ = false
  nz : ∀ i, i < D.n → w.frozen? ⟨na, i, none⟩ = false
  lv : ∀ i, i < D.n → ∃ v, w.cell? ⟨la, i, none⟩ = some v ∧ Sl w G r la na v (D.la i)
  nv : ∀ i, i < D.n → ∃ v, w.cell? ⟨na, i, none⟩ = some v ∧ ((D.nw i = none ∧ v = .slice none 0 0) ∨ ∃ l, D.nw i = some l ∧ Sl w G r la na v l)
  gx : ∀ k, X3 r la na k = true → G k = true
  gl : ∀ k, G k = true → k < w.heap.size
  ok : D.ok
theorem RDk.rl {w : World} {r la na cl cn : Nat} {zl zn : Option Addr} {D : DM} {G : Nat → Bool} (h : RDk w r la na cl cn zl zn D G) : r < w.heap.size := h.gl r (h.gx r (X3_of.2 (Or.inl rfl)))
theorem Sl.same {w w' : World} {G : Nat → Bool} {r la na : Nat} {v : Value} {l : List Nat} (h : Sl w G r la na v l) (hb : ∀ k, G k = true → X3 r la na k = false → w'.heap[k]? = w.heap[k]?) : Sl w' G r la na v l := by
  obtain ⟨g, c, e, h1, h2, h3, h4⟩ := h
  exact ⟨g, c, e, fun j u hu => (World.cell?_of_block (w := w) (hb g h2 h3)).trans (h1 j u hu), h2, h3, h4⟩
theorem Sl.more {w : World} {G G' : Nat → Bool} {r la na : Nat} {v : Value} {l : List Nat} (h : Sl w G r la na v l) (hG : ∀ k, G k = true → G' k = true) : Sl w G' r la na v l := by
  obtain ⟨g, c, e, h1, h2, h3⟩ := h
  exact ⟨g, c, e, h1, hG g h2, h3⟩
/-- Where its own stays, it stays. -/
theorem RDk.same {w w' : World} {r la na cl cn : Nat} {zl zn : Option Addr} {D : DM} {G : Nat → Bool} (h : RDk w r la na cl cn zl zn D G) (hs : w.heap.size ≤ w'.heap.size) (hb : ∀ k, G k = true → w'.heap[k]? = w.heap[k]?) : RDk w' r la na cl cn zl zn D G := by
  have e1 := hb r (h.gx r (X3_of.2 (Or.inl rfl)))
  have e2 := hb la (h.gx la (X3_of.2 (Or.inr (Or.inl rfl))))
  have e3 := hb na (h.gx na (X3_of.2 (Or.inr (Or.inr rfl))))
  have c1 : ∀ o, w'.cell? ⟨r, o, none⟩ = w.cell? ⟨r, o, none⟩ := fun o => World.cell?_of_block (w := w) e1
  have c2 : ∀ o, w'.cell? ⟨la, o, none⟩ = w.cell? ⟨la, o, none⟩ := fun o => World.cell?_of_block (w := w) e2
  have c3 : ∀ o, w'.cell? ⟨na, o, none⟩ = w.cell? ⟨na, o, none⟩ := fun o => World.cell?_of_block (w := w) e3
  refine ⟨(c1 0).trans h.c0, (c1 1).trans h.c1, (c1 2).trans h.c2, (c1 3).trans h.c3, fun i hi => (World.frozen?_of_block (w := w) e1).trans (h.z i hi), h.a, fun i hi => (World.frozen?_of_block (w := w) e2).trans (h.lz i hi), fun i hi => (World.frozen?_of_block (w := w) e3).trans (h.nz i hi), fun i hi => ?_, fun i hi => ?_, h.gx, fun k hk => Nat.lt_of_lt_of_le (h.gl k hk) hs, h.ok⟩
  · obtain ⟨v, hv, hs⟩ := h.lv i hi
    exact ⟨v, (c2 i).trans hv, hs.same (fun k hk _ => hb k hk)⟩
  · obtain ⟨v, hv, hs⟩ := h.nv i hi
    exact ⟨v, (c3 i).trans hv, hs.imp id fun ⟨l, e, hl⟩ => ⟨l, e, hl.same (fun k hk _ => hb k hk)⟩⟩
/-- Its own cells have turned. -/
theorem RDk.head {w w' : World} {r la na cl cn : Nat} {zl zn : Option Addr} {D D' : DM} {G : Nat → Bool} (h : RDk w r la na cl cn zl zn D G) (hs : w.heap.size ≤ w'.heap.size) (hb : ∀ k, k ≠ r → k < w.heap.size → w'.heap[k]? = w.heap[k]?) (hz : ∀ i, w'.frozen? ⟨r, i, none⟩ = w.frozen? ⟨r, i, none⟩)
    (c0 : w'.cell? ⟨r, 0, none⟩ = some (.slice zl D.n cl)) (c1 : w'.cell? ⟨r, 1, none⟩ = some (.slice zn D.n cn)) (c2 : w'.cell? ⟨r, 2, none⟩ = some (.int .i64 (fuI D'))) (c3 : w'.cell? ⟨r, 3, none⟩ = some (.bool D'.dn))
    (e1 : D'.n = D.n) (e2 : D'.la = D.la) (e3 : D'.nw = D.nw) (hf : ∀ k, D'.fu = some k → k < 9223372036854775808) : RDk w' r la na cl cn zl zn D' G := by
  obtain ⟨n, dla, nw, fu, dn⟩ := D
  obtain ⟨n', la', nw', fu', dn'⟩ := D'
  simp only at e1 e2 e3
  subst e1 e2 e3
  have sl : ∀ {v l}, Sl w G r la na v l → Sl w' G r la na v l := fun h' => h'.same (fun k hk hx => hb k (fun e => by rw [X3_of.2 (Or.inl e)] at hx; cases hx) (h.gl k hk))
  refine ⟨c0, c1, c2, c3, fun i hi => (hz i).trans (h.z i hi), h.a, fun i hi => ?_, fun i hi => ?_, fun i hi => ?_, fun i hi => ?_, h.gx, fun k hk => Nat.lt_of_lt_of_le (h.gl k hk) hs, ⟨h.ok.n, h.ok.la, h.ok.nw, hf⟩⟩
  · obtain ⟨_, _, a3, a4, _⟩ := h.a (Nat.lt_of_le_of_lt (Nat.zero_le _) hi)
    exact (World.frozen?_of_block (w := w) (hb la a3 (h.gl la (h.gx la (X3_of.2 (Or.inr (Or.inl rfl))))))).trans (h.lz i hi)
  · obtain ⟨_, _, a3, a4, _⟩ := h.a (Nat.lt_of_le_of_lt (Nat.zero_le _) hi)
    exact (World.frozen?_of_block (w := w) (hb na a4 (h.gl na (h.gx na (X3_of.2 (Or.inr (Or.inr rfl))))))).trans (h.nz i hi)
  · obtain ⟨_, _, a3, a4, _⟩ := h.a (Nat.lt_of_le_of_lt (Nat.zero_le _) hi)
    obtain ⟨v, hv, hs⟩ := h.lv i hi
    exact ⟨v, (World.cell?_of_block (w := w) (hb la a3 (h.gl la (h.gx la (X3_of.2 (Or.inr (Or.inl rfl))))))).trans hv, sl hs⟩
  · obtain ⟨_, _, a3, a4, _⟩ := h.a (Nat.lt_of_le_of_lt (Nat.zero_le _) hi)
    obtain ⟨v, hv, hs⟩ := h.nv i hi
    exact ⟨v, (World.cell?_of_block (w := w) (hb na a4 (h.gl na (h.gx na (X3_of.2 (Or.inr (Or.inr rfl))))))).trans hv, hs.imp id fun ⟨l, e, hl⟩ => ⟨l, e, sl hl⟩⟩
end Go.Proofs.Ytjgpopjpmfkfmaa
namespace Go.Proofs.Ytjgpopjpmfkfmaa
set_option maxRecDepth 100000
open Go.RowKit Go.Maps
attribute [local go_sem ↓] Go.wp_at_zero Go.wp_at_succ

end Go.Proofs.Ytjgpopjpmfkfmaa
