/- Layer 14: whether a mark is steady; what a program that does nothing does not answer; the law of what is refused. -/
import Derived.Test.YtjgpopjpmfkfmaaN14F
import Derived.Test.YtjgpopjpmfkfmaaN14M
namespace Go.Proofs.Ytjgpopjpmfkfmaa
set_option maxRecDepth 100000
open Go.RowKit Go.Maps
attribute [local go_sem ↓] Go.wp_at_zero Go.wp_at_succ

theorem same_l {w : World} {x y : Option Addr} {n n2 c c2 : Nat} {f g : Nat → Nat} {l m : List Nat} (h : BA w x n f) (h2 : BA w y n2 g) (hn : n ≤ 1000000) (e1 : fl f n = l) (e2 : fl g n2 = m) :
    Calls Try.prog 32 #[.slice x n c, .slice y n2 c2] w fun e w' => e = .returned (.bool (decide (l = m))) ∧ Below w.heap.size w w' := by
  subst e1 e2
  exact same_fl h h2 hn
/-- A sector that is there is read. -/
def GotP (w : World) (l : List Nat) (e : Ending) (w' : World) : Prop := ∃ g, e = .returned (.tuple #[s64 g, .int .i64 0]) ∧ Got w w' g l ∧ Below w.heap.size w w'
theorem RdP.got {w w' : World} {l : List Nat} {er : Int} {e : Ending} (h : RdP w l er e w') (hl : sec l) (he : er = 0) : GotP w l e w' := by
  subst he
  obtain ⟨v, rfl, hN, hB⟩ := h
  obtain ⟨g, rfl, h1, h2, h3⟩ := hN.resolve_left (fun h => by have := hl.1; rw [h.1] at this; cases this)
  exact ⟨g, by rw [hl.1], ⟨h1, h2, h3⟩, hB⟩
theorem read_got {w : World} {b lb mb : Nat} {D : DM} (h : Dsk w b lb mb D) {i : Int} (he : D.rdE i = 0) : Calls Try.prog 77 #[pp b, .int .i64 i] w (GotP w (D.rdB i)) :=
  (read_any h i).mono fun _ _ hp => hp.got (rdB_sec h.ok he) he
theorem ldB_sec {D : DM} (h : D.ok) {a : Int} (he : D.ldE a = 0) : sec (D.ldB a) := by
  obtain ⟨h0, h1, h2⟩ := ld_rd he
  rw [ldB_of he]
  exact vl_sec (rdB_sec h h0) (rdB_sec h h2)
theorem load_got {w : World} {b lb mb : Nat} {D : DM} (h : Dsk w b lb mb D) {a : Int} (ha : few9 a) (he : D.ldE a = 0) : Calls Try.prog 34 #[pp b, .int .i64 a] w (GotP w (D.ldB a)) :=
  (load_any h ha).mono fun _ _ hp => hp.got (ldB_sec h.ok he) he
theorem Got.ba {w wr : World} {g : Nat} {l : List Nat} (h : Got w wr g l) (hl : sec l) : BA wr (some ⟨g, 0, none⟩) 64 (fun i => l.getD i 0) := ba_sec h.r hl
end Go.Proofs.Ytjgpopjpmfkfmaa
