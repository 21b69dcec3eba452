/- Layer 14: whether a mark is steady; what a program that does nothing does not answer; the law of what is refused. -/
import Derived.Test.YtbgpjebacpmppaaN14F
import Derived.Test.YtbgpjebacpmppaaN14M
namespace Go.Proofs.Ytbgpjebacpmppaa
open Go.RowKit Go.Maps
attribute [local go_sem ↓] Go.wp_at_zero Go.wp_at_succ

theorem same_l {w : World} {x y : Option Addr} {n n2 c c2 : Nat} {f g : Nat → Nat} {l m : List Nat} (h : BA w x n f) (h2 : BA w y n2 g) (hn : n ≤ 1000000) (e1 : fl f n = l) (e2 : fl g n2 = m) :
    Calls Try.prog 13 #[.slice x n c, .slice y n2 c2] w fun e w' => e = .returned (.bool (decide (l = m))) ∧ Below w.heap.size w w' := by
  subst e1 e2
  exact same_fl h h2 hn
/-- A sector that is there is read. -/
def GotP (w : World) (l : List Nat) (e : Ending) (w' : World) : Prop := ∃ g, e = .returned (.tuple #[s64 g, .int .i64 0]) ∧ Got w w' g l ∧ Below w.heap.size w w'
theorem RdP.got {w w' : World} {l : List Nat} {er : Int} {e : Ending} (h : RdP w l er e w') (hl : sec l) (he : er = 0) : GotP w l e w' := by
  subst he
  obtain ⟨v, rfl, hN, hB⟩ := h
  obtain ⟨g, rfl, h1, h2, h3⟩ := hN.resolve_left (fun h => by have := hl.1; rw [h.1] at this; cases this)
  exact ⟨g, by rw [hl.1], ⟨h1, h2, h3⟩, hB⟩
theorem read_got {w : World} {b lb mb : Nat} {D : DM} (h : Dsk w b lb mb D) {i : Int} (he : D.rdE i = 0) : Calls Try.prog 18 #[pp b, .int .i64 i] w (GotP w (D.rdB i)) :=
  (read_any h i).mono fun _ _ hp => hp.got (rdB_sec h.ok he) he
theorem ldB_sec {D : DM} (h : D.ok) {a : Int} (he : D.ldE a = 0) : sec (D.ldB a) := by
  obtain ⟨h0, h1, h2⟩ := ld_rd he
  rw [ldB_of he]
  exact vl_sec (rdB_sec h h0) (rdB_sec h h2)
theorem load_got {w : World} {b lb mb : Nat} {D : DM} (h : Dsk w b lb mb D) {a : Int} (ha : few9 a) (he : D.ldE a = 0) : Calls Try.prog 12 #[pp b, .int .i64 a] w (GotP w (D.ldB a)) :=
  (load_any h ha).mono fun _ _ hp => hp.got (ldB_sec h.ok he) he
theorem Got.ba {w wr : World} {g : Nat} {l : List Nat} (h : Got w wr g l) (hl : sec l) : BA wr (some ⟨g, 0, none⟩) 64 (fun i => l.getD i 0) := ba_sec h.r hl
set_option maxRecDepth 100000 in
set_option maxHeartbeats 8000000 in
theorem steady_yes {w : World} {b lb mb : Nat} {D : DM} (h : Dsk w b lb mb D) {a : Int} (ha : few9 a) {v : List Nat} (e0 : D.rdE a = 0 ∧ D.rdB a = v) (e1 : D.rdE (a + 1) = 0 ∧ D.rdB (a + 1) = v) (e2 : D.rdE (a + 2) = 0 ∧ D.rdB (a + 2) = v) :
    Calls Try.prog 10 #[pp b, .int .i64 a] w (OkT w) := by
  have HD := hide h
  have w1 : wrap64 (a + 1) = a + 1 := by unfold few9 at ha; unfold wrap64; omega
  have w2 : wrap64 (a + 2) = a + 2 := by unfold few9 at ha; unfold wrap64; omega
  have hv : Hid (sec v) := by have := rdB_sec h.ok e0.1; rw [e0.2] at this; exact this
  have H0 : Hid (∀ W, Below w.heap.size w W → Calls Try.prog 18 #[pp b, .int .i64 a] W (GotP W v)) := fun W hW => by have := read_got (HD.out.keep hW) e0.1; rwa [e0.2] at this
  have H1 : Hid (∀ W, Below w.heap.size w W → Calls Try.prog 18 #[pp b, .int .i64 (a + 1)] W (GotP W v)) := fun W hW => by have := read_got (HD.out.keep hW) e1.1; rwa [e1.2] at this
  have H2 : Hid (∀ W, Below w.heap.size w W → Calls Try.prog 18 #[pp b, .int .i64 (a + 2)] W (GotP W v)) := fun W hW => by have := read_got (HD.out.keep hW) e2.1; rwa [e2.2] at this
  have hd : decide (v = v) = true := decide_eq_true rfl
  clear h ha e0 e1 e2
  go_enter Try.func10, Try.ntmps10
  go_upto_region 2 with (go_at_call 18; refine Calls.mono (H0.out _ (Below.refl _ _)) ?_; rintro e W1 ⟨g0, rfl, hG0, hB1⟩; have HG0 := hide hG0; have HB1 := hide hB1; clear hG0 hB1)
  go_upto_region 3 with (rw [w1]; go_at_call 18; refine Calls.mono (H1.out _ HB1.out) ?_; rintro e W2 ⟨g1, rfl, hG1, hB2⟩; have HG1 := hide hG1; have HB2 := hide (K.call HB1.out hB2); have HG02 := hide (HG0.out.keep hB2); clear hG1 hB2)
  go_upto_region 4 with (rw [w2]; go_at_call 18; refine Calls.mono (H2.out _ HB2.out) ?_; rintro e W3 ⟨g2, rfl, hG2, hB3⟩; have HG2 := hide hG2; have HB3 := hide (K.call HB2.out hB3); have HG03 := hide (HG02.out.keep hB3); have HG13 := hide (HG1.out.keep hB3); clear hG2 hB3)
  have HF := hide (fl_of hv.out.1)
  go_wp2_with (first
    | (go_at_call 13; refine Calls.mono (same_l (HG13.out.ba hv.out) (HG2.out.ba hv.out) (by omega) HF.out HF.out) ?_; rintro e W5 ⟨rfl, hB5⟩)
    | (go_at_call 13; refine Calls.mono (same_l (HG03.out.ba hv.out) (HG13.out.ba hv.out) (by omega) HF.out HF.out) ?_; rintro e W4 ⟨rfl, hB4⟩; replace HG13 := hide (HG13.out.keep hB4); replace HG2 := hide (HG2.out.keep hB4); replace HB3 := hide (K.call HB3.out hB4); clear hB4))
  go_ret
  exact ⟨by simp, K.call HB3.out hB5⟩
end Go.Proofs.Ytbgpjebacpmppaa
