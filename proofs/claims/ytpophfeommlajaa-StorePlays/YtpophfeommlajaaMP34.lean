/- Layer 14: the document's own Load, Save and Mend, over its disk. Layer 14: the document's own Mend. Layer 13: the document's Crash. Layer 13: both disks side by side; a call on both. -/
import Derived.Test.YtpophfeommlajaaMP33
namespace Go.Proofs.Ytpophfeommlajaa
set_option maxRecDepth 100000
open Go.RowKit Go.Maps
attribute [local go_sem ↓] Go.wp_at_zero Go.wp_at_succ

section
variable {w w' : World} {r la na cl cn : Nat} {zl zn : Option Addr} {D : DM} {G G' : Nat → Bool}
theorem RDk.keep (h : RDk w r la na cl cn zl zn D G) (hB : Below w.heap.size w w') : RDk w' r la na cl cn zl zn D G := h.same hB.size (fun k hk => hB.block k (h.gl k hk))
theorem Sl.keep {v : Value} {l : List Nat} (h : Sl w G r la na v l) (hg : ∀ k, G k = true → k < w.heap.size) (hB : Below w.heap.size w w') : Sl w' G r la na v l := h.same (fun k hk _ => hB.block k (hg k hk))
theorem Sl.kp {v : Value} {l : List Nat} (h : Sl w G r la na v l) (hg : ∀ k, G k = true → k < w.heap.size) (hK : Kp (X3 r la na) w w') : Sl w' G r la na v l := h.same (fun k hk hx => hK.block k (hg k hk) hx)
theorem RDk.out (h : RDk w r la na cl cn zl zn D G) {g : Nat} (hg : w.heap.size ≤ g) : X3 r la na g = false := by
  cases hx : X3 r la na g with
  | false => rfl
  | true => have := h.gl g (h.gx g hx); omega
theorem Sl.ba {v : Value} {l : List Nat} (h : Sl w G r la na v l) (hl : sec l) : ∃ g c, v = .slice (some ⟨g, 0, none⟩) 64 c ∧ BA w (some ⟨g, 0, none⟩) 64 (fun i => l.getD i 0) ∧ X3 r la na g = false := by
  obtain ⟨g, c, e, h1, _, h3, _⟩ := h
  exact ⟨g, c, e, ba_sec h1 hl, h3⟩
end
/-- A sector's bytes that the document's disk hands out. -/
def RlP (w : World) (G : Nat → Bool) (r la na : Nat) (l : List Nat) (er : Int) (e : Ending) (w' : World) : Prop := ∃ v, e = .returned (.tuple #[v, .int .i64 er]) ∧ Below w.heap.size w w' ∧ ((l = [] ∧ v = .slice none 0 0) ∨ sec l ∧ Sl w' G r la na v l)
def SgP (w : World) (G : Nat → Bool) (r la na : Nat) (l : List Nat) (e : Ending) (w' : World) : Prop := ∃ g c, e = .returned (.tuple #[.slice (some ⟨g, 0, none⟩) 64 c, .int .i64 0]) ∧ w' = w ∧ Sl w G r la na (.slice (some ⟨g, 0, none⟩) 64 c) l
theorem ref_got {w : World} {r la na cl cn : Nat} {zl zn : Option Addr} {D : DM} {G : Nat → Bool} (h : RDk w r la na cl cn zl zn D G) {i : Int} (he : D.rdE i = 0) : Calls Try.prog 30 #[pp r, .int .i64 i] w (SgP w G r la na (D.rdB i)) :=
  (ref_read h i).mono fun e w' hp => by
    obtain ⟨v, rfl, rfl, hv⟩ := hp
    have hs := rdB_sec h.ok he
    rcases hv with ⟨e0, _⟩ | ⟨_, hv⟩
    · have := hs.1; rw [e0] at this; cases this
    · obtain ⟨g, c, rfl, hh⟩ := hv
      exact ⟨g, c, by rw [he], rfl, g, c, rfl, hh⟩
theorem ref_gotE {w : World} {r la na cl cn : Nat} {zl zn : Option Addr} {D : DM} {G : Nat → Bool} (h : RDk w r la na cl cn zl zn D G) {i : Int} : Calls Try.prog 30 #[pp r, .int .i64 i] w fun e w' => ∃ x n c, e = .returned (.tuple #[.slice x n c, .int .i64 (D.rdE i)]) ∧ w' = w :=
  (ref_read h i).mono fun e w' hp => by
    obtain ⟨v, rfl, rfl, hv⟩ := hp
    rcases hv with ⟨_, rfl⟩ | ⟨_, g, c, rfl, _⟩
    · exact ⟨_, _, _, rfl, rfl⟩
    · exact ⟨_, _, _, rfl, rfl⟩
set_option maxRecDepth 100000 in
set_option maxHeartbeats 4000000 in
theorem ref_load {w : World} {r la na cl cn : Nat} {zl zn : Option Addr} {D : DM} {G : Nat → Bool} (h : RDk w r la na cl cn zl zn D G) {a : Int} (ha : few9 a) : Calls Try.prog 28 #[pp r, .int .i64 a] w (RlP w G r la na (D.ldB a) (D.ldE a)) := by
  have HD := hide h
  have w1 : wrap64 (a + 1) = a + 1 := by unfold few9 at ha; unfold wrap64; omega
  have w2 : wrap64 (a + 2) = a + 2 := by unfold few9 at ha; unfold wrap64; omega
  clear h ha
  by_cases e0 : D.rdE a = 0
  · by_cases e1 : D.rdE (a + 1) = 0
    · by_cases e2 : D.rdE (a + 2) = 0
      · have he : D.ldE a = 0 := by unfold DM.ldE; rw [if_pos e0, if_pos e1, e2]
        have HS := hide (And.intro (rdB_sec HD.out.ok e0) (And.intro (rdB_sec HD.out.ok e1) (rdB_sec HD.out.ok e2)))
        have HV := hide (ldB_of he)
        have H0 := hide (ref_got HD.out e0)
        have H1 := hide (ref_got HD.out e1)
        have H2 := hide (ref_got HD.out e2)
        rw [he]
        clear e0 e1 e2 he
        go_enter Try.func28, Try.ntmps28
        go_upto_region 4 with (go_at_call 30; refine Calls.mono H0.out ?_; rintro e W1 ⟨g0, c0, rfl, rfl, hs⟩; have HS0 := hide hs; clear hs)
        go_upto_region 7 with (rw [w1]; go_at_call 30; refine Calls.mono H1.out ?_; rintro e W1 ⟨g1, c1, rfl, rfl, hs⟩; have HS1 := hide hs; clear hs)
        go_upto_region 10 with (rw [w2]; go_at_call 30; refine Calls.mono H2.out ?_; rintro e W1 ⟨g2, c2, rfl, rfl, hs⟩; have HS2 := hide hs; clear hs)
        have HC : Hid (Calls Try.prog 31 #[.slice (some ⟨g1, 0, none⟩) 64 c1, .slice (some ⟨g2, 0, none⟩) 64 c2] W1 fun e w' => e = .returned (.bool (decide (D.rdB (a + 1) = D.rdB (a + 2)))) ∧ Below W1.heap.size W1 w') := by
          obtain ⟨g1', c1', q1, b1, _⟩ := HS1.out.ba HS.out.2.1
          obtain ⟨g2', c2', q2, b2, _⟩ := HS2.out.ba HS.out.2.2
          cases q1
          cases q2
          have h := same_fl (c := c1) (c2 := c2) b1 b2 (by omega)
          rw [fl_of HS.out.2.1.1, fl_of HS.out.2.2.1] at h
          exact h
        by_cases hq : D.rdB (a + 1) = D.rdB (a + 2)
        · rw [decide_eq_true hq] at HC
          have HL : Hid (D.ldB a = D.rdB (a + 2)) := HV.out.trans (if_pos hq)
          clear hq
          go_wp2_with (go_at_call 31; refine Calls.mono HC.out ?_; rintro e W2 ⟨rfl, hB⟩; have HB := hide hB; clear hB)
          exact bodyPost_ret (by simp [results, Try.results28]; rfl) rfl ⟨_, rfl, HB.out, Or.inr ⟨by rw [HL.out]; exact HS.out.2.2, by rw [HL.out]; exact HS2.out.keep HD.out.gl HB.out⟩⟩
        · rw [decide_eq_false hq] at HC
          have HL : Hid (D.ldB a = D.rdB a) := HV.out.trans (if_neg hq)
          clear hq
          go_wp2_with (go_at_call 31; refine Calls.mono HC.out ?_; rintro e W2 ⟨rfl, hB⟩; have HB := hide hB; clear hB)
          exact bodyPost_ret (by simp [results, Try.results28]; rfl) rfl ⟨_, rfl, HB.out, Or.inr ⟨by rw [HL.out]; exact HS.out.1, by rw [HL.out]; exact HS0.out.keep HD.out.gl HB.out⟩⟩
      · have he : D.ldE a = D.rdE (a + 2) := by unfold DM.ldE; rw [if_pos e0, if_pos e1]
        have HV : Hid (D.ldB a = []) := ldB_not (by rw [he]; exact e2)
        have H0 := hide (ref_got HD.out e0)
        have H1 := hide (ref_got HD.out e1)
        have H2 := hide (ref_gotE HD.out (i := a + 2))
        rw [he]
        have hne : (D.rdE (a + 2) != 0) = true := by simp [e2]
        have hne' : (D.rdE (a + 2) == 0) = false := by simp [e2]
        clear e0 e1 e2 he
        go_enter Try.func28, Try.ntmps28
        go_upto_region 4 with (go_at_call 30; refine Calls.mono H0.out ?_; rintro e W1 ⟨g0, c0, rfl, rfl, hs⟩; clear hs)
        go_upto_region 7 with (rw [w1]; go_at_call 30; refine Calls.mono H1.out ?_; rintro e W1 ⟨g1, c1, rfl, rfl, hs⟩; clear hs)
        go_wp2_with (rw [w2]; go_at_call 30; refine Calls.mono H2.out ?_; rintro e W1 ⟨x, n, c, rfl, rfl⟩)
        exact bodyPost_ret (by simp [results, Try.results28]) rfl ⟨_, rfl, Below.refl _ _, Or.inl ⟨HV.out, rfl⟩⟩
    · have he : D.ldE a = D.rdE (a + 1) := by unfold DM.ldE; rw [if_pos e0, if_neg e1]
      have HV : Hid (D.ldB a = []) := ldB_not (by rw [he]; exact e1)
      have H0 := hide (ref_got HD.out e0)
      have H1 := hide (ref_gotE HD.out (i := a + 1))
      rw [he]
      have hne : (D.rdE (a + 1) != 0) = true := by simp [e1]
      have hne' : (D.rdE (a + 1) == 0) = false := by simp [e1]
      clear e0 e1 he
      go_enter Try.func28, Try.ntmps28
      go_upto_region 4 with (go_at_call 30; refine Calls.mono H0.out ?_; rintro e W1 ⟨g0, c0, rfl, rfl, hs⟩; clear hs)
      go_wp2_with (rw [w1]; go_at_call 30; refine Calls.mono H1.out ?_; rintro e W1 ⟨x, n, c, rfl, rfl⟩)
      exact bodyPost_ret (by simp [results, Try.results28]) rfl ⟨_, rfl, Below.refl _ _, Or.inl ⟨HV.out, rfl⟩⟩
  · have he : D.ldE a = D.rdE a := by unfold DM.ldE; rw [if_neg e0]
    have HV : Hid (D.ldB a = []) := ldB_not (by rw [he]; exact e0)
    have H0 := hide (ref_gotE HD.out (i := a))
    rw [he]
    have hne : (D.rdE a != 0) = true := by simp [e0]
    have hne' : (D.rdE a == 0) = false := by simp [e0]
    clear e0 he
    go_enter Try.func28, Try.ntmps28
    go_wp2_with (go_at_call 30; refine Calls.mono H0.out ?_; rintro e W1 ⟨x, n, c, rfl, rfl⟩)
    exact bodyPost_ret (by simp [results, Try.results28]) rfl ⟨_, rfl, Below.refl _ _, Or.inl ⟨HV.out, rfl⟩⟩
/-- While the document's Save writes the three. -/
structure RsR (w wr : World) (r la na cl cn : Nat) (zl zn : Option Addr) (E : DM) (G G' : Nat → Bool) : Prop where
  d : RDk wr r la na cl cn zl zn E G'
  k : Kp (X3 r la na) w wr
  g : ∀ k, G' k = true → G k = true ∨ w.heap.size ≤ k
theorem RsR.grow {w wr w' : World} {r la na cl cn : Nat} {zl zn : Option Addr} {E : DM} {G G' : Nat → Bool} (h : RsR w wr r la na cl cn zl zn E G G') (hB : Below wr.heap.size wr w') : RsR w w' r la na cl cn zl zn E G G' := ⟨h.d.keep hB, h.k.trans (Kp.of hB), h.g⟩
theorem RsR.next {w wr w' : World} {r la na cl cn : Nat} {zl zn : Option Addr} {E E' : DM} {G G' G2 : Nat → Bool} (h : RsR w wr r la na cl cn zl zn E G G') (hd : RDk w' r la na cl cn zl zn E' G2) (hK : Kp (X3 r la na) wr w') (hg : ∀ k, G2 k = true → G' k = true ∨ wr.heap.size ≤ k) : RsR w w' r la na cl cn zl zn E' G G2 :=
  ⟨hd, h.k.trans hK, fun k hk => by
    rcases hg k hk with h1 | h1
    · exact h.g k h1
    · exact Or.inr (Nat.le_trans h.k.size h1)⟩
def RsQ (w wr : World) (r la na cl cn : Nat) (zl zn : Option Addr) (E : DM) (G : Nat → Bool) : Prop := ∃ G', RsR w wr r la na cl cn zl zn E G G'
theorem RsR.post {w wr : World} {r la na cl cn : Nat} {zl zn : Option Addr} {E : DM} {G G' : Nat → Bool} (h : RsR w wr r la na cl cn zl zn E G G') {er : Int} {e : Ending} (he : e = .returned (.int .i64 er)) : RwP w r la na cl cn zl zn E G er e wr := ⟨he, G', h.d, h.k, h.g⟩
set_option maxRecDepth 100000 in
set_option maxHeartbeats 4000000 in
theorem ref_save {w : World} {r la na cl cn : Nat} {zl zn : Option Addr} {D : DM} {G : Nat → Bool} (h : RDk w r la na cl cn zl zn D G) {a : Int} (ha : few9 a) {x : Option Addr} {m c : Nat} {f : Nat → Nat} (hb : BA w x m f) (hm : m ≤ 64) (hx : 0 < m → ∀ p, x = some p → X3 r la na p.block = false) :
    Calls Try.prog 49 #[pp r, .int .i64 a, .slice x m c] w (RwP w r la na cl cn zl zn (sv D a (pd f m) 3).1 G (sv D a (pd f m) 3).2) := by
  have HD := hide h
  have HA := hide ha
  have HB := hide hb
  have HX := hide hx
  have HL := hide (pd_sec hb.lt m)
  have hm' : decide ((64 : Int) < (m : Int)) = false := decide_eq_false (by omega)
  clear h ha hb hx
  go_enter Try.func49, Try.ntmps49
  go_wp2_with fail
  go_loopg [7] 3 (fun g' s7 wr => ∃ i : Nat, g' = 3 - i ∧ i ≤ 3 ∧ s7 = .int .i64 (i : Int) ∧ (sv D a (pd f m) i).2 = 0 ∧ RsQ w wr r la na cl cn zl zn (sv D a (pd f m) i).1 G)
  case atStart => exact ⟨0, rfl, by omega, rfl, rfl, G, HD.out, Kp.refl _ _, fun k hk => Or.inl hk⟩
  case round =>
    obtain ⟨i, rfl, hi3, rfl, hz, G', hR⟩ := hrel
    have HR := hide hR
    have HZ := hide hz
    clear hR hz
    by_cases hlt : i < 3
    · have hlt' : (i : Int) < 3 := by omega
      have hw : wrap64 (a + (i : Int)) = a + (i : Int) := by have := HA.out; unfold few9 at this; unfold wrap64; omega
      have HN : Hid (sv D a (pd f m) (i + 1) = ((sv D a (pd f m) i).1.ws (a + (i : Int)) (pd f m), (sv D a (pd f m) i).1.wsE (a + (i : Int)) (pd f m))) := if_pos HZ.out
      have HBw : Hid (BA wr x m f) := by
        rcases Nat.eq_zero_or_pos m with h0 | h0
        · exact ⟨HB.out.lt, Or.inl h0⟩
        · exact HB.out.kp (HX.out h0) HR.out.k
      obtain ⟨E, hE⟩ : ∃ E, E = (sv D a (pd f m) i).1 := ⟨_, rfl⟩
      rw [← hE] at HN HR
      clear hE
      by_cases he : E.wrE (a + (i : Int)) 64 = 0
      · have e1 : E.ws (a + (i : Int)) (pd f m) = (E.wr (a + (i : Int)) (pd f m)).sy := if_pos (by rw [HL.out.1]; exact he)
        have e2 : E.wsE (a + (i : Int)) (pd f m) = (E.wr (a + (i : Int)) (pd f m)).syE := if_pos (by rw [HL.out.1]; exact he)
        rw [e1, e2] at HN
        have HE := hide he
        clear e1 e2 he
        by_cases hs : (E.wr (a + (i : Int)) (pd f m)).syE = 0
        · have HS := hide hs
          clear hs
          go_wp2_with (first
            | (go_at_call 32; refine Calls.mono (full_any HBw.out hm) ?_; rintro e W1 ⟨z1, c1, rfl, hb1, hz1, hB1⟩; have HF := hide (And.intro hb1 hz1); have HR1 := hide (HR.out.grow hB1); clear hb1 hz1 hB1)
            | (go_at_call 19; refine Calls.mono (ref_write HR1.out.d _ HF.out.1 (fun _ p hp => HR.out.d.out (HF.out.2 p hp))) ?_; rw [HE.out]; rintro e W2 ⟨rfl, G2, hd2, hK2, hg2⟩; have HR2 := hide (HR1.out.next hd2 hK2 hg2); clear hd2 hK2 hg2)
            | (go_at_call 48; refine Calls.mono (ref_sync HR2.out.d) ?_; rw [show (E.wr (a + (i : Int)) (fl (pz f m) 64)).syE = 0 from HS.out]; rintro e W3 ⟨rfl, G3, hd3, hK3, hg3⟩; have HR3 := hide (HR2.out.next hd3 hK3 hg3); clear hd3 hK3 hg3))
          go_roundg (3 - (i + 1))
          case measure => omega
          case rel => exact ⟨i + 1, rfl, by omega, by simp, by rw [HN.out]; exact HS.out, G3, by rw [HN.out]; exact HR3.out⟩
        · have HS := hide hs
          have hne : ((E.wr (a + (i : Int)) (fl (pz f m) 64)).syE != 0) = true := by have := HS.out; simp [pd] at this; simp [this]
          have hne' : ((E.wr (a + (i : Int)) (fl (pz f m) 64)).syE == 0) = false := by have := HS.out; simp [pd] at this; simp [this]
          clear hs
          go_wp2_with (first
            | (go_at_call 32; refine Calls.mono (full_any HBw.out hm) ?_; rintro e W1 ⟨z1, c1, rfl, hb1, hz1, hB1⟩; have HF := hide (And.intro hb1 hz1); have HR1 := hide (HR.out.grow hB1); clear hb1 hz1 hB1)
            | (go_at_call 19; refine Calls.mono (ref_write HR1.out.d _ HF.out.1 (fun _ p hp => HR.out.d.out (HF.out.2 p hp))) ?_; rw [HE.out]; rintro e W2 ⟨rfl, G2, hd2, hK2, hg2⟩; have HR2 := hide (HR1.out.next hd2 hK2 hg2); clear hd2 hK2 hg2)
            | (go_at_call 48; refine Calls.mono (ref_sync HR2.out.d) ?_; rintro e W3 ⟨rfl, G3, hd3, hK3, hg3⟩; have HR3 := hide (HR2.out.next hd3 hK3 hg3); clear hd3 hK3 hg3))
          go_ret
          have e3 : sv D a (pd f m) 3 = sv D a (pd f m) (i + 1) := sv_err (by rw [HN.out]; exact HS.out) 3 (by omega)
          rw [HN.out] at e3
          rw [e3]
          exact HR3.out.post rfl
      · have e1 : E.ws (a + (i : Int)) (pd f m) = E.wr (a + (i : Int)) (pd f m) := if_neg (by rw [HL.out.1]; exact he)
        have e2 : E.wsE (a + (i : Int)) (pd f m) = E.wrE (a + (i : Int)) 64 := (if_neg (by rw [HL.out.1]; exact he)).trans (by rw [HL.out.1])
        rw [e1, e2] at HN
        have HE := hide he
        have hne : (E.wrE (a + (i : Int)) 64 != 0) = true := by simp [he]
        have hne' : (E.wrE (a + (i : Int)) 64 == 0) = false := by simp [he]
        clear e1 e2 he
        go_wp2_with (first
          | (go_at_call 32; refine Calls.mono (full_any HBw.out hm) ?_; rintro e W1 ⟨z1, c1, rfl, hb1, hz1, hB1⟩; have HF := hide (And.intro hb1 hz1); have HR1 := hide (HR.out.grow hB1); clear hb1 hz1 hB1)
          | (go_at_call 19; refine Calls.mono (ref_write HR1.out.d _ HF.out.1 (fun _ p hp => HR.out.d.out (HF.out.2 p hp))) ?_; rintro e W2 ⟨rfl, G2, hd2, hK2, hg2⟩; have HR2 := hide (HR1.out.next hd2 hK2 hg2); clear hd2 hK2 hg2))
        go_ret
        have e3 : sv D a (pd f m) 3 = sv D a (pd f m) (i + 1) := sv_err (by rw [HN.out]; exact HE.out) 3 (by omega)
        rw [HN.out] at e3
        rw [e3]
        exact HR2.out.post rfl
    · obtain rfl : i = 3 := by omega
      go_wp2_with fail
      go_ret
      exact HR.out.post (by rw [HZ.out]; rfl)
end Go.Proofs.Ytpophfeommlajaa
namespace Go.Proofs.Ytpophfeommlajaa
set_option maxRecDepth 100000
open Go.RowKit Go.Maps
attribute [local go_sem ↓] Go.wp_at_zero Go.wp_at_succ

theorem ba_kp {X : Nat → Bool} {w w' : World} {g n : Nat} {f : Nat → Nat} (h : BA w (some ⟨g, 0, none⟩) n f) (hx : X g = false) (hK : Kp X w w') : BA w' (some ⟨g, 0, none⟩) n f := h.kp (fun p hp => by cases hp; exact hx) hK
/-- While the three are mended. -/
structure RmR (w wr : World) (r la na cl cn gv : Nat) (zl zn : Option Addr) (E : DM) (G G' : Nat → Bool) (v : List Nat) : Prop where
  s : RsR w wr r la na cl cn zl zn E G G'
  b : BA wr (some ⟨gv, 0, none⟩) 64 (fun i => v.getD i 0)
  x : X3 r la na gv = false
def RmQ (w wr : World) (r la na cl cn gv : Nat) (zl zn : Option Addr) (E : DM) (G : Nat → Bool) (v : List Nat) : Prop := ∃ G', RmR w wr r la na cl cn gv zl zn E G G' v
theorem RmR.grow {w wr w' : World} {r la na cl cn gv : Nat} {zl zn : Option Addr} {E : DM} {G G' : Nat → Bool} {v : List Nat} (h : RmR w wr r la na cl cn gv zl zn E G G' v) (hB : Below wr.heap.size wr w') : RmR w w' r la na cl cn gv zl zn E G G' v := ⟨h.s.grow hB, h.b.keep hB, h.x⟩
theorem RmR.next {w wr w' : World} {r la na cl cn gv : Nat} {zl zn : Option Addr} {E E' : DM} {G G' G2 : Nat → Bool} {v : List Nat} (h : RmR w wr r la na cl cn gv zl zn E G G' v) (hd : RDk w' r la na cl cn zl zn E' G2) (hK : Kp (X3 r la na) wr w') (hg : ∀ k, G2 k = true → G' k = true ∨ wr.heap.size ≤ k) : RmR w w' r la na cl cn gv zl zn E' G G2 v := ⟨h.s.next hd hK hg, ba_kp h.b h.x hK, h.x⟩
set_option maxRecDepth 100000 in
set_option maxHeartbeats 4000000 in
theorem ref_mend {w : World} {r la na cl cn : Nat} {zl zn : Option Addr} {D : DM} {G : Nat → Bool} (h : RDk w r la na cl cn zl zn D G) {a : Nat} (ha : a ≤ 1000) : Calls Try.prog 27 #[pp r, .int .i64 (a : Int)] w (RwP w r la na cl cn zl zn (D.mendD (a : Int)) G (D.mendE (a : Int))) := by
  have HD := hide h
  have HC := hide (ref_load h (a := (a : Int)) ⟨by omega, by omega⟩)
  have HA := hide ha
  clear h ha
  by_cases he : D.ldE (a : Int) = 0
  · have e1 : D.mendD (a : Int) = (md2 D a (D.three a) (D.ldB (a : Int)) 3).1 := if_pos he
    have e2 : D.mendE (a : Int) = (md2 D a (D.three a) (D.ldB (a : Int)) 3).2 := if_pos he
    rw [e1, e2]
    have HLs : Hid (sec (D.ldB (a : Int))) := by
      obtain ⟨h0, h1, h2⟩ := ld_rd he
      show sec (D.ldB (a : Int))
      rw [ldB_of he]
      exact vl_sec (rdB_sec HD.out.ok h0) (rdB_sec HD.out.ok h2)
    have HI := hide (ld_inv he)
    have HT : Hid (∀ q, q < 3 → D.three a q = D.cur (a + q)) := fun q hq => three_cur he hq
    rw [he] at HC
    obtain ⟨v, hv⟩ : ∃ v, v = D.ldB (a : Int) := ⟨_, rfl⟩
    obtain ⟨B, hB⟩ : ∃ B, B = D.three a := ⟨_, rfl⟩
    rw [← hv] at HC HLs
    rw [← hB] at HT
    rw [← hv, ← hB]
    clear e1 e2 he hv hB
    go_enter Try.func27, Try.ntmps27
    go_upto_region 4 with (go_at_call 28; refine Calls.mono HC.out ?_; rintro e W1 ⟨v1, rfl, hB1, hv1⟩; obtain ⟨gv, cv, rfl, hba, hxv⟩ := (hv1.resolve_left (fun h => by have := HLs.out.1; rw [h.1] at this; cases this)).2.ba HLs.out; have HR1 : Hid (RmR w W1 r la na cl cn gv zl zn D G G v) := ⟨⟨HD.out.keep hB1, Kp.of hB1, fun k hk => Or.inl hk⟩, hba, hxv⟩; clear hB1 hv1 hba hxv)
    go_wp2_with fail
    go_loopg [7] 3 (fun g' s7 wr => ∃ i : Nat, g' = 3 - i ∧ i ≤ 3 ∧ s7 = .int .i64 (i : Int) ∧ (md2 D a B v i).2 = 0 ∧ RmQ w wr r la na cl cn gv zl zn (md2 D a B v i).1 G v)
    case atStart => exact ⟨0, rfl, by omega, rfl, rfl, G, HR1.out⟩
    case round =>
      clear HR1
      obtain ⟨i, rfl, hi3, rfl, hz, G', hR⟩ := hrel
      have HR := hide hR
      have HZ := hide hz
      clear hR hz
      by_cases hlt : i < 3
      · have hlt' : (i : Int) < 3 := by omega
        have hw : wrap64 ((a : Int) + (i : Int)) = (a : Int) + (i : Int) := by have := HA.out; unfold wrap64; omega
        have HRd : Hid ((md2 D a B v i).1.rdE ((a : Int) + (i : Int)) = 0 ∧ (md2 D a B v i).1.rdB ((a : Int) + (i : Int)) = B i) := by
          obtain ⟨h1, h2, h3⟩ := md2_ok HI.out.1 HT.out i (by omega) HZ.out
          have c : ((a : Int) + (i : Int)) = ((a + i : Nat) : Int) := by omega
          obtain ⟨r1, r2⟩ := rd_up h1 (i := a + i) (by rw [h2]; have := HI.out.2; omega)
          rw [c]
          exact ⟨r1, by rw [r2, h3, if_neg (by omega)]; exact (HT.out i hlt).symm⟩
        have HCR := hide (ref_got HR.out.s.d HRd.out.1)
        rw [HRd.out.2] at HCR
        have HBs : Hid (sec (B i)) := by have := rdB_sec HR.out.s.d.ok HRd.out.1; rw [HRd.out.2] at this; exact this
        obtain ⟨E, hE⟩ : ∃ E, E = (md2 D a B v i).1 := ⟨_, rfl⟩
        have HEq := hide hE
        rw [← hE] at HR
        clear hE HRd
        go_upto_region 10 with (go_at_call 30; refine Calls.mono HCR.out ?_; rintro e W2 ⟨g1, c1, rfl, rfl, hs⟩; have HS1 := hide hs; clear hs)
        have HCS : Hid (Calls Try.prog 31 #[.slice (some ⟨g1, 0, none⟩) 64 c1, .slice (some ⟨gv, 0, none⟩) 64 cv] W2 fun e w' => e = .returned (.bool (decide (B i = v))) ∧ Below W2.heap.size W2 w') := by
          obtain ⟨g1', c1', q1, b1, _⟩ := HS1.out.ba HBs.out
          cases q1
          have h := same_fl (c := c1) (c2 := cv) b1 HR.out.b (by omega)
          rw [fl_of HBs.out.1, fl_of HLs.out.1] at h
          exact h
        by_cases hs : B i = v
        · rw [decide_eq_true hs] at HCS
          have HN : Hid (md2 D a B v (i + 1) = md2 D a B v i) := (if_pos HZ.out).trans (if_pos hs)
          clear hs
          go_wp2_with (go_at_call 31; refine Calls.mono HCS.out ?_; rintro e W3 ⟨rfl, hB3⟩; have HR3 := hide (HR.out.grow hB3); clear hB3)
          go_roundg (3 - (i + 1))
          case measure => omega
          case rel => exact ⟨i + 1, rfl, by omega, by simp, by rw [HN.out]; exact HZ.out, G', by rw [HN.out, ← HEq.out]; exact HR3.out⟩
        · rw [decide_eq_false hs] at HCS
          have HN : Hid (md2 D a B v (i + 1) = (E.ws ((a : Int) + (i : Int)) v, E.wsE ((a : Int) + (i : Int)) v)) := by
            have : md2 D a B v (i + 1) = ((md2 D a B v i).1.ws ((a : Int) + (i : Int)) v, (md2 D a B v i).1.wsE ((a : Int) + (i : Int)) v) := (if_pos HZ.out).trans (if_neg hs)
            show _ = _
            rw [this, ← HEq.out]
          have HV := hide (fl_of HLs.out.1)
          clear hs
          go_upto_region 11 with (go_at_call 31; refine Calls.mono HCS.out ?_; rintro e W3 ⟨rfl, hB3⟩; have HR3 := hide (HR.out.grow hB3); clear hB3)
          clear HCS HS1 HR
          have HCW := hide (ref_write (c := cv) HR3.out.s.d ((a : Int) + (i : Int)) HR3.out.b (fun _ p hp => by cases hp; exact HR3.out.x))
          rw [HV.out] at HCW
          by_cases he : E.wrE ((a : Int) + (i : Int)) 64 = 0
          · have e1 : E.ws ((a : Int) + (i : Int)) v = (E.wr ((a : Int) + (i : Int)) v).sy := if_pos (by rw [HLs.out.1]; exact he)
            have e2 : E.wsE ((a : Int) + (i : Int)) v = (E.wr ((a : Int) + (i : Int)) v).syE := if_pos (by rw [HLs.out.1]; exact he)
            rw [e1, e2] at HN
            rw [he] at HCW
            clear e1 e2 he
            by_cases hs : (E.wr ((a : Int) + (i : Int)) v).syE = 0
            · have HS := hide hs
              clear hs
              go_wp2_with (first
                | (go_at_call 19; refine Calls.mono HCW.out ?_; rintro e W4 ⟨rfl, G2, hd2, hK2, hg2⟩; have HR4 := hide (HR3.out.next hd2 hK2 hg2); clear hd2 hK2 hg2)
                | (go_at_call 48; refine Calls.mono (ref_sync HR4.out.s.d) ?_; rw [HS.out]; rintro e W5 ⟨rfl, G3, hd3, hK3, hg3⟩; have HR5 := hide (HR4.out.next hd3 hK3 hg3); clear hd3 hK3 hg3))
              go_roundg (3 - (i + 1))
              case measure => omega
              case rel => exact ⟨i + 1, rfl, by omega, by simp, by rw [HN.out]; exact HS.out, G3, by rw [HN.out]; exact HR5.out⟩
            · have HS := hide hs
              have hne : ((E.wr ((a : Int) + (i : Int)) v).syE != 0) = true := by simp [hs]
              have hne' : ((E.wr ((a : Int) + (i : Int)) v).syE == 0) = false := by simp [hs]
              clear hs
              go_wp2_with (first
                | (go_at_call 19; refine Calls.mono HCW.out ?_; rintro e W4 ⟨rfl, G2, hd2, hK2, hg2⟩; have HR4 := hide (HR3.out.next hd2 hK2 hg2); clear hd2 hK2 hg2)
                | (go_at_call 48; refine Calls.mono (ref_sync HR4.out.s.d) ?_; rintro e W5 ⟨rfl, G3, hd3, hK3, hg3⟩; have HR5 := hide (HR4.out.next hd3 hK3 hg3); clear hd3 hK3 hg3))
              go_ret
              have e3 : md2 D a B v 3 = md2 D a B v (i + 1) := md2_err (by rw [HN.out]; exact HS.out) 3 (by omega)
              rw [HN.out] at e3
              rw [e3]
              exact HR5.out.s.post rfl
          · have e1 : E.ws ((a : Int) + (i : Int)) v = E.wr ((a : Int) + (i : Int)) v := if_neg (by rw [HLs.out.1]; exact he)
            have e2 : E.wsE ((a : Int) + (i : Int)) v = E.wrE ((a : Int) + (i : Int)) 64 := (if_neg (by rw [HLs.out.1]; exact he)).trans (by rw [HLs.out.1])
            rw [e1, e2] at HN
            have HE := hide he
            have hne : (E.wrE ((a : Int) + (i : Int)) 64 != 0) = true := by simp [he]
            have hne' : (E.wrE ((a : Int) + (i : Int)) 64 == 0) = false := by simp [he]
            clear e1 e2 he
            go_wp2_with (first
              | (go_at_call 19; refine Calls.mono HCW.out ?_; rintro e W4 ⟨rfl, G2, hd2, hK2, hg2⟩; have HR4 := hide (HR3.out.next hd2 hK2 hg2); clear hd2 hK2 hg2))
            go_ret
            have e3 : md2 D a B v 3 = md2 D a B v (i + 1) := md2_err (by rw [HN.out]; exact HE.out) 3 (by omega)
            rw [HN.out] at e3
            rw [e3]
            exact HR4.out.s.post rfl
      · obtain rfl : i = 3 := by omega
        go_wp2_with fail
        go_ret
        exact HR.out.s.post (by rw [HZ.out]; rfl)
  · have e1 : D.mendD (a : Int) = D := if_neg he
    have e2 : D.mendE (a : Int) = D.ldE (a : Int) := if_neg he
    rw [e1, e2]
    have hne : (D.ldE (a : Int) != 0) = true := by simp [he]
    have hne' : (D.ldE (a : Int) == 0) = false := by simp [he]
    clear e1 e2 he
    go_enter Try.func27, Try.ntmps27
    go_wp2_with (go_at_call 28; refine Calls.mono HC.out ?_; rintro e W1 ⟨v1, rfl, hB1, hv1⟩; have HB1 := hide hB1; clear hB1 hv1)
    go_ret
    exact ⟨rfl, G, HD.out.keep HB1.out, Kp.of HB1.out, fun k hk => Or.inl hk⟩
end Go.Proofs.Ytpophfeommlajaa
namespace Go.Proofs.Ytpophfeommlajaa
set_option maxRecDepth 100000
open Go.RowKit Go.Maps
attribute [local go_sem ↓] Go.wp_at_zero Go.wp_at_succ

theorem wp_load1 {op : Oper} {a : Act} {w : World} {Kt : Act → World → Prop} {Q : Exit → Act → World → Prop} {x : Operand} {g o m c : Nat} {p : Option Addr} (ho : op.op = .load 38 x) (hx : a.eval x = .pointer (some ⟨g, o, none⟩))
    (hc : w.cell? ⟨g, o, none⟩ = some (.slice p m c)) (h : Kt (a.put op.dst (.slice p m c)) w) : Oper.wp Try.prog op a w Kt Q := by
  unfold Oper.wp execOp
  simp only [ho, hx]
  go_simp
  exact h
theorem rk_none {nw : Nat → Option (List Nat)} {i : Nat} (h : nw i = none) : rk nw (i + 1) = rk nw i := by
  unfold rk wrs
  rw [List.range_succ, List.filter_append, List.length_append]
  simp [h]
theorem rk_some {nw : Nat → Option (List Nat)} {i : Nat} {l : List Nat} (h : nw i = some l) : rk nw (i + 1) = rk nw i + 1 := by
  unfold rk wrs
  rw [List.range_succ, List.filter_append, List.length_append]
  simp [h]
theorem rk_le (nw : Nat → Option (List Nat)) (i : Nat) : rk nw i ≤ i := wrs_le i nw
/-- What lasts while a crash goes on. -/
def DM.crq (D : DM) (K : List Bool) (t at_ : Int) (i : Nat) : DM := { D with la := fun j => if j < i then D.crA K t at_ j else D.la j, nw := fun j => if j < i then none else D.nw j }
theorem DM.crq_zero (D : DM) (K : List Bool) (t at_ : Int) : D.crq K t at_ 0 = D := by
  obtain ⟨n, la, nw, fu, dn⟩ := D
  simp [DM.crq]
theorem DM.crq_none {D : DM} (K : List Bool) (t at_ : Int) {i : Nat} (h : D.nw i = none) : D.crq K t at_ (i + 1) = D.crq K t at_ i := by
  refine DM.mk_eq ?_ ?_
  · funext j
    by_cases e : j = i
    · subst e; simp [h, DM.crA]
    · by_cases h1 : j < i
      · rw [if_pos h1, if_pos (by omega)]
      · rw [if_neg h1, if_neg (by omega)]
  · funext j
    by_cases e : j = i
    · subst e; simp [h]
    · by_cases h1 : j < i
      · rw [if_pos h1, if_pos (by omega)]
      · rw [if_neg h1, if_neg (by omega)]
theorem DM.crq_some {D : DM} (K : List Bool) (t at_ : Int) {i : Nat} {s : List Nat} (h : D.nw i = some s) : ({ D.crq K t at_ i with la := upd (D.crq K t at_ i).la i (mix (lv K t at_ (rk D.nw i)) s (D.la i)), nw := upd (D.crq K t at_ i).nw i none } : DM) = D.crq K t at_ (i + 1) := by
  refine DM.mk_eq ?_ ?_
  · funext j
    show upd _ i _ j = if j < i + 1 then D.crA K t at_ j else D.la j
    by_cases e : j = i
    · subst e; simp [h, upd, DM.crA]
    · by_cases h1 : j < i
      · simp only [upd, if_neg e, DM.crq]; rw [if_pos h1, if_pos (by omega)]
      · simp only [upd, if_neg e, DM.crq]; rw [if_neg h1, if_neg (by omega)]
  · funext j
    show upd _ i none j = if j < i + 1 then none else D.nw j
    by_cases e : j = i
    · subst e; simp [upd]
    · by_cases h1 : j < i
      · simp only [upd, if_neg e, DM.crq]; rw [if_pos h1, if_pos (by omega)]
      · simp only [upd, if_neg e, DM.crq]; rw [if_neg h1, if_neg (by omega)]
theorem DM.crq_end {D : DM} (hok : D.ok) (K : List Bool) (t at_ : Int) : D.cr K t at_ = ⟨D.n, (D.crq K t at_ D.n).la, (D.crq K t at_ D.n).nw, none, false⟩ := by
  have hn : ∀ j, ¬ j < D.n → D.nw j = none := fun j hj => by
    cases hx : D.nw j with
    | none => rfl
    | some l => exact absurd (hok.nw j l hx).1 hj
  refine DM.mk_eq ?_ ?_
  · funext j
    show D.crA K t at_ j = if j < D.n then D.crA K t at_ j else D.la j
    split
    · rfl
    · rename_i hj; simp [DM.crA, hn j hj]
  · funext j
    show none = if j < D.n then none else D.nw j
    split
    · rfl
    · rename_i hj; exact (hn j hj).symm
def CqR (w W1 wr : World) (r la na cl cn : Nat) (zl zn : Option Addr) (D : DM) (G : Nat → Bool) (K : List Bool) (t at_ : Int) (i : Nat) : Prop := ∃ G', RDk wr r la na cl cn zl zn (D.crq K t at_ i) G' ∧ Kp (X3 r la na) W1 wr ∧ ∀ k, G' k = true → G k = true ∨ w.heap.size ≤ k
def CqP (w : World) (r la na cl cn : Nat) (zl zn : Option Addr) (D : DM) (G : Nat → Bool) (e : Ending) (w' : World) : Prop := (∃ v, e = .returned v) ∧ ∃ G', RDk w' r la na cl cn zl zn D G' ∧ Kp (X3 r la na) w w' ∧ ∀ k, G' k = true → G k = true ∨ w.heap.size ≤ k
set_option maxRecDepth 100000 in
set_option maxHeartbeats 8000000 in
theorem ref_crash {w : World} {r la na cl cn : Nat} {zl zn : Option Addr} {D : DM} {G : Nat → Bool} (h : RDk w r la na cl cn zl zn D G) {z : Option Addr} {KL : List Bool} {c : Nat} (hK : Kb w z KL) (hz : KL ≠ [] → ∀ p, z = some p → X3 r la na p.block = false) (t at_ : Int) :
    Calls Try.prog 17 #[pp r, .agg #[.slice z KL.length c, .int .i64 t, .int .i64 at_]] w (CqP w r la na cl cn zl zn (D.cr KL t at_) G) := by
  have HD := hide h
  have HKb := hide hK
  have HZ := hide hz
  clear h hK hz
  go_enter Try.func17, Try.ntmps17
  go_upto_region 1 with fail
  refine wp_let (fun W1 hW1 => ?_)
  obtain ⟨fb, hfb⟩ : ∃ fb, fb = w.heap.size := ⟨_, rfl⟩
  rw [← hfb]
  have HB1 : Hid (Below w.heap.size w W1) := by show Below _ _ _; rw [hW1]; exact K.alloc (Below.refl _ _) _
  have HF1 : Hid (W1.rangeAt fb 0 [.slice z KL.length c, .int .i64 t, .int .i64 at_] ∧ fb < W1.heap.size ∧ w.heap.size ≤ fb) := by
    have hh : W1.heap[fb]? = some (.cells #[.slice z KL.length c, .int .i64 t, .int .i64 at_] 41) := by rw [hW1, hfb]; exact heap_alloc_new w _
    refine ⟨fun j v hv => ?_, (Array.getElem?_eq_some_iff.1 hh).1, by omega⟩
    unfold World.cell?
    simp only [hh, Nat.zero_add]
    simpa using hv
  clear hW1 hfb
  have HFX : Hid (X3 r la na fb = false) := by
    show _ = _
    cases hx : X3 r la na fb with
    | false => rfl
    | true => have := HD.out.gl fb (HD.out.gx fb hx); have := HF1.out.2.2; omega
  have HD1 : Hid (RDk W1 r la na cl cn zl zn D G) := HD.out.same HB1.out.size (fun k hk => HB1.out.block k (HD.out.gl k hk))
  have HKb1 := hide (HKb.out.keep HB1.out)
  clear HD HKb
  go_wp2_with fail
  go_loopg [4, 5] D.n (fun g' s4 s5 wr => ∃ i : Nat, g' = D.n - i ∧ i ≤ D.n ∧ s4 = .int .i64 (rk D.nw i : Int) ∧ s5 = .int .i64 (i : Int) ∧ CqR w W1 wr r la na cl cn zl zn D G KL t at_ i)
  case atStart => exact ⟨0, rfl, Nat.zero_le _, rfl, rfl, G, by rw [DM.crq_zero]; exact HD1.out, Kp.refl _ _, fun k hk => Or.inl hk⟩
  case round =>
    obtain ⟨i, rfl, hp, rfl, rfl, G', hDp, hKp, hGp⟩ := hrel
    have h0 : wr.cell? ⟨r, 0, none⟩ = some (.slice zl D.n cl) := hDp.c0
    have h1 : wr.cell? ⟨r, 1, none⟩ = some (.slice zn D.n cn) := hDp.c1
    have HDp := hide hDp
    have HKp := hide hKp
    have HGp := hide hGp
    have hn4 := HD1.out.ok.n
    clear hDp hKp hGp
    by_cases hlt : i < D.n
    · obtain ⟨rfl, rfl, a3, a4, a5⟩ := HDp.out.a (Nat.lt_of_le_of_lt (Nat.zero_le _) hlt)
      obtain ⟨vl, hvl, sl⟩ := HDp.out.lv i hlt
      obtain ⟨vn, hvn, sn⟩ := HDp.out.nv i hlt
      have hlt' : (i : Int) < (D.n : Int) := by omega
      have hw : wrap64 ((i : Int) + 1) = ((i + 1 : Nat) : Int) := by unfold wrap64; omega
      have hwr : wrap64 ((rk D.nw i : Int) + 1) = ((rk D.nw i + 1 : Nat) : Int) := by have := rk_le D.nw i; unfold wrap64; omega
      have en : (D.crq KL t at_ i).nw i = D.nw i := if_neg (Nat.lt_irrefl i)
      have el : (D.crq KL t at_ i).la i = D.la i := if_neg (Nat.lt_irrefl i)
      rw [en] at sn
      rw [el] at sl
      have HP := hide (And.intro hlt hn4)
      rcases sn with ⟨e0, rfl⟩ | ⟨s, e0, sn⟩
      · clear hlt hp hn4 en a3 a4 a5 sl el
        go_wp2_with fail
        go_roundg (D.n - (i + 1))
        case measure => have := HP.out.1; omega
        case rel => exact ⟨i + 1, rfl, HP.out.1, by rw [rk_none e0], by rw [hw], G', by rw [DM.crq_none KL t at_ e0]; exact HDp.out, HKp.out, HGp.out⟩
      · have HS := hide (And.intro sl sn)
        have HSec : Hid (sec s ∧ sec (D.la i)) := ⟨(HD1.out.ok.nw i s e0).2, HD1.out.ok.la i⟩
        obtain ⟨g, c2, rfl, _⟩ := sn
        obtain ⟨g1, c1, rfl, _⟩ := sl
        have hrl := HDp.out.rl
        have hnal : na < wr.heap.size := HDp.out.gl na (HDp.out.gx na (X3_of.2 (Or.inr (Or.inr rfl))))
        have hfl : fb < wr.heap.size := Nat.lt_of_lt_of_le HF1.out.2.1 HKp.out.size
        have hfn : fb ≠ la := fun e => by
          have := HFX.out
          rw [X3_of.2 (Or.inr (Or.inl e))] at this
          cases this
        have HC0 : Hid (∀ w' : World, wr.grownBy w' (some la) → w'.cell? ⟨r, 0, none⟩ = some (.slice (some ⟨la, 0, none⟩) D.n cl)) := fun w' hg => (World.cell?_of_block (w := wr) (hg.block r hrl (fun e => a3 (Option.some.inj e).symm))).trans h0
        have HC1 : Hid (∀ w' : World, wr.grownBy w' (some la) → w'.cell? ⟨r, 1, none⟩ = some (.slice (some ⟨na, 0, none⟩) D.n cn)) := fun w' hg => (World.cell?_of_block (w := wr) (hg.block r hrl (fun e => a3 (Option.some.inj e).symm))).trans h1
        have HCN : Hid (∀ w' : World, wr.grownBy w' (some la) → w'.cell? ⟨na, i, none⟩ = some (.slice (some ⟨g, 0, none⟩) 64 c2)) := fun w' hg => (World.cell?_of_block (w := wr) (hg.block na hnal (fun e => a5 (Option.some.inj e).symm))).trans hvn
        have HCF : Hid (∀ w' : World, wr.grownBy w' (some la) → w'.rangeAt fb 0 [.slice z KL.length c, .int .i64 t, .int .i64 at_]) := fun w' hg j v hv => (World.cell?_of_block (w := wr) (hg.block fb hfl (fun e => hfn (Option.some.inj e)))).trans ((HKp.out.cell (p := ⟨fb, 0 + j, none⟩) HF1.out.2.1 HFX.out).trans (HF1.out.1 j v hv))
        have HKbr : Hid (Kb wr.drew z KL) := by
          by_cases e1 : KL = []
          · exact Or.inl e1
          rcases HKb1.out with e | ⟨kb, ko, e, hr⟩
          · exact Or.inl e
          · exact Or.inr ⟨kb, ko, e, fun j v hv => (HKp.out.cell (p := ⟨kb, ko + j, none⟩) (World.block_lt_of_cell? W1 _ (hr j v hv)) (HZ.out e1 ⟨kb, ko, none⟩ e)).trans (hr j v hv)⟩
        have HVZ := hide (And.intro hvl (HDp.out.lz i hlt))
        have HXl : Hid (∀ k, X3 r la na k = true → k < wr.drew.heap.size) := fun k hk => HDp.out.gl k (HDp.out.gx k hk)
        have hlal : la < wr.heap.size := HDp.out.gl la (HDp.out.gx la (X3_of.2 (Or.inr (Or.inl rfl))))
        have HLal := hide hlal
        have HCL := hide (ref_left (w := wr.drew) (c := c) (HS.out.1.same (fun _ _ _ => rfl)) (HS.out.2.same (fun _ _ _ => rfl)) HSec.out.2 HSec.out.1 HXl.out (rk D.nw i) HKbr.out t at_)
        clear hp hn4 a3 a4 a5 hrl hnal hvl hfl hfn hlal
        go_upto_region 6 with fail
        refine wp_region_noPanic ?_
        refine wp_region_held_drew (S := fun w' => wr.grownBy w' (some la)) (by kernel_rfl) ⟨rfl, rfl, rfl, Nat.le_refl _, fun _ _ _ => rfl⟩ (fun hS0 => ?_)
        refine wpAnyH_take (i := 0) (v := pp r) rfl (by kernel_rfl) (by kernel_rfl) (by kernel_rfl) (fun _ _ _ h => h) (Or.inl ⟨by rfl, fun w' _ => by go_simp⟩) hS0 ?_
        simp only [Act.put, List.getElem_toArray, List.getElem_cons_zero, List.setIfInBounds_toArray, List.set_cons_zero, List.set_cons_succ]
        refine wpAnyH_take (i := 1) (v := pp r) rfl (by kernel_rfl) (by kernel_rfl) (by kernel_rfl) (fun _ _ _ h => h) (Or.inl ⟨by rfl, fun w' _ => by go_simp⟩) hS0 ?_
        simp only [Act.put, List.getElem_toArray, List.getElem_cons_zero, List.getElem_cons_succ, List.setIfInBounds_toArray, List.set_cons_zero, List.set_cons_succ]
        refine wpAnyH_take (i := 2) (v := pp r) rfl (by kernel_rfl) (by kernel_rfl) (by kernel_rfl) (fun _ _ _ h => h) (Or.inl ⟨by rfl, fun w' _ => by go_simp⟩) hS0 ?_
        simp only [Act.put, List.getElem_toArray, List.getElem_cons_zero, List.getElem_cons_succ, List.setIfInBounds_toArray, List.set_cons_zero, List.set_cons_succ]
        refine wpAnyH_take (i := 3) (v := .slice (some ⟨la, 0, none⟩) D.n cl) rfl (by kernel_rfl) (by kernel_rfl) (by kernel_rfl) (fun _ _ _ h => h) (Or.inl ⟨by rfl, fun w' hS => by have hc := HC0.out _ hS; go_simp⟩) hS0 ?_
        simp only [Act.put, List.getElem_toArray, List.getElem_cons_zero, List.getElem_cons_succ, List.setIfInBounds_toArray, List.set_cons_zero, List.set_cons_succ]
        refine wpAnyH_take (i := 4) (v := .int .i64 (i : Int)) rfl (by kernel_rfl) (by kernel_rfl) (by kernel_rfl) (fun _ _ _ h => h) (Or.inl ⟨by rfl, fun w' _ => by go_simp⟩) hS0 ?_
        simp only [Act.put, List.getElem_toArray, List.getElem_cons_zero, List.getElem_cons_succ, List.setIfInBounds_toArray, List.set_cons_zero, List.set_cons_succ]
        refine wpAnyH_take (i := 5) (v := pp r) rfl (by kernel_rfl) (by kernel_rfl) (by kernel_rfl) (fun _ _ _ h => h) (Or.inl ⟨by rfl, fun w' _ => by go_simp⟩) hS0 ?_
        simp only [Act.put, List.getElem_toArray, List.getElem_cons_zero, List.getElem_cons_succ, List.setIfInBounds_toArray, List.set_cons_zero, List.set_cons_succ]
        refine wpAnyH_take (i := 6) (v := pp r) rfl (by kernel_rfl) (by kernel_rfl) (by kernel_rfl) (fun _ _ _ h => h) (Or.inl ⟨by rfl, fun w' _ => by go_simp⟩) hS0 ?_
        simp only [Act.put, List.getElem_toArray, List.getElem_cons_zero, List.getElem_cons_succ, List.setIfInBounds_toArray, List.set_cons_zero, List.set_cons_succ]
        refine wpAnyH_take (i := 7) (v := pp r) rfl (by kernel_rfl) (by kernel_rfl) (by kernel_rfl) (fun _ _ _ h => h) (Or.inl ⟨by rfl, fun w' _ => by go_simp⟩) hS0 ?_
        simp only [Act.put, List.getElem_toArray, List.getElem_cons_zero, List.getElem_cons_succ, List.setIfInBounds_toArray, List.set_cons_zero, List.set_cons_succ]
        refine wpAnyH_take (i := 8) (v := .slice (some ⟨la, 0, none⟩) D.n cl) rfl (by kernel_rfl) (by kernel_rfl) (by kernel_rfl) (fun _ _ _ h => h) (Or.inl ⟨by rfl, fun w' hS => by have hc := HC0.out _ hS; go_simp⟩) hS0 ?_
        simp only [Act.put, List.getElem_toArray, List.getElem_cons_zero, List.getElem_cons_succ, List.setIfInBounds_toArray, List.set_cons_zero, List.set_cons_succ]
        refine wpAnyH_take (i := 9) (v := .int .i64 (i : Int)) rfl (by kernel_rfl) (by kernel_rfl) (by kernel_rfl) (fun _ _ _ h => h) (Or.inl ⟨by rfl, fun w' _ => by go_simp⟩) hS0 ?_
        simp only [Act.put, List.getElem_toArray, List.getElem_cons_zero, List.getElem_cons_succ, List.setIfInBounds_toArray, List.set_cons_zero, List.set_cons_succ]
        refine wpAnyH_take (i := 10) (v := .pointer (some ⟨la, i, none⟩)) rfl (by kernel_rfl) (by kernel_rfl) (by kernel_rfl) (fun _ _ _ h => h) (Or.inl ⟨by rfl, fun w' _ => by go_simp⟩) hS0 ?_
        simp only [Act.put, List.getElem_toArray, List.getElem_cons_zero, List.getElem_cons_succ, List.setIfInBounds_toArray, List.set_cons_zero, List.set_cons_succ]
        refine wpAnyH_take (i := 12) (v := pp r) rfl (by kernel_rfl) (by kernel_rfl) (by kernel_rfl) (fun _ _ _ h => h) (Or.inl ⟨by rfl, fun w' _ => by go_simp⟩) hS0 ?_
        simp only [Act.put, List.getElem_toArray, List.getElem_cons_zero, List.getElem_cons_succ, List.setIfInBounds_toArray, List.set_cons_zero, List.set_cons_succ]
        refine wpAnyH_take (i := 13) (v := pp r) rfl (by kernel_rfl) (by kernel_rfl) (by kernel_rfl) (fun _ _ _ h => h) (Or.inl ⟨by rfl, fun w' _ => by go_simp⟩) hS0 ?_
        simp only [Act.put, List.getElem_toArray, List.getElem_cons_zero, List.getElem_cons_succ, List.setIfInBounds_toArray, List.set_cons_zero, List.set_cons_succ]
        refine wpAnyH_take (i := 14) (v := .pointer (some ⟨r, 1, none⟩)) rfl (by kernel_rfl) (by kernel_rfl) (by kernel_rfl) (fun _ _ _ h => h) (Or.inl ⟨by rfl, fun w' _ => by go_simp⟩) hS0 ?_
        simp only [Act.put, List.getElem_toArray, List.getElem_cons_zero, List.getElem_cons_succ, List.setIfInBounds_toArray, List.set_cons_zero, List.set_cons_succ]
        refine wpAnyH_take (i := 15) (v := .slice (some ⟨na, 0, none⟩) D.n cn) rfl (by kernel_rfl) (by kernel_rfl) (by kernel_rfl) (fun _ _ _ h => h) (Or.inl ⟨by rfl, fun w' hS => by have hc := HC1.out _ hS; go_simp⟩) hS0 ?_
        simp only [Act.put, List.getElem_toArray, List.getElem_cons_zero, List.getElem_cons_succ, List.setIfInBounds_toArray, List.set_cons_zero, List.set_cons_succ]
        refine wpAnyH_take (i := 16) (v := .int .i64 (i : Int)) rfl (by kernel_rfl) (by kernel_rfl) (by kernel_rfl) (fun _ _ _ h => h) (Or.inl ⟨by rfl, fun w' _ => by go_simp⟩) hS0 ?_
        simp only [Act.put, List.getElem_toArray, List.getElem_cons_zero, List.getElem_cons_succ, List.setIfInBounds_toArray, List.set_cons_zero, List.set_cons_succ]
        refine wpAnyH_take (i := 17) (v := .pointer (some ⟨na, i, none⟩)) rfl (by kernel_rfl) (by kernel_rfl) (by kernel_rfl) (fun _ _ _ h => h) (Or.inl ⟨by rfl, fun w' _ => by go_simp⟩) hS0 ?_
        simp only [Act.put, List.getElem_toArray, List.getElem_cons_zero, List.getElem_cons_succ, List.setIfInBounds_toArray, List.set_cons_zero, List.set_cons_succ]
        refine wpAnyH_take (i := 18) (v := .slice (some ⟨g, 0, none⟩) 64 c2) rfl (by kernel_rfl) (by kernel_rfl) (by kernel_rfl) (fun _ _ _ h => h) (Or.inl ⟨by rfl, fun w' hS => by have hc := HCN.out _ hS; go_simp⟩) hS0 ?_
        simp only [Act.put, List.getElem_toArray, List.getElem_cons_zero, List.getElem_cons_succ, List.setIfInBounds_toArray, List.set_cons_zero, List.set_cons_succ]
        refine wpAnyH_take (i := 19) (v := .int .i64 (rk D.nw i : Int)) rfl (by kernel_rfl) (by kernel_rfl) (by kernel_rfl) (fun _ _ _ h => h) (Or.inl ⟨by rfl, fun w' _ => by go_simp⟩) hS0 ?_
        simp only [Act.put, List.getElem_toArray, List.getElem_cons_zero, List.getElem_cons_succ, List.setIfInBounds_toArray, List.set_cons_zero, List.set_cons_succ]
        refine wpAnyH_take (i := 20) (v := .agg #[.slice z KL.length c, .int .i64 t, .int .i64 at_]) rfl (by kernel_rfl) (by kernel_rfl) (by kernel_rfl) (fun _ _ _ h => h) (yieldsIf_load_mid (by rfl) 41 _ rfl fb 0 (by rfl) ([.slice z KL.length c, .int .i64 t, .int .i64 at_]) _ (fun w' hS => HCF.out _ hS) Try.underlying41 rfl (by kernel_rfl)) hS0 ?_
        simp only [Act.put, List.getElem_toArray, List.getElem_cons_zero, List.getElem_cons_succ, List.setIfInBounds_toArray, List.set_cons_zero, List.set_cons_succ]
        refine wpAnyH_ready (rs := [11]) (by kernel_rfl) (by simp) (AllReadyH.cons rfl (fun Kt hK => ?_) AllReadyH.nil)
        refine wanted_pos rfl ?_
        refine wp_load1 rfl (by rfl) HVZ.out.1 (hK.out _ _ hS0 (fun _ => ?_))
        clear hK Kt
        simp only [Act.put, List.getElem_toArray, List.getElem_cons_zero, List.getElem_cons_succ, List.setIfInBounds_toArray, List.set_cons_zero, List.set_cons_succ]
        refine wpAnyH_ready (rs := [21]) (by kernel_rfl) (by simp) (AllReadyH.cons rfl (fun Kt hK => ?_) AllReadyH.nil)
        refine wanted_pos rfl ?_
        refine wp_call (R := fun x w' => LfP wr.drew G' r la na (mix (lv KL t at_ (rk D.nw i)) s (D.la i)) (.returned x) w') (vs := #[.slice (some ⟨g1, 0, none⟩) 64 c1, .slice (some ⟨g, 0, none⟩) 64 c2, .int .i64 (rk D.nw i : Int), .agg #[.slice z KL.length c, .int .i64 t, .int .i64 at_]]) rfl (by simp only [List.map_toArray, List.map_cons, List.map_nil]; rfl) (by go_simp) (Calls.mono HCL.out (fun e w' he => by obtain ⟨v, G2, e1, hh⟩ := he; exact ⟨v, e1, v, G2, rfl, hh⟩)) (fun x W6 hr => ?_)
        obtain ⟨v2, G2, ev, hsl2, hb6, hs1, hs2⟩ := hr
        cases ev
        have HSl2 := hide hsl2
        obtain ⟨g3, c3, rfl, _⟩ := hsl2
        have hS6 : wr.grownBy W6 (some la) := ⟨hb6.os, hb6.tape, hb6.output, hb6.size, fun k hk _ => hb6.block k hk⟩
        refine hK.out _ _ hS6 (fun _ => ?_)
        clear hK Kt
        simp only [Act.put, List.getElem_toArray, List.getElem_cons_zero, List.getElem_cons_succ, List.setIfInBounds_toArray, List.set_cons_zero, List.set_cons_succ]
        refine wpAnyH_take (i := 22) (v := .pointer (some ⟨la, i, none⟩)) rfl (by kernel_rfl) (by kernel_rfl) (by kernel_rfl) (fun _ _ _ h => h) (Or.inl ⟨by rfl, fun w' _ => by go_simp⟩) hS6 ?_
        simp only [Act.put, List.getElem_toArray, List.getElem_cons_zero, List.getElem_cons_succ, List.setIfInBounds_toArray, List.set_cons_zero, List.set_cons_succ]
        refine wpAnyH_ready (rs := [23]) (by kernel_rfl) (by simp) (AllReadyH.cons rfl (fun Kt hK => ?_) AllReadyH.nil)
        refine wanted_pos rfl ?_
        have hbl : W6.heap[la]? = wr.heap[la]? := hb6.block la HLal.out
        refine wp_store1 rfl (by rfl) (by rfl) ((World.cell?_of_block (w := wr) hbl).trans HVZ.out.1) ((World.frozen?_of_block (w := wr) hbl).trans HVZ.out.2) (hK.out _ _ ?_ (fun _ => ?_))
        · exact grown_tr hS6 ⟨rfl, rfl, rfl, by simp, fun k hk hne => Below.heap_setCell _ _ _ _ (fun e => hne (by rw [e]))⟩
        clear hK Kt
        refine wpAnyH_done (by kernel_rfl) ?_ _
        refine NoPanic.normal ?_
        have hDd : RDk W6 r la na cl cn (some ⟨la, 0, none⟩) (some ⟨na, 0, none⟩) (D.crq KL t at_ i) G' := HDp.out.same hb6.size (fun k hk => hb6.block k (HDp.out.gl k hk))
        have hG2 : ∀ k, G2 k = true → k < W6.heap.size := fun k hk => by
          rcases hs2 k hk with h' | h'
          · exact hDd.gl k h'
          · exact h'.2
        have hD2 := hDd.setl (i := i) (v := .slice (some ⟨g3, 0, none⟩) 64 c3) (G' := G2) hlt hs1 hG2 (mix_sec HSec.out.1 HSec.out.2) HSl2.out
        have hK2 : Kp (X3 r la na) W1 (W6.setCell ⟨la, i, none⟩ (.slice (some ⟨g3, 0, none⟩) 64 c3)) := ((HKp.out.grow (K.drew (Below.refl _ wr))).grow hb6).setCell (p := ⟨la, i, none⟩) (Or.inr (X3_of.2 (Or.inr (Or.inl rfl)))) _
        have HG2 : Hid (∀ k, G2 k = true → G k = true ∨ w.heap.size ≤ k) := fun k hk => by
          rcases hs2 k hk with h' | h'
          · exact HGp.out k h'
          · right
            have h1 := HB1.out.size
            have h2 := HKp.out.size
            have h3 : wr.drew.heap.size = wr.heap.size := rfl
            omega
        have hNN : ∃ vv, (W6.setCell ⟨la, i, none⟩ (.slice (some ⟨g3, 0, none⟩) 64 c3)).cell? ⟨na, i, none⟩ = some vv := (hD2.nv i hlt).imp fun _ h => h.1
        obtain ⟨vv, hvv⟩ := hNN
        generalize W6.setCell ⟨la, i, none⟩ (.slice (some ⟨g3, 0, none⟩) 64 c3) = W7 at hD2 hK2 hvv ⊢
        have d1 : W7.cell? ⟨r, 1, none⟩ = some (.slice (some ⟨na, 0, none⟩) D.n cn) := hD2.c1
        have dz : W7.frozen? ⟨na, i, none⟩ = false := hD2.nz i hlt
        have HD2 := hide hD2
        have HK2 := hide hK2
        clear hD2 hK2 hDd hS0 HC0 HC1 HCN HCF HVZ hlt h0 h1 hvn hb6 hS6 hs1 hs2 hG2 hbl HKbr HXl HCL
        simp only [Act.put, List.getElem_toArray, List.getElem_cons_zero, List.getElem_cons_succ]
        go_wp2_with fail
        go_roundg (D.n - (i + 1))
        case measure => have := HP.out.1; omega
        case rel =>
          have hD3 := HD2.out.setn (i := i) (v := .slice none 0 0) (nv := none) (G' := G2) HP.out.1 (fun _ h => h) HD2.out.gl (Or.inl ⟨rfl, rfl⟩)
          refine ⟨i + 1, rfl, HP.out.1, by rw [hwr, rk_some e0], by rw [hw], G2, ?_, HK2.out.setCell (p := ⟨na, i, none⟩) (Or.inr (X3_of.2 (Or.inr (Or.inr rfl)))) _, HG2.out⟩
          rw [← DM.crq_some KL t at_ e0]
          exact hD3
    · obtain rfl : i = D.n := by omega
      have c2 := HDp.out.c2
      have c3 := HDp.out.c3
      have z2 := HDp.out.z 2 (by omega)
      have z3 := HDp.out.z 3 (by omega)
      clear hlt hp hn4
      go_wp2_with fail
      rw [DM.crq_end HD1.out.ok]
      refine bodyPost_end (by simp [results, Try.results17]; rfl) rfl ⟨⟨_, rfl⟩, G', HDp.out.head (by simp) (fun k hk _ => (Below.heap_setCell _ _ _ _ hk).trans (Below.heap_setCell _ _ _ _ hk)) (fun i => (World.frozen?_setCell _ _ _ _).trans (World.frozen?_setCell _ _ _ _)) ?_ ?_ ?_ ?_ rfl rfl rfl (fun j hj => by cases hj), (((Kp.of HB1.out).trans HKp.out).trans (kp_set _ _)).trans (kp_set _ _), HGp.out⟩
      all_goals simp [go_sem, *, fuI, DM.crq]
end Go.Proofs.Ytpophfeommlajaa
namespace Go.Proofs.Ytpophfeommlajaa
set_option maxRecDepth 100000
open Go.RowKit Go.Maps
attribute [local go_sem ↓] Go.wp_at_zero Go.wp_at_succ

structure TwR (w wr : World) (b lb mb r la na cl cn : Nat) (zl zn : Option Addr) (D E : DM) (G : Nat → Bool) : Prop where
  f : FzR w wr b lb mb D
  g : RDk wr r la na cl cn zl zn E G
  q : ∀ k, G k = true → w.heap.size ≤ k ∧ X3 b lb mb k = false
section
variable {w wr w' : World} {b lb mb r la na cl cn : Nat} {zl zn : Option Addr} {D E D' E' : DM} {G G' : Nat → Bool}
theorem TwR.ap (h : TwR w wr b lb mb r la na cl cn zl zn D E G) {k : Nat} (hk : X3 b lb mb k = true) : X3 r la na k = false := by
  cases hx : X3 r la na k with
  | false => rfl
  | true =>
    have := (h.q k (h.g.gx k hx)).2
    rw [hk] at this
    cases this
theorem TwR.grow (h : TwR w wr b lb mb r la na cl cn zl zn D E G) (hB : Below wr.heap.size wr w') : TwR w w' b lb mb r la na cl cn zl zn D E G :=
  ⟨h.f.grow hB, h.g.same hB.size (fun k hk => hB.block k (h.g.gl k hk)), h.q⟩
theorem TwR.old (h : TwR w wr b lb mb r la na cl cn zl zn D E G) {k : Nat} (hk : k < w.heap.size) : X3 r la na k = false := by
  cases hx : X3 r la na k with
  | false => rfl
  | true => have := (h.q k (h.g.gx k hx)).1; omega
end
end Go.Proofs.Ytpophfeommlajaa
