/- Layer 14: the document's own Load, Save and Mend, over its disk. -/
import Derived.Test.YtjgpopjpmfkfmaaR13D
import Derived.Test.YtjgpopjpmfkfmaaM15B
namespace Go.Proofs.Ytjgpopjpmfkfmaa
set_option maxRecDepth 100000
open Go.RowKit Go.Maps
attribute [local go_sem ↓] Go.wp_at_zero Go.wp_at_succ

section
variable {w w' : World} {r la na cl cn : Nat} {zl zn : Option Addr} {D : DM} {G G' : Nat → Bool}
theorem RDk.keep (h : RDk w r la na cl cn zl zn D G) (hB : Below w.heap.size w w') : RDk w' r la na cl cn zl zn D G := h.same hB.size (fun k hk => hB.block k (h.gl k hk))
theorem Sl.keep {v : Value} {l : List Nat} (h : Sl w G r la na v l) (hg : ∀ k, G k = true → k < w.heap.size) (hB : Below w.heap.size w w') : Sl w' G r la na v l := h.same (fun k hk _ => hB.block k (hg k hk))
theorem Sl.kp {v : Value} {l : List Nat} (h : Sl w G r la na v l) (hg : ∀ k, G k = true → k < w.heap.size) (hK : Kp (X3 r la na) w w') : Sl w' G r la na v l := h.same (fun k hk hx => hK.block k (hg k hk) hx)
theorem RDk.out (h : RDk w r la na cl cn zl zn D G) {g : Nat} (hg : w.heap.size ≤ g) : X3 r la na g = false := by
  cases hx : X3 r la na g with
  | false => rfl
  | true => have := h.gl g (h.gx g hx); omega
theorem Sl.ba {v : Value} {l : List Nat} (h : Sl w G r la na v l) (hl : sec l) : ∃ g c, v = .slice (some ⟨g, 0, none⟩) 64 c ∧ BA w (some ⟨g, 0, none⟩) 64 (fun i => l.getD i 0) ∧ X3 r la na g = false := by
  obtain ⟨g, c, e, h1, _, h3, _⟩ := h
  exact ⟨g, c, e, ba_sec h1 hl, h3⟩
end
/-- A sector's bytes that the document's disk hands out. -/
def RlP (w : World) (G : Nat → Bool) (r la na : Nat) (l : List Nat) (er : Int) (e : Ending) (w' : World) : Prop := ∃ v, e = .returned (.tuple #[v, .int .i64 er]) ∧ Below w.heap.size w w' ∧ ((l = [] ∧ v = .slice none 0 0) ∨ sec l ∧ Sl w' G r la na v l)
def SgP (w : World) (G : Nat → Bool) (r la na : Nat) (l : List Nat) (e : Ending) (w' : World) : Prop := ∃ g c, e = .returned (.tuple #[.slice (some ⟨g, 0, none⟩) 64 c, .int .i64 0]) ∧ w' = w ∧ Sl w G r la na (.slice (some ⟨g, 0, none⟩) 64 c) l
theorem ref_got {w : World} {r la na cl cn : Nat} {zl zn : Option Addr} {D : DM} {G : Nat → Bool} (h : RDk w r la na cl cn zl zn D G) {i : Int} (he : D.rdE i = 0) : Calls Try.prog 41 #[pp r, .int .i64 i] w (SgP w G r la na (D.rdB i)) :=
  (ref_read h i).mono fun e w' hp => by
    obtain ⟨v, rfl, rfl, hv⟩ := hp
    have hs := rdB_sec h.ok he
    rcases hv with ⟨e0, _⟩ | ⟨_, hv⟩
    · have := hs.1; rw [e0] at this; cases this
    · obtain ⟨g, c, rfl, hh⟩ := hv
      exact ⟨g, c, by rw [he], rfl, g, c, rfl, hh⟩
theorem ref_gotE {w : World} {r la na cl cn : Nat} {zl zn : Option Addr} {D : DM} {G : Nat → Bool} (h : RDk w r la na cl cn zl zn D G) {i : Int} : Calls Try.prog 41 #[pp r, .int .i64 i] w fun e w' => ∃ x n c, e = .returned (.tuple #[.slice x n c, .int .i64 (D.rdE i)]) ∧ w' = w :=
  (ref_read h i).mono fun e w' hp => by
    obtain ⟨v, rfl, rfl, hv⟩ := hp
    rcases hv with ⟨_, rfl⟩ | ⟨_, g, c, rfl, _⟩
    · exact ⟨_, _, _, rfl, rfl⟩
    · exact ⟨_, _, _, rfl, rfl⟩
set_option maxRecDepth 100000 in
set_option maxHeartbeats 4000000 in
theorem ref_load {w : World} {r la na cl cn : Nat} {zl zn : Option Addr} {D : DM} {G : Nat → Bool} (h : RDk w r la na cl cn zl zn D G) {a : Int} (ha : few9 a) : Calls Try.prog 39 #[pp r, .int .i64 a] w (RlP w G r la na (D.ldB a) (D.ldE a)) := by
  have HD := hide h
  have w1 : wrap64 (a + 1) = a + 1 := by unfold few9 at ha; unfold wrap64; omega
  have w2 : wrap64 (a + 2) = a + 2 := by unfold few9 at ha; unfold wrap64; omega
  clear h ha
  by_cases e0 : D.rdE a = 0
  · by_cases e1 : D.rdE (a + 1) = 0
    · by_cases e2 : D.rdE (a + 2) = 0
      · have he : D.ldE a = 0 := by unfold DM.ldE; rw [if_pos e0, if_pos e1, e2]
        have HS := hide (And.intro (rdB_sec HD.out.ok e0) (And.intro (rdB_sec HD.out.ok e1) (rdB_sec HD.out.ok e2)))
        have HV := hide (ldB_of he)
        have H0 := hide (ref_got HD.out e0)
        have H1 := hide (ref_got HD.out e1)
        have H2 := hide (ref_got HD.out e2)
        rw [he]
        clear e0 e1 e2 he
        go_enter Try.func39, Try.ntmps39
        go_upto_region 4 with (go_at_call 41; refine Calls.mono H0.out ?_; rintro e W1 ⟨g0, c0, rfl, rfl, hs⟩; have HS0 := hide hs; clear hs)
        go_upto_region 7 with (rw [w1]; go_at_call 41; refine Calls.mono H1.out ?_; rintro e W1 ⟨g1, c1, rfl, rfl, hs⟩; have HS1 := hide hs; clear hs)
        go_upto_region 10 with (rw [w2]; go_at_call 41; refine Calls.mono H2.out ?_; rintro e W1 ⟨g2, c2, rfl, rfl, hs⟩; have HS2 := hide hs; clear hs)
        have HC : Hid (Calls Try.prog 32 #[.slice (some ⟨g1, 0, none⟩) 64 c1, .slice (some ⟨g2, 0, none⟩) 64 c2] W1 fun e w' => e = .returned (.bool (decide (D.rdB (a + 1) = D.rdB (a + 2)))) ∧ Below W1.heap.size W1 w') := by
          obtain ⟨g1', c1', q1, b1, _⟩ := HS1.out.ba HS.out.2.1
          obtain ⟨g2', c2', q2, b2, _⟩ := HS2.out.ba HS.out.2.2
          cases q1
          cases q2
          have h := same_fl (c := c1) (c2 := c2) b1 b2 (by omega)
          rw [fl_of HS.out.2.1.1, fl_of HS.out.2.2.1] at h
          exact h
        by_cases hq : D.rdB (a + 1) = D.rdB (a + 2)
        · rw [decide_eq_true hq] at HC
          have HL : Hid (D.ldB a = D.rdB (a + 2)) := HV.out.trans (if_pos hq)
          clear hq
          go_wp2_with (go_at_call 32; refine Calls.mono HC.out ?_; rintro e W2 ⟨rfl, hB⟩; have HB := hide hB; clear hB)
          exact bodyPost_ret (by simp [results, Try.results39]; rfl) rfl ⟨_, rfl, HB.out, Or.inr ⟨by rw [HL.out]; exact HS.out.2.2, by rw [HL.out]; exact HS2.out.keep HD.out.gl HB.out⟩⟩
        · rw [decide_eq_false hq] at HC
          have HL : Hid (D.ldB a = D.rdB a) := HV.out.trans (if_neg hq)
          clear hq
          go_wp2_with (go_at_call 32; refine Calls.mono HC.out ?_; rintro e W2 ⟨rfl, hB⟩; have HB := hide hB; clear hB)
          exact bodyPost_ret (by simp [results, Try.results39]; rfl) rfl ⟨_, rfl, HB.out, Or.inr ⟨by rw [HL.out]; exact HS.out.1, by rw [HL.out]; exact HS0.out.keep HD.out.gl HB.out⟩⟩
      · have he : D.ldE a = D.rdE (a + 2) := by unfold DM.ldE; rw [if_pos e0, if_pos e1]
        have HV : Hid (D.ldB a = []) := ldB_not (by rw [he]; exact e2)
        have H0 := hide (ref_got HD.out e0)
        have H1 := hide (ref_got HD.out e1)
        have H2 := hide (ref_gotE HD.out (i := a + 2))
        rw [he]
        have hne : (D.rdE (a + 2) != 0) = true := by simp [e2]
        have hne' : (D.rdE (a + 2) == 0) = false := by simp [e2]
        clear e0 e1 e2 he
        go_enter Try.func39, Try.ntmps39
        go_upto_region 4 with (go_at_call 41; refine Calls.mono H0.out ?_; rintro e W1 ⟨g0, c0, rfl, rfl, hs⟩; clear hs)
        go_upto_region 7 with (rw [w1]; go_at_call 41; refine Calls.mono H1.out ?_; rintro e W1 ⟨g1, c1, rfl, rfl, hs⟩; clear hs)
        go_wp2_with (rw [w2]; go_at_call 41; refine Calls.mono H2.out ?_; rintro e W1 ⟨x, n, c, rfl, rfl⟩)
        exact bodyPost_ret (by simp [results, Try.results39]) rfl ⟨_, rfl, Below.refl _ _, Or.inl ⟨HV.out, rfl⟩⟩
    · have he : D.ldE a = D.rdE (a + 1) := by unfold DM.ldE; rw [if_pos e0, if_neg e1]
      have HV : Hid (D.ldB a = []) := ldB_not (by rw [he]; exact e1)
      have H0 := hide (ref_got HD.out e0)
      have H1 := hide (ref_gotE HD.out (i := a + 1))
      rw [he]
      have hne : (D.rdE (a + 1) != 0) = true := by simp [e1]
      have hne' : (D.rdE (a + 1) == 0) = false := by simp [e1]
      clear e0 e1 he
      go_enter Try.func39, Try.ntmps39
      go_upto_region 4 with (go_at_call 41; refine Calls.mono H0.out ?_; rintro e W1 ⟨g0, c0, rfl, rfl, hs⟩; clear hs)
      go_wp2_with (rw [w1]; go_at_call 41; refine Calls.mono H1.out ?_; rintro e W1 ⟨x, n, c, rfl, rfl⟩)
      exact bodyPost_ret (by simp [results, Try.results39]) rfl ⟨_, rfl, Below.refl _ _, Or.inl ⟨HV.out, rfl⟩⟩
  · have he : D.ldE a = D.rdE a := by unfold DM.ldE; rw [if_neg e0]
    have HV : Hid (D.ldB a = []) := ldB_not (by rw [he]; exact e0)
    have H0 := hide (ref_gotE HD.out (i := a))
    rw [he]
    have hne : (D.rdE a != 0) = true := by simp [e0]
    have hne' : (D.rdE a == 0) = false := by simp [e0]
    clear e0 he
    go_enter Try.func39, Try.ntmps39
    go_wp2_with (go_at_call 41; refine Calls.mono H0.out ?_; rintro e W1 ⟨x, n, c, rfl, rfl⟩)
    exact bodyPost_ret (by simp [results, Try.results39]) rfl ⟨_, rfl, Below.refl _ _, Or.inl ⟨HV.out, rfl⟩⟩
/-- While the document's Save writes the three. -/
structure RsR (w wr : World) (r la na cl cn : Nat) (zl zn : Option Addr) (E : DM) (G G' : Nat → Bool) : Prop where
  d : RDk wr r la na cl cn zl zn E G'
  k : Kp (X3 r la na) w wr
  g : ∀ k, G' k = true → G k = true ∨ w.heap.size ≤ k
theorem RsR.grow {w wr w' : World} {r la na cl cn : Nat} {zl zn : Option Addr} {E : DM} {G G' : Nat → Bool} (h : RsR w wr r la na cl cn zl zn E G G') (hB : Below wr.heap.size wr w') : RsR w w' r la na cl cn zl zn E G G' := ⟨h.d.keep hB, h.k.trans (Kp.of hB), h.g⟩
theorem RsR.next {w wr w' : World} {r la na cl cn : Nat} {zl zn : Option Addr} {E E' : DM} {G G' G2 : Nat → Bool} (h : RsR w wr r la na cl cn zl zn E G G') (hd : RDk w' r la na cl cn zl zn E' G2) (hK : Kp (X3 r la na) wr w') (hg : ∀ k, G2 k = true → G' k = true ∨ wr.heap.size ≤ k) : RsR w w' r la na cl cn zl zn E' G G2 :=
  ⟨hd, h.k.trans hK, fun k hk => by
    rcases hg k hk with h1 | h1
    · exact h.g k h1
    · exact Or.inr (Nat.le_trans h.k.size h1)⟩
def RsQ (w wr : World) (r la na cl cn : Nat) (zl zn : Option Addr) (E : DM) (G : Nat → Bool) : Prop := ∃ G', RsR w wr r la na cl cn zl zn E G G'
theorem RsR.post {w wr : World} {r la na cl cn : Nat} {zl zn : Option Addr} {E : DM} {G G' : Nat → Bool} (h : RsR w wr r la na cl cn zl zn E G G') {er : Int} {e : Ending} (he : e = .returned (.int .i64 er)) : RwP w r la na cl cn zl zn E G er e wr := ⟨he, G', h.d, h.k, h.g⟩
set_option maxRecDepth 100000 in
set_option maxHeartbeats 4000000 in
theorem ref_save {w : World} {r la na cl cn : Nat} {zl zn : Option Addr} {D : DM} {G : Nat → Bool} (h : RDk w r la na cl cn zl zn D G) {a : Int} (ha : few9 a) {x : Option Addr} {m c : Nat} {f : Nat → Nat} (hb : BA w x m f) (hm : m ≤ 64) (hx : 0 < m → ∀ p, x = some p → X3 r la na p.block = false) :
    Calls Try.prog 53 #[pp r, .int .i64 a, .slice x m c] w (RwP w r la na cl cn zl zn (sv D a (pd f m) 3).1 G (sv D a (pd f m) 3).2) := by
  have HD := hide h
  have HA := hide ha
  have HB := hide hb
  have HX := hide hx
  have HL := hide (pd_sec hb.lt m)
  have hm' : decide ((64 : Int) < (m : Int)) = false := decide_eq_false (by omega)
  clear h ha hb hx
  go_enter Try.func53, Try.ntmps53
  go_wp2_with fail
  go_loopg [7] 3 (fun g' s7 wr => ∃ i : Nat, g' = 3 - i ∧ i ≤ 3 ∧ s7 = .int .i64 (i : Int) ∧ (sv D a (pd f m) i).2 = 0 ∧ RsQ w wr r la na cl cn zl zn (sv D a (pd f m) i).1 G)
  case atStart => exact ⟨0, rfl, by omega, rfl, rfl, G, HD.out, Kp.refl _ _, fun k hk => Or.inl hk⟩
  case round =>
    obtain ⟨i, rfl, hi3, rfl, hz, G', hR⟩ := hrel
    have HR := hide hR
    have HZ := hide hz
    clear hR hz
    by_cases hlt : i < 3
    · have hlt' : (i : Int) < 3 := by omega
      have hw : wrap64 (a + (i : Int)) = a + (i : Int) := by have := HA.out; unfold few9 at this; unfold wrap64; omega
      have HN : Hid (sv D a (pd f m) (i + 1) = ((sv D a (pd f m) i).1.ws (a + (i : Int)) (pd f m), (sv D a (pd f m) i).1.wsE (a + (i : Int)) (pd f m))) := if_pos HZ.out
      have HBw : Hid (BA wr x m f) := by
        rcases Nat.eq_zero_or_pos m with h0 | h0
        · exact ⟨HB.out.lt, Or.inl h0⟩
        · exact HB.out.kp (HX.out h0) HR.out.k
      obtain ⟨E, hE⟩ : ∃ E, E = (sv D a (pd f m) i).1 := ⟨_, rfl⟩
      rw [← hE] at HN HR
      clear hE
      by_cases he : E.wrE (a + (i : Int)) 64 = 0
      · have e1 : E.ws (a + (i : Int)) (pd f m) = (E.wr (a + (i : Int)) (pd f m)).sy := if_pos (by rw [HL.out.1]; exact he)
        have e2 : E.wsE (a + (i : Int)) (pd f m) = (E.wr (a + (i : Int)) (pd f m)).syE := if_pos (by rw [HL.out.1]; exact he)
        rw [e1, e2] at HN
        have HE := hide he
        clear e1 e2 he
        by_cases hs : (E.wr (a + (i : Int)) (pd f m)).syE = 0
        · have HS := hide hs
          clear hs
          go_wp2_with (first
            | (go_at_call 42; refine Calls.mono (full_any HBw.out hm) ?_; rintro e W1 ⟨z1, c1, rfl, hb1, hz1, hB1⟩; have HF := hide (And.intro hb1 hz1); have HR1 := hide (HR.out.grow hB1); clear hb1 hz1 hB1)
            | (go_at_call 23; refine Calls.mono (ref_write HR1.out.d _ HF.out.1 (fun _ p hp => HR.out.d.out (HF.out.2 p hp))) ?_; rw [HE.out]; rintro e W2 ⟨rfl, G2, hd2, hK2, hg2⟩; have HR2 := hide (HR1.out.next hd2 hK2 hg2); clear hd2 hK2 hg2)
            | (go_at_call 52; refine Calls.mono (ref_sync HR2.out.d) ?_; rw [show (E.wr (a + (i : Int)) (fl (pz f m) 64)).syE = 0 from HS.out]; rintro e W3 ⟨rfl, G3, hd3, hK3, hg3⟩; have HR3 := hide (HR2.out.next hd3 hK3 hg3); clear hd3 hK3 hg3))
          go_roundg (3 - (i + 1))
          case measure => omega
          case rel => exact ⟨i + 1, rfl, by omega, by simp, by rw [HN.out]; exact HS.out, G3, by rw [HN.out]; exact HR3.out⟩
        · have HS := hide hs
          have hne : ((E.wr (a + (i : Int)) (fl (pz f m) 64)).syE != 0) = true := by have := HS.out; simp [pd] at this; simp [this]
          have hne' : ((E.wr (a + (i : Int)) (fl (pz f m) 64)).syE == 0) = false := by have := HS.out; simp [pd] at this; simp [this]
          clear hs
          go_wp2_with (first
            | (go_at_call 42; refine Calls.mono (full_any HBw.out hm) ?_; rintro e W1 ⟨z1, c1, rfl, hb1, hz1, hB1⟩; have HF := hide (And.intro hb1 hz1); have HR1 := hide (HR.out.grow hB1); clear hb1 hz1 hB1)
            | (go_at_call 23; refine Calls.mono (ref_write HR1.out.d _ HF.out.1 (fun _ p hp => HR.out.d.out (HF.out.2 p hp))) ?_; rw [HE.out]; rintro e W2 ⟨rfl, G2, hd2, hK2, hg2⟩; have HR2 := hide (HR1.out.next hd2 hK2 hg2); clear hd2 hK2 hg2)
            | (go_at_call 52; refine Calls.mono (ref_sync HR2.out.d) ?_; rintro e W3 ⟨rfl, G3, hd3, hK3, hg3⟩; have HR3 := hide (HR2.out.next hd3 hK3 hg3); clear hd3 hK3 hg3))
          go_ret
          have e3 : sv D a (pd f m) 3 = sv D a (pd f m) (i + 1) := sv_err (by rw [HN.out]; exact HS.out) 3 (by omega)
          rw [HN.out] at e3
          rw [e3]
          exact HR3.out.post rfl
      · have e1 : E.ws (a + (i : Int)) (pd f m) = E.wr (a + (i : Int)) (pd f m) := if_neg (by rw [HL.out.1]; exact he)
        have e2 : E.wsE (a + (i : Int)) (pd f m) = E.wrE (a + (i : Int)) 64 := (if_neg (by rw [HL.out.1]; exact he)).trans (by rw [HL.out.1])
        rw [e1, e2] at HN
        have HE := hide he
        have hne : (E.wrE (a + (i : Int)) 64 != 0) = true := by simp [he]
        have hne' : (E.wrE (a + (i : Int)) 64 == 0) = false := by simp [he]
        clear e1 e2 he
        go_wp2_with (first
          | (go_at_call 42; refine Calls.mono (full_any HBw.out hm) ?_; rintro e W1 ⟨z1, c1, rfl, hb1, hz1, hB1⟩; have HF := hide (And.intro hb1 hz1); have HR1 := hide (HR.out.grow hB1); clear hb1 hz1 hB1)
          | (go_at_call 23; refine Calls.mono (ref_write HR1.out.d _ HF.out.1 (fun _ p hp => HR.out.d.out (HF.out.2 p hp))) ?_; rintro e W2 ⟨rfl, G2, hd2, hK2, hg2⟩; have HR2 := hide (HR1.out.next hd2 hK2 hg2); clear hd2 hK2 hg2))
        go_ret
        have e3 : sv D a (pd f m) 3 = sv D a (pd f m) (i + 1) := sv_err (by rw [HN.out]; exact HE.out) 3 (by omega)
        rw [HN.out] at e3
        rw [e3]
        exact HR2.out.post rfl
    · obtain rfl : i = 3 := by omega
      go_wp2_with fail
      go_ret
      exact HR.out.post (by rw [HZ.out]; rfl)
end Go.Proofs.Ytjgpopjpmfkfmaa
