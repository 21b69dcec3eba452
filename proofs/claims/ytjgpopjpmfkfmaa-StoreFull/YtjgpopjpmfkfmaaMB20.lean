/- Layer 15: the law of what is refused. -/
import Derived.Test.YtjgpopjpmfkfmaaMB19
namespace Go.Proofs.Ytjgpopjpmfkfmaa
open Go.RowKit Go.Maps
attribute [local go_sem ↓] Go.wp_at_zero Go.wp_at_succ

/-- A list beside a store whose calls go on. -/
theorem Lst.grown {w w' : World} {base : Nat} {O : Nat → Bool} {v : Value} {L : List (List Nat)} {cs : List Value} (h : Lst w base O v L cs) (hK : Kp O w w') : Lst w' base (grow O w w') v L cs :=
  (h.more (Y := grow O w w') (fun _ hk => (grow_of.1 hk).imp id And.left)).kp (hK.mono (fun _ hk => grow_of.2 (Or.inl hk)))
/-- The disk's blocks, and a list's row. -/
def Yw (b lb mb : Nat) (v : Value) (k : Nat) : Bool := X3 b lb mb k || decide (v.ownBlock = some k)
theorem Yw_of {b lb mb : Nat} {v : Value} {k : Nat} : Yw b lb mb v k = true ↔ X3 b lb mb k = true ∨ v.ownBlock = some k := by
  unfold Yw
  simp
/-- A store, and a list that is gathered beside it. -/
structure FuI (w wr : World) (b lb mb t : Nat) (O : Nat → Bool) (v : Value) (L : List (List Nat)) (cs : List Value) (s : SM) : Prop where
  p : PW wr b lb mb t O (Yw b lb mb v) s
  l : Lst wr w.heap.size O v L cs
  g : ∀ k, O k = true → w.heap.size ≤ k
  k : Below w.heap.size w wr
section
variable {w wr w1 : World} {b lb mb t : Nat} {O : Nat → Bool} {v : Value} {L : List (List Nat)} {cs : List Value} {s s' : SM}
theorem FuI.keep (h : FuI w wr b lb mb t O v L cs s) (hB : Below wr.heap.size wr w1) : FuI w w1 b lb mb t O v L cs s :=
  ⟨h.p.keep hB, h.l.keep hB, h.g, h.k.trans (hB.mono h.k.size)⟩
theorem FuI.call (h : FuI w wr b lb mb t O v L cs s) (hp : PW w1 b lb mb t (grow O wr w1) (Yw b lb mb v) s') (hK : Kp O wr w1) : FuI w w1 b lb mb t (grow O wr w1) v L cs s' :=
  ⟨hp, h.l.grown hK, fun k hk => by
    rcases grow_of.1 hk with e | e
    · exact h.g k e
    · exact Nat.le_trans h.k.size e.1, kp_below h.k hK h.g⟩
/-- One text more in the list. -/
theorem FuI.push (h : FuI w wr b lb mb t O v L cs s) {x : Option Addr} {m c : Nat} {f : Nat → Nat} (hb : BA wr x m f) (hx : 0 < m → ∀ p, x = some p → p.block < w.heap.size ∨ (O p.block = false ∧ v.ownBlock ≠ some p.block)) {o : Obj} {v' : Value}
    (ho : w1.ownsRow w.heap.size 38 1 v' (L.length + 1) (cs ++ [.slice x m c])) (hG : (wr.alloc o).grownBy w1 v.ownBlock) (hat : v'.ownBlock = v.ownBlock ∨ v'.ownBlock = some (wr.alloc o).heap.size) : FuI w w1 b lb mb t O v' (L ++ [fl f m]) (cs ++ [.slice x m c]) s := by
  have hB := K.alloc (Below.refl _ wr) o
  have h1 := h.keep hB
  have hX : ∀ k, X3 b lb mb k = true → O k = true := fun k hk => h.p.x3 hk
  have hl : Lst w1 w.heap.size O v' (L ++ [fl f m]) (cs ++ [.slice x m c]) := h1.l.push (fun k hk => h1.p.ol hk) (hb.keep hB) (fun hm p hp => by
    rcases hx hm p hp with e | e
    · refine ⟨?_, fun e2 => ?_⟩
      · cases hq : O p.block with
        | false => rfl
        | true => have := h.g _ hq; omega
      · have := (h.l.o.lt _ e2).1; omega
    · exact e) ho hG hat
  refine ⟨h1.p.other (Z := fun k => decide (v.ownBlock = some k)) (grown_kp hG (fun k hk => decide_eq_true hk)) (fun k hk => ⟨Yw_of.2 (Or.inr (of_decide_eq_true hk)), ?_⟩) (fun k hk => ?_) (fun k hk => Yw_of.2 (Or.inl hk)), hl, h.g, h1.k.grown hG h1.k.size (fun k hk => (h1.l.o.lt k hk).1)⟩
  · cases hq : X3 b lb mb k with
    | false => rfl
    | true => have := h.l.x k (of_decide_eq_true hk); rw [hX k hq] at this; cases this
  · rcases Yw_of.1 hk with e | e
    · exact ⟨Or.inl (Yw_of.2 (Or.inl e)), Nat.lt_of_lt_of_le (h1.p.ol (hX k e)) hG.size⟩
    · refine ⟨?_, (hl.o.lt k e).2⟩
      rcases hat with e2 | e2
      · exact Or.inl (Yw_of.2 (Or.inr (e2.symm.trans e)))
      · rw [e2] at e
        cases e
        exact Or.inr (Nat.le_refl _)
end
/-- While the entries are appended: all that was taken waits, and is gathered. -/
structure FlI (w wr : World) (b lb mb t : Nat) (O : Nat → Bool) (v : Value) (cs : List Value) (s : SM) (N : Nat) : Prop where
  i : FuI w wr b lb mb t O v s.W cs s
  f : s.D.free
  o : s.o = false
  k : s.K = []
  n : s.D.n = N
theorem apE_long {s : SM} (ho : s.o = false) {l : List Nat} (h : 200 < l.length) : s.apE l = 4 ∧ s.ap l = s := by
  have ho' : ¬ (s.o = true) := by rw [ho]; decide
  exact ⟨(if_neg ho').trans (if_pos h), (if_neg ho').trans (if_pos h)⟩
theorem apE_full {s : SM} (ho : s.o = false) {l : List Nat} (h : ¬ 200 < l.length) (hn : s.D.n < 3 + tks s.K + tks s.W + tk l.length) : s.apE l = 5 ∧ s.ap l = s := by
  have ho' : ¬ (s.o = true) := by rw [ho]; decide
  exact ⟨(if_neg ho').trans ((if_neg h).trans (if_pos hn)), (if_neg ho').trans ((if_neg h).trans (if_pos hn))⟩
theorem FlI.room {w wr : World} {b lb mb t N : Nat} {O : Nat → Bool} {v : Value} {cs : List Value} {s : SM} (h : FlI w wr b lb mb t O v cs s N) : Calls Try.prog 27 #[pp t] wr fun e w' => e = .returned (.int .i64 ((N : Int) - 3 - (tks s.W : Int))) ∧ Below wr.heap.size wr w' := by
  have h5 := room_pw h.i.p
  rw [h.n, h.k, show ((N : Int) - 3 - (tks [] : Int) - (tks s.W : Int)) = (N : Int) - 3 - (tks s.W : Int) by show (N : Int) - 3 - ((0 : Nat) : Int) - _ = _; omega] at h5
  exact h5
theorem FlI.keep {w wr w1 : World} {b lb mb t N : Nat} {O : Nat → Bool} {v : Value} {cs : List Value} {s : SM} (h : FlI w wr b lb mb t O v cs s N) (hB : Below wr.heap.size wr w1) : FlI w w1 b lb mb t O v cs s N := ⟨h.i.keep hB, h.f, h.o, h.k, h.n⟩
theorem PW.yw0 {w : World} {b lb mb t : Nat} {O : Nat → Bool} {s : SM} (h : PW w b lb mb t O (X3 b lb mb) s) : PW w b lb mb t O (Yw b lb mb (.slice none 0 0)) s :=
  h.other (Z := fun _ => false) (Kp.refl _ _) (fun k hk => by cases hk) (fun k hk => by
    rcases Yw_of.1 hk with e | e
    · exact ⟨Or.inl e, h.ol (h.x3 e)⟩
    · cases e) (fun k hk => Yw_of.2 (Or.inl hk))
section
variable {w wr : World} {b lb mb t N : Nat} {O : Nat → Bool} {v : Value} {cs : List Value} {s : SM}
theorem FuI.out3 {L : List (List Nat)} (h : FuI w wr b lb mb t O v L cs s) {x : Option Addr} {m : Nat} {f : Nat → Nat} (hb : BA w x m f) (h0 : 0 < m) (p : Addr) (hp : x = some p) : p.block < w.heap.size ∧ X3 b lb mb p.block = false := by
  obtain ⟨b1, o1, e, hl⟩ := ba_lt hb h0
  rw [hp] at e
  cases e
  refine ⟨hl, ?_⟩
  cases hq : X3 b lb mb b1 with
  | false => rfl
  | true => have := h.g _ (h.p.x3 hq); omega
theorem FlI.ap_no (h : FlI w wr b lb mb t O v cs s N) {x : Option Addr} {m c : Nat} {f : Nat → Nat} (hb : BA w x m f) {er : Int} (he : s.apE (fl f m) = er ∧ s.ap (fl f m) = s) : Calls Try.prog 15 #[pp t, .slice x m c] wr fun e w' => e = .returned (.int .i64 er) ∧ ∃ O', FlI w w' b lb mb t O' v cs s N := by
  refine Calls.mono (ap_pw h.i.p (hb.keep h.i.k) (fun h0 p hp => (h.i.out3 hb h0 p hp).2)) ?_
  rintro e w' ⟨rfl, h1, h2⟩
  rw [he.2] at h1
  rw [he.1]
  exact ⟨rfl, _, h.i.call h1 h2, h.f, h.o, h.k, h.n⟩
theorem FlI.ap_ok (h : FlI w wr b lb mb t O v cs s N) {x : Option Addr} {m c : Nat} {f : Nat → Nat} (hb : BA w x m f) (hm : ¬ 200 < m) (hn : ¬ N < 3 + tks s.W + tk m) : Calls Try.prog 15 #[pp t, .slice x m c] wr fun e w' => e = .returned (.int .i64 0) ∧ ∃ O' s', FuI w w' b lb mb t O' v s.W cs s' ∧ s'.D.free ∧ s'.o = false ∧ s'.K = [] ∧ s'.D.n = N ∧ s'.W = s.W ++ [fl f m] := by
  have hl : (fl f m).length = m := fl_len f m
  have hk0 : tks s.K = 0 := by rw [h.k]; rfl
  obtain ⟨g1, g2, g3, g4, g5, g6⟩ := ap_free (s := s) (l := fl f m) h.f h.o (fun y hy => by obtain ⟨i, _, rfl⟩ := List.mem_map.1 hy; exact hb.lt i) (by rw [hl]; omega) (by rw [hl, hk0, h.n]; omega)
  refine Calls.mono (ap_pw h.i.p (hb.keep h.i.k) (fun h0 p hp => (h.i.out3 hb h0 p hp).2)) ?_
  rintro e w' ⟨rfl, h1, h2⟩
  rw [g1]
  exact ⟨rfl, _, _, h.i.call h1 h2, g2, g6, g4.trans h.k, g3.trans h.n, g5⟩
end
theorem ar_f2 {N a m : Nat} (h1 : N ≤ 4096) (h2 : 3 + a + m ≤ N) : wrap64 ((N : Int) - 3 - (a : Int) - (m : Int)) = (N : Int) - 3 - (a : Int) - (m : Int) := w_id (by omega) (by omega)
set_option maxRecDepth 100000 in
set_option maxHeartbeats 8000000 in
theorem storeFull_any {u : Nat} {z : Option Addr} {n c : Nat} {O : Nat → TxV} (w : World) (h : TxsAt w z n O) : Calls Try.prog 5 #[.int .u16 (u : Int), .slice z n c] w (OkT w) := by
  by_cases hn : 60 < n
  · have hn' : (60 : Int) < (n : Int) := by omega
    clear h
    go_enter Try.func5, Try.ntmps5
    go_upto_region 2 with (go_at_call 8; refine Calls.mono (awake_n _) ?_; rintro e W1 ⟨rfl, hB1⟩; have HB1 := hide hB1; clear hB1)
    go_wp2_with (go_at_call 8; refine Calls.mono (awake_n _) ?_; rintro e W2 ⟨rfl, hB2⟩; have HB2 := hide hB2; clear hB2)
    go_ret
    exact ⟨rfl, HB1.out.trans (HB2.out.mono HB1.out.size)⟩
  · have hn' : ¬ ((60 : Int) < (n : Int)) := by omega
    have HT := hide h
    clear h
    obtain ⟨N, hN⟩ : ∃ N, N = 3 + u % 300 := ⟨_, rfl⟩
    have hwN : 3 + (u : Int) % 300 = (N : Int) := by omega
    have hN3 : 3 ≤ N ∧ N ≤ 4096 := by omega
    clear hN
    go_enter Try.func5, Try.ntmps5
    go_upto_region 4 with (go_at_call 8; refine Calls.mono (awake_n _) ?_; rintro e W1 ⟨rfl, hB1⟩; have HB1 := hide hB1; clear hB1)
    skip
    go_upto_region 5 with (go_at_call 10; refine Calls.mono (new_any (n := N) hN3.2 _) ?_; rintro e W3 ⟨b, lb, mb, rfl, hD, h1, h2, h3, hB⟩; have HD := hide hD; have HB3 := hide hB; have HG := hide (And.intro h1 (And.intro h2 h3)); clear hD hB h1 h2 h3)
    have HFo := hide (fresh_open HD.out hN3.1 hN3.2)
    go_upto_region 8 with (go_at_call 12; refine Calls.mono HFo.out ?_; rintro e W4 ⟨t, s, rfl, hP, hf, hn, hk, hw, ho, hK⟩; have HP := hide hP; have HS := hide (And.intro hf (And.intro hn (And.intro hk (And.intro hw ho)))); have HK4 := hide hK; clear hP hf hn hk hw ho hK)
    have HX : Hid (∀ k, X3 b lb mb k = true → w.heap.size ≤ k) := fun k hk => by
      rcases X3_of.1 hk with e | e | e
      · rw [e]; exact Nat.le_trans HB1.out.size HG.out.1
      · rw [e]; exact Nat.le_trans HB1.out.size HG.out.2.1
      · rw [e]; exact Nat.le_trans HB1.out.size HG.out.2.2
    have HB3w : Hid (Below w.heap.size w W3) := HB1.out.trans (HB3.out.mono HB1.out.size)
    have HI0 : Hid (FlI w W4 b lb mb t (grow (X3 b lb mb) W3 W4) (.slice none 0 0) [] s N) := by
      obtain ⟨q1, q2, q3, q4, q5⟩ := HS.out
      refine ⟨⟨HP.out.yw0, by rw [q4]; exact Lst.nil _ _ _, fun k hk => ?_, kp_below HB3w.out HK4.out HX.out⟩, q1, q5, q3, q2⟩
      rcases grow_of.1 hk with e | e
      · exact HX.out k e
      · exact Nat.le_trans HB3w.out.size e.1
    clear HFo HP HS HK4 HX HG HD HB3 HB3w HB1
    go_wp2_with fail
    go_loopg [10, 11] n (fun g' s10 s11 wr => ∃ (i : Nat) (O' : Nat → Bool) (cs : List Value) (s' : SM), g' = n - i ∧ i ≤ n ∧ s11 = .int .i64 (i : Int) ∧ FlI w wr b lb mb t O' s10 cs s' N)
    case atStart => exact ⟨0, _, _, _, rfl, Nat.zero_le _, rfl, HI0.out⟩
    case round =>
      obtain ⟨i, O', cs, s', rfl, hi, rfl, hI⟩ := hrel
      have HI := hide hI
      obtain ⟨zv, cv, ev, _⟩ := hI.i.l.shape
      subst ev
      clear hI HI0
      by_cases hlt : i < n
      · have hlt' : (i : Int) < (n : Int) := by omega
        have hw1 : wrap64 ((i : Int) + 1) = (i : Int) + 1 := w63 (by omega) (by omega)
        obtain ⟨bb, oo, hz, hc⟩ : ∃ b o, z = some ⟨b, o, none⟩ ∧ ∀ i, i < n → w.cell? ⟨b, o + i, none⟩ = some (O i).v := HT.out.at_.resolve_left (by omega)
        subst hz
        obtain ⟨x, m, cc, f, hE⟩ : ∃ x m cc f, O i = ⟨x, m, cc, f⟩ := ⟨_, _, _, _, rfl⟩
        have HC0 : Hid (w.cell? ⟨bb, oo + i, none⟩ = some (.slice x m cc)) := by have h5 := hc i hlt; rw [hE] at h5; exact h5
        have HBx : Hid (BA w x m f) := by have h5 := HT.out.r i hlt; rw [hE] at h5; exact h5
        clear hE hc
        have hcell := later HI.out.i.k HC0.out
        by_cases hm1 : 1000 < m
        · have hm1' : (1000 : Int) < (m : Int) := by omega
          go_wp2_with fail
          go_ret
          exact ⟨rfl, HI.out.i.k⟩
        · have hm1' : ¬ ((1000 : Int) < (m : Int)) := by omega
          have HRo := hide HI.out.room
          go_upto_region 15 with (go_at_call 27; refine Calls.mono HRo.out ?_; rintro e W1 ⟨rfl, hB1⟩; have HB1 := hide hB1; clear hB1)
          have HI1 := hide (HI.out.keep HB1.out)
          have hcell1 := later HI1.out.i.k HC0.out
          clear HRo hcell
          by_cases hm2 : 200 < m
          · have hm2' : (200 : Int) < (m : Int) := by omega
            have HAp := hide (HI1.out.ap_no (c := cc) HBx.out (apE_long HI1.out.o (l := fl f m) (by rw [fl_len]; exact hm2)))
            go_upto_region 16 with (go_at_call 15; refine Calls.mono HAp.out ?_; rintro e W2 ⟨rfl, O2, hI2⟩; have HI2 := hide hI2; clear hI2)
            have hcell2 := later HI2.out.i.k HC0.out
            have HRo2 := hide HI2.out.room
            have HNx : Hid (∀ W, Below W2.heap.size W2 W → (Calls Try.prog 29 #[pp t] W fun e w' => e = .returned (.int .i64 (s'.W.length : Int)) ∧ w' = W) ∧ (Calls Try.prog 30 #[pp t] W fun e w' => e = .returned (.int .i64 0) ∧ w' = W)) := fun W hW => by
              have h5 := len_pw (HI2.out.i.keep hW).p
              rw [HI2.out.k] at h5
              exact ⟨waits_pw (HI2.out.i.keep hW).p, h5⟩
            go_wp2_with (first
              | (go_at_call 27; refine Calls.mono HRo2.out ?_; rintro e W3 ⟨rfl, hB3⟩; have HB3 := hide hB3; have HN3 := hide (HNx.out _ hB3); clear hB3)
              | (go_at_call 29; refine Calls.mono HN3.out.1 ?_; rintro e W3 ⟨rfl, rfl⟩)
              | (go_at_call 30; refine Calls.mono HN3.out.2 ?_; rintro e W3 ⟨rfl, rfl⟩))
            go_roundg (n - (i + 1))
            case measure => omega
            case rel => exact ⟨i + 1, O2, cs, s', rfl, hlt, by simp, HI2.out.keep HB3.out⟩
          · have hm2' : ¬ ((200 : Int) < (m : Int)) := by omega
            have hm9 : m ≤ 1000000000 := by omega
            by_cases hfu : N < 3 + tks s'.W + tk m
            · have hfu' : (N : Int) - 3 - (tks s'.W : Int) < (tk m : Int) := by omega
              have HAp := hide (HI1.out.ap_no (c := cc) HBx.out (apE_full HI1.out.o (l := fl f m) (by rw [fl_len]; exact hm2) (by rw [fl_len, HI1.out.n, HI1.out.k]; show N < 3 + 0 + tks s'.W + tk m; omega)))
              go_upto_region 16 with (go_at_call 15; refine Calls.mono HAp.out ?_; rintro e W2 ⟨rfl, O2, hI2⟩; have HI2 := hide hI2; clear hI2)
              have hcell2 := later HI2.out.i.k HC0.out
              have HRo2 := hide HI2.out.room
              have HNx : Hid (∀ W, Below W2.heap.size W2 W → (Calls Try.prog 29 #[pp t] W fun e w' => e = .returned (.int .i64 (s'.W.length : Int)) ∧ w' = W) ∧ (Calls Try.prog 30 #[pp t] W fun e w' => e = .returned (.int .i64 0) ∧ w' = W)) := fun W hW => by
                have h5 := len_pw (HI2.out.i.keep hW).p
                rw [HI2.out.k] at h5
                exact ⟨waits_pw (HI2.out.i.keep hW).p, h5⟩
              go_wp2_with (first
                | (go_at_call 28; refine Calls.mono (takes_any hm9) ?_; rintro e W2 ⟨rfl, rfl⟩)
                | (go_at_call 27; refine Calls.mono HRo2.out ?_; rintro e W3 ⟨rfl, hB3⟩; have HB3 := hide hB3; have HN3 := hide (HNx.out _ hB3); clear hB3)
                | (go_at_call 29; refine Calls.mono HN3.out.1 ?_; rintro e W3 ⟨rfl, rfl⟩)
                | (go_at_call 30; refine Calls.mono HN3.out.2 ?_; rintro e W3 ⟨rfl, rfl⟩))
              go_roundg (n - (i + 1))
              case measure => omega
              case rel => exact ⟨i + 1, O2, cs, s', rfl, hlt, by simp, HI2.out.keep HB3.out⟩
            · have hfu' : ¬ ((N : Int) - 3 - (tks s'.W : Int) < (tk m : Int)) := by omega
              have hw5 := ar_f2 hN3.2 (a := tks s'.W) (m := tk m) (by omega)
              have HAp := hide (HI1.out.ap_ok (c := cc) HBx.out hm2 hfu)
              go_upto_region 16 with (go_at_call 15; refine Calls.mono HAp.out ?_; rintro e W2 ⟨rfl, O2, s2, hI2, hf2, ho2, hk2, hn2, hw2⟩; have HI2 := hide hI2; have HS2 := hide (And.intro hf2 (And.intro ho2 (And.intro hk2 (And.intro hn2 hw2)))); clear hI2 hf2 ho2 hk2 hn2 hw2)
              have hcell2 := later HI2.out.k HC0.out
              clear hcell1
              go_upto_region 21 with (go_at_call 28; refine Calls.mono (takes_any hm9) ?_; rintro e W2 ⟨rfl, rfl⟩)
              have hLe : s'.W.length ≤ 100000 := by
                have h5 := tks_len s'.W
                omega
              have HS1 := hide (HI2.out.keep (K.alloc (Below.refl _ W2) (.cells #[.slice x m cc] 38))).l
              have HSz : Hid (w.heap.size ≤ (W2.alloc (.cells #[.slice x m cc] 38)).heap.size) := Nat.le_trans HI2.out.k.size (by simp)
              have HCe : Hid ((W2.alloc (.cells #[.slice x m cc] 38)).cell? ⟨W2.heap.size, 0, none⟩ = some (.slice x m cc)) := (Boxed.new W2 38 (.slice x m cc)).cell
              have HPu : Hid (∀ v3 W3, W3.ownsRow w.heap.size 38 1 v3 (s'.W.length + 1) (cs ++ [.slice x m cc]) → (W2.alloc (.cells #[.slice x m cc] 38)).grownBy W3 (Value.slice zv s'.W.length cv).ownBlock → (v3.ownBlock = (Value.slice zv s'.W.length cv).ownBlock ∨ v3.ownBlock = some (W2.alloc (.cells #[.slice x m cc] 38)).heap.size) → FlI w W3 b lb mb t O2 v3 (cs ++ [.slice x m cc]) s2 N) := fun v3 W3 ho hG hat => by
                have h9 := HI2.out.push (HBx.out.keep HI2.out.k) (fun h0 p hp => Or.inl (HI2.out.out3 HBx.out h0 p hp).1) ho hG hat
                obtain ⟨q1, q2, q3, q4, q5⟩ := HS2.out
                rw [← q5] at h9
                exact ⟨h9, q1, q2, q3, q4⟩
              go_upto_region 22 with (refine wpList_app1 rfl _ _ rfl rfl HS1.out.o rfl HCe.out rfl hLe HSz.out ?_; intro v3 W3 ho3 hG3 hat3; have HI3 := hide (HPu.out v3 W3 ho3 hG3 hat3); obtain ⟨lq, lc, e6, _⟩ := own_form ho3 (Nat.succ_pos _); subst e6; clear ho3 hG3 hat3)
              have hcell3 := later HI3.out.i.k HC0.out
              have HRo3 : Hid (Calls Try.prog 27 #[pp t] W3 fun e w' => e = .returned (.int .i64 ((N : Int) - 3 - (tks s'.W : Int) - (tk m : Int))) ∧ Below W3.heap.size W3 w') := by
                have h5 := HI3.out.room
                rw [HS2.out.2.2.2.2, tks_snoc, show ((N : Int) - 3 - ((tks s'.W + tk m : Nat) : Int)) = (N : Int) - 3 - (tks s'.W : Int) - (tk m : Int) by omega] at h5
                exact h5
              have HNx : Hid (∀ W, Below W3.heap.size W3 W → (Calls Try.prog 29 #[pp t] W fun e w' => e = .returned (.int .i64 ((s'.W.length : Int) + 1)) ∧ w' = W) ∧ (Calls Try.prog 30 #[pp t] W fun e w' => e = .returned (.int .i64 0) ∧ w' = W)) := fun W hW => by
                have h5 := len_pw (HI3.out.i.keep hW).p
                have h6 := waits_pw (HI3.out.i.keep hW).p
                rw [HI3.out.k] at h5
                rw [HS2.out.2.2.2.2, List.length_append, show ((s'.W.length + [fl f m].length : Nat) : Int) = (s'.W.length : Int) + 1 from rfl] at h6
                exact ⟨h6, h5⟩
              clear hcell2
              go_wp2_with (first
                | (go_at_call 28; refine Calls.mono (takes_any hm9) ?_; rintro e W3 ⟨rfl, rfl⟩)
                | (go_at_call 27; refine Calls.mono HRo3.out ?_; rintro e W4 ⟨rfl, hB4⟩; have HB4 := hide hB4; have HN4 := hide (HNx.out _ hB4); clear hB4)
                | (go_at_call 29; refine Calls.mono HN4.out.1 ?_; rintro e W4 ⟨rfl, rfl⟩)
                | (go_at_call 30; refine Calls.mono HN4.out.2 ?_; rintro e W4 ⟨rfl, rfl⟩))
              go_roundg (n - (i + 1))
              case measure => omega
              case rel => exact ⟨i + 1, O2, _, s2, rfl, hlt, by simp, HI3.out.keep HB4.out⟩
      · obtain rfl : i = n := by omega
        have HCf := hide (co_free HI.out.f HI.out.o (by rw [HI.out.n]; omega))
        have HKk : Hid (s'.co.K = s'.W) := by have h5 := HCf.out.2.2.2.1; rw [HI.out.k] at h5; exact h5
        have HCo : Hid (Calls Try.prog 17 #[pp t] wr fun e w' => e = .returned (.int .i64 0) ∧ ∃ O2, FuI w w' b lb mb t O2 (.slice zv s'.W.length cv) s'.W cs s'.co) := by
          have h5 := co_pw HI.out.i.p
          refine Calls.mono h5 ?_
          rintro e w' ⟨rfl, h1, h2⟩
          rw [HCf.out.1]
          exact ⟨rfl, _, HI.out.i.call h1 h2⟩
        have hsh : short s'.W := fun l hl => by have := HI.out.i.p.ok.w l hl; omega
        have hln : s'.W.length ≤ 1000000 := by
          have h5 := HI.out.i.p.ok.n
          have h6 := tks_len s'.W
          rw [HI.out.n] at h5
          omega
        go_upto_region 25 with fail
        have HAll : Hid (∀ (W : World) (O2 : Nat → Bool), FuI w W b lb mb t O2 (.slice zv s'.W.length cv) s'.W cs s'.co → (Calls Try.prog 29 #[pp t] W fun e w' => e = .returned (.int .i64 0) ∧ w' = W) ∧ (Calls Try.prog 26 #[pp t] W fun e w' => ∃ zk ck, e = .returned (.slice zk s'.W.length ck) ∧ (Calls Try.prog 25 #[.slice zk s'.W.length ck, .slice zv s'.W.length cv] w' fun e w2 => e = .returned (.bool true) ∧ Below w.heap.size w w2))) := fun W O2 hW => by
          have h5 := waits_pw hW.p
          rw [HCf.out.2.2.2.2.1] at h5
          refine ⟨h5, Calls.mono (kept_n hW.p) ?_⟩
          rintro e w' ⟨v2, cs2, rfl, h6, h7⟩
          rw [HKk.out] at h6
          obtain ⟨zk, ck, rfl, h8⟩ := h6.shape
          obtain ⟨z9, c9, e9, h9⟩ := (hW.l.keep h7).shape
          cases e9
          refine ⟨zk, ck, rfl, Calls.mono (same_lists h8 h9 hsh hln) ?_⟩
          rintro e w2 ⟨rfl, h10⟩
          exact ⟨by rw [decide_eq_true rfl], (hW.k.trans (h7.mono hW.k.size)).trans (h10.mono (Nat.le_trans hW.k.size h7.size))⟩
        go_wp2_with (first
          | (go_at_call 17; refine Calls.mono HCo.out ?_; rintro e W2 ⟨rfl, O2, hI2⟩; have HA2 := hide (HAll.out _ _ hI2); clear hI2)
          | (go_at_call 29; refine Calls.mono HA2.out.1 ?_; rintro e W2 ⟨rfl, rfl⟩)
          | (go_at_call 26; refine Calls.mono HA2.out.2 ?_; rintro e W3 ⟨zk, ck, rfl, hS⟩; have HSa := hide hS; clear hS)
          | (go_at_call 25; refine Calls.mono HSa.out ?_; rintro e W4 ⟨rfl, hB4⟩; have HB4 := hide hB4; clear hB4))
        go_ret
        exact ⟨rfl, HB4.out⟩
end Go.Proofs.Ytjgpopjpmfkfmaa
