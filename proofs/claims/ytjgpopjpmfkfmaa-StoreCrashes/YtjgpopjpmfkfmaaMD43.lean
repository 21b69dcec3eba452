/- Layer 15, pure: what crashes leave, along a script. Layer 15: the program's store as the laws look at it. Layer 15, the laws: a new disk is opened; awake; what a store tells. Layer 15, the laws: what a store tells; the law of none. Layer 14: how the parameters of the laws are read before the call: fates, two texts, texts. -/
import Derived.Test.YtjgpopjpmfkfmaaMD42
import Derived.Test.YtjgpopjpmfkfmaaMD23
import Derived.Lib.SlBytesConst
namespace Go.Proofs.Ytjgpopjpmfkfmaa

/-- S is sure, M may be: the store's disk is at work, or the power went within the Commit of M. -/
structure CrM (N : Nat) (s : SM) (S M : List (List Nat)) : Prop where
  k : s.K = S
  w : s.K ++ s.W = M
  h : WkA N s.D S M ∨ (s.o = true ∧ WkB N s.D S M)
theorem CrM.ap {N : Nat} {s : SM} {S M : List (List Nat)} (h : CrM N s S M) (l : List Nat) : (s.apE l = 0 → CrM N (s.ap l) S (M ++ [l])) ∧ (s.apE l ≠ 0 → CrM N (s.ap l) S M) := by
  have e0 : fl (fun i => l.getD i 0) l.length = l := by have := fl_getD l; simp only [Nat.zero_add] at this; exact this
  cases ho : s.o with
  | true =>
    have e1 : s.ap l = s := if_pos ho
    have e2 : s.apE l = 6 := if_pos ho
    rw [e1, e2]
    exact ⟨fun hh => (by cases hh), fun _ => h⟩
  | false =>
    have ho' : ¬ (s.o = true) := by rw [ho]; decide
    have hA : WkA N s.D S M := by
      rcases h.h with h1 | h1
      · exact h1
      · exact absurd h1.1 ho'
    by_cases hm : 200 < l.length
    · have e1 : s.ap l = s := (if_neg ho').trans (if_pos hm)
      have e2 : s.apE l = 4 := (if_neg ho').trans (if_pos hm)
      rw [e1, e2]
      exact ⟨fun hh => (by cases hh), fun _ => h⟩
    · by_cases hf : s.D.n < 3 + tks s.K + tks s.W + tk l.length
      · have e1 : s.ap l = s := (if_neg ho').trans ((if_neg hm).trans (if_pos hf))
        have e2 : s.apE l = 5 := (if_neg ho').trans ((if_neg hm).trans (if_pos hf))
        rw [e1, e2]
        exact ⟨fun hh => (by cases hh), fun _ => h⟩
      · have e1 : s.ap l = ⟨(apx s l).1, s.K, apW (apx s l).2 s.W l, cmO (apx s l).2⟩ := (if_neg ho').trans ((if_neg hm).trans (if_neg hf))
        have e2 : s.apE l = (apx s l).2 := (if_neg ho').trans ((if_neg hm).trans (if_neg hf))
        have hM : tks M = tks s.K + tks s.W := by rw [← h.w, tks_app]
        have ep : apx s l = apw s.D (3 + tks M) (fun i => l.getD i 0) l.length (tk l.length) := by unfold apx; rw [hM, Nat.add_assoc]
        rw [e1, e2]
        refine ⟨fun hh => ?_, fun hh => ?_⟩
        · have ew : apW (apx s l).2 s.W l = s.W ++ [l] := if_pos hh
          have hh' := hh
          rw [ep] at hh'
          have hd : s.D.dn = false := by
            cases hq : s.D.dn with
            | false => rfl
            | true => rw [apw_down hq] at hh'; cases hh'
          have h9 := hA.app_ok (f := fun i => l.getD i 0) (m := l.length) (by omega) hd (by have := hA.n; omega) hh'
          rw [e0] at h9
          refine ⟨h.k, ?_, Or.inl ?_⟩
          · show s.K ++ apW (apx s l).2 s.W l = _
            rw [ew, ← List.append_assoc, h.w]
          · show WkA N (apx s l).1 _ _
            rw [ep]
            exact h9
        · have ew : apW (apx s l).2 s.W l = s.W := if_neg hh
          refine ⟨h.k, ?_, Or.inl ?_⟩
          · show s.K ++ apW (apx s l).2 s.W l = _
            rw [ew, h.w]
          · show WkA N (apx s l).1 _ _
            rw [ep]
            exact hA.app _ _ _
theorem CrM.co {N : Nat} {s : SM} {S M : List (List Nat)} (h : CrM N s S M) (hok : s.ok) : (s.coE = 0 → CrM N s.co M M) ∧ (s.coE ≠ 0 → CrM N s.co S M) := by
  cases ho : s.o with
  | true =>
    have e1 : s.co = s := if_pos ho
    have e2 : s.coE = 6 := if_pos ho
    rw [e1, e2]
    exact ⟨fun hh => (by cases hh), fun _ => h⟩
  | false =>
    have ho' : ¬ (s.o = true) := by rw [ho]; decide
    have hA : WkA N s.D S M := by
      rcases h.h with h1 | h1
      · exact h1
      · exact absurd h1.1 ho'
    by_cases hw : s.W = []
    · have e1 : s.co = s := (if_neg ho').trans (if_pos hw)
      have e2 : s.coE = 0 := (if_neg ho').trans (if_pos hw)
      have e3 : S = M := by have := h.w; rw [hw, List.append_nil, h.k] at this; exact this
      rw [e1, e2]
      subst e3
      exact ⟨fun _ => h, fun hh => absurd rfl hh⟩
    · have e1 : s.co = ⟨(cm s.D (s.K ++ s.W)).1, cmK (cm s.D (s.K ++ s.W)).2 s.K s.W, cmW (cm s.D (s.K ++ s.W)).2 s.W, cmO (cm s.D (s.K ++ s.W)).2⟩ := (if_neg ho').trans (if_neg hw)
      have e2 : s.coE = (cm s.D (s.K ++ s.W)).2 := (if_neg ho').trans (if_neg hw)
      rw [e1, e2, h.w]
      have hn : 2 < s.D.n := by have := hok.n; omega
      by_cases hs : s.D.syE = 0
      · obtain ⟨_, hc, h1, _⟩ := sy_ok hs
        have hl : s.D.sy.ldE 0 = 0 := (ld_up hc.dn (a := 0) (by rw [h1]; exact hn)).1
        have q1 : s.D.sy.saveD 0 (mkf M.length (tks M)) 16 = (cm s.D M).1 := by
          unfold DM.saveD cm
          rw [if_neg (by decide), if_pos hl, if_pos hs]
          rfl
        have q2 : s.D.sy.saveE 0 (mkf M.length (tks M)) 16 = (cm s.D M).2 := by
          unfold DM.saveE cm
          rw [if_neg (by decide), if_pos hl, if_pos hs]
          rfl
        have hcm := hA.commit hs
        rw [q1, q2] at hcm
        rcases hcm with ⟨g1, g2, _⟩ | ⟨g1, g2⟩
        · refine ⟨fun _ => ⟨?_, ?_, Or.inl g2⟩, fun hh => absurd g1 hh⟩
          · show cmK (cm s.D M).2 s.K s.W = M
            exact (if_pos g1).trans h.w
          · show cmK (cm s.D M).2 s.K s.W ++ cmW (cm s.D M).2 s.W = M
            rw [show cmK (cm s.D M).2 s.K s.W = M from (if_pos g1).trans h.w, show cmW (cm s.D M).2 s.W = [] from if_pos g1, List.append_nil]
        · have hne : (cm s.D M).2 ≠ 0 := by rw [g1]; decide
          refine ⟨fun hh => absurd hh hne, fun _ => ⟨?_, ?_, Or.inr ⟨?_, g2⟩⟩⟩
          · show cmK (cm s.D M).2 s.K s.W = S
            exact (if_neg hne).trans h.k
          · show cmK (cm s.D M).2 s.K s.W ++ cmW (cm s.D M).2 s.W = M
            rw [show cmK (cm s.D M).2 s.K s.W = s.K from if_neg hne, show cmW (cm s.D M).2 s.W = s.W from if_neg hne]
            exact h.w
          · show cmO (cm s.D M).2 = true
            rw [g1]
            decide
      · have ec : cm s.D M = (s.D.sy, s.D.syE) := cm_not hs M
        have hne : (cm s.D M).2 ≠ 0 := by rw [ec]; exact hs
        refine ⟨fun hh => absurd hh hne, fun _ => ⟨?_, ?_, Or.inl ?_⟩⟩
        · show cmK (cm s.D M).2 s.K s.W = S
          exact (if_neg hne).trans h.k
        · show cmK (cm s.D M).2 s.K s.W ++ cmW (cm s.D M).2 s.W = M
          rw [show cmK (cm s.D M).2 s.K s.W = s.K from if_neg hne, show cmW (cm s.D M).2 s.W = s.W from if_neg hne]
          exact h.w
        · show WkA N (cm s.D M).1 S M
          rw [ec]
          exact hA.sync_not hs
theorem CrM.fuse {N : Nat} {s : SM} {S M : List (List Nat)} (h : CrM N s S M) (i : Int) : CrM N { s with D := s.D.fuse i } S M :=
  ⟨h.k, h.w, h.h.imp (fun h1 => h1.fuse i) (fun h1 => ⟨h1.1, h1.2.fuse i⟩)⟩
theorem SM.ok.fuse {s : SM} (h : s.ok) (i : Int) : SM.ok { s with D := s.D.fuse i } := ⟨h.n, h.k, h.w, fun ho hd => stl_congr (D := s.D) (D' := s.D.fuse i) rfl (h.s ho hd) (fun _ _ _ => rfl)⟩
/-- Behind a crash. -/
def PsM (N : Nat) (D : DM) (S M : List (List Nat)) : Prop := ∃ S' T', (S' = S ∨ S' = M) ∧ (T' = S ∨ T' = M) ∧ Pst N D S' T'
theorem CrM.crash {N : Nat} {s : SM} {S M : List (List Nat)} (h : CrM N s S M) (K : List Bool) (t a : Int) : PsM N (s.D.cr K t a) S M := by
  rcases h.h with h1 | h1
  · exact ⟨S, S, Or.inl rfl, Or.inl rfl, h1.crash K t a⟩
  · exact ⟨S, M, Or.inl rfl, Or.inr rfl, h1.2.crash K t a⟩
theorem PsM.round {N : Nat} {D : DM} {S M : List (List Nat)} (h : PsM N D S M) (hN : N ≤ 4096) (i : Int) (K : List Bool) (t a : Int) : PsM N (((D.fuse i).mendD 0).cr K t a) S M := by
  obtain ⟨S', T', h1, h2, h3⟩ := h
  have h4 := h3.fuse i
  by_cases he : (D.fuse i).mendE 0 = 0
  · obtain ⟨Z, hz, h5, _⟩ := h4.open_ok hN he
    have hZ : Z = S ∨ Z = M := by
      rcases hz with e | e
      · rw [e]; exact h1
      · rw [e]; exact h2
    exact ⟨Z, Z, hZ, hZ, h5.crash K t a⟩
  · exact ⟨S', T', h1, h2, (h4.open_not he).crash K t a⟩
theorem PsM.opened {N : Nat} {D : DM} {S M : List (List Nat)} (h : PsM N D S M) (hN : N ≤ 4096) (hf : D.fu = none) : ∃ Z, (Z = S ∨ Z = M) ∧ D.opE = 0 ∧ D.opL = Z ∧ WkA N (D.mendD 0) Z Z ∧ (D.mendD 0).opE = 0 ∧ (D.mendD 0).opL = Z ∧ (D.mendD 0).mendD 0 = D.mendD 0 := by
  obtain ⟨S', T', h1, h2, h3⟩ := h
  have he := h3.free_ok hf
  obtain ⟨Z, hz, h5, _, h6, h7⟩ := h3.open_ok hN he
  obtain ⟨_, a2, a3, a4⟩ := op_again he
  have hZ : Z = S ∨ Z = M := by
    rcases hz with e | e
    · rw [e]; exact h1
    · rw [e]; exact h2
  refine ⟨Z, hZ, h7, ?_, h5, a4.trans h7, ?_, a2⟩
  · unfold DM.opL; rw [h6]; rfl
  · unfold DM.opL; rw [a3, h6]; rfl
theorem CrM.new {N : Nat} {D : DM} {Z : List (List Nat)} (h : WkA N D Z Z) : CrM N ⟨D, Z, [], false⟩ Z Z := ⟨rfl, List.append_nil _, Or.inl h⟩
end Go.Proofs.Ytjgpopjpmfkfmaa
namespace Go.Proofs.Ytjgpopjpmfkfmaa
open Go.RowKit Go.Maps
attribute [local go_sem ↓] Go.wp_at_zero Go.wp_at_succ

structure PWr (w : World) (b lb mb t : Nat) (O Y : Nat → Bool) (bs : Nat) (vk vw : Value) (ck cw : List Value) (s : SM) : Prop where
  d : Dsk w b lb mb s.D
  p : PSt w bs t b Y vk vw ck cw s.K s.W s.o
  m : s.ok
  xy : ∀ g, X3 b lb mb g = true → Y g = true
  yl : ∀ g, Y g = true → g < w.heap.size
  bl : bs ≤ w.heap.size
  ok : ∀ k, Xt (X3 b lb mb) t vk k = true → O k = true
  ow : ∀ k, vw.ownBlock = some k → O k = true
  ol : ∀ k, O k = true → k < w.heap.size
/-- A store and its disk: O are the blocks that their calls may write, Y those that others may (and the disk's own). -/
def PW (w : World) (b lb mb t : Nat) (O Y : Nat → Bool) (s : SM) : Prop := ∃ bs vk vw ck cw, PWr w b lb mb t O Y bs vk vw ck cw s
/-- With all blocks that are new. -/
def grow (O : Nat → Bool) (w w' : World) (k : Nat) : Bool := O k || (decide (w.heap.size ≤ k) && decide (k < w'.heap.size))
theorem grow_of {O : Nat → Bool} {w w' : World} {k : Nat} : grow O w w' k = true ↔ O k = true ∨ (w.heap.size ≤ k ∧ k < w'.heap.size) := by
  unfold grow
  simp
theorem SM.ok.sizes {s : SM} (h : s.ok) {n : Nat} (hn : s.D.n ≤ n) (h4 : n ≤ 4096) : tks s.K ≤ 1000000 ∧ tks s.W ≤ 1000000 ∧ s.K.length ≤ 4096 ∧ s.W.length ≤ 4096 ∧ s.W.length ≤ 100000 := by
  have h1 := h.n
  have h2 := tks_len s.K
  have h3 := tks_len s.W
  omega
section
variable {w w' : World} {b lb mb t : Nat} {O Y : Nat → Bool} {s : SM}
theorem PWr.t3 {bs : Nat} {vk vw : Value} {ck cw : List Value} (h : PWr w b lb mb t O Y bs vk vw ck cw s) : X3 b lb mb t = false := by
  cases hq : X3 b lb mb t with
  | false => rfl
  | true => have := h.xy t hq; rw [h.p.ty] at this; cases this
/-- Others go on. -/
theorem PW.other {Z Y' : Nat → Bool} (h : PW w b lb mb t O Y s) (hK : Kp Z w w') (hZ : ∀ k, Z k = true → Y k = true ∧ X3 b lb mb k = false) (h1 : ∀ k, Y' k = true → (Y k = true ∨ w.heap.size ≤ k) ∧ k < w'.heap.size) (h2 : ∀ k, X3 b lb mb k = true → Y' k = true) : PW w' b lb mb t O Y' s := by
  obtain ⟨bs, vk, vw, ck, cw, h⟩ := h
  have ht : Y' t = false := by
    cases hq : Y' t with
    | false => rfl
    | true =>
      rcases (h1 t hq).1 with e | e
      · rw [h.p.ty] at e; cases e
      · have := h.p.tl; omega
  have hm : ∀ {v : Value} (k : Nat), Xt Y' t v k = true → Xt Y t v k = true ∨ w.heap.size ≤ k := fun k hk => by
    rcases Xt_inv hk with e | e
    · rcases Xu_inv e with e | e
      · rcases (h1 k e).1 with e | e
        · exact Or.inl (Xt_u (Xu_of (Or.inl e)))
        · exact Or.inr e
      · exact Or.inl (Xt_u (Xu_of (Or.inr e)))
    · exact Or.inl (Xt_own e)
  have hp : PSt w bs t b (fun k => Y k || Y' k) vk vw ck cw s.K s.W s.o := by
    have hm2 : ∀ {v : Value} (k : Nat), Xt (fun k => Y k || Y' k) t v k = true → Xt Y t v k = true ∨ w.heap.size ≤ k := fun k hk => by
      rcases Xt_inv hk with e | e
      · rcases Xu_inv e with e | e
        · rcases Bool.or_eq_true _ _ |>.mp e with e | e
          · exact Or.inl (Xt_u (Xu_of (Or.inl e)))
          · exact hm k (Xt_u (Xu_of (Or.inl e)))
        · exact Or.inl (Xt_u (Xu_of (Or.inr e)))
      · exact Or.inl (Xt_own e)
    exact ⟨h.p.c0, h.p.c1, h.p.c2, h.p.c3, h.p.c4, h.p.c5, h.p.z, h.p.tl, by show (Y t || Y' t) = false; rw [h.p.ty, ht]; rfl, h.p.k.more hm2, h.p.s.more hm2⟩
  have hp2 := hp.kp (hK.mono (fun k hk => by show (Y k || Y' k) = true; rw [(hZ k hk).1]; rfl))
  have sub : ∀ {v : Value} (k : Nat), Xt Y' t v k = true → Xt (fun k => Y k || Y' k) t v k = true := fun k hk => by
    rcases Xt_inv hk with e | e
    · rcases Xu_inv e with e | e
      · exact Xt_u (Xu_of (Or.inl (by show (Y k || Y' k) = true; rw [e, Bool.or_true])))
      · exact Xt_u (Xu_of (Or.inr e))
    · exact Xt_own e
  refine ⟨bs, vk, vw, ck, cw, h.d.same hK.size (fun k hk => hK.block k ?_ ?_), ⟨hp2.c0, hp2.c1, hp2.c2, hp2.c3, hp2.c4, hp2.c5, hp2.z, hp2.tl, ht, hp2.k.sub sub, hp2.s.sub sub⟩, h.m, h2, fun g hg => (h1 g hg).2, Nat.le_trans h.bl hK.size, h.ok, h.ow, fun k hk => Nat.lt_of_lt_of_le (h.ol k hk) hK.size⟩
  · rcases X3_of.1 hk with rfl | rfl | rfl
    · exact h.d.bl
    · exact h.d.ll
    · exact h.d.mp.lt
  · cases hq : Z k with
    | false => rfl
    | true => have := (hZ k hq).2; rw [hk] at this; cases this
theorem PW.keep (h : PW w b lb mb t O Y s) (hB : Below w.heap.size w w') : PW w' b lb mb t O Y s := by
  have hh := h
  obtain ⟨bs, vk, vw, ck, cw, g⟩ := hh
  exact h.other (Kp.of (X := fun _ => false) hB) (fun k hk => by cases hk) (fun k hk => ⟨Or.inl hk, Nat.lt_of_lt_of_le (g.yl k hk) hB.size⟩) g.xy
/-- The disk is turned. -/
theorem PW.disk {D' : DM} (h : PW w b lb mb t O Y s) (hd : Dsk w' b lb mb D') (hK : Kp (X3 b lb mb) w w') (hs : SM.ok { s with D := D' }) : PW w' b lb mb t O Y { s with D := D' } := by
  obtain ⟨bs, vk, vw, ck, cw, h⟩ := h
  exact ⟨bs, vk, vw, ck, cw, hd, h.p.kp (hK.mono h.xy), hs, h.xy, fun g hg => Nat.lt_of_lt_of_le (h.yl g hg) hK.size, Nat.le_trans h.bl hK.size, h.ok, h.ow, fun k hk => Nat.lt_of_lt_of_le (h.ol k hk) hK.size⟩
theorem PW.dsk (h : PW w b lb mb t O Y s) : Dsk w b lb mb s.D := by
  obtain ⟨bs, vk, vw, ck, cw, h⟩ := h
  exact h.d
theorem PW.ok (h : PW w b lb mb t O Y s) : s.ok := by
  obtain ⟨bs, vk, vw, ck, cw, h⟩ := h
  exact h.m
theorem PW.x3 (h : PW w b lb mb t O Y s) {k : Nat} (hk : X3 b lb mb k = true) : O k = true := by
  obtain ⟨bs, vk, vw, ck, cw, h⟩ := h
  exact h.ok k (Xt_u (Xu_of (Or.inl hk)))
theorem PW.ol (h : PW w b lb mb t O Y s) {k : Nat} (hk : O k = true) : k < w.heap.size := by
  obtain ⟨bs, vk, vw, ck, cw, h⟩ := h
  exact h.ol k hk
theorem len_pw (h : PW w b lb mb t O Y s) : Calls Try.prog 30 #[pp t] w fun e w' => e = .returned (.int .i64 (s.K.length : Int)) ∧ w' = w := by
  obtain ⟨bs, vk, vw, ck, cw, h⟩ := h
  exact len_n h.p
theorem SM.short {s : SM} (h : s.ok) : short s.K := fun l hl => by have := h.k l hl; omega
theorem entry_pw (h : PW w b lb mb t O Y s) {i : Nat} {l : List Nat} (hl : s.K[i]? = some l) : Calls Try.prog 31 #[pp t, .int .i64 (i : Int)] w (EnP w l) := by
  obtain ⟨bs, vk, vw, ck, cw, h⟩ := h
  obtain ⟨_, _, h3, _⟩ := h.m.sizes (Nat.le_refl _) h.d.ok.n
  exact entry_n2 h.p (SM.short h.m) hl (by omega)
theorem PW.grown (h : PW w b lb mb t O Y s) (hB : Below w.heap.size w w') : PW w' b lb mb t (grow O w w') Y s := by
  obtain ⟨bs, vk, vw, ck, cw, g⟩ := h.keep hB
  exact ⟨bs, vk, vw, ck, cw, g.d, g.p, g.m, g.xy, g.yl, g.bl, fun k hk => grow_of.2 (Or.inl (g.ok k hk)), fun k hk => grow_of.2 (Or.inl (g.ow k hk)), fun k hk => by
    rcases grow_of.1 hk with e | e
    · exact g.ol k e
    · exact e.2⟩
def ApW (w : World) (b lb mb t : Nat) (O Y : Nat → Bool) (s : SM) (er : Int) (e : Ending) (w' : World) : Prop := e = .returned (.int .i64 er) ∧ PW w' b lb mb t (grow O w w') Y s ∧ Kp O w w'
theorem ap_pw (h : PW w b lb mb t O Y s) {x : Option Addr} {m c : Nat} {f : Nat → Nat} (hb : BA w x m f) (hz : 0 < m → ∀ p, x = some p → X3 b lb mb p.block = false) : Calls Try.prog 15 #[pp t, .slice x m c] w (ApW w b lb mb t O Y (s.ap (fl f m)) (s.apE (fl f m))) := by
  have hh := h
  obtain ⟨bs, vk, vw, ck, cw, g⟩ := hh
  obtain ⟨z1, z2, z3, z4, z5⟩ := g.m.sizes (Nat.le_refl _) g.d.ok.n
  have hlen : (fl f m).length = m := fl_len f m
  have hp := g.p
  cases ho : s.o with
  | true =>
    have e1 : s.ap (fl f m) = s := if_pos ho
    have e2 : s.apE (fl f m) = 6 := if_pos ho
    rw [e1, e2]
    rw [ho] at hp
    refine Calls.mono (append_over1 hp _) ?_
    rintro e w2 ⟨rfl, rfl⟩
    exact ⟨rfl, h.grown (Below.refl _ _), Kp.refl _ _⟩
  | false =>
    have ho' : ¬ (s.o = true) := by rw [ho]; decide
    rw [ho] at hp
    by_cases hm : 200 < m
    · have e1 : s.ap (fl f m) = s := (if_neg ho').trans (if_pos (by rw [hlen]; exact hm))
      have e2 : s.apE (fl f m) = 4 := (if_neg ho').trans (if_pos (by rw [hlen]; exact hm))
      rw [e1, e2]
      refine Calls.mono (append_long1 hp hm) ?_
      rintro e w2 ⟨rfl, rfl⟩
      exact ⟨rfl, h.grown (Below.refl _ _), Kp.refl _ _⟩
    · by_cases hf : s.D.n < 3 + tks s.K + tks s.W + tk m
      · have e1 : s.ap (fl f m) = s := (if_neg ho').trans ((if_neg (by rw [hlen]; exact hm)).trans (if_pos (by rw [hlen]; exact hf)))
        have e2 : s.apE (fl f m) = 5 := (if_neg ho').trans ((if_neg (by rw [hlen]; exact hm)).trans (if_pos (by rw [hlen]; exact hf)))
        rw [e1, e2]
        refine Calls.mono (append_full1 hp g.d z1 z2 (by omega) hf) ?_
        rintro e w2 ⟨rfl, hB⟩
        exact ⟨rfl, h.grown hB, Kp.of hB⟩
      · have e0 : apx s (fl f m) = apw s.D (3 + tks s.K + tks s.W) f m (tk m) := by
          unfold apx
          rw [hlen]
          exact (apw_congr (fl_get rfl).2 _ _ _).symm
        have e1 : s.ap (fl f m) = ⟨(apx s (fl f m)).1, s.K, apW (apx s (fl f m)).2 s.W (fl f m), cmO (apx s (fl f m)).2⟩ := (if_neg ho').trans ((if_neg (by rw [hlen]; exact hm)).trans (if_neg (by rw [hlen]; exact hf)))
        have e2 : s.apE (fl f m) = (apx s (fl f m)).2 := (if_neg ho').trans ((if_neg (by rw [hlen]; exact hm)).trans (if_neg (by rw [hlen]; exact hf)))
        have hok := (SM.ap_ok g.m (fl f m)).1
        rw [e1, e2]
        rw [e1] at hok
        rw [e0] at hok ⊢
        refine Calls.mono (append_n hp g.d g.xy g.yl g.bl z5 hb hz (by omega) (by omega)) ?_
        rintro e w2 ⟨rfl, vw', cw', h1, h2, h3, h4⟩
        have hO : ∀ k, Xt (X3 b lb mb) t vw k = true → O k = true := fun k hk => by
          rcases Xt_inv hk with e | e
          · exact g.ok k (Xt_u e)
          · exact g.ow k e
        refine ⟨rfl, ⟨bs, vk, vw', ck, cw', h1, h2, hok, g.xy, fun k hk => Nat.lt_of_lt_of_le (g.yl k hk) h3.size, Nat.le_trans g.bl h3.size, fun k hk => grow_of.2 (Or.inl (g.ok k hk)), fun k hk => ?_, fun k hk => ?_⟩, h3.mono hO⟩
        · rcases h4 with e | ⟨g2, e, hle⟩
          · exact grow_of.2 (Or.inl (g.ow k (e.symm.trans hk)))
          · rw [e] at hk
            cases hk
            exact grow_of.2 (Or.inr ⟨hle, (h2.s.o.lt _ e).2⟩)
        · rcases grow_of.1 hk with e | e
          · exact Nat.lt_of_lt_of_le (g.ol k e) h3.size
          · exact e.2
theorem co_pw (h : PW w b lb mb t O Y s) : Calls Try.prog 17 #[pp t] w (ApW w b lb mb t O Y s.co s.coE) := by
  have hh := h
  obtain ⟨bs, vk, vw, ck, cw, g⟩ := hh
  have hp := g.p
  cases ho : s.o with
  | true =>
    have e1 : s.co = s := if_pos ho
    have e2 : s.coE = 6 := if_pos ho
    rw [e1, e2]
    rw [ho] at hp
    refine Calls.mono (commit_over1 hp) ?_
    rintro e w2 ⟨rfl, rfl⟩
    exact ⟨rfl, h.grown (Below.refl _ _), Kp.refl _ _⟩
  | false =>
    have ho' : ¬ (s.o = true) := by rw [ho]; decide
    rw [ho] at hp
    by_cases hw : s.W = []
    · have e1 : s.co = s := (if_neg ho').trans (if_pos hw)
      have e2 : s.coE = 0 := (if_neg ho').trans (if_pos hw)
      rw [e1, e2]
      rw [hw] at hp
      refine Calls.mono (commit_none1 hp) ?_
      rintro e w2 ⟨rfl, rfl⟩
      exact ⟨rfl, h.grown (Below.refl _ _), Kp.refl _ _⟩
    · have e1 : s.co = ⟨(cm s.D (s.K ++ s.W)).1, cmK (cm s.D (s.K ++ s.W)).2 s.K s.W, cmW (cm s.D (s.K ++ s.W)).2 s.W, cmO (cm s.D (s.K ++ s.W)).2⟩ := (if_neg ho').trans (if_neg hw)
      have e2 : s.coE = (cm s.D (s.K ++ s.W)).2 := (if_neg ho').trans (if_neg hw)
      have hok := SM.co_ok g.m
      rw [e1, e2]
      rw [e1] at hok
      have hst : s.D.dn = true ∨ (s.D.dn = false ∧ stl s.D (3 + tks s.K) s.W) := by
        cases hd : s.D.dn with
        | true => exact Or.inl rfl
        | false => exact Or.inr ⟨rfl, g.m.s ho hd⟩
      refine Calls.mono (commit_n hp g.d g.xy g.yl g.bl hw g.m.w g.m.n hst) ?_
      rintro e w2 ⟨rfl, vk', vw', ck', cw', h1, h2, h3, h4, h5⟩
      refine ⟨rfl, ⟨bs, vk', vw', ck', cw', h1, h2, hok, g.xy, fun k hk => Nat.lt_of_lt_of_le (g.yl k hk) h3.size, Nat.le_trans g.bl h3.size, fun k hk => ?_, fun k hk => ?_, fun k hk => ?_⟩, h3.mono g.ok⟩
      · rcases Xt_inv hk with e | e
        · exact grow_of.2 (Or.inl (g.ok k (Xt_u e)))
        · rcases h4 with e3 | ⟨g2, e3, hle⟩
          · exact grow_of.2 (Or.inl (g.ok k (Xt_own (e3.symm.trans e))))
          · rw [e3] at e
            cases e
            exact grow_of.2 (Or.inr ⟨hle, (h2.k.o.lt _ e3).2⟩)
      · rcases h5 with e | e
        · exact grow_of.2 (Or.inl (g.ow k (e.symm.trans hk)))
        · rw [e] at hk; cases hk
      · rcases grow_of.1 hk with e | e
        · exact Nat.lt_of_lt_of_le (g.ol k e) h3.size
        · exact e.2
end
theorem lays_200 {C : Nat → List Nat} : ∀ {l : List (List Nat)} {p : Nat}, lays C p l → ∀ x ∈ l, x.length ≤ 200
  | [], _, _, x, hx => by simp at hx
  | b :: r, p, h, x, hx => by
    rcases List.mem_cons.1 hx with e | e
    · rw [e]; exact h.1.m
    · exact lays_200 h.2 x e
/-- What Open answers. -/
def OpW (w : World) (b lb mb : Nat) (Y : Nat → Bool) (D : DM) (e : Ending) (w' : World) : Prop := ∃ W, Dsk W b lb mb (D.mendD 0) ∧ Kp (X3 b lb mb) w W ∧ Below W.heap.size W w' ∧ ((D.opE = 0 ∧ ∃ t, e = .returned (.tuple #[pp t, .int .i64 0]) ∧ PW w' b lb mb t (grow (X3 b lb mb) w w') Y ⟨D.mendD 0, D.opL, [], false⟩ ∧ W.heap.size ≤ t) ∨ (D.opE ≠ 0 ∧ e = .returned (.tuple #[.pointer none, .int .i64 D.opE])))
theorem open_pw {w : World} {b lb mb : Nat} {D : DM} {Y : Nat → Bool} (h : Dsk w b lb mb D) (hxy : ∀ g, X3 b lb mb g = true → Y g = true) (hyl : ∀ g, Y g = true → g < w.heap.size) : Calls Try.prog 12 #[pp b] w (OpW w b lb mb Y D) := by
  refine Calls.mono (open_n h) ?_
  rintro e w' ⟨W, h1, h2, h3, h4⟩
  refine ⟨W, h1, h2, h3, h4.imp ?_ id⟩
  rintro ⟨g1, t, vk, ck, rfl, g2, g3, g4⟩
  have hn : (D.mendD 0).n = D.n := by
    have he : D.mendE 0 = 0 := by
      unfold DM.opE at g1
      split at g1
      · assumption
      · rename_i hne; exact absurd g1 hne
    exact (mend_ok (a := 0) he).2.2.2.1
  have hl : ∀ l ∈ D.opL, l.length ≤ 200 := lays_200 g3
  have hsz : ∀ k, X3 b lb mb k = true → k < w.heap.size := fun k hk => by
    rcases X3_of.1 hk with rfl | rfl | rfl
    · exact h.bl
    · exact h.ll
    · exact h.mp.lt
  refine ⟨g1, t, rfl, ⟨W.heap.size, vk, .slice none 0 0, ck, [], h1.keep h3, g2.st (fun g hg => Nat.lt_of_lt_of_le (hyl g hg) h2.size), ⟨by show 3 + tks D.opL + 0 ≤ (D.mendD 0).n; rw [hn]; omega, hl, fun l hl => by simp at hl, fun _ _ => trivial⟩, hxy, fun k hk => Nat.lt_of_lt_of_le (hyl k hk) (Nat.le_trans h2.size h3.size), h3.size, fun k hk => ?_, fun k hk => (by cases hk), fun k hk => ?_⟩, g2.tg⟩
  · rcases Xt_inv hk with e | e
    · rcases Xu_inv e with e | e
      · exact grow_of.2 (Or.inl e)
      · subst e
        exact grow_of.2 (Or.inr ⟨Nat.le_trans h2.size g2.tg, g2.tl⟩)
    · exact grow_of.2 (Or.inr ⟨Nat.le_trans h2.size (g2.s.o.lt k e).1, (g2.s.o.lt k e).2⟩)
  · rcases grow_of.1 hk with e | e
    · exact Nat.lt_of_lt_of_le (hsz k e) (Nat.le_trans h2.size h3.size)
    · exact e.2
end Go.Proofs.Ytjgpopjpmfkfmaa
namespace Go.Proofs.Ytjgpopjpmfkfmaa
open Go.RowKit Go.Maps
attribute [local go_sem ↓] Go.wp_at_zero Go.wp_at_succ

theorem mkv_nil : mkv [] = z64 := by decide
theorem new_open {n : Nat} (h3 : 3 ≤ n) (h4 : n ≤ 4096) : (DM.new n).mendE 0 = 0 ∧ ((DM.new n).mendD 0).free ∧ ((DM.new n).mendD 0).n = n ∧ (DM.new n).opE = 0 ∧ (DM.new n).opL = [] ∧ (DM.new n).opO = some [] := by
  have hf := new_free n
  obtain ⟨m1, m2, m3⟩ := mend_free hf (DM.new_ok h4) (show 2 < n by omega)
  have hl := (ld_free hf (a := 0) (show 2 < n by omega)).2
  have hv : (DM.new n).ldB 0 = z64 := hl
  have hb : ((DM.new n).mendD 0).ldB 0 = z64 := (mend_ok (a := 0) m1).2.2.2.2.2.2.trans hv
  have ho : (DM.new n).opO = some [] := by
    unfold DM.opO
    rw [hb, ← mkv_nil]
    exact opn_lays trivial (show 0 + 3 ≤ n by omega) h4
  refine ⟨m1, m2, m3, ?_, ?_, ho⟩
  · unfold DM.opE
    rw [if_pos m1, ho]
    rfl
  · unfold DM.opL
    rw [ho]
    rfl
theorem ap_free {s : SM} (hf : s.D.free) (ho : s.o = false) {l : List Nat} (hl : ∀ x ∈ l, x < 256) (hm : l.length ≤ 200) (hn : 3 + tks s.K + tks s.W + tk l.length ≤ s.D.n) : s.apE l = 0 ∧ (s.ap l).D.free ∧ (s.ap l).D.n = s.D.n ∧ (s.ap l).K = s.K ∧ (s.ap l).W = s.W ++ [l] ∧ (s.ap l).o = false := by
  have ho' : ¬ (s.o = true) := by rw [ho]; decide
  obtain ⟨g1, g2, g3⟩ := apw_free hf (p := 3 + tks s.K + tks s.W) (f := fun i => l.getD i 0) (fun i => getD_lt hl i) hm (tk l.length) (by omega)
  have e1 : s.ap l = ⟨(apx s l).1, s.K, apW (apx s l).2 s.W l, cmO (apx s l).2⟩ := (if_neg ho').trans ((if_neg (by omega)).trans (if_neg (by omega)))
  have e2 : s.apE l = (apx s l).2 := (if_neg ho').trans ((if_neg (by omega)).trans (if_neg (by omega)))
  have e3 : (apx s l).2 = 0 := g1
  rw [e1, e2]
  refine ⟨e3, g2, g3, rfl, ?_, ?_⟩
  · show apW (apx s l).2 s.W l = _
    exact if_pos e3
  · show cmO (apx s l).2 = false
    rw [e3]
    decide
theorem co_free {s : SM} (hf : s.D.free) (ho : s.o = false) (hn : 2 < s.D.n) : s.coE = 0 ∧ s.co.D.free ∧ s.co.D.n = s.D.n ∧ s.co.K = s.K ++ s.W ∧ s.co.W = [] ∧ s.co.o = false := by
  have ho' : ¬ (s.o = true) := by rw [ho]; decide
  by_cases hw : s.W = []
  · have e1 : s.co = s := (if_neg ho').trans (if_pos hw)
    have e2 : s.coE = 0 := (if_neg ho').trans (if_pos hw)
    rw [e1, e2, hw, List.append_nil]
    exact ⟨rfl, hf, rfl, rfl, rfl, ho⟩
  · obtain ⟨g1, g2, g3⟩ := cm_free hf hn (s.K ++ s.W)
    have e1 : s.co = ⟨(cm s.D (s.K ++ s.W)).1, cmK (cm s.D (s.K ++ s.W)).2 s.K s.W, cmW (cm s.D (s.K ++ s.W)).2 s.W, cmO (cm s.D (s.K ++ s.W)).2⟩ := (if_neg ho').trans (if_neg hw)
    have e2 : s.coE = (cm s.D (s.K ++ s.W)).2 := (if_neg ho').trans (if_neg hw)
    rw [e1, e2]
    refine ⟨g1, g2, g3, ?_, ?_, ?_⟩
    · exact if_pos g1
    · exact if_pos g1
    · show cmO _ = false
      rw [g1]
      decide
theorem kp_below {X : Nat → Bool} {w w1 w2 : World} (hB : Below w.heap.size w w1) (hK : Kp X w1 w2) (hX : ∀ k, X k = true → w.heap.size ≤ k) : Below w.heap.size w w2 :=
  ⟨hK.os.trans hB.os, hK.tape.trans hB.tape, hK.output.trans hB.output, Nat.le_trans hB.size hK.size, fun k hk => (hK.block k (Nat.lt_of_lt_of_le hk hB.size) (by
    cases hx : X k with
    | false => rfl
    | true => have := hX k hx; omega)).trans (hB.block k hk)⟩
/-- The blocks of a disk are there. -/
theorem Dsk.xl {w : World} {b lb mb : Nat} {D : DM} (h : Dsk w b lb mb D) : ∀ g, X3 b lb mb g = true → g < w.heap.size := fun k hk => by
  rcases X3_of.1 hk with rfl | rfl | rfl
  · exact h.bl
  · exact h.ll
  · exact h.mp.lt
/-- A new disk that is opened. -/
def FrP (w : World) (b lb mb : Nat) (n : Nat) (e : Ending) (w' : World) : Prop := ∃ t s, e = .returned (.tuple #[pp t, .int .i64 0]) ∧ PW w' b lb mb t (grow (X3 b lb mb) w w') (X3 b lb mb) s ∧ s.D.free ∧ s.D.n = n ∧ s.K = [] ∧ s.W = [] ∧ s.o = false ∧ Kp (X3 b lb mb) w w'
theorem fresh_open {w : World} {b lb mb n : Nat} (h : Dsk w b lb mb (.new n)) (h3 : 3 ≤ n) (h4 : n ≤ 4096) : Calls Try.prog 12 #[pp b] w (FrP w b lb mb n) := by
  obtain ⟨_, m2, m3, m4, m5, _⟩ := new_open h3 h4
  refine Calls.mono (open_pw (Y := X3 b lb mb) h (fun _ hg => hg) h.xl) ?_
  rintro e w' ⟨W, h1, h2, h5, ⟨_, t, rfl, h6, _⟩ | ⟨hne, _⟩⟩
  · exact ⟨t, _, rfl, h6, m2, m3, m5, rfl, rfl, h2.trans (Kp.of h5)⟩
  · exact absurd m4 hne
theorem ba_a (w : World) : BA (w.alloc (.cells #[.int .u8 97] 5 (1, 2))) (some ⟨w.heap.size, 0, none⟩) 1 (fun _ => 97) :=
  ⟨fun _ => by decide, Or.inr ⟨_, _, rfl, ⟨fun i hi => by
    obtain rfl : i = 0 := by omega
    rw [cell_of_row _ _ _ _ _ _ (heap_alloc_new w _)]; rfl⟩⟩⟩
set_option maxRecDepth 100000 in
set_option maxHeartbeats 4000000 in
theorem awake_n (w : World) : Calls Try.prog 8 #[] w fun e w' => e = .returned (.bool true) ∧ Below w.heap.size w w' := by
  go_enter Try.func8, Try.ntmps8
  go_upto_region 2 with (go_at_call 10; refine Calls.mono (new_any (n := 9) (by omega) _) ?_; rintro e W1 ⟨b, lb, mb, rfl, hD, h1, h2, h3, hB⟩; have HD := hide hD; have HB1 := hide hB; have HG := hide (And.intro h1 (And.intro h2 h3)); clear hD hB h1 h2 h3)
  have HFo := hide (fresh_open HD.out (by omega) (by omega))
  go_upto_region 3 with (go_at_call 12; refine Calls.mono HFo.out ?_; rintro e W2 ⟨t, s, rfl, hP, hf, hn, hk, hw, ho, hK⟩; have HP := hide hP; have HS := hide (And.intro hf (And.intro hn (And.intro hk (And.intro hw ho)))); have HK2 := hide hK; clear hP hf hn hk hw ho hK)
  have HX : Hid (∀ k, X3 b lb mb k = true → w.heap.size ≤ k) := fun k hk => by
    rcases X3_of.1 hk with e | e | e
    · rw [e]; exact HG.out.1
    · rw [e]; exact HG.out.2.1
    · rw [e]; exact HG.out.2.2
  have HB2 : Hid (Below w.heap.size w W2) := kp_below HB1.out HK2.out HX.out
  have hcv : (convert 38 38 (.slice (some ⟨W2.heap.size, 0, none⟩) 1 1)).run Try.prog (W2.alloc (.cells #[.int .u8 97] 5)) = .ok (.slice (some ⟨W2.heap.size, 0, none⟩) 1 1) (W2.alloc (.cells #[.int .u8 97] 5 (1, 2))) := Lib.run_convert_bytes_const W2 38 5 #[.int .u8 97] 1 1 Try.underlying38 Try.underlying5
  have HP3 := hide (HP.out.keep (Go.Proofs.Ytjgpopjpmfkfmaa.K.alloc (Below.refl _ W2) (.cells #[.int .u8 97] 5 (1, 2))))
  have HAp : Hid (Calls Try.prog 15 #[pp t, .slice (some ⟨W2.heap.size, 0, none⟩) 1 1] (W2.alloc (.cells #[.int .u8 97] 5 (1, 2))) fun e w' => e = .returned (.int .i64 0) ∧ PW w' b lb mb t (grow (grow (X3 b lb mb) W1 W2) (W2.alloc (.cells #[.int .u8 97] 5 (1, 2))) w') (X3 b lb mb) (s.ap [97]) ∧ Kp (grow (X3 b lb mb) W1 W2) (W2.alloc (.cells #[.int .u8 97] 5 (1, 2))) w') := by
    have h5 := ap_pw (c := 1) HP3.out (ba_a W2) (fun _ p hp => by cases hp; exact HP.out.dsk.out (Nat.le_refl _))
    obtain ⟨q1, q2, q3, q4, q5⟩ := HS.out
    have h6 := (ap_free (s := s) (l := [97]) q1 q5 (fun x hx => by simp at hx; omega) (by decide) (by rw [q3, q4, q2]; decide)).1
    rw [show fl (fun _ => 97) 1 = [97] from rfl] at h5
    unfold ApW at h5
    rw [h6] at h5
    exact h5
  have HAf : Hid ((s.ap [97]).D.free ∧ (s.ap [97]).o = false ∧ (s.ap [97]).K = [] ∧ (s.ap [97]).W = [[97]] ∧ (s.ap [97]).D.n = 9) := by
    obtain ⟨q1, q2, q3, q4, q5⟩ := HS.out
    obtain ⟨_, g2, g3, g4, g5, g6⟩ := ap_free (s := s) (l := [97]) q1 q5 (fun x hx => by simp at hx; omega) (by decide) (by rw [q3, q4, q2]; decide)
    exact ⟨g2, g6, g4.trans q3, by rw [g5, q4]; rfl, g3.trans q2⟩
  obtain ⟨s1, hs1⟩ : ∃ s1, s1 = s.ap [97] := ⟨_, rfl⟩
  rw [← hs1] at HAp HAf
  clear hs1
  have HCf := hide (co_free HAf.out.1 HAf.out.2.1 (by rw [HAf.out.2.2.2.2]; decide))
  have HLn : Hid (s1.co.K.length = 1) := by show s1.co.K.length = 1; rw [HCf.out.2.2.2.1, HAf.out.2.2.1, HAf.out.2.2.2.1]; rfl
  have HCo : Hid (∀ (W : World) (O : Nat → Bool), PW W b lb mb t O (X3 b lb mb) s1 → Calls Try.prog 17 #[pp t] W fun e w' => e = .returned (.int .i64 0) ∧ PW w' b lb mb t (grow O W w') (X3 b lb mb) s1.co ∧ Kp O W w') := fun W O hW => by
    have h5 := co_pw hW
    unfold ApW at h5
    rw [HCf.out.1] at h5
    exact h5
  have HLe : Hid (∀ (W : World) (O : Nat → Bool), PW W b lb mb t O (X3 b lb mb) s1.co → Calls Try.prog 30 #[pp t] W fun e w' => e = .returned (.int .i64 1) ∧ w' = W) := fun W O hW => by
    have h5 := len_pw hW
    rw [HLn.out] at h5
    exact h5
  have HG2 : Hid (∀ k, grow (X3 b lb mb) W1 W2 k = true → w.heap.size ≤ k) := fun k hk => by
    rcases grow_of.1 hk with e | e
    · exact HX.out k e
    · exact Nat.le_trans HB1.out.size e.1
  go_wp2_with (first
    | (go_at_call 15; refine Calls.mono HAp.out ?_; rintro e W3 ⟨rfl, hP3, hK3⟩; have HP4 := hide hP3; have HK3 := hide hK3; have HCo3 := hide (HCo.out _ _ hP3); clear hP3 hK3)
    | (go_at_call 17; refine Calls.mono HCo3.out ?_; rintro e W4 ⟨rfl, hP5, hK5⟩; have HLe4 := hide (HLe.out _ _ hP5); have HK5 := hide hK5; clear hP5 hK5)
    | (go_at_call 30; refine Calls.mono HLe4.out ?_; rintro e W4 ⟨rfl, rfl⟩))
  go_ret
  have hB3 : Below w.heap.size w W3 := kp_below (HB2.out.trans ((Go.Proofs.Ytjgpopjpmfkfmaa.K.alloc (Below.refl _ W2) _).mono HB2.out.size)) HK3.out HG2.out
  exact ⟨rfl, kp_below hB3 HK5.out (fun k hk => by
    rcases grow_of.1 hk with e | e
    · exact HG2.out k e
    · exact Nat.le_trans HB2.out.size (Nat.le_trans (by simp) e.1))⟩
end Go.Proofs.Ytjgpopjpmfkfmaa
namespace Go.Proofs.Ytjgpopjpmfkfmaa
open Go.RowKit Go.Maps
attribute [local go_sem ↓] Go.wp_at_zero Go.wp_at_succ

def KeP (w : World) (K : List (List Nat)) (e : Ending) (w' : World) : Prop := ∃ v cs, e = .returned v ∧ Lst w' w.heap.size (Xl w.heap.size) v K cs ∧ Below w.heap.size w w'
structure KeR (w wr : World) (v : Value) (l : List (List Nat)) (cs : List Value) : Prop where
  s : Lst wr w.heap.size (Xl w.heap.size) v l cs
  k : Below w.heap.size w wr
theorem KeR.next {w wr W1 W3 : World} {v v' : Value} {l : List (List Nat)} {cs : List Value} (h : KeR w wr v l cs) (hB : Below wr.heap.size wr W1) {x : Option Addr} {k c : Nat} {f : Nat → Nat} (hb : BA W1 x k f) (hx : 0 < k → ∀ q, x = some q → wr.heap.size ≤ q.block) {o : Obj}
    (ho : W3.ownsRow w.heap.size 38 1 v' (l.length + 1) (cs ++ [.slice x k c])) (hG : (W1.alloc o).grownBy W3 v.ownBlock) (hat : v'.ownBlock = v.ownBlock ∨ v'.ownBlock = some (W1.alloc o).heap.size) : KeR w W3 v' (l ++ [fl f k]) (cs ++ [.slice x k c]) := by
  have hlt : ∀ g, v.ownBlock = some g → g < wr.heap.size := fun g hg => (h.s.o.lt g hg).2
  have hB2 : Below W1.heap.size W1 (W1.alloc o) := K.alloc (Below.refl _ _) o
  have hkW : Below w.heap.size w (W1.alloc o) := (h.k.trans (hB.mono h.k.size)).trans (hB2.mono (Nat.le_trans h.k.size hB.size))
  refine ⟨((h.s.keep hB).keep hB2).push (fun g hg => Nat.lt_of_lt_of_le (Xl_of.1 hg) hkW.size) (hb.keep hB2) (fun h0 p hp => ⟨Xl_not (Nat.le_trans h.k.size (hx h0 p hp)), fun e => ?_⟩) ho hG hat, hkW.grown hG hkW.size (fun g hg => (h.s.o.lt g hg).1)⟩
  have h1 := hlt _ e
  have h2 := hx h0 p hp
  omega
theorem take_snoc {K : List (List Nat)} {i : Nat} {l : List Nat} (h : K[i]? = some l) : K.take (i + 1) = K.take i ++ [l] := by
  rw [List.take_add_one, h]
  rfl
set_option maxRecDepth 100000 in
set_option maxHeartbeats 4000000 in
theorem kept_n {w : World} {b lb mb t : Nat} {O Y : Nat → Bool} {s : SM} (h : PW w b lb mb t O Y s) : Calls Try.prog 26 #[pp t] w (KeP w s.K) := by
  have HP := hide h
  have hl : s.K.length ≤ 4096 := by
    obtain ⟨bs, vk, vw, ck, cw, g⟩ := h
    exact (g.m.sizes (Nat.le_refl _) g.d.ok.n).2.2.1
  clear h
  go_enter Try.func26, Try.ntmps26
  go_wp2_with fail
  go_loopg [3, 4] s.K.length (fun g' s3 s4 wr => ∃ (i : Nat) (cs : List Value), g' = s.K.length - i ∧ i ≤ s.K.length ∧ s4 = .int .i64 (i : Int) ∧ KeR w wr s3 (s.K.take i) cs)
  case atStart => exact ⟨0, [], rfl, Nat.zero_le _, rfl, Lst.nil _ _ _, Below.refl _ _⟩
  case round =>
    obtain ⟨i, cs, rfl, hi, rfl, hR⟩ := hrel
    have HR := hide hR
    obtain ⟨zv, cv, ev, _⟩ := hR.s.shape
    have hlen : (s.K.take i).length = i := by rw [List.length_take, Nat.min_eq_left hi]
    rw [hlen] at ev
    subst ev
    clear hR
    have HLe := hide (len_pw (HP.out.keep HR.out.k))
    by_cases hlt : i < s.K.length
    · obtain ⟨l, hl2⟩ : ∃ l, s.K[i]? = some l := ⟨_, List.getElem?_eq_getElem hlt⟩
      have hlt' : (i : Int) < (s.K.length : Int) := by omega
      have hw1 : wrap64 ((i : Int) + 1) = (i : Int) + 1 := w63 (by omega) (by omega)
      have HEn := hide (entry_pw (HP.out.keep HR.out.k) hl2)
      have HTk := hide (take_snoc hl2)
      have HLn := hide hlen
      clear hl2 hlen
      go_upto_region 6 with (first
        | (go_at_call 30; refine Calls.mono HLe.out ?_; rintro e wr ⟨rfl, rfl⟩)
        | (go_at_call 31; refine Calls.mono HEn.out ?_; rintro e W1 ⟨z1, c1, f1, rfl, hb, hf, hz, hB⟩; have HE := hide (And.intro hb (And.intro hf (And.intro hz hB))); clear hb hf hz hB))
      have HS1 : Hid (Lst (W1.alloc (.cells #[.slice z1 l.length c1] 38)) w.heap.size (Xl w.heap.size) (.slice zv i cv) (s.K.take i) cs) := (HR.out.s.keep HE.out.2.2.2).keep (K.alloc (Below.refl _ _) _)
      have HO1 : Hid ((W1.alloc (.cells #[.slice z1 l.length c1] 38)).ownsRow w.heap.size 38 1 (.slice zv i cv) i cs) := by have := HS1.out.o; rw [HLn.out] at this; exact this
      have HSz : Hid (w.heap.size ≤ (W1.alloc (.cells #[.slice z1 l.length c1] 38)).heap.size) := Nat.le_trans (Nat.le_trans HR.out.k.size HE.out.2.2.2.size) (by simp)
      have HCe : Hid ((W1.alloc (.cells #[.slice z1 l.length c1] 38)).cell? ⟨W1.heap.size, 0, none⟩ = some (.slice z1 l.length c1)) := (Boxed.new W1 38 (.slice z1 l.length c1)).cell
      have hLe : i ≤ 100000 := by omega
      have HN : Hid (∀ v3 W3, W3.ownsRow w.heap.size 38 1 v3 (i + 1) (cs ++ [.slice z1 l.length c1]) → (W1.alloc (.cells #[.slice z1 l.length c1] 38)).grownBy W3 (Value.slice zv i cv).ownBlock → (v3.ownBlock = (Value.slice zv i cv).ownBlock ∨ v3.ownBlock = some (W1.alloc (.cells #[.slice z1 l.length c1] 38)).heap.size) → KeR w W3 v3 (s.K.take (i + 1)) (cs ++ [.slice z1 l.length c1])) := fun v3 W3 ho hG hat => by
        have h9 := HR.out.next HE.out.2.2.2 HE.out.1 HE.out.2.2.1 (by rw [HLn.out]; exact ho) hG hat
        rw [HE.out.2.1, ← HTk.out] at h9
        exact h9
      go_wp2_with (refine wpList_app1 rfl _ _ rfl rfl HO1.out rfl HCe.out rfl hLe HSz.out ?_; intro v3 W3 ho3 hG3 hat3; have HR3 := hide (HN.out v3 W3 ho3 hG3 hat3); clear ho3 hG3 hat3)
      go_roundg (s.K.length - (i + 1))
      case measure => omega
      case rel => exact ⟨i + 1, _, rfl, hlt, by simp, HR3.out⟩
    · obtain rfl : i = s.K.length := by omega
      go_wp2_with (go_at_call 30; refine Calls.mono HLe.out ?_; rintro e wr ⟨rfl, rfl⟩)
      go_ret
      have h9 := HR.out.s
      rw [List.take_length] at h9
      exact ⟨_, cs, rfl, h9, HR.out.k⟩
end Go.Proofs.Ytjgpopjpmfkfmaa
namespace Go.Proofs.Ytjgpopjpmfkfmaa
set_option maxRecDepth 100000
open Go.ChangeShapes Go.WideShapes Go.ChangeAt Go.RowKit

/-- A fate in memory. -/
structure FtV : Type where
  z : Option Addr
  KL : List Bool
  k : Nat
  t : Int
  a : Int
def FtV.cells (o : FtV) : List Value := [.slice o.z o.KL.length o.k, .int .i64 o.t, .int .i64 o.a]
structure FtsAt (W : World) (z : Option Addr) (n : Nat) (O : Nat → FtV) : Prop where
  at_ : n = 0 ∨ ∃ b o, z = some ⟨b, o, none⟩ ∧ ∀ i, i < n → W.rangeAt b (o + i * 3) (O i).cells
  r : ∀ i, i < n → Kb W (O i).z (O i).KL
theorem FtsAt.keep {W w1 : World} {z : Option Addr} {n : Nat} {O : Nat → FtV} (h : FtsAt W z n O) (hb : Below W.heap.size W w1) : FtsAt w1 z n O :=
  ⟨h.at_.imp id fun ⟨b, o, e, hr⟩ => ⟨b, o, e, fun i hi j v hv => later hb (hr i hi j v hv)⟩, fun i hi => (h.r i hi).keep hb⟩
theorem FtsAt.cells {W : World} {z : Option Addr} {n : Nat} {O : Nat → FtV} (h : FtsAt W z n O) (hn : 0 < n) : ∃ b o, z = some ⟨b, o, none⟩ ∧ ∀ i, i < n → W.rangeAt b (o + i * 3) (O i).cells :=
  h.at_.elim (fun e => by omega) id
/-- A text in memory. -/
structure TxV : Type where
  x : Option Addr
  m : Nat
  c : Nat
  f : Nat → Nat
def TxV.v (o : TxV) : Value := .slice o.x o.m o.c
structure TxsAt (W : World) (z : Option Addr) (n : Nat) (O : Nat → TxV) : Prop where
  at_ : n = 0 ∨ ∃ b o, z = some ⟨b, o, none⟩ ∧ ∀ i, i < n → W.cell? ⟨b, o + i, none⟩ = some (O i).v
  r : ∀ i, i < n → BA W (O i).x (O i).m (O i).f
theorem TxsAt.keep {W w1 : World} {z : Option Addr} {n : Nat} {O : Nat → TxV} (h : TxsAt W z n O) (hb : Below W.heap.size W w1) : TxsAt w1 z n O :=
  ⟨h.at_.imp id fun ⟨b, o, e, hr⟩ => ⟨b, o, e, fun i hi => later hb (hr i hi)⟩, fun i hi => (h.r i hi).keep hb⟩
end Go.Proofs.Ytjgpopjpmfkfmaa
