/- Layer 15: the program's store as the laws look at it. -/
import Derived.Test.YtjgpopjpmfkfmaaM15E
namespace Go.Proofs.Ytjgpopjpmfkfmaa
open Go.RowKit Go.Maps
attribute [local go_sem ↓] Go.wp_at_zero Go.wp_at_succ

structure PWr (w : World) (b lb mb t : Nat) (O Y : Nat → Bool) (bs : Nat) (vk vw : Value) (ck cw : List Value) (s : SM) : Prop where
  d : Dsk w b lb mb s.D
  p : PSt w bs t b Y vk vw ck cw s.K s.W s.o
  m : s.ok
  xy : ∀ g, X3 b lb mb g = true → Y g = true
  yl : ∀ g, Y g = true → g < w.heap.size
  bl : bs ≤ w.heap.size
  ok : ∀ k, Xt (X3 b lb mb) t vk k = true → O k = true
  ow : ∀ k, vw.ownBlock = some k → O k = true
  ol : ∀ k, O k = true → k < w.heap.size
/-- A store and its disk: O are the blocks that their calls may write, Y those that others may (and the disk's own). -/
def PW (w : World) (b lb mb t : Nat) (O Y : Nat → Bool) (s : SM) : Prop := ∃ bs vk vw ck cw, PWr w b lb mb t O Y bs vk vw ck cw s
/-- With all blocks that are new. -/
def grow (O : Nat → Bool) (w w' : World) (k : Nat) : Bool := O k || (decide (w.heap.size ≤ k) && decide (k < w'.heap.size))
theorem grow_of {O : Nat → Bool} {w w' : World} {k : Nat} : grow O w w' k = true ↔ O k = true ∨ (w.heap.size ≤ k ∧ k < w'.heap.size) := by
  unfold grow
  simp
theorem SM.ok.sizes {s : SM} (h : s.ok) {n : Nat} (hn : s.D.n ≤ n) (h4 : n ≤ 4096) : tks s.K ≤ 1000000 ∧ tks s.W ≤ 1000000 ∧ s.K.length ≤ 4096 ∧ s.W.length ≤ 4096 ∧ s.W.length ≤ 100000 := by
  have h1 := h.n
  have h2 := tks_len s.K
  have h3 := tks_len s.W
  omega
section
variable {w w' : World} {b lb mb t : Nat} {O Y : Nat → Bool} {s : SM}
theorem PWr.t3 {bs : Nat} {vk vw : Value} {ck cw : List Value} (h : PWr w b lb mb t O Y bs vk vw ck cw s) : X3 b lb mb t = false := by
  cases hq : X3 b lb mb t with
  | false => rfl
  | true => have := h.xy t hq; rw [h.p.ty] at this; cases this
/-- Others go on. -/
theorem PW.other {Z Y' : Nat → Bool} (h : PW w b lb mb t O Y s) (hK : Kp Z w w') (hZ : ∀ k, Z k = true → Y k = true ∧ X3 b lb mb k = false) (h1 : ∀ k, Y' k = true → (Y k = true ∨ w.heap.size ≤ k) ∧ k < w'.heap.size) (h2 : ∀ k, X3 b lb mb k = true → Y' k = true) : PW w' b lb mb t O Y' s := by
  obtain ⟨bs, vk, vw, ck, cw, h⟩ := h
  have ht : Y' t = false := by
    cases hq : Y' t with
    | false => rfl
    | true =>
      rcases (h1 t hq).1 with e | e
      · rw [h.p.ty] at e; cases e
      · have := h.p.tl; omega
  have hm : ∀ {v : Value} (k : Nat), Xt Y' t v k = true → Xt Y t v k = true ∨ w.heap.size ≤ k := fun k hk => by
    rcases Xt_inv hk with e | e
    · rcases Xu_inv e with e | e
      · rcases (h1 k e).1 with e | e
        · exact Or.inl (Xt_u (Xu_of (Or.inl e)))
        · exact Or.inr e
      · exact Or.inl (Xt_u (Xu_of (Or.inr e)))
    · exact Or.inl (Xt_own e)
  have hp : PSt w bs t b (fun k => Y k || Y' k) vk vw ck cw s.K s.W s.o := by
    have hm2 : ∀ {v : Value} (k : Nat), Xt (fun k => Y k || Y' k) t v k = true → Xt Y t v k = true ∨ w.heap.size ≤ k := fun k hk => by
      rcases Xt_inv hk with e | e
      · rcases Xu_inv e with e | e
        · rcases Bool.or_eq_true _ _ |>.mp e with e | e
          · exact Or.inl (Xt_u (Xu_of (Or.inl e)))
          · exact hm k (Xt_u (Xu_of (Or.inl e)))
        · exact Or.inl (Xt_u (Xu_of (Or.inr e)))
      · exact Or.inl (Xt_own e)
    exact ⟨h.p.c0, h.p.c1, h.p.c2, h.p.c3, h.p.c4, h.p.c5, h.p.z, h.p.tl, by show (Y t || Y' t) = false; rw [h.p.ty, ht]; rfl, h.p.k.more hm2, h.p.s.more hm2⟩
  have hp2 := hp.kp (hK.mono (fun k hk => by show (Y k || Y' k) = true; rw [(hZ k hk).1]; rfl))
  have sub : ∀ {v : Value} (k : Nat), Xt Y' t v k = true → Xt (fun k => Y k || Y' k) t v k = true := fun k hk => by
    rcases Xt_inv hk with e | e
    · rcases Xu_inv e with e | e
      · exact Xt_u (Xu_of (Or.inl (by show (Y k || Y' k) = true; rw [e, Bool.or_true])))
      · exact Xt_u (Xu_of (Or.inr e))
    · exact Xt_own e
  refine ⟨bs, vk, vw, ck, cw, h.d.same hK.size (fun k hk => hK.block k ?_ ?_), ⟨hp2.c0, hp2.c1, hp2.c2, hp2.c3, hp2.c4, hp2.c5, hp2.z, hp2.tl, ht, hp2.k.sub sub, hp2.s.sub sub⟩, h.m, h2, fun g hg => (h1 g hg).2, Nat.le_trans h.bl hK.size, h.ok, h.ow, fun k hk => Nat.lt_of_lt_of_le (h.ol k hk) hK.size⟩
  · rcases X3_of.1 hk with rfl | rfl | rfl
    · exact h.d.bl
    · exact h.d.ll
    · exact h.d.mp.lt
  · cases hq : Z k with
    | false => rfl
    | true => have := (hZ k hq).2; rw [hk] at this; cases this
theorem PW.keep (h : PW w b lb mb t O Y s) (hB : Below w.heap.size w w') : PW w' b lb mb t O Y s := by
  have hh := h
  obtain ⟨bs, vk, vw, ck, cw, g⟩ := hh
  exact h.other (Kp.of (X := fun _ => false) hB) (fun k hk => by cases hk) (fun k hk => ⟨Or.inl hk, Nat.lt_of_lt_of_le (g.yl k hk) hB.size⟩) g.xy
/-- The disk is turned. -/
theorem PW.disk {D' : DM} (h : PW w b lb mb t O Y s) (hd : Dsk w' b lb mb D') (hK : Kp (X3 b lb mb) w w') (hs : SM.ok { s with D := D' }) : PW w' b lb mb t O Y { s with D := D' } := by
  obtain ⟨bs, vk, vw, ck, cw, h⟩ := h
  exact ⟨bs, vk, vw, ck, cw, hd, h.p.kp (hK.mono h.xy), hs, h.xy, fun g hg => Nat.lt_of_lt_of_le (h.yl g hg) hK.size, Nat.le_trans h.bl hK.size, h.ok, h.ow, fun k hk => Nat.lt_of_lt_of_le (h.ol k hk) hK.size⟩
theorem PW.dsk (h : PW w b lb mb t O Y s) : Dsk w b lb mb s.D := by
  obtain ⟨bs, vk, vw, ck, cw, h⟩ := h
  exact h.d
theorem PW.ok (h : PW w b lb mb t O Y s) : s.ok := by
  obtain ⟨bs, vk, vw, ck, cw, h⟩ := h
  exact h.m
theorem PW.x3 (h : PW w b lb mb t O Y s) {k : Nat} (hk : X3 b lb mb k = true) : O k = true := by
  obtain ⟨bs, vk, vw, ck, cw, h⟩ := h
  exact h.ok k (Xt_u (Xu_of (Or.inl hk)))
theorem PW.ol (h : PW w b lb mb t O Y s) {k : Nat} (hk : O k = true) : k < w.heap.size := by
  obtain ⟨bs, vk, vw, ck, cw, h⟩ := h
  exact h.ol k hk
theorem len_pw (h : PW w b lb mb t O Y s) : Calls Try.prog 30 #[pp t] w fun e w' => e = .returned (.int .i64 (s.K.length : Int)) ∧ w' = w := by
  obtain ⟨bs, vk, vw, ck, cw, h⟩ := h
  exact len_n h.p
theorem waits_pw (h : PW w b lb mb t O Y s) : Calls Try.prog 29 #[pp t] w fun e w' => e = .returned (.int .i64 (s.W.length : Int)) ∧ w' = w := by
  obtain ⟨bs, vk, vw, ck, cw, h⟩ := h
  exact waits_n h.p
theorem room_pw (h : PW w b lb mb t O Y s) : Calls Try.prog 27 #[pp t] w fun e w' => e = .returned (.int .i64 ((s.D.n : Int) - 3 - (tks s.K : Int) - (tks s.W : Int))) ∧ Below w.heap.size w w' := by
  obtain ⟨bs, vk, vw, ck, cw, h⟩ := h
  obtain ⟨h1, h2, _⟩ := h.m.sizes (Nat.le_refl _) h.d.ok.n
  exact room_n h.p h.d h1 h2
theorem SM.short {s : SM} (h : s.ok) : short s.K := fun l hl => by have := h.k l hl; omega
theorem entry_pw (h : PW w b lb mb t O Y s) {i : Nat} {l : List Nat} (hl : s.K[i]? = some l) : Calls Try.prog 31 #[pp t, .int .i64 (i : Int)] w (EnP w l) := by
  obtain ⟨bs, vk, vw, ck, cw, h⟩ := h
  obtain ⟨_, _, h3, _⟩ := h.m.sizes (Nat.le_refl _) h.d.ok.n
  exact entry_n2 h.p (SM.short h.m) hl (by omega)
theorem entry_out_pw (h : PW w b lb mb t O Y s) {i : Int} (hi : i < 0 ∨ (s.K.length : Int) ≤ i) : Calls Try.prog 31 #[pp t, .int .i64 i] w fun e w' => e = .returned (.tuple #[.slice none 0 0, .bool false]) ∧ w' = w := by
  obtain ⟨bs, vk, vw, ck, cw, h⟩ := h
  exact entry_out h.p hi
theorem PW.grown (h : PW w b lb mb t O Y s) (hB : Below w.heap.size w w') : PW w' b lb mb t (grow O w w') Y s := by
  obtain ⟨bs, vk, vw, ck, cw, g⟩ := h.keep hB
  exact ⟨bs, vk, vw, ck, cw, g.d, g.p, g.m, g.xy, g.yl, g.bl, fun k hk => grow_of.2 (Or.inl (g.ok k hk)), fun k hk => grow_of.2 (Or.inl (g.ow k hk)), fun k hk => by
    rcases grow_of.1 hk with e | e
    · exact g.ol k e
    · exact e.2⟩
def ApW (w : World) (b lb mb t : Nat) (O Y : Nat → Bool) (s : SM) (er : Int) (e : Ending) (w' : World) : Prop := e = .returned (.int .i64 er) ∧ PW w' b lb mb t (grow O w w') Y s ∧ Kp O w w'
theorem ap_pw (h : PW w b lb mb t O Y s) {x : Option Addr} {m c : Nat} {f : Nat → Nat} (hb : BA w x m f) (hz : 0 < m → ∀ p, x = some p → X3 b lb mb p.block = false) : Calls Try.prog 15 #[pp t, .slice x m c] w (ApW w b lb mb t O Y (s.ap (fl f m)) (s.apE (fl f m))) := by
  have hh := h
  obtain ⟨bs, vk, vw, ck, cw, g⟩ := hh
  obtain ⟨z1, z2, z3, z4, z5⟩ := g.m.sizes (Nat.le_refl _) g.d.ok.n
  have hlen : (fl f m).length = m := fl_len f m
  have hp := g.p
  cases ho : s.o with
  | true =>
    have e1 : s.ap (fl f m) = s := if_pos ho
    have e2 : s.apE (fl f m) = 6 := if_pos ho
    rw [e1, e2]
    rw [ho] at hp
    refine Calls.mono (append_over1 hp _) ?_
    rintro e w2 ⟨rfl, rfl⟩
    exact ⟨rfl, h.grown (Below.refl _ _), Kp.refl _ _⟩
  | false =>
    have ho' : ¬ (s.o = true) := by rw [ho]; decide
    rw [ho] at hp
    by_cases hm : 200 < m
    · have e1 : s.ap (fl f m) = s := (if_neg ho').trans (if_pos (by rw [hlen]; exact hm))
      have e2 : s.apE (fl f m) = 4 := (if_neg ho').trans (if_pos (by rw [hlen]; exact hm))
      rw [e1, e2]
      refine Calls.mono (append_long1 hp hm) ?_
      rintro e w2 ⟨rfl, rfl⟩
      exact ⟨rfl, h.grown (Below.refl _ _), Kp.refl _ _⟩
    · by_cases hf : s.D.n < 3 + tks s.K + tks s.W + tk m
      · have e1 : s.ap (fl f m) = s := (if_neg ho').trans ((if_neg (by rw [hlen]; exact hm)).trans (if_pos (by rw [hlen]; exact hf)))
        have e2 : s.apE (fl f m) = 5 := (if_neg ho').trans ((if_neg (by rw [hlen]; exact hm)).trans (if_pos (by rw [hlen]; exact hf)))
        rw [e1, e2]
        refine Calls.mono (append_full1 hp g.d z1 z2 (by omega) hf) ?_
        rintro e w2 ⟨rfl, hB⟩
        exact ⟨rfl, h.grown hB, Kp.of hB⟩
      · have e0 : apx s (fl f m) = apw s.D (3 + tks s.K + tks s.W) f m (tk m) := by
          unfold apx
          rw [hlen]
          exact (apw_congr (fl_get rfl).2 _ _ _).symm
        have e1 : s.ap (fl f m) = ⟨(apx s (fl f m)).1, s.K, apW (apx s (fl f m)).2 s.W (fl f m), cmO (apx s (fl f m)).2⟩ := (if_neg ho').trans ((if_neg (by rw [hlen]; exact hm)).trans (if_neg (by rw [hlen]; exact hf)))
        have e2 : s.apE (fl f m) = (apx s (fl f m)).2 := (if_neg ho').trans ((if_neg (by rw [hlen]; exact hm)).trans (if_neg (by rw [hlen]; exact hf)))
        have hok := (SM.ap_ok g.m (fl f m)).1
        rw [e1, e2]
        rw [e1] at hok
        rw [e0] at hok ⊢
        refine Calls.mono (append_n hp g.d g.xy g.yl g.bl z5 hb hz (by omega) (by omega)) ?_
        rintro e w2 ⟨rfl, vw', cw', h1, h2, h3, h4⟩
        have hO : ∀ k, Xt (X3 b lb mb) t vw k = true → O k = true := fun k hk => by
          rcases Xt_inv hk with e | e
          · exact g.ok k (Xt_u e)
          · exact g.ow k e
        refine ⟨rfl, ⟨bs, vk, vw', ck, cw', h1, h2, hok, g.xy, fun k hk => Nat.lt_of_lt_of_le (g.yl k hk) h3.size, Nat.le_trans g.bl h3.size, fun k hk => grow_of.2 (Or.inl (g.ok k hk)), fun k hk => ?_, fun k hk => ?_⟩, h3.mono hO⟩
        · rcases h4 with e | ⟨g2, e, hle⟩
          · exact grow_of.2 (Or.inl (g.ow k (e.symm.trans hk)))
          · rw [e] at hk
            cases hk
            exact grow_of.2 (Or.inr ⟨hle, (h2.s.o.lt _ e).2⟩)
        · rcases grow_of.1 hk with e | e
          · exact Nat.lt_of_lt_of_le (g.ol k e) h3.size
          · exact e.2
theorem co_pw (h : PW w b lb mb t O Y s) : Calls Try.prog 17 #[pp t] w (ApW w b lb mb t O Y s.co s.coE) := by
  have hh := h
  obtain ⟨bs, vk, vw, ck, cw, g⟩ := hh
  have hp := g.p
  cases ho : s.o with
  | true =>
    have e1 : s.co = s := if_pos ho
    have e2 : s.coE = 6 := if_pos ho
    rw [e1, e2]
    rw [ho] at hp
    refine Calls.mono (commit_over1 hp) ?_
    rintro e w2 ⟨rfl, rfl⟩
    exact ⟨rfl, h.grown (Below.refl _ _), Kp.refl _ _⟩
  | false =>
    have ho' : ¬ (s.o = true) := by rw [ho]; decide
    rw [ho] at hp
    by_cases hw : s.W = []
    · have e1 : s.co = s := (if_neg ho').trans (if_pos hw)
      have e2 : s.coE = 0 := (if_neg ho').trans (if_pos hw)
      rw [e1, e2]
      rw [hw] at hp
      refine Calls.mono (commit_none1 hp) ?_
      rintro e w2 ⟨rfl, rfl⟩
      exact ⟨rfl, h.grown (Below.refl _ _), Kp.refl _ _⟩
    · have e1 : s.co = ⟨(cm s.D (s.K ++ s.W)).1, cmK (cm s.D (s.K ++ s.W)).2 s.K s.W, cmW (cm s.D (s.K ++ s.W)).2 s.W, cmO (cm s.D (s.K ++ s.W)).2⟩ := (if_neg ho').trans (if_neg hw)
      have e2 : s.coE = (cm s.D (s.K ++ s.W)).2 := (if_neg ho').trans (if_neg hw)
      have hok := SM.co_ok g.m
      rw [e1, e2]
      rw [e1] at hok
      have hst : s.D.dn = true ∨ (s.D.dn = false ∧ stl s.D (3 + tks s.K) s.W) := by
        cases hd : s.D.dn with
        | true => exact Or.inl rfl
        | false => exact Or.inr ⟨rfl, g.m.s ho hd⟩
      refine Calls.mono (commit_n hp g.d g.xy g.yl g.bl hw g.m.w g.m.n hst) ?_
      rintro e w2 ⟨rfl, vk', vw', ck', cw', h1, h2, h3, h4, h5⟩
      refine ⟨rfl, ⟨bs, vk', vw', ck', cw', h1, h2, hok, g.xy, fun k hk => Nat.lt_of_lt_of_le (g.yl k hk) h3.size, Nat.le_trans g.bl h3.size, fun k hk => ?_, fun k hk => ?_, fun k hk => ?_⟩, h3.mono g.ok⟩
      · rcases Xt_inv hk with e | e
        · exact grow_of.2 (Or.inl (g.ok k (Xt_u e)))
        · rcases h4 with e3 | ⟨g2, e3, hle⟩
          · exact grow_of.2 (Or.inl (g.ok k (Xt_own (e3.symm.trans e))))
          · rw [e3] at e
            cases e
            exact grow_of.2 (Or.inr ⟨hle, (h2.k.o.lt _ e3).2⟩)
      · rcases h5 with e | e
        · exact grow_of.2 (Or.inl (g.ow k (e.symm.trans hk)))
        · rw [e] at hk; cases hk
      · rcases grow_of.1 hk with e | e
        · exact Nat.lt_of_lt_of_le (g.ol k e) h3.size
        · exact e.2
end
theorem lays_200 {C : Nat → List Nat} : ∀ {l : List (List Nat)} {p : Nat}, lays C p l → ∀ x ∈ l, x.length ≤ 200
  | [], _, _, x, hx => by simp at hx
  | b :: r, p, h, x, hx => by
    rcases List.mem_cons.1 hx with e | e
    · rw [e]; exact h.1.m
    · exact lays_200 h.2 x e
/-- What Open answers. -/
def OpW (w : World) (b lb mb : Nat) (Y : Nat → Bool) (D : DM) (e : Ending) (w' : World) : Prop := ∃ W, Dsk W b lb mb (D.mendD 0) ∧ Kp (X3 b lb mb) w W ∧ Below W.heap.size W w' ∧ ((D.opE = 0 ∧ ∃ t, e = .returned (.tuple #[pp t, .int .i64 0]) ∧ PW w' b lb mb t (grow (X3 b lb mb) w w') Y ⟨D.mendD 0, D.opL, [], false⟩ ∧ W.heap.size ≤ t) ∨ (D.opE ≠ 0 ∧ e = .returned (.tuple #[.pointer none, .int .i64 D.opE])))
theorem open_pw {w : World} {b lb mb : Nat} {D : DM} {Y : Nat → Bool} (h : Dsk w b lb mb D) (hxy : ∀ g, X3 b lb mb g = true → Y g = true) (hyl : ∀ g, Y g = true → g < w.heap.size) : Calls Try.prog 12 #[pp b] w (OpW w b lb mb Y D) := by
  refine Calls.mono (open_n h) ?_
  rintro e w' ⟨W, h1, h2, h3, h4⟩
  refine ⟨W, h1, h2, h3, h4.imp ?_ id⟩
  rintro ⟨g1, t, vk, ck, rfl, g2, g3, g4⟩
  have hn : (D.mendD 0).n = D.n := by
    have he : D.mendE 0 = 0 := by
      unfold DM.opE at g1
      split at g1
      · assumption
      · rename_i hne; exact absurd g1 hne
    exact (mend_ok (a := 0) he).2.2.2.1
  have hl : ∀ l ∈ D.opL, l.length ≤ 200 := lays_200 g3
  have hsz : ∀ k, X3 b lb mb k = true → k < w.heap.size := fun k hk => by
    rcases X3_of.1 hk with rfl | rfl | rfl
    · exact h.bl
    · exact h.ll
    · exact h.mp.lt
  refine ⟨g1, t, rfl, ⟨W.heap.size, vk, .slice none 0 0, ck, [], h1.keep h3, g2.st (fun g hg => Nat.lt_of_lt_of_le (hyl g hg) h2.size), ⟨by show 3 + tks D.opL + 0 ≤ (D.mendD 0).n; rw [hn]; omega, hl, fun l hl => by simp at hl, fun _ _ => trivial⟩, hxy, fun k hk => Nat.lt_of_lt_of_le (hyl k hk) (Nat.le_trans h2.size h3.size), h3.size, fun k hk => ?_, fun k hk => (by cases hk), fun k hk => ?_⟩, g2.tg⟩
  · rcases Xt_inv hk with e | e
    · rcases Xu_inv e with e | e
      · exact grow_of.2 (Or.inl e)
      · subst e
        exact grow_of.2 (Or.inr ⟨Nat.le_trans h2.size g2.tg, g2.tl⟩)
    · exact grow_of.2 (Or.inr ⟨Nat.le_trans h2.size (g2.s.o.lt k e).1, (g2.s.o.lt k e).2⟩)
  · rcases grow_of.1 hk with e | e
    · exact Nat.lt_of_lt_of_le (hsz k e) (Nat.le_trans h2.size h3.size)
    · exact e.2
end Go.Proofs.Ytjgpopjpmfkfmaa
