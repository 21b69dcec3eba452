/- Layer 15: the document's Commit. -/
import Derived.Test.YtjgpopjpmfkfmaaR15C
namespace Go.Proofs.Ytjgpopjpmfkfmaa
set_option maxRecDepth 100000
open Go.RowKit Go.Maps
attribute [local go_sem ↓] Go.wp_at_zero Go.wp_at_succ

theorem Kp.mono {X Y : Nat → Bool} {w w' : World} (h : Kp X w w') (hY : ∀ g, X g = true → Y g = true) : Kp Y w w' := ⟨h.os, h.tape, h.output, h.size, fun k hk hx => h.block k hk (by
  cases hy : X k with
  | false => rfl
  | true => rw [hY k hy] at hx; cases hx)⟩
theorem Xu_of {Y : Nat → Bool} {t g : Nat} (h : Y g = true ∨ g = t) : Xu Y t g = true := by
  unfold Xu
  rcases h with h | h
  · rw [h, Bool.true_or]
  · rw [h, show Nat.beq t t = true from Nat.beq_refl t, Bool.or_true]
theorem Xu_inv {Y : Nat → Bool} {t g : Nat} (h : Xu Y t g = true) : Y g = true ∨ g = t := by
  unfold Xu at h
  rcases Bool.or_eq_true _ _ |>.mp h with h1 | h1
  · exact Or.inl h1
  · exact Or.inr (Nat.eq_of_beq_eq_true h1)
/-- A list is appended to a list of one's own. -/
theorem run_appL {w : World} {base : Nat} {v : Value} {n : Nat} {xs : List Value} (hown : w.ownsRow base 38 1 v n xs) {b2 m : Nat} {v2 : Value} {ys : List Value} (h2 : w.ownsRow b2 38 1 v2 m ys) (h1 : ∀ u ∈ ys, u.oneCell' = true) (hb : n + m ≤ 1000000) (hbase : base ≤ w.heap.size) (ty : TypeId) :
    ∃ v' w', (Builtin.append_ #[47, 47] ty #[v, v2]).run Try.prog w = .ok v' w' ∧ w'.ownsRow base 38 1 v' (n + m) (xs ++ ys) ∧ w.grownBy w' v.ownBlock ∧ (v'.ownBlock = v.ownBlock ∨ v'.ownBlock = some w.heap.size) := by
  obtain ⟨i0, hi, hz0, hz1, hz2⟩ := info_parts infoBy
  rcases Nat.eq_zero_or_pos m with h0 | h0
  · subst h0
    have hy : ys = [] := List.eq_nil_of_length_eq_zero (by have := h2.1; omega)
    obtain ⟨z, c, e⟩ : ∃ z c, v2 = .slice z 0 c := by
      rcases h2.2 with ⟨e, _⟩ | ⟨g, cap, cur, e, _⟩
      · exact ⟨_, _, e⟩
      · exact ⟨_, _, e⟩
    subst e
    refine ⟨v, w, run_append_zero w base _ _ 38 i0 1 Try.underlying47 hi v n _ hown z c, ?_, World.grownBy.refl _ _, Or.inl rfl⟩
    rw [hy, List.append_nil]
    exact hown
  · obtain ⟨q, cap, rfl, hc⟩ := own_form h2 h0
    have hl : ys.length = m := by have := h2.1; omega
    obtain ⟨v', w', k1, k2, k3, _, k5⟩ := run_append_own_at (P := Try.prog) w base 47 ty 38 i0 (.slice none 0 0) 1 24 Try.underlying47 hi hz0 hz1 hz2 rfl (by decide) v n _ hown ⟨q, 0, none⟩ m cap ys (by omega) (fun j u hu => by
      have hj : j < m := by rw [← hl]; exact (List.getElem?_eq_some_iff.1 hu).1
      rw [Addr.add_mid, Nat.zero_add, hc j hj]
      exact hu) h1 (by unfold maxLen; omega) (by omega) hbase
    exact ⟨v', w', k1, k2, k3, k5⟩
theorem wpList_appL {w : World} {ops : Array Oper} {rest : List Oper} {o : Oper} {a : Act} {Q : Exit → Act → World → Prop} (hgd : o.guard = none) (s x : Operand) (hop : o.op = .call { callee := .builtin .append, args := #[s, x], argTypes := #[47, 47] })
    {base : Nat} {v : Value} {n : Nat} {xs : List Value} (hs : a.eval s = v) (hown : w.ownsRow base 38 1 v n xs) {b2 m : Nat} {v2 : Value} {ys : List Value} (hx : a.eval x = v2) (h2 : w.ownsRow b2 38 1 v2 m ys) (h1 : ∀ u ∈ ys, u.oneCell' = true) (hb : n + m ≤ 1000000) (hbase : base ≤ w.heap.size)
    (hK : ∀ v' w', w'.ownsRow base 38 1 v' (n + m) (xs ++ ys) → w.grownBy w' v.ownBlock → (v'.ownBlock = v.ownBlock ∨ v'.ownBlock = some w.heap.size) → wpList Try.prog ops Q rest (a.put o.dst v') w') : wpList Try.prog ops Q (o :: rest) a w := by
  refine wpList_plain hgd fun K' hK' => ?_
  obtain ⟨v', w', hr, k2, k3, k4⟩ := run_appL hown h2 h1 hb hbase o.type
  unfold Oper.wp execOp
  simp only [hop, resolve, invoke, builtin, Sem.run_bind, Sem.run_pure, Result.andThen_ok, List.map_toArray, List.map_cons, List.map_nil, hs, hx, hr]
  exact hK' _ _ (hK v' w' k2 k3 k4)
theorem Lst.one {w : World} {base : Nat} {X : Nat → Bool} {v : Value} {L : List (List Nat)} {cs : List Value} (h : Lst w base X v L cs) : ∀ u ∈ cs, u.oneCell' = true := fun u hu => by
  obtain ⟨i, hi⟩ := List.mem_iff_getElem?.1 hu
  have hl : cs.length = L.length := by have := h.o.1; omega
  have : i < L.length := by rw [← hl]; exact (List.getElem?_eq_some_iff.1 hi).1
  obtain ⟨x, m, c, f, h1, _⟩ := h.e i _ (List.getElem?_eq_getElem this)
  rw [hi] at h1
  cases h1
  rfl
/-- Two lists one behind the other. -/
theorem Lst.cat {w w' : World} {base b2 : Nat} {X X2 : Nat → Bool} {v v2 v' : Value} {A B : List (List Nat)} {ca cb : List Value} (h : Lst w base X v A ca) (h2 : Lst w b2 X2 v2 B cb) (hX : ∀ k, X k = true → k < w.heap.size) (hsub : ∀ g, X g = true ∨ v.ownBlock = some g → X2 g = true)
    (ho : w'.ownsRow base 38 1 v' (A.length + B.length) (ca ++ cb)) (hG : w.grownBy w' v.ownBlock) (hat : v'.ownBlock = v.ownBlock ∨ v'.ownBlock = some w.heap.size) : Lst w' base X v' (A ++ B) (ca ++ cb) := by
  have hla : ca.length = A.length := by have := h.o.1; omega
  have old : ∀ q, q < w.heap.size → v.ownBlock ≠ some q → v'.ownBlock ≠ some q := fun q hq hne e => by
    rcases hat with e2 | e2
    · exact hne (e2.symm.trans e)
    · rw [e2] at e
      have := Option.some.inj e
      omega
  have hk : ∀ {x : Option Addr} {m : Nat} {f : Nat → Nat}, BA w x m f → (0 < m → ∀ p, x = some p → X p.block = false ∧ v.ownBlock ≠ some p.block) → BA w' x m f ∧ (0 < m → ∀ p, x = some p → X p.block = false ∧ v'.ownBlock ≠ some p.block) := fun hb hx =>
    ⟨ba_same hb (fun hm p hp hlt => hG.block _ hlt (fun e => (hx hm p hp).2 e.symm)), fun hm p hp => ⟨(hx hm p hp).1, by
      obtain ⟨b, o, e, hlt⟩ := ba_lt hb hm
      rw [hp] at e
      obtain rfl := Option.some.inj e
      exact old b hlt (hx hm _ hp).2⟩⟩
  refine ⟨by rw [List.length_append]; exact ho, fun g hg => ?_, fun j l hl => ?_⟩
  · rcases hat with e | e
    · exact h.x g (e.symm.trans hg)
    · rw [e] at hg
      cases hg
      cases hq : X w.heap.size with
      | false => rfl
      | true => have := hX _ hq; omega
  · by_cases hj : j < A.length
    · rw [List.getElem?_append_left hj] at hl
      obtain ⟨x1, m1, c1, f1, h1, h2', h3, h4⟩ := h.e j l hl
      obtain ⟨k1, k2⟩ := hk h2' h4
      exact ⟨x1, m1, c1, f1, by rw [List.getElem?_append_left (by omega)]; exact h1, k1, h3, k2⟩
    · rw [List.getElem?_append_right (by omega)] at hl
      obtain ⟨x1, m1, c1, f1, h1, h2', h3, h4⟩ := h2.e _ l hl
      obtain ⟨k1, k2⟩ := hk h2' (fun hm p hp => by
        have h5 := (h4 hm p hp).1
        refine ⟨?_, fun e => ?_⟩
        · cases hq : X p.block with
          | false => rfl
          | true => rw [hsub _ (Or.inl hq)] at h5; cases h5
        · rw [hsub _ (Or.inr e)] at h5; cases h5)
      exact ⟨x1, m1, c1, f1, by rw [List.getElem?_append_right (by omega), hla]; exact h1, k1, h3, k2⟩
theorem RSt.set {w : World} {bs t o : Nat} {v : Value} {L : List (List Nat)} {cs : List Value} {X : Nat → Bool} {u : Value} (h : Lst w bs X v L cs) (hX : X t = true) : Lst (w.setCell ⟨t, o, none⟩ u) bs X v L cs := h.kp ((Kp.refl _ w).setCell (p := ⟨t, o, none⟩) (Or.inr hX) u)
theorem cell_oth {w : World} {t o o' : Nat} {u : Value} (h : o' ≠ o) : (w.setCell ⟨t, o, none⟩ u).cell? ⟨t, o', none⟩ = w.cell? ⟨t, o', none⟩ := by
  rw [World.cell?_setCell_other]
  exact fun e => h (by cases e; rfl)
theorem cell_at {w : World} {t o : Nat} {u v : Value} (h : w.cell? ⟨t, o, none⟩ = some v) : (w.setCell ⟨t, o, none⟩ u).cell? ⟨t, o, none⟩ = some u := World.cell?_setCell_same' _ _ _ (by rw [h]; rfl)
section
variable {w : World} {bs t r : Nat} {Y : Nat → Bool} {vk vw : Value} {ck cw : List Value} {K Wt : List (List Nat)} {ov : Bool}
theorem RSt.xk (_ : RSt w bs t r Y vk vw ck cw K Wt ov) : Xt Y t vw t = true := by unfold Xt; rw [Xu_of (Or.inr rfl), Bool.true_or]
theorem RSt.over (h : RSt w bs t r Y vk vw ck cw K Wt ov) (b : Bool) : RSt (w.setCell ⟨t, 3, none⟩ (.bool b)) bs t r Y vk vw ck cw K Wt b :=
  ⟨(cell_oth (by decide)).trans h.c0, (cell_oth (by decide)).trans h.c1, (cell_oth (by decide)).trans h.c2, cell_at h.c3, fun i hi => by rw [World.frozen?_setCell]; exact h.z i hi, by simp; exact h.tl, h.ty, RSt.set h.k h.xk, RSt.set h.s (Xu_of (Or.inr rfl))⟩
theorem RSt.done (h : RSt w bs t r Y vk vw ck cw K Wt ov) {va : Value} {M : List (List Nat)} {ca : List Value} (hL : Lst w bs (Xu Y t) va M ca) : RSt ((w.setCell ⟨t, 1, none⟩ va).setCell ⟨t, 2, none⟩ (.slice none 0 0)) bs t r Y va (.slice none 0 0) ca [] M [] ov := by
  refine ⟨(cell_oth (by decide)).trans ((cell_oth (by decide)).trans h.c0), (cell_oth (by decide)).trans (cell_at h.c1), cell_at ((cell_oth (by decide)).trans h.c2), (cell_oth (by decide)).trans ((cell_oth (by decide)).trans h.c3), fun i hi => by rw [World.frozen?_setCell, World.frozen?_setCell]; exact h.z i hi, by simp; exact h.tl, h.ty, ?_, Lst.nil _ _ _⟩
  have hX : Xu Y t t = true := Xu_of (Or.inr rfl)
  refine (RSt.set (RSt.set hL hX) hX).sub (fun k hk => ?_)
  unfold Xt at hk
  rcases Bool.or_eq_true _ _ |>.mp hk with h1 | h1
  · exact h1
  · have := of_decide_eq_true h1; cases this
end
/-- What Commit does to the disk, and answers. -/
def cm (D : DM) (M : List (List Nat)) : DM × Int := if D.syE = 0 then sv D.sy 0 (mkv M) 3 else (D.sy, D.syE)
def cmK (e : Int) (K Wt : List (List Nat)) : List (List Nat) := if e = 0 then K ++ Wt else K
def cmW (e : Int) (Wt : List (List Nat)) : List (List Nat) := if e = 0 then [] else Wt
def cmO (e : Int) : Bool := decide (e = 6)
def RcP (w : World) (bs t r la na cl cn : Nat) (zl zn : Option Addr) (Y G : Nat → Bool) (D : DM) (er : Int) (K Wt : List (List Nat)) (ov : Bool) (e : Ending) (w' : World) : Prop := e = .returned (.int .i64 er) ∧ ∃ G' vk vw ck cw, RDk w' r la na cl cn zl zn D G' ∧ (∀ k, G' k = true → G k = true ∨ w.heap.size ≤ k) ∧ RSt w' bs t r Y vk vw ck cw K Wt ov ∧ Kp (Xu (X3 r la na) t) w w'
theorem commit_over {w : World} {bs t r la na cl cn : Nat} {zl zn : Option Addr} {Y G : Nat → Bool} {vk vw : Value} {ck cw : List Value} {K Wt : List (List Nat)} {D : DM} (h : RSt w bs t r Y vk vw ck cw K Wt true) (hd : RDk w r la na cl cn zl zn D G) : Calls Try.prog 18 #[pp t] w (RcP w bs t r la na cl cn zl zn Y G D 6 K Wt true) := by
  have h3 := h.c3
  have HS := hide h
  have HD := hide hd
  clear h hd
  go_enter Try.func18, Try.ntmps18
  go_wp2_with fail
  go_ret
  exact ⟨rfl, G, vk, vw, ck, cw, HD.out, fun k hk => Or.inl hk, HS.out, Kp.refl _ _⟩
theorem commit_none {w : World} {bs t r la na cl cn : Nat} {zl zn : Option Addr} {Y G : Nat → Bool} {vk vw : Value} {ck cw : List Value} {K : List (List Nat)} {D : DM} (h : RSt w bs t r Y vk vw ck cw K [] false) (hd : RDk w r la na cl cn zl zn D G) : Calls Try.prog 18 #[pp t] w (RcP w bs t r la na cl cn zl zn Y G D 0 K [] false) := by
  obtain ⟨zw, wc, ew, _⟩ := h.s.shape
  have h3 := h.c3
  have h2 := h.c2
  rw [ew] at h2
  have HS := hide h
  have HD := hide hd
  clear h hd ew
  go_enter Try.func18, Try.ntmps18
  go_wp2_with fail
  go_ret
  exact ⟨rfl, G, vk, vw, ck, cw, HD.out, fun k hk => Or.inl hk, HS.out, Kp.refl _ _⟩
theorem RDk.set {w : World} {r la na cl cn t o : Nat} {zl zn : Option Addr} {D : DM} {G : Nat → Bool} (h : RDk w r la na cl cn zl zn D G) (hg : ∀ k, G k = true → k ≠ t) (v : Value) : RDk (w.setCell ⟨t, o, none⟩ v) r la na cl cn zl zn D G := h.same (by simp) (fun k hk => Below.heap_setCell _ _ _ _ (hg k hk))
theorem kp_t {X : Nat → Bool} {w : World} {t o : Nat} (v : Value) : Kp (Xu X t) w (w.setCell ⟨t, o, none⟩ v) := (Kp.refl _ w).setCell (p := ⟨t, o, none⟩) (Or.inr (Xu_of (Or.inr rfl))) v
set_option maxRecDepth 100000 in
set_option maxHeartbeats 4000000 in
theorem commit_any {w : World} {bs t r la na cl cn : Nat} {zl zn : Option Addr} {Y G : Nat → Bool} {vk vw : Value} {ck cw : List Value} {K Wt : List (List Nat)} {D : DM} (h : RSt w bs t r Y vk vw ck cw K Wt false) (hd : RDk w r la na cl cn zl zn D G) (hXY : ∀ g, X3 r la na g = true → Y g = true) (hY : ∀ g, Y g = true → g < w.heap.size) (hbs : bs ≤ w.heap.size) (hs : short (K ++ Wt)) (hn : (K ++ Wt).length ≤ 1000000) (hw : Wt ≠ []) (hGt : G t = false) :
    Calls Try.prog 18 #[pp t] w (RcP w bs t r la na cl cn zl zn Y G (cm D (K ++ Wt)).1 (cm D (K ++ Wt)).2 (cmK (cm D (K ++ Wt)).2 K Wt) (cmW (cm D (K ++ Wt)).2 Wt) (cmO (cm D (K ++ Wt)).2)) := by
  obtain ⟨zw, wc, ew, _⟩ := h.s.shape
  obtain ⟨zk, kc, ek, _⟩ := h.k.shape
  have h3 := h.c3
  have h2 := h.c2
  have h1 := h.c1
  rw [ew] at h2
  rw [ek] at h1
  have hlw : ((Wt.length : Int) == 0) = false := by
    cases Wt with
    | nil => exact absurd rfl hw
    | cons a b => simp; omega
  have HS := hide h
  have HD := hide hd
  have HXY := hide hXY
  have HYt : Hid (∀ g, Xu Y t g = true → g < w.heap.size) := fun g hg => by
    rcases Xu_inv hg with e | e
    · exact hY g e
    · rw [e]; exact h.tl
  have HBs := hide hbs
  have HGt : Hid (∀ G' : Nat → Bool, (∀ k, G' k = true → G k = true ∨ w.heap.size ≤ k) → ∀ k, G' k = true → k ≠ t) := fun G' hg k hk e => by
    subst e
    rcases hg _ hk with e1 | e1
    · rw [hGt] at e1; cases e1
    · have := h.tl; omega
  have HSh := hide (And.intro hs hn)
  have HLn : Hid (0 + K.length ≤ 1000000 ∧ K.length + Wt.length ≤ 1000000) := by rw [List.length_append] at hn; exact ⟨by omega, hn⟩
  have HE := hide (And.intro ek ew)
  clear h hd hXY hY hbs hs hn hw ek ew hGt
  go_enter Try.func18, Try.ntmps18
  have HK1 : Hid (w.ownsRow bs 38 1 (.slice zk K.length kc) K.length ck) := by have := HS.out.k.o; rw [HE.out.1] at this; exact this
  have HN1 : Hid (w.ownsRow bs 38 1 (.slice none 0 0) 0 []) := World.ownsRow_nil w bs _ _
  have HC1 : Hid (∀ v1 W1, W1.ownsRow bs 38 1 v1 (0 + K.length) ([] ++ ck) → w.grownBy W1 (Value.slice none 0 0).ownBlock → (v1.ownBlock = (Value.slice none 0 0).ownBlock ∨ v1.ownBlock = some w.heap.size) → Lst W1 bs (Xu Y t) v1 K ck) := fun v1 W1 ho hg hat =>
    (Lst.nil w bs (Xu Y t)).cat HS.out.k HYt.out (fun g hg => by
      rcases hg with e | e
      · unfold Xt; rw [e, Bool.true_or]
      · cases e) ho hg hat
  go_upto_region 7 with (refine wpList_appL rfl _ _ rfl rfl HN1.out rfl HK1.out HS.out.k.one HLn.out.1 HBs.out ?_; intro v1 W1 ho1 hg1 hat1; have HL1 := hide (HC1.out v1 W1 ho1 hg1 hat1); have HB1 : Hid (Below w.heap.size w W1) := (Below.refl _ w).grown hg1 (Nat.le_refl _) (fun k hk => by cases hk); have HAt := hide hat1; clear ho1 hg1 hat1)
  have HS1 := hide (HS.out.keep HB1.out)
  have h2' : W1.cell? ⟨t, 2, none⟩ = some (.slice zw Wt.length wc) := by have := HS1.out.c2; rw [HE.out.2] at this; exact this
  have HW1 : Hid (W1.ownsRow bs 38 1 (.slice zw Wt.length wc) Wt.length cw) := by have := HS1.out.s.o; rw [HE.out.2] at this; exact this
  have HX1 : Hid (∀ k, v1.ownBlock = some k → w.heap.size ≤ k) := fun k hk => by
    rcases HAt.out with e | e
    · rw [e] at hk; cases hk
    · rw [e] at hk; cases hk; exact Nat.le_refl _
  have HM1 : Hid (Lst W1 bs (fun g => Xu Y t g || decide (v1.ownBlock = some g)) vw Wt cw) := (HS.out.s.more (fun k hk => by
    rcases Bool.or_eq_true _ _ |>.mp hk with e | e
    · exact Or.inl e
    · exact Or.inr (HX1.out k (of_decide_eq_true e)))).keep HB1.out
  have HYt1 : Hid (∀ g, Xu Y t g = true → g < W1.heap.size) := fun g hg => Nat.lt_of_lt_of_le (HYt.out g hg) HB1.out.size
  obtain ⟨z1, c1, e1, _⟩ := HL1.out.shape
  subst e1
  clear h1 h2 h3 hlw HK1 HN1 HC1
  have HC2 : Hid (∀ v2 W2, W2.ownsRow bs 38 1 v2 (K.length + Wt.length) (ck ++ cw) → W1.grownBy W2 (Value.slice z1 K.length c1).ownBlock → (v2.ownBlock = (Value.slice z1 K.length c1).ownBlock ∨ v2.ownBlock = some W1.heap.size) → Lst W2 bs (Xu Y t) v2 (K ++ Wt) (ck ++ cw) ∧ Below w.heap.size w W2) := fun v2 W2 ho hg hat =>
    ⟨HL1.out.cat HM1.out HYt1.out (fun g hg => by
      rcases hg with e | e
      · show (Xu Y t g || _) = true; rw [e, Bool.true_or]
      · show (_ || decide _) = true; rw [decide_eq_true e, Bool.or_true]) ho hg hat, HB1.out.grown hg HB1.out.size HX1.out⟩
  go_upto_region 8 with (refine wpList_appL rfl _ _ rfl rfl HL1.out.o rfl HW1.out HS.out.s.one HLn.out.2 (Nat.le_trans HBs.out HB1.out.size) ?_; intro v2 W2 ho2 hg2 hat2; have HL2 := hide (HC2.out v2 W2 ho2 hg2 hat2); clear ho2 hg2 hat2)
  obtain ⟨za, ac, e2, _⟩ := HL2.out.1.shape
  subst e2
  have HS2 := hide (HS.out.keep HL2.out.2)
  have HR2 : Hid (RsR w W2 r la na cl cn zl zn D G G) := ⟨HD.out.keep HL2.out.2, Kp.of HL2.out.2, fun k hk => Or.inl hk⟩
  have hc0 := HS2.out.c0
  have HCS := hide (ref_sync HR2.out.d)
  clear h2' HS1 HW1 HX1 HM1 HYt1 HC2 HL1 HAt
  by_cases hsy : D.syE = 0
  · have HCm : Hid (cm D (K ++ Wt) = sv D.sy 0 (mkv (K ++ Wt)) 3) := if_pos hsy
    rw [hsy] at HCS
    clear hsy
    go_upto_region 10 with (go_at_call 52; refine Calls.mono HCS.out ?_; rintro e W5 ⟨rfl, G5, hd5, hK5, hg5⟩; have HR5 := hide (HR2.out.next hd5 hK5 hg5); have HS5 := hide (HS2.out.kp (hK5.mono HXY.out)); have HLa := hide (HL2.out.1.kp (hK5.mono (fun g hg => Xu_of (Or.inl (HXY.out g hg))))); clear hd5 hK5 hg5)
    have HMk : Hid (Calls Try.prog 43 #[.slice za (K ++ Wt).length ac] W5.drew (OwP W5.drew (mkf (K ++ Wt).length (tks (K ++ Wt))) 16)) := by
      obtain ⟨z', c', e', hv⟩ := HLa.out.shape
      cases e'
      exact mark_any (hv.keep (Go.Proofs.Ytjgpopjpmfkfmaa.K.drew (Below.refl _ _))) HSh.out.1 HSh.out.2
    clear hc0
    refine wp_region_noPanic ?_
    refine wp_region_held_drew (S := fun w' => w'.cell? ⟨t, 0, none⟩ = some (pp r)) (by kernel_rfl) HS5.out.c0 (fun hS0 => ?_)
    refine wpAnyH_take (i := 0) (v := pp t) rfl (by kernel_rfl) (by kernel_rfl) (by kernel_rfl) (fun _ _ _ h => h) (Or.inl ⟨by rfl, fun w' _ => by go_simp⟩) hS0 ?_
    simp only [Act.put, List.getElem_toArray, List.getElem_cons_zero, List.setIfInBounds_toArray, List.set_cons_zero, List.set_cons_succ]
    refine wpAnyH_take (i := 1) (v := pp t) rfl (by kernel_rfl) (by kernel_rfl) (by kernel_rfl) (fun _ _ _ h => h) (Or.inl ⟨by rfl, fun w' _ => by go_simp⟩) hS0 ?_
    simp only [Act.put, List.getElem_toArray, List.getElem_cons_zero, List.getElem_cons_succ, List.setIfInBounds_toArray, List.set_cons_zero, List.set_cons_succ]
    refine wpAnyH_take (i := 2) (v := .pointer (some ⟨t, 0, none⟩)) rfl (by kernel_rfl) (by kernel_rfl) (by kernel_rfl) (fun _ _ _ h => h) (Or.inl ⟨by rfl, fun w' _ => by go_simp⟩) hS0 ?_
    simp only [Act.put, List.getElem_toArray, List.getElem_cons_zero, List.getElem_cons_succ, List.setIfInBounds_toArray, List.set_cons_zero, List.set_cons_succ]
    refine wpAnyH_take (i := 3) (v := pp r) rfl (by kernel_rfl) (by kernel_rfl) (by kernel_rfl) (fun _ _ _ h => h) (Or.inl ⟨by rfl, fun w' hS => by have hc := hS; go_simp⟩) hS0 ?_
    simp only [Act.put, List.getElem_toArray, List.getElem_cons_zero, List.getElem_cons_succ, List.setIfInBounds_toArray, List.set_cons_zero, List.set_cons_succ]
    refine wpAnyH_take (i := 4) (v := .slice za (K ++ Wt).length ac) rfl (by kernel_rfl) (by kernel_rfl) (by kernel_rfl) (fun _ _ _ h => h) (Or.inl ⟨by rfl, fun w' _ => by go_simp⟩) hS0 ?_
    simp only [Act.put, List.getElem_toArray, List.getElem_cons_zero, List.getElem_cons_succ, List.setIfInBounds_toArray, List.set_cons_zero, List.set_cons_succ]
    refine wpAnyH_ready (rs := [5]) (by kernel_rfl) (by simp) (AllReadyH.cons rfl (fun Kt hK => ?_) AllReadyH.nil)
    refine wanted_pos rfl ?_
    refine wp_call (R := fun x w' => OwP W5.drew (mkf (K ++ Wt).length (tks (K ++ Wt))) 16 (.returned x) w') (vs := #[.slice za (K ++ Wt).length ac]) rfl (by simp only [List.map_toArray, List.map_cons, List.map_nil]; rfl) (by go_simp) (Calls.mono HMk.out (fun e w' he => by obtain ⟨z, c, rfl, hh⟩ := he; exact ⟨_, rfl, z, c, rfl, hh⟩)) (fun x W6 hr => ?_)
    obtain ⟨z6, c6, hx, ho6, hB6⟩ := hr
    cases hx
    have HS6 := hide (HS5.out.keep (Go.Proofs.Ytjgpopjpmfkfmaa.K.call (Go.Proofs.Ytjgpopjpmfkfmaa.K.drew (Below.refl _ _)) hB6))
    have HL6 := hide (HLa.out.keep (Go.Proofs.Ytjgpopjpmfkfmaa.K.call (Go.Proofs.Ytjgpopjpmfkfmaa.K.drew (Below.refl _ _)) hB6))
    have HR6 := hide (HR5.out.grow (Go.Proofs.Ytjgpopjpmfkfmaa.K.call (Go.Proofs.Ytjgpopjpmfkfmaa.K.drew (Below.refl _ _)) hB6))
    have HSv := hide (ref_save (c := c6) HR6.out.d (a := 0) ⟨by decide, by decide⟩ (own_ba ho6 (mkf_lt _ _)) (by decide) (fun _ p hp => HR5.out.d.out (by subst hp; exact (ho6.lt p.block rfl).1)))
    clear ho6 hB6
    refine hK.out _ _ HS6.out.c0 (fun _ => ?_)
    clear hK Kt
    simp only [Act.put, List.getElem_toArray, List.getElem_cons_zero, List.getElem_cons_succ, List.setIfInBounds_toArray, List.set_cons_zero, List.set_cons_succ]
    refine wpAnyH_ready (rs := [6]) (by kernel_rfl) (by simp) (AllReadyH.cons rfl (fun Kt hK => ?_) AllReadyH.nil)
    refine wanted_pos rfl ?_
    refine wp_call (R := fun x w' => RwP W6 r la na cl cn zl zn (sv D.sy 0 (mkv (K ++ Wt)) 3).1 G5 (sv D.sy 0 (mkv (K ++ Wt)) 3).2 (.returned x) w') (vs := #[pp r, .int .i64 0, .slice z6 16 c6]) rfl (by simp only [List.map_toArray, List.map_cons, List.map_nil]; rfl) (by go_simp) (Calls.mono HSv.out (fun e w' he => ⟨_, he.1, rfl, he.2⟩)) (fun x W7 hr => ?_)
    obtain ⟨hx, G7, hd7, hK7, hg7⟩ := hr
    cases hx
    have HR7 := hide (HR6.out.next hd7 hK7 hg7)
    have HS7 := hide (HS6.out.kp (hK7.mono HXY.out))
    have HL7 := hide (HL6.out.kp (hK7.mono (fun g hg => Xu_of (Or.inl (HXY.out g hg)))))
    clear hd7 hK7 hg7
    refine hK.out _ _ HS7.out.c0 (fun _ => ?_)
    clear hK Kt
    simp only [Act.put, List.getElem_toArray, List.getElem_cons_zero, List.getElem_cons_succ, List.setIfInBounds_toArray, List.set_cons_zero, List.set_cons_succ]
    refine wpAnyH_take (i := 7) (v := .int .i64 (sv D.sy 0 (mkv (K ++ Wt)) 3).2) rfl (by kernel_rfl) (by kernel_rfl) (by kernel_rfl) (fun _ _ _ h => h) (Or.inl ⟨by rfl, fun w' _ => by go_simp⟩) HS7.out.c0 ?_
    simp only [Act.put, List.getElem_toArray, List.getElem_cons_zero, List.getElem_cons_succ, List.setIfInBounds_toArray, List.set_cons_zero, List.set_cons_succ]
    refine wpAnyH_done (by kernel_rfl) ?_ _
    refine NoPanic.normal ?_
    obtain ⟨E, hE⟩ : ∃ E, E = sv D.sy 0 (mkv (K ++ Wt)) 3 := ⟨_, rfl⟩
    rw [← hE] at HR7 HCm
    rw [← hE]
    clear hE HSv HMk HS6 HL6 HR6 hS0
    go_upto_region 11 with fail
    by_cases her : E.2 = 0
    · have HK' : Hid (cmK E.2 K Wt = K ++ Wt ∧ cmW E.2 Wt = [] ∧ cmO E.2 = false) := ⟨if_pos her, if_pos her, by unfold cmO; rw [her]; rfl⟩
      have d1 := HS7.out.c1
      have d2 := HS7.out.c2
      have y1 := HS7.out.z 1 (by decide)
      have y2 := HS7.out.z 2 (by decide)
      rw [her]
      rw [HE.out.1] at d1
      rw [HE.out.2] at d2
      have HZe := hide her
      clear her
      go_wp2_with fail
      go_ret
      rw [HCm.out, HK'.out.1, HK'.out.2.1, HK'.out.2.2]
      exact ⟨by rw [HZe.out]; rfl, G7, _, _, _, _, (HR7.out.d.set (HGt.out G7 HR7.out.g) _).set (HGt.out G7 HR7.out.g) _, HR7.out.g, HS7.out.done (show Lst W7 bs (Xu Y t) (.slice za (K.length + Wt.length) ac) (K ++ Wt) (ck ++ cw) by have h := HL7.out; rw [List.length_append] at h; exact h), ((HR7.out.k.mono (fun g hg => Xu_of (Or.inl hg))).trans (kp_t _)).trans (kp_t _)⟩
    · have HK' : Hid (cmK E.2 K Wt = K ∧ cmW E.2 Wt = Wt) := ⟨if_neg her, if_neg her⟩
      have hne : (E.2 != 0) = true := by simp [her]
      have hne' : (E.2 == 0) = false := by simp [her]
      have hc3 := HS7.out.c3
      have hz3 := HS7.out.z 3 (by decide)
      clear her
      go_wp2_with fail
      go_ret
      rw [HCm.out, HK'.out.1, HK'.out.2]
      exact ⟨rfl, G7, vk, vw, ck, cw, HR7.out.d.set (HGt.out G7 HR7.out.g) _, HR7.out.g, HS7.out.over _, (HR7.out.k.mono (fun g hg => Xu_of (Or.inl hg))).trans (kp_t _)⟩
  · have HCm : Hid (cm D (K ++ Wt) = (D.sy, D.syE)) := if_neg hsy
    have hne : (D.syE != 0) = true := by simp [hsy]
    have hne' : (D.syE == 0) = false := by simp [hsy]
    have HK' : Hid (cmK D.syE K Wt = K ∧ cmW D.syE Wt = Wt) := ⟨if_neg hsy, if_neg hsy⟩
    clear hsy
    go_upto_region 12 with (go_at_call 52; refine Calls.mono HCS.out ?_; rintro e W5 ⟨rfl, G5, hd5, hK5, hg5⟩; have HR5 := hide (HR2.out.next hd5 hK5 hg5); have HS5 := hide (HS2.out.kp (hK5.mono HXY.out)); clear hd5 hK5 hg5)
    have hc3 := HS5.out.c3
    have hz3 := HS5.out.z 3 (by decide)
    go_wp2_with fail
    go_ret
    rw [HCm.out]
    show RcP w bs t r la na cl cn zl zn Y G D.sy D.syE (cmK D.syE K Wt) (cmW D.syE Wt) (cmO D.syE) _ _
    rw [HK'.out.1, HK'.out.2]
    exact ⟨rfl, G5, vk, vw, ck, cw, HR5.out.d.set (HGt.out G5 HR5.out.g) _, HR5.out.g, HS5.out.over _, (HR5.out.k.mono (fun g hg => Xu_of (Or.inl hg))).trans (kp_t _)⟩
end Go.Proofs.Ytjgpopjpmfkfmaa
