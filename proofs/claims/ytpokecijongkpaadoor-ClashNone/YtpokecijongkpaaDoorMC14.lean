/- Layer 20: pairs in a row of one's own. Layer 20: the program's own rise: up from a part, with the pairs on the way. -/
import Derived.Test.YtpokecijongkpaaDoorMC13
namespace Go.Proofs.YtpokecijongkpaaDoor
set_option maxRecDepth 100000
open Go.RowKit
attribute [local go_sem ↓] Go.wp_at_zero Go.wp_at_succ

/-- The cells of pairs. -/
def pqs : List HP → List Value
  | [] => []
  | q :: Q => pq q ++ pqs Q
theorem pqs_len (Q : List HP) : (pqs Q).length = Q.length * 64 := by
  induction Q with
  | nil => rfl
  | cons q Q ih => rw [pqs, List.length_append, pq_len, ih, List.length_cons, Nat.add_mul]; omega
theorem pqs_app (Q R : List HP) : pqs (Q ++ R) = pqs Q ++ pqs R := by
  induction Q with
  | nil => rfl
  | cons q Q ih => rw [List.cons_append, pqs, pqs, ih, List.append_assoc]
theorem pqs_one : ∀ (Q : List HP), ∀ u ∈ pqs Q, u.oneCell' = true
  | [], u, h => by cases h
  | q :: Q, u, h => by
    rw [pqs] at h
    rcases List.mem_append.1 h with h | h
    · exact pq_one q u h
    · exact pqs_one Q u h
theorem pqs_at : ∀ (Q : List HP) (i j : Nat) (q : HP), Q[i]? = some q → j < 64 → (pqs Q)[i * 64 + j]? = (pq q)[j]?
  | [], _, _, _, h, _ => by simp at h
  | p :: Q, 0, j, q, h, hj => by
    simp only [List.getElem?_cons_zero, Option.some.injEq] at h
    subst h
    rw [pqs, Nat.zero_mul, Nat.zero_add, List.getElem?_append_left (by rw [pq_len]; exact hj)]
  | p :: Q, i + 1, j, q, h, hj => by
    rw [List.getElem?_cons_succ] at h
    rw [pqs, List.getElem?_append_right (by rw [pq_len]; omega), pq_len, show (i + 1) * 64 + j - 64 = i * 64 + j by omega]
    exact pqs_at Q i j q h hj
/-- Pairs in memory. -/
def PrL (w : World) (x : Option Addr) (Q : List HP) : Prop := Q = [] ∨ ∃ b o, x = some ⟨b, o, none⟩ ∧ ∀ i q, Q[i]? = some q → w.rangeAt b (o + i * 64) (pq q)
theorem PrL.keep {W w1 : World} {x : Option Addr} {Q : List HP} (h : PrL W x Q) (hb : Below W.heap.size W w1) : PrL w1 x Q :=
  h.elim Or.inl fun ⟨b, o, e, hr⟩ => Or.inr ⟨b, o, e, fun i q hq => range_keep (hr i q hq) hb⟩
/-- The first ones. -/
theorem PrL.take {w : World} {x : Option Addr} {Q : List HP} (h : PrL w x Q) (k : Nat) : PrL w x (Q.take k) :=
  h.elim (fun e => Or.inl (by rw [e]; exact List.take_nil)) fun ⟨b, o, e, hr⟩ => Or.inr ⟨b, o, e, fun i q hq => hr i q (by
    rw [List.getElem?_take] at hq
    by_cases hi : i < k
    · rw [if_pos hi] at hq; exact hq
    · rw [if_neg hi] at hq; cases hq)⟩
/-- Pairs in a row of one's own. -/
abbrev OQ (w : World) (base : Nat) (v : Value) (Q : List HP) : Prop := w.ownsRow base 78 64 v Q.length (pqs Q)
theorem OQ.form {w : World} {base : Nat} {v : Value} {Q : List HP} (h : OQ w base v Q) : ∃ a cap, v = .slice a Q.length cap ∧ Q.length ≤ cap ∧ cap ≤ maxLen := by
  rcases h.2 with ⟨rfl, h0⟩ | ⟨g, cap, cur, rfl, _, _, h1, h2, _⟩
  · exact ⟨_, _, by rw [h0], by omega, by unfold maxLen; omega⟩
  · exact ⟨_, _, rfl, h1, h2⟩
theorem OQ.pls {w : World} {base n cap : Nat} {a : Option Addr} {Q : List HP} (h : OQ w base (.slice a n cap) Q) : PrL w a Q := by
  by_cases h0 : Q = []
  · exact Or.inl h0
  · have h1 : Q.length ≠ 0 := fun e => h0 (List.length_eq_zero_iff.1 e)
    rcases h.2 with ⟨_, e⟩ | ⟨g, cap', cur, e, hg, _⟩
    · exact absurd e h1
    · cases e
      refine Or.inr ⟨g, 0, rfl, fun i q hq j v hv => ?_⟩
      have hi : i < Q.length := by
        rcases Nat.lt_or_ge i Q.length with h' | h'
        · exact h'
        · rw [List.getElem?_eq_none h'] at hq; cases hq
      have hj : j < 64 := by
        rcases Nat.lt_or_ge j 64 with h' | h'
        · exact h'
        · rw [List.getElem?_eq_none (by rw [pq_len]; exact h')] at hv; cases hv
      rw [show 0 + i * 64 + j = i * 64 + j by omega, h.cellAt (i * 64 + j) (by omega), pqs_at Q i j q hq hj]
      exact hv
theorem OQ.below {w0 w w' : World} {v : Value} {Q : List HP} (h : OQ w w0.heap.size v Q) (hb : Below w0.heap.size w0 w) (hg : w.grownBy w' v.ownBlock) : Below w0.heap.size w0 w' :=
  hb.grown hg hb.size (fun k hk => (h.lt k hk).1)
theorem run_appQ {W : World} {base : Nat} {v : Value} {Q R : List HP} (hown : OQ W base v Q) {x : Option Addr} {m c : Nat} (hm : m = R.length) (hx : PrL W x R) (hb : Q.length + m ≤ 1000000) (hbase : base ≤ W.heap.size) (ty : TypeId) :
    ∃ v' w', (Builtin.append_ #[51, 51] ty #[v, .slice x m c]).run Tryd.prog W = .ok v' w' ∧ OQ w' base v' (Q ++ R) ∧ W.grownBy w' v.ownBlock := by
  obtain ⟨i0, hi, hz0, hz1, hz2⟩ := info_parts infoQ
  subst hm
  rcases hx with rfl | ⟨b, o, rfl, hr⟩
  · refine ⟨v, W, run_append_zero W base _ _ 78 i0 64 Tryd.underlying51 hi v _ _ hown x c, ?_, World.grownBy.refl _ _⟩
    rw [List.append_nil]
    exact hown
  · obtain ⟨v', w', h1, h2, h3, _⟩ := run_append_own (P := Tryd.prog) W base 51 ty 78 i0 _ 64 64 Tryd.underlying51 hi hz0 hz1 hz2 (by simp [pq_len, Value.cells]) (by decide) v Q.length _ hown ⟨b, o, none⟩ R.length c (pqs R) (pqs_len R) (fun k u hu => by
      have hk : k < R.length * 64 := by
        rcases Nat.lt_or_ge k (R.length * 64) with h' | h'
        · exact h'
        · rw [List.getElem?_eq_none (by rw [pqs_len]; exact h')] at hu; cases hu
      have hq := List.getElem?_eq_getElem (l := R) (i := k / 64) (by omega)
      have e : k = k / 64 * 64 + k % 64 := by omega
      rw [e, pqs_at R (k / 64) (k % 64) _ hq (by omega)] at hu
      have hc := hr (k / 64) _ hq (k % 64) u hu
      have ea : (⟨b, o, none⟩ : Addr).add k = ⟨b, o + k / 64 * 64 + k % 64, none⟩ := by
        rw [Addr.add_mid]
        congr 1
        omega
      rw [ea]
      exact hc) (pqs_one _) (by unfold maxLen; omega) (by omega) hbase
    refine ⟨v', w', h1, ?_, h3⟩
    show w'.ownsRow base 78 64 v' (Q ++ R).length (pqs (Q ++ R))
    rw [List.length_append, pqs_app]
    exact h2
theorem OQ.keep {w w' : World} {base : Nat} {v : Value} {Q : List HP} (h : OQ w base v Q) (hb : Below w.heap.size w w') : OQ w' base v Q := by
  refine ⟨h.1, ?_⟩
  rcases h.2 with h0 | ⟨g, cap, cur, rfl, hg, hh, h1, h2, h3, h4⟩
  · exact Or.inl h0
  · exact Or.inr ⟨g, cap, cur, rfl, hg, by rw [hb.block g (h.lt g rfl).2]; exact hh, h1, h2, h3, h4⟩
theorem OQ.base {w : World} {base base' : Nat} {v : Value} {Q : List HP} (h : OQ w base v Q) (hb : base' ≤ base) : OQ w base' v Q := by
  refine ⟨h.1, ?_⟩
  rcases h.2 with h0 | ⟨g, cap, cur, rfl, hg, hh, h1, h2, h3, h4⟩
  · exact Or.inl h0
  · exact Or.inr ⟨g, cap, cur, rfl, Nat.le_trans hb hg, hh, h1, h2, h3, h4⟩
theorem OQ.set {w : World} {base b : Nat} {v : Value} {Q : List HP} (h : OQ w base v Q) (hb : b < base) (o : Nat) (vs : List Value) : OQ (w.setCells b o vs) base v Q := by
  refine ⟨h.1, ?_⟩
  rcases h.2 with h0 | ⟨g, cap, cur, rfl, hg, hh, h1, h2, h3, h4⟩
  · exact Or.inl h0
  · exact Or.inr ⟨g, cap, cur, rfl, hg, by rw [(grown_sets b vs o w).block g (h.lt g rfl).2 (by intro e; cases e; omega)]; exact hh, h1, h2, h3, h4⟩
theorem OQ.grown {w w' : World} {base : Nat} {v : Value} {Q : List HP} (h : OQ w base v Q) {row : Option Nat} (hg : w.grownBy w' row) (hne : ∀ g, row = some g → g < base) : OQ w' base v Q := by
  refine ⟨h.1, ?_⟩
  rcases h.2 with h0 | ⟨g, cap, cur, rfl, hg', hh, h1, h2, h3, h4⟩
  · exact Or.inl h0
  · exact Or.inr ⟨g, cap, cur, rfl, hg', by rw [hg.block g (h.lt g rfl).2 (by intro e; have := hne g e.symm; omega)]; exact hh, h1, h2, h3, h4⟩
theorem PrL.grow {W w1 : World} {x : Option Addr} {Q : List HP} (h : PrL W x Q) (hb : Below W.heap.size W w1) : PrL w1 x Q := h.keep hb
theorem prl_one (w : World) (q : HP) : PrL (w.alloc (.cells (pq q).toArray 78)) (some ⟨w.heap.size, 0, none⟩) [q] :=
  Or.inr ⟨_, _, rfl, fun i p hp j v hv => by
    have hi : i = 0 := by
      rcases i with _ | i
      · rfl
      · simp at hp
    subst hi
    simp only [List.getElem?_cons_zero, Option.some.injEq] at hp
    subst hp
    have := (RowC.made w 78 (pq q)).c j v hv
    rwa [show 0 + 0 * 64 + j = 0 + j by omega]⟩
section
variable {w : World} {o : Oper} {a : Act} {Q' : Exit → Act → World → Prop} {Kt : Act → World → Prop}
theorem wp_appQ (s x : Operand)
    (ho : o.op = .call { callee := .builtin .append, args := #[s, x], argTypes := #[51, 51] })
    {base : Nat} {v : Value} {Q R : List HP} (hs : a.eval s = v) (hown : OQ w base v Q) {y : Option Addr} {m c : Nat} (hx : a.eval x = .slice y m c) (hm : m = R.length) (hy : PrL w y R) (hb : Q.length + m ≤ 1000000) (hbase : base ≤ w.heap.size)
    (h : ∀ v' w', OQ w' base v' (Q ++ R) → w.grownBy w' v.ownBlock → Kt (a.put o.dst v') w') : Oper.wp Tryd.prog o a w Kt Q' := by
  obtain ⟨v', w', hr, h2, h3⟩ := run_appQ (c := c) hown hm hy hb hbase o.type
  unfold Oper.wp execOp
  simp only [ho, resolve, invoke, builtin, Sem.run_bind, Sem.run_pure, Result.andThen_ok, List.map_toArray, List.map_cons, List.map_nil, hs, hx, hr]
  exact h v' w' h2 h3
theorem wp_oneQ {x : Operand} {q : HP} (ho : o.op = .buildSlice 51 1 #[(0, x)]) (hx : a.eval x = pval q)
    (h : ∀ p W', PrL W' (some ⟨p, 0, none⟩) [q] → Below w.heap.size w W' → Kt (a.put o.dst (.slice (some ⟨p, 0, none⟩) 1 1)) W') : Oper.wp Tryd.prog o a w Kt Q' := by
  obtain ⟨ie, hi, hz, hs, _⟩ := info_parts infoQ
  refine wp_buildSlice 51 78 1 #[(0, x)] ho (pq q).toArray ie _ Tryd.underlying51 hi hz (by rw [hs]; decide) (by rw [hs]; decide) ?_ (h w.heap.size _ (prl_one w q) (Go.Proofs.YtpokecijongkpaaDoor.K.alloc (Below.refl _ _) _))
  rw [hs]
  simp only [List.map_toArray, List.map_cons, List.map_nil, hx]
  exact fillQ q _ rfl
end
end Go.Proofs.YtpokecijongkpaaDoor
namespace Go.Proofs.YtpokecijongkpaaDoor
set_option maxRecDepth 100000
open Go.RowKit
attribute [local go_sem ↓] Go.wp_at_zero Go.wp_at_succ

theorem RowC.grown {W W' : World} {b : Nat} {cs : List Value} {row : Option Nat} (h : RowC W b cs) (hg : W.grownBy W' row) (hne : some b ≠ row) : RowC W' b cs :=
  ⟨Nat.lt_of_lt_of_le h.lt hg.size, fun j v hv => by
    have e : W'.cell? ⟨b, 0 + j, none⟩ = W.cell? ⟨b, 0 + j, none⟩ := World.cell?_of_block (hg.block b h.lt hne)
    rw [e]
    exact h.c j v hv, fun j hj => by
    have e : W'.frozen? ⟨b, j, none⟩ = W.frozen? ⟨b, j, none⟩ := World.frozen?_of_block (hg.block b h.lt hne)
    rw [e]
    exact h.z j hj⟩
theorem Vc.grown {w0 W W' : World} {L : List (Nat × List Value)} {row : Option Nat} (h : Vc w0 W L) (hg : W.grownBy W' row) (hb : Below w0.heap.size w0 W') (hne : ∀ p ∈ L, some p.1 ≠ row) : Vc w0 W' L :=
  ⟨hb, fun p hp => ⟨(h.at_ p hp).1, (h.at_ p hp).2.grown hg (hne p hp)⟩, h.dn⟩
theorem Vc.drew {w0 W : World} {L : List (Nat × List Value)} (h : Vc w0 W L) : Vc w0 W.drew L := h.keep (Go.Proofs.YtpokecijongkpaaDoor.K.drew (Below.refl _ W))
/-- Up from a part: the root, and the pairs on the way, from the bottom up. -/
def RiP (w : World) (R : (Nat → Nat) × List HP) (e : Ending) (w' : World) : Prop := ∃ v, e = .returned (.tuple #[.agg (ab R.1 32).toArray, v]) ∧ OQ w' w.heap.size v R.2.reverse ∧ Below w.heap.size w w'
theorem app_below {w0 W W' : World} {B : Nat} {v : Value} {P : List HP} (hb : Below w0.heap.size w0 W) (ho : OQ W B v P) (hB : w0.heap.size ≤ B) (hg : W.grownBy W' v.ownBlock) : Below w0.heap.size w0 W' :=
  hb.grown hg hb.size (fun k hk => Nat.le_trans hB (ho.lt k hk).1)
theorem own_off {W : World} {B : Nat} {v : Value} {P : List HP} (ho : OQ W B v P) {b : Nat} (hb : b < B) : some b ≠ v.ownBlock := fun e => by
  have := (ho.lt b e.symm).1
  omega
theorem off_all {L : List (Nat × List Value)} {x y z B : Nat} (e : L.map Prod.fst = [x, y, z]) (hx : x < B) (hy : y < B) (hz : z < B) : ∀ p ∈ L, p.1 < B := fun p hp => by
  have h : p.1 ∈ [x, y, z] := e ▸ List.mem_map_of_mem hp
  simp only [List.mem_cons, List.not_mem_nil, or_false] at h
  rcases h with h | h | h <;> omega
theorem OQ.snoc {W : World} {B : Nat} {v : Value} {P : List HP} {p : HP} (h : OQ W B v (P.reverse ++ [p])) : OQ W B v (p :: P).reverse := by
  rw [List.reverse_cons]
  exact h
theorem rv_lt {G : Nat → Nat → Nat} (hG : ∀ i j, G i j < 256) : ∀ l, ∀ t ∈ rv G l, ∀ j, t j < 256
  | 0, t, ht => by cases ht
  | l + 1, t, ht => by
    rw [rv] at ht
    rcases List.mem_cons.1 ht with rfl | h
    · exact hG l
    · exact rv_lt hG l t h
theorem sp_le' (n : Nat) : sp n ≤ n := by
  by_cases h : n < 2
  · rw [sp_small h]; omega
  · exact Nat.le_of_lt (sp_lt (by omega))
set_option maxRecDepth 100000 in
set_option maxHeartbeats 4000000 in
theorem riseQ_nil {w : World} {y : Option Addr} {c n m : Nat} {f : Nat → Nat} : Calls Tryd.prog 35 #[.int .i64 (m : Int), .int .i64 (n : Int), hv f, .slice y 0 c] w (RiP w (f, [])) := by
  unfold hv
  go_enter Tryd.func35, Tryd.ntmps35
  go_upto_region 1 with fail
  refine wp_world (fun X hX => ?_)
  rw [zeros32] at hX
  have hvv : Vc w X [(w.heap.size + 1, ab (fun _ => 0) 32), (w.heap.size, ab f 32)] := by
    rw [hX]
    have h := ((Vc.nil w).made 24 (ab f 32)).made 24 (ab (fun _ => 0) 32)
    have e : ∀ o, (w.alloc o).heap.size = w.heap.size + 1 := fun o => by simp
    rw [e] at h
    exact h
  clear hX
  obtain ⟨b0, hb0⟩ : ∃ b0, w.heap.size = b0 := ⟨_, rfl⟩
  rw [hb0] at hvv ⊢
  have HL := hide (hvv.row 1 rfl).c
  have HV := hide hvv
  clear hvv
  go_wp2_with (first
    | (refine wpList_load_h rfl _ rfl (by rfl) HL.out ?_; simp only [Act.put, List.setIfInBounds_toArray, List.set_cons_zero, List.set_cons_succ])
    | (refine HV.out.listPutH 0 0 rfl rfl (by rfl) (by rfl) rfl (by rw [ab_len, ab_len]; omega) (fun W2 hv2 => ?_); simp only [Act.put]; have HV2 := hide hv2; clear hv2))
  exact bodyPost_ret (results_cell_tmp Tryd.results35 _ _ (b0 + 1) (ab f 32) _ rfl (by have h := (HV2.out.row 0 rfl).c; rwa [ov_all] at h) Tryd.underlying24 rfl (ilH _) rfl) rfl ⟨_, rfl, World.ownsRow_nil _ _ _ _, by first | exact HV2.out.k | (rw [hb0]; exact HV2.out.k)⟩
set_option maxRecDepth 100000 in
set_option maxHeartbeats 16000000 in
theorem riseQ_any : ∀ (l : Nat) {w : World} {y : Option Addr} {c n m : Nat} {G : Nat → Nat → Nat} {f : Nat → Nat}, Tab w → HL w y l G → l ≤ c → c ≤ maxLen → l ≤ 1000 → n ≤ 1000000 → m ≤ 1000000 → (∀ j, f j < 256) →
    Calls Tryd.prog 35 #[.int .i64 (m : Int), .int .i64 (n : Int), hv f, .slice y l c] w (RiP w (rs f (rv G l) n m))
  | 0, w, y, c, n, m, G, f, hT, hL, hc, hcm, hl, hn, hm, hf => riseQ_nil
  | l + 1, w, y, c, n, m, G, f, hT, hL, hc, hcm, hl, hn, hm, hf => by
    obtain ⟨b, o, rfl, hr⟩ : ∃ b o, y = some ⟨b, o, none⟩ ∧ ∀ i, i < l + 1 → w.rangeAt b (o + i * 32) (ab (G i) 32) := hL.at_.resolve_left (by omega)
    have HRl := hide (hr l (by omega))
    have HLp : Hid (HL w (some ⟨b, o, none⟩) l G) := ⟨hL.lt, Or.inr ⟨b, o, rfl, fun i hi => hr i (by omega)⟩⟩
    have HGl := hide (hL.lt l)
    have HT := hide hT
    have HF := hide hf
    have IH : Hid (∀ (W : World) (n m : Nat), Below w.heap.size w W → n ≤ 1000000 → m ≤ 1000000 → Calls Tryd.prog 35 #[.int .i64 (m : Int), .int .i64 (n : Int), .agg (ab f 32).toArray, .slice (some ⟨b, o, none⟩) l c] W (RiP W (rs f (rv G l) n m))) :=
      hide (fun W n m hb hn hm => riseQ_any l (HT.out.keep hb) (HLp.out.keep hb) (by omega) hcm (by omega) hn hm HF.out)
    have HGa : Hid (∀ t ∈ rv G l, ∀ j, t j < 256) := hide (rv_lt hL.lt l)
    have HSP := hide (fun W => split_any W (k := (n : Int)) (by omega) (by omega))
    rw [Int.toNat_natCast] at HSP
    have hkn : sp n ≤ n := sp_le' n
    have HEl : Hid (m < sp n → rs f (rv G (l + 1)) n m = (nd (rs f (rv G l) (sp n) m).1 (G l), ((rs f (rv G l) (sp n) m).1, G l) :: (rs f (rv G l) (sp n) m).2)) := hide (fun h => rs_low f (G l) (rv G l) h)
    have HEu : Hid (¬ m < sp n → rs f (rv G (l + 1)) n m = (nd (G l) (rs f (rv G l) (n - sp n) (m - sp n)).1, (G l, (rs f (rv G l) (n - sp n) (m - sp n)).1) :: (rs f (rv G l) (n - sp n) (m - sp n)).2)) := hide (fun h => rs_up f (G l) (rv G l) h)
    generalize sp n = k at HSP hkn HEl HEu
    generalize rs f (rv G (l + 1)) n m = R at HEl HEu
    obtain ⟨s, hs⟩ : ∃ s, l + 1 = s := ⟨_, rfl⟩
    rw [hs] at hc hl ⊢
    have hs1 : (s : Int) - 1 = (l : Int) := by omega
    have hs0 : ¬ ((s : Int) = 0) := by omega
    have hls : l < s := by omega
    have hlc : l ≤ c := by omega
    have hl1 : l ≤ 1000 := by omega
    clear hr hL hT hf hs
    unfold hv
    go_enter Tryd.func35, Tryd.ntmps35
    go_upto_region 1 with fail
    refine wp_world (fun X hX => ?_)
    rw [zeros32] at hX
    have hvv : Vc w X [(w.heap.size + 1, ab (fun _ => 0) 32), (w.heap.size, ab f 32)] := by
      rw [hX]
      have h := ((Vc.nil w).made 24 (ab f 32)).made 24 (ab (fun _ => 0) 32)
      have e : ∀ o, (w.alloc o).heap.size = w.heap.size + 1 := fun o => by simp
      rw [e] at h
      exact h
    clear hX
    obtain ⟨b0, hb0⟩ : ∃ b0, w.heap.size = b0 := ⟨_, rfl⟩
    rw [hb0] at hvv ⊢
    have HV := hide hvv
    clear hvv
    go_upto_region 5 with (first
      | (go_at_call 18; (with_reducible refine Calls.mono (HSP.out _) ?_); rintro e w1 ⟨rfl, hw⟩; replace hw := hw.symm; subst hw)
      | (refine HV.out.listNewQ rfl rfl (fun yq W2 hyq hv2 hb2 => ?_); simp only [Act.put, List.setIfInBounds_toArray, List.set_cons_zero, List.set_cons_succ]; have HVn := hide hv2; have HYq := hide (And.intro hyq hb2.size); clear hv2 hyq hb2 HV))
    have HL2 := hide (HRl.out)
    by_cases hk : m < k
    · have hk' : (m : Int) < (k : Int) := by omega
      have HR := hide (HEl.out hk)
      clear HEl HEu
      go_upto_region 6 with fail
      have HVd := hide HVn.out.drew
      refine wp_region_noPanic ?_
      refine wp_region_held_drew (S := fun W => W.rangeAt b0 0 (ab f 32)) (by kernel_rfl) (HVd.out.row 2 rfl).c (fun hS => ?_)
      refine wpAnyH_take (i := 0) (v := .int .i64 (m : Int)) rfl (by kernel_rfl) (by kernel_rfl) (by kernel_rfl) (fun _ _ _ h => h) (Or.inl ⟨by rfl, fun w' _ => by go_simp⟩) hS ?_
      simp only [Act.put, List.getElem_toArray, List.getElem_cons_zero, List.setIfInBounds_toArray, List.set_cons_zero, List.set_cons_succ]
      refine wpAnyH_take (i := 1) (v := .int .i64 (k : Int)) rfl (by kernel_rfl) (by kernel_rfl) (by kernel_rfl) (fun _ _ _ h => h) (Or.inl ⟨by rfl, fun w' _ => by go_simp⟩) hS ?_
      simp only [Act.put, List.getElem_toArray, List.getElem_cons_zero, List.getElem_cons_succ, List.setIfInBounds_toArray, List.set_cons_zero, List.set_cons_succ]
      refine wpAnyH_take (i := 2) (v := .agg (ab f 32).toArray) rfl (by kernel_rfl) (by kernel_rfl) (by kernel_rfl) (fun _ _ _ h => h) (yieldsIf_load_mid (by rfl) 24 _ rfl b0 (0) (by rfl) (ab f 32) _ (fun w' hS => hS) Tryd.underlying24 rfl (ilH _)) hS ?_
      simp only [Act.put, List.getElem_toArray, List.getElem_cons_zero, List.getElem_cons_succ, List.setIfInBounds_toArray, List.set_cons_zero, List.set_cons_succ]
      refine wpAnyH_take (i := 3) (v := .slice (some ⟨b, o, none⟩) s c) rfl (by kernel_rfl) (by kernel_rfl) (by kernel_rfl) (fun _ _ _ h => h) (Or.inl ⟨by rfl, fun w' _ => by go_simp⟩) hS ?_
      simp only [Act.put, List.getElem_toArray, List.getElem_cons_zero, List.getElem_cons_succ, List.setIfInBounds_toArray, List.set_cons_zero, List.set_cons_succ]
      refine wpAnyH_take (i := 4) (v := .int .i64 (l : Int)) rfl (by kernel_rfl) (by kernel_rfl) (by kernel_rfl) (fun _ _ _ h => h) (Or.inl ⟨by rfl, fun w' _ => by go_simp⟩) hS ?_
      simp only [Act.put, List.getElem_toArray, List.getElem_cons_zero, List.getElem_cons_succ, List.setIfInBounds_toArray, List.set_cons_zero, List.set_cons_succ]
      refine wpAnyH_take (i := 5) (v := .slice (some ⟨b, o, none⟩) l c) rfl (by kernel_rfl) (by kernel_rfl) (by kernel_rfl) (fun _ _ _ h => h) (Or.inl ⟨by rfl, fun w' _ => by go_simp⟩) hS ?_
      simp only [Act.put, List.getElem_toArray, List.getElem_cons_zero, List.getElem_cons_succ, List.setIfInBounds_toArray, List.set_cons_zero, List.set_cons_succ]
      have HC := hide (IH.out W2.drew k m HVd.out.k (by omega) (by omega))
      have HPn := hide (rs_len f (rv G l) k m)
      rw [rv_len] at HPn
      have HLt := hide (rs_lt HF.out (rv G l) k m HGa.out)
      obtain ⟨R1, hR1⟩ : ∃ R1, rs f (rv G l) k m = R1 := ⟨_, rfl⟩
      rw [hR1] at HC HLt HR HPn
      obtain ⟨y1, P⟩ := R1
      clear hR1 IH HGa
      refine wpAnyH_ready (rs := [6]) (by kernel_rfl) (by simp) (AllReadyH.cons rfl (fun Kt hK => ?_) AllReadyH.nil)
      refine wanted_pos rfl ?_
      refine wp_call (R := fun r w' => ∃ v, r = .tuple #[.agg (ab y1 32).toArray, v] ∧ OQ w' W2.heap.size v P.reverse ∧ Below W2.heap.size W2.drew w') (vs := #[.int .i64 (m : Int), .int .i64 (k : Int), .agg (ab f 32).toArray, .slice (some ⟨b, o, none⟩) l c]) rfl (by simp only [List.map_toArray, List.map_cons, List.map_nil]; rfl) (by go_simp) (Calls.mono HC.out (fun e w' h => by obtain ⟨v, he, ho, hb⟩ := h; exact ⟨_, he, v, rfl, ho, hb⟩)) (fun r W3 hr => ?_)
      obtain ⟨v1, rfl, ho3, hb3⟩ := hr
      clear HC
      have HV3 := hide (HVd.out.keep hb3)
      have HO3 := hide ho3
      have HZ3 : Hid (W2.heap.size ≤ W3.heap.size) := hide hb3.size
      have HB2 : Hid (b0 < W2.heap.size ∧ b0 + 1 < W2.heap.size ∧ yq < W2.heap.size ∧ w.heap.size ≤ W2.heap.size) := hide ⟨(HVn.out.row 2 rfl).lt, (HVn.out.row 1 rfl).lt, (HVn.out.row 0 rfl).lt, HVn.out.k.size⟩
      clear ho3
      refine hK.out _ _ (range_keep hS hb3) (fun hS => ?_)
      clear hK Kt hb3 HVd HVn
      simp only [Act.put, List.getElem_toArray, List.getElem_cons_zero, List.getElem_cons_succ, List.setIfInBounds_toArray, List.set_cons_zero, List.set_cons_succ]
      refine wpAnyH_take (i := 7) (v := .tuple #[.agg (ab y1 32).toArray, v1]) rfl (by kernel_rfl) (by kernel_rfl) (by kernel_rfl) (fun _ _ _ h => h) (Or.inl ⟨by rfl, fun w' _ => by go_simp⟩) hS ?_
      simp only [Act.put, List.getElem_toArray, List.getElem_cons_zero, List.getElem_cons_succ, List.setIfInBounds_toArray, List.set_cons_zero, List.set_cons_succ]
      refine wpAnyH_take (i := 8) (v := .agg (ab y1 32).toArray) rfl (by kernel_rfl) (by kernel_rfl) (by kernel_rfl) (fun _ _ _ h => h) (Or.inl ⟨by rfl, fun w' _ => by go_simp⟩) hS ?_
      simp only [Act.put, List.getElem_toArray, List.getElem_cons_zero, List.getElem_cons_succ, List.setIfInBounds_toArray, List.set_cons_zero, List.set_cons_succ]
      refine wpAnyH_take (i := 9) (v := v1) rfl (by kernel_rfl) (by kernel_rfl) (by kernel_rfl) (fun _ _ _ h => h) (Or.inl ⟨by rfl, fun w' _ => by go_simp⟩) hS ?_
      simp only [Act.put, List.getElem_toArray, List.getElem_cons_zero, List.getElem_cons_succ, List.setIfInBounds_toArray, List.set_cons_zero, List.set_cons_succ]
      refine wpAnyH_ready (rs := [10]) (by kernel_rfl) (by simp) (AllReadyH.cons rfl (fun Kt hK => ?_) AllReadyH.nil)
      refine wanted_pos rfl ?_
      refine HV3.out.wpPutH 1 rfl (by rfl) (by rfl) rfl (fun W4 hw4 hv4 => ?_)
      have HV4 := hide hv4
      have HO4 : Hid (OQ W4 W2.heap.size v1 P.reverse) := hide (by rw [hw4]; exact HO3.out.set HB2.out.2.1 _ _)
      have HZ4 : Hid (W2.heap.size ≤ W4.heap.size) := hide (by rw [hw4, size_setCells]; exact HZ3.out)
      clear hw4 HZ3 HO3 HV3 hv4
      refine hK.out _ _ ((HV4.out.row 2 rfl).c) (fun hS => ?_)
      clear hK Kt
      simp only [Act.put, List.getElem_toArray, List.getElem_cons_zero, List.getElem_cons_succ]
      refine wpAnyH_take (i := 11) (v := v1) rfl (by kernel_rfl) (by kernel_rfl) (by kernel_rfl) (fun _ _ _ h => h) (Or.inl ⟨by rfl, fun w' _ => by go_simp⟩) hS ?_
      simp only [Act.put, List.getElem_toArray, List.getElem_cons_zero, List.getElem_cons_succ, List.setIfInBounds_toArray, List.set_cons_zero, List.set_cons_succ]
      refine wpAnyH_done (by kernel_rfl) ?_ _
      refine NoPanic.normal ?_
      clear hS
      go_upto_region 7 with fail
      have HVe := hide HV4.out.drew
      have HOe := hide (HO4.out.keep (Go.Proofs.YtpokecijongkpaaDoor.K.drew (Below.refl _ _)))
      refine wp_region_noPanic ?_
      refine wp_region_held_drew (S := fun W => W.rangeAt (b0 + 1) 0 (ab y1 32) ∧ W.rangeAt b (o + l * 32) (ab (G l) 32)) (by kernel_rfl) ⟨(HVe.out.row 1 rfl).c, range_keep HRl.out HVe.out.k⟩ (fun hS => ?_)
      refine wpAnyH_take (i := 0) (v := .agg (ab y1 32).toArray) rfl (by kernel_rfl) (by kernel_rfl) (by kernel_rfl) (fun _ _ _ h => h) (yieldsIf_load_mid (by rfl) 24 _ rfl (b0 + 1) (0) (by rfl) (ab y1 32) _ (fun w' hS => hS.1) Tryd.underlying24 rfl (ilH _)) hS ?_
      simp only [Act.put, List.getElem_toArray, List.getElem_cons_zero, List.setIfInBounds_toArray, List.set_cons_zero, List.set_cons_succ]
      refine wpAnyH_take (i := 1) (v := .slice (some ⟨b, o, none⟩) s c) rfl (by kernel_rfl) (by kernel_rfl) (by kernel_rfl) (fun _ _ _ h => h) (Or.inl ⟨by rfl, fun w' _ => by go_simp⟩) hS ?_
      simp only [Act.put, List.getElem_toArray, List.getElem_cons_zero, List.getElem_cons_succ, List.setIfInBounds_toArray, List.set_cons_zero, List.set_cons_succ]
      refine wpAnyH_take (i := 2) (v := .int .i64 (l : Int)) rfl (by kernel_rfl) (by kernel_rfl) (by kernel_rfl) (fun _ _ _ h => h) (Or.inl ⟨by rfl, fun w' _ => by go_simp⟩) hS ?_
      simp only [Act.put, List.getElem_toArray, List.getElem_cons_zero, List.getElem_cons_succ, List.setIfInBounds_toArray, List.set_cons_zero, List.set_cons_succ]
      refine wpAnyH_take (i := 3) (v := .pointer (some ⟨b, o + l * 32, none⟩)) rfl (by kernel_rfl) (by kernel_rfl) (by kernel_rfl) (fun _ _ _ h => h) (Or.inl ⟨by rfl, fun w' _ => by go_simp⟩) hS ?_
      simp only [Act.put, List.getElem_toArray, List.getElem_cons_zero, List.getElem_cons_succ, List.setIfInBounds_toArray, List.set_cons_zero, List.set_cons_succ]
      refine wpAnyH_take (i := 4) (v := .agg (ab (G l) 32).toArray) rfl (by kernel_rfl) (by kernel_rfl) (by kernel_rfl) (fun _ _ _ h => h) (yieldsIf_load_mid (by rfl) 24 _ rfl b (o + l * 32) (by rfl) (ab (G l) 32) _ (fun w' hS => hS.2) Tryd.underlying24 rfl (ilH _)) hS ?_
      simp only [Act.put, List.getElem_toArray, List.getElem_cons_zero, List.getElem_cons_succ, List.setIfInBounds_toArray, List.set_cons_zero, List.set_cons_succ]
      refine wpAnyH_take (i := 5) (v := pval (y1, G l)) rfl (by kernel_rfl) (by kernel_rfl) (by kernel_rfl) (fun _ _ _ h => h) (yieldsIf_build_q (by rfl) _ _ rfl (by rfl) (by rfl)) hS ?_
      simp only [Act.put, List.getElem_toArray, List.getElem_cons_zero, List.getElem_cons_succ, List.setIfInBounds_toArray, List.set_cons_zero, List.set_cons_succ]
      refine wpAnyH_ready (rs := [6]) (by kernel_rfl) (by simp) (AllReadyH.cons rfl (fun Kt hK => ?_) AllReadyH.nil)
      refine wanted_pos rfl ?_
      refine HVe.out.wpPutQ 0 rfl (by rfl) (by rfl) rfl (fun W5 hw5 hv5 => ?_)
      have HV5 := hide hv5
      have HO5 : Hid (OQ W5 W2.heap.size v1 P.reverse) := hide (by rw [hw5]; exact HOe.out.set HB2.out.2.2.1 _ _)
      have HZ5 : Hid (W2.heap.size ≤ W5.heap.size) := hide (by rw [hw5, size_setCells]; exact HZ4.out)
      clear hw5 HZ4 HOe HVe hv5 HV4 HO4
      refine hK.out _ _ (⟨(HV5.out.row 1 rfl).c, range_keep HRl.out HV5.out.k⟩) (fun hS => ?_)
      clear hK Kt
      simp only [Act.put, List.getElem_toArray, List.getElem_cons_zero, List.getElem_cons_succ]
      refine wpAnyH_done (by kernel_rfl) ?_ _
      refine NoPanic.normal ?_
      clear hS
      go_upto_region 10 with fail
      have HVf := hide HV5.out.drew
      have HOf := hide (HO5.out.keep (Go.Proofs.YtpokecijongkpaaDoor.K.drew (Below.refl _ _)))
      obtain ⟨p, hp⟩ : ∃ p : HP, (y1, G l) = p := ⟨_, rfl⟩
      have HPr : Hid (∀ W, Below w.heap.size w W → Calls Tryd.prog 50 #[pval p] W fun e w' => e = .returned (.agg (ab (nd y1 (G l)) 32).toArray) ∧ Below W.heap.size W w') := hide (fun W hb => by rw [← hp]; exact pairHash_any (q := (y1, G l)) (HT.out.keep hb) HLt.out.1 HGl.out)
      rw [hp] at HVf HR
      obtain ⟨g2, hg2⟩ : ∃ g2, nd y1 (G l) = g2 := ⟨_, rfl⟩
      simp only [] at HR
      rw [hg2] at HPr HR
      clear hp hg2
      refine wp_region_noPanic ?_
      refine wp_region_held_drew (S := fun W => W.rangeAt yq 0 (pq p)) (by kernel_rfl) (HVf.out.row 0 rfl).c (fun hS => ?_)
      refine wpAnyH_take (i := 0) (v := pval p) rfl (by kernel_rfl) (by kernel_rfl) (by kernel_rfl) (fun _ _ _ h => h) (yieldsIf_load_mid (by rfl) 78 _ rfl yq 0 (by rfl) (pq p) _ (fun w' hS => hS) Tryd.underlying78 rfl (ilQ _)) hS ?_
      simp only [Act.put, List.getElem_toArray, List.getElem_cons_zero, List.setIfInBounds_toArray, List.set_cons_zero, List.set_cons_succ]
      refine wpAnyH_take (i := 2) (v := v1) rfl (by kernel_rfl) (by kernel_rfl) (by kernel_rfl) (fun _ _ _ h => h) (Or.inl ⟨by rfl, fun w' _ => by go_simp⟩) hS ?_
      simp only [Act.put, List.getElem_toArray, List.getElem_cons_zero, List.getElem_cons_succ, List.setIfInBounds_toArray, List.set_cons_zero, List.set_cons_succ]
      refine wpAnyH_take (i := 3) (v := pval p) rfl (by kernel_rfl) (by kernel_rfl) (by kernel_rfl) (fun _ _ _ h => h) (yieldsIf_load_mid (by rfl) 78 _ rfl yq 0 (by rfl) (pq p) _ (fun w' hS => hS) Tryd.underlying78 rfl (ilQ _)) hS ?_
      simp only [Act.put, List.getElem_toArray, List.getElem_cons_zero, List.getElem_cons_succ, List.setIfInBounds_toArray, List.set_cons_zero, List.set_cons_succ]
      refine wpAnyH_ready (rs := [1, 4]) (by kernel_rfl) (by simp) (AllReadyH.cons rfl (fun Kt hK => ?_) (AllReadyH.cons rfl (fun Kt hK => ?_) AllReadyH.nil))
      · refine wanted_pos rfl ?_
        refine wp_call (R := fun r w' => r = .agg (ab g2 32).toArray ∧ Below W5.drew.heap.size W5.drew w') (vs := #[pval p]) rfl (by simp only [List.map_toArray, List.map_cons, List.map_nil]; rfl) (by go_simp) (Calls.mono (HPr.out W5.drew HVf.out.k) (fun e w' h => ⟨_, h.1, rfl, h.2⟩)) (fun r W6 hr => ?_)
        obtain ⟨rfl, hb⟩ := hr
        have HV6 := hide (HVf.out.keep hb)
        have HO6 := hide (HOf.out.keep hb)
        have HZ6 : Hid (W2.heap.size ≤ W6.heap.size) := hide (Nat.le_trans HZ5.out hb.size)
        clear HVf HOf
        refine hK.out _ _ ((HV6.out.row 0 rfl).c) (fun hS => ?_)
        clear hK Kt hb
        simp only [Act.put, List.getElem_toArray, List.getElem_cons_zero, List.getElem_cons_succ, List.setIfInBounds_toArray, List.set_cons_zero, List.set_cons_succ]
        refine wpAnyH_ready (rs := [4]) (by kernel_rfl) (by simp) (AllReadyH.cons rfl (fun Kt hK => ?_) AllReadyH.nil)
        refine wanted_pos rfl ?_
        refine wp_oneQ (q := p) rfl (by rfl) (fun pb W7 hpl hb => ?_)
        have HV7 := hide (HV6.out.keep hb)
        have HO7 := hide (HO6.out.keep hb)
        have HZ7 : Hid (W2.heap.size ≤ W7.heap.size) := hide (Nat.le_trans HZ6.out hb.size)
        have HPL7 := hide hpl
        clear HV6 HO6 hpl
        refine hK.out _ _ ((HV7.out.row 0 rfl).c) (fun hS => ?_)
        clear hK Kt hb
        simp only [Act.put, List.getElem_toArray, List.getElem_cons_zero, List.getElem_cons_succ, List.setIfInBounds_toArray, List.set_cons_zero, List.set_cons_succ]
        refine wpAnyH_ready (rs := [5]) (by kernel_rfl) (by simp) (AllReadyH.cons rfl (fun Kt hK => ?_) AllReadyH.nil)
        refine wanted_pos rfl ?_
        refine wp_appQ _ _ rfl (by rfl) HO7.out (by rfl) rfl HPL7.out (by rw [List.length_reverse]; have h0 : P.length = l := HPn.out; show P.length + 1 ≤ _; omega) HZ7.out (fun v2 W9 ho9 hg9 => ?_)
        have HV9 := hide (HV7.out.grown hg9 (app_below HV7.out.k HO7.out HB2.out.2.2.2 hg9) (fun q hq => own_off HO7.out (off_all (x := yq) (y := b0 + 1) (z := b0) rfl HB2.out.2.2.1 HB2.out.2.1 HB2.out.1 q hq)))
        have HO9 := hide ho9.snoc
        refine hK.out _ _ ((HV9.out.row 0 rfl).c) (fun hS => ?_)
        clear hK Kt ho9 hg9 HV7 HO7
        simp only [Act.put, List.getElem_toArray, List.getElem_cons_zero, List.getElem_cons_succ, List.setIfInBounds_toArray, List.set_cons_zero, List.set_cons_succ]
        refine wpAnyH_ready (rs := [6]) (by kernel_rfl) (by simp) (AllReadyH.cons rfl (fun Kt hK => ?_) AllReadyH.nil)
        refine wanted_pos rfl ?_
        refine HV9.out.wpPutH 1 rfl (by rfl) (by rfl) rfl (fun W10 hw10 hv10 => ?_)
        have HV10 := hide hv10
        have HO10 : Hid (OQ W10 W2.heap.size v2 (p :: P).reverse) := hide (by rw [hw10]; exact HO9.out.set HB2.out.2.1 _ _)
        clear hw10 hv10 HO9 HV9
        refine hK.out _ _ ((HV10.out.row 0 rfl).c) (fun hS => ?_)
        clear hK Kt
        simp only [Act.put, List.getElem_toArray, List.getElem_cons_zero, List.getElem_cons_succ]
        refine wpAnyH_take (i := 7) (v := v2) rfl (by kernel_rfl) (by kernel_rfl) (by kernel_rfl) (fun _ _ _ h => h) (Or.inl ⟨by rfl, fun w' _ => by go_simp⟩) hS ?_
        simp only [Act.put, List.getElem_toArray, List.getElem_cons_zero, List.getElem_cons_succ, List.setIfInBounds_toArray, List.set_cons_zero, List.set_cons_succ]
        refine wpAnyH_done (by kernel_rfl) ?_ _
        refine NoPanic.normal ?_
        go_wp2_with fail
        exact bodyPost_ret (results_cell_tmp Tryd.results35 _ _ (b0 + 1) (ab g2 32) _ rfl (HV10.out.row 1 rfl).c Tryd.underlying24 rfl (ilH _) rfl) rfl ⟨_, by rw [HR.out], by rw [HR.out]; exact HO10.out.base HB2.out.2.2.2, by first | exact HV10.out.k | (rw [hb0]; exact HV10.out.k)⟩
      · refine wanted_pos rfl ?_
        refine wp_oneQ (q := p) rfl (by rfl) (fun pb W6 hpl hb => ?_)
        have HV6 := hide (HVf.out.keep hb)
        have HO6 := hide (HOf.out.keep hb)
        have HZ6 : Hid (W2.heap.size ≤ W6.heap.size) := hide (Nat.le_trans HZ5.out hb.size)
        have HPL6 := hide hpl
        clear HVf HOf hpl
        refine hK.out _ _ ((HV6.out.row 0 rfl).c) (fun hS => ?_)
        clear hK Kt hb
        simp only [Act.put, List.getElem_toArray, List.getElem_cons_zero, List.getElem_cons_succ, List.setIfInBounds_toArray, List.set_cons_zero, List.set_cons_succ]
        refine wpAnyH_ready (rs := [1]) (by kernel_rfl) (by simp) (AllReadyH.cons rfl (fun Kt hK => ?_) AllReadyH.nil)
        refine wanted_pos rfl ?_
        refine wp_call (R := fun r w' => r = .agg (ab g2 32).toArray ∧ Below W6.heap.size W6 w') (vs := #[pval p]) rfl (by simp only [List.map_toArray, List.map_cons, List.map_nil]; rfl) (by go_simp) (Calls.mono (HPr.out W6 HV6.out.k) (fun e w' h => ⟨_, h.1, rfl, h.2⟩)) (fun r W7 hr => ?_)
        obtain ⟨rfl, hb⟩ := hr
        have hb7 := hide hb
        have HV7 := hide (HV6.out.keep hb)
        have HO7 := hide (HO6.out.keep hb)
        have HZ7 : Hid (W2.heap.size ≤ W7.heap.size) := hide (Nat.le_trans HZ6.out hb.size)
        clear HV6 HO6
        refine hK.out _ _ ((HV7.out.row 0 rfl).c) (fun hS => ?_)
        clear hK Kt hb
        simp only [Act.put, List.getElem_toArray, List.getElem_cons_zero, List.getElem_cons_succ, List.setIfInBounds_toArray, List.set_cons_zero, List.set_cons_succ]
        refine wpAnyH_ready (rs := [5]) (by kernel_rfl) (by simp) (AllReadyH.cons rfl (fun Kt hK => ?_) AllReadyH.nil)
        refine wanted_pos rfl ?_
        refine wp_appQ _ _ rfl (by rfl) HO7.out (by rfl) rfl (HPL6.out.keep hb7.out) (by rw [List.length_reverse]; have h0 : P.length = l := HPn.out; show P.length + 1 ≤ _; omega) HZ7.out (fun v2 W9 ho9 hg9 => ?_)
        have HV9 := hide (HV7.out.grown hg9 (app_below HV7.out.k HO7.out HB2.out.2.2.2 hg9) (fun q hq => own_off HO7.out (off_all (x := yq) (y := b0 + 1) (z := b0) rfl HB2.out.2.2.1 HB2.out.2.1 HB2.out.1 q hq)))
        have HO9 := hide ho9.snoc
        refine hK.out _ _ ((HV9.out.row 0 rfl).c) (fun hS => ?_)
        clear hK Kt ho9 hg9 HV7 HO7
        simp only [Act.put, List.getElem_toArray, List.getElem_cons_zero, List.getElem_cons_succ, List.setIfInBounds_toArray, List.set_cons_zero, List.set_cons_succ]
        refine wpAnyH_ready (rs := [6]) (by kernel_rfl) (by simp) (AllReadyH.cons rfl (fun Kt hK => ?_) AllReadyH.nil)
        refine wanted_pos rfl ?_
        refine HV9.out.wpPutH 1 rfl (by rfl) (by rfl) rfl (fun W10 hw10 hv10 => ?_)
        have HV10 := hide hv10
        have HO10 : Hid (OQ W10 W2.heap.size v2 (p :: P).reverse) := hide (by rw [hw10]; exact HO9.out.set HB2.out.2.1 _ _)
        clear hw10 hv10 HO9 HV9
        refine hK.out _ _ ((HV10.out.row 0 rfl).c) (fun hS => ?_)
        clear hK Kt
        simp only [Act.put, List.getElem_toArray, List.getElem_cons_zero, List.getElem_cons_succ]
        refine wpAnyH_take (i := 7) (v := v2) rfl (by kernel_rfl) (by kernel_rfl) (by kernel_rfl) (fun _ _ _ h => h) (Or.inl ⟨by rfl, fun w' _ => by go_simp⟩) hS ?_
        simp only [Act.put, List.getElem_toArray, List.getElem_cons_zero, List.getElem_cons_succ, List.setIfInBounds_toArray, List.set_cons_zero, List.set_cons_succ]
        refine wpAnyH_done (by kernel_rfl) ?_ _
        refine NoPanic.normal ?_
        go_wp2_with fail
        exact bodyPost_ret (results_cell_tmp Tryd.results35 _ _ (b0 + 1) (ab g2 32) _ rfl (HV10.out.row 1 rfl).c Tryd.underlying24 rfl (ilH _) rfl) rfl ⟨_, by rw [HR.out], by rw [HR.out]; exact HO10.out.base HB2.out.2.2.2, by first | exact HV10.out.k | (rw [hb0]; exact HV10.out.k)⟩
    · have hk' : ¬ ((m : Int) < (k : Int)) := by omega
      have HR := hide (HEu.out hk)
      clear HEl HEu
      go_upto_region 8 with fail
      have HVd := hide HVn.out.drew
      obtain ⟨da, hda⟩ : ∃ d, m - k = d := ⟨_, rfl⟩
      obtain ⟨db, hdb⟩ : ∃ d, n - k = d := ⟨_, rfl⟩
      rw [hda, hdb] at HR
      have hd1 : (m : Int) - (k : Int) = (da : Int) := by omega
      have hd2 : (n : Int) - (k : Int) = (db : Int) := by omega
      have hd3 : da ≤ 1000000 := by omega
      have hd4 : db ≤ 1000000 := by omega
      have hd5 : IntKind.i64.wrap (da : Int) = (da : Int) := by rw [IntKind.wrap_i64]; omega
      have hd6 : IntKind.i64.wrap (db : Int) = (db : Int) := by rw [IntKind.wrap_i64]; omega
      clear hda hdb
      refine wp_region_noPanic ?_
      refine wp_region_held_drew (S := fun W => W.rangeAt b0 0 (ab f 32)) (by kernel_rfl) (HVd.out.row 2 rfl).c (fun hS => ?_)
      refine wpAnyH_take (i := 0) (v := .int .i64 (m : Int)) rfl (by kernel_rfl) (by kernel_rfl) (by kernel_rfl) (fun _ _ _ h => h) (Or.inl ⟨by rfl, fun w' _ => by go_simp⟩) hS ?_
      simp only [Act.put, List.getElem_toArray, List.getElem_cons_zero, List.setIfInBounds_toArray, List.set_cons_zero, List.set_cons_succ]
      refine wpAnyH_take (i := 1) (v := .int .i64 (k : Int)) rfl (by kernel_rfl) (by kernel_rfl) (by kernel_rfl) (fun _ _ _ h => h) (Or.inl ⟨by rfl, fun w' _ => by go_simp⟩) hS ?_
      simp only [Act.put, List.getElem_toArray, List.getElem_cons_zero, List.getElem_cons_succ, List.setIfInBounds_toArray, List.set_cons_zero, List.set_cons_succ]
      refine wpAnyH_take (i := 2) (v := .int .i64 (da : Int)) rfl (by kernel_rfl) (by kernel_rfl) (by kernel_rfl) (fun _ _ _ h => h) (Or.inl ⟨by rfl, fun w' _ => by go_simp⟩) hS ?_
      simp only [Act.put, List.getElem_toArray, List.getElem_cons_zero, List.getElem_cons_succ, List.setIfInBounds_toArray, List.set_cons_zero, List.set_cons_succ]
      refine wpAnyH_take (i := 3) (v := .int .i64 (n : Int)) rfl (by kernel_rfl) (by kernel_rfl) (by kernel_rfl) (fun _ _ _ h => h) (Or.inl ⟨by rfl, fun w' _ => by go_simp⟩) hS ?_
      simp only [Act.put, List.getElem_toArray, List.getElem_cons_zero, List.getElem_cons_succ, List.setIfInBounds_toArray, List.set_cons_zero, List.set_cons_succ]
      refine wpAnyH_take (i := 4) (v := .int .i64 (k : Int)) rfl (by kernel_rfl) (by kernel_rfl) (by kernel_rfl) (fun _ _ _ h => h) (Or.inl ⟨by rfl, fun w' _ => by go_simp⟩) hS ?_
      simp only [Act.put, List.getElem_toArray, List.getElem_cons_zero, List.getElem_cons_succ, List.setIfInBounds_toArray, List.set_cons_zero, List.set_cons_succ]
      refine wpAnyH_take (i := 5) (v := .int .i64 (db : Int)) rfl (by kernel_rfl) (by kernel_rfl) (by kernel_rfl) (fun _ _ _ h => h) (Or.inl ⟨by rfl, fun w' _ => by go_simp⟩) hS ?_
      simp only [Act.put, List.getElem_toArray, List.getElem_cons_zero, List.getElem_cons_succ, List.setIfInBounds_toArray, List.set_cons_zero, List.set_cons_succ]
      refine wpAnyH_take (i := 6) (v := .agg (ab f 32).toArray) rfl (by kernel_rfl) (by kernel_rfl) (by kernel_rfl) (fun _ _ _ h => h) (yieldsIf_load_mid (by rfl) 24 _ rfl b0 (0) (by rfl) (ab f 32) _ (fun w' hS => hS) Tryd.underlying24 rfl (ilH _)) hS ?_
      simp only [Act.put, List.getElem_toArray, List.getElem_cons_zero, List.getElem_cons_succ, List.setIfInBounds_toArray, List.set_cons_zero, List.set_cons_succ]
      refine wpAnyH_take (i := 7) (v := .slice (some ⟨b, o, none⟩) s c) rfl (by kernel_rfl) (by kernel_rfl) (by kernel_rfl) (fun _ _ _ h => h) (Or.inl ⟨by rfl, fun w' _ => by go_simp⟩) hS ?_
      simp only [Act.put, List.getElem_toArray, List.getElem_cons_zero, List.getElem_cons_succ, List.setIfInBounds_toArray, List.set_cons_zero, List.set_cons_succ]
      refine wpAnyH_take (i := 8) (v := .int .i64 (l : Int)) rfl (by kernel_rfl) (by kernel_rfl) (by kernel_rfl) (fun _ _ _ h => h) (Or.inl ⟨by rfl, fun w' _ => by go_simp⟩) hS ?_
      simp only [Act.put, List.getElem_toArray, List.getElem_cons_zero, List.getElem_cons_succ, List.setIfInBounds_toArray, List.set_cons_zero, List.set_cons_succ]
      refine wpAnyH_take (i := 9) (v := .slice (some ⟨b, o, none⟩) l c) rfl (by kernel_rfl) (by kernel_rfl) (by kernel_rfl) (fun _ _ _ h => h) (Or.inl ⟨by rfl, fun w' _ => by go_simp⟩) hS ?_
      simp only [Act.put, List.getElem_toArray, List.getElem_cons_zero, List.getElem_cons_succ, List.setIfInBounds_toArray, List.set_cons_zero, List.set_cons_succ]
      have HC := hide (IH.out W2.drew db da HVd.out.k (by omega) (by omega))
      have HPn := hide (rs_len f (rv G l) db da)
      rw [rv_len] at HPn
      have HLt := hide (rs_lt HF.out (rv G l) db da HGa.out)
      obtain ⟨R1, hR1⟩ : ∃ R1, rs f (rv G l) db da = R1 := ⟨_, rfl⟩
      rw [hR1] at HC HLt HR HPn
      obtain ⟨y1, P⟩ := R1
      clear hR1 IH HGa
      refine wpAnyH_ready (rs := [10]) (by kernel_rfl) (by simp) (AllReadyH.cons rfl (fun Kt hK => ?_) AllReadyH.nil)
      refine wanted_pos rfl ?_
      refine wp_call (R := fun r w' => ∃ v, r = .tuple #[.agg (ab y1 32).toArray, v] ∧ OQ w' W2.heap.size v P.reverse ∧ Below W2.heap.size W2.drew w') (vs := #[.int .i64 (da : Int), .int .i64 (db : Int), .agg (ab f 32).toArray, .slice (some ⟨b, o, none⟩) l c]) rfl (by simp only [List.map_toArray, List.map_cons, List.map_nil]; rfl) (by go_simp) (Calls.mono HC.out (fun e w' h => by obtain ⟨v, he, ho, hb⟩ := h; exact ⟨_, he, v, rfl, ho, hb⟩)) (fun r W3 hr => ?_)
      obtain ⟨v1, rfl, ho3, hb3⟩ := hr
      clear HC
      have HV3 := hide (HVd.out.keep hb3)
      have HO3 := hide ho3
      have HZ3 : Hid (W2.heap.size ≤ W3.heap.size) := hide hb3.size
      have HB2 : Hid (b0 < W2.heap.size ∧ b0 + 1 < W2.heap.size ∧ yq < W2.heap.size ∧ w.heap.size ≤ W2.heap.size) := hide ⟨(HVn.out.row 2 rfl).lt, (HVn.out.row 1 rfl).lt, (HVn.out.row 0 rfl).lt, HVn.out.k.size⟩
      clear ho3
      refine hK.out _ _ (range_keep hS hb3) (fun hS => ?_)
      clear hK Kt hb3 HVd HVn
      simp only [Act.put, List.getElem_toArray, List.getElem_cons_zero, List.getElem_cons_succ, List.setIfInBounds_toArray, List.set_cons_zero, List.set_cons_succ]
      refine wpAnyH_take (i := 11) (v := .tuple #[.agg (ab y1 32).toArray, v1]) rfl (by kernel_rfl) (by kernel_rfl) (by kernel_rfl) (fun _ _ _ h => h) (Or.inl ⟨by rfl, fun w' _ => by go_simp⟩) hS ?_
      simp only [Act.put, List.getElem_toArray, List.getElem_cons_zero, List.getElem_cons_succ, List.setIfInBounds_toArray, List.set_cons_zero, List.set_cons_succ]
      refine wpAnyH_take (i := 12) (v := .agg (ab y1 32).toArray) rfl (by kernel_rfl) (by kernel_rfl) (by kernel_rfl) (fun _ _ _ h => h) (Or.inl ⟨by rfl, fun w' _ => by go_simp⟩) hS ?_
      simp only [Act.put, List.getElem_toArray, List.getElem_cons_zero, List.getElem_cons_succ, List.setIfInBounds_toArray, List.set_cons_zero, List.set_cons_succ]
      refine wpAnyH_take (i := 13) (v := v1) rfl (by kernel_rfl) (by kernel_rfl) (by kernel_rfl) (fun _ _ _ h => h) (Or.inl ⟨by rfl, fun w' _ => by go_simp⟩) hS ?_
      simp only [Act.put, List.getElem_toArray, List.getElem_cons_zero, List.getElem_cons_succ, List.setIfInBounds_toArray, List.set_cons_zero, List.set_cons_succ]
      refine wpAnyH_ready (rs := [14]) (by kernel_rfl) (by simp) (AllReadyH.cons rfl (fun Kt hK => ?_) AllReadyH.nil)
      refine wanted_pos rfl ?_
      refine HV3.out.wpPutH 1 rfl (by rfl) (by rfl) rfl (fun W4 hw4 hv4 => ?_)
      have HV4 := hide hv4
      have HO4 : Hid (OQ W4 W2.heap.size v1 P.reverse) := hide (by rw [hw4]; exact HO3.out.set HB2.out.2.1 _ _)
      have HZ4 : Hid (W2.heap.size ≤ W4.heap.size) := hide (by rw [hw4, size_setCells]; exact HZ3.out)
      clear hw4 HZ3 HO3 HV3 hv4
      refine hK.out _ _ ((HV4.out.row 2 rfl).c) (fun hS => ?_)
      clear hK Kt
      simp only [Act.put, List.getElem_toArray, List.getElem_cons_zero, List.getElem_cons_succ]
      refine wpAnyH_take (i := 15) (v := v1) rfl (by kernel_rfl) (by kernel_rfl) (by kernel_rfl) (fun _ _ _ h => h) (Or.inl ⟨by rfl, fun w' _ => by go_simp⟩) hS ?_
      simp only [Act.put, List.getElem_toArray, List.getElem_cons_zero, List.getElem_cons_succ, List.setIfInBounds_toArray, List.set_cons_zero, List.set_cons_succ]
      refine wpAnyH_done (by kernel_rfl) ?_ _
      refine NoPanic.normal ?_
      clear hS
      go_upto_region 9 with fail
      have HVe := hide HV4.out.drew
      have HOe := hide (HO4.out.keep (Go.Proofs.YtpokecijongkpaaDoor.K.drew (Below.refl _ _)))
      refine wp_region_noPanic ?_
      refine wp_region_held_drew (S := fun W => W.rangeAt (b0 + 1) 0 (ab y1 32) ∧ W.rangeAt b (o + l * 32) (ab (G l) 32)) (by kernel_rfl) ⟨(HVe.out.row 1 rfl).c, range_keep HRl.out HVe.out.k⟩ (fun hS => ?_)
      refine wpAnyH_take (i := 0) (v := .slice (some ⟨b, o, none⟩) s c) rfl (by kernel_rfl) (by kernel_rfl) (by kernel_rfl) (fun _ _ _ h => h) (Or.inl ⟨by rfl, fun w' _ => by go_simp⟩) hS ?_
      simp only [Act.put, List.getElem_toArray, List.getElem_cons_zero, List.setIfInBounds_toArray, List.set_cons_zero, List.set_cons_succ]
      refine wpAnyH_take (i := 1) (v := .int .i64 (l : Int)) rfl (by kernel_rfl) (by kernel_rfl) (by kernel_rfl) (fun _ _ _ h => h) (Or.inl ⟨by rfl, fun w' _ => by go_simp⟩) hS ?_
      simp only [Act.put, List.getElem_toArray, List.getElem_cons_zero, List.getElem_cons_succ, List.setIfInBounds_toArray, List.set_cons_zero, List.set_cons_succ]
      refine wpAnyH_take (i := 2) (v := .pointer (some ⟨b, o + l * 32, none⟩)) rfl (by kernel_rfl) (by kernel_rfl) (by kernel_rfl) (fun _ _ _ h => h) (Or.inl ⟨by rfl, fun w' _ => by go_simp⟩) hS ?_
      simp only [Act.put, List.getElem_toArray, List.getElem_cons_zero, List.getElem_cons_succ, List.setIfInBounds_toArray, List.set_cons_zero, List.set_cons_succ]
      refine wpAnyH_take (i := 3) (v := .agg (ab (G l) 32).toArray) rfl (by kernel_rfl) (by kernel_rfl) (by kernel_rfl) (fun _ _ _ h => h) (yieldsIf_load_mid (by rfl) 24 _ rfl b (o + l * 32) (by rfl) (ab (G l) 32) _ (fun w' hS => hS.2) Tryd.underlying24 rfl (ilH _)) hS ?_
      simp only [Act.put, List.getElem_toArray, List.getElem_cons_zero, List.getElem_cons_succ, List.setIfInBounds_toArray, List.set_cons_zero, List.set_cons_succ]
      refine wpAnyH_take (i := 4) (v := .agg (ab y1 32).toArray) rfl (by kernel_rfl) (by kernel_rfl) (by kernel_rfl) (fun _ _ _ h => h) (yieldsIf_load_mid (by rfl) 24 _ rfl (b0 + 1) (0) (by rfl) (ab y1 32) _ (fun w' hS => hS.1) Tryd.underlying24 rfl (ilH _)) hS ?_
      simp only [Act.put, List.getElem_toArray, List.getElem_cons_zero, List.getElem_cons_succ, List.setIfInBounds_toArray, List.set_cons_zero, List.set_cons_succ]
      refine wpAnyH_take (i := 5) (v := pval (G l, y1)) rfl (by kernel_rfl) (by kernel_rfl) (by kernel_rfl) (fun _ _ _ h => h) (yieldsIf_build_q (by rfl) _ _ rfl (by rfl) (by rfl)) hS ?_
      simp only [Act.put, List.getElem_toArray, List.getElem_cons_zero, List.getElem_cons_succ, List.setIfInBounds_toArray, List.set_cons_zero, List.set_cons_succ]
      refine wpAnyH_ready (rs := [6]) (by kernel_rfl) (by simp) (AllReadyH.cons rfl (fun Kt hK => ?_) AllReadyH.nil)
      refine wanted_pos rfl ?_
      refine HVe.out.wpPutQ 0 rfl (by rfl) (by rfl) rfl (fun W5 hw5 hv5 => ?_)
      have HV5 := hide hv5
      have HO5 : Hid (OQ W5 W2.heap.size v1 P.reverse) := hide (by rw [hw5]; exact HOe.out.set HB2.out.2.2.1 _ _)
      have HZ5 : Hid (W2.heap.size ≤ W5.heap.size) := hide (by rw [hw5, size_setCells]; exact HZ4.out)
      clear hw5 HZ4 HOe HVe hv5 HV4 HO4
      refine hK.out _ _ (⟨(HV5.out.row 1 rfl).c, range_keep HRl.out HV5.out.k⟩) (fun hS => ?_)
      clear hK Kt
      simp only [Act.put, List.getElem_toArray, List.getElem_cons_zero, List.getElem_cons_succ]
      refine wpAnyH_done (by kernel_rfl) ?_ _
      refine NoPanic.normal ?_
      clear hS
      go_upto_region 10 with fail
      have HVf := hide HV5.out.drew
      have HOf := hide (HO5.out.keep (Go.Proofs.YtpokecijongkpaaDoor.K.drew (Below.refl _ _)))
      obtain ⟨p, hp⟩ : ∃ p : HP, (G l, y1) = p := ⟨_, rfl⟩
      have HPr : Hid (∀ W, Below w.heap.size w W → Calls Tryd.prog 50 #[pval p] W fun e w' => e = .returned (.agg (ab (nd (G l) y1) 32).toArray) ∧ Below W.heap.size W w') := hide (fun W hb => by rw [← hp]; exact pairHash_any (q := (G l, y1)) (HT.out.keep hb) HGl.out HLt.out.1)
      rw [hp] at HVf HR
      obtain ⟨g2, hg2⟩ : ∃ g2, nd (G l) y1 = g2 := ⟨_, rfl⟩
      simp only [] at HR
      rw [hg2] at HPr HR
      clear hp hg2
      refine wp_region_noPanic ?_
      refine wp_region_held_drew (S := fun W => W.rangeAt yq 0 (pq p)) (by kernel_rfl) (HVf.out.row 0 rfl).c (fun hS => ?_)
      refine wpAnyH_take (i := 0) (v := pval p) rfl (by kernel_rfl) (by kernel_rfl) (by kernel_rfl) (fun _ _ _ h => h) (yieldsIf_load_mid (by rfl) 78 _ rfl yq 0 (by rfl) (pq p) _ (fun w' hS => hS) Tryd.underlying78 rfl (ilQ _)) hS ?_
      simp only [Act.put, List.getElem_toArray, List.getElem_cons_zero, List.setIfInBounds_toArray, List.set_cons_zero, List.set_cons_succ]
      refine wpAnyH_take (i := 2) (v := v1) rfl (by kernel_rfl) (by kernel_rfl) (by kernel_rfl) (fun _ _ _ h => h) (Or.inl ⟨by rfl, fun w' _ => by go_simp⟩) hS ?_
      simp only [Act.put, List.getElem_toArray, List.getElem_cons_zero, List.getElem_cons_succ, List.setIfInBounds_toArray, List.set_cons_zero, List.set_cons_succ]
      refine wpAnyH_take (i := 3) (v := pval p) rfl (by kernel_rfl) (by kernel_rfl) (by kernel_rfl) (fun _ _ _ h => h) (yieldsIf_load_mid (by rfl) 78 _ rfl yq 0 (by rfl) (pq p) _ (fun w' hS => hS) Tryd.underlying78 rfl (ilQ _)) hS ?_
      simp only [Act.put, List.getElem_toArray, List.getElem_cons_zero, List.getElem_cons_succ, List.setIfInBounds_toArray, List.set_cons_zero, List.set_cons_succ]
      refine wpAnyH_ready (rs := [1, 4]) (by kernel_rfl) (by simp) (AllReadyH.cons rfl (fun Kt hK => ?_) (AllReadyH.cons rfl (fun Kt hK => ?_) AllReadyH.nil))
      · refine wanted_pos rfl ?_
        refine wp_call (R := fun r w' => r = .agg (ab g2 32).toArray ∧ Below W5.drew.heap.size W5.drew w') (vs := #[pval p]) rfl (by simp only [List.map_toArray, List.map_cons, List.map_nil]; rfl) (by go_simp) (Calls.mono (HPr.out W5.drew HVf.out.k) (fun e w' h => ⟨_, h.1, rfl, h.2⟩)) (fun r W6 hr => ?_)
        obtain ⟨rfl, hb⟩ := hr
        have HV6 := hide (HVf.out.keep hb)
        have HO6 := hide (HOf.out.keep hb)
        have HZ6 : Hid (W2.heap.size ≤ W6.heap.size) := hide (Nat.le_trans HZ5.out hb.size)
        clear HVf HOf
        refine hK.out _ _ ((HV6.out.row 0 rfl).c) (fun hS => ?_)
        clear hK Kt hb
        simp only [Act.put, List.getElem_toArray, List.getElem_cons_zero, List.getElem_cons_succ, List.setIfInBounds_toArray, List.set_cons_zero, List.set_cons_succ]
        refine wpAnyH_ready (rs := [4]) (by kernel_rfl) (by simp) (AllReadyH.cons rfl (fun Kt hK => ?_) AllReadyH.nil)
        refine wanted_pos rfl ?_
        refine wp_oneQ (q := p) rfl (by rfl) (fun pb W7 hpl hb => ?_)
        have HV7 := hide (HV6.out.keep hb)
        have HO7 := hide (HO6.out.keep hb)
        have HZ7 : Hid (W2.heap.size ≤ W7.heap.size) := hide (Nat.le_trans HZ6.out hb.size)
        have HPL7 := hide hpl
        clear HV6 HO6 hpl
        refine hK.out _ _ ((HV7.out.row 0 rfl).c) (fun hS => ?_)
        clear hK Kt hb
        simp only [Act.put, List.getElem_toArray, List.getElem_cons_zero, List.getElem_cons_succ, List.setIfInBounds_toArray, List.set_cons_zero, List.set_cons_succ]
        refine wpAnyH_ready (rs := [5]) (by kernel_rfl) (by simp) (AllReadyH.cons rfl (fun Kt hK => ?_) AllReadyH.nil)
        refine wanted_pos rfl ?_
        refine wp_appQ _ _ rfl (by rfl) HO7.out (by rfl) rfl HPL7.out (by rw [List.length_reverse]; have h0 : P.length = l := HPn.out; show P.length + 1 ≤ _; omega) HZ7.out (fun v2 W9 ho9 hg9 => ?_)
        have HV9 := hide (HV7.out.grown hg9 (app_below HV7.out.k HO7.out HB2.out.2.2.2 hg9) (fun q hq => own_off HO7.out (off_all (x := yq) (y := b0 + 1) (z := b0) rfl HB2.out.2.2.1 HB2.out.2.1 HB2.out.1 q hq)))
        have HO9 := hide ho9.snoc
        refine hK.out _ _ ((HV9.out.row 0 rfl).c) (fun hS => ?_)
        clear hK Kt ho9 hg9 HV7 HO7
        simp only [Act.put, List.getElem_toArray, List.getElem_cons_zero, List.getElem_cons_succ, List.setIfInBounds_toArray, List.set_cons_zero, List.set_cons_succ]
        refine wpAnyH_ready (rs := [6]) (by kernel_rfl) (by simp) (AllReadyH.cons rfl (fun Kt hK => ?_) AllReadyH.nil)
        refine wanted_pos rfl ?_
        refine HV9.out.wpPutH 1 rfl (by rfl) (by rfl) rfl (fun W10 hw10 hv10 => ?_)
        have HV10 := hide hv10
        have HO10 : Hid (OQ W10 W2.heap.size v2 (p :: P).reverse) := hide (by rw [hw10]; exact HO9.out.set HB2.out.2.1 _ _)
        clear hw10 hv10 HO9 HV9
        refine hK.out _ _ ((HV10.out.row 0 rfl).c) (fun hS => ?_)
        clear hK Kt
        simp only [Act.put, List.getElem_toArray, List.getElem_cons_zero, List.getElem_cons_succ]
        refine wpAnyH_take (i := 7) (v := v2) rfl (by kernel_rfl) (by kernel_rfl) (by kernel_rfl) (fun _ _ _ h => h) (Or.inl ⟨by rfl, fun w' _ => by go_simp⟩) hS ?_
        simp only [Act.put, List.getElem_toArray, List.getElem_cons_zero, List.getElem_cons_succ, List.setIfInBounds_toArray, List.set_cons_zero, List.set_cons_succ]
        refine wpAnyH_done (by kernel_rfl) ?_ _
        refine NoPanic.normal ?_
        go_wp2_with fail
        exact bodyPost_ret (results_cell_tmp Tryd.results35 _ _ (b0 + 1) (ab g2 32) _ rfl (HV10.out.row 1 rfl).c Tryd.underlying24 rfl (ilH _) rfl) rfl ⟨_, by rw [HR.out], by rw [HR.out]; exact HO10.out.base HB2.out.2.2.2, by first | exact HV10.out.k | (rw [hb0]; exact HV10.out.k)⟩
      · refine wanted_pos rfl ?_
        refine wp_oneQ (q := p) rfl (by rfl) (fun pb W6 hpl hb => ?_)
        have HV6 := hide (HVf.out.keep hb)
        have HO6 := hide (HOf.out.keep hb)
        have HZ6 : Hid (W2.heap.size ≤ W6.heap.size) := hide (Nat.le_trans HZ5.out hb.size)
        have HPL6 := hide hpl
        clear HVf HOf hpl
        refine hK.out _ _ ((HV6.out.row 0 rfl).c) (fun hS => ?_)
        clear hK Kt hb
        simp only [Act.put, List.getElem_toArray, List.getElem_cons_zero, List.getElem_cons_succ, List.setIfInBounds_toArray, List.set_cons_zero, List.set_cons_succ]
        refine wpAnyH_ready (rs := [1]) (by kernel_rfl) (by simp) (AllReadyH.cons rfl (fun Kt hK => ?_) AllReadyH.nil)
        refine wanted_pos rfl ?_
        refine wp_call (R := fun r w' => r = .agg (ab g2 32).toArray ∧ Below W6.heap.size W6 w') (vs := #[pval p]) rfl (by simp only [List.map_toArray, List.map_cons, List.map_nil]; rfl) (by go_simp) (Calls.mono (HPr.out W6 HV6.out.k) (fun e w' h => ⟨_, h.1, rfl, h.2⟩)) (fun r W7 hr => ?_)
        obtain ⟨rfl, hb⟩ := hr
        have hb7 := hide hb
        have HV7 := hide (HV6.out.keep hb)
        have HO7 := hide (HO6.out.keep hb)
        have HZ7 : Hid (W2.heap.size ≤ W7.heap.size) := hide (Nat.le_trans HZ6.out hb.size)
        clear HV6 HO6
        refine hK.out _ _ ((HV7.out.row 0 rfl).c) (fun hS => ?_)
        clear hK Kt hb
        simp only [Act.put, List.getElem_toArray, List.getElem_cons_zero, List.getElem_cons_succ, List.setIfInBounds_toArray, List.set_cons_zero, List.set_cons_succ]
        refine wpAnyH_ready (rs := [5]) (by kernel_rfl) (by simp) (AllReadyH.cons rfl (fun Kt hK => ?_) AllReadyH.nil)
        refine wanted_pos rfl ?_
        refine wp_appQ _ _ rfl (by rfl) HO7.out (by rfl) rfl (HPL6.out.keep hb7.out) (by rw [List.length_reverse]; have h0 : P.length = l := HPn.out; show P.length + 1 ≤ _; omega) HZ7.out (fun v2 W9 ho9 hg9 => ?_)
        have HV9 := hide (HV7.out.grown hg9 (app_below HV7.out.k HO7.out HB2.out.2.2.2 hg9) (fun q hq => own_off HO7.out (off_all (x := yq) (y := b0 + 1) (z := b0) rfl HB2.out.2.2.1 HB2.out.2.1 HB2.out.1 q hq)))
        have HO9 := hide ho9.snoc
        refine hK.out _ _ ((HV9.out.row 0 rfl).c) (fun hS => ?_)
        clear hK Kt ho9 hg9 HV7 HO7
        simp only [Act.put, List.getElem_toArray, List.getElem_cons_zero, List.getElem_cons_succ, List.setIfInBounds_toArray, List.set_cons_zero, List.set_cons_succ]
        refine wpAnyH_ready (rs := [6]) (by kernel_rfl) (by simp) (AllReadyH.cons rfl (fun Kt hK => ?_) AllReadyH.nil)
        refine wanted_pos rfl ?_
        refine HV9.out.wpPutH 1 rfl (by rfl) (by rfl) rfl (fun W10 hw10 hv10 => ?_)
        have HV10 := hide hv10
        have HO10 : Hid (OQ W10 W2.heap.size v2 (p :: P).reverse) := hide (by rw [hw10]; exact HO9.out.set HB2.out.2.1 _ _)
        clear hw10 hv10 HO9 HV9
        refine hK.out _ _ ((HV10.out.row 0 rfl).c) (fun hS => ?_)
        clear hK Kt
        simp only [Act.put, List.getElem_toArray, List.getElem_cons_zero, List.getElem_cons_succ]
        refine wpAnyH_take (i := 7) (v := v2) rfl (by kernel_rfl) (by kernel_rfl) (by kernel_rfl) (fun _ _ _ h => h) (Or.inl ⟨by rfl, fun w' _ => by go_simp⟩) hS ?_
        simp only [Act.put, List.getElem_toArray, List.getElem_cons_zero, List.getElem_cons_succ, List.setIfInBounds_toArray, List.set_cons_zero, List.set_cons_succ]
        refine wpAnyH_done (by kernel_rfl) ?_ _
        refine NoPanic.normal ?_
        go_wp2_with fail
        exact bodyPost_ret (results_cell_tmp Tryd.results35 _ _ (b0 + 1) (ab g2 32) _ rfl (HV10.out.row 1 rfl).c Tryd.underlying24 rfl (ilH _) rfl) rfl ⟨_, by rw [HR.out], by rw [HR.out]; exact HO10.out.base HB2.out.2.2.2, by first | exact HV10.out.k | (rw [hb0]; exact HV10.out.k)⟩
end Go.Proofs.YtpokecijongkpaaDoor
