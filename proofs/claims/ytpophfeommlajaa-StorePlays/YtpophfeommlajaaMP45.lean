/- Layer 15, pure: what the calls of a store do; disks without a fuse. Layer 15: the program's store as the laws look at it. Layer 15: the document's store as the laws look at it. Layer 15: the document's Open as the laws look at it. -/
import Derived.Test.YtpophfeommlajaaMP43
import Derived.Test.YtpophfeommlajaaMP30
import Derived.Test.YtpophfeommlajaaMP44
namespace Go.Proofs.Ytpophfeommlajaa

theorem md2_free {D : DM} (h : D.free) {a : Nat} (ha : a + 2 < D.n) {B : Nat → List Nat} {v : List Nat} (hv : sec v) : ∀ j, j ≤ 3 → (md2 D a B v j).2 = 0 ∧ (md2 D a B v j).1.free ∧ (md2 D a B v j).1.n = D.n
  | 0, _ => ⟨rfl, h, rfl⟩
  | j + 1, hj => by
    obtain ⟨e, h1, h2⟩ := md2_free h ha hv (B := B) j (by omega)
    by_cases hb : B j = v
    · have es : md2 D a B v (j + 1) = md2 D a B v j := (if_pos e).trans (if_pos hb)
      rw [es]
      exact ⟨e, h1, h2⟩
    · have es : md2 D a B v (j + 1) = ((md2 D a B v j).1.ws ((a : Int) + (j : Int)) v, (md2 D a B v j).1.wsE ((a : Int) + (j : Int)) v) := (if_pos e).trans (if_neg hb)
      have c : ((a : Int) + (j : Int)) = ((a + j : Nat) : Int) := by omega
      rw [es, c]
      obtain ⟨g1, g2, g3, _⟩ := ws_free h1 (i := a + j) (by rw [h2]; omega) hv
      exact ⟨g1, g2, g3.trans h2⟩
theorem mend_free {D : DM} (h : D.free) (ho : D.ok) (hn : 2 < D.n) : D.mendE 0 = 0 ∧ (D.mendD 0).free ∧ (D.mendD 0).n = D.n := by
  have hl : D.ldE 0 = 0 := (ld_free h (a := 0) hn).1
  have e1 : D.mendE 0 = (md2 D 0 (D.three 0) (D.ldB 0) 3).2 := if_pos hl
  have e2 : D.mendD 0 = (md2 D 0 (D.three 0) (D.ldB 0) 3).1 := if_pos hl
  rw [e1, e2]
  exact md2_free h (a := 0) hn (ldB_sec ho hl) 3 (by omega)
theorem apw_free {D : DM} (h : D.free) {p : Nat} {f : Nat → Nat} (hf : ∀ i, f i < 256) {m : Nat} (hm : m ≤ 200) : ∀ j, p + j ≤ D.n → (apw D p f m j).2 = 0 ∧ (apw D p f m j).1.free ∧ (apw D p f m j).1.n = D.n
  | 0, _ => ⟨rfl, h, rfl⟩
  | j + 1, hj => by
    obtain ⟨e, h1, h2⟩ := apw_free h (p := p) hf hm j (by omega)
    rw [apw_step e, show (p : Int) + (j : Int) = ((p + j : Nat) : Int) by omega]
    have hs := esec_sec hf hm j
    obtain ⟨g1, g2, g3, _⟩ := wr_free h1 (i := p + j) (by rw [h2]; omega) hs
    rw [hs.1] at g1
    exact ⟨g1, g2, g3.trans h2⟩
theorem cm_free {D : DM} (h : D.free) (hn : 2 < D.n) (M : List (List Nat)) : (cm D M).2 = 0 ∧ (cm D M).1.free ∧ (cm D M).1.n = D.n := by
  obtain ⟨h1, h2, h3, _⟩ := sy_free' h
  have e : cm D M = sv D.sy 0 (mkv M) 3 := if_pos h1
  rw [e]
  obtain ⟨g1, g2, g3, _⟩ := sv_free h2 (a := 0) (by rw [h3]; exact hn) (mkv_sec M) 3 (by omega)
  exact ⟨g1, g2, g3.trans h3⟩
/-- The errors that there are. -/
theorem wr_06 (D : DM) {i : Nat} (hi : i < D.n) : D.wrE (i : Int) 64 = 0 ∨ D.wrE (i : Int) 64 = 6 := by
  unfold DM.wrE
  split
  · exact Or.inr rfl
  · rw [if_pos (by omega), if_pos rfl]
    split
    · exact Or.inl rfl
    · exact Or.inr rfl
theorem apw_06 (D : DM) (p : Nat) (f : Nat → Nat) (m : Nat) : ∀ j, p + j ≤ D.n → (apw D p f m j).2 = 0 ∨ (apw D p f m j).2 = 6
  | 0, _ => Or.inl rfl
  | j + 1, hj => by
    rcases apw_06 D p f m j (by omega) with e | e
    · rw [apw_step e, show (p : Int) + (j : Int) = ((p + j : Nat) : Int) by omega]
      exact wr_06 _ (by rw [(apw_la D p f m j).2.1]; omega)
    · have es : apw D p f m (j + 1) = apw D p f m j := if_neg (by rw [e]; decide)
      rw [es]
      exact Or.inr e
theorem sy_06 (D : DM) : D.syE = 0 ∨ D.syE = 6 := by
  unfold DM.syE
  split
  · exact Or.inr rfl
  · split
    · exact Or.inl rfl
    · exact Or.inr rfl
theorem sy_n' (D : DM) : D.sy.n = D.n := by
  unfold DM.sy
  split
  · rfl
  · split
    · show D.burn.n = D.n
      exact burn_n D
    · exact burn_n D
theorem ws_06 (D : DM) {i : Nat} (hi : i < D.n) {l : List Nat} (hl : l.length = 64) : D.wsE (i : Int) l = 0 ∨ D.wsE (i : Int) l = 6 := by
  unfold DM.wsE
  split
  · exact sy_06 _
  · rw [hl]
    exact wr_06 D hi
theorem ws_n (D : DM) (i : Int) (l : List Nat) : (D.ws i l).n = D.n := by
  unfold DM.ws
  have h1 := (wr_la' D i l).2
  split
  · rw [sy_n']
    exact h1
  · exact h1
theorem sv_06 (D : DM) {v : List Nat} (hv : v.length = 64) (hn : 2 < D.n) : ∀ j, j ≤ 3 → ((sv D 0 v j).2 = 0 ∨ (sv D 0 v j).2 = 6) ∧ (sv D 0 v j).1.n = D.n
  | 0, _ => ⟨Or.inl rfl, rfl⟩
  | j + 1, hj => by
    obtain ⟨h1, h2⟩ := sv_06 D hv hn j (by omega)
    rcases h1 with e | e
    · have es : sv D 0 v (j + 1) = ((sv D 0 v j).1.ws (0 + (j : Int)) v, (sv D 0 v j).1.wsE (0 + (j : Int)) v) := if_pos e
      rw [es, Int.zero_add]
      exact ⟨ws_06 _ (by rw [h2]; omega) hv, (ws_n _ _ _).trans h2⟩
    · have es : sv D 0 v (j + 1) = sv D 0 v j := if_neg (by rw [e]; decide)
      rw [es]
      exact ⟨Or.inr e, h2⟩
theorem cm_06 (D : DM) (M : List (List Nat)) (hn : 2 < D.n) : ((cm D M).2 = 0 ∨ (cm D M).2 = 6) ∧ (cm D M).1.n = D.n := by
  by_cases hs : D.syE = 0
  · have e : cm D M = sv D.sy 0 (mkv M) 3 := if_pos hs
    have h3 : D.sy.n = D.n := sy_n' D
    rw [e]
    obtain ⟨g1, g2⟩ := sv_06 D.sy (mkv_sec M).1 (by rw [h3]; exact hn) 3 (by omega)
    exact ⟨g1, g2.trans h3⟩
  · rw [cm_not hs]
    exact ⟨sy_06 D, sy_n' D⟩
theorem apw_congr {f h : Nat → Nat} {m : Nat} (e : ∀ i, i < m → f i = h i) (D : DM) (p : Nat) : ∀ j, apw D p f m j = apw D p h m j
  | 0 => rfl
  | j + 1 => by
    show (if (apw D p f m j).2 = 0 then ((apw D p f m j).1.wr ((p + j : Nat) : Int) (esec f m j), (apw D p f m j).1.wrE ((p + j : Nat) : Int) 64) else apw D p f m j) = (if (apw D p h m j).2 = 0 then ((apw D p h m j).1.wr ((p + j : Nat) : Int) (esec h m j), (apw D p h m j).1.wrE ((p + j : Nat) : Int) 64) else apw D p h m j)
    rw [apw_congr e D p j, esec_congr e j]
/-- The model of a store: its disk, what is kept, what waits, whether it is over. -/
structure SM where
  D : DM
  K : List (List Nat)
  W : List (List Nat)
  o : Bool
/-- Append: what it answers, and what it leaves. -/
def apx (s : SM) (l : List Nat) : DM × Int := apw s.D (3 + tks s.K + tks s.W) (fun i => l.getD i 0) l.length (tk l.length)
def SM.apE (s : SM) (l : List Nat) : Int := if s.o then 6 else if 200 < l.length then 4 else if s.D.n < 3 + tks s.K + tks s.W + tk l.length then 5 else (apx s l).2
def SM.ap (s : SM) (l : List Nat) : SM := if s.o then s else if 200 < l.length then s else if s.D.n < 3 + tks s.K + tks s.W + tk l.length then s else ⟨(apx s l).1, s.K, apW (apx s l).2 s.W l, cmO (apx s l).2⟩
/-- Commit. -/
def SM.coE (s : SM) : Int := if s.o then 6 else if s.W = [] then 0 else (cm s.D (s.K ++ s.W)).2
def SM.co (s : SM) : SM := if s.o then s else if s.W = [] then s else ⟨(cm s.D (s.K ++ s.W)).1, cmK (cm s.D (s.K ++ s.W)).2 s.K s.W, cmW (cm s.D (s.K ++ s.W)).2 s.W, cmO (cm s.D (s.K ++ s.W)).2⟩
/-- What is always so. -/
structure SM.ok (s : SM) : Prop where
  n : 3 + tks s.K + tks s.W ≤ s.D.n
  k : ∀ l ∈ s.K, l.length ≤ 200
  w : ∀ l ∈ s.W, l.length ≤ 200
  s : s.o = false → s.D.dn = false → stl s.D (3 + tks s.K) s.W
theorem SM.ap_ok {s : SM} (h : s.ok) (l : List Nat) : (s.ap l).ok ∧ (s.ap l).K = s.K := by
  unfold SM.ap
  split
  · exact ⟨h, rfl⟩
  · rename_i ho
    split
    · exact ⟨h, rfl⟩
    · rename_i hl
      split
      · exact ⟨h, rfl⟩
      · rename_i hn
        refine ⟨?_, rfl⟩
        have hla := apw_la s.D (3 + tks s.K + tks s.W) (fun i => l.getD i 0) l.length (tk l.length)
        have e0 : fl (fun i => l.getD i 0) l.length = l := by have := fl_getD l; simp only [Nat.zero_add] at this; exact this
        rcases apw_06 s.D (3 + tks s.K + tks s.W) (fun i => l.getD i 0) l.length (tk l.length) (by omega) with e | e
        · have e1 : apW (apx s l).2 s.W l = s.W ++ [l] := if_pos e
          have e2 : cmO (apx s l).2 = false := by unfold apx; rw [e]; decide
          have ht : tks (s.W ++ [l]) = tks s.W + tk l.length := by rw [tks_app]; rfl
          refine ⟨?_, h.k, ?_, ?_⟩
          · show 3 + tks s.K + tks (apW (apx s l).2 s.W l) ≤ (apx s l).1.n
            rw [e1, ht]
            unfold apx
            rw [hla.2.1]
            omega
          · show ∀ x ∈ apW (apx s l).2 s.W l, x.length ≤ 200
            rw [e1]
            intro x hx
            rcases List.mem_append.1 hx with h1 | h1
            · exact h.w x h1
            · rw [List.mem_singleton.1 h1]; omega
          · intro _ hd
            show stl (apx s l).1 (3 + tks s.K) (apW (apx s l).2 s.W l)
            rw [e1]
            have hd0 : s.D.dn = false := by
              cases hq : s.D.dn with
              | false => rfl
              | true => rw [apw_down hq] at e; cases e
            obtain ⟨_, hc⟩ := apw_ok e hd0
            have hn' : (apx s l).1.n = s.D.n := hla.2.1
            refine stl_app (stl_congr hn' (h.s (by cases hq : s.o with | false => rfl | true => rw [hq] at ho; exact absurd rfl ho) hd0) (fun k h1 h2 => ?_)) (fun j hj => ?_)
            · show DM.cur (apw _ _ _ _ _).1 k = _
              rw [hc k, if_neg (by omega)]
            · refine ⟨by rw [hn']; omega, ?_⟩
              show DM.cur (apw _ _ _ _ _).1 _ = _
              rw [hc, if_pos (by omega), show 3 + tks s.K + tks s.W + j - (3 + tks s.K + tks s.W) = j by omega]
        · have e1 : apW (apx s l).2 s.W l = s.W := if_neg (by unfold apx; rw [e]; decide)
          have e2 : cmO (apx s l).2 = true := by unfold apx; rw [e]; decide
          refine ⟨?_, h.k, ?_, ?_⟩
          · show 3 + tks s.K + tks (apW (apx s l).2 s.W l) ≤ (apx s l).1.n
            rw [e1]
            unfold apx
            rw [hla.2.1]
            exact h.n
          · show ∀ x ∈ apW (apx s l).2 s.W l, x.length ≤ 200
            rw [e1]
            exact h.w
          · intro ho2
            have ho2 : cmO (apx s l).2 = false := ho2
            rw [e2] at ho2
            cases ho2
theorem SM.co_ok {s : SM} (h : s.ok) : s.co.ok := by
  unfold SM.co
  split
  · exact h
  · split
    · exact h
    · obtain ⟨g1, g2⟩ := cm_06 s.D (s.K ++ s.W) (by have := h.n; omega)
      rcases g1 with e | e
      · have e1 : cmK (cm s.D (s.K ++ s.W)).2 s.K s.W = s.K ++ s.W := if_pos e
        have e2 : cmW (cm s.D (s.K ++ s.W)).2 s.W = [] := if_pos e
        rw [e1, e2]
        refine ⟨?_, ?_, fun l hl => by simp at hl, fun _ _ => trivial⟩
        · show 3 + tks (s.K ++ s.W) + 0 ≤ DM.n _
          rw [g2, tks_app]
          have := h.n
          omega
        · intro l hl
          rcases List.mem_append.1 hl with h1 | h1
          · exact h.k l h1
          · exact h.w l h1
      · have e1 : cmK (cm s.D (s.K ++ s.W)).2 s.K s.W = s.K := if_neg (by rw [e]; decide)
        have e2 : cmW (cm s.D (s.K ++ s.W)).2 s.W = s.W := if_neg (by rw [e]; decide)
        have e3 : cmO (cm s.D (s.K ++ s.W)).2 = true := by rw [e]; decide
        rw [e1, e2, e3]
        refine ⟨?_, h.k, h.w, fun ho => by cases ho⟩
        show 3 + tks s.K + tks s.W ≤ DM.n _
        rw [g2]
        exact h.n
end Go.Proofs.Ytpophfeommlajaa
namespace Go.Proofs.Ytpophfeommlajaa
open Go.RowKit Go.Maps
attribute [local go_sem ↓] Go.wp_at_zero Go.wp_at_succ

structure PWr (w : World) (b lb mb t : Nat) (O Y : Nat → Bool) (bs : Nat) (vk vw : Value) (ck cw : List Value) (s : SM) : Prop where
  d : Dsk w b lb mb s.D
  p : PSt w bs t b Y vk vw ck cw s.K s.W s.o
  m : s.ok
  xy : ∀ g, X3 b lb mb g = true → Y g = true
  yl : ∀ g, Y g = true → g < w.heap.size
  bl : bs ≤ w.heap.size
  ok : ∀ k, Xt (X3 b lb mb) t vk k = true → O k = true
  ow : ∀ k, vw.ownBlock = some k → O k = true
  ol : ∀ k, O k = true → k < w.heap.size
/-- A store and its disk: O are the blocks that their calls may write, Y those that others may (and the disk's own). -/
def PW (w : World) (b lb mb t : Nat) (O Y : Nat → Bool) (s : SM) : Prop := ∃ bs vk vw ck cw, PWr w b lb mb t O Y bs vk vw ck cw s
/-- With all blocks that are new. -/
def grow (O : Nat → Bool) (w w' : World) (k : Nat) : Bool := O k || (decide (w.heap.size ≤ k) && decide (k < w'.heap.size))
theorem grow_of {O : Nat → Bool} {w w' : World} {k : Nat} : grow O w w' k = true ↔ O k = true ∨ (w.heap.size ≤ k ∧ k < w'.heap.size) := by
  unfold grow
  simp
theorem SM.ok.sizes {s : SM} (h : s.ok) {n : Nat} (hn : s.D.n ≤ n) (h4 : n ≤ 4096) : tks s.K ≤ 1000000 ∧ tks s.W ≤ 1000000 ∧ s.K.length ≤ 4096 ∧ s.W.length ≤ 4096 ∧ s.W.length ≤ 100000 := by
  have h1 := h.n
  have h2 := tks_len s.K
  have h3 := tks_len s.W
  omega
section
variable {w w' : World} {b lb mb t : Nat} {O Y : Nat → Bool} {s : SM}
theorem PWr.t3 {bs : Nat} {vk vw : Value} {ck cw : List Value} (h : PWr w b lb mb t O Y bs vk vw ck cw s) : X3 b lb mb t = false := by
  cases hq : X3 b lb mb t with
  | false => rfl
  | true => have := h.xy t hq; rw [h.p.ty] at this; cases this
/-- Others go on. -/
theorem PW.other {Z Y' : Nat → Bool} (h : PW w b lb mb t O Y s) (hK : Kp Z w w') (hZ : ∀ k, Z k = true → Y k = true ∧ X3 b lb mb k = false) (h1 : ∀ k, Y' k = true → (Y k = true ∨ w.heap.size ≤ k) ∧ k < w'.heap.size) (h2 : ∀ k, X3 b lb mb k = true → Y' k = true) : PW w' b lb mb t O Y' s := by
  obtain ⟨bs, vk, vw, ck, cw, h⟩ := h
  have ht : Y' t = false := by
    cases hq : Y' t with
    | false => rfl
    | true =>
      rcases (h1 t hq).1 with e | e
      · rw [h.p.ty] at e; cases e
      · have := h.p.tl; omega
  have hm : ∀ {v : Value} (k : Nat), Xt Y' t v k = true → Xt Y t v k = true ∨ w.heap.size ≤ k := fun k hk => by
    rcases Xt_inv hk with e | e
    · rcases Xu_inv e with e | e
      · rcases (h1 k e).1 with e | e
        · exact Or.inl (Xt_u (Xu_of (Or.inl e)))
        · exact Or.inr e
      · exact Or.inl (Xt_u (Xu_of (Or.inr e)))
    · exact Or.inl (Xt_own e)
  have hp : PSt w bs t b (fun k => Y k || Y' k) vk vw ck cw s.K s.W s.o := by
    have hm2 : ∀ {v : Value} (k : Nat), Xt (fun k => Y k || Y' k) t v k = true → Xt Y t v k = true ∨ w.heap.size ≤ k := fun k hk => by
      rcases Xt_inv hk with e | e
      · rcases Xu_inv e with e | e
        · rcases Bool.or_eq_true _ _ |>.mp e with e | e
          · exact Or.inl (Xt_u (Xu_of (Or.inl e)))
          · exact hm k (Xt_u (Xu_of (Or.inl e)))
        · exact Or.inl (Xt_u (Xu_of (Or.inr e)))
      · exact Or.inl (Xt_own e)
    exact ⟨h.p.c0, h.p.c1, h.p.c2, h.p.c3, h.p.c4, h.p.c5, h.p.z, h.p.tl, by show (Y t || Y' t) = false; rw [h.p.ty, ht]; rfl, h.p.k.more hm2, h.p.s.more hm2⟩
  have hp2 := hp.kp (hK.mono (fun k hk => by show (Y k || Y' k) = true; rw [(hZ k hk).1]; rfl))
  have sub : ∀ {v : Value} (k : Nat), Xt Y' t v k = true → Xt (fun k => Y k || Y' k) t v k = true := fun k hk => by
    rcases Xt_inv hk with e | e
    · rcases Xu_inv e with e | e
      · exact Xt_u (Xu_of (Or.inl (by show (Y k || Y' k) = true; rw [e, Bool.or_true])))
      · exact Xt_u (Xu_of (Or.inr e))
    · exact Xt_own e
  refine ⟨bs, vk, vw, ck, cw, h.d.same hK.size (fun k hk => hK.block k ?_ ?_), ⟨hp2.c0, hp2.c1, hp2.c2, hp2.c3, hp2.c4, hp2.c5, hp2.z, hp2.tl, ht, hp2.k.sub sub, hp2.s.sub sub⟩, h.m, h2, fun g hg => (h1 g hg).2, Nat.le_trans h.bl hK.size, h.ok, h.ow, fun k hk => Nat.lt_of_lt_of_le (h.ol k hk) hK.size⟩
  · rcases X3_of.1 hk with rfl | rfl | rfl
    · exact h.d.bl
    · exact h.d.ll
    · exact h.d.mp.lt
  · cases hq : Z k with
    | false => rfl
    | true => have := (hZ k hq).2; rw [hk] at this; cases this
theorem PW.keep (h : PW w b lb mb t O Y s) (hB : Below w.heap.size w w') : PW w' b lb mb t O Y s := by
  have hh := h
  obtain ⟨bs, vk, vw, ck, cw, g⟩ := hh
  exact h.other (Kp.of (X := fun _ => false) hB) (fun k hk => by cases hk) (fun k hk => ⟨Or.inl hk, Nat.lt_of_lt_of_le (g.yl k hk) hB.size⟩) g.xy
/-- The disk is turned. -/
theorem PW.disk {D' : DM} (h : PW w b lb mb t O Y s) (hd : Dsk w' b lb mb D') (hK : Kp (X3 b lb mb) w w') (hs : SM.ok { s with D := D' }) : PW w' b lb mb t O Y { s with D := D' } := by
  obtain ⟨bs, vk, vw, ck, cw, h⟩ := h
  exact ⟨bs, vk, vw, ck, cw, hd, h.p.kp (hK.mono h.xy), hs, h.xy, fun g hg => Nat.lt_of_lt_of_le (h.yl g hg) hK.size, Nat.le_trans h.bl hK.size, h.ok, h.ow, fun k hk => Nat.lt_of_lt_of_le (h.ol k hk) hK.size⟩
theorem PW.dsk (h : PW w b lb mb t O Y s) : Dsk w b lb mb s.D := by
  obtain ⟨bs, vk, vw, ck, cw, h⟩ := h
  exact h.d
theorem PW.ok (h : PW w b lb mb t O Y s) : s.ok := by
  obtain ⟨bs, vk, vw, ck, cw, h⟩ := h
  exact h.m
theorem PW.x3 (h : PW w b lb mb t O Y s) {k : Nat} (hk : X3 b lb mb k = true) : O k = true := by
  obtain ⟨bs, vk, vw, ck, cw, h⟩ := h
  exact h.ok k (Xt_u (Xu_of (Or.inl hk)))
theorem PW.ol (h : PW w b lb mb t O Y s) {k : Nat} (hk : O k = true) : k < w.heap.size := by
  obtain ⟨bs, vk, vw, ck, cw, h⟩ := h
  exact h.ol k hk
theorem len_pw (h : PW w b lb mb t O Y s) : Calls Try.prog 21 #[pp t] w fun e w' => e = .returned (.int .i64 (s.K.length : Int)) ∧ w' = w := by
  obtain ⟨bs, vk, vw, ck, cw, h⟩ := h
  exact len_n h.p
theorem waits_pw (h : PW w b lb mb t O Y s) : Calls Try.prog 35 #[pp t] w fun e w' => e = .returned (.int .i64 (s.W.length : Int)) ∧ w' = w := by
  obtain ⟨bs, vk, vw, ck, cw, h⟩ := h
  exact waits_n h.p
theorem room_pw (h : PW w b lb mb t O Y s) : Calls Try.prog 36 #[pp t] w fun e w' => e = .returned (.int .i64 ((s.D.n : Int) - 3 - (tks s.K : Int) - (tks s.W : Int))) ∧ Below w.heap.size w w' := by
  obtain ⟨bs, vk, vw, ck, cw, h⟩ := h
  obtain ⟨h1, h2, _⟩ := h.m.sizes (Nat.le_refl _) h.d.ok.n
  exact room_n h.p h.d h1 h2
theorem SM.short {s : SM} (h : s.ok) : short s.K := fun l hl => by have := h.k l hl; omega
theorem entry_pw (h : PW w b lb mb t O Y s) {i : Nat} {l : List Nat} (hl : s.K[i]? = some l) : Calls Try.prog 34 #[pp t, .int .i64 (i : Int)] w (EnP w l) := by
  obtain ⟨bs, vk, vw, ck, cw, h⟩ := h
  obtain ⟨_, _, h3, _⟩ := h.m.sizes (Nat.le_refl _) h.d.ok.n
  exact entry_n2 h.p (SM.short h.m) hl (by omega)
theorem entry_out_pw (h : PW w b lb mb t O Y s) {i : Int} (hi : i < 0 ∨ (s.K.length : Int) ≤ i) : Calls Try.prog 34 #[pp t, .int .i64 i] w fun e w' => e = .returned (.tuple #[.slice none 0 0, .bool false]) ∧ w' = w := by
  obtain ⟨bs, vk, vw, ck, cw, h⟩ := h
  exact entry_out h.p hi
theorem PW.grown (h : PW w b lb mb t O Y s) (hB : Below w.heap.size w w') : PW w' b lb mb t (grow O w w') Y s := by
  obtain ⟨bs, vk, vw, ck, cw, g⟩ := h.keep hB
  exact ⟨bs, vk, vw, ck, cw, g.d, g.p, g.m, g.xy, g.yl, g.bl, fun k hk => grow_of.2 (Or.inl (g.ok k hk)), fun k hk => grow_of.2 (Or.inl (g.ow k hk)), fun k hk => by
    rcases grow_of.1 hk with e | e
    · exact g.ol k e
    · exact e.2⟩
def ApW (w : World) (b lb mb t : Nat) (O Y : Nat → Bool) (s : SM) (er : Int) (e : Ending) (w' : World) : Prop := e = .returned (.int .i64 er) ∧ PW w' b lb mb t (grow O w w') Y s ∧ Kp O w w'
theorem ap_pw (h : PW w b lb mb t O Y s) {x : Option Addr} {m c : Nat} {f : Nat → Nat} (hb : BA w x m f) (hz : 0 < m → ∀ p, x = some p → X3 b lb mb p.block = false) : Calls Try.prog 11 #[pp t, .slice x m c] w (ApW w b lb mb t O Y (s.ap (fl f m)) (s.apE (fl f m))) := by
  have hh := h
  obtain ⟨bs, vk, vw, ck, cw, g⟩ := hh
  obtain ⟨z1, z2, z3, z4, z5⟩ := g.m.sizes (Nat.le_refl _) g.d.ok.n
  have hlen : (fl f m).length = m := fl_len f m
  have hp := g.p
  cases ho : s.o with
  | true =>
    have e1 : s.ap (fl f m) = s := if_pos ho
    have e2 : s.apE (fl f m) = 6 := if_pos ho
    rw [e1, e2]
    rw [ho] at hp
    refine Calls.mono (append_over1 hp _) ?_
    rintro e w2 ⟨rfl, rfl⟩
    exact ⟨rfl, h.grown (Below.refl _ _), Kp.refl _ _⟩
  | false =>
    have ho' : ¬ (s.o = true) := by rw [ho]; decide
    rw [ho] at hp
    by_cases hm : 200 < m
    · have e1 : s.ap (fl f m) = s := (if_neg ho').trans (if_pos (by rw [hlen]; exact hm))
      have e2 : s.apE (fl f m) = 4 := (if_neg ho').trans (if_pos (by rw [hlen]; exact hm))
      rw [e1, e2]
      refine Calls.mono (append_long1 hp hm) ?_
      rintro e w2 ⟨rfl, rfl⟩
      exact ⟨rfl, h.grown (Below.refl _ _), Kp.refl _ _⟩
    · by_cases hf : s.D.n < 3 + tks s.K + tks s.W + tk m
      · have e1 : s.ap (fl f m) = s := (if_neg ho').trans ((if_neg (by rw [hlen]; exact hm)).trans (if_pos (by rw [hlen]; exact hf)))
        have e2 : s.apE (fl f m) = 5 := (if_neg ho').trans ((if_neg (by rw [hlen]; exact hm)).trans (if_pos (by rw [hlen]; exact hf)))
        rw [e1, e2]
        refine Calls.mono (append_full1 hp g.d z1 z2 (by omega) hf) ?_
        rintro e w2 ⟨rfl, hB⟩
        exact ⟨rfl, h.grown hB, Kp.of hB⟩
      · have e0 : apx s (fl f m) = apw s.D (3 + tks s.K + tks s.W) f m (tk m) := by
          unfold apx
          rw [hlen]
          exact (apw_congr (fl_get rfl).2 _ _ _).symm
        have e1 : s.ap (fl f m) = ⟨(apx s (fl f m)).1, s.K, apW (apx s (fl f m)).2 s.W (fl f m), cmO (apx s (fl f m)).2⟩ := (if_neg ho').trans ((if_neg (by rw [hlen]; exact hm)).trans (if_neg (by rw [hlen]; exact hf)))
        have e2 : s.apE (fl f m) = (apx s (fl f m)).2 := (if_neg ho').trans ((if_neg (by rw [hlen]; exact hm)).trans (if_neg (by rw [hlen]; exact hf)))
        have hok := (SM.ap_ok g.m (fl f m)).1
        rw [e1, e2]
        rw [e1] at hok
        rw [e0] at hok ⊢
        refine Calls.mono (append_n hp g.d g.xy g.yl g.bl z5 hb hz (by omega) (by omega)) ?_
        rintro e w2 ⟨rfl, vw', cw', h1, h2, h3, h4⟩
        have hO : ∀ k, Xt (X3 b lb mb) t vw k = true → O k = true := fun k hk => by
          rcases Xt_inv hk with e | e
          · exact g.ok k (Xt_u e)
          · exact g.ow k e
        refine ⟨rfl, ⟨bs, vk, vw', ck, cw', h1, h2, hok, g.xy, fun k hk => Nat.lt_of_lt_of_le (g.yl k hk) h3.size, Nat.le_trans g.bl h3.size, fun k hk => grow_of.2 (Or.inl (g.ok k hk)), fun k hk => ?_, fun k hk => ?_⟩, h3.mono hO⟩
        · rcases h4 with e | ⟨g2, e, hle⟩
          · exact grow_of.2 (Or.inl (g.ow k (e.symm.trans hk)))
          · rw [e] at hk
            cases hk
            exact grow_of.2 (Or.inr ⟨hle, (h2.s.o.lt _ e).2⟩)
        · rcases grow_of.1 hk with e | e
          · exact Nat.lt_of_lt_of_le (g.ol k e) h3.size
          · exact e.2
theorem co_pw (h : PW w b lb mb t O Y s) : Calls Try.prog 13 #[pp t] w (ApW w b lb mb t O Y s.co s.coE) := by
  have hh := h
  obtain ⟨bs, vk, vw, ck, cw, g⟩ := hh
  have hp := g.p
  cases ho : s.o with
  | true =>
    have e1 : s.co = s := if_pos ho
    have e2 : s.coE = 6 := if_pos ho
    rw [e1, e2]
    rw [ho] at hp
    refine Calls.mono (commit_over1 hp) ?_
    rintro e w2 ⟨rfl, rfl⟩
    exact ⟨rfl, h.grown (Below.refl _ _), Kp.refl _ _⟩
  | false =>
    have ho' : ¬ (s.o = true) := by rw [ho]; decide
    rw [ho] at hp
    by_cases hw : s.W = []
    · have e1 : s.co = s := (if_neg ho').trans (if_pos hw)
      have e2 : s.coE = 0 := (if_neg ho').trans (if_pos hw)
      rw [e1, e2]
      rw [hw] at hp
      refine Calls.mono (commit_none1 hp) ?_
      rintro e w2 ⟨rfl, rfl⟩
      exact ⟨rfl, h.grown (Below.refl _ _), Kp.refl _ _⟩
    · have e1 : s.co = ⟨(cm s.D (s.K ++ s.W)).1, cmK (cm s.D (s.K ++ s.W)).2 s.K s.W, cmW (cm s.D (s.K ++ s.W)).2 s.W, cmO (cm s.D (s.K ++ s.W)).2⟩ := (if_neg ho').trans (if_neg hw)
      have e2 : s.coE = (cm s.D (s.K ++ s.W)).2 := (if_neg ho').trans (if_neg hw)
      have hok := SM.co_ok g.m
      rw [e1, e2]
      rw [e1] at hok
      have hst : s.D.dn = true ∨ (s.D.dn = false ∧ stl s.D (3 + tks s.K) s.W) := by
        cases hd : s.D.dn with
        | true => exact Or.inl rfl
        | false => exact Or.inr ⟨rfl, g.m.s ho hd⟩
      refine Calls.mono (commit_n hp g.d g.xy g.yl g.bl hw g.m.w g.m.n hst) ?_
      rintro e w2 ⟨rfl, vk', vw', ck', cw', h1, h2, h3, h4, h5⟩
      refine ⟨rfl, ⟨bs, vk', vw', ck', cw', h1, h2, hok, g.xy, fun k hk => Nat.lt_of_lt_of_le (g.yl k hk) h3.size, Nat.le_trans g.bl h3.size, fun k hk => ?_, fun k hk => ?_, fun k hk => ?_⟩, h3.mono g.ok⟩
      · rcases Xt_inv hk with e | e
        · exact grow_of.2 (Or.inl (g.ok k (Xt_u e)))
        · rcases h4 with e3 | ⟨g2, e3, hle⟩
          · exact grow_of.2 (Or.inl (g.ok k (Xt_own (e3.symm.trans e))))
          · rw [e3] at e
            cases e
            exact grow_of.2 (Or.inr ⟨hle, (h2.k.o.lt _ e3).2⟩)
      · rcases h5 with e | e
        · exact grow_of.2 (Or.inl (g.ow k (e.symm.trans hk)))
        · rw [e] at hk; cases hk
      · rcases grow_of.1 hk with e | e
        · exact Nat.lt_of_lt_of_le (g.ol k e) h3.size
        · exact e.2
end
theorem lays_200 {C : Nat → List Nat} : ∀ {l : List (List Nat)} {p : Nat}, lays C p l → ∀ x ∈ l, x.length ≤ 200
  | [], _, _, x, hx => by simp at hx
  | b :: r, p, h, x, hx => by
    rcases List.mem_cons.1 hx with e | e
    · rw [e]; exact h.1.m
    · exact lays_200 h.2 x e
/-- What Open answers. -/
def OpW (w : World) (b lb mb : Nat) (Y : Nat → Bool) (D : DM) (e : Ending) (w' : World) : Prop := ∃ W, Dsk W b lb mb (D.mendD 0) ∧ Kp (X3 b lb mb) w W ∧ Below W.heap.size W w' ∧ ((D.opE = 0 ∧ ∃ t, e = .returned (.tuple #[pp t, .int .i64 0]) ∧ PW w' b lb mb t (grow (X3 b lb mb) w w') Y ⟨D.mendD 0, D.opL, [], false⟩ ∧ W.heap.size ≤ t) ∨ (D.opE ≠ 0 ∧ e = .returned (.tuple #[.pointer none, .int .i64 D.opE])))
theorem open_pw {w : World} {b lb mb : Nat} {D : DM} {Y : Nat → Bool} (h : Dsk w b lb mb D) (hxy : ∀ g, X3 b lb mb g = true → Y g = true) (hyl : ∀ g, Y g = true → g < w.heap.size) : Calls Try.prog 8 #[pp b] w (OpW w b lb mb Y D) := by
  refine Calls.mono (open_n h) ?_
  rintro e w' ⟨W, h1, h2, h3, h4⟩
  refine ⟨W, h1, h2, h3, h4.imp ?_ id⟩
  rintro ⟨g1, t, vk, ck, rfl, g2, g3, g4⟩
  have hn : (D.mendD 0).n = D.n := by
    have he : D.mendE 0 = 0 := by
      unfold DM.opE at g1
      split at g1
      · assumption
      · rename_i hne; exact absurd g1 hne
    exact (mend_ok (a := 0) he).2.2.2.1
  have hl : ∀ l ∈ D.opL, l.length ≤ 200 := lays_200 g3
  have hsz : ∀ k, X3 b lb mb k = true → k < w.heap.size := fun k hk => by
    rcases X3_of.1 hk with rfl | rfl | rfl
    · exact h.bl
    · exact h.ll
    · exact h.mp.lt
  refine ⟨g1, t, rfl, ⟨W.heap.size, vk, .slice none 0 0, ck, [], h1.keep h3, g2.st (fun g hg => Nat.lt_of_lt_of_le (hyl g hg) h2.size), ⟨by show 3 + tks D.opL + 0 ≤ (D.mendD 0).n; rw [hn]; omega, hl, fun l hl => by simp at hl, fun _ _ => trivial⟩, hxy, fun k hk => Nat.lt_of_lt_of_le (hyl k hk) (Nat.le_trans h2.size h3.size), h3.size, fun k hk => ?_, fun k hk => (by cases hk), fun k hk => ?_⟩, g2.tg⟩
  · rcases Xt_inv hk with e | e
    · rcases Xu_inv e with e | e
      · exact grow_of.2 (Or.inl e)
      · subst e
        exact grow_of.2 (Or.inr ⟨Nat.le_trans h2.size g2.tg, g2.tl⟩)
    · exact grow_of.2 (Or.inr ⟨Nat.le_trans h2.size (g2.s.o.lt k e).1, (g2.s.o.lt k e).2⟩)
  · rcases grow_of.1 hk with e | e
    · exact Nat.lt_of_lt_of_le (hsz k e) (Nat.le_trans h2.size h3.size)
    · exact e.2
end Go.Proofs.Ytpophfeommlajaa
namespace Go.Proofs.Ytpophfeommlajaa
open Go.RowKit Go.Maps
attribute [local go_sem ↓] Go.wp_at_zero Go.wp_at_succ

def RcP2 (w : World) (bs t r la na cl cn : Nat) (zl zn : Option Addr) (Y G : Nat → Bool) (vw0 : Value) (D : DM) (er : Int) (K Wt : List (List Nat)) (ov : Bool) (e : Ending) (w' : World) : Prop := e = .returned (.int .i64 er) ∧ ∃ G' vk vw ck cw, RDk w' r la na cl cn zl zn D G' ∧ (∀ k, G' k = true → G k = true ∨ w.heap.size ≤ k) ∧ RSt w' bs t r Y vk vw ck cw K Wt ov ∧ Kp (Xu (X3 r la na) t) w w' ∧ ∀ g, vw.ownBlock = some g → vw0.ownBlock = some g
set_option maxRecDepth 100000 in
set_option maxHeartbeats 4000000 in
theorem commit_any2 {w : World} {bs t r la na cl cn : Nat} {zl zn : Option Addr} {Y G : Nat → Bool} {vk vw : Value} {ck cw : List Value} {K Wt : List (List Nat)} {D : DM} (h : RSt w bs t r Y vk vw ck cw K Wt false) (hd : RDk w r la na cl cn zl zn D G) (hXY : ∀ g, X3 r la na g = true → Y g = true) (hY : ∀ g, Y g = true → g < w.heap.size) (hbs : bs ≤ w.heap.size) (hs : short (K ++ Wt)) (hn : (K ++ Wt).length ≤ 1000000) (hw : Wt ≠ []) (hGt : G t = false) :
    Calls Try.prog 14 #[pp t] w (RcP2 w bs t r la na cl cn zl zn Y G vw (cm D (K ++ Wt)).1 (cm D (K ++ Wt)).2 (cmK (cm D (K ++ Wt)).2 K Wt) (cmW (cm D (K ++ Wt)).2 Wt) (cmO (cm D (K ++ Wt)).2)) := by
  obtain ⟨zw, wc, ew, _⟩ := h.s.shape
  obtain ⟨zk, kc, ek, _⟩ := h.k.shape
  have h3 := h.c3
  have h2 := h.c2
  have h1 := h.c1
  rw [ew] at h2
  rw [ek] at h1
  have hlw : ((Wt.length : Int) == 0) = false := by
    cases Wt with
    | nil => exact absurd rfl hw
    | cons a b => simp; omega
  have HS := hide h
  have HD := hide hd
  have HXY := hide hXY
  have HYt : Hid (∀ g, Xu Y t g = true → g < w.heap.size) := fun g hg => by
    rcases Xu_inv hg with e | e
    · exact hY g e
    · rw [e]; exact h.tl
  have HBs := hide hbs
  have HGt : Hid (∀ G' : Nat → Bool, (∀ k, G' k = true → G k = true ∨ w.heap.size ≤ k) → ∀ k, G' k = true → k ≠ t) := fun G' hg k hk e => by
    subst e
    rcases hg _ hk with e1 | e1
    · rw [hGt] at e1; cases e1
    · have := h.tl; omega
  have HSh := hide (And.intro hs hn)
  have HLn : Hid (0 + K.length ≤ 1000000 ∧ K.length + Wt.length ≤ 1000000) := by rw [List.length_append] at hn; exact ⟨by omega, hn⟩
  have HE := hide (And.intro ek ew)
  clear h hd hXY hY hbs hs hn hw ek ew hGt
  go_enter Try.func14, Try.ntmps14
  have HK1 : Hid (w.ownsRow bs 38 1 (.slice zk K.length kc) K.length ck) := by have := HS.out.k.o; rw [HE.out.1] at this; exact this
  have HN1 : Hid (w.ownsRow bs 38 1 (.slice none 0 0) 0 []) := World.ownsRow_nil w bs _ _
  have HC1 : Hid (∀ v1 W1, W1.ownsRow bs 38 1 v1 (0 + K.length) ([] ++ ck) → w.grownBy W1 (Value.slice none 0 0).ownBlock → (v1.ownBlock = (Value.slice none 0 0).ownBlock ∨ v1.ownBlock = some w.heap.size) → Lst W1 bs (Xu Y t) v1 K ck) := fun v1 W1 ho hg hat =>
    (Lst.nil w bs (Xu Y t)).cat HS.out.k HYt.out (fun g hg => by
      rcases hg with e | e
      · unfold Xt; rw [e, Bool.true_or]
      · cases e) ho hg hat
  go_upto_region 7 with (refine wpList_appL rfl _ _ rfl rfl HN1.out rfl HK1.out HS.out.k.one HLn.out.1 HBs.out ?_; intro v1 W1 ho1 hg1 hat1; have HL1 := hide (HC1.out v1 W1 ho1 hg1 hat1); have HB1 : Hid (Below w.heap.size w W1) := (Below.refl _ w).grown hg1 (Nat.le_refl _) (fun k hk => by cases hk); have HAt := hide hat1; clear ho1 hg1 hat1)
  have HS1 := hide (HS.out.keep HB1.out)
  have h2' : W1.cell? ⟨t, 2, none⟩ = some (.slice zw Wt.length wc) := by have := HS1.out.c2; rw [HE.out.2] at this; exact this
  have HW1 : Hid (W1.ownsRow bs 38 1 (.slice zw Wt.length wc) Wt.length cw) := by have := HS1.out.s.o; rw [HE.out.2] at this; exact this
  have HX1 : Hid (∀ k, v1.ownBlock = some k → w.heap.size ≤ k) := fun k hk => by
    rcases HAt.out with e | e
    · rw [e] at hk; cases hk
    · rw [e] at hk; cases hk; exact Nat.le_refl _
  have HM1 : Hid (Lst W1 bs (fun g => Xu Y t g || decide (v1.ownBlock = some g)) vw Wt cw) := (HS.out.s.more (fun k hk => by
    rcases Bool.or_eq_true _ _ |>.mp hk with e | e
    · exact Or.inl e
    · exact Or.inr (HX1.out k (of_decide_eq_true e)))).keep HB1.out
  have HYt1 : Hid (∀ g, Xu Y t g = true → g < W1.heap.size) := fun g hg => Nat.lt_of_lt_of_le (HYt.out g hg) HB1.out.size
  obtain ⟨z1, c1, e1, _⟩ := HL1.out.shape
  subst e1
  clear h1 h2 h3 hlw HK1 HN1 HC1
  have HC2 : Hid (∀ v2 W2, W2.ownsRow bs 38 1 v2 (K.length + Wt.length) (ck ++ cw) → W1.grownBy W2 (Value.slice z1 K.length c1).ownBlock → (v2.ownBlock = (Value.slice z1 K.length c1).ownBlock ∨ v2.ownBlock = some W1.heap.size) → Lst W2 bs (Xu Y t) v2 (K ++ Wt) (ck ++ cw) ∧ Below w.heap.size w W2) := fun v2 W2 ho hg hat =>
    ⟨HL1.out.cat HM1.out HYt1.out (fun g hg => by
      rcases hg with e | e
      · show (Xu Y t g || _) = true; rw [e, Bool.true_or]
      · show (_ || decide _) = true; rw [decide_eq_true e, Bool.or_true]) ho hg hat, HB1.out.grown hg HB1.out.size HX1.out⟩
  go_upto_region 8 with (refine wpList_appL rfl _ _ rfl rfl HL1.out.o rfl HW1.out HS.out.s.one HLn.out.2 (Nat.le_trans HBs.out HB1.out.size) ?_; intro v2 W2 ho2 hg2 hat2; have HL2 := hide (HC2.out v2 W2 ho2 hg2 hat2); clear ho2 hg2 hat2)
  obtain ⟨za, ac, e2, _⟩ := HL2.out.1.shape
  subst e2
  have HS2 := hide (HS.out.keep HL2.out.2)
  have HR2 : Hid (RsR w W2 r la na cl cn zl zn D G G) := ⟨HD.out.keep HL2.out.2, Kp.of HL2.out.2, fun k hk => Or.inl hk⟩
  have hc0 := HS2.out.c0
  have HCS := hide (ref_sync HR2.out.d)
  clear h2' HS1 HW1 HX1 HM1 HYt1 HC2 HL1 HAt
  by_cases hsy : D.syE = 0
  · have HCm : Hid (cm D (K ++ Wt) = sv D.sy 0 (mkv (K ++ Wt)) 3) := if_pos hsy
    rw [hsy] at HCS
    clear hsy
    go_upto_region 10 with (go_at_call 48; refine Calls.mono HCS.out ?_; rintro e W5 ⟨rfl, G5, hd5, hK5, hg5⟩; have HR5 := hide (HR2.out.next hd5 hK5 hg5); have HS5 := hide (HS2.out.kp (hK5.mono HXY.out)); have HLa := hide (HL2.out.1.kp (hK5.mono (fun g hg => Xu_of (Or.inl (HXY.out g hg))))); clear hd5 hK5 hg5)
    have HMk : Hid (Calls Try.prog 33 #[.slice za (K ++ Wt).length ac] W5.drew (OwP W5.drew (mkf (K ++ Wt).length (tks (K ++ Wt))) 16)) := by
      obtain ⟨z', c', e', hv⟩ := HLa.out.shape
      cases e'
      exact mark_any (hv.keep (Go.Proofs.Ytpophfeommlajaa.K.drew (Below.refl _ _))) HSh.out.1 HSh.out.2
    clear hc0
    refine wp_region_noPanic ?_
    refine wp_region_held_drew (S := fun w' => w'.cell? ⟨t, 0, none⟩ = some (pp r)) (by kernel_rfl) HS5.out.c0 (fun hS0 => ?_)
    refine wpAnyH_take (i := 0) (v := pp t) rfl (by kernel_rfl) (by kernel_rfl) (by kernel_rfl) (fun _ _ _ h => h) (Or.inl ⟨by rfl, fun w' _ => by go_simp⟩) hS0 ?_
    simp only [Act.put, List.getElem_toArray, List.getElem_cons_zero, List.setIfInBounds_toArray, List.set_cons_zero, List.set_cons_succ]
    refine wpAnyH_take (i := 1) (v := pp t) rfl (by kernel_rfl) (by kernel_rfl) (by kernel_rfl) (fun _ _ _ h => h) (Or.inl ⟨by rfl, fun w' _ => by go_simp⟩) hS0 ?_
    simp only [Act.put, List.getElem_toArray, List.getElem_cons_zero, List.getElem_cons_succ, List.setIfInBounds_toArray, List.set_cons_zero, List.set_cons_succ]
    refine wpAnyH_take (i := 2) (v := .pointer (some ⟨t, 0, none⟩)) rfl (by kernel_rfl) (by kernel_rfl) (by kernel_rfl) (fun _ _ _ h => h) (Or.inl ⟨by rfl, fun w' _ => by go_simp⟩) hS0 ?_
    simp only [Act.put, List.getElem_toArray, List.getElem_cons_zero, List.getElem_cons_succ, List.setIfInBounds_toArray, List.set_cons_zero, List.set_cons_succ]
    refine wpAnyH_take (i := 3) (v := pp r) rfl (by kernel_rfl) (by kernel_rfl) (by kernel_rfl) (fun _ _ _ h => h) (Or.inl ⟨by rfl, fun w' hS => by have hc := hS; go_simp⟩) hS0 ?_
    simp only [Act.put, List.getElem_toArray, List.getElem_cons_zero, List.getElem_cons_succ, List.setIfInBounds_toArray, List.set_cons_zero, List.set_cons_succ]
    refine wpAnyH_take (i := 4) (v := .slice za (K ++ Wt).length ac) rfl (by kernel_rfl) (by kernel_rfl) (by kernel_rfl) (fun _ _ _ h => h) (Or.inl ⟨by rfl, fun w' _ => by go_simp⟩) hS0 ?_
    simp only [Act.put, List.getElem_toArray, List.getElem_cons_zero, List.getElem_cons_succ, List.setIfInBounds_toArray, List.set_cons_zero, List.set_cons_succ]
    refine wpAnyH_ready (rs := [5]) (by kernel_rfl) (by simp) (AllReadyH.cons rfl (fun Kt hK => ?_) AllReadyH.nil)
    refine wanted_pos rfl ?_
    refine wp_call (R := fun x w' => OwP W5.drew (mkf (K ++ Wt).length (tks (K ++ Wt))) 16 (.returned x) w') (vs := #[.slice za (K ++ Wt).length ac]) rfl (by simp only [List.map_toArray, List.map_cons, List.map_nil]; rfl) (by go_simp) (Calls.mono HMk.out (fun e w' he => by obtain ⟨z, c, rfl, hh⟩ := he; exact ⟨_, rfl, z, c, rfl, hh⟩)) (fun x W6 hr => ?_)
    obtain ⟨z6, c6, hx, ho6, hB6⟩ := hr
    cases hx
    have HS6 := hide (HS5.out.keep (Go.Proofs.Ytpophfeommlajaa.K.call (Go.Proofs.Ytpophfeommlajaa.K.drew (Below.refl _ _)) hB6))
    have HL6 := hide (HLa.out.keep (Go.Proofs.Ytpophfeommlajaa.K.call (Go.Proofs.Ytpophfeommlajaa.K.drew (Below.refl _ _)) hB6))
    have HR6 := hide (HR5.out.grow (Go.Proofs.Ytpophfeommlajaa.K.call (Go.Proofs.Ytpophfeommlajaa.K.drew (Below.refl _ _)) hB6))
    have HSv := hide (ref_save (c := c6) HR6.out.d (a := 0) ⟨by decide, by decide⟩ (own_ba ho6 (mkf_lt _ _)) (by decide) (fun _ p hp => HR5.out.d.out (by subst hp; exact (ho6.lt p.block rfl).1)))
    clear ho6 hB6
    refine hK.out _ _ HS6.out.c0 (fun _ => ?_)
    clear hK Kt
    simp only [Act.put, List.getElem_toArray, List.getElem_cons_zero, List.getElem_cons_succ, List.setIfInBounds_toArray, List.set_cons_zero, List.set_cons_succ]
    refine wpAnyH_ready (rs := [6]) (by kernel_rfl) (by simp) (AllReadyH.cons rfl (fun Kt hK => ?_) AllReadyH.nil)
    refine wanted_pos rfl ?_
    refine wp_call (R := fun x w' => RwP W6 r la na cl cn zl zn (sv D.sy 0 (mkv (K ++ Wt)) 3).1 G5 (sv D.sy 0 (mkv (K ++ Wt)) 3).2 (.returned x) w') (vs := #[pp r, .int .i64 0, .slice z6 16 c6]) rfl (by simp only [List.map_toArray, List.map_cons, List.map_nil]; rfl) (by go_simp) (Calls.mono HSv.out (fun e w' he => ⟨_, he.1, rfl, he.2⟩)) (fun x W7 hr => ?_)
    obtain ⟨hx, G7, hd7, hK7, hg7⟩ := hr
    cases hx
    have HR7 := hide (HR6.out.next hd7 hK7 hg7)
    have HS7 := hide (HS6.out.kp (hK7.mono HXY.out))
    have HL7 := hide (HL6.out.kp (hK7.mono (fun g hg => Xu_of (Or.inl (HXY.out g hg)))))
    clear hd7 hK7 hg7
    refine hK.out _ _ HS7.out.c0 (fun _ => ?_)
    clear hK Kt
    simp only [Act.put, List.getElem_toArray, List.getElem_cons_zero, List.getElem_cons_succ, List.setIfInBounds_toArray, List.set_cons_zero, List.set_cons_succ]
    refine wpAnyH_take (i := 7) (v := .int .i64 (sv D.sy 0 (mkv (K ++ Wt)) 3).2) rfl (by kernel_rfl) (by kernel_rfl) (by kernel_rfl) (fun _ _ _ h => h) (Or.inl ⟨by rfl, fun w' _ => by go_simp⟩) HS7.out.c0 ?_
    simp only [Act.put, List.getElem_toArray, List.getElem_cons_zero, List.getElem_cons_succ, List.setIfInBounds_toArray, List.set_cons_zero, List.set_cons_succ]
    refine wpAnyH_done (by kernel_rfl) ?_ _
    refine NoPanic.normal ?_
    obtain ⟨E, hE⟩ : ∃ E, E = sv D.sy 0 (mkv (K ++ Wt)) 3 := ⟨_, rfl⟩
    rw [← hE] at HR7 HCm
    rw [← hE]
    clear hE HSv HMk HS6 HL6 HR6 hS0
    go_upto_region 11 with fail
    by_cases her : E.2 = 0
    · have HK' : Hid (cmK E.2 K Wt = K ++ Wt ∧ cmW E.2 Wt = [] ∧ cmO E.2 = false) := ⟨if_pos her, if_pos her, by unfold cmO; rw [her]; rfl⟩
      have d1 := HS7.out.c1
      have d2 := HS7.out.c2
      have y1 := HS7.out.z 1 (by decide)
      have y2 := HS7.out.z 2 (by decide)
      rw [her]
      rw [HE.out.1] at d1
      rw [HE.out.2] at d2
      have HZe := hide her
      clear her
      go_wp2_with fail
      go_ret
      rw [HCm.out, HK'.out.1, HK'.out.2.1, HK'.out.2.2]
      exact ⟨by rw [HZe.out]; rfl, G7, _, _, _, _, (HR7.out.d.set (HGt.out G7 HR7.out.g) _).set (HGt.out G7 HR7.out.g) _, HR7.out.g, HS7.out.done (show Lst W7 bs (Xu Y t) (.slice za (K.length + Wt.length) ac) (K ++ Wt) (ck ++ cw) by have h := HL7.out; rw [List.length_append] at h; exact h), ((HR7.out.k.mono (fun g hg => Xu_of (Or.inl hg))).trans (kp_t _)).trans (kp_t _), fun g hg => by cases hg⟩
    · have HK' : Hid (cmK E.2 K Wt = K ∧ cmW E.2 Wt = Wt) := ⟨if_neg her, if_neg her⟩
      have hne : (E.2 != 0) = true := by simp [her]
      have hne' : (E.2 == 0) = false := by simp [her]
      have hc3 := HS7.out.c3
      have hz3 := HS7.out.z 3 (by decide)
      clear her
      go_wp2_with fail
      go_ret
      rw [HCm.out, HK'.out.1, HK'.out.2]
      exact ⟨rfl, G7, vk, vw, ck, cw, HR7.out.d.set (HGt.out G7 HR7.out.g) _, HR7.out.g, HS7.out.over _, (HR7.out.k.mono (fun g hg => Xu_of (Or.inl hg))).trans (kp_t _), fun g hg => hg⟩
  · have HCm : Hid (cm D (K ++ Wt) = (D.sy, D.syE)) := if_neg hsy
    have hne : (D.syE != 0) = true := by simp [hsy]
    have hne' : (D.syE == 0) = false := by simp [hsy]
    have HK' : Hid (cmK D.syE K Wt = K ∧ cmW D.syE Wt = Wt) := ⟨if_neg hsy, if_neg hsy⟩
    clear hsy
    go_upto_region 12 with (go_at_call 48; refine Calls.mono HCS.out ?_; rintro e W5 ⟨rfl, G5, hd5, hK5, hg5⟩; have HR5 := hide (HR2.out.next hd5 hK5 hg5); have HS5 := hide (HS2.out.kp (hK5.mono HXY.out)); clear hd5 hK5 hg5)
    have hc3 := HS5.out.c3
    have hz3 := HS5.out.z 3 (by decide)
    go_wp2_with fail
    go_ret
    rw [HCm.out]
    show RcP2 w bs t r la na cl cn zl zn Y G vw D.sy D.syE (cmK D.syE K Wt) (cmW D.syE Wt) (cmO D.syE) _ _
    rw [HK'.out.1, HK'.out.2]
    exact ⟨rfl, G5, vk, vw, ck, cw, HR5.out.d.set (HGt.out G5 HR5.out.g) _, HR5.out.g, HS5.out.over _, (HR5.out.k.mono (fun g hg => Xu_of (Or.inl hg))).trans (kp_t _), fun g hg => hg⟩
set_option maxRecDepth 100000 in
theorem commit_over2 {w : World} {bs t r : Nat} {Y : Nat → Bool} {vk vw : Value} {ck cw : List Value} {K Wt : List (List Nat)} (h : RSt w bs t r Y vk vw ck cw K Wt true) : Calls Try.prog 14 #[pp t] w fun e w' => e = .returned (.int .i64 6) ∧ w' = w := by
  have h3 := h.c3
  clear h
  go_enter Try.func14, Try.ntmps14
  go_wp2_with fail
  go_ret
  exact ⟨rfl, rfl⟩
theorem commit_none2 {w : World} {bs t r : Nat} {Y : Nat → Bool} {vk vw : Value} {ck cw : List Value} {K : List (List Nat)} (h : RSt w bs t r Y vk vw ck cw K [] false) : Calls Try.prog 14 #[pp t] w fun e w' => e = .returned (.int .i64 0) ∧ w' = w := by
  obtain ⟨zw, wc, ew, _⟩ := h.s.shape
  have h3 := h.c3
  have h2 := h.c2
  rw [ew] at h2
  clear h ew
  go_enter Try.func14, Try.ntmps14
  go_wp2_with fail
  go_ret
  exact ⟨rfl, rfl⟩
structure QWr (w : World) (r la na cl cn : Nat) (zl zn : Option Addr) (t : Nat) (G O Y : Nat → Bool) (bs : Nat) (vk vw : Value) (ck cw : List Value) (s : SM) : Prop where
  d : RDk w r la na cl cn zl zn s.D G
  p : RSt w bs t r Y vk vw ck cw s.K s.W s.o
  m : s.ok
  gt : G t = false
  gv : ∀ g, vw.ownBlock = some g → G g = false
  xy : ∀ g, X3 r la na g = true → Y g = true
  yl : ∀ g, Y g = true → g < w.heap.size
  bl : bs ≤ w.heap.size
  og : ∀ k, G k = true → O k = true
  ot : O t = true
  ow : ∀ k, vw.ownBlock = some k → O k = true
  ol : ∀ k, O k = true → k < w.heap.size
/-- The document's store and its disk: O are the blocks that their calls may write, and all the disk's, Y those that others may (and the disk's own). -/
def QW (w : World) (r la na cl cn : Nat) (zl zn : Option Addr) (t : Nat) (G O Y : Nat → Bool) (s : SM) : Prop := ∃ bs vk vw ck cw, QWr w r la na cl cn zl zn t G O Y bs vk vw ck cw s
section
variable {w w' : World} {r la na cl cn t : Nat} {zl zn : Option Addr} {G O Y : Nat → Bool} {s : SM}
/-- Others go on. -/
theorem QW.other {Z Y' : Nat → Bool} (h : QW w r la na cl cn zl zn t G O Y s) (hK : Kp Z w w') (hZ : ∀ k, Z k = true → Y k = true ∧ G k = false) (h1 : ∀ k, Y' k = true → (Y k = true ∨ w.heap.size ≤ k) ∧ k < w'.heap.size) (h2 : ∀ k, X3 r la na k = true → Y' k = true) : QW w' r la na cl cn zl zn t G O Y' s := by
  obtain ⟨bs, vk, vw, ck, cw, h⟩ := h
  have ht : Y' t = false := by
    cases hq : Y' t with
    | false => rfl
    | true =>
      rcases (h1 t hq).1 with e | e
      · rw [h.p.ty] at e; cases e
      · have := h.p.tl; omega
  have hu : ∀ k, Xu Y' t k = true → Xu Y t k = true ∨ w.heap.size ≤ k := fun k hk => by
    rcases Xu_inv hk with e | e
    · rcases (h1 k e).1 with e | e
      · exact Or.inl (Xu_of (Or.inl e))
      · exact Or.inr e
    · exact Or.inl (Xu_of (Or.inr e))
  have hm : ∀ {v : Value} (k : Nat), Xt Y' t v k = true → Xt Y t v k = true ∨ w.heap.size ≤ k := fun k hk => by
    rcases Xt_inv hk with e | e
    · rcases hu k e with e | e
      · exact Or.inl (Xt_u e)
      · exact Or.inr e
    · exact Or.inl (Xt_own e)
  have hp : RSt w bs t r (fun k => Y k || Y' k) vk vw ck cw s.K s.W s.o := by
    have hu2 : ∀ k, Xu (fun k => Y k || Y' k) t k = true → Xu Y t k = true ∨ w.heap.size ≤ k := fun k hk => by
      rcases Xu_inv hk with e | e
      · rcases Bool.or_eq_true _ _ |>.mp e with e | e
        · exact Or.inl (Xu_of (Or.inl e))
        · exact hu k (Xu_of (Or.inl e))
      · exact Or.inl (Xu_of (Or.inr e))
    have hm2 : ∀ {v : Value} (k : Nat), Xt (fun k => Y k || Y' k) t v k = true → Xt Y t v k = true ∨ w.heap.size ≤ k := fun k hk => by
      rcases Xt_inv hk with e | e
      · rcases hu2 k e with e | e
        · exact Or.inl (Xt_u e)
        · exact Or.inr e
      · exact Or.inl (Xt_own e)
    exact ⟨h.p.c0, h.p.c1, h.p.c2, h.p.c3, h.p.z, h.p.tl, by show (Y t || Y' t) = false; rw [h.p.ty, ht]; rfl, h.p.k.more hm2, h.p.s.more hu2⟩
  have hp2 := hp.kp (hK.mono (fun k hk => by show (Y k || Y' k) = true; rw [(hZ k hk).1]; rfl))
  have sub1 : ∀ k, Xu Y' t k = true → Xu (fun k => Y k || Y' k) t k = true := fun k hk => by
    rcases Xu_inv hk with e | e
    · exact Xu_of (Or.inl (by show (Y k || Y' k) = true; rw [e, Bool.or_true]))
    · exact Xu_of (Or.inr e)
  have sub : ∀ {v : Value} (k : Nat), Xt Y' t v k = true → Xt (fun k => Y k || Y' k) t v k = true := fun k hk => by
    rcases Xt_inv hk with e | e
    · exact Xt_u (sub1 k e)
    · exact Xt_own e
  refine ⟨bs, vk, vw, ck, cw, h.d.same hK.size (fun k hk => hK.block k (h.d.gl k hk) ?_), ⟨hp2.c0, hp2.c1, hp2.c2, hp2.c3, hp2.z, hp2.tl, ht, hp2.k.sub sub, hp2.s.sub sub1⟩, h.m, h.gt, h.gv, h2, fun g hg => (h1 g hg).2, Nat.le_trans h.bl hK.size, h.og, h.ot, h.ow, fun k hk => Nat.lt_of_lt_of_le (h.ol k hk) hK.size⟩
  cases hq : Z k with
  | false => rfl
  | true => have := (hZ k hq).2; rw [hk] at this; cases this
theorem QW.keep (h : QW w r la na cl cn zl zn t G O Y s) (hB : Below w.heap.size w w') : QW w' r la na cl cn zl zn t G O Y s := by
  have hh := h
  obtain ⟨bs, vk, vw, ck, cw, g⟩ := hh
  exact h.other (Kp.of (X := fun _ => false) hB) (fun k hk => by cases hk) (fun k hk => ⟨Or.inl hk, Nat.lt_of_lt_of_le (g.yl k hk) hB.size⟩) g.xy
theorem QW.grown (h : QW w r la na cl cn zl zn t G O Y s) (hB : Below w.heap.size w w') : QW w' r la na cl cn zl zn t G (grow O w w') Y s := by
  obtain ⟨bs, vk, vw, ck, cw, g⟩ := h.keep hB
  exact ⟨bs, vk, vw, ck, cw, g.d, g.p, g.m, g.gt, g.gv, g.xy, g.yl, g.bl, fun k hk => grow_of.2 (Or.inl (g.og k hk)), grow_of.2 (Or.inl g.ot), fun k hk => grow_of.2 (Or.inl (g.ow k hk)), fun k hk => by
    rcases grow_of.1 hk with e | e
    · exact g.ol k e
    · exact e.2⟩
theorem QW.rdk (h : QW w r la na cl cn zl zn t G O Y s) : RDk w r la na cl cn zl zn s.D G := by
  obtain ⟨bs, vk, vw, ck, cw, h⟩ := h
  exact h.d
theorem QW.ok (h : QW w r la na cl cn zl zn t G O Y s) : s.ok := by
  obtain ⟨bs, vk, vw, ck, cw, h⟩ := h
  exact h.m
/-- The disk is turned. -/
theorem QW.disk {D' : DM} {G' : Nat → Bool} (h : QW w r la na cl cn zl zn t G O Y s) (hd : RDk w' r la na cl cn zl zn D' G') (hK : Kp (X3 r la na) w w') (hG : ∀ k, G' k = true → G k = true ∨ w.heap.size ≤ k) (hs : SM.ok { s with D := D' }) : QW w' r la na cl cn zl zn t G' (grow O w w') Y { s with D := D' } := by
  obtain ⟨bs, vk, vw, ck, cw, h⟩ := h
  have hp := h.p.kp (hK.mono h.xy)
  have hf : ∀ k, k < w.heap.size → G k = false → G' k = false := fun k hk h5 => by
    cases hq : G' k with
    | false => rfl
    | true =>
      rcases hG k hq with e | e
      · rw [h5] at e; cases e
      · omega
  exact ⟨bs, vk, vw, ck, cw, hd, hp, hs, hf t h.p.tl h.gt, fun g hg => hf g (h.p.s.o.lt g hg).2 (h.gv g hg), h.xy, fun g hg => Nat.lt_of_lt_of_le (h.yl g hg) hK.size, Nat.le_trans h.bl hK.size, fun k hk => by
    rcases hG k hk with e | e
    · exact grow_of.2 (Or.inl (h.og k e))
    · exact grow_of.2 (Or.inr ⟨e, hd.gl k hk⟩), grow_of.2 (Or.inl h.ot), fun k hk => grow_of.2 (Or.inl (h.ow k hk)), fun k hk => by
    rcases grow_of.1 hk with e | e
    · exact Nat.lt_of_lt_of_le (h.ol k e) hK.size
    · exact e.2⟩
def AqW (w : World) (r la na cl cn : Nat) (zl zn : Option Addr) (t : Nat) (O Y : Nat → Bool) (s : SM) (er : Int) (e : Ending) (w' : World) : Prop := e = .returned (.int .i64 er) ∧ (∃ G', QW w' r la na cl cn zl zn t G' (grow O w w') Y s) ∧ Kp O w w'
theorem ap_qw (h : QW w r la na cl cn zl zn t G O Y s) {x : Option Addr} {m c : Nat} {f : Nat → Nat} (hb : BA w x m f) (hz : 0 < m → ∀ p, x = some p → X3 r la na p.block = false) : Calls Try.prog 12 #[pp t, .slice x m c] w (AqW w r la na cl cn zl zn t O Y (s.ap (fl f m)) (s.apE (fl f m))) := by
  have hh := h
  obtain ⟨bs, vk, vw, ck, cw, g⟩ := hh
  obtain ⟨z1, z2, z3, z4, z5⟩ := g.m.sizes (Nat.le_refl _) g.d.ok.n
  have hlen : (fl f m).length = m := fl_len f m
  have hp := g.p
  have hsk : short s.K := SM.short g.m
  have hsw : short s.W := fun l hl => by have := g.m.w l hl; omega
  cases ho : s.o with
  | true =>
    have e1 : s.ap (fl f m) = s := if_pos ho
    have e2 : s.apE (fl f m) = 6 := if_pos ho
    rw [e1, e2]
    rw [ho] at hp
    refine Calls.mono (append_over2 hp _) ?_
    rintro e w2 ⟨rfl, rfl⟩
    exact ⟨rfl, ⟨G, h.grown (Below.refl _ _)⟩, Kp.refl _ _⟩
  | false =>
    have ho' : ¬ (s.o = true) := by rw [ho]; decide
    rw [ho] at hp
    by_cases hm : 200 < m
    · have e1 : s.ap (fl f m) = s := (if_neg ho').trans (if_pos (by rw [hlen]; exact hm))
      have e2 : s.apE (fl f m) = 4 := (if_neg ho').trans (if_pos (by rw [hlen]; exact hm))
      rw [e1, e2]
      refine Calls.mono (append_long2 hp hm) ?_
      rintro e w2 ⟨rfl, rfl⟩
      exact ⟨rfl, ⟨G, h.grown (Below.refl _ _)⟩, Kp.refl _ _⟩
    · by_cases hf : s.D.n < 3 + tks s.K + tks s.W + tk m
      · have e1 : s.ap (fl f m) = s := (if_neg ho').trans ((if_neg (by rw [hlen]; exact hm)).trans (if_pos (by rw [hlen]; exact hf)))
        have e2 : s.apE (fl f m) = 5 := (if_neg ho').trans ((if_neg (by rw [hlen]; exact hm)).trans (if_pos (by rw [hlen]; exact hf)))
        rw [e1, e2]
        refine Calls.mono (append_full2 hp g.d ⟨hsk, by omega⟩ ⟨hsw, by omega⟩ (by omega) hf) ?_
        rintro e w2 ⟨rfl, hB⟩
        exact ⟨rfl, ⟨G, h.grown hB⟩, Kp.of hB⟩
      · have e0 : apx s (fl f m) = apw s.D (3 + tks s.K + tks s.W) f m (tk m) := by
          unfold apx
          rw [hlen]
          exact (apw_congr (fl_get rfl).2 _ _ _).symm
        have e1 : s.ap (fl f m) = ⟨(apx s (fl f m)).1, s.K, apW (apx s (fl f m)).2 s.W (fl f m), cmO (apx s (fl f m)).2⟩ := (if_neg ho').trans ((if_neg (by rw [hlen]; exact hm)).trans (if_neg (by rw [hlen]; exact hf)))
        have e2 : s.apE (fl f m) = (apx s (fl f m)).2 := (if_neg ho').trans ((if_neg (by rw [hlen]; exact hm)).trans (if_neg (by rw [hlen]; exact hf)))
        have hok := (SM.ap_ok g.m (fl f m)).1
        rw [e1, e2]
        rw [e1] at hok
        rw [e0] at hok ⊢
        refine Calls.mono (append_n2 hp g.d g.xy g.yl g.bl g.gt g.gv ⟨hsk, by omega⟩ ⟨hsw, z5⟩ hb hz (by omega) (by omega)) ?_
        rintro e w2 ⟨rfl, G', vw', cw', h1, h2, h3, h4, h5, h6⟩
        have hO : ∀ k, Xt (X3 r la na) t vw k = true → O k = true := fun k hk => by
          rcases Xt_inv hk with e | e
          · rcases Xu_inv e with e | e
            · exact g.og k (g.d.gx k e)
            · rw [e]; exact g.ot
          · exact g.ow k e
        refine ⟨rfl, ⟨G', bs, vk, vw', ck, cw', h1, h3, hok, ?_, h6, g.xy, fun k hk => Nat.lt_of_lt_of_le (g.yl k hk) h4.size, Nat.le_trans g.bl h4.size, fun k hk => ?_, grow_of.2 (Or.inl g.ot), fun k hk => ?_, fun k hk => ?_⟩, h4.mono hO⟩
        · cases hq : G' t with
          | false => rfl
          | true =>
            rcases h2 t hq with e | e
            · rw [g.gt] at e; cases e
            · have := g.p.tl; omega
        · rcases h2 k hk with e | e
          · exact grow_of.2 (Or.inl (g.og k e))
          · exact grow_of.2 (Or.inr ⟨e, h1.gl k hk⟩)
        · rcases h5 with e | ⟨g2, e, hle⟩
          · exact grow_of.2 (Or.inl (g.ow k (e.symm.trans hk)))
          · rw [e] at hk
            cases hk
            exact grow_of.2 (Or.inr ⟨hle, (h3.s.o.lt _ e).2⟩)
        · rcases grow_of.1 hk with e | e
          · exact Nat.lt_of_lt_of_le (g.ol k e) h4.size
          · exact e.2
theorem co_qw (h : QW w r la na cl cn zl zn t G O Y s) : Calls Try.prog 14 #[pp t] w (AqW w r la na cl cn zl zn t O Y s.co s.coE) := by
  have hh := h
  obtain ⟨bs, vk, vw, ck, cw, g⟩ := hh
  have hp := g.p
  have hO : ∀ k, Xu (X3 r la na) t k = true → O k = true := fun k hk => by
    rcases Xu_inv hk with e | e
    · exact g.og k (g.d.gx k e)
    · rw [e]; exact g.ot
  have fin : ∀ {s' : SM} {G' : Nat → Bool} {vk' vw' : Value} {ck' cw' : List Value} {w2 : World}, s'.ok → RDk w2 r la na cl cn zl zn s'.D G' → (∀ k, G' k = true → G k = true ∨ w.heap.size ≤ k) → RSt w2 bs t r Y vk' vw' ck' cw' s'.K s'.W s'.o → Kp (Xu (X3 r la na) t) w w2 → (∀ g, vw'.ownBlock = some g → vw.ownBlock = some g) → QW w2 r la na cl cn zl zn t G' (grow O w w2) Y s' ∧ Kp O w w2 := fun {s' G' vk' vw' ck' cw' w2} hm h1 h2 h3 h4 h5 => by
    have hf : ∀ k, k < w.heap.size → G k = false → G' k = false := fun k hk h6 => by
      cases hq : G' k with
      | false => rfl
      | true =>
        rcases h2 k hq with e | e
        · rw [h6] at e; cases e
        · omega
    refine ⟨⟨bs, vk', vw', ck', cw', h1, h3, hm, hf t g.p.tl g.gt, fun k hk => hf k (g.p.s.o.lt k (h5 k hk)).2 (g.gv k (h5 k hk)), g.xy, fun k hk => Nat.lt_of_lt_of_le (g.yl k hk) h4.size, Nat.le_trans g.bl h4.size, fun k hk => ?_, grow_of.2 (Or.inl g.ot), fun k hk => grow_of.2 (Or.inl (g.ow k (h5 k hk))), fun k hk => ?_⟩, h4.mono hO⟩
    · rcases h2 k hk with e | e
      · exact grow_of.2 (Or.inl (g.og k e))
      · exact grow_of.2 (Or.inr ⟨e, h1.gl k hk⟩)
    · rcases grow_of.1 hk with e | e
      · exact Nat.lt_of_lt_of_le (g.ol k e) h4.size
      · exact e.2
  cases ho : s.o with
  | true =>
    have e1 : s.co = s := if_pos ho
    have e2 : s.coE = 6 := if_pos ho
    rw [e1, e2]
    rw [ho] at hp
    refine Calls.mono (commit_over2 hp) ?_
    rintro e w2 ⟨rfl, rfl⟩
    exact ⟨rfl, ⟨G, h.grown (Below.refl _ _)⟩, Kp.refl _ _⟩
  | false =>
    have ho' : ¬ (s.o = true) := by rw [ho]; decide
    rw [ho] at hp
    by_cases hw : s.W = []
    · have e1 : s.co = s := (if_neg ho').trans (if_pos hw)
      have e2 : s.coE = 0 := (if_neg ho').trans (if_pos hw)
      rw [e1, e2]
      rw [hw] at hp
      refine Calls.mono (commit_none2 hp) ?_
      rintro e w2 ⟨rfl, rfl⟩
      exact ⟨rfl, ⟨G, h.grown (Below.refl _ _)⟩, Kp.refl _ _⟩
    · have e1 : s.co = ⟨(cm s.D (s.K ++ s.W)).1, cmK (cm s.D (s.K ++ s.W)).2 s.K s.W, cmW (cm s.D (s.K ++ s.W)).2 s.W, cmO (cm s.D (s.K ++ s.W)).2⟩ := (if_neg ho').trans (if_neg hw)
      have e2 : s.coE = (cm s.D (s.K ++ s.W)).2 := (if_neg ho').trans (if_neg hw)
      have hok := SM.co_ok g.m
      rw [e1, e2]
      rw [e1] at hok
      obtain ⟨z1, z2, z3, z4, z5⟩ := g.m.sizes (Nat.le_refl _) g.d.ok.n
      refine Calls.mono (commit_any2 hp g.d g.xy g.yl g.bl (fun l hl => by
        rcases List.mem_append.1 hl with e | e
        · have := g.m.k l e; omega
        · have := g.m.w l e; omega) (by rw [List.length_append]; omega) hw g.gt) ?_
      rintro e w2 ⟨rfl, G', vk', vw', ck', cw', h1, h2, h3, h4, h5⟩
      have hq := fin hok h1 h2 h3 h4 h5
      exact ⟨rfl, ⟨G', hq.1⟩, hq.2⟩
end
/-- What the document's Open answers. -/
def OqW (w : World) (r la na cl cn : Nat) (zl zn : Option Addr) (G Y : Nat → Bool) (D : DM) (e : Ending) (w' : World) : Prop := ∃ G', (∀ k, G' k = true → G k = true ∨ (w.heap.size ≤ k ∧ k < w'.heap.size)) ∧ Kp (X3 r la na) w w' ∧ RDk w' r la na cl cn zl zn (D.mendD 0) G' ∧ ((D.opE = 0 ∧ ∃ t, e = .returned (.tuple #[pp t, .int .i64 0]) ∧ QW w' r la na cl cn zl zn t G' (grow G w w') Y ⟨D.mendD 0, D.opL, [], false⟩) ∨ (D.opE ≠ 0 ∧ e = .returned (.tuple #[.pointer none, .int .i64 D.opE])))
end Go.Proofs.Ytpophfeommlajaa
namespace Go.Proofs.Ytpophfeommlajaa
open Go.RowKit Go.Maps

theorem open_qw {w : World} {r la na cl cn : Nat} {zl zn : Option Addr} {D : DM} {G Y : Nat → Bool} (h : RDk w r la na cl cn zl zn D G) (hxy : ∀ g, X3 r la na g = true → Y g = true) (hyl : ∀ g, Y g = true → g < w.heap.size) (hok : D.opE = 0 → SM.ok ⟨D.mendD 0, D.opL, [], false⟩) : Calls Try.prog 9 #[pp r] w (OqW w r la na cl cn zl zn G Y D) := by
  refine Calls.mono (ref_open h) ?_
  rintro e w' ⟨W, G1, h1, h2, h3⟩
  have hs := Nat.le_trans h1.k.size h2.size
  have hG : ∀ k, G1 k = true → G k = true ∨ (w.heap.size ≤ k ∧ k < w'.heap.size) := fun k hk => by
    rcases h1.g k hk with e | e
    · exact Or.inl e
    · exact Or.inr ⟨e, Nat.lt_of_lt_of_le (h1.d.gl k hk) h2.size⟩
  refine ⟨G1, hG, h1.k.trans (Kp.of h2), h1.d.keep h2, h3.imp ?_ id⟩
  rintro ⟨g1, t, vk, ck, rfl, g2⟩
  refine ⟨g1, t, rfl, W.heap.size, vk, .slice none 0 0, ck, [], h1.d.keep h2, g2.st (fun g hg => Nat.lt_of_lt_of_le (hyl g hg) h1.k.size), hok g1, ?_, fun k hk => (by cases hk), hxy, fun k hk => Nat.lt_of_lt_of_le (hyl k hk) hs, h2.size, fun k hk => grow_of.2 (hG k hk), grow_of.2 (Or.inr ⟨Nat.le_trans h1.k.size g2.tg, g2.tl⟩), fun k hk => (by cases hk), fun k hk => ?_⟩
  · cases hq : G1 t with
    | false => rfl
    | true => have := h1.d.gl t hq; have := g2.tg; omega
  · rcases grow_of.1 hk with e | e
    · exact Nat.lt_of_lt_of_le (h.gl k e) hs
    · exact e.2
theorem room_qw {w : World} {r la na cl cn t : Nat} {zl zn : Option Addr} {G O Y : Nat → Bool} {s : SM} (h : QW w r la na cl cn zl zn t G O Y s) : Calls Try.prog 37 #[pp t] w fun e w' => e = .returned (.int .i64 ((s.D.n : Int) - 3 - (tks s.K : Int) - (tks s.W : Int))) ∧ Below w.heap.size w w' := by
  obtain ⟨bs, vk, vw, ck, cw, g⟩ := h
  obtain ⟨z1, z2, z3, z4, z5⟩ := g.m.sizes (Nat.le_refl _) g.d.ok.n
  exact ref_room g.p g.d ⟨SM.short g.m, by omega⟩ ⟨fun l hl => by have := g.m.w l hl; omega, by omega⟩
end Go.Proofs.Ytpophfeommlajaa
