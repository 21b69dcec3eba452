/- Layer 15, pure: what the calls of a store do; disks without a fuse. -/
import Derived.Test.YtjgpopjpmfkfmaaP15L
import Derived.Test.YtjgpopjpmfkfmaaN14M
namespace Go.Proofs.Ytjgpopjpmfkfmaa

theorem md2_free {D : DM} (h : D.free) {a : Nat} (ha : a + 2 < D.n) {B : Nat → List Nat} {v : List Nat} (hv : sec v) : ∀ j, j ≤ 3 → (md2 D a B v j).2 = 0 ∧ (md2 D a B v j).1.free ∧ (md2 D a B v j).1.n = D.n
  | 0, _ => ⟨rfl, h, rfl⟩
  | j + 1, hj => by
    obtain ⟨e, h1, h2⟩ := md2_free h ha hv (B := B) j (by omega)
    by_cases hb : B j = v
    · have es : md2 D a B v (j + 1) = md2 D a B v j := (if_pos e).trans (if_pos hb)
      rw [es]
      exact ⟨e, h1, h2⟩
    · have es : md2 D a B v (j + 1) = ((md2 D a B v j).1.ws ((a : Int) + (j : Int)) v, (md2 D a B v j).1.wsE ((a : Int) + (j : Int)) v) := (if_pos e).trans (if_neg hb)
      have c : ((a : Int) + (j : Int)) = ((a + j : Nat) : Int) := by omega
      rw [es, c]
      obtain ⟨g1, g2, g3, _⟩ := ws_free h1 (i := a + j) (by rw [h2]; omega) hv
      exact ⟨g1, g2, g3.trans h2⟩
theorem mend_free {D : DM} (h : D.free) (ho : D.ok) (hn : 2 < D.n) : D.mendE 0 = 0 ∧ (D.mendD 0).free ∧ (D.mendD 0).n = D.n := by
  have hl : D.ldE 0 = 0 := (ld_free h (a := 0) hn).1
  have e1 : D.mendE 0 = (md2 D 0 (D.three 0) (D.ldB 0) 3).2 := if_pos hl
  have e2 : D.mendD 0 = (md2 D 0 (D.three 0) (D.ldB 0) 3).1 := if_pos hl
  rw [e1, e2]
  exact md2_free h (a := 0) hn (ldB_sec ho hl) 3 (by omega)
theorem apw_free {D : DM} (h : D.free) {p : Nat} {f : Nat → Nat} (hf : ∀ i, f i < 256) {m : Nat} (hm : m ≤ 200) : ∀ j, p + j ≤ D.n → (apw D p f m j).2 = 0 ∧ (apw D p f m j).1.free ∧ (apw D p f m j).1.n = D.n
  | 0, _ => ⟨rfl, h, rfl⟩
  | j + 1, hj => by
    obtain ⟨e, h1, h2⟩ := apw_free h (p := p) hf hm j (by omega)
    rw [apw_step e, show (p : Int) + (j : Int) = ((p + j : Nat) : Int) by omega]
    have hs := esec_sec hf hm j
    obtain ⟨g1, g2, g3, _⟩ := wr_free h1 (i := p + j) (by rw [h2]; omega) hs
    rw [hs.1] at g1
    exact ⟨g1, g2, g3.trans h2⟩
theorem cm_free {D : DM} (h : D.free) (hn : 2 < D.n) (M : List (List Nat)) : (cm D M).2 = 0 ∧ (cm D M).1.free ∧ (cm D M).1.n = D.n := by
  obtain ⟨h1, h2, h3, _⟩ := sy_free' h
  have e : cm D M = sv D.sy 0 (mkv M) 3 := if_pos h1
  rw [e]
  obtain ⟨g1, g2, g3, _⟩ := sv_free h2 (a := 0) (by rw [h3]; exact hn) (mkv_sec M) 3 (by omega)
  exact ⟨g1, g2, g3.trans h3⟩
/-- The errors that there are. -/
theorem wr_06 (D : DM) {i : Nat} (hi : i < D.n) : D.wrE (i : Int) 64 = 0 ∨ D.wrE (i : Int) 64 = 6 := by
  unfold DM.wrE
  split
  · exact Or.inr rfl
  · rw [if_pos (by omega), if_pos rfl]
    split
    · exact Or.inl rfl
    · exact Or.inr rfl
theorem apw_06 (D : DM) (p : Nat) (f : Nat → Nat) (m : Nat) : ∀ j, p + j ≤ D.n → (apw D p f m j).2 = 0 ∨ (apw D p f m j).2 = 6
  | 0, _ => Or.inl rfl
  | j + 1, hj => by
    rcases apw_06 D p f m j (by omega) with e | e
    · rw [apw_step e, show (p : Int) + (j : Int) = ((p + j : Nat) : Int) by omega]
      exact wr_06 _ (by rw [(apw_la D p f m j).2.1]; omega)
    · have es : apw D p f m (j + 1) = apw D p f m j := if_neg (by rw [e]; decide)
      rw [es]
      exact Or.inr e
theorem sy_06 (D : DM) : D.syE = 0 ∨ D.syE = 6 := by
  unfold DM.syE
  split
  · exact Or.inr rfl
  · split
    · exact Or.inl rfl
    · exact Or.inr rfl
theorem sy_n' (D : DM) : D.sy.n = D.n := by
  unfold DM.sy
  split
  · rfl
  · split
    · show D.burn.n = D.n
      exact burn_n D
    · exact burn_n D
theorem ws_06 (D : DM) {i : Nat} (hi : i < D.n) {l : List Nat} (hl : l.length = 64) : D.wsE (i : Int) l = 0 ∨ D.wsE (i : Int) l = 6 := by
  unfold DM.wsE
  split
  · exact sy_06 _
  · rw [hl]
    exact wr_06 D hi
theorem ws_n (D : DM) (i : Int) (l : List Nat) : (D.ws i l).n = D.n := by
  unfold DM.ws
  have h1 := (wr_la' D i l).2
  split
  · rw [sy_n']
    exact h1
  · exact h1
theorem sv_06 (D : DM) {v : List Nat} (hv : v.length = 64) (hn : 2 < D.n) : ∀ j, j ≤ 3 → ((sv D 0 v j).2 = 0 ∨ (sv D 0 v j).2 = 6) ∧ (sv D 0 v j).1.n = D.n
  | 0, _ => ⟨Or.inl rfl, rfl⟩
  | j + 1, hj => by
    obtain ⟨h1, h2⟩ := sv_06 D hv hn j (by omega)
    rcases h1 with e | e
    · have es : sv D 0 v (j + 1) = ((sv D 0 v j).1.ws (0 + (j : Int)) v, (sv D 0 v j).1.wsE (0 + (j : Int)) v) := if_pos e
      rw [es, Int.zero_add]
      exact ⟨ws_06 _ (by rw [h2]; omega) hv, (ws_n _ _ _).trans h2⟩
    · have es : sv D 0 v (j + 1) = sv D 0 v j := if_neg (by rw [e]; decide)
      rw [es]
      exact ⟨Or.inr e, h2⟩
theorem cm_06 (D : DM) (M : List (List Nat)) (hn : 2 < D.n) : ((cm D M).2 = 0 ∨ (cm D M).2 = 6) ∧ (cm D M).1.n = D.n := by
  by_cases hs : D.syE = 0
  · have e : cm D M = sv D.sy 0 (mkv M) 3 := if_pos hs
    have h3 : D.sy.n = D.n := sy_n' D
    rw [e]
    obtain ⟨g1, g2⟩ := sv_06 D.sy (mkv_sec M).1 (by rw [h3]; exact hn) 3 (by omega)
    exact ⟨g1, g2.trans h3⟩
  · rw [cm_not hs]
    exact ⟨sy_06 D, sy_n' D⟩
theorem apw_congr {f h : Nat → Nat} {m : Nat} (e : ∀ i, i < m → f i = h i) (D : DM) (p : Nat) : ∀ j, apw D p f m j = apw D p h m j
  | 0 => rfl
  | j + 1 => by
    show (if (apw D p f m j).2 = 0 then ((apw D p f m j).1.wr ((p + j : Nat) : Int) (esec f m j), (apw D p f m j).1.wrE ((p + j : Nat) : Int) 64) else apw D p f m j) = (if (apw D p h m j).2 = 0 then ((apw D p h m j).1.wr ((p + j : Nat) : Int) (esec h m j), (apw D p h m j).1.wrE ((p + j : Nat) : Int) 64) else apw D p h m j)
    rw [apw_congr e D p j, esec_congr e j]
/-- The model of a store: its disk, what is kept, what waits, whether it is over. -/
structure SM where
  D : DM
  K : List (List Nat)
  W : List (List Nat)
  o : Bool
/-- Append: what it answers, and what it leaves. -/
def apx (s : SM) (l : List Nat) : DM × Int := apw s.D (3 + tks s.K + tks s.W) (fun i => l.getD i 0) l.length (tk l.length)
def SM.apE (s : SM) (l : List Nat) : Int := if s.o then 6 else if 200 < l.length then 4 else if s.D.n < 3 + tks s.K + tks s.W + tk l.length then 5 else (apx s l).2
def SM.ap (s : SM) (l : List Nat) : SM := if s.o then s else if 200 < l.length then s else if s.D.n < 3 + tks s.K + tks s.W + tk l.length then s else ⟨(apx s l).1, s.K, apW (apx s l).2 s.W l, cmO (apx s l).2⟩
/-- Commit. -/
def SM.coE (s : SM) : Int := if s.o then 6 else if s.W = [] then 0 else (cm s.D (s.K ++ s.W)).2
def SM.co (s : SM) : SM := if s.o then s else if s.W = [] then s else ⟨(cm s.D (s.K ++ s.W)).1, cmK (cm s.D (s.K ++ s.W)).2 s.K s.W, cmW (cm s.D (s.K ++ s.W)).2 s.W, cmO (cm s.D (s.K ++ s.W)).2⟩
/-- What is always so. -/
structure SM.ok (s : SM) : Prop where
  n : 3 + tks s.K + tks s.W ≤ s.D.n
  k : ∀ l ∈ s.K, l.length ≤ 200
  w : ∀ l ∈ s.W, l.length ≤ 200
  s : s.o = false → s.D.dn = false → stl s.D (3 + tks s.K) s.W
theorem SM.ap_ok {s : SM} (h : s.ok) (l : List Nat) : (s.ap l).ok ∧ (s.ap l).K = s.K := by
  unfold SM.ap
  split
  · exact ⟨h, rfl⟩
  · rename_i ho
    split
    · exact ⟨h, rfl⟩
    · rename_i hl
      split
      · exact ⟨h, rfl⟩
      · rename_i hn
        refine ⟨?_, rfl⟩
        have hla := apw_la s.D (3 + tks s.K + tks s.W) (fun i => l.getD i 0) l.length (tk l.length)
        have e0 : fl (fun i => l.getD i 0) l.length = l := by have := fl_getD l; simp only [Nat.zero_add] at this; exact this
        rcases apw_06 s.D (3 + tks s.K + tks s.W) (fun i => l.getD i 0) l.length (tk l.length) (by omega) with e | e
        · have e1 : apW (apx s l).2 s.W l = s.W ++ [l] := if_pos e
          have e2 : cmO (apx s l).2 = false := by unfold apx; rw [e]; decide
          have ht : tks (s.W ++ [l]) = tks s.W + tk l.length := by rw [tks_app]; rfl
          refine ⟨?_, h.k, ?_, ?_⟩
          · show 3 + tks s.K + tks (apW (apx s l).2 s.W l) ≤ (apx s l).1.n
            rw [e1, ht]
            unfold apx
            rw [hla.2.1]
            omega
          · show ∀ x ∈ apW (apx s l).2 s.W l, x.length ≤ 200
            rw [e1]
            intro x hx
            rcases List.mem_append.1 hx with h1 | h1
            · exact h.w x h1
            · rw [List.mem_singleton.1 h1]; omega
          · intro _ hd
            show stl (apx s l).1 (3 + tks s.K) (apW (apx s l).2 s.W l)
            rw [e1]
            have hd0 : s.D.dn = false := by
              cases hq : s.D.dn with
              | false => rfl
              | true => rw [apw_down hq] at e; cases e
            obtain ⟨_, hc⟩ := apw_ok e hd0
            have hn' : (apx s l).1.n = s.D.n := hla.2.1
            refine stl_app (stl_congr hn' (h.s (by cases hq : s.o with | false => rfl | true => rw [hq] at ho; exact absurd rfl ho) hd0) (fun k h1 h2 => ?_)) (fun j hj => ?_)
            · show DM.cur (apw _ _ _ _ _).1 k = _
              rw [hc k, if_neg (by omega)]
            · refine ⟨by rw [hn']; omega, ?_⟩
              show DM.cur (apw _ _ _ _ _).1 _ = _
              rw [hc, if_pos (by omega), show 3 + tks s.K + tks s.W + j - (3 + tks s.K + tks s.W) = j by omega]
        · have e1 : apW (apx s l).2 s.W l = s.W := if_neg (by unfold apx; rw [e]; decide)
          have e2 : cmO (apx s l).2 = true := by unfold apx; rw [e]; decide
          refine ⟨?_, h.k, ?_, ?_⟩
          · show 3 + tks s.K + tks (apW (apx s l).2 s.W l) ≤ (apx s l).1.n
            rw [e1]
            unfold apx
            rw [hla.2.1]
            exact h.n
          · show ∀ x ∈ apW (apx s l).2 s.W l, x.length ≤ 200
            rw [e1]
            exact h.w
          · intro ho2
            have ho2 : cmO (apx s l).2 = false := ho2
            rw [e2] at ho2
            cases ho2
theorem SM.co_ok {s : SM} (h : s.ok) : s.co.ok := by
  unfold SM.co
  split
  · exact h
  · split
    · exact h
    · obtain ⟨g1, g2⟩ := cm_06 s.D (s.K ++ s.W) (by have := h.n; omega)
      rcases g1 with e | e
      · have e1 : cmK (cm s.D (s.K ++ s.W)).2 s.K s.W = s.K ++ s.W := if_pos e
        have e2 : cmW (cm s.D (s.K ++ s.W)).2 s.W = [] := if_pos e
        rw [e1, e2]
        refine ⟨?_, ?_, fun l hl => by simp at hl, fun _ _ => trivial⟩
        · show 3 + tks (s.K ++ s.W) + 0 ≤ DM.n _
          rw [g2, tks_app]
          have := h.n
          omega
        · intro l hl
          rcases List.mem_append.1 hl with h1 | h1
          · exact h.k l h1
          · exact h.w l h1
      · have e1 : cmK (cm s.D (s.K ++ s.W)).2 s.K s.W = s.K := if_neg (by rw [e]; decide)
        have e2 : cmW (cm s.D (s.K ++ s.W)).2 s.W = s.W := if_neg (by rw [e]; decide)
        have e3 : cmO (cm s.D (s.K ++ s.W)).2 = true := by rw [e]; decide
        rw [e1, e2, e3]
        refine ⟨?_, h.k, h.w, fun ho => by cases ho⟩
        show 3 + tks s.K + tks s.W ≤ DM.n _
        rw [g2]
        exact h.n
end Go.Proofs.Ytjgpopjpmfkfmaa
