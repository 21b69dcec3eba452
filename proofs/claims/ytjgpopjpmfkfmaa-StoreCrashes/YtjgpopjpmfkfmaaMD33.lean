/- Layer 13: the document's Write. Layer 13: the document's Sync. Layer 15, pure: what a store's calls do to a disk's model; what a crash leaves. (Made ahead.) -/
import Derived.Test.YtjgpopjpmfkfmaaMD31
import Derived.Test.YtjgpopjpmfkfmaaMD32
import Derived.Test.YtjgpopjpmfkfmaaMD30
namespace Go.Proofs.Ytjgpopjpmfkfmaa
set_option maxRecDepth 100000
open Go.RowKit Go.Maps
attribute [local go_sem ↓] Go.wp_at_zero Go.wp_at_succ

/-- What a call on the document's disk leaves. -/
def RwP (w : World) (r la na cl cn : Nat) (zl zn : Option Addr) (D : DM) (G : Nat → Bool) (er : Int) (e : Ending) (w' : World) : Prop := e = .returned (.int .i64 er) ∧ ∃ G', RDk w' r la na cl cn zl zn D G' ∧ Kp (X3 r la na) w w' ∧ ∀ k, G' k = true → G k = true ∨ w.heap.size ≤ k
end Go.Proofs.Ytjgpopjpmfkfmaa
namespace Go.Proofs.Ytjgpopjpmfkfmaa
set_option maxRecDepth 100000
open Go.RowKit Go.Maps
attribute [local go_sem ↓] Go.wp_at_zero Go.wp_at_succ

end Go.Proofs.Ytjgpopjpmfkfmaa
namespace Go.Proofs.Ytjgpopjpmfkfmaa
set_option maxRecDepth 100000

theorem wr_ok {D : DM} {i : Int} {l : List Nat} (h : D.wrE i l.length = 0) : D.dn = false ∧ 0 ≤ i ∧ i < D.n ∧ l.length = 64 ∧ (D.wr i l).dn = false ∧ (D.wr i l).n = D.n ∧ (D.wr i l).la = D.la ∧ (D.wr i l).nw = upd D.nw i.toNat (some l) := by
  unfold DM.wrE at h
  split at h
  · cases h
  · rename_i hd
    have hd' : D.dn = false := by simpa using hd
    split at h
    · rename_i hi
      split at h
      · rename_i hl
        split at h
        · rename_i hm
          have e : D.wr i l = { D.burn with nw := upd D.nw i.toNat (some l) } := by
            unfold DM.wr
            rw [if_neg hd, if_pos hi, if_pos hl, if_pos hm]
          rw [e]
          refine ⟨hd', hi.1, hi.2, hl, ?_, burn_n D, burn_la D, rfl⟩
          show D.burn.dn = false
          unfold DM.burn
          unfold DM.may at hm
          split
          · exact hd'
          · rename_i hf; rw [hf] at hm; cases hm
          · exact hd'
        · cases h
      · cases h
    · cases h
theorem sy_ok {D : DM} (h : D.syE = 0) : D.dn = false ∧ D.sy.calm ∧ D.sy.n = D.n ∧ D.sy.la = D.cur := by
  unfold DM.syE at h
  split at h
  · cases h
  · rename_i hd
    have hd' : D.dn = false := by simpa using hd
    split at h
    · rename_i hm
      have e : D.sy = { D.burn with la := fun i => (D.nw i).getD (D.la i), nw := fun _ => none } := by
        unfold DM.sy
        rw [if_neg hd, if_pos hm]
      rw [e]
      refine ⟨hd', ⟨rfl, ?_⟩, burn_n D, rfl⟩
      show D.burn.dn = false
      unfold DM.burn
      unfold DM.may at hm
      split
      · exact hd'
      · rename_i hf; rw [hf] at hm; cases hm
      · exact hd'
    · cases h
theorem calm_cur {D : DM} (h : D.calm) : D.cur = D.la := by
  funext k
  unfold DM.cur
  rw [h.nw]
  rfl
theorem ws_ok {D : DM} {i : Nat} {l : List Nat} (h : D.wsE (i : Int) l = 0) : D.dn = false ∧ i < D.n ∧ l.length = 64 ∧ (D.ws (i : Int) l).calm ∧ (D.ws (i : Int) l).n = D.n ∧ ∀ k, (D.ws (i : Int) l).cur k = if k = i then l else D.cur k := by
  unfold DM.wsE at h
  split at h
  · rename_i hw
    obtain ⟨h1, h2, h3, h4, h5, h6, h7, h8⟩ := wr_ok hw
    obtain ⟨g1, g2, g3, g4⟩ := sy_ok h
    have e : D.ws (i : Int) l = (D.wr (i : Int) l).sy := if_pos hw
    rw [e]
    refine ⟨h1, by omega, h4, g2, g3.trans h6, fun k => ?_⟩
    rw [calm_cur g2, g4]
    unfold DM.cur
    rw [h7, h8]
    unfold upd
    rw [Int.toNat_natCast]
    by_cases e : k = i
    · rw [if_pos e, if_pos e]; rfl
    · rw [if_neg e, if_neg e]
  · rename_i hw; exact absurd h hw
theorem rd_up {D : DM} (h : D.dn = false) {i : Nat} (hi : i < D.n) : D.rdE (i : Int) = 0 ∧ D.rdB (i : Int) = D.cur i := by
  have hi' : (0 : Int) ≤ (i : Int) ∧ (i : Int) < (D.n : Int) := by omega
  refine ⟨by simp [DM.rdE, h, hi'], ?_⟩
  simp [DM.rdB, h, hi']
theorem rd_inv {D : DM} {i : Nat} (h : D.rdE (i : Int) = 0) : D.dn = false ∧ i < D.n := by
  unfold DM.rdE at h
  split at h
  · cases h
  · rename_i hd
    split at h
    · rename_i hi; exact ⟨by simpa using hd, by omega⟩
    · cases h
theorem ld_inv {D : DM} {a : Nat} (h : D.ldE (a : Int) = 0) : D.dn = false ∧ a + 2 < D.n := by
  obtain ⟨h0, _, h2⟩ := ld_rd h
  have e : (a : Int) + 2 = ((a + 2 : Nat) : Int) := by omega
  rw [e] at h2
  exact ⟨(rd_inv h0).1, (rd_inv h2).2⟩
theorem ld_up {D : DM} (h : D.dn = false) {a : Nat} (ha : a + 2 < D.n) : D.ldE (a : Int) = 0 ∧ D.ldB (a : Int) = vl (D.cur a) (D.cur (a + 1)) (D.cur (a + 2)) := by
  obtain ⟨e0, b0⟩ := rd_up h (i := a) (by omega)
  obtain ⟨e1, b1⟩ := rd_up h (i := a + 1) (by omega)
  obtain ⟨e2, b2⟩ := rd_up h (i := a + 2) ha
  have c1 : ((a : Int) + 1) = ((a + 1 : Nat) : Int) := by omega
  have c2 : ((a : Int) + 2) = ((a + 2 : Nat) : Int) := by omega
  have e : D.ldE (a : Int) = 0 := by
    unfold DM.ldE
    rw [c1, c2, if_pos e0, if_pos e1, e2]
  exact ⟨e, by rw [ldB_of e, c1, c2, b0, b1, b2]⟩
theorem three_cur {D : DM} {a : Nat} (h : D.ldE (a : Int) = 0) {q : Nat} (hq : q < 3) : D.three a q = D.cur (a + q) := by
  obtain ⟨h1, h2⟩ := ld_inv h
  have e : (a : Int) + (q : Int) = ((a + q : Nat) : Int) := by omega
  unfold DM.three
  rw [e]
  exact (rd_up h1 (by omega)).2
/-- A Mend, as far as it went through. -/
theorem md2_ok {D : DM} (hd : D.dn = false) {a : Nat} {B : Nat → List Nat} (hB : ∀ q, q < 3 → B q = D.cur (a + q)) {v : List Nat} : ∀ j, j ≤ 3 → (md2 D a B v j).2 = 0 → (md2 D a B v j).1.dn = false ∧ (md2 D a B v j).1.n = D.n ∧ ∀ k, (md2 D a B v j).1.cur k = if a ≤ k ∧ k < a + j then v else D.cur k
  | 0, _, _ => ⟨hd, rfl, fun k => (if_neg (by omega)).symm⟩
  | j + 1, hj, he => by
    by_cases e : (md2 D a B v j).2 = 0
    · obtain ⟨h1, h2, h3⟩ := md2_ok hd hB j (by omega) e
      by_cases hs : B j = v
      · have es : md2 D a B v (j + 1) = md2 D a B v j := (if_pos e).trans (if_pos hs)
        rw [es]
        refine ⟨h1, h2, fun k => ?_⟩
        rw [h3]
        by_cases e1 : k = a + j
        · rw [if_neg (by omega), if_pos (by omega), e1, ← hB j (by omega), hs]
        · by_cases e2 : a ≤ k ∧ k < a + j
          · rw [if_pos e2, if_pos (by omega)]
          · rw [if_neg e2, if_neg (by omega)]
      · have es : md2 D a B v (j + 1) = ((md2 D a B v j).1.ws ((a : Int) + (j : Int)) v, (md2 D a B v j).1.wsE ((a : Int) + (j : Int)) v) := (if_pos e).trans (if_neg hs)
        have c : ((a : Int) + (j : Int)) = ((a + j : Nat) : Int) := by omega
        rw [es, c] at he ⊢
        obtain ⟨_, _, _, g4, g5, g6⟩ := ws_ok he
        refine ⟨g4.dn, g5.trans h2, fun k => ?_⟩
        show DM.cur _ k = _
        rw [g6, h3]
        by_cases e1 : k = a + j
        · rw [if_pos e1, if_pos (by omega)]
        · rw [if_neg e1]
          by_cases e2 : a ≤ k ∧ k < a + j
          · rw [if_pos e2, if_pos (by omega)]
          · rw [if_neg e2, if_neg (by omega)]
    · have es : md2 D a B v (j + 1) = md2 D a B v j := if_neg e
      rw [es] at he
      exact absurd he e
/-- Behind a Mend that is answered OK. -/
theorem mend_ok {D : DM} {a : Nat} (h : D.mendE (a : Int) = 0) : D.dn = false ∧ a + 2 < D.n ∧ (D.mendD (a : Int)).dn = false ∧ (D.mendD (a : Int)).n = D.n ∧ (∀ k, (D.mendD (a : Int)).cur k = if a ≤ k ∧ k < a + 3 then D.ldB (a : Int) else D.cur k) ∧ (D.mendD (a : Int)).ldE (a : Int) = 0 ∧ (D.mendD (a : Int)).ldB (a : Int) = D.ldB (a : Int) := by
  by_cases he : D.ldE (a : Int) = 0
  · obtain ⟨hd, hn⟩ := ld_inv he
    have e1 : D.mendE (a : Int) = (md2 D a (D.three a) (D.ldB (a : Int)) 3).2 := if_pos he
    have e2 : D.mendD (a : Int) = (md2 D a (D.three a) (D.ldB (a : Int)) 3).1 := if_pos he
    rw [e1] at h
    obtain ⟨h1, h2, h3⟩ := md2_ok hd (fun q hq => three_cur he hq) 3 (by omega) h
    rw [e2]
    obtain ⟨g1, g2⟩ := ld_up h1 (a := a) (by rw [h2]; exact hn)
    refine ⟨hd, hn, h1, h2, h3, g1, ?_⟩
    rw [g2, h3, h3, h3, if_pos (by omega), if_pos (by omega), if_pos (by omega)]
    exact if_pos rfl
  · have e1 : D.mendE (a : Int) = D.ldE (a : Int) := if_neg he
    rw [e1] at h
    exact absurd h he
/-- What Open answers, and leaves: the error, the entries. -/
def DM.opO (D : DM) : Option (List (List Nat)) := opn ((D.mendD 0).ldB 0) (D.mendD 0).cur D.n
def DM.opE (D : DM) : Int := if D.mendE 0 = 0 then (if D.opO.isSome then 0 else 2) else D.mendE 0
def DM.opL (D : DM) : List (List Nat) := D.opO.getD []
/-- Opened again it is the same. -/
theorem op_again {D : DM} (h : D.mendE 0 = 0) : (D.mendD 0).mendE 0 = 0 ∧ (D.mendD 0).mendD 0 = D.mendD 0 ∧ (D.mendD 0).opO = D.opO ∧ (D.mendD 0).opE = D.opE := by
  obtain ⟨h1, h2, h3, h4, h5, h6, h7⟩ := mend_ok (a := 0) h
  replace h3 : (D.mendD 0).dn = false := h3
  replace h4 : (D.mendD 0).n = D.n := h4
  replace h5 : ∀ k, (D.mendD 0).cur k = if 0 ≤ k ∧ k < 0 + 3 then D.ldB 0 else D.cur k := h5
  replace h6 : (D.mendD 0).ldE 0 = 0 := h6
  replace h7 : (D.mendD 0).ldB 0 = D.ldB 0 := h7
  have key : ∀ j, j ≤ 3 → md2 (D.mendD 0) 0 ((D.mendD 0).three 0) ((D.mendD 0).ldB 0) j = (D.mendD 0, 0) := by
    intro j
    induction j with
    | zero => intro _; rfl
    | succ j ih =>
      intro hj
      have ih := ih (by omega)
      have hB : (D.mendD 0).three 0 j = (D.mendD 0).ldB 0 := by
        have e := three_cur (D := D.mendD 0) (a := 0) h6 (q := j) (by omega)
        rw [Nat.zero_add] at e
        have e' : (D.mendD 0).three 0 j = (D.mendD 0).cur j := e
        rw [e', h5, if_pos (by omega), h7]
      show (if (md2 (D.mendD 0) 0 ((D.mendD 0).three 0) ((D.mendD 0).ldB 0) j).2 = 0 then (if (D.mendD 0).three 0 j = (D.mendD 0).ldB 0 then md2 (D.mendD 0) 0 ((D.mendD 0).three 0) ((D.mendD 0).ldB 0) j else _) else _) = _
      rw [ih, if_pos rfl, if_pos hB]
  have e1 : (D.mendD 0).mendE 0 = 0 := (if_pos h6).trans (by rw [key 3 (by omega)])
  have e2 : (D.mendD 0).mendD 0 = D.mendD 0 := (if_pos h6).trans (by rw [key 3 (by omega)])
  have e3 : (D.mendD 0).opO = D.opO := by unfold DM.opO; rw [e2, h4]
  refine ⟨e1, e2, e3, ?_⟩
  unfold DM.opE
  rw [e1, e3, if_pos rfl, if_pos h]
theorem wr_la' (D : DM) (i : Int) (l : List Nat) : (D.wr i l).la = D.la ∧ (D.wr i l).n = D.n := by
  unfold DM.wr
  split
  · exact ⟨rfl, rfl⟩
  · split
    · split
      · split
        · exact ⟨burn_la D, burn_n D⟩
        · exact ⟨burn_la D, burn_n D⟩
      · exact ⟨rfl, rfl⟩
    · exact ⟨rfl, rfl⟩
theorem wr_nw' (D : DM) (i : Int) (l : List Nat) {j : Nat} (h : (j : Int) ≠ i) : (D.wr i l).nw j = D.nw j := by
  unfold DM.wr
  split
  · rfl
  · split
    · rename_i hi
      split
      · split
        · show upd D.nw i.toNat (some l) j = _
          exact if_neg (by omega)
        · rw [burn_nw]
      · rfl
    · rfl
/-- An entry is written, sector by sector, from a place on. -/
def apw (D : DM) (p : Nat) (f : Nat → Nat) (m : Nat) : Nat → DM × Int
  | 0 => (D, 0)
  | j + 1 => if (apw D p f m j).2 = 0 then ((apw D p f m j).1.wr ((p + j : Nat) : Int) (esec f m j), (apw D p f m j).1.wrE ((p + j : Nat) : Int) 64) else apw D p f m j
theorem apw_err {D : DM} {p : Nat} {f : Nat → Nat} {m j : Nat} (h : (apw D p f m j).2 ≠ 0) : ∀ k, j ≤ k → apw D p f m k = apw D p f m j := by
  intro k hk
  induction k with
  | zero => rw [show j = 0 by omega]
  | succ k ih =>
    by_cases e : j = k + 1
    · rw [e]
    · have ih := ih (by omega)
      show (if (apw D p f m k).2 = 0 then _ else apw D p f m k) = _
      rw [ih, if_neg h]
/-- What it leaves: what lasts, and what was written elsewhere, stays; as far as it went through, it is there. -/
theorem apw_la (D : DM) (p : Nat) (f : Nat → Nat) (m : Nat) : ∀ j, (apw D p f m j).1.la = D.la ∧ (apw D p f m j).1.n = D.n ∧ ∀ k, k < p ∨ p + j ≤ k → (apw D p f m j).1.nw k = D.nw k
  | 0 => ⟨rfl, rfl, fun _ _ => rfl⟩
  | j + 1 => by
    obtain ⟨h1, h2, h3⟩ := apw_la D p f m j
    by_cases e : (apw D p f m j).2 = 0
    · have es : apw D p f m (j + 1) = ((apw D p f m j).1.wr ((p + j : Nat) : Int) (esec f m j), (apw D p f m j).1.wrE ((p + j : Nat) : Int) 64) := if_pos e
      rw [es]
      have hw := wr_la' (apw D p f m j).1 ((p + j : Nat) : Int) (esec f m j)
      exact ⟨hw.1.trans h1, hw.2.trans h2, fun k hk => (wr_nw' _ _ _ (by omega)).trans (h3 k (by omega))⟩
    · have es : apw D p f m (j + 1) = apw D p f m j := if_neg e
      rw [es]
      exact ⟨h1, h2, fun k hk => h3 k (by omega)⟩
theorem apw_ok {D : DM} {p : Nat} {f : Nat → Nat} {m : Nat} : ∀ {j : Nat}, (apw D p f m j).2 = 0 → D.dn = false → (apw D p f m j).1.dn = false ∧ ∀ k, (apw D p f m j).1.cur k = if p ≤ k ∧ k < p + j then esec f m (k - p) else D.cur k
  | 0, _, hd => ⟨hd, fun k => (if_neg (by omega)).symm⟩
  | j + 1, he, hd => by
    by_cases e : (apw D p f m j).2 = 0
    · obtain ⟨h1, h2⟩ := apw_ok e hd
      have es : apw D p f m (j + 1) = ((apw D p f m j).1.wr ((p + j : Nat) : Int) (esec f m j), (apw D p f m j).1.wrE ((p + j : Nat) : Int) 64) := if_pos e
      rw [es] at he ⊢
      have hl : (esec f m j).length = 64 := fl_len _ _
      obtain ⟨_, _, _, _, g5, _, g7, g8⟩ := wr_ok (l := esec f m j) (by rw [hl]; exact he)
      refine ⟨g5, fun k => ?_⟩
      show DM.cur _ k = _
      have hc : DM.cur ((apw D p f m j).1.wr ((p + j : Nat) : Int) (esec f m j)) k = if k = p + j then esec f m j else (apw D p f m j).1.cur k := by
        unfold DM.cur
        rw [g7, g8]
        unfold upd
        rw [Int.toNat_natCast]
        by_cases e1 : k = p + j
        · rw [if_pos e1, if_pos e1]; rfl
        · rw [if_neg e1, if_neg e1]
      rw [hc, h2]
      by_cases e1 : k = p + j
      · rw [if_pos e1, if_pos (by omega), show k - p = j by omega]
      · rw [if_neg e1]
        by_cases e2 : p ≤ k ∧ k < p + j
        · rw [if_pos e2, if_pos (by omega)]
        · rw [if_neg e2, if_neg (by omega)]
    · have es : apw D p f m (j + 1) = apw D p f m j := if_neg e
      rw [es] at he
      exact absurd he e
end Go.Proofs.Ytjgpopjpmfkfmaa
