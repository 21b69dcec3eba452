/- Layer 14: the law of a mark that stays. -/
import Derived.Test.YtbgpjebacpmppaaN14V
namespace Go.Proofs.Ytbgpjebacpmppaa
open Go.RowKit Go.Maps
attribute [local go_sem ↓] Go.wp_at_zero Go.wp_at_succ

theorem wr_la (D : DM) (i : Int) (l : List Nat) : (D.wr i l).la = D.la ∧ (D.wr i l).n = D.n := by
  unfold DM.wr
  split
  · exact ⟨rfl, rfl⟩
  · split
    · split
      · split
        · exact ⟨burn_la D, burn_n D⟩
        · exact ⟨burn_la D, burn_n D⟩
      · exact ⟨rfl, rfl⟩
    · exact ⟨rfl, rfl⟩
theorem wr_nw (D : DM) (i : Int) (l : List Nat) {j : Nat} (h : (j : Int) ≠ i) : (D.wr i l).nw j = D.nw j := by
  unfold DM.wr
  split
  · rfl
  · split
    · rename_i hi
      split
      · split
        · show upd D.nw i.toNat (some l) j = _
          exact if_neg (by omega)
        · rw [burn_nw]
      · rfl
    · rfl
/-- A disk whose sectors 1, 2 and 3 have v, and last. -/
structure StD (D : DM) (v : List Nat) : Prop where
  n : D.n = 6
  a : ∀ j, 1 ≤ j → j ≤ 3 → D.la j = v ∧ D.nw j = none
theorem StD.wr {D : DM} {v : List Nat} (h : StD D v) (i : Int) (l : List Nat) (hi : i < 1 ∨ 3 < i) : StD (D.wr i l) v :=
  ⟨(wr_la D i l).2.trans h.n, fun j h1 h2 => ⟨by rw [(wr_la D i l).1]; exact (h.a j h1 h2).1, (wr_nw D i l (by omega)).trans (h.a j h1 h2).2⟩⟩
theorem StD.cr {D : DM} {v : List Nat} (h : StD D v) (K : List Bool) (t a : Int) : StD (D.cr K t a) v :=
  ⟨h.n, fun j h1 h2 => ⟨by
    show D.crA K t a j = v
    unfold DM.crA
    rw [(h.a j h1 h2).2]
    exact (h.a j h1 h2).1, rfl⟩⟩
theorem StD.fuse {D : DM} {v : List Nat} (h : StD D v) (i : Int) : StD (D.fuse i) v := ⟨h.n, h.a⟩
/-- On such a disk that is up and calm, Mend does nothing, and the mark is steady. -/
theorem StD.calm {D : DM} {v : List Nat} (h : StD D v) (hc : D.calm) : (D.rdE 1 = 0 ∧ D.rdB 1 = v) ∧ (D.rdE (1 + 1) = 0 ∧ D.rdB (1 + 1) = v) ∧ (D.rdE (1 + 2) = 0 ∧ D.rdB (1 + 2) = v) ∧ D.ldE 1 = 0 ∧ D.ldB 1 = v ∧ D.mendE 1 = 0 ∧ D.mendD 1 = D := by
  have hn := h.n
  obtain ⟨e1, b1⟩ := rd_calm hc (i := 1) (by omega)
  obtain ⟨e2, b2⟩ := rd_calm hc (i := 2) (by omega)
  obtain ⟨e3, b3⟩ := rd_calm hc (i := 3) (by omega)
  rw [(h.a 1 (by omega) (by omega)).1] at b1
  rw [(h.a 2 (by omega) (by omega)).1] at b2
  rw [(h.a 3 (by omega) (by omega)).1] at b3
  obtain ⟨l1, l2⟩ := ld_calm hc (a := 1) (by omega)
  have l2' : D.ldB 1 = v := l2.trans (by
    unfold mv
    rw [(h.a (1 + 1) (by omega) (by omega)).1, (h.a (1 + 2) (by omega) (by omega)).1]
    exact if_pos rfl)
  have l1' : D.ldE 1 = 0 := l1
  have key : ∀ j, j ≤ 3 → md2 D 1 (D.three 1) v j = (D, 0) := by
    intro j
    induction j with
    | zero => intro _; rfl
    | succ j ih =>
      intro hj
      have ih := ih (by omega)
      have hB : D.three 1 j = v := by
        have hc3 : j = 0 ∨ j = 1 ∨ j = 2 := by omega
        rcases hc3 with rfl | rfl | rfl
        · exact b1
        · exact b2
        · exact b3
      show (if (md2 D 1 (D.three 1) v j).2 = 0 then (if D.three 1 j = v then md2 D 1 (D.three 1) v j else _) else _) = _
      rw [ih, if_pos rfl, if_pos hB]
  refine ⟨⟨e1, b1⟩, ⟨e2, b2⟩, ⟨e3, b3⟩, l1', l2', ?_, ?_⟩
  · exact (if_pos l1').trans (by rw [l2', key 3 (by omega)])
  · exact (if_pos l1').trans (by rw [l2', key 3 (by omega)])
/-- Behind a Save on a new disk. -/
theorem new_saved {n : Nat} (hn : 3 < n) {f : Nat → Nat} (hf : ∀ i, f i < 256) {m : Nat} (hm : m ≤ 64) :
    (DM.new n).saveE 1 f m = 0 ∧ ((DM.new n).saveD 1 f m).calm ∧ ((DM.new n).saveD 1 f m).free ∧ ((DM.new n).saveD 1 f m).n = n ∧ ∀ j, 1 ≤ j → j ≤ 3 → ((DM.new n).saveD 1 f m).la j = pd f m := by
  obtain ⟨s1, s2⟩ := save_free (new_free n) (a := 1) (by show 1 + 2 < n; omega) hf hm
  replace s1 : (DM.new n).saveE 1 f m = 0 := s1
  replace s2 : (DM.new n).saveD 1 f m = (sv (DM.new n) 1 (pd f m) 3).1 := s2
  obtain ⟨g0, g1, g2, g3⟩ := sv_free (new_free n) (a := 1) (by show 1 + 2 < n; omega) (pd_sec hf m) 3 (by omega)
  rcases sv_steps (new_calm n) (a := 1) (by show 1 + 2 < n; omega) (pd_sec hf m) 3 (by omega) with ⟨_, hw⟩ | ⟨e6, _⟩
  · rw [s2]
    refine ⟨s1, hw.c, g1, hw.n, fun j h1 h2 => ?_⟩
    have : (sv (DM.new n) ((1 : Nat) : Int) (pd f m) 3).1.la j = pd f m := by rw [hw.la]; exact upTo_in (by omega)
    exact this
  · rw [g0] at e6; cases e6
/-- While the crashes go on. -/
def StQ (w wr : World) (b lb mb : Nat) (v : List Nat) : Prop := ∃ D, FzR w wr b lb mb D ∧ StD D v
theorem sizeFate : (Try.prog.info? 39).map (·.size) = some 3 := by kernel_rfl
theorem wpList_load_ft {w : World} {ops : Array Oper} {rest : List Oper} {o : Oper} {a : Act} {Q : Exit → Act → World → Prop} (hgd : o.guard = none) (x : Operand) (hop : o.op = Op.load 39 x) {g off : Nat} {v : FtV} (hx : a.eval x = .pointer (some ⟨g, off, none⟩)) (ht : w.rangeAt g off v.cells) (hK : wpList Try.prog ops Q rest (a.put o.dst (.agg #[.slice v.z v.KL.length v.k, .int .i64 v.t, .int .i64 v.a])) w) : wpList Try.prog ops Q (o :: rest) a w :=
  wpList_load_mid hgd 39 x hop g off hx v.cells _ ht Try.underlying39 rfl sizeFate hK
set_option maxRecDepth 100000 in
set_option maxHeartbeats 3000000 in
theorem markStays_any {x y z : Option Addr} {m m2 n c c2 c3 : Nat} {f f2 : Nat → Nat} {O : Nat → FtV} {w : World} (hx : BA w x m f) (hy : BA w y m2 f2) (hO : FtsAt w z n O) :
    Calls Try.prog 4 #[.slice x m c, .slice y m2 c2, .slice z n c3] w (OkT w) := by
  have HX := hide hx
  have HY := hide hy
  have HO := hide hO
  clear hx hy hO
  by_cases hs : m ≤ 64 ∧ m2 ≤ 64 ∧ n ≤ 20
  · obtain ⟨hm, hm2, hn⟩ := hs
    have hm' : decide ((64 : Int) < (m : Int)) = false := decide_eq_false (by omega)
    have hm2' : decide ((64 : Int) < (m2 : Int)) = false := decide_eq_false (by omega)
    have hn' : decide ((20 : Int) < (n : Int)) = false := decide_eq_false (by omega)
    have HN := hide (new_saved (n := 6) (by omega) HX.out.lt hm)
    have HV := hide (pd_sec HX.out.lt m)
    go_enter Try.func4, Try.ntmps4
    go_upto_region 4 with (first
      | (go_at_call 7; refine Calls.mono (awake_any _) ?_; rintro e W1 ⟨rfl, hB1⟩; have HB1 := hide hB1; clear hB1)
      | (go_at_call 8; refine Calls.mono (new_any (n := 6) (by omega) _) ?_; rintro e W2 ⟨b, lb, mb, rfl, hD, h1, h2, h3, hB⟩; have HR := hide ((FzR.mk hD h1 h2 h3 hB).base HB1.out); clear hD h1 h2 h3 hB))
    have HC : Hid (Calls Try.prog 9 #[pp b, .int .i64 1, .slice x m c] W2 (WrP W2 b lb mb ((DM.new 6).saveD 1 f m) 0)) := by
      have h := save_any (c := c) HR.out.d (a := 1) ⟨by omega, by omega⟩ (HX.out.keep HR.out.k)
      rw [HN.out.1] at h
      exact h
    go_wp2_with (go_at_call 9; refine Calls.mono HC.out ?_; rintro e W3 ⟨rfl, hD3, hK3⟩; have HR3 := hide (HR.out.next hD3 hK3); clear hD3 hK3)
    have HQ : Hid (StQ w W3 b lb mb (pd f m)) := ⟨_, HR3.out, HN.out.2.2.2.1, fun j h1 h2 => ⟨HN.out.2.2.2.2 j h1 h2, by rw [HN.out.2.1.nw]⟩⟩
    clear HR HR3 HN HC HB1
    obtain ⟨v, hv⟩ : ∃ v, v = pd f m := ⟨_, rfl⟩
    rw [← hv] at HQ HV
    have HE := hide hv
    clear hv
    go_loopg [9] n (fun g' s9 wr => ∃ i : Nat, g' = n - i ∧ i ≤ n ∧ s9 = .int .i64 (i : Int) ∧ StQ w wr b lb mb v)
    case atStart => exact ⟨0, rfl, by omega, rfl, HQ.out⟩
    case round =>
      clear HQ
      obtain ⟨i, rfl, hin, rfl, D, hR, hD⟩ := hrel
      have HR := hide hR
      have HD := hide hD
      clear hR hD
      by_cases hlt : i < n
      · obtain ⟨pb, po, rfl, hpc⟩ := HO.out.cells (by omega)
        have hlt' : (i : Int) < (n : Int) := by omega
        have HPC := hide (hpc i hlt)
        have HK := hide (HO.out.r i hlt)
        have hpi : wr.cell? ⟨pb, po + i * 3, none⟩ = some (.slice (O i).z (O i).KL.length (O i).k) := later HR.out.k (HPC.out 0 _ rfl)
        clear hpc
        by_cases hk : (O i).KL.length ≤ 100
        · have hk' : decide ((100 : Int) < ((O i).KL.length : Int)) = false := decide_eq_false (by omega)
          go_upto_region 12 with (first
            | (go_at_call 14; refine Calls.mono (full_any (HY.out.keep HR.out.k) hm2) ?_; rintro e W4 ⟨z1, c1, rfl, hb1, hz1, hB4⟩; have HF := hide (And.intro hb1 hz1); have HR4 := hide (HR.out.grow hB4); clear hb1 hz1 hB4)
            | (go_at_call 17; refine Calls.mono (write_any HR4.out.d 0 HF.out.1 (fun _ p hp => HR.out.out (HF.out.2 p hp))) ?_; rintro e W5 ⟨rfl, hD5, hK5⟩; have HR5 := hide (HR4.out.next hD5 hK5); have HD5 := hide (HD.out.wr 0 (fl (pz f2 m2) 64) (by omega)); clear hD5 hK5))
          clear hpi HF HR4
          go_upto_region 13 with (first
            | (go_at_call 14; refine Calls.mono (full_any (HY.out.keep HR5.out.k) hm2) ?_; rintro e W6 ⟨z2, c4, rfl, hb2, hz2, hB6⟩; have HF := hide (And.intro hb2 hz2); have HR6 := hide (HR5.out.grow hB6); clear hb2 hz2 hB6)
            | (go_at_call 17; refine Calls.mono (write_any HR6.out.d _ HF.out.1 (fun _ p hp => HR5.out.out (HF.out.2 p hp))) ?_; rintro e W7 ⟨rfl, hD7, hK7⟩; have HR7 := hide (HR6.out.next hD7 hK7); have HD7 := hide (HD5.out.wr (4 + (i : Int) % 2) (fl (pz f2 m2) 64) (by omega)); clear hD7 hK7))
          clear HF HR6 HR5 HD5
          obtain ⟨D7, hD7⟩ : ∃ D7, D7 = (D.wr 0 (fl (pz f2 m2) 64)).wr (4 + (i : Int) % 2) (fl (pz f2 m2) 64) := ⟨_, rfl⟩
          rw [← hD7] at HR7 HD7
          clear hD7
          go_upto_region 14 with (first
            | (refine wpList_load_ft (v := O i) rfl _ rfl (by rfl) (fun j u hu => later HR7.out.k (HPC.out j u hu)) ?_)
            | (go_at_call 15; refine Calls.mono (crash_any HR7.out.d (HK.out.keep HR7.out.k) (kb_ahead HR7.out HK.out) _ _) ?_; rintro e W8 ⟨⟨vc, rfl⟩, hD8, hK8⟩; have HR8 := hide (HR7.out.next hD8 hK8); have HD8 := hide (HD7.out.cr (O i).KL (O i).t (O i).a); clear hD8 hK8))
          clear HR7 HD7
          go_upto_region 15 with (go_at_call 11; refine Calls.mono (fuse_any HR8.out.d 0 (by omega)) ?_; rintro e W9 ⟨⟨vf, rfl⟩, hD9, hK9⟩; have HR9 := hide (HR8.out.next hD9 hK9); have HD9 := hide (HD8.out.fuse 0); have HC9 := hide (fuse_calm (cr_calm D7 (O i).KL (O i).t (O i).a) 0); clear hD9 hK9)
          have HA := hide (HD9.out.calm HC9.out)
          clear HR8 HD8 HC9
          obtain ⟨D9, hD9⟩ : ∃ D9, D9 = (D7.cr (O i).KL (O i).t (O i).a).fuse 0 := ⟨_, rfl⟩
          rw [← hD9] at HR9 HD9 HA
          clear hD9
          have HCM : Hid (Calls Try.prog 16 #[pp b, .int .i64 1] W9 (WrP W9 b lb mb D9 0)) := by
            have h := mend_any HR9.out.d (a := 1) ⟨by omega, by omega⟩
            rw [HA.out.2.2.2.2.2.1, HA.out.2.2.2.2.2.2] at h
            exact h
          go_upto_region 16 with (go_at_call 16; refine Calls.mono HCM.out ?_; rintro e W10 ⟨rfl, hD10, hK10⟩; have HR10 := hide (HR9.out.next hD10 hK10); clear hD10 hK10)
          have HCL : Hid (Calls Try.prog 12 #[pp b, .int .i64 1] W10 (GotP W10 v)) := by
            have h := load_got HR10.out.d (a := 1) ⟨by omega, by omega⟩ HA.out.2.2.2.1
            rw [HA.out.2.2.2.2.1] at h
            exact h
          go_upto_region 17 with (go_at_call 12; refine Calls.mono HCL.out ?_; rintro e W11 ⟨g, rfl, hG, hB11⟩; have HG := hide hG; have HR11 := hide (HR10.out.grow hB11); clear hG hB11)
          have HST := hide (steady_yes HR11.out.d (a := 1) ⟨by omega, by omega⟩ HA.out.1 HA.out.2.1 HA.out.2.2.1)
          clear HCM HCL HR9 HR10
          go_wp2_with (first
            | (go_at_call 10; refine Calls.mono HST.out ?_; rintro e W12 ⟨rfl, hB12⟩; have HG12 := hide (HG.out.keep hB12); have HR12 := hide (HR11.out.grow hB12); clear hB12)
            | (go_at_call 14; refine Calls.mono (full_any (HX.out.keep HR12.out.k) hm) ?_; rintro e W13 ⟨z3, c5, rfl, hb3, _, hB13⟩; have HF3 := hide hb3; have HG13 := hide (HG12.out.keep hB13); have HR13 := hide (HR12.out.grow hB13); clear hb3 hB13)
            | (go_at_call 13; refine Calls.mono (same_t (HG13.out.ba HV.out) HF3.out (by omega) (fl_of HV.out.1) HE.out.symm) ?_; rintro e W14 ⟨rfl, hB14⟩; have HR14 := hide (HR13.out.grow hB14); clear hB14))
          go_roundg (n - (i + 1))
          case measure => omega
          case rel => exact ⟨i + 1, rfl, by omega, by simp, _, HR14.out, HD9.out⟩
        · have hk' : (100 : Int) < ((O i).KL.length : Int) := by omega
          go_wp2_with fail
          go_ret
          exact ⟨rfl, HR.out.k⟩
      · obtain rfl : i = n := by omega
        go_wp2_with fail
        go_ret
        exact ⟨rfl, HR.out.k⟩
  · have tail : ∀ {W1 W2 : World}, Below w.heap.size w W1 → Below W1.heap.size W1 W2 → Below w.heap.size w W2 := fun h1 h2 => K.call h1 h2
    by_cases hm : 64 < m
    · have hm' : (64 : Int) < (m : Int) := by omega
      clear hs
      go_enter Try.func4, Try.ntmps4
      go_wp2_with (first
        | (have hq := HB1.out; clear hq; go_at_call 7; refine Calls.mono (awake_any _) ?_; rintro e W2 ⟨rfl, hB2⟩; have HB2 := hide (tail HB1.out hB2); clear hB2)
        | (go_at_call 7; refine Calls.mono (awake_any _) ?_; rintro e W1 ⟨rfl, hB1⟩; have HB1 := hide hB1; clear hB1))
      go_ret
      exact ⟨rfl, HB2.out⟩
    · have hm' : decide ((64 : Int) < (m : Int)) = false := decide_eq_false (by omega)
      by_cases hm2 : 64 < m2
      · have hm2' : (64 : Int) < (m2 : Int) := by omega
        clear hs
        go_enter Try.func4, Try.ntmps4
        go_wp2_with (first
          | (have hq := HB1.out; clear hq; go_at_call 7; refine Calls.mono (awake_any _) ?_; rintro e W2 ⟨rfl, hB2⟩; have HB2 := hide (tail HB1.out hB2); clear hB2)
          | (go_at_call 7; refine Calls.mono (awake_any _) ?_; rintro e W1 ⟨rfl, hB1⟩; have HB1 := hide hB1; clear hB1))
        go_ret
        exact ⟨rfl, HB2.out⟩
      · have hm2' : decide ((64 : Int) < (m2 : Int)) = false := decide_eq_false (by omega)
        have hn' : (20 : Int) < (n : Int) := by omega
        clear hs
        go_enter Try.func4, Try.ntmps4
        go_wp2_with (first
          | (have hq := HB1.out; clear hq; go_at_call 7; refine Calls.mono (awake_any _) ?_; rintro e W2 ⟨rfl, hB2⟩; have HB2 := hide (tail HB1.out hB2); clear hB2)
          | (go_at_call 7; refine Calls.mono (awake_any _) ?_; rintro e W1 ⟨rfl, hB1⟩; have HB1 := hide hB1; clear hB1))
        go_ret
        exact ⟨rfl, HB2.out⟩
end Go.Proofs.Ytbgpjebacpmppaa
