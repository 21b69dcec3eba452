/- Layer 14: the law of a mark that is there whole, or not at all. -/
import Derived.Test.YtbgpjebacpmppaaN14W
namespace Go.Proofs.Ytbgpjebacpmppaa
open Go.RowKit Go.Maps
attribute [local go_sem ↓] Go.wp_at_zero Go.wp_at_succ

/-- A calm disk whose sectors 1, 2 and 3 have v. -/
theorem calm3 {D : DM} (hc : D.calm) (hn : 3 < D.n) {v : List Nat} (h : ∀ j, 1 ≤ j → j ≤ 3 → D.la j = v) : (D.rdE 1 = 0 ∧ D.rdB 1 = v) ∧ (D.rdE (1 + 1) = 0 ∧ D.rdB (1 + 1) = v) ∧ (D.rdE (1 + 2) = 0 ∧ D.rdB (1 + 2) = v) ∧ D.ldE 1 = 0 ∧ D.ldB 1 = v := by
  obtain ⟨e1, b1⟩ := rd_calm hc (i := 1) (by omega)
  obtain ⟨e2, b2⟩ := rd_calm hc (i := 2) (by omega)
  obtain ⟨e3, b3⟩ := rd_calm hc (i := 3) (by omega)
  rw [h 1 (by omega) (by omega)] at b1
  rw [h 2 (by omega) (by omega)] at b2
  rw [h 3 (by omega) (by omega)] at b3
  obtain ⟨l1, l2⟩ := ld_calm hc (a := 1) (by omega)
  exact ⟨⟨e1, b1⟩, ⟨e2, b2⟩, ⟨e3, b3⟩, l1, l2.trans (by
    unfold mv
    rw [h (1 + 1) (by omega) (by omega), h (1 + 2) (by omega) (by omega)]
    exact if_pos rfl)⟩
theorem Went.calm3 {D E : DM} {v : List Nat} (h : Went D E 1 3 v) (hn : 3 < D.n) : (E.rdE 1 = 0 ∧ E.rdB 1 = v) ∧ (E.rdE (1 + 1) = 0 ∧ E.rdB (1 + 1) = v) ∧ (E.rdE (1 + 2) = 0 ∧ E.rdB (1 + 2) = v) ∧ E.ldE 1 = 0 ∧ E.ldB 1 = v :=
  Go.Proofs.Ytbgpjebacpmppaa.calm3 h.c (by rw [h.n]; exact hn) (fun j h1 h2 => by rw [h.la]; exact upTo_in (by omega))
/-- A Save on a calm disk with a fuse: it goes through, and took six; or it fell. -/
theorem save_calm {D : DM} (hc : D.calm) (hn : 3 < D.n) {F : Nat} (hF : D.fu = some F) {f : Nat → Nat} (hf : ∀ i, f i < 256) {m : Nat} (hm : m ≤ 64) :
    (D.saveE 1 f m = 0 ∧ 6 ≤ F ∧ Went D (D.saveD 1 f m) 1 3 (pd f m)) ∨ (D.saveE 1 f m = 6 ∧ ∃ q, q < 3 ∧ Fell D (D.saveD 1 f m) 1 q (pd f m)) := by
  have l1 := (ld_calm hc (a := 1) (by omega)).1
  have hm' : ¬ 64 < m := by omega
  have e1 : D.saveE 1 f m = (sv D 1 (pd f m) 3).2 := (if_neg hm').trans (if_pos l1)
  have e2 : D.saveD 1 f m = (sv D 1 (pd f m) 3).1 := (if_neg hm').trans (if_pos l1)
  rw [e1, e2]
  rcases sv_steps hc (a := 1) (by omega) (pd_sec hf m) 3 (by omega) with ⟨h1, h2⟩ | ⟨h1, h2⟩
  · exact Or.inl ⟨h1, (sv_fu hc (a := 1) (by omega) (pd_sec hf m) hF 3 (by omega) h1).1, h2⟩
  · exact Or.inr ⟨h1, h2⟩
/-- A Mend on a calm disk. -/
theorem mend_calm {D : DM} (hc : D.calm) (hn : 3 < D.n) (hv : sec (mv D 1)) :
    (D.mendE 1 = 0 ∧ Went D (D.mendD 1) 1 3 (mv D 1)) ∨ (D.mendE 1 = 6 ∧ ∃ q, q < 3 ∧ D.la (1 + q) ≠ mv D 1 ∧ Fell D (D.mendD 1) 1 q (mv D 1)) := by
  obtain ⟨l1, l2⟩ := ld_calm hc (a := 1) (by omega)
  replace l1 : D.ldE 1 = 0 := l1
  replace l2 : D.ldB 1 = mv D 1 := l2
  have e1 : D.mendE 1 = (md2 D 1 (D.three 1) (mv D 1) 3).2 := (if_pos l1).trans (by rw [l2])
  have e2 : D.mendD 1 = (md2 D 1 (D.three 1) (mv D 1) 3).1 := (if_pos l1).trans (by rw [l2])
  rw [e1, e2]
  exact md2_steps hc (a := 1) (by omega) (B := D.three 1) (fun j hj => by
    obtain ⟨_, r2⟩ := rd_calm hc (i := 1 + j) (by omega)
    have e : (1 : Int) + (j : Int) = ((1 + j : Nat) : Int) := by omega
    unfold DM.three
    rw [e, r2]) hv 3 (by omega)
/-- While crashes and Mends go on. -/
def WhQ (w wr : World) (b lb mb : Nat) (o nv : List Nat) : Prop := ∃ D p, FzR w wr b lb mb D ∧ Mid D 1 o nv p ∧ D.n = 5
theorem FzR.sec1 {w wr : World} {b lb mb : Nat} {D : DM} (h : FzR w wr b lb mb D) : sec (mv D 1) := by
  unfold mv
  split
  · exact h.d.ok.la _
  · exact h.d.ok.la _
set_option maxRecDepth 100000 in
set_option maxHeartbeats 4000000 in
theorem markWhole_any {x y z : Option Addr} {m k n c c2 c3 u : Nat} {f g : Nat → Nat} {O : Nat → FtV} {w : World} (hx : BA w x m f) (hy : BA w y k g) (hu : u < 256) (hO : FtsAt w z n O) :
    Calls Try.prog 3 #[.agg #[.slice x m c, .slice y k c2], .int .u8 (u : Int), .slice z n c3] w (OkT w) := by
  have HX := hide hx
  have HY := hide hy
  have HO := hide hO
  have HU := hide hu
  clear hx hy hO hu
  go_enter Try.func3, Try.ntmps3
  go_upto_region 1 with fail
  have HS : Hid ((w.alloc (.cells #[.slice x m c, .slice y k c2] 23)).rangeAt w.heap.size 0 [.slice x m c, .slice y k c2] ∧ Below w.heap.size w (w.alloc (.cells #[.slice x m c, .slice y k c2] 23))) := ⟨range_new w [.slice x m c, .slice y k c2] 23, K.alloc (Below.refl _ _) _⟩
  refine wp_let (fun W1 hW1 => ?_)
  obtain ⟨sb, hsb⟩ : ∃ sb, sb = w.heap.size := ⟨_, rfl⟩
  rw [← hW1] at HS
  have HB1 := hide HS.out.2
  have HS : Hid (W1.rangeAt sb 0 [.slice x m c, .slice y k c2] ∧ True) := ⟨by rw [hsb]; exact HS.out.1, trivial⟩
  rw [← hsb]
  clear hW1 hsb
  refine wp_region_noPanic ?_
  refine wp_region_held_drew (S := fun w' => w'.rangeAt sb 0 [.slice x m c, .slice y k c2]) (by kernel_rfl) HS.out.1 (fun hS0 => ?_)
  refine wpAnyH_take (i := 0) (v := .pointer (some ⟨sb, 0, none⟩)) rfl (by kernel_rfl) (by kernel_rfl) (by kernel_rfl) (fun _ _ _ h => h) (Or.inl ⟨by rfl, fun w' _ => by go_simp⟩) hS0 ?_
  simp only [Act.put, List.getElem_toArray, List.getElem_cons_zero, List.setIfInBounds_toArray, List.set_cons_zero, List.set_cons_succ]
  refine wpAnyH_take (i := 1) (v := .slice x m c) rfl (by kernel_rfl) (by kernel_rfl) (by kernel_rfl) (fun _ _ _ h => h) (Or.inl ⟨by rfl, fun w' hS => by have hc := hS 0 _ rfl; go_simp⟩) hS0 ?_
  simp only [Act.put, List.getElem_toArray, List.getElem_cons_zero, List.getElem_cons_succ, List.setIfInBounds_toArray, List.set_cons_zero, List.set_cons_succ]
  refine wpAnyH_take (i := 2) (v := .pointer (some ⟨sb, 1, none⟩)) rfl (by kernel_rfl) (by kernel_rfl) (by kernel_rfl) (fun _ _ _ h => h) (Or.inl ⟨by rfl, fun w' _ => by go_simp⟩) hS0 ?_
  simp only [Act.put, List.getElem_toArray, List.getElem_cons_zero, List.getElem_cons_succ, List.setIfInBounds_toArray, List.set_cons_zero, List.set_cons_succ]
  refine wpAnyH_take (i := 3) (v := .slice y k c2) rfl (by kernel_rfl) (by kernel_rfl) (by kernel_rfl) (fun _ _ _ h => h) (Or.inl ⟨by rfl, fun w' hS => by have hc := hS 1 _ rfl; go_simp⟩) hS0 ?_
  simp only [Act.put, List.getElem_toArray, List.getElem_cons_zero, List.getElem_cons_succ, List.setIfInBounds_toArray, List.set_cons_zero, List.set_cons_succ]
  refine wpAnyH_take (i := 4) (v := .slice x m c) rfl (by kernel_rfl) (by kernel_rfl) (by kernel_rfl) (fun _ _ _ h => h) (Or.inl ⟨by rfl, fun w' _ => by go_simp⟩) hS0 ?_
  simp only [Act.put, List.getElem_toArray, List.getElem_cons_zero, List.getElem_cons_succ, List.setIfInBounds_toArray, List.set_cons_zero, List.set_cons_succ]
  refine wpAnyH_take (i := 5) (v := .slice y k c2) rfl (by kernel_rfl) (by kernel_rfl) (by kernel_rfl) (fun _ _ _ h => h) (Or.inl ⟨by rfl, fun w' _ => by go_simp⟩) hS0 ?_
  simp only [Act.put, List.getElem_toArray, List.getElem_cons_zero, List.getElem_cons_succ, List.setIfInBounds_toArray, List.set_cons_zero, List.set_cons_succ]
  refine wpAnyH_done (by kernel_rfl) ?_ _
  refine NoPanic.normal ?_
  have HBd := hide (K.drew HB1.out)
  clear HS hS0 HB1
  go_upto_region 2 with fail
  refine wp_let (fun X0 hX0 => ?_)
  rw [← hX0] at HBd
  clear hX0
  by_cases hm : m ≤ 64
  · have hm' : decide ((64 : Int) < (m : Int)) = false := decide_eq_false (by omega)
    by_cases hk : k ≤ 64
    · have hk' : decide ((64 : Int) < (k : Int)) = false := decide_eq_false (by omega)
      by_cases hn0 : n = 0
      · have hn' : ((n : Int) == 0) = true := by simp [hn0]
        go_wp2_with (first
          | (have hq := HB2.out; clear hq; go_at_call 7; refine Calls.mono (awake_any _) ?_; rintro e W3 ⟨rfl, hB3⟩; have HB3 := hide (K.call HB2.out hB3); clear hB3)
          | (go_at_call 7; refine Calls.mono (awake_any _) ?_; rintro e W2 ⟨rfl, hB2⟩; have HB2 := hide (K.call HBd.out hB2); clear hB2))
        go_ret
        exact ⟨rfl, HB3.out⟩
      have hn' : ((n : Int) == 0) = false := by simp; omega
      by_cases hn : n ≤ 20
      · have hn2' : decide ((20 : Int) < (n : Int)) = false := decide_eq_false (by omega)
        have HN := hide (new_saved (n := 5) (by omega) HX.out.lt hm)
        go_upto_region 5 with (first
          | (go_at_call 7; refine Calls.mono (awake_any _) ?_; rintro e W2 ⟨rfl, hB2⟩; have HB2 := hide (K.call HBd.out hB2); clear hB2)
          | (go_at_call 8; refine Calls.mono (new_any (n := 5) (by omega) _) ?_; rintro e W3 ⟨b, lb, mb, rfl, hD, h1, h2, h3, hB⟩; have HR := hide ((FzR.mk hD h1 h2 h3 hB).base HB2.out); clear hD h1 h2 h3 hB))
        have HC : Hid (Calls Try.prog 9 #[pp b, .int .i64 1, .slice x m c] W3 (WrP W3 b lb mb ((DM.new 5).saveD 1 f m) 0)) := by
          have h := save_any (c := c) HR.out.d (a := 1) ⟨by omega, by omega⟩ (HX.out.keep HR.out.k)
          rw [HN.out.1] at h
          exact h
        obtain ⟨D1, hD1⟩ : ∃ D1, D1 = (DM.new 5).saveD 1 f m := ⟨_, rfl⟩
        rw [← hD1] at HC HN
        clear hD1
        have HA := hide (calm3 HN.out.2.1 (by rw [HN.out.2.2.2.1]; omega) HN.out.2.2.2.2)
        go_upto_region 7 with (first
          | (go_at_call 9; refine Calls.mono HC.out ?_; rintro e W4 ⟨rfl, hD4, hK4⟩; have HR4 := hide (HR.out.next hD4 hK4); clear hD4 hK4)
          | (go_at_call 10; refine Calls.mono (steady_yes HR4.out.d (a := 1) ⟨by omega, by omega⟩ HA.out.1 HA.out.2.1 HA.out.2.2.1) ?_; rintro e W5 ⟨rfl, hB5⟩; have HR5 := hide (HR4.out.grow hB5); clear hB5))
        clear HC HR HR4 HA HB2
        obtain ⟨F, hF⟩ : ∃ F : Nat, F = u % 8 := ⟨_, rfl⟩
        have hFu : (u : Int) % 8 = (F : Int) := by omega
        have HF := hide hF
        have hF8 : F < 8 := by omega
        clear hF
        go_upto_region 8 with (rw [hFu]; go_at_call 11; refine Calls.mono (fuse_any HR5.out.d (F : Int) (by omega)) ?_; rintro e W6 ⟨⟨vf, rfl⟩, hD6, hK6⟩; have HR6 := hide (HR5.out.next hD6 hK6); clear hD6 hK6)
        clear HR5
        have HFD : Hid ((D1.fuse (F : Int)).calm ∧ (D1.fuse (F : Int)).fu = some F ∧ (D1.fuse (F : Int)).n = 5 ∧ ∀ j, 1 ≤ j → j ≤ 3 → (D1.fuse (F : Int)).la j = pd f m) := ⟨fuse_calm HN.out.2.1 _, by show (if 0 ≤ (F : Int) then some (F : Int).toNat else none) = _; rw [if_pos (by omega)]; simp, HN.out.2.2.2.1, HN.out.2.2.2.2⟩
        obtain ⟨D2, hD2⟩ : ∃ D2, D2 = D1.fuse (F : Int) := ⟨_, rfl⟩
        rw [← hD2] at HFD HR6
        clear hD2 HN
        have HSV := hide (save_calm HFD.out.1 (by rw [HFD.out.2.2.1]; omega) HFD.out.2.1 HY.out.lt hk)
        have HC2 := hide (save_any (c := c2) HR6.out.d (a := 1) ⟨by omega, by omega⟩ (HY.out.keep HR6.out.k))
        have HPO := hide (pd_sec HX.out.lt m)
        have HPN := hide (pd_sec HY.out.lt k)
        obtain ⟨D3, hD3⟩ : ∃ D3, D3 = D2.saveD 1 g k := ⟨_, rfl⟩
        rw [← hD3] at HSV HC2
        clear hD3
        by_cases he : D2.saveE 1 g k = 0
        · have HW := hide (HSV.out.resolve_right (fun h => by have := h.1; rw [he] at this; cases this))
          rw [he] at HC2
          have hge : (6 : Int) ≤ (F : Int) := by have := HW.out.2.1; omega
          have HA := hide (HW.out.2.2.calm3 (by rw [HFD.out.2.2.1]; omega))
          clear HSV he
          go_upto_region 10 with (go_at_call 9; refine Calls.mono HC2.out ?_; rintro e W7 ⟨rfl, hD7, hK7⟩; have HR7 := hide (HR6.out.next hD7 hK7); clear hD7 hK7)
          have HCL : Hid (Calls Try.prog 12 #[pp b, .int .i64 1] W7 (GotP W7 (pd g k))) := by
            have h := load_got HR7.out.d (a := 1) ⟨by omega, by omega⟩ HA.out.2.2.2.1
            rw [HA.out.2.2.2.2] at h
            exact h
          go_upto_region 11 with (go_at_call 12; refine Calls.mono HCL.out ?_; rintro e W8 ⟨g0, rfl, hG, hB8⟩; have HG := hide hG; have HR8 := hide (HR7.out.grow hB8); clear hG hB8)
          have HST := hide (steady_yes HR8.out.d (a := 1) ⟨by omega, by omega⟩ HA.out.1 HA.out.2.1 HA.out.2.2.1)
          go_wp2_with (first
            | (go_at_call 10; refine Calls.mono HST.out ?_; rintro e W9 ⟨rfl, hB9⟩; have HG9 := hide (HG.out.keep hB9); have HR9 := hide (HR8.out.grow hB9); clear hB9)
            | (go_at_call 14; refine Calls.mono (full_any (HY.out.keep HR9.out.k) hk) ?_; rintro e W10 ⟨z3, c5, rfl, hb3, _, hB10⟩; have HF3 := hide hb3; have HG10 := hide (HG9.out.keep hB10); have HR10 := hide (HR9.out.grow hB10); clear hb3 hB10)
            | (go_at_call 13; refine Calls.mono (same_t (HG10.out.ba HPN.out) HF3.out (by omega) (fl_of HPN.out.1) rfl) ?_; rintro e W11 ⟨rfl, hB11⟩; have HR11 := hide (HR10.out.grow hB11); clear hB11))
          go_ret
          exact ⟨rfl, HR11.out.k⟩
        · have HW := hide (HSV.out.resolve_left (fun h => he h.1))
          rw [HW.out.1] at HC2
          have HMid : Hid (∃ p, Mid D3 1 (pd f m) (pd g k) p) := by
            obtain ⟨q, hq, hf⟩ := HW.out.2
            exact save_fell (by rw [HFD.out.2.2.1]; omega) ⟨HFD.out.2.2.2 1 (by omega) (by omega), HFD.out.2.2.2 2 (by omega) (by omega), HFD.out.2.2.2 3 (by omega) (by omega)⟩ hq hf
          have HN3 : Hid (D3.n = 5) := by
            obtain ⟨q, hq, hf⟩ := HW.out.2
            exact hf.n.trans HFD.out.2.2.1
          clear HSV he HW
          obtain ⟨o, ho⟩ : ∃ o, o = pd f m := ⟨_, rfl⟩
          obtain ⟨nv, hnv⟩ : ∃ nv, nv = pd g k := ⟨_, rfl⟩
          rw [← ho, ← hnv] at HMid
          rw [← ho] at HPO
          rw [← hnv] at HPN
          have HEo := hide ho
          have HEn := hide hnv
          clear ho hnv
          go_wp2_with (go_at_call 9; refine Calls.mono HC2.out ?_; rintro e W7 ⟨rfl, hD7, hK7⟩; have HR7 := hide (HR6.out.next hD7 hK7); clear hD7 hK7)
          have HQ : Hid (WhQ w W7 b lb mb o nv) := by
            obtain ⟨p, hp⟩ := HMid.out
            exact ⟨D3, p, HR7.out, hp, HN3.out⟩
          clear HR6 HR7 HMid HN3 HC2 HFD
          go_loopg [14] n (fun g' s14 wr => ∃ i : Nat, g' = n - i ∧ i ≤ n ∧ s14 = .int .i64 (i : Int) ∧ WhQ w wr b lb mb o nv)
          case atStart => exact ⟨0, rfl, by omega, rfl, HQ.out⟩
          case round =>
            clear HQ
            obtain ⟨i, rfl, hin, rfl, D, p, hR, hM, hn5⟩ := hrel
            have HR := hide hR
            have HM := hide hM
            have HN5 := hide hn5
            clear hR hM hn5
            by_cases hlt : i < n
            · obtain ⟨pb, po, rfl, hpc⟩ := HO.out.cells (by omega)
              have hlt' : (i : Int) < (n : Int) := by omega
              have HPC := hide (hpc i hlt)
              have HK := hide (HO.out.r i hlt)
              have hpi : wr.cell? ⟨pb, po + i * 3, none⟩ = some (.slice (O i).z (O i).KL.length (O i).k) := later HR.out.k (HPC.out 0 _ rfl)
              clear hpc
              by_cases hkl : (O i).KL.length ≤ 100
              · have hkl' : decide ((100 : Int) < ((O i).KL.length : Int)) = false := decide_eq_false (by omega)
                go_upto_region 18 with (first
                  | (refine wpList_load_ft (v := O i) rfl _ rfl (by rfl) (fun j u hu => later HR.out.k (HPC.out j u hu)) ?_)
                  | (go_at_call 15; refine Calls.mono (crash_any HR.out.d (HK.out.keep HR.out.k) (kb_ahead HR.out HK.out) _ _) ?_; rintro e W8 ⟨⟨vc, rfl⟩, hD8, hK8⟩; have HR8 := hide (HR.out.next hD8 hK8); clear hD8 hK8))
                have HM8 := hide (HM.out.crash (O i).KL (O i).t (O i).a)
                have HC8 := hide (cr_calm D (O i).KL (O i).t (O i).a)
                have HN8 : Hid ((D.cr (O i).KL (O i).t (O i).a).n = 5) := HN5.out
                obtain ⟨D8, hD8⟩ : ∃ D8, D8 = D.cr (O i).KL (O i).t (O i).a := ⟨_, rfl⟩
                rw [← hD8] at HM8 HC8 HR8 HN8
                clear hD8 hpi HR HM HN5
                obtain ⟨v, hv⟩ : ∃ v, v = mv D8 1 := ⟨_, rfl⟩
                have HV : Hid (sec v) := by have := HR8.out.sec1; rw [← hv] at this; exact this
                have HL : Hid (D8.ldE 1 = 0 ∧ D8.ldB 1 = v) := by
                  obtain ⟨l1, l2⟩ := ld_calm HC8.out (a := 1) (by rw [HN8.out]; omega)
                  exact ⟨l1, l2.trans hv.symm⟩
                have HOr : Hid (v = o ∨ v = nv) := by have := HM8.out.value; rw [← hv] at this; exact this
                have HEv := hide hv
                clear hv
                have HCL : Hid (Calls Try.prog 12 #[pp b, .int .i64 1] W8 (GotP W8 v)) := by
                  have h := load_got HR8.out.d (a := 1) ⟨by omega, by omega⟩ HL.out.1
                  rw [HL.out.2] at h
                  exact h
                go_upto_region 19 with (go_at_call 12; refine Calls.mono HCL.out ?_; rintro e W9 ⟨g0, rfl, hG, hB9⟩; have HXg := hide (HR8.out.out hG.ge); have HG := hide hG; have HR9 := hide (HR8.out.grow hB9); clear hG hB9)
                clear HR8 HCL
                by_cases hvn : v = nv
                · have hd : decide (v = nv) = true := decide_eq_true hvn
                  go_upto_region 21 with (first
                    | (go_at_call 14; refine Calls.mono (full_any (HY.out.keep HR9.out.k) hk) ?_; rintro e W10 ⟨z3, c5, rfl, hb3, _, hB10⟩; have HF3 := hide hb3; have HG10 := hide (HG.out.keep hB10); have HR10 := hide (HR9.out.grow hB10); clear hb3 hB10)
                    | (go_at_call 13; refine Calls.mono (same_l (l := v) (m := nv) (HG10.out.ba HV.out) HF3.out (by omega) (fl_of HV.out.1) HEn.out.symm) ?_; rw [hd]; rintro e W11 ⟨rfl, hB11⟩; have HG11 := hide (HG10.out.keep hB11); have HR11 := hide (HR10.out.grow hB11); clear hB11))
                  have hi5 : (0 : Int) ≤ (i : Int) % 5 ∧ (i : Int) % 5 < 5 := by omega
                  go_upto_region 22 with (go_at_call 11; refine Calls.mono (fuse_any HR11.out.d ((i : Int) % 5) (by omega)) ?_; rintro e W14 ⟨⟨vf2, rfl⟩, hD14, hK14⟩; have HR14 := hide (HR11.out.next hD14 hK14); have HG14 := hide (HG11.out.kp hK14 HXg.out); clear hD14 hK14)
                  have HM14 := hide (HM8.out.fuse ((i : Int) % 5))
                  have HC14 := hide (fuse_calm HC8.out ((i : Int) % 5))
                  have HN14 : Hid ((D8.fuse ((i : Int) % 5)).n = 5) := HN8.out
                  have HV14 : Hid (v = mv (D8.fuse ((i : Int) % 5)) 1) := HEv.out
                  obtain ⟨E, hE⟩ : ∃ E, E = D8.fuse ((i : Int) % 5) := ⟨_, rfl⟩
                  rw [← hE] at HM14 HC14 HN14 HR14 HV14
                  clear hE hi5
                  have HMC := hide (mend_calm HC14.out (by rw [HN14.out]; omega) HR14.out.sec1)
                  rw [← HV14.out] at HMC
                  have HCM := hide (mend_any HR14.out.d (a := 1) ⟨by omega, by omega⟩)
                  by_cases he : E.mendE 1 = 0
                  · have HW := hide (HMC.out.resolve_right (fun h => by have := h.1; rw [he] at this; cases this))
                    rw [he] at HCM
                    have HA := hide (HW.out.2.calm3 (by rw [HN14.out]; omega))
                    clear HMC he
                    go_upto_region 24 with (go_at_call 16; refine Calls.mono HCM.out ?_; rintro e W15 ⟨rfl, hD15, hK15⟩; have HR15 := hide (HR14.out.next hD15 hK15); have HG15 := hide (HG14.out.kp hK15 HXg.out); clear hD15 hK15)
                    have HCL : Hid (Calls Try.prog 12 #[pp b, .int .i64 1] W15 (GotP W15 v)) := by
                      have h := load_got HR15.out.d (a := 1) ⟨by omega, by omega⟩ HA.out.2.2.2.1
                      rw [HA.out.2.2.2.2] at h
                      exact h
                    go_upto_region 25 with (go_at_call 12; refine Calls.mono HCL.out ?_; rintro e W16 ⟨g2, rfl, hG2, hB16⟩; have HG2 := hide hG2; have HG16 := hide (HG15.out.keep hB16); have HR16 := hide (HR15.out.grow hB16); clear hG2 hB16)
                    have HST := hide (steady_yes HR16.out.d (a := 1) ⟨by omega, by omega⟩ HA.out.1 HA.out.2.1 HA.out.2.2.1)
                    go_wp2_with (first
                      | (go_at_call 10; refine Calls.mono HST.out ?_; rintro e W17 ⟨rfl, hB17⟩; have HG17 := hide (HG16.out.keep hB17); have HG27 := hide (HG2.out.keep hB17); have HR17 := hide (HR16.out.grow hB17); clear hB17)
                      | (go_at_call 13; refine Calls.mono (same_t (HG27.out.ba HV.out) (HG17.out.ba HV.out) (by omega) (fl_of HV.out.1) (fl_of HV.out.1)) ?_; rintro e W18 ⟨rfl, hB18⟩; have HR18 := hide (HR17.out.grow hB18); clear hB18))
                    go_ret
                    exact ⟨rfl, HR18.out.k⟩
                  · have HW := hide (HMC.out.resolve_left (fun h => he h.1))
                    rw [HW.out.1] at HCM
                    clear HMC he
                    go_wp2_with (go_at_call 16; refine Calls.mono HCM.out ?_; rintro e W15 ⟨rfl, hD15, hK15⟩; have HR15 := hide (HR14.out.next hD15 hK15); clear hD15 hK15)
                    go_roundg (n - (i + 1))
                    case measure => omega
                    case rel => exact ⟨i + 1, rfl, by omega, by simp, by
                      obtain ⟨_, q, hq, hne, hf⟩ := HW.out
                      rw [HV14.out] at hne hf
                      obtain ⟨p2, hp2⟩ := mend_fell HM14.out hq hne hf
                      exact ⟨E.mendD 1, p2, HR15.out, hp2, hf.n.trans HN14.out⟩⟩
                · have hd : decide (v = nv) = false := decide_eq_false hvn
                  have hvo : v = o := HOr.out.resolve_right hvn
                  have HVo := hide hvo
                  clear hvo
                  go_upto_region 21 with (first
                    | (have hq := HR11.out; clear hq; go_at_call 14; refine Calls.mono (full_any (HX.out.keep HR11.out.k) hm) ?_; rintro e W12 ⟨z4, c6, rfl, hb4, _, hB12⟩; have HF4 := hide hb4; have HG12 := hide (HG11.out.keep hB12); have HR12 := hide (HR11.out.grow hB12); clear hb4 hB12)
                    | (go_at_call 14; refine Calls.mono (full_any (HY.out.keep HR9.out.k) hk) ?_; rintro e W10 ⟨z3, c5, rfl, hb3, _, hB10⟩; have HF3 := hide hb3; have HG10 := hide (HG.out.keep hB10); have HR10 := hide (HR9.out.grow hB10); clear hb3 hB10)
                    | (have hq := HR12.out; clear hq; go_at_call 13; refine Calls.mono (same_t (HG12.out.ba HV.out) HF4.out (by omega) (fl_of HV.out.1) (HEo.out.symm.trans HVo.out.symm)) ?_; rintro e W13 ⟨rfl, hB13⟩; have HG13 := hide (HG12.out.keep hB13); have HR13 := hide (HR12.out.grow hB13); clear hB13)
                    | (go_at_call 13; refine Calls.mono (same_l (l := v) (m := nv) (HG10.out.ba HV.out) HF3.out (by omega) (fl_of HV.out.1) HEn.out.symm) ?_; rw [hd]; rintro e W11 ⟨rfl, hB11⟩; have HG11 := hide (HG10.out.keep hB11); have HR11 := hide (HR10.out.grow hB11); clear hB11))
                  have hi5 : (0 : Int) ≤ (i : Int) % 5 ∧ (i : Int) % 5 < 5 := by omega
                  go_upto_region 22 with (go_at_call 11; refine Calls.mono (fuse_any HR13.out.d ((i : Int) % 5) (by omega)) ?_; rintro e W14 ⟨⟨vf2, rfl⟩, hD14, hK14⟩; have HR14 := hide (HR13.out.next hD14 hK14); have HG14 := hide (HG13.out.kp hK14 HXg.out); clear hD14 hK14)
                  have HM14 := hide (HM8.out.fuse ((i : Int) % 5))
                  have HC14 := hide (fuse_calm HC8.out ((i : Int) % 5))
                  have HN14 : Hid ((D8.fuse ((i : Int) % 5)).n = 5) := HN8.out
                  have HV14 : Hid (v = mv (D8.fuse ((i : Int) % 5)) 1) := HEv.out
                  obtain ⟨E, hE⟩ : ∃ E, E = D8.fuse ((i : Int) % 5) := ⟨_, rfl⟩
                  rw [← hE] at HM14 HC14 HN14 HR14 HV14
                  clear hE hi5
                  have HMC := hide (mend_calm HC14.out (by rw [HN14.out]; omega) HR14.out.sec1)
                  rw [← HV14.out] at HMC
                  have HCM := hide (mend_any HR14.out.d (a := 1) ⟨by omega, by omega⟩)
                  by_cases he : E.mendE 1 = 0
                  · have HW := hide (HMC.out.resolve_right (fun h => by have := h.1; rw [he] at this; cases this))
                    rw [he] at HCM
                    have HA := hide (HW.out.2.calm3 (by rw [HN14.out]; omega))
                    clear HMC he
                    go_upto_region 24 with (go_at_call 16; refine Calls.mono HCM.out ?_; rintro e W15 ⟨rfl, hD15, hK15⟩; have HR15 := hide (HR14.out.next hD15 hK15); have HG15 := hide (HG14.out.kp hK15 HXg.out); clear hD15 hK15)
                    have HCL : Hid (Calls Try.prog 12 #[pp b, .int .i64 1] W15 (GotP W15 v)) := by
                      have h := load_got HR15.out.d (a := 1) ⟨by omega, by omega⟩ HA.out.2.2.2.1
                      rw [HA.out.2.2.2.2] at h
                      exact h
                    go_upto_region 25 with (go_at_call 12; refine Calls.mono HCL.out ?_; rintro e W16 ⟨g2, rfl, hG2, hB16⟩; have HG2 := hide hG2; have HG16 := hide (HG15.out.keep hB16); have HR16 := hide (HR15.out.grow hB16); clear hG2 hB16)
                    have HST := hide (steady_yes HR16.out.d (a := 1) ⟨by omega, by omega⟩ HA.out.1 HA.out.2.1 HA.out.2.2.1)
                    go_wp2_with (first
                      | (go_at_call 10; refine Calls.mono HST.out ?_; rintro e W17 ⟨rfl, hB17⟩; have HG17 := hide (HG16.out.keep hB17); have HG27 := hide (HG2.out.keep hB17); have HR17 := hide (HR16.out.grow hB17); clear hB17)
                      | (go_at_call 13; refine Calls.mono (same_t (HG27.out.ba HV.out) (HG17.out.ba HV.out) (by omega) (fl_of HV.out.1) (fl_of HV.out.1)) ?_; rintro e W18 ⟨rfl, hB18⟩; have HR18 := hide (HR17.out.grow hB18); clear hB18))
                    go_ret
                    exact ⟨rfl, HR18.out.k⟩
                  · have HW := hide (HMC.out.resolve_left (fun h => he h.1))
                    rw [HW.out.1] at HCM
                    clear HMC he
                    go_wp2_with (go_at_call 16; refine Calls.mono HCM.out ?_; rintro e W15 ⟨rfl, hD15, hK15⟩; have HR15 := hide (HR14.out.next hD15 hK15); clear hD15 hK15)
                    go_roundg (n - (i + 1))
                    case measure => omega
                    case rel => exact ⟨i + 1, rfl, by omega, by simp, by
                      obtain ⟨_, q, hq, hne, hf⟩ := HW.out
                      rw [HV14.out] at hne hf
                      obtain ⟨p2, hp2⟩ := mend_fell HM14.out hq hne hf
                      exact ⟨E.mendD 1, p2, HR15.out, hp2, hf.n.trans HN14.out⟩⟩
              · have hkl' : (100 : Int) < ((O i).KL.length : Int) := by omega
                go_wp2_with fail
                go_ret
                exact ⟨rfl, HR.out.k⟩
            · obtain rfl : i = n := by omega
              go_wp2_with fail
              go_ret
              exact ⟨rfl, HR.out.k⟩
      · have hn2' : (20 : Int) < (n : Int) := by omega
        go_wp2_with (first
          | (have hq := HB2.out; clear hq; go_at_call 7; refine Calls.mono (awake_any _) ?_; rintro e W3 ⟨rfl, hB3⟩; have HB3 := hide (K.call HB2.out hB3); clear hB3)
          | (go_at_call 7; refine Calls.mono (awake_any _) ?_; rintro e W2 ⟨rfl, hB2⟩; have HB2 := hide (K.call HBd.out hB2); clear hB2))
        go_ret
        exact ⟨rfl, HB3.out⟩
    · have hk' : (64 : Int) < (k : Int) := by omega
      go_wp2_with (first
        | (have hq := HB2.out; clear hq; go_at_call 7; refine Calls.mono (awake_any _) ?_; rintro e W3 ⟨rfl, hB3⟩; have HB3 := hide (K.call HB2.out hB3); clear hB3)
        | (go_at_call 7; refine Calls.mono (awake_any _) ?_; rintro e W2 ⟨rfl, hB2⟩; have HB2 := hide (K.call HBd.out hB2); clear hB2))
      go_ret
      exact ⟨rfl, HB3.out⟩
  · have hm' : (64 : Int) < (m : Int) := by omega
    go_wp2_with (first
      | (have hq := HB2.out; clear hq; go_at_call 7; refine Calls.mono (awake_any _) ?_; rintro e W3 ⟨rfl, hB3⟩; have HB3 := hide (K.call HB2.out hB3); clear hB3)
      | (go_at_call 7; refine Calls.mono (awake_any _) ?_; rintro e W2 ⟨rfl, hB2⟩; have HB2 := hide (K.call HBd.out hB2); clear hB2))
    go_ret
    exact ⟨rfl, HB3.out⟩
end Go.Proofs.Ytbgpjebacpmppaa
