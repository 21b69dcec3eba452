/- Layer 14: the law of what is saved. -/
import Derived.Test.YtbgpjebacpmppaaN14N
import Derived.Test.YtbgpjebacpmppaaN14O
namespace Go.Proofs.Ytbgpjebacpmppaa
open Go.RowKit Go.Maps
attribute [local go_sem ↓] Go.wp_at_zero Go.wp_at_succ

theorem FzR.base {w w1 wr : World} {b lb mb : Nat} {D : DM} (h : FzR w1 wr b lb mb D) (hB : Below w.heap.size w w1) : FzR w wr b lb mb D :=
  ⟨h.d, Nat.le_trans hB.size h.b, Nat.le_trans hB.size h.l, Nat.le_trans hB.size h.m, K.call hB h.k⟩
theorem same_t {w : World} {x y : Option Addr} {n n2 c c2 : Nat} {f g : Nat → Nat} {l : List Nat} (h : BA w x n f) (h2 : BA w y n2 g) (hn : n ≤ 1000000) (e1 : fl f n = l) (e2 : fl g n2 = l) :
    Calls Try.prog 13 #[.slice x n c, .slice y n2 c2] w fun e w' => e = .returned (.bool true) ∧ Below w.heap.size w w' := by
  have h := same_l (c := c) (c2 := c2) h h2 hn e1 e2
  rwa [decide_eq_true rfl] at h
def one8 (x i : Nat) : Nat := [x].getD i 0
theorem one8_lt {x : Nat} (h : x < 256) (i : Nat) : one8 x i < 256 := getD_lt (by intro y hy; simp at hy; omega) i
theorem one8_ba (w : World) {x : Nat} (h : x < 256) : BA (w.alloc (.cells #[.int .u8 (x : Int)] 5)) (some ⟨w.heap.size, 0, none⟩) 1 (one8 x) := made_ba w [x] (by intro y hy; simp at hy; omega)
theorem one8_first (x : Nat) : (cells8 (pd (one8 x) 1))[0]? = some (.int .u8 (x : Int)) := rfl
/-- The disk of the law: two marks, and a sector on each side. -/
structure SaD (D : DM) (V0 V1 : List Nat) : Prop where
  f : D.free
  n : D.n = 8
  x : D.cur 0 = pd (one8 5) 1
  y : D.cur 7 = pd (one8 6) 1
  a : D.cur 1 = V0 ∧ D.cur 2 = V0 ∧ D.cur 3 = V0
  b : D.cur 4 = V1 ∧ D.cur 5 = V1 ∧ D.cur 6 = V1
theorem SaD.save0 {D : DM} {V0 V1 v : List Nat} (h : SaD D V0 V1) (hv : sec v) : SaD (sv D 1 v 3).1 v V1 := by
  obtain ⟨_, h1, h2, h3⟩ := sv_free h.f (a := 1) (by rw [h.n]; omega) hv 3 (by omega)
  replace h1 : (sv D 1 v 3).1.free := h1
  replace h2 : (sv D 1 v 3).1.n = D.n := h2
  replace h3 : ∀ k, (sv D 1 v 3).1.cur k = if 1 ≤ k ∧ k < 1 + 3 then v else D.cur k := h3
  refine ⟨h1, h2.trans h.n, ?_, ?_, ⟨?_, ?_, ?_⟩, ⟨?_, ?_, ?_⟩⟩
  · rw [h3, if_neg (by omega)]; exact h.x
  · rw [h3, if_neg (by omega)]; exact h.y
  · rw [h3, if_pos (by omega)]
  · rw [h3, if_pos (by omega)]
  · rw [h3, if_pos (by omega)]
  · rw [h3, if_neg (by omega)]; exact h.b.1
  · rw [h3, if_neg (by omega)]; exact h.b.2.1
  · rw [h3, if_neg (by omega)]; exact h.b.2.2
theorem SaD.save1 {D : DM} {V0 V1 v : List Nat} (h : SaD D V0 V1) (hv : sec v) : SaD (sv D 4 v 3).1 V0 v := by
  obtain ⟨_, h1, h2, h3⟩ := sv_free h.f (a := 4) (by rw [h.n]; omega) hv 3 (by omega)
  replace h1 : (sv D 4 v 3).1.free := h1
  replace h2 : (sv D 4 v 3).1.n = D.n := h2
  replace h3 : ∀ k, (sv D 4 v 3).1.cur k = if 4 ≤ k ∧ k < 4 + 3 then v else D.cur k := h3
  refine ⟨h1, h2.trans h.n, ?_, ?_, ⟨?_, ?_, ?_⟩, ⟨?_, ?_, ?_⟩⟩
  · rw [h3, if_neg (by omega)]; exact h.x
  · rw [h3, if_neg (by omega)]; exact h.y
  · rw [h3, if_neg (by omega)]; exact h.a.1
  · rw [h3, if_neg (by omega)]; exact h.a.2.1
  · rw [h3, if_neg (by omega)]; exact h.a.2.2
  · rw [h3, if_pos (by omega)]
  · rw [h3, if_pos (by omega)]
  · rw [h3, if_pos (by omega)]
theorem SaD.ld0 {D : DM} {V0 V1 : List Nat} (h : SaD D V0 V1) : D.ldE 1 = 0 ∧ D.ldB 1 = V0 := by
  obtain ⟨g1, g2⟩ := ld_free h.f (a := 1) (by rw [h.n]; omega)
  refine ⟨g1, g2.trans ?_⟩
  rw [h.a.1, h.a.2.1, h.a.2.2]
  exact if_pos rfl
theorem SaD.ld1 {D : DM} {V0 V1 : List Nat} (h : SaD D V0 V1) : D.ldE 4 = 0 ∧ D.ldB 4 = V1 := by
  obtain ⟨g1, g2⟩ := ld_free h.f (a := 4) (by rw [h.n]; omega)
  refine ⟨g1, g2.trans ?_⟩
  rw [h.b.1, h.b.2.1, h.b.2.2]
  exact if_pos rfl
/-- Behind both Writes. -/
def sa0 : DM := ((DM.new 8).wr 0 (pd (one8 5) 1)).wr 7 (pd (one8 6) 1)
theorem sa0_ok : (DM.new 8).wrE 0 64 = 0 ∧ ((DM.new 8).wr 0 (pd (one8 5) 1)).wrE 7 64 = 0 ∧ SaD sa0 z64 z64 := by
  have s5 := pd_sec (one8_lt (x := 5) (by omega)) 1
  have s6 := pd_sec (one8_lt (x := 6) (by omega)) 1
  obtain ⟨h1, h2, h3, h4⟩ := wr_free (new_free 8) (i := 0) (by show 0 < 8; omega) s5
  rw [s5.1] at h1
  obtain ⟨g1, g2, g3, g4⟩ := wr_free h2 (i := 7) (by rw [h3]; show 7 < 8; omega) s6
  rw [s6.1] at g1
  have hc : ∀ k, sa0.cur k = if k = 7 then pd (one8 6) 1 else if k = 0 then pd (one8 5) 1 else z64 := fun k => (g4 k).trans (by rw [h4]; rfl)
  refine ⟨h1, g1, g2, g3.trans h3, ?_, ?_, ⟨?_, ?_, ?_⟩, ⟨?_, ?_, ?_⟩⟩ <;> rw [hc] <;> rfl
def tx0 : TxV := ⟨none, 0, 0, fun _ => 0⟩
theorem pd_zero : pd tx0.f tx0.m = z64 := by decide
/-- While values are saved: the last two are in block sb. -/
structure SaR (w wr : World) (b lb mb sb : Nat) (o0 o1 : TxV) (D : DM) : Prop where
  f : FzR w wr b lb mb D
  d : SaD D (pd o0.f o0.m) (pd o1.f o1.m)
  c0 : wr.cell? ⟨sb, 0, none⟩ = some o0.v
  c1 : wr.cell? ⟨sb, 1, none⟩ = some o1.v
  z : ∀ j, j < 2 → wr.frozen? ⟨sb, j, none⟩ = false
  sg : w.heap.size ≤ sb
  sl : sb < wr.heap.size
  sx : X3 b lb mb sb = false
  b0 : BA w o0.x o0.m o0.f
  b1 : BA w o1.x o1.m o1.f
  m0 : o0.m ≤ 64
  m1 : o1.m ≤ 64
def SaQ (w wr : World) (b lb mb sb : Nat) : Prop := ∃ o0 o1 D, SaR w wr b lb mb sb o0 o1 D
theorem SaR.grow {w wr w' : World} {b lb mb sb : Nat} {o0 o1 : TxV} {D : DM} (h : SaR w wr b lb mb sb o0 o1 D) (hB : Below wr.heap.size wr w') : SaR w w' b lb mb sb o0 o1 D := by
  have e1 := hB.block sb h.sl
  exact ⟨h.f.grow hB, h.d, (World.cell?_of_block (w := wr) e1).trans h.c0, (World.cell?_of_block (w := wr) e1).trans h.c1, fun j hj => (World.frozen?_of_block (w := wr) e1).trans (h.z j hj), h.sg, Nat.lt_of_lt_of_le h.sl hB.size, h.sx, h.b0, h.b1, h.m0, h.m1⟩
theorem kp_frozen {X : Nat → Bool} {w w' : World} (hK : Kp X w w') {g o : Nat} (hl : g < w.heap.size) (hx : X g = false) : w'.frozen? ⟨g, o, none⟩ = w.frozen? ⟨g, o, none⟩ := World.frozen?_of_block (w := w) (hK.block g hl hx)
theorem FzR.set {w wr : World} {b lb mb : Nat} {D : DM} (h : FzR w wr b lb mb D) {sb o : Nat} (hg : w.heap.size ≤ sb) (hx : X3 b lb mb sb = false) (v : Value) : FzR w (wr.setCell ⟨sb, o, none⟩ v) b lb mb D := by
  refine ⟨h.d.same (by simp) (fun k hk => Below.heap_setCell _ _ _ _ (fun e => ?_)), h.b, h.l, h.m, below_set hg v h.k⟩
  rw [e] at hk
  exact absurd (hk.symm.trans hx) (by decide)
/-- A value is saved at the first mark, and kept as the last one. -/
theorem SaR.put0 {w wr W5 : World} {b lb mb sb : Nat} {o0 o1 : TxV} {D : DM} (h : SaR w wr b lb mb sb o0 o1 D) {o : TxV} (hb : BA w o.x o.m o.f) (hm : o.m ≤ 64) (hD : Dsk W5 b lb mb (sv D 1 (pd o.f o.m) 3).1) (hK : Kp (X3 b lb mb) wr W5) :
    SaR w (W5.setCell ⟨sb, 0, none⟩ o.v) b lb mb sb o o1 (sv D 1 (pd o.f o.m) 3).1 := by
  have c0 := (hK.cell (p := ⟨sb, 0, none⟩) h.sl h.sx).trans h.c0
  have c1 := (hK.cell (p := ⟨sb, 1, none⟩) h.sl h.sx).trans h.c1
  refine ⟨(h.f.next hD hK).set h.sg h.sx _, h.d.save0 (pd_sec hb.lt _), World.cell?_setCell_same' _ _ _ (by rw [c0]; rfl), ?_, fun j hj => ?_, h.sg, by simp; exact Nat.lt_of_lt_of_le h.sl hK.size, h.sx, hb, h.b1, hm, h.m1⟩
  · rw [World.cell?_setCell_other]
    · exact c1
    · intro e; cases e
  · rw [World.frozen?_setCell, kp_frozen hK h.sl h.sx]; exact h.z j hj
theorem SaR.put1 {w wr W5 : World} {b lb mb sb : Nat} {o0 o1 : TxV} {D : DM} (h : SaR w wr b lb mb sb o0 o1 D) {o : TxV} (hb : BA w o.x o.m o.f) (hm : o.m ≤ 64) (hD : Dsk W5 b lb mb (sv D 4 (pd o.f o.m) 3).1) (hK : Kp (X3 b lb mb) wr W5) :
    SaR w (W5.setCell ⟨sb, 1, none⟩ o.v) b lb mb sb o0 o (sv D 4 (pd o.f o.m) 3).1 := by
  have c0 := (hK.cell (p := ⟨sb, 0, none⟩) h.sl h.sx).trans h.c0
  have c1 := (hK.cell (p := ⟨sb, 1, none⟩) h.sl h.sx).trans h.c1
  refine ⟨(h.f.next hD hK).set h.sg h.sx _, h.d.save1 (pd_sec hb.lt _), ?_, World.cell?_setCell_same' _ _ _ (by rw [c1]; rfl), fun j hj => ?_, h.sg, by simp; exact Nat.lt_of_lt_of_le h.sl hK.size, h.sx, h.b0, hb, h.m0, hm⟩
  · rw [World.cell?_setCell_other]
    · exact c0
    · intro e; cases e
  · rw [World.frozen?_setCell, kp_frozen hK h.sl h.sx]; exact h.z j hj
set_option maxRecDepth 100000 in
set_option maxHeartbeats 3000000 in
theorem markSaves_any {z : Option Addr} {n c : Nat} {O : Nat → TxV} {w : World} (hO : TxsAt w z n O) : Calls Try.prog 6 #[.slice z n c] w (OkT w) := by
  have HO := hide hO
  clear hO
  by_cases hn : n ≤ 20
  · have hn' : decide ((20 : Int) < (n : Int)) = false := decide_eq_false (by omega)
    have HD0 := hide sa0_ok
    go_enter Try.func6, Try.ntmps6
    go_upto_region 4 with (first
      | (go_at_call 7; refine Calls.mono (awake_any _) ?_; rintro e W1 ⟨rfl, hB1⟩; have HB1 := hide hB1; clear hB1)
      | (go_at_call 8; refine Calls.mono (new_any (n := 8) (by omega) _) ?_; rintro e W2 ⟨b, lb, mb, rfl, hD, h1, h2, h3, hB⟩; have HR := hide ((FzR.mk hD h1 h2 h3 hB).base HB1.out); clear hD h1 h2 h3 hB))
    go_upto_region 6 with (first
      | (go_at_call 14; refine Calls.mono (full_any (one8_ba W4 (x := 6) (by omega)) (by omega)) ?_; rintro e W5 ⟨z2, c2, rfl, hb2, hz2, hB5⟩; have HW5 := hide (And.intro hb2 hz2); have HR5 := hide (HR4.out.grow (K.call (K.alloc (Below.refl _ _) _) hB5)); clear hb2 hz2 hB5)
      | (go_at_call 14; refine Calls.mono (full_any (one8_ba W2 (x := 5) (by omega)) (by omega)) ?_; rintro e W3 ⟨z1, c1, rfl, hb1, hz1, hB3⟩; have HW3 := hide (And.intro hb1 hz1); have HR3 := hide (HR.out.grow (K.call (K.alloc (Below.refl _ _) _) hB3)); clear hb1 hz1 hB3)
      | (go_at_call 17; refine Calls.mono (write_any HR5.out.d 7 HW5.out.1 (fun _ p hp => HR4.out.out (Nat.le_trans (by simp) (HW5.out.2 p hp)))) ?_; rw [HD0.out.2.1]; rintro e W6 ⟨rfl, hD6, hK6⟩; have HR6 : Hid (FzR w W6 b lb mb sa0) := HR5.out.next hD6 hK6; clear hD6 hK6)
      | (go_at_call 17; refine Calls.mono (write_any HR3.out.d 0 HW3.out.1 (fun _ p hp => HR.out.out (Nat.le_trans (by simp) (HW3.out.2 p hp)))) ?_; rw [HD0.out.1]; rintro e W4 ⟨rfl, hD4, hK4⟩; have HR4 : Hid (FzR w W4 b lb mb ((DM.new 8).wr 0 (pd (one8 5) 1))) := HR3.out.next hD4 hK4; clear hD4 hK4))
    have HS0 : Hid (SaR w (W6.alloc (.cells #[.slice none 0 0, .slice none 0 0] 23)) b lb mb W6.heap.size tx0 tx0 sa0) := by
      have hal : Below W6.heap.size W6 (W6.alloc (.cells #[.slice none 0 0, .slice none 0 0] 23)) := K.alloc (Below.refl _ _) _
      have hr : (W6.alloc (.cells #[.slice none 0 0, .slice none 0 0] 23)).rangeAt W6.heap.size 0 [.slice none 0 0, .slice none 0 0] := range_new W6 [.slice none 0 0, .slice none 0 0] 23
      refine ⟨HR6.out.grow hal, ?_, hr 0 _ rfl, hr 1 _ rfl, fun j hj => ?_, HR6.out.k.size, by simp, HR6.out.out (Nat.le_refl _), nil_ba w, nil_ba w, by decide, by decide⟩
      · rw [pd_zero]; exact HD0.out.2.2
      · have hh : (W6.alloc (.cells #[.slice none 0 0, .slice none 0 0] 23)).heap[W6.heap.size]? = some (.cells #[.slice none 0 0, .slice none 0 0] 23) := heap_alloc_new W6 _
        unfold World.frozen?
        simp only [hh]
        simp
    clear HR HR3 HR4 HR5 HR6 HW3 HW5 HD0 HB1
    go_wp2_with fail
    refine wp_let (fun X hX => ?_)
    obtain ⟨sb, hsb⟩ : ∃ sb, sb = W6.heap.size := ⟨_, rfl⟩
    rw [← hX, ← hsb] at HS0
    rw [← hsb]
    clear hX hsb
    go_loopg [6] n (fun g' s6 wr => ∃ i : Nat, g' = n - i ∧ i ≤ n ∧ s6 = .int .i64 (i : Int) ∧ SaQ w wr b lb mb sb)
    case atStart => exact ⟨0, rfl, by omega, rfl, tx0, tx0, sa0, HS0.out⟩
    case round =>
      clear HS0
      obtain ⟨i, rfl, hin, rfl, o0, o1, D, hR⟩ := hrel
      have HR := hide hR
      clear hR
      by_cases hlt : i < n
      · obtain ⟨pb, po, rfl, hpc⟩ := HO.out.at_.resolve_left (by omega)
        have hlt' : (i : Int) < (n : Int) := by omega
        have hpi : wr.cell? ⟨pb, po + i, none⟩ = some (.slice (O i).x (O i).m (O i).c) := later HR.out.f.k (hpc i hlt)
        have HOi := hide (HO.out.r i hlt)
        have HPW := hide (hpc i hlt)
        clear hpc
        by_cases hm : (O i).m ≤ 64
        · have hm' : decide ((64 : Int) < ((O i).m : Int)) = false := decide_eq_false (by omega)
          have HPI : Hid (w.cell? ⟨pb, po + i, none⟩ = some (.slice (O i).x (O i).m (O i).c)) := HPW.out
          by_cases h2 : i % 2 = 0
          · have h2' : (i : Int) % 2 = 0 := by omega
            have HSv := hide (save_free HR.out.d.f (a := 1) (by rw [HR.out.d.n]; omega) HOi.out.lt hm)
            have HC : Hid (∀ c, Calls Try.prog 9 #[pp b, .int .i64 1, .slice (O i).x (O i).m c] wr (WrP wr b lb mb (sv D 1 (pd (O i).f (O i).m) 3).1 0)) := fun c => by
              have h := save_any (c := c) HR.out.f.d (a := 1) ⟨by omega, by omega⟩ (HOi.out.keep HR.out.f.k)
              rw [show D.saveE 1 (O i).f (O i).m = 0 from HSv.out.1, show D.saveD 1 (O i).f (O i).m = (sv D 1 (pd (O i).f (O i).m) 3).1 from HSv.out.2] at h
              exact h
            go_upto_region 15 with (first
              | (go_at_call 9; refine Calls.mono (HC.out _) ?_; rintro e W5 ⟨rfl, hD5, hK5⟩; have HX := hide (HR.out.put0 HOi.out hm hD5 hK5); have hcz := (hK5.cell (p := ⟨sb, 0, none⟩) HR.out.sl HR.out.sx).trans HR.out.c0; have hcf := (kp_frozen (o := 0) hK5 HR.out.sl HR.out.sx).trans (HR.out.z 0 (by omega)); have hpi5 : W5.cell? ⟨pb, po + i, none⟩ = some (.slice (O i).x (O i).m (O i).c) := later (HR.out.f.next hD5 hK5).k HPI.out; clear hD5 hK5))
            clear hpi hcz hcf hpi5 HC HSv
            refine wp_let (fun X hX => ?_)
            have HR1 : Hid (SaR w X b lb mb sb (O i) (o1) (sv D 1 (pd (O i).f (O i).m) 3).1) := by rw [hX]; exact HX.out
            clear hX HX HR
            obtain ⟨D1, hD1⟩ : ∃ D1, D1 = (sv D 1 (pd (O i).f (O i).m) 3).1 := ⟨_, rfl⟩
            rw [← hD1] at HR1
            clear hD1
            have HQ1 : Hid (∀ W, Below X.heap.size X W → Calls Try.prog 12 #[pp b, .int .i64 1] W (GotP W (pd (O i).f (O i).m))) := fun W hW => by
              have h := load_got (HR1.out.grow hW).f.d (a := 1) ⟨by omega, by omega⟩ HR1.out.d.ld0.1
              rwa [HR1.out.d.ld0.2] at h
            have HQ2 : Hid (∀ W, Below X.heap.size X W → Calls Try.prog 12 #[pp b, .int .i64 4] W (GotP W (pd (o1).f (o1).m))) := fun W hW => by
              have h := load_got (HR1.out.grow hW).f.d (a := 4) ⟨by omega, by omega⟩ HR1.out.d.ld1.1
              rwa [HR1.out.d.ld1.2] at h
            go_upto_region 16 with (go_at_call 12; refine Calls.mono (HQ1.out _ (Below.refl _ _)) ?_; rintro e W6' ⟨g0, rfl, hG0, hB6⟩; have HB6 := hide hB6; have HG0 := hide hG0; clear hG0 hB6)
            go_upto_region 17 with (go_at_call 12; refine Calls.mono (HQ2.out _ HB6.out) ?_; rintro e W7 ⟨g1, rfl, hG1, hB7⟩; have HB7 := hide (K.call HB6.out hB7); have HG1 := hide hG1; have HG07 := hide (HG0.out.keep hB7); clear hG1 hB7)
            clear HQ1 HQ2 HG0
            have hc0 : W7.cell? ⟨sb, 0, none⟩ = some (.slice (O i).x (O i).m (O i).c) := (HR1.out.grow HB7.out).c0
            have HS0 := hide (pd_sec HR1.out.b0.lt (O i).m)
            have HS1 := hide (pd_sec HR1.out.b1.lt (o1).m)
            go_wp2_with (first
              | (have hq := HB9.out; clear hq; go_at_call 14; refine Calls.mono (full_any ((HR1.out.grow HB9.out).b1.keep (HR1.out.grow HB9.out).f.k) HR1.out.m1) ?_; rintro e W10 ⟨z4, c4, rfl, hb4, _, hB10⟩; have HB10 := hide (K.call HB9.out hB10); have HG10 := hide (HG9.out.keep hB10); have HF1 := hide hb4; clear hb4 hB10)
              | (go_at_call 14; refine Calls.mono (full_any ((HR1.out.grow HB7.out).b0.keep (HR1.out.grow HB7.out).f.k) HR1.out.m0) ?_; rintro e W8 ⟨z3, c3, rfl, hb3, _, hB8⟩; have HB8 := hide (K.call HB7.out hB8); have HG08 := hide (HG07.out.keep hB8); have HG18 := hide (HG1.out.keep hB8); have HF0 := hide hb3; clear hb3 hB8)
              | (have hq := HG10.out; clear hq; go_at_call 13; refine Calls.mono (same_t (HG10.out.ba HS1.out) HF1.out (by omega) (fl_of HS1.out.1) rfl) ?_; rintro e W11 ⟨rfl, hB11⟩; have HB11 := hide (K.call HB10.out hB11); clear hB11)
              | (go_at_call 13; refine Calls.mono (same_t (HG08.out.ba HS0.out) HF0.out (by omega) (fl_of HS0.out.1) rfl) ?_; rintro e W9 ⟨rfl, hB9⟩; have HB9 := hide (K.call HB8.out hB9); have HG9 := hide (HG18.out.keep hB9); have hc1 : W9.cell? ⟨sb, 1, none⟩ = some (.slice (o1).x (o1).m (o1).c) := (HR1.out.grow HB9.out).c1; clear hB9))
            go_roundg (n - (i + 1))
            case measure => omega
            case rel => exact ⟨i + 1, rfl, by omega, by simp, _, _, _, HR1.out.grow HB11.out⟩
          · have h2' : (i : Int) % 2 = 1 := by omega
            have HSv := hide (save_free HR.out.d.f (a := 4) (by rw [HR.out.d.n]; omega) HOi.out.lt hm)
            have HC : Hid (∀ c, Calls Try.prog 9 #[pp b, .int .i64 4, .slice (O i).x (O i).m c] wr (WrP wr b lb mb (sv D 4 (pd (O i).f (O i).m) 3).1 0)) := fun c => by
              have h := save_any (c := c) HR.out.f.d (a := 4) ⟨by omega, by omega⟩ (HOi.out.keep HR.out.f.k)
              rw [show D.saveE 4 (O i).f (O i).m = 0 from HSv.out.1, show D.saveD 4 (O i).f (O i).m = (sv D 4 (pd (O i).f (O i).m) 3).1 from HSv.out.2] at h
              exact h
            go_upto_region 15 with (first
              | (go_at_call 9; refine Calls.mono (HC.out _) ?_; rintro e W5 ⟨rfl, hD5, hK5⟩; have HX := hide (HR.out.put1 HOi.out hm hD5 hK5); have hcz := (hK5.cell (p := ⟨sb, 1, none⟩) HR.out.sl HR.out.sx).trans HR.out.c1; have hcf := (kp_frozen (o := 1) hK5 HR.out.sl HR.out.sx).trans (HR.out.z 1 (by omega)); have hpi5 : W5.cell? ⟨pb, po + i, none⟩ = some (.slice (O i).x (O i).m (O i).c) := later (HR.out.f.next hD5 hK5).k HPI.out; clear hD5 hK5))
            clear hpi hcz hcf hpi5 HC HSv
            refine wp_let (fun X hX => ?_)
            have HR1 : Hid (SaR w X b lb mb sb (o0) (O i) (sv D 4 (pd (O i).f (O i).m) 3).1) := by rw [hX]; exact HX.out
            clear hX HX HR
            obtain ⟨D1, hD1⟩ : ∃ D1, D1 = (sv D 4 (pd (O i).f (O i).m) 3).1 := ⟨_, rfl⟩
            rw [← hD1] at HR1
            clear hD1
            have HQ1 : Hid (∀ W, Below X.heap.size X W → Calls Try.prog 12 #[pp b, .int .i64 1] W (GotP W (pd (o0).f (o0).m))) := fun W hW => by
              have h := load_got (HR1.out.grow hW).f.d (a := 1) ⟨by omega, by omega⟩ HR1.out.d.ld0.1
              rwa [HR1.out.d.ld0.2] at h
            have HQ2 : Hid (∀ W, Below X.heap.size X W → Calls Try.prog 12 #[pp b, .int .i64 4] W (GotP W (pd (O i).f (O i).m))) := fun W hW => by
              have h := load_got (HR1.out.grow hW).f.d (a := 4) ⟨by omega, by omega⟩ HR1.out.d.ld1.1
              rwa [HR1.out.d.ld1.2] at h
            go_upto_region 16 with (go_at_call 12; refine Calls.mono (HQ1.out _ (Below.refl _ _)) ?_; rintro e W6' ⟨g0, rfl, hG0, hB6⟩; have HB6 := hide hB6; have HG0 := hide hG0; clear hG0 hB6)
            go_upto_region 17 with (go_at_call 12; refine Calls.mono (HQ2.out _ HB6.out) ?_; rintro e W7 ⟨g1, rfl, hG1, hB7⟩; have HB7 := hide (K.call HB6.out hB7); have HG1 := hide hG1; have HG07 := hide (HG0.out.keep hB7); clear hG1 hB7)
            clear HQ1 HQ2 HG0
            have hc0 : W7.cell? ⟨sb, 0, none⟩ = some (.slice (o0).x (o0).m (o0).c) := (HR1.out.grow HB7.out).c0
            have HS0 := hide (pd_sec HR1.out.b0.lt (o0).m)
            have HS1 := hide (pd_sec HR1.out.b1.lt (O i).m)
            go_wp2_with (first
              | (have hq := HB9.out; clear hq; go_at_call 14; refine Calls.mono (full_any ((HR1.out.grow HB9.out).b1.keep (HR1.out.grow HB9.out).f.k) HR1.out.m1) ?_; rintro e W10 ⟨z4, c4, rfl, hb4, _, hB10⟩; have HB10 := hide (K.call HB9.out hB10); have HG10 := hide (HG9.out.keep hB10); have HF1 := hide hb4; clear hb4 hB10)
              | (go_at_call 14; refine Calls.mono (full_any ((HR1.out.grow HB7.out).b0.keep (HR1.out.grow HB7.out).f.k) HR1.out.m0) ?_; rintro e W8 ⟨z3, c3, rfl, hb3, _, hB8⟩; have HB8 := hide (K.call HB7.out hB8); have HG08 := hide (HG07.out.keep hB8); have HG18 := hide (HG1.out.keep hB8); have HF0 := hide hb3; clear hb3 hB8)
              | (have hq := HG10.out; clear hq; go_at_call 13; refine Calls.mono (same_t (HG10.out.ba HS1.out) HF1.out (by omega) (fl_of HS1.out.1) rfl) ?_; rintro e W11 ⟨rfl, hB11⟩; have HB11 := hide (K.call HB10.out hB11); clear hB11)
              | (go_at_call 13; refine Calls.mono (same_t (HG08.out.ba HS0.out) HF0.out (by omega) (fl_of HS0.out.1) rfl) ?_; rintro e W9 ⟨rfl, hB9⟩; have HB9 := hide (K.call HB8.out hB9); have HG9 := hide (HG18.out.keep hB9); have hc1 : W9.cell? ⟨sb, 1, none⟩ = some (.slice (O i).x (O i).m (O i).c) := (HR1.out.grow HB9.out).c1; clear hB9))
            go_roundg (n - (i + 1))
            case measure => omega
            case rel => exact ⟨i + 1, rfl, by omega, by simp, _, _, _, HR1.out.grow HB11.out⟩
        · have hm' : (64 : Int) < ((O i).m : Int) := by omega
          go_wp2_with fail
          go_ret
          exact ⟨rfl, HR.out.f.k⟩
      · obtain rfl : i = n := by omega
        obtain ⟨r1, r2⟩ := rd_free HR.out.d.f (i := 0) (by rw [HR.out.d.n]; omega)
        obtain ⟨r3, r4⟩ := rd_free HR.out.d.f (i := 7) (by rw [HR.out.d.n]; omega)
        rw [HR.out.d.x] at r2
        rw [HR.out.d.y] at r4
        have HQ0 : Hid (∀ W, Below wr.heap.size wr W → Calls Try.prog 18 #[pp b, .int .i64 0] W (GotP W (pd (one8 5) 1))) := fun W hW => by
          have h := read_got (HR.out.grow hW).f.d (i := 0) r1
          rwa [show D.rdB 0 = pd (one8 5) 1 from r2] at h
        have HQ7 : Hid (∀ W, Below wr.heap.size wr W → Calls Try.prog 18 #[pp b, .int .i64 7] W (GotP W (pd (one8 6) 1))) := fun W hW => by
          have h := read_got (HR.out.grow hW).f.d (i := 7) r3
          rwa [show D.rdB 7 = pd (one8 6) 1 from r4] at h
        clear r1 r2 r3 r4
        go_wp2_with (first
          | (have hq := HB8.out; clear hq; go_at_call 18; refine Calls.mono (HQ7.out _ HB8.out) ?_; rintro e W9 ⟨g1, rfl, hG1, hB9⟩; have hcx : W9.cell? ⟨g0, 0, none⟩ = some (.int .u8 5) := later hB9 hcx8; have hcy : W9.cell? ⟨g1, 0, none⟩ = some (.int .u8 6) := hG1.r 0 _ (one8_first 6); have HB9 := hide (K.call HB8.out hB9); clear hcx8 hG1 hB9)
          | (go_at_call 18; refine Calls.mono (HQ0.out _ (Below.refl _ _)) ?_; rintro e W8 ⟨g0, rfl, hG0, hB8⟩; have hcx8 : W8.cell? ⟨g0, 0, none⟩ = some (.int .u8 5) := hG0.r 0 _ (one8_first 5); have HB8 := hide hB8; clear hG0 hB8))
        go_ret
        exact ⟨rfl, K.call HR.out.f.k HB9.out⟩
  · have hn' : (20 : Int) < (n : Int) := by omega
    go_enter Try.func6, Try.ntmps6
    go_wp2_with (first
      | (have hq := HB1.out; clear hq; go_at_call 7; refine Calls.mono (awake_any _) ?_; rintro e W2 ⟨rfl, hB2⟩; have HB2 := hide (K.call HB1.out hB2); clear hB2)
      | (go_at_call 7; refine Calls.mono (awake_any _) ?_; rintro e W1 ⟨rfl, hB1⟩; have HB1 := hide hB1; clear hB1))
    go_ret
    exact ⟨rfl, HB2.out⟩
end Go.Proofs.Ytbgpjebacpmppaa
