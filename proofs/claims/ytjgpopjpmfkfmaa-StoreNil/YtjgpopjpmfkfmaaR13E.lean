/- Layer 13: the document's Crash. -/
import Derived.Test.YtjgpopjpmfkfmaaR13D
namespace Go.Proofs.Ytjgpopjpmfkfmaa
set_option maxRecDepth 100000
open Go.RowKit Go.Maps
attribute [local go_sem ↓] Go.wp_at_zero Go.wp_at_succ

theorem wp_load1 {op : Oper} {a : Act} {w : World} {Kt : Act → World → Prop} {Q : Exit → Act → World → Prop} {x : Operand} {g o m c : Nat} {p : Option Addr} (ho : op.op = .load 38 x) (hx : a.eval x = .pointer (some ⟨g, o, none⟩))
    (hc : w.cell? ⟨g, o, none⟩ = some (.slice p m c)) (h : Kt (a.put op.dst (.slice p m c)) w) : Oper.wp Try.prog op a w Kt Q := by
  unfold Oper.wp execOp
  simp only [ho, hx]
  go_simp
  exact h
theorem rk_zero (nw : Nat → Option (List Nat)) : rk nw 0 = 0 := rfl
theorem rk_none {nw : Nat → Option (List Nat)} {i : Nat} (h : nw i = none) : rk nw (i + 1) = rk nw i := by
  unfold rk wrs
  rw [List.range_succ, List.filter_append, List.length_append]
  simp [h]
theorem rk_some {nw : Nat → Option (List Nat)} {i : Nat} {l : List Nat} (h : nw i = some l) : rk nw (i + 1) = rk nw i + 1 := by
  unfold rk wrs
  rw [List.range_succ, List.filter_append, List.length_append]
  simp [h]
theorem rk_le (nw : Nat → Option (List Nat)) (i : Nat) : rk nw i ≤ i := wrs_le i nw
/-- What lasts while a crash goes on. -/
def DM.crq (D : DM) (K : List Bool) (t at_ : Int) (i : Nat) : DM := { D with la := fun j => if j < i then D.crA K t at_ j else D.la j, nw := fun j => if j < i then none else D.nw j }
theorem DM.crq_zero (D : DM) (K : List Bool) (t at_ : Int) : D.crq K t at_ 0 = D := by
  obtain ⟨n, la, nw, fu, dn⟩ := D
  simp [DM.crq]
theorem DM.crq_none {D : DM} (K : List Bool) (t at_ : Int) {i : Nat} (h : D.nw i = none) : D.crq K t at_ (i + 1) = D.crq K t at_ i := by
  refine DM.mk_eq ?_ ?_
  · funext j
    by_cases e : j = i
    · subst e; simp [h, DM.crA]
    · by_cases h1 : j < i
      · rw [if_pos h1, if_pos (by omega)]
      · rw [if_neg h1, if_neg (by omega)]
  · funext j
    by_cases e : j = i
    · subst e; simp [h]
    · by_cases h1 : j < i
      · rw [if_pos h1, if_pos (by omega)]
      · rw [if_neg h1, if_neg (by omega)]
theorem DM.crq_some {D : DM} (K : List Bool) (t at_ : Int) {i : Nat} {s : List Nat} (h : D.nw i = some s) : ({ D.crq K t at_ i with la := upd (D.crq K t at_ i).la i (mix (lv K t at_ (rk D.nw i)) s (D.la i)), nw := upd (D.crq K t at_ i).nw i none } : DM) = D.crq K t at_ (i + 1) := by
  refine DM.mk_eq ?_ ?_
  · funext j
    show upd _ i _ j = if j < i + 1 then D.crA K t at_ j else D.la j
    by_cases e : j = i
    · subst e; simp [h, upd, DM.crA]
    · by_cases h1 : j < i
      · simp only [upd, if_neg e, DM.crq]; rw [if_pos h1, if_pos (by omega)]
      · simp only [upd, if_neg e, DM.crq]; rw [if_neg h1, if_neg (by omega)]
  · funext j
    show upd _ i none j = if j < i + 1 then none else D.nw j
    by_cases e : j = i
    · subst e; simp [upd]
    · by_cases h1 : j < i
      · simp only [upd, if_neg e, DM.crq]; rw [if_pos h1, if_pos (by omega)]
      · simp only [upd, if_neg e, DM.crq]; rw [if_neg h1, if_neg (by omega)]
theorem DM.crq_end {D : DM} (hok : D.ok) (K : List Bool) (t at_ : Int) : D.cr K t at_ = ⟨D.n, (D.crq K t at_ D.n).la, (D.crq K t at_ D.n).nw, none, false⟩ := by
  have hn : ∀ j, ¬ j < D.n → D.nw j = none := fun j hj => by
    cases hx : D.nw j with
    | none => rfl
    | some l => exact absurd (hok.nw j l hx).1 hj
  refine DM.mk_eq ?_ ?_
  · funext j
    show D.crA K t at_ j = if j < D.n then D.crA K t at_ j else D.la j
    split
    · rfl
    · rename_i hj; simp [DM.crA, hn j hj]
  · funext j
    show none = if j < D.n then none else D.nw j
    split
    · rfl
    · rename_i hj; exact (hn j hj).symm
def CqR (w W1 wr : World) (r la na cl cn : Nat) (zl zn : Option Addr) (D : DM) (G : Nat → Bool) (K : List Bool) (t at_ : Int) (i : Nat) : Prop := ∃ G', RDk wr r la na cl cn zl zn (D.crq K t at_ i) G' ∧ Kp (X3 r la na) W1 wr ∧ ∀ k, G' k = true → G k = true ∨ w.heap.size ≤ k
def CqP (w : World) (r la na cl cn : Nat) (zl zn : Option Addr) (D : DM) (G : Nat → Bool) (e : Ending) (w' : World) : Prop := (∃ v, e = .returned v) ∧ ∃ G', RDk w' r la na cl cn zl zn D G' ∧ Kp (X3 r la na) w w' ∧ ∀ k, G' k = true → G k = true ∨ w.heap.size ≤ k
set_option maxRecDepth 100000 in
set_option maxHeartbeats 8000000 in
theorem ref_crash {w : World} {r la na cl cn : Nat} {zl zn : Option Addr} {D : DM} {G : Nat → Bool} (h : RDk w r la na cl cn zl zn D G) {z : Option Addr} {KL : List Bool} {c : Nat} (hK : Kb w z KL) (hz : KL ≠ [] → ∀ p, z = some p → X3 r la na p.block = false) (t at_ : Int) :
    Calls Try.prog 21 #[pp r, .agg #[.slice z KL.length c, .int .i64 t, .int .i64 at_]] w (CqP w r la na cl cn zl zn (D.cr KL t at_) G) := by
  have HD := hide h
  have HKb := hide hK
  have HZ := hide hz
  clear h hK hz
  go_enter Try.func21, Try.ntmps21
  go_upto_region 1 with fail
  refine wp_let (fun W1 hW1 => ?_)
  obtain ⟨fb, hfb⟩ : ∃ fb, fb = w.heap.size := ⟨_, rfl⟩
  rw [← hfb]
  have HB1 : Hid (Below w.heap.size w W1) := by show Below _ _ _; rw [hW1]; exact K.alloc (Below.refl _ _) _
  have HF1 : Hid (W1.rangeAt fb 0 [.slice z KL.length c, .int .i64 t, .int .i64 at_] ∧ fb < W1.heap.size ∧ w.heap.size ≤ fb) := by
    have hh : W1.heap[fb]? = some (.cells #[.slice z KL.length c, .int .i64 t, .int .i64 at_] 41) := by rw [hW1, hfb]; exact heap_alloc_new w _
    refine ⟨fun j v hv => ?_, (Array.getElem?_eq_some_iff.1 hh).1, by omega⟩
    unfold World.cell?
    simp only [hh, Nat.zero_add]
    simpa using hv
  clear hW1 hfb
  have HFX : Hid (X3 r la na fb = false) := by
    show _ = _
    cases hx : X3 r la na fb with
    | false => rfl
    | true => have := HD.out.gl fb (HD.out.gx fb hx); have := HF1.out.2.2; omega
  have HD1 : Hid (RDk W1 r la na cl cn zl zn D G) := HD.out.same HB1.out.size (fun k hk => HB1.out.block k (HD.out.gl k hk))
  have HKb1 := hide (HKb.out.keep HB1.out)
  clear HD HKb
  go_wp2_with fail
  go_loopg [4, 5] D.n (fun g' s4 s5 wr => ∃ i : Nat, g' = D.n - i ∧ i ≤ D.n ∧ s4 = .int .i64 (rk D.nw i : Int) ∧ s5 = .int .i64 (i : Int) ∧ CqR w W1 wr r la na cl cn zl zn D G KL t at_ i)
  case atStart => exact ⟨0, rfl, Nat.zero_le _, rfl, rfl, G, by rw [DM.crq_zero]; exact HD1.out, Kp.refl _ _, fun k hk => Or.inl hk⟩
  case round =>
    obtain ⟨i, rfl, hp, rfl, rfl, G', hDp, hKp, hGp⟩ := hrel
    have h0 : wr.cell? ⟨r, 0, none⟩ = some (.slice zl D.n cl) := hDp.c0
    have h1 : wr.cell? ⟨r, 1, none⟩ = some (.slice zn D.n cn) := hDp.c1
    have HDp := hide hDp
    have HKp := hide hKp
    have HGp := hide hGp
    have hn4 := HD1.out.ok.n
    clear hDp hKp hGp
    by_cases hlt : i < D.n
    · obtain ⟨rfl, rfl, a3, a4, a5⟩ := HDp.out.a (Nat.lt_of_le_of_lt (Nat.zero_le _) hlt)
      obtain ⟨vl, hvl, sl⟩ := HDp.out.lv i hlt
      obtain ⟨vn, hvn, sn⟩ := HDp.out.nv i hlt
      have hlt' : (i : Int) < (D.n : Int) := by omega
      have hw : wrap64 ((i : Int) + 1) = ((i + 1 : Nat) : Int) := by unfold wrap64; omega
      have hwr : wrap64 ((rk D.nw i : Int) + 1) = ((rk D.nw i + 1 : Nat) : Int) := by have := rk_le D.nw i; unfold wrap64; omega
      have en : (D.crq KL t at_ i).nw i = D.nw i := if_neg (Nat.lt_irrefl i)
      have el : (D.crq KL t at_ i).la i = D.la i := if_neg (Nat.lt_irrefl i)
      rw [en] at sn
      rw [el] at sl
      have HP := hide (And.intro hlt hn4)
      rcases sn with ⟨e0, rfl⟩ | ⟨s, e0, sn⟩
      · clear hlt hp hn4 en a3 a4 a5 sl el
        go_wp2_with fail
        go_roundg (D.n - (i + 1))
        case measure => have := HP.out.1; omega
        case rel => exact ⟨i + 1, rfl, HP.out.1, by rw [rk_none e0], by rw [hw], G', by rw [DM.crq_none KL t at_ e0]; exact HDp.out, HKp.out, HGp.out⟩
      · have HS := hide (And.intro sl sn)
        have HSec : Hid (sec s ∧ sec (D.la i)) := ⟨(HD1.out.ok.nw i s e0).2, HD1.out.ok.la i⟩
        obtain ⟨g, c2, rfl, _⟩ := sn
        obtain ⟨g1, c1, rfl, _⟩ := sl
        have hrl := HDp.out.rl
        have hnal : na < wr.heap.size := HDp.out.gl na (HDp.out.gx na (X3_of.2 (Or.inr (Or.inr rfl))))
        have hfl : fb < wr.heap.size := Nat.lt_of_lt_of_le HF1.out.2.1 HKp.out.size
        have hfn : fb ≠ la := fun e => by
          have := HFX.out
          rw [X3_of.2 (Or.inr (Or.inl e))] at this
          cases this
        have HC0 : Hid (∀ w' : World, wr.grownBy w' (some la) → w'.cell? ⟨r, 0, none⟩ = some (.slice (some ⟨la, 0, none⟩) D.n cl)) := fun w' hg => (World.cell?_of_block (w := wr) (hg.block r hrl (fun e => a3 (Option.some.inj e).symm))).trans h0
        have HC1 : Hid (∀ w' : World, wr.grownBy w' (some la) → w'.cell? ⟨r, 1, none⟩ = some (.slice (some ⟨na, 0, none⟩) D.n cn)) := fun w' hg => (World.cell?_of_block (w := wr) (hg.block r hrl (fun e => a3 (Option.some.inj e).symm))).trans h1
        have HCN : Hid (∀ w' : World, wr.grownBy w' (some la) → w'.cell? ⟨na, i, none⟩ = some (.slice (some ⟨g, 0, none⟩) 64 c2)) := fun w' hg => (World.cell?_of_block (w := wr) (hg.block na hnal (fun e => a5 (Option.some.inj e).symm))).trans hvn
        have HCF : Hid (∀ w' : World, wr.grownBy w' (some la) → w'.rangeAt fb 0 [.slice z KL.length c, .int .i64 t, .int .i64 at_]) := fun w' hg j v hv => (World.cell?_of_block (w := wr) (hg.block fb hfl (fun e => hfn (Option.some.inj e)))).trans ((HKp.out.cell (p := ⟨fb, 0 + j, none⟩) HF1.out.2.1 HFX.out).trans (HF1.out.1 j v hv))
        have HKbr : Hid (Kb wr.drew z KL) := by
          by_cases e1 : KL = []
          · exact Or.inl e1
          rcases HKb1.out with e | ⟨kb, ko, e, hr⟩
          · exact Or.inl e
          · exact Or.inr ⟨kb, ko, e, fun j v hv => (HKp.out.cell (p := ⟨kb, ko + j, none⟩) (World.block_lt_of_cell? W1 _ (hr j v hv)) (HZ.out e1 ⟨kb, ko, none⟩ e)).trans (hr j v hv)⟩
        have HVZ := hide (And.intro hvl (HDp.out.lz i hlt))
        have HXl : Hid (∀ k, X3 r la na k = true → k < wr.drew.heap.size) := fun k hk => HDp.out.gl k (HDp.out.gx k hk)
        have hlal : la < wr.heap.size := HDp.out.gl la (HDp.out.gx la (X3_of.2 (Or.inr (Or.inl rfl))))
        have HLal := hide hlal
        have HCL := hide (ref_left (w := wr.drew) (c := c) (HS.out.1.same (fun _ _ _ => rfl)) (HS.out.2.same (fun _ _ _ => rfl)) HSec.out.2 HSec.out.1 HXl.out (rk D.nw i) HKbr.out t at_)
        clear hp hn4 a3 a4 a5 hrl hnal hvl hfl hfn hlal
        go_upto_region 6 with fail
        refine wp_region_noPanic ?_
        refine wp_region_held_drew (S := fun w' => wr.grownBy w' (some la)) (by kernel_rfl) ⟨rfl, rfl, rfl, Nat.le_refl _, fun _ _ _ => rfl⟩ (fun hS0 => ?_)
        refine wpAnyH_take (i := 0) (v := pp r) rfl (by kernel_rfl) (by kernel_rfl) (by kernel_rfl) (fun _ _ _ h => h) (Or.inl ⟨by rfl, fun w' _ => by go_simp⟩) hS0 ?_
        simp only [Act.put, List.getElem_toArray, List.getElem_cons_zero, List.setIfInBounds_toArray, List.set_cons_zero, List.set_cons_succ]
        refine wpAnyH_take (i := 1) (v := pp r) rfl (by kernel_rfl) (by kernel_rfl) (by kernel_rfl) (fun _ _ _ h => h) (Or.inl ⟨by rfl, fun w' _ => by go_simp⟩) hS0 ?_
        simp only [Act.put, List.getElem_toArray, List.getElem_cons_zero, List.getElem_cons_succ, List.setIfInBounds_toArray, List.set_cons_zero, List.set_cons_succ]
        refine wpAnyH_take (i := 2) (v := pp r) rfl (by kernel_rfl) (by kernel_rfl) (by kernel_rfl) (fun _ _ _ h => h) (Or.inl ⟨by rfl, fun w' _ => by go_simp⟩) hS0 ?_
        simp only [Act.put, List.getElem_toArray, List.getElem_cons_zero, List.getElem_cons_succ, List.setIfInBounds_toArray, List.set_cons_zero, List.set_cons_succ]
        refine wpAnyH_take (i := 3) (v := .slice (some ⟨la, 0, none⟩) D.n cl) rfl (by kernel_rfl) (by kernel_rfl) (by kernel_rfl) (fun _ _ _ h => h) (Or.inl ⟨by rfl, fun w' hS => by have hc := HC0.out _ hS; go_simp⟩) hS0 ?_
        simp only [Act.put, List.getElem_toArray, List.getElem_cons_zero, List.getElem_cons_succ, List.setIfInBounds_toArray, List.set_cons_zero, List.set_cons_succ]
        refine wpAnyH_take (i := 4) (v := .int .i64 (i : Int)) rfl (by kernel_rfl) (by kernel_rfl) (by kernel_rfl) (fun _ _ _ h => h) (Or.inl ⟨by rfl, fun w' _ => by go_simp⟩) hS0 ?_
        simp only [Act.put, List.getElem_toArray, List.getElem_cons_zero, List.getElem_cons_succ, List.setIfInBounds_toArray, List.set_cons_zero, List.set_cons_succ]
        refine wpAnyH_take (i := 5) (v := pp r) rfl (by kernel_rfl) (by kernel_rfl) (by kernel_rfl) (fun _ _ _ h => h) (Or.inl ⟨by rfl, fun w' _ => by go_simp⟩) hS0 ?_
        simp only [Act.put, List.getElem_toArray, List.getElem_cons_zero, List.getElem_cons_succ, List.setIfInBounds_toArray, List.set_cons_zero, List.set_cons_succ]
        refine wpAnyH_take (i := 6) (v := pp r) rfl (by kernel_rfl) (by kernel_rfl) (by kernel_rfl) (fun _ _ _ h => h) (Or.inl ⟨by rfl, fun w' _ => by go_simp⟩) hS0 ?_
        simp only [Act.put, List.getElem_toArray, List.getElem_cons_zero, List.getElem_cons_succ, List.setIfInBounds_toArray, List.set_cons_zero, List.set_cons_succ]
        refine wpAnyH_take (i := 7) (v := pp r) rfl (by kernel_rfl) (by kernel_rfl) (by kernel_rfl) (fun _ _ _ h => h) (Or.inl ⟨by rfl, fun w' _ => by go_simp⟩) hS0 ?_
        simp only [Act.put, List.getElem_toArray, List.getElem_cons_zero, List.getElem_cons_succ, List.setIfInBounds_toArray, List.set_cons_zero, List.set_cons_succ]
        refine wpAnyH_take (i := 8) (v := .slice (some ⟨la, 0, none⟩) D.n cl) rfl (by kernel_rfl) (by kernel_rfl) (by kernel_rfl) (fun _ _ _ h => h) (Or.inl ⟨by rfl, fun w' hS => by have hc := HC0.out _ hS; go_simp⟩) hS0 ?_
        simp only [Act.put, List.getElem_toArray, List.getElem_cons_zero, List.getElem_cons_succ, List.setIfInBounds_toArray, List.set_cons_zero, List.set_cons_succ]
        refine wpAnyH_take (i := 9) (v := .int .i64 (i : Int)) rfl (by kernel_rfl) (by kernel_rfl) (by kernel_rfl) (fun _ _ _ h => h) (Or.inl ⟨by rfl, fun w' _ => by go_simp⟩) hS0 ?_
        simp only [Act.put, List.getElem_toArray, List.getElem_cons_zero, List.getElem_cons_succ, List.setIfInBounds_toArray, List.set_cons_zero, List.set_cons_succ]
        refine wpAnyH_take (i := 10) (v := .pointer (some ⟨la, i, none⟩)) rfl (by kernel_rfl) (by kernel_rfl) (by kernel_rfl) (fun _ _ _ h => h) (Or.inl ⟨by rfl, fun w' _ => by go_simp⟩) hS0 ?_
        simp only [Act.put, List.getElem_toArray, List.getElem_cons_zero, List.getElem_cons_succ, List.setIfInBounds_toArray, List.set_cons_zero, List.set_cons_succ]
        refine wpAnyH_take (i := 12) (v := pp r) rfl (by kernel_rfl) (by kernel_rfl) (by kernel_rfl) (fun _ _ _ h => h) (Or.inl ⟨by rfl, fun w' _ => by go_simp⟩) hS0 ?_
        simp only [Act.put, List.getElem_toArray, List.getElem_cons_zero, List.getElem_cons_succ, List.setIfInBounds_toArray, List.set_cons_zero, List.set_cons_succ]
        refine wpAnyH_take (i := 13) (v := pp r) rfl (by kernel_rfl) (by kernel_rfl) (by kernel_rfl) (fun _ _ _ h => h) (Or.inl ⟨by rfl, fun w' _ => by go_simp⟩) hS0 ?_
        simp only [Act.put, List.getElem_toArray, List.getElem_cons_zero, List.getElem_cons_succ, List.setIfInBounds_toArray, List.set_cons_zero, List.set_cons_succ]
        refine wpAnyH_take (i := 14) (v := .pointer (some ⟨r, 1, none⟩)) rfl (by kernel_rfl) (by kernel_rfl) (by kernel_rfl) (fun _ _ _ h => h) (Or.inl ⟨by rfl, fun w' _ => by go_simp⟩) hS0 ?_
        simp only [Act.put, List.getElem_toArray, List.getElem_cons_zero, List.getElem_cons_succ, List.setIfInBounds_toArray, List.set_cons_zero, List.set_cons_succ]
        refine wpAnyH_take (i := 15) (v := .slice (some ⟨na, 0, none⟩) D.n cn) rfl (by kernel_rfl) (by kernel_rfl) (by kernel_rfl) (fun _ _ _ h => h) (Or.inl ⟨by rfl, fun w' hS => by have hc := HC1.out _ hS; go_simp⟩) hS0 ?_
        simp only [Act.put, List.getElem_toArray, List.getElem_cons_zero, List.getElem_cons_succ, List.setIfInBounds_toArray, List.set_cons_zero, List.set_cons_succ]
        refine wpAnyH_take (i := 16) (v := .int .i64 (i : Int)) rfl (by kernel_rfl) (by kernel_rfl) (by kernel_rfl) (fun _ _ _ h => h) (Or.inl ⟨by rfl, fun w' _ => by go_simp⟩) hS0 ?_
        simp only [Act.put, List.getElem_toArray, List.getElem_cons_zero, List.getElem_cons_succ, List.setIfInBounds_toArray, List.set_cons_zero, List.set_cons_succ]
        refine wpAnyH_take (i := 17) (v := .pointer (some ⟨na, i, none⟩)) rfl (by kernel_rfl) (by kernel_rfl) (by kernel_rfl) (fun _ _ _ h => h) (Or.inl ⟨by rfl, fun w' _ => by go_simp⟩) hS0 ?_
        simp only [Act.put, List.getElem_toArray, List.getElem_cons_zero, List.getElem_cons_succ, List.setIfInBounds_toArray, List.set_cons_zero, List.set_cons_succ]
        refine wpAnyH_take (i := 18) (v := .slice (some ⟨g, 0, none⟩) 64 c2) rfl (by kernel_rfl) (by kernel_rfl) (by kernel_rfl) (fun _ _ _ h => h) (Or.inl ⟨by rfl, fun w' hS => by have hc := HCN.out _ hS; go_simp⟩) hS0 ?_
        simp only [Act.put, List.getElem_toArray, List.getElem_cons_zero, List.getElem_cons_succ, List.setIfInBounds_toArray, List.set_cons_zero, List.set_cons_succ]
        refine wpAnyH_take (i := 19) (v := .int .i64 (rk D.nw i : Int)) rfl (by kernel_rfl) (by kernel_rfl) (by kernel_rfl) (fun _ _ _ h => h) (Or.inl ⟨by rfl, fun w' _ => by go_simp⟩) hS0 ?_
        simp only [Act.put, List.getElem_toArray, List.getElem_cons_zero, List.getElem_cons_succ, List.setIfInBounds_toArray, List.set_cons_zero, List.set_cons_succ]
        refine wpAnyH_take (i := 20) (v := .agg #[.slice z KL.length c, .int .i64 t, .int .i64 at_]) rfl (by kernel_rfl) (by kernel_rfl) (by kernel_rfl) (fun _ _ _ h => h) (yieldsIf_load_mid (by rfl) 41 _ rfl fb 0 (by rfl) ([.slice z KL.length c, .int .i64 t, .int .i64 at_]) _ (fun w' hS => HCF.out _ hS) Try.underlying41 rfl (by kernel_rfl)) hS0 ?_
        simp only [Act.put, List.getElem_toArray, List.getElem_cons_zero, List.getElem_cons_succ, List.setIfInBounds_toArray, List.set_cons_zero, List.set_cons_succ]
        refine wpAnyH_ready (rs := [11]) (by kernel_rfl) (by simp) (AllReadyH.cons rfl (fun Kt hK => ?_) AllReadyH.nil)
        refine wanted_pos rfl ?_
        refine wp_load1 rfl (by rfl) HVZ.out.1 (hK.out _ _ hS0 (fun _ => ?_))
        clear hK Kt
        simp only [Act.put, List.getElem_toArray, List.getElem_cons_zero, List.getElem_cons_succ, List.setIfInBounds_toArray, List.set_cons_zero, List.set_cons_succ]
        refine wpAnyH_ready (rs := [21]) (by kernel_rfl) (by simp) (AllReadyH.cons rfl (fun Kt hK => ?_) AllReadyH.nil)
        refine wanted_pos rfl ?_
        refine wp_call (R := fun x w' => LfP wr.drew G' r la na (mix (lv KL t at_ (rk D.nw i)) s (D.la i)) (.returned x) w') (vs := #[.slice (some ⟨g1, 0, none⟩) 64 c1, .slice (some ⟨g, 0, none⟩) 64 c2, .int .i64 (rk D.nw i : Int), .agg #[.slice z KL.length c, .int .i64 t, .int .i64 at_]]) rfl (by simp only [List.map_toArray, List.map_cons, List.map_nil]; rfl) (by go_simp) (Calls.mono HCL.out (fun e w' he => by obtain ⟨v, G2, e1, hh⟩ := he; exact ⟨v, e1, v, G2, rfl, hh⟩)) (fun x W6 hr => ?_)
        obtain ⟨v2, G2, ev, hsl2, hb6, hs1, hs2⟩ := hr
        cases ev
        have HSl2 := hide hsl2
        obtain ⟨g3, c3, rfl, _⟩ := hsl2
        have hS6 : wr.grownBy W6 (some la) := ⟨hb6.os, hb6.tape, hb6.output, hb6.size, fun k hk _ => hb6.block k hk⟩
        refine hK.out _ _ hS6 (fun _ => ?_)
        clear hK Kt
        simp only [Act.put, List.getElem_toArray, List.getElem_cons_zero, List.getElem_cons_succ, List.setIfInBounds_toArray, List.set_cons_zero, List.set_cons_succ]
        refine wpAnyH_take (i := 22) (v := .pointer (some ⟨la, i, none⟩)) rfl (by kernel_rfl) (by kernel_rfl) (by kernel_rfl) (fun _ _ _ h => h) (Or.inl ⟨by rfl, fun w' _ => by go_simp⟩) hS6 ?_
        simp only [Act.put, List.getElem_toArray, List.getElem_cons_zero, List.getElem_cons_succ, List.setIfInBounds_toArray, List.set_cons_zero, List.set_cons_succ]
        refine wpAnyH_ready (rs := [23]) (by kernel_rfl) (by simp) (AllReadyH.cons rfl (fun Kt hK => ?_) AllReadyH.nil)
        refine wanted_pos rfl ?_
        have hbl : W6.heap[la]? = wr.heap[la]? := hb6.block la HLal.out
        refine wp_store1 rfl (by rfl) (by rfl) ((World.cell?_of_block (w := wr) hbl).trans HVZ.out.1) ((World.frozen?_of_block (w := wr) hbl).trans HVZ.out.2) (hK.out _ _ ?_ (fun _ => ?_))
        · exact grown_tr hS6 ⟨rfl, rfl, rfl, by simp, fun k hk hne => Below.heap_setCell _ _ _ _ (fun e => hne (by rw [e]))⟩
        clear hK Kt
        refine wpAnyH_done (by kernel_rfl) ?_ _
        refine NoPanic.normal ?_
        have hDd : RDk W6 r la na cl cn (some ⟨la, 0, none⟩) (some ⟨na, 0, none⟩) (D.crq KL t at_ i) G' := HDp.out.same hb6.size (fun k hk => hb6.block k (HDp.out.gl k hk))
        have hG2 : ∀ k, G2 k = true → k < W6.heap.size := fun k hk => by
          rcases hs2 k hk with h' | h'
          · exact hDd.gl k h'
          · exact h'.2
        have hD2 := hDd.setl (i := i) (v := .slice (some ⟨g3, 0, none⟩) 64 c3) (G' := G2) hlt hs1 hG2 (mix_sec HSec.out.1 HSec.out.2) HSl2.out
        have hK2 : Kp (X3 r la na) W1 (W6.setCell ⟨la, i, none⟩ (.slice (some ⟨g3, 0, none⟩) 64 c3)) := ((HKp.out.grow (K.drew (Below.refl _ wr))).grow hb6).setCell (p := ⟨la, i, none⟩) (Or.inr (X3_of.2 (Or.inr (Or.inl rfl)))) _
        have HG2 : Hid (∀ k, G2 k = true → G k = true ∨ w.heap.size ≤ k) := fun k hk => by
          rcases hs2 k hk with h' | h'
          · exact HGp.out k h'
          · right
            have h1 := HB1.out.size
            have h2 := HKp.out.size
            have h3 : wr.drew.heap.size = wr.heap.size := rfl
            omega
        have hNN : ∃ vv, (W6.setCell ⟨la, i, none⟩ (.slice (some ⟨g3, 0, none⟩) 64 c3)).cell? ⟨na, i, none⟩ = some vv := (hD2.nv i hlt).imp fun _ h => h.1
        obtain ⟨vv, hvv⟩ := hNN
        generalize W6.setCell ⟨la, i, none⟩ (.slice (some ⟨g3, 0, none⟩) 64 c3) = W7 at hD2 hK2 hvv ⊢
        have d1 : W7.cell? ⟨r, 1, none⟩ = some (.slice (some ⟨na, 0, none⟩) D.n cn) := hD2.c1
        have dz : W7.frozen? ⟨na, i, none⟩ = false := hD2.nz i hlt
        have HD2 := hide hD2
        have HK2 := hide hK2
        clear hD2 hK2 hDd hS0 HC0 HC1 HCN HCF HVZ hlt h0 h1 hvn hb6 hS6 hs1 hs2 hG2 hbl HKbr HXl HCL
        simp only [Act.put, List.getElem_toArray, List.getElem_cons_zero, List.getElem_cons_succ]
        go_wp2_with fail
        go_roundg (D.n - (i + 1))
        case measure => have := HP.out.1; omega
        case rel =>
          have hD3 := HD2.out.setn (i := i) (v := .slice none 0 0) (nv := none) (G' := G2) HP.out.1 (fun _ h => h) HD2.out.gl (Or.inl ⟨rfl, rfl⟩)
          refine ⟨i + 1, rfl, HP.out.1, by rw [hwr, rk_some e0], by rw [hw], G2, ?_, HK2.out.setCell (p := ⟨na, i, none⟩) (Or.inr (X3_of.2 (Or.inr (Or.inr rfl)))) _, HG2.out⟩
          rw [← DM.crq_some KL t at_ e0]
          exact hD3
    · obtain rfl : i = D.n := by omega
      have c2 := HDp.out.c2
      have c3 := HDp.out.c3
      have z2 := HDp.out.z 2 (by omega)
      have z3 := HDp.out.z 3 (by omega)
      clear hlt hp hn4
      go_wp2_with fail
      rw [DM.crq_end HD1.out.ok]
      refine bodyPost_end (by simp [results, Try.results21]; rfl) rfl ⟨⟨_, rfl⟩, G', HDp.out.head (by simp) (fun k hk _ => (Below.heap_setCell _ _ _ _ hk).trans (Below.heap_setCell _ _ _ _ hk)) (fun i => (World.frozen?_setCell _ _ _ _).trans (World.frozen?_setCell _ _ _ _)) ?_ ?_ ?_ ?_ rfl rfl rfl (fun j hj => by cases hj), (((Kp.of HB1.out).trans HKp.out).trans (kp_set _ _)).trans (kp_set _ _), HGp.out⟩
      all_goals simp [go_sem, *, fuI, DM.crq]
end Go.Proofs.Ytjgpopjpmfkfmaa
