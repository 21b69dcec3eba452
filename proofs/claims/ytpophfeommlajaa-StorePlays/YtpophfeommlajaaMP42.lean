/- Layer 15: Commit. -/
import Derived.Test.YtpophfeommlajaaMP41
namespace Go.Proofs.Ytpophfeommlajaa
open Go.RowKit Go.Maps
attribute [local go_sem ↓] Go.wp_at_zero Go.wp_at_succ

/-- An entry stands at a place, sector by sector; some of them, one behind the other. -/
def StdW (D : DM) (p : Nat) (l : List Nat) : Prop := Std D p (fun i => l.getD i 0) l.length
def stl (D : DM) : Nat → List (List Nat) → Prop
  | _, [] => True
  | p, l :: r => StdW D p l ∧ stl D (p + tk l.length) r
theorem esec_congr {f h : Nat → Nat} {m : Nat} (e : ∀ i, i < m → f i = h i) (j : Nat) : esec f m j = esec h m j := by
  refine fl_congr fun i _ => ?_
  unfold encf pz
  split
  · rfl
  · split
    · rfl
    · split
      · rename_i h3; exact e _ h3
      · rfl
theorem fl_get {f : Nat → Nat} {m : Nat} {l : List Nat} (h : fl f m = l) : m = l.length ∧ ∀ i, i < m → f i = l.getD i 0 := by
  subst h
  refine ⟨(fl_len f m).symm, fun i hi => ?_⟩
  rw [List.getD_eq_getElem?_getD, fl_at f hi]
  rfl
theorem StdW.of {D : DM} {p : Nat} {l : List Nat} {f : Nat → Nat} {m : Nat} (h : StdW D p l) (e : fl f m = l) : Std D p f m := fun j hj => by
  obtain ⟨e1, e2⟩ := fl_get e
  rw [e1] at hj
  have := h j hj
  rw [esec_congr e2 j, e1]
  exact this
theorem StdW.to {D : DM} {p : Nat} {f : Nat → Nat} {m : Nat} (h : Std D p f m) : StdW D p (fl f m) := fun j hj => by
  obtain ⟨e1, e2⟩ := fl_get (f := f) (m := m) rfl
  rw [← e1] at hj ⊢
  have := h j hj
  rw [esec_congr e2 j] at this
  exact this
theorem stl_at {D : DM} : ∀ {L : List (List Nat)} {p i : Nat} {l : List Nat}, stl D p L → L[i]? = some l → StdW D (p + tks (L.take i)) l
  | [], _, _, _, _, h => by simp at h
  | b :: r, p, 0, l, hs, h => by
    have h : some b = some l := by simpa using h
    cases h
    exact hs.1
  | b :: r, p, i + 1, l, hs, h => by
    have h : r[i]? = some l := by simpa using h
    have := stl_at hs.2 h
    show StdW D (p + (tk b.length + tks (r.take i))) l
    rw [← Nat.add_assoc]
    exact this
theorem stl_app {D : DM} : ∀ {L : List (List Nat)} {p : Nat} {l : List Nat}, stl D p L → StdW D (p + tks L) l → stl D p (L ++ [l])
  | [], _, _, _, h => ⟨h, trivial⟩
  | b :: r, p, l, hs, h => ⟨hs.1, stl_app hs.2 (by
      have e : p + tks (b :: r) = p + tk b.length + tks r := by show p + (tk b.length + tks r) = _; omega
      rw [e] at h
      exact h)⟩
theorem stl_congr {D D' : DM} (hn : D'.n = D.n) : ∀ {L : List (List Nat)} {p : Nat}, stl D p L → (∀ k, p ≤ k → k < p + tks L → D'.cur k = D.cur k) → stl D' p L
  | [], _, _, _ => trivial
  | b :: r, p, hs, h => by
    have e : tks (b :: r) = tk b.length + tks r := rfl
    refine ⟨fun j hj => ?_, stl_congr hn hs.2 (fun k h1 h2 => h k (by omega) (by omega))⟩
    have := hs.1 j hj
    rw [hn, h (p + j) (by omega) (by omega)]
    exact this
theorem pd64 (n u : Nat) : pd (pz (mkf n u) 16) 64 = pd (mkf n u) 16 := by
  unfold pd
  exact pz_fl _ _
theorem cm_save {D : DM} {K Wt : List (List Nat)} (hs : D.syE = 0) (hn : 2 < D.n) : (D.sy.saveD 0 (pz (mkf (K.length + Wt.length) (tks K + tks Wt)) 16) 64, D.sy.saveE 0 (pz (mkf (K.length + Wt.length) (tks K + tks Wt)) 16) 64) = cm D (K ++ Wt) := by
  obtain ⟨_, hc, h1, _⟩ := sy_ok hs
  have hl : D.sy.ldE 0 = 0 := (ld_up hc.dn (a := 0) (by rw [h1]; exact hn)).1
  have e1 : D.sy.saveD 0 (pz (mkf (K.length + Wt.length) (tks K + tks Wt)) 16) 64 = (sv D.sy 0 (pd (pz (mkf (K.length + Wt.length) (tks K + tks Wt)) 16) 64) 3).1 := by unfold DM.saveD; rw [if_neg (by decide), if_pos hl]
  have e2 : D.sy.saveE 0 (pz (mkf (K.length + Wt.length) (tks K + tks Wt)) 16) 64 = (sv D.sy 0 (pd (pz (mkf (K.length + Wt.length) (tks K + tks Wt)) 16) 64) 3).2 := by unfold DM.saveE; rw [if_neg (by decide), if_pos hl]
  have e3 : cm D (K ++ Wt) = sv D.sy 0 (mkv (K ++ Wt)) 3 := if_pos hs
  rw [e1, e2, e3, pd64]
  unfold mkv
  rw [List.length_append, tks_app]
theorem cm_down {D : DM} (h : D.dn = true) (M : List (List Nat)) : cm D M = (D, 6) := by
  have e1 : D.syE = 6 := if_pos h
  have e2 : D.sy = D := if_pos h
  unfold cm
  rw [if_neg (by rw [e1]; decide), e1, e2]
theorem apw_down {D : DM} (h : D.dn = true) (p : Nat) (f : Nat → Nat) (m : Nat) : apw D p f m (tk m) = (D, 6) := by
  have e1 : apw D p f m 1 = (D, 6) := by
    rw [apw_step (j := 0) rfl]
    show (D.wr _ _, D.wrE _ _) = _
    have a1 : ∀ i l, D.wr i l = D := fun i l => if_pos h
    have a2 : ∀ i l, D.wrE i l = 6 := fun i l => if_pos h
    rw [a1, a2]
  rw [apw_err (j := 1) (by rw [e1]; show (6 : Int) ≠ 0; decide) (tk m) (tk_pos m), e1]
theorem cm_not {D : DM} (h : D.syE ≠ 0) (M : List (List Nat)) : cm D M = (D.sy, D.syE) := if_neg h
section
variable {op : Oper} {a : Act} {w : World} {Kt : Act → World → Prop} {Q : Exit → Act → World → Prop}
theorem wp_appL (s x : Operand) (hop : op.op = .call { callee := .builtin .append, args := #[s, x], argTypes := #[47, 47] })
    {base b2 n m : Nat} {v v2 : Value} {xs ys : List Value} (hs : a.eval s = v) (hown : w.ownsRow base 38 1 v n xs) (hx : a.eval x = v2) (h2 : w.ownsRow b2 38 1 v2 m ys) (h1 : ∀ u ∈ ys, u.oneCell' = true) (hb : n + m ≤ 1000000) (hbase : base ≤ w.heap.size)
    (hK : ∀ v' w', w'.ownsRow base 38 1 v' (n + m) (xs ++ ys) → w.grownBy w' v.ownBlock → (v'.ownBlock = v.ownBlock ∨ v'.ownBlock = some w.heap.size) → Kt (a.put op.dst v') w') : Oper.wp Try.prog op a w Kt Q := by
  obtain ⟨v', w', hr, h3, h4, h5⟩ := run_appL hown h2 h1 hb hbase op.type
  unfold Oper.wp execOp
  simp only [hop, resolve, invoke, builtin, Sem.run_bind, Sem.run_pure, Result.andThen_ok, List.map_toArray, List.map_cons, List.map_nil, hs, hx, hr]
  exact hK v' w' h3 h4 h5
end
theorem ar_l {a b : Nat} (h : a + b ≤ 1000000) : wrap64 ((a : Int) + (b : Int)) = ((a + b : Nat) : Int) := (w_id (by omega) (by omega)).trans (by omega)
theorem ar_e {a b : Nat} (h : a + b ≤ 1000000) : wrap64 (3 + (a : Int) + (b : Int) - 3) = ((a + b : Nat) : Int) := (w_id (by omega) (by omega)).trans (by omega)
theorem kw_a {a k s s1 m n wt : Nat} (h : a = 3 + k + s) (h1 : s1 = s + m) (h2 : s1 ≤ wt) (h3 : 3 + k + wt ≤ n) (h4 : n ≤ 4096) : a + m ≤ 5000 := by omega
theorem kw_i {i n k : Nat} (h : i < n) (h2 : k + n ≤ 1000000) : wrap64 ((i : Int) + 1) = (i : Int) + 1 := w63 (by omega) (by omega)
theorem kw_w {a m : Nat} (h : a + m ≤ 5000) : wrap64 ((a : Int) + (m : Int)) = (a : Int) + (m : Int) := w63 (by omega) (by omega)
theorem kw_6 {a m : Nat} (h : a + m ≤ 5000) : a ≤ 1000000 := by omega
theorem kw_le (L : List (List Nat)) (i : Nat) : tks (L.take i) ≤ tks L := by
  have e := tks_app (L.take i) (L.drop i)
  rw [List.take_append_drop] at e
  omega
set_option maxRecDepth 100000 in
set_option maxHeartbeats 8000000 in
theorem keep_n {w : World} {bs t b lb mb : Nat} {Y : Nat → Bool} {vk vw : Value} {ck cw : List Value} {K Wt : List (List Nat)} {D : DM} (h : PSt w bs t b Y vk vw ck cw K Wt false) (hd : Dsk w b lb mb D) (hXY : ∀ g, X3 b lb mb g = true → Y g = true)
    (hw : Wt ≠ []) (hs : ∀ l ∈ Wt, l.length ≤ 200) (hf : 3 + tks K + tks Wt ≤ D.n) (hst : D.dn = true ∨ (D.dn = false ∧ stl D (3 + tks K) Wt)) :
    Calls Try.prog 47 #[pp t] w (WrP w b lb mb (cm D (K ++ Wt)).1 (cm D (K ++ Wt)).2) := by
  have hn := hd.ok.n
  have HT : Hid (X3 b lb mb t = false) := by
    cases hq : X3 b lb mb t with
    | false => rfl
    | true => have := hXY t hq; rw [h.ty] at this; cases this
  obtain ⟨zw, wc, rfl, hvw⟩ := h.s.shape
  obtain ⟨zk, kc, rfl, _⟩ := h.k.shape
  have hl1 := tks_len K
  have hl2 := tks_len Wt
  have hpos : 0 < Wt.length := List.length_pos_iff.2 hw
  obtain ⟨wb, wo, rfl, hcl⟩ := hvw.cells hpos
  have hwn : 0 < tks Wt := by omega
  have h0 := h.c0
  have h2 := h.c2
  have h3 := h.c3
  have HS := hide h
  have HD := hide hd
  have HSh := hide hs
  have HCl := hide hcl
  have HF := hide (And.intro hf hn)
  have HLn : Hid (K.length + Wt.length ≤ 1000000 ∧ tks K + tks Wt ≤ 1000000 ∧ 2 < D.n) := ⟨by omega, by omega, by omega⟩
  rcases hst with hdn | ⟨hdn, hst⟩
  · have HCm := hide (cm_down hdn (K ++ Wt))
    have HDn := hide hdn
    obtain ⟨l, hl⟩ : ∃ l, Wt[0]? = some l := ⟨_, List.getElem?_eq_getElem hpos⟩
    obtain ⟨x, m, c, f, hcell, hb, hfl⟩ := hcl 0 l hl
    have hm : m ≤ 200 := by
      have := hs l (List.mem_of_getElem? hl)
      rw [← hfl, fl_len] at this
      exact this
    have HSd : Hid (Calls Try.prog 67 #[pp b, .int .i64 (3 + (tks K : Int)), .slice x m c] w fun e w' => e = .returned (.bool false) ∧ Below w.heap.size w w') := by
      have h5 := stands_down (c := c) hd hdn (p := 3 + tks K) (by omega) hb hm
      rw [show ((3 + tks K : Nat) : Int) = 3 + (tks K : Int) by omega] at h5
      exact h5
    have HWr : Hid (∀ W, Below w.heap.size w W → Calls Try.prog 42 #[pp b, .int .i64 (3 + (tks K : Int)), .slice x m c] W (WrP W b lb mb D 6)) := fun W hW => by
      have h5 := write_n (c := c) (hd.keep hW) (p := 3 + tks K) (by omega) (hb.keep hW) hm
      rw [apw_down hdn, show ((3 + tks K : Nat) : Int) = 3 + (tks K : Int) by omega] at h5
      exact h5
    have hlt : (0 : Int) < (Wt.length : Int) := by omega
    rw [Nat.add_zero] at hcell
    clear h hd hs hcl hf hdn hl hb hfl hvw
    go_enter Try.func47, Try.ntmps47
    go_wp2_with fail
    go_loopg [3, 17] 1 (fun g' s3 s17 wr => g' = 1 ∧ s3 = .int .i64 (3 + (tks K : Int)) ∧ s17 = .int .i64 0 ∧ wr = w)
    case atStart => exact ⟨rfl, rfl, rfl, rfl⟩
    case round =>
      obtain ⟨rfl, rfl, rfl, rfl⟩ := hrel
      go_upto_region 6 with (go_at_call 67; refine Calls.mono HSd.out ?_; rintro e W1 ⟨rfl, hB1⟩; have HB1 := hide hB1; clear hB1)
      have h0' := later HB1.out HS.out.c0
      have HW1 := hide (HWr.out W1 HB1.out)
      go_wp2_with (go_at_call 42; refine Calls.mono HW1.out ?_; rintro e W2 ⟨rfl, hD2, hK2⟩; have HR2 := hide (And.intro hD2 hK2); clear hD2 hK2)
      go_ret
      rw [HCm.out]
      exact ⟨rfl, HR2.out.1, (Kp.of HB1.out).trans HR2.out.2⟩
  · have HSt := hide hst
    have HDn := hide hdn
    clear h hd hs hcl hf hdn hst hvw
    go_enter Try.func47, Try.ntmps47
    go_wp2_with fail
    go_loopg [3, 17] Wt.length (fun g' s3 s17 wr => ∃ i a : Nat, g' = Wt.length - i ∧ i ≤ Wt.length ∧ s3 = .int .i64 (a : Int) ∧ s17 = .int .i64 (i : Int) ∧ Hid (a = 3 + tks K + tks (Wt.take i)) ∧ Hid (Below w.heap.size w wr))
    case atStart => exact ⟨0, 3 + tks K, rfl, Nat.zero_le _, by rw [Int.natCast_add]; rfl, rfl, rfl, Below.refl _ _⟩
    case round =>
      obtain ⟨i, a, rfl, hi, rfl, rfl, HA, HB⟩ := hrel
      by_cases hlt : i < Wt.length
      · obtain ⟨l, hl⟩ : ∃ l, Wt[i]? = some l := ⟨_, List.getElem?_eq_getElem hlt⟩
        obtain ⟨x, m, c, f, hcell, hb, hfl⟩ := HCl.out i l hl
        have hm : m ≤ 200 := by
          have := HSh.out l (List.mem_of_getElem? hl)
          rw [← hfl, fl_len] at this
          exact this
        have htk : tks (Wt.take (i + 1)) = tks (Wt.take i) + tk m := by
          have := tks_take Wt i hl
          rw [← hfl, fl_len] at this
          exact this
        have hle : tks (Wt.take (i + 1)) ≤ tks Wt :=
          kw_le Wt (i + 1)
        have ha5 : a + tk m ≤ 5000 := kw_a HA.out htk hle HF.out.1 HF.out.2
        have HSd : Hid (Calls Try.prog 67 #[pp b, .int .i64 (a : Int), .slice x m c] wr fun e w' => e = .returned (.bool true) ∧ Below wr.heap.size wr w') :=
          stands_yes (HD.out.keep HB.out) HDn.out (kw_6 ha5) (hb.keep HB.out) hm (by rw [HA.out]; exact (stl_at HSt.out hl).of hfl)
        have hlt' : (i : Int) < (Wt.length : Int) := by omega
        have hw1 : wrap64 ((i : Int) + 1) = (i : Int) + 1 := kw_i hlt HLn.out.1
        have hw2 : wrap64 ((a : Int) + (tk m : Int)) = (a : Int) + (tk m : Int) := kw_w ha5
        have hm9 : m ≤ 1000000000 := by omega
        have h0' := later HB.out HS.out.c0
        have hcell' := later HB.out hcell
        have HTk := hide htk
        clear hcell hb hfl htk hle hl
        go_wp2_with (first
          | (go_at_call 67; refine Calls.mono HSd.out ?_; rintro e W1 ⟨rfl, hB1⟩; have HB1 := hide hB1; clear hB1)
          | (go_at_call 41; refine Calls.mono (takes_n hm9) ?_; rintro e W1 ⟨rfl, rfl⟩))
        go_roundg (Wt.length - (i + 1))
        case measure => omega
        case rel => exact ⟨i + 1, a + tk m, rfl, hlt, by simp [hw2], by simp [hw1], by show a + tk m = 3 + tks K + tks (Wt.take (i + 1)); rw [HTk.out, HA.out, Nat.add_assoc], HB.out.trans (HB1.out.mono HB.out.size)⟩
      · obtain rfl : i = Wt.length := by omega
        have h0' := later HB.out HS.out.c0
        have HD1 := hide (HD.out.keep HB.out)
        have HSy := hide (sync_any HD1.out)
        clear h0 h2 h3
        by_cases hsy : D.syE = 0
        · have HCm := hide (cm_save (K := K) (Wt := Wt) hsy HLn.out.2.2)
          rw [hsy] at HSy
          clear hsy
          go_upto_region 14 with (go_at_call 68; refine Calls.mono HSy.out ?_; rintro e W2 ⟨rfl, hD2, hK2⟩; have HD2 := hide hD2; have HK2 := hide hK2; clear hD2 hK2)
          have HS2 := hide ((HS.out.keep HB.out).kp (HK2.out.mono hXY))
          have HVl := hide (value_n (w := W2.drew) (n := K.length + Wt.length) (u := tks K + tks Wt) (by have := HLn.out; omega) (by have := HLn.out; omega))
          refine wp_region_noPanic ?_
          refine wp_region_held_drew (S := fun w' => w'.cell? ⟨t, 0, none⟩ = some (pp b) ∧ w'.cell? ⟨t, 1, none⟩ = some (.slice zk K.length kc) ∧ w'.cell? ⟨t, 2, none⟩ = some (.slice (some ⟨wb, wo, none⟩) Wt.length wc) ∧ w'.cell? ⟨t, 4, none⟩ = some (.int .i64 (3 + (tks K : Int) + (tks Wt : Int)))) (by kernel_rfl) ⟨HS2.out.c0, HS2.out.c1, HS2.out.c2, HS2.out.c4⟩ (fun hS0 => ?_)
          refine wpAnyH_take (i := 0) (v := pp t) rfl (by kernel_rfl) (by kernel_rfl) (by kernel_rfl) (fun _ _ _ h => h) (Or.inl ⟨by rfl, fun w' _ => by go_simp⟩) hS0 ?_
          simp only [Act.put, List.getElem_toArray, List.getElem_cons_zero, List.setIfInBounds_toArray, List.set_cons_zero, List.set_cons_succ]
          refine wpAnyH_take (i := 1) (v := pp t) rfl (by kernel_rfl) (by kernel_rfl) (by kernel_rfl) (fun _ _ _ h => h) (Or.inl ⟨by rfl, fun w' _ => by go_simp⟩) hS0 ?_
          simp only [Act.put, List.getElem_toArray, List.getElem_cons_zero, List.getElem_cons_succ, List.setIfInBounds_toArray, List.set_cons_zero, List.set_cons_succ]
          refine wpAnyH_take (i := 2) (v := .pointer (some ⟨t, 0, none⟩)) rfl (by kernel_rfl) (by kernel_rfl) (by kernel_rfl) (fun _ _ _ h => h) (Or.inl ⟨by rfl, fun w' _ => by go_simp⟩) hS0 ?_
          simp only [Act.put, List.getElem_toArray, List.getElem_cons_zero, List.getElem_cons_succ, List.setIfInBounds_toArray, List.set_cons_zero, List.set_cons_succ]
          refine wpAnyH_take (i := 3) (v := pp b) rfl (by kernel_rfl) (by kernel_rfl) (by kernel_rfl) (fun _ _ _ h => h) (Or.inl ⟨by rfl, fun w' hS => by have hc := hS.1; go_simp⟩) hS0 ?_
          simp only [Act.put, List.getElem_toArray, List.getElem_cons_zero, List.getElem_cons_succ, List.setIfInBounds_toArray, List.set_cons_zero, List.set_cons_succ]
          refine wpAnyH_take (i := 4) (v := pp t) rfl (by kernel_rfl) (by kernel_rfl) (by kernel_rfl) (fun _ _ _ h => h) (Or.inl ⟨by rfl, fun w' _ => by go_simp⟩) hS0 ?_
          simp only [Act.put, List.getElem_toArray, List.getElem_cons_zero, List.getElem_cons_succ, List.setIfInBounds_toArray, List.set_cons_zero, List.set_cons_succ]
          refine wpAnyH_take (i := 5) (v := pp t) rfl (by kernel_rfl) (by kernel_rfl) (by kernel_rfl) (fun _ _ _ h => h) (Or.inl ⟨by rfl, fun w' _ => by go_simp⟩) hS0 ?_
          simp only [Act.put, List.getElem_toArray, List.getElem_cons_zero, List.getElem_cons_succ, List.setIfInBounds_toArray, List.set_cons_zero, List.set_cons_succ]
          refine wpAnyH_take (i := 6) (v := .pointer (some ⟨t, 1, none⟩)) rfl (by kernel_rfl) (by kernel_rfl) (by kernel_rfl) (fun _ _ _ h => h) (Or.inl ⟨by rfl, fun w' _ => by go_simp⟩) hS0 ?_
          simp only [Act.put, List.getElem_toArray, List.getElem_cons_zero, List.getElem_cons_succ, List.setIfInBounds_toArray, List.set_cons_zero, List.set_cons_succ]
          refine wpAnyH_take (i := 7) (v := .slice zk K.length kc) rfl (by kernel_rfl) (by kernel_rfl) (by kernel_rfl) (fun _ _ _ h => h) (Or.inl ⟨by rfl, fun w' hS => by have hc := hS.2.1; go_simp⟩) hS0 ?_
          simp only [Act.put, List.getElem_toArray, List.getElem_cons_zero, List.getElem_cons_succ, List.setIfInBounds_toArray, List.set_cons_zero, List.set_cons_succ]
          refine wpAnyH_take (i := 8) (v := .int .i64 (K.length : Int)) rfl (by kernel_rfl) (by kernel_rfl) (by kernel_rfl) (fun _ _ _ h => h) (Or.inl ⟨by rfl, fun w' _ => by go_simp⟩) hS0 ?_
          simp only [Act.put, List.getElem_toArray, List.getElem_cons_zero, List.getElem_cons_succ, List.setIfInBounds_toArray, List.set_cons_zero, List.set_cons_succ]
          refine wpAnyH_take (i := 9) (v := pp t) rfl (by kernel_rfl) (by kernel_rfl) (by kernel_rfl) (fun _ _ _ h => h) (Or.inl ⟨by rfl, fun w' _ => by go_simp⟩) hS0 ?_
          simp only [Act.put, List.getElem_toArray, List.getElem_cons_zero, List.getElem_cons_succ, List.setIfInBounds_toArray, List.set_cons_zero, List.set_cons_succ]
          refine wpAnyH_take (i := 10) (v := pp t) rfl (by kernel_rfl) (by kernel_rfl) (by kernel_rfl) (fun _ _ _ h => h) (Or.inl ⟨by rfl, fun w' _ => by go_simp⟩) hS0 ?_
          simp only [Act.put, List.getElem_toArray, List.getElem_cons_zero, List.getElem_cons_succ, List.setIfInBounds_toArray, List.set_cons_zero, List.set_cons_succ]
          refine wpAnyH_take (i := 11) (v := .pointer (some ⟨t, 2, none⟩)) rfl (by kernel_rfl) (by kernel_rfl) (by kernel_rfl) (fun _ _ _ h => h) (Or.inl ⟨by rfl, fun w' _ => by go_simp⟩) hS0 ?_
          simp only [Act.put, List.getElem_toArray, List.getElem_cons_zero, List.getElem_cons_succ, List.setIfInBounds_toArray, List.set_cons_zero, List.set_cons_succ]
          refine wpAnyH_take (i := 12) (v := .slice (some ⟨wb, wo, none⟩) Wt.length wc) rfl (by kernel_rfl) (by kernel_rfl) (by kernel_rfl) (fun _ _ _ h => h) (Or.inl ⟨by rfl, fun w' hS => by have hc := hS.2.2.1; go_simp⟩) hS0 ?_
          simp only [Act.put, List.getElem_toArray, List.getElem_cons_zero, List.getElem_cons_succ, List.setIfInBounds_toArray, List.set_cons_zero, List.set_cons_succ]
          refine wpAnyH_take (i := 13) (v := .int .i64 (Wt.length : Int)) rfl (by kernel_rfl) (by kernel_rfl) (by kernel_rfl) (fun _ _ _ h => h) (Or.inl ⟨by rfl, fun w' _ => by go_simp⟩) hS0 ?_
          simp only [Act.put, List.getElem_toArray, List.getElem_cons_zero, List.getElem_cons_succ, List.setIfInBounds_toArray, List.set_cons_zero, List.set_cons_succ]
          refine wpAnyH_take (i := 14) (v := .int .i64 ((K.length + Wt.length : Nat) : Int)) rfl (by kernel_rfl) (by kernel_rfl) (by kernel_rfl) (fun _ _ _ h => h) (Or.inl ⟨by rfl, fun w' _ => by go_simp; exact (wrapI _).trans (ar_l HLn.out.1)⟩) hS0 ?_
          simp only [Act.put, List.getElem_toArray, List.getElem_cons_zero, List.getElem_cons_succ, List.setIfInBounds_toArray, List.set_cons_zero, List.set_cons_succ]
          refine wpAnyH_take (i := 15) (v := pp t) rfl (by kernel_rfl) (by kernel_rfl) (by kernel_rfl) (fun _ _ _ h => h) (Or.inl ⟨by rfl, fun w' _ => by go_simp⟩) hS0 ?_
          simp only [Act.put, List.getElem_toArray, List.getElem_cons_zero, List.getElem_cons_succ, List.setIfInBounds_toArray, List.set_cons_zero, List.set_cons_succ]
          refine wpAnyH_take (i := 16) (v := pp t) rfl (by kernel_rfl) (by kernel_rfl) (by kernel_rfl) (fun _ _ _ h => h) (Or.inl ⟨by rfl, fun w' _ => by go_simp⟩) hS0 ?_
          simp only [Act.put, List.getElem_toArray, List.getElem_cons_zero, List.getElem_cons_succ, List.setIfInBounds_toArray, List.set_cons_zero, List.set_cons_succ]
          refine wpAnyH_take (i := 17) (v := .pointer (some ⟨t, 4, none⟩)) rfl (by kernel_rfl) (by kernel_rfl) (by kernel_rfl) (fun _ _ _ h => h) (Or.inl ⟨by rfl, fun w' _ => by go_simp⟩) hS0 ?_
          simp only [Act.put, List.getElem_toArray, List.getElem_cons_zero, List.getElem_cons_succ, List.setIfInBounds_toArray, List.set_cons_zero, List.set_cons_succ]
          refine wpAnyH_take (i := 18) (v := .int .i64 (3 + (tks K : Int) + (tks Wt : Int))) rfl (by kernel_rfl) (by kernel_rfl) (by kernel_rfl) (fun _ _ _ h => h) (Or.inl ⟨by rfl, fun w' hS => by have hc := hS.2.2.2; go_simp⟩) hS0 ?_
          simp only [Act.put, List.getElem_toArray, List.getElem_cons_zero, List.getElem_cons_succ, List.setIfInBounds_toArray, List.set_cons_zero, List.set_cons_succ]
          refine wpAnyH_take (i := 19) (v := .int .i64 ((tks K + tks Wt : Nat) : Int)) rfl (by kernel_rfl) (by kernel_rfl) (by kernel_rfl) (fun _ _ _ h => h) (Or.inl ⟨by rfl, fun w' _ => by go_simp; exact (wrapI _).trans (ar_e HLn.out.2.1)⟩) hS0 ?_
          simp only [Act.put, List.getElem_toArray, List.getElem_cons_zero, List.getElem_cons_succ, List.setIfInBounds_toArray, List.set_cons_zero, List.set_cons_succ]
          refine wpAnyH_ready (rs := [20]) (by kernel_rfl) (by simp) (AllReadyH.cons rfl (fun Kt hK => ?_) AllReadyH.nil)
          refine wanted_pos rfl ?_
          refine wp_call (R := fun x w' => ∃ g, x = s64 g ∧ W2.drew.heap.size ≤ g ∧ g < w'.heap.size ∧ Rw w' g 64 (pz (mkf (K.length + Wt.length) (tks K + tks Wt)) 16) ∧ Below W2.drew.heap.size W2.drew w') (vs := #[.int .i64 ((K.length + Wt.length : Nat) : Int), .int .i64 ((tks K + tks Wt : Nat) : Int)]) rfl (by simp only [List.map_toArray, List.map_cons, List.map_nil]; rfl) (by go_simp) (Calls.mono HVl.out (fun e w' he => by obtain ⟨g, rfl, hh⟩ := he; exact ⟨_, rfl, g, rfl, hh⟩)) (fun x W3 hr => ?_)
          obtain ⟨g, hx, hr3⟩ := hr
          subst hx
          have HV3 := hide hr3
          clear hr3
          have HSa := hide (save_any ((HD2.out.keep (Go.Proofs.Ytpophfeommlajaa.K.drew (Below.refl _ W2))).keep HV3.out.2.2.2) (a := 0) (by unfold few9; omega) (c := 64) (HV3.out.2.2.1.ba (o := 0) (m := 64) (by omega)))
          refine hK.out _ _ ⟨later HV3.out.2.2.2 hS0.1, later HV3.out.2.2.2 hS0.2.1, later HV3.out.2.2.2 hS0.2.2.1, later HV3.out.2.2.2 hS0.2.2.2⟩ (fun hS3 => ?_)
          clear hK Kt
          simp only [Act.put, List.getElem_toArray, List.getElem_cons_zero, List.getElem_cons_succ, List.setIfInBounds_toArray, List.set_cons_zero, List.set_cons_succ]
          refine wpAnyH_ready (rs := [21]) (by kernel_rfl) (by simp) (AllReadyH.cons rfl (fun Kt hK => ?_) AllReadyH.nil)
          refine wanted_pos rfl ?_
          simp only [Nat.zero_add] at HSa
          obtain ⟨D4, er4, hc4⟩ : ∃ D4 er4, (D.sy.saveD 0 (pz (mkf (K.length + Wt.length) (tks K + tks Wt)) 16) 64, D.sy.saveE 0 (pz (mkf (K.length + Wt.length) (tks K + tks Wt)) 16) 64) = (D4, er4) := ⟨_, _, rfl⟩
          have e41 : D.sy.saveD 0 (pz (mkf (K.length + Wt.length) (tks K + tks Wt)) 16) 64 = D4 := congrArg Prod.fst hc4
          have e42 : D.sy.saveE 0 (pz (mkf (K.length + Wt.length) (tks K + tks Wt)) 16) 64 = er4 := congrArg Prod.snd hc4
          rw [hc4] at HCm
          rw [e41, e42] at HSa
          clear hc4 e41 e42
          refine wp_call (R := fun x w' => x = .int .i64 er4 ∧ Dsk w' b lb mb D4 ∧ Kp (X3 b lb mb) W3 w') (vs := #[pp b, .int .i64 0, s64 g]) rfl (by simp only [List.map_toArray, List.map_cons, List.map_nil]; rfl) (by go_simp) (Calls.mono HSa.out (fun e w' he => ⟨_, he.1, rfl, he.2⟩)) (fun x W4 hr => ?_)
          obtain ⟨hx, hD4, hK4⟩ := hr
          subst hx
          have HD4 := hide hD4
          have HK4 := hide hK4
          clear hD4 hK4
          refine hK.out _ _ ⟨(HK4.out.cell (p := ⟨t, 0, none⟩) (World.block_lt_of_cell? _ _ hS3.1) HT.out).trans hS3.1, (HK4.out.cell (p := ⟨t, 1, none⟩) (World.block_lt_of_cell? _ _ hS3.2.1) HT.out).trans hS3.2.1, (HK4.out.cell (p := ⟨t, 2, none⟩) (World.block_lt_of_cell? _ _ hS3.2.2.1) HT.out).trans hS3.2.2.1, (HK4.out.cell (p := ⟨t, 4, none⟩) (World.block_lt_of_cell? _ _ hS3.2.2.2) HT.out).trans hS3.2.2.2⟩ (fun hS4 => ?_)
          clear hK Kt
          simp only [Act.put, List.getElem_toArray, List.getElem_cons_zero, List.getElem_cons_succ, List.setIfInBounds_toArray, List.set_cons_zero, List.set_cons_succ]
          refine wpAnyH_take (i := 22) (v := .int .i64 er4) rfl (by kernel_rfl) (by kernel_rfl) (by kernel_rfl) (fun _ _ _ h => h) (Or.inl ⟨by rfl, fun w' _ => by go_simp⟩) hS4 ?_
          simp only [Act.put, List.getElem_toArray, List.getElem_cons_zero, List.getElem_cons_succ, List.setIfInBounds_toArray, List.set_cons_zero, List.set_cons_succ]
          refine wpAnyH_done (by kernel_rfl) ?_ _
          refine NoPanic.normal ?_
          clear hS0 hS3 hS4
          go_wp2_with fail
          go_ret
          rw [← HCm.out]
          exact ⟨rfl, HD4.out, ((Kp.of HB.out).trans HK2.out).trans ((Kp.of (Go.Proofs.Ytpophfeommlajaa.K.drew (Below.refl _ W2))).trans ((Kp.of HV3.out.2.2.2).trans HK4.out))⟩
        · have HCm := hide (cm_not hsy (K ++ Wt))
          have hq : (D.syE != 0) = true := by simp [hsy]
          obtain ⟨er, her⟩ : ∃ er, er = D.syE := ⟨_, rfl⟩
          rw [← her] at HSy hq
          have HEr := hide her
          clear hsy her
          go_wp2_with (go_at_call 68; refine Calls.mono HSy.out ?_; rintro e W2 ⟨rfl, hD2, hK2⟩; have HD2 := hide hD2; have HK2 := hide hK2; clear hD2 hK2)
          go_ret
          rw [HCm.out]
          exact ⟨by rw [← HEr.out]; rfl, HD2.out, (Kp.of HB.out).trans HK2.out⟩
end Go.Proofs.Ytpophfeommlajaa
