/- Layer 15: Commit. Layer 15: Commit. Layer 15, pure: what the calls of a store do; disks without a fuse. -/
import Derived.Test.YtjgpopjpmfkfmaaMD41
import Derived.Test.YtjgpopjpmfkfmaaMD30
namespace Go.Proofs.Ytjgpopjpmfkfmaa
open Go.RowKit Go.Maps
attribute [local go_sem ↓] Go.wp_at_zero Go.wp_at_succ

/-- An entry stands at a place, sector by sector; some of them, one behind the other. -/
def StdW (D : DM) (p : Nat) (l : List Nat) : Prop := Std D p (fun i => l.getD i 0) l.length
def stl (D : DM) : Nat → List (List Nat) → Prop
  | _, [] => True
  | p, l :: r => StdW D p l ∧ stl D (p + tk l.length) r
theorem esec_congr {f h : Nat → Nat} {m : Nat} (e : ∀ i, i < m → f i = h i) (j : Nat) : esec f m j = esec h m j := by
  refine fl_congr fun i _ => ?_
  unfold encf pz
  split
  · rfl
  · split
    · rfl
    · split
      · rename_i h3; exact e _ h3
      · rfl
theorem fl_get {f : Nat → Nat} {m : Nat} {l : List Nat} (h : fl f m = l) : m = l.length ∧ ∀ i, i < m → f i = l.getD i 0 := by
  subst h
  refine ⟨(fl_len f m).symm, fun i hi => ?_⟩
  rw [List.getD_eq_getElem?_getD, fl_at f hi]
  rfl
theorem StdW.of {D : DM} {p : Nat} {l : List Nat} {f : Nat → Nat} {m : Nat} (h : StdW D p l) (e : fl f m = l) : Std D p f m := fun j hj => by
  obtain ⟨e1, e2⟩ := fl_get e
  rw [e1] at hj
  have := h j hj
  rw [esec_congr e2 j, e1]
  exact this
theorem StdW.to {D : DM} {p : Nat} {f : Nat → Nat} {m : Nat} (h : Std D p f m) : StdW D p (fl f m) := fun j hj => by
  obtain ⟨e1, e2⟩ := fl_get (f := f) (m := m) rfl
  rw [← e1] at hj ⊢
  have := h j hj
  rw [esec_congr e2 j] at this
  exact this
theorem stl_at {D : DM} : ∀ {L : List (List Nat)} {p i : Nat} {l : List Nat}, stl D p L → L[i]? = some l → StdW D (p + tks (L.take i)) l
  | [], _, _, _, _, h => by simp at h
  | b :: r, p, 0, l, hs, h => by
    have h : some b = some l := by simpa using h
    cases h
    exact hs.1
  | b :: r, p, i + 1, l, hs, h => by
    have h : r[i]? = some l := by simpa using h
    have := stl_at hs.2 h
    show StdW D (p + (tk b.length + tks (r.take i))) l
    rw [← Nat.add_assoc]
    exact this
theorem stl_app {D : DM} : ∀ {L : List (List Nat)} {p : Nat} {l : List Nat}, stl D p L → StdW D (p + tks L) l → stl D p (L ++ [l])
  | [], _, _, _, h => ⟨h, trivial⟩
  | b :: r, p, l, hs, h => ⟨hs.1, stl_app hs.2 (by
      have e : p + tks (b :: r) = p + tk b.length + tks r := by show p + (tk b.length + tks r) = _; omega
      rw [e] at h
      exact h)⟩
theorem stl_congr {D D' : DM} (hn : D'.n = D.n) : ∀ {L : List (List Nat)} {p : Nat}, stl D p L → (∀ k, p ≤ k → k < p + tks L → D'.cur k = D.cur k) → stl D' p L
  | [], _, _, _ => trivial
  | b :: r, p, hs, h => by
    have e : tks (b :: r) = tk b.length + tks r := rfl
    refine ⟨fun j hj => ?_, stl_congr hn hs.2 (fun k h1 h2 => h k (by omega) (by omega))⟩
    have := hs.1 j hj
    rw [hn, h (p + j) (by omega) (by omega)]
    exact this
theorem pd64 (n u : Nat) : pd (pz (mkf n u) 16) 64 = pd (mkf n u) 16 := by
  unfold pd
  exact pz_fl _ _
theorem cm_save {D : DM} {K Wt : List (List Nat)} (hs : D.syE = 0) (hn : 2 < D.n) : (D.sy.saveD 0 (pz (mkf (K.length + Wt.length) (tks K + tks Wt)) 16) 64, D.sy.saveE 0 (pz (mkf (K.length + Wt.length) (tks K + tks Wt)) 16) 64) = cm D (K ++ Wt) := by
  obtain ⟨_, hc, h1, _⟩ := sy_ok hs
  have hl : D.sy.ldE 0 = 0 := (ld_up hc.dn (a := 0) (by rw [h1]; exact hn)).1
  have e1 : D.sy.saveD 0 (pz (mkf (K.length + Wt.length) (tks K + tks Wt)) 16) 64 = (sv D.sy 0 (pd (pz (mkf (K.length + Wt.length) (tks K + tks Wt)) 16) 64) 3).1 := by unfold DM.saveD; rw [if_neg (by decide), if_pos hl]
  have e2 : D.sy.saveE 0 (pz (mkf (K.length + Wt.length) (tks K + tks Wt)) 16) 64 = (sv D.sy 0 (pd (pz (mkf (K.length + Wt.length) (tks K + tks Wt)) 16) 64) 3).2 := by unfold DM.saveE; rw [if_neg (by decide), if_pos hl]
  have e3 : cm D (K ++ Wt) = sv D.sy 0 (mkv (K ++ Wt)) 3 := if_pos hs
  rw [e1, e2, e3, pd64]
  unfold mkv
  rw [List.length_append, tks_app]
theorem cm_down {D : DM} (h : D.dn = true) (M : List (List Nat)) : cm D M = (D, 6) := by
  have e1 : D.syE = 6 := if_pos h
  have e2 : D.sy = D := if_pos h
  unfold cm
  rw [if_neg (by rw [e1]; decide), e1, e2]
theorem apw_down {D : DM} (h : D.dn = true) (p : Nat) (f : Nat → Nat) (m : Nat) : apw D p f m (tk m) = (D, 6) := by
  have e1 : apw D p f m 1 = (D, 6) := by
    rw [apw_step (j := 0) rfl]
    show (D.wr _ _, D.wrE _ _) = _
    have a1 : ∀ i l, D.wr i l = D := fun i l => if_pos h
    have a2 : ∀ i l, D.wrE i l = 6 := fun i l => if_pos h
    rw [a1, a2]
  rw [apw_err (j := 1) (by rw [e1]; show (6 : Int) ≠ 0; decide) (tk m) (tk_pos m), e1]
theorem cm_not {D : DM} (h : D.syE ≠ 0) (M : List (List Nat)) : cm D M = (D.sy, D.syE) := if_neg h
section
variable {op : Oper} {a : Act} {w : World} {Kt : Act → World → Prop} {Q : Exit → Act → World → Prop}
theorem wp_appL (s x : Operand) (hop : op.op = .call { callee := .builtin .append, args := #[s, x], argTypes := #[47, 47] })
    {base b2 n m : Nat} {v v2 : Value} {xs ys : List Value} (hs : a.eval s = v) (hown : w.ownsRow base 38 1 v n xs) (hx : a.eval x = v2) (h2 : w.ownsRow b2 38 1 v2 m ys) (h1 : ∀ u ∈ ys, u.oneCell' = true) (hb : n + m ≤ 1000000) (hbase : base ≤ w.heap.size)
    (hK : ∀ v' w', w'.ownsRow base 38 1 v' (n + m) (xs ++ ys) → w.grownBy w' v.ownBlock → (v'.ownBlock = v.ownBlock ∨ v'.ownBlock = some w.heap.size) → Kt (a.put op.dst v') w') : Oper.wp Try.prog op a w Kt Q := by
  obtain ⟨v', w', hr, h3, h4, h5⟩ := run_appL hown h2 h1 hb hbase op.type
  unfold Oper.wp execOp
  simp only [hop, resolve, invoke, builtin, Sem.run_bind, Sem.run_pure, Result.andThen_ok, List.map_toArray, List.map_cons, List.map_nil, hs, hx, hr]
  exact hK v' w' h3 h4 h5
end
theorem ar_l {a b : Nat} (h : a + b ≤ 1000000) : wrap64 ((a : Int) + (b : Int)) = ((a + b : Nat) : Int) := (w_id (by omega) (by omega)).trans (by omega)
theorem ar_e {a b : Nat} (h : a + b ≤ 1000000) : wrap64 (3 + (a : Int) + (b : Int) - 3) = ((a + b : Nat) : Int) := (w_id (by omega) (by omega)).trans (by omega)
theorem kw_a {a k s s1 m n wt : Nat} (h : a = 3 + k + s) (h1 : s1 = s + m) (h2 : s1 ≤ wt) (h3 : 3 + k + wt ≤ n) (h4 : n ≤ 4096) : a + m ≤ 5000 := by omega
theorem kw_i {i n k : Nat} (h : i < n) (h2 : k + n ≤ 1000000) : wrap64 ((i : Int) + 1) = (i : Int) + 1 := w63 (by omega) (by omega)
theorem kw_w {a m : Nat} (h : a + m ≤ 5000) : wrap64 ((a : Int) + (m : Int)) = (a : Int) + (m : Int) := w63 (by omega) (by omega)
theorem kw_6 {a m : Nat} (h : a + m ≤ 5000) : a ≤ 1000000 := by omega
theorem kw_le (L : List (List Nat)) (i : Nat) : tks (L.take i) ≤ tks L := by
  have e := tks_app (L.take i) (L.drop i)
  rw [List.take_append_drop] at e
  omega
set_option maxRecDepth 100000 in
set_option maxHeartbeats 8000000 in
theorem keep_n {w : World} {bs t b lb mb : Nat} {Y : Nat → Bool} {vk vw : Value} {ck cw : List Value} {K Wt : List (List Nat)} {D : DM} (h : PSt w bs t b Y vk vw ck cw K Wt false) (hd : Dsk w b lb mb D) (hXY : ∀ g, X3 b lb mb g = true → Y g = true)
    (hw : Wt ≠ []) (hs : ∀ l ∈ Wt, l.length ≤ 200) (hf : 3 + tks K + tks Wt ≤ D.n) (hst : D.dn = true ∨ (D.dn = false ∧ stl D (3 + tks K) Wt)) :
    Calls Try.prog 51 #[pp t] w (WrP w b lb mb (cm D (K ++ Wt)).1 (cm D (K ++ Wt)).2) := by
  have hn := hd.ok.n
  have HT : Hid (X3 b lb mb t = false) := by
    cases hq : X3 b lb mb t with
    | false => rfl
    | true => have := hXY t hq; rw [h.ty] at this; cases this
  obtain ⟨zw, wc, rfl, hvw⟩ := h.s.shape
  obtain ⟨zk, kc, rfl, _⟩ := h.k.shape
  have hl1 := tks_len K
  have hl2 := tks_len Wt
  have hpos : 0 < Wt.length := List.length_pos_iff.2 hw
  obtain ⟨wb, wo, rfl, hcl⟩ := hvw.cells hpos
  have hwn : 0 < tks Wt := by omega
  have h0 := h.c0
  have h2 := h.c2
  have h3 := h.c3
  have HS := hide h
  have HD := hide hd
  have HSh := hide hs
  have HCl := hide hcl
  have HF := hide (And.intro hf hn)
  have HLn : Hid (K.length + Wt.length ≤ 1000000 ∧ tks K + tks Wt ≤ 1000000 ∧ 2 < D.n) := ⟨by omega, by omega, by omega⟩
  rcases hst with hdn | ⟨hdn, hst⟩
  · have HCm := hide (cm_down hdn (K ++ Wt))
    have HDn := hide hdn
    obtain ⟨l, hl⟩ : ∃ l, Wt[0]? = some l := ⟨_, List.getElem?_eq_getElem hpos⟩
    obtain ⟨x, m, c, f, hcell, hb, hfl⟩ := hcl 0 l hl
    have hm : m ≤ 200 := by
      have := hs l (List.mem_of_getElem? hl)
      rw [← hfl, fl_len] at this
      exact this
    have HSd : Hid (Calls Try.prog 71 #[pp b, .int .i64 (3 + (tks K : Int)), .slice x m c] w fun e w' => e = .returned (.bool false) ∧ Below w.heap.size w w') := by
      have h5 := stands_down (c := c) hd hdn (p := 3 + tks K) (by omega) hb hm
      rw [show ((3 + tks K : Nat) : Int) = 3 + (tks K : Int) by omega] at h5
      exact h5
    have HWr : Hid (∀ W, Below w.heap.size w W → Calls Try.prog 47 #[pp b, .int .i64 (3 + (tks K : Int)), .slice x m c] W (WrP W b lb mb D 6)) := fun W hW => by
      have h5 := write_n (c := c) (hd.keep hW) (p := 3 + tks K) (by omega) (hb.keep hW) hm
      rw [apw_down hdn, show ((3 + tks K : Nat) : Int) = 3 + (tks K : Int) by omega] at h5
      exact h5
    have hlt : (0 : Int) < (Wt.length : Int) := by omega
    rw [Nat.add_zero] at hcell
    clear h hd hs hcl hf hdn hl hb hfl hvw
    go_enter Try.func51, Try.ntmps51
    go_wp2_with fail
    go_loopg [3, 17] 1 (fun g' s3 s17 wr => g' = 1 ∧ s3 = .int .i64 (3 + (tks K : Int)) ∧ s17 = .int .i64 0 ∧ wr = w)
    case atStart => exact ⟨rfl, rfl, rfl, rfl⟩
    case round =>
      obtain ⟨rfl, rfl, rfl, rfl⟩ := hrel
      go_upto_region 6 with (go_at_call 71; refine Calls.mono HSd.out ?_; rintro e W1 ⟨rfl, hB1⟩; have HB1 := hide hB1; clear hB1)
      have h0' := later HB1.out HS.out.c0
      have HW1 := hide (HWr.out W1 HB1.out)
      go_wp2_with (go_at_call 47; refine Calls.mono HW1.out ?_; rintro e W2 ⟨rfl, hD2, hK2⟩; have HR2 := hide (And.intro hD2 hK2); clear hD2 hK2)
      go_ret
      rw [HCm.out]
      exact ⟨rfl, HR2.out.1, (Kp.of HB1.out).trans HR2.out.2⟩
  · have HSt := hide hst
    have HDn := hide hdn
    clear h hd hs hcl hf hdn hst hvw
    go_enter Try.func51, Try.ntmps51
    go_wp2_with fail
    go_loopg [3, 17] Wt.length (fun g' s3 s17 wr => ∃ i a : Nat, g' = Wt.length - i ∧ i ≤ Wt.length ∧ s3 = .int .i64 (a : Int) ∧ s17 = .int .i64 (i : Int) ∧ Hid (a = 3 + tks K + tks (Wt.take i)) ∧ Hid (Below w.heap.size w wr))
    case atStart => exact ⟨0, 3 + tks K, rfl, Nat.zero_le _, by rw [Int.natCast_add]; rfl, rfl, rfl, Below.refl _ _⟩
    case round =>
      obtain ⟨i, a, rfl, hi, rfl, rfl, HA, HB⟩ := hrel
      by_cases hlt : i < Wt.length
      · obtain ⟨l, hl⟩ : ∃ l, Wt[i]? = some l := ⟨_, List.getElem?_eq_getElem hlt⟩
        obtain ⟨x, m, c, f, hcell, hb, hfl⟩ := HCl.out i l hl
        have hm : m ≤ 200 := by
          have := HSh.out l (List.mem_of_getElem? hl)
          rw [← hfl, fl_len] at this
          exact this
        have htk : tks (Wt.take (i + 1)) = tks (Wt.take i) + tk m := by
          have := tks_take Wt i hl
          rw [← hfl, fl_len] at this
          exact this
        have hle : tks (Wt.take (i + 1)) ≤ tks Wt :=
          kw_le Wt (i + 1)
        have ha5 : a + tk m ≤ 5000 := kw_a HA.out htk hle HF.out.1 HF.out.2
        have HSd : Hid (Calls Try.prog 71 #[pp b, .int .i64 (a : Int), .slice x m c] wr fun e w' => e = .returned (.bool true) ∧ Below wr.heap.size wr w') :=
          stands_yes (HD.out.keep HB.out) HDn.out (kw_6 ha5) (hb.keep HB.out) hm (by rw [HA.out]; exact (stl_at HSt.out hl).of hfl)
        have hlt' : (i : Int) < (Wt.length : Int) := by omega
        have hw1 : wrap64 ((i : Int) + 1) = (i : Int) + 1 := kw_i hlt HLn.out.1
        have hw2 : wrap64 ((a : Int) + (tk m : Int)) = (a : Int) + (tk m : Int) := kw_w ha5
        have hm9 : m ≤ 1000000000 := by omega
        have h0' := later HB.out HS.out.c0
        have hcell' := later HB.out hcell
        have HTk := hide htk
        clear hcell hb hfl htk hle hl
        go_wp2_with (first
          | (go_at_call 71; refine Calls.mono HSd.out ?_; rintro e W1 ⟨rfl, hB1⟩; have HB1 := hide hB1; clear hB1)
          | (go_at_call 46; refine Calls.mono (takes_n hm9) ?_; rintro e W1 ⟨rfl, rfl⟩))
        go_roundg (Wt.length - (i + 1))
        case measure => omega
        case rel => exact ⟨i + 1, a + tk m, rfl, hlt, by simp [hw2], by simp [hw1], by show a + tk m = 3 + tks K + tks (Wt.take (i + 1)); rw [HTk.out, HA.out, Nat.add_assoc], HB.out.trans (HB1.out.mono HB.out.size)⟩
      · obtain rfl : i = Wt.length := by omega
        have h0' := later HB.out HS.out.c0
        have HD1 := hide (HD.out.keep HB.out)
        have HSy := hide (sync_any HD1.out)
        clear h0 h2 h3
        by_cases hsy : D.syE = 0
        · have HCm := hide (cm_save (K := K) (Wt := Wt) hsy HLn.out.2.2)
          rw [hsy] at HSy
          clear hsy
          go_upto_region 14 with (go_at_call 72; refine Calls.mono HSy.out ?_; rintro e W2 ⟨rfl, hD2, hK2⟩; have HD2 := hide hD2; have HK2 := hide hK2; clear hD2 hK2)
          have HS2 := hide ((HS.out.keep HB.out).kp (HK2.out.mono hXY))
          have HVl := hide (value_n (w := W2.drew) (n := K.length + Wt.length) (u := tks K + tks Wt) (by have := HLn.out; omega) (by have := HLn.out; omega))
          refine wp_region_noPanic ?_
          refine wp_region_held_drew (S := fun w' => w'.cell? ⟨t, 0, none⟩ = some (pp b) ∧ w'.cell? ⟨t, 1, none⟩ = some (.slice zk K.length kc) ∧ w'.cell? ⟨t, 2, none⟩ = some (.slice (some ⟨wb, wo, none⟩) Wt.length wc) ∧ w'.cell? ⟨t, 4, none⟩ = some (.int .i64 (3 + (tks K : Int) + (tks Wt : Int)))) (by kernel_rfl) ⟨HS2.out.c0, HS2.out.c1, HS2.out.c2, HS2.out.c4⟩ (fun hS0 => ?_)
          refine wpAnyH_take (i := 0) (v := pp t) rfl (by kernel_rfl) (by kernel_rfl) (by kernel_rfl) (fun _ _ _ h => h) (Or.inl ⟨by rfl, fun w' _ => by go_simp⟩) hS0 ?_
          simp only [Act.put, List.getElem_toArray, List.getElem_cons_zero, List.setIfInBounds_toArray, List.set_cons_zero, List.set_cons_succ]
          refine wpAnyH_take (i := 1) (v := pp t) rfl (by kernel_rfl) (by kernel_rfl) (by kernel_rfl) (fun _ _ _ h => h) (Or.inl ⟨by rfl, fun w' _ => by go_simp⟩) hS0 ?_
          simp only [Act.put, List.getElem_toArray, List.getElem_cons_zero, List.getElem_cons_succ, List.setIfInBounds_toArray, List.set_cons_zero, List.set_cons_succ]
          refine wpAnyH_take (i := 2) (v := .pointer (some ⟨t, 0, none⟩)) rfl (by kernel_rfl) (by kernel_rfl) (by kernel_rfl) (fun _ _ _ h => h) (Or.inl ⟨by rfl, fun w' _ => by go_simp⟩) hS0 ?_
          simp only [Act.put, List.getElem_toArray, List.getElem_cons_zero, List.getElem_cons_succ, List.setIfInBounds_toArray, List.set_cons_zero, List.set_cons_succ]
          refine wpAnyH_take (i := 3) (v := pp b) rfl (by kernel_rfl) (by kernel_rfl) (by kernel_rfl) (fun _ _ _ h => h) (Or.inl ⟨by rfl, fun w' hS => by have hc := hS.1; go_simp⟩) hS0 ?_
          simp only [Act.put, List.getElem_toArray, List.getElem_cons_zero, List.getElem_cons_succ, List.setIfInBounds_toArray, List.set_cons_zero, List.set_cons_succ]
          refine wpAnyH_take (i := 4) (v := pp t) rfl (by kernel_rfl) (by kernel_rfl) (by kernel_rfl) (fun _ _ _ h => h) (Or.inl ⟨by rfl, fun w' _ => by go_simp⟩) hS0 ?_
          simp only [Act.put, List.getElem_toArray, List.getElem_cons_zero, List.getElem_cons_succ, List.setIfInBounds_toArray, List.set_cons_zero, List.set_cons_succ]
          refine wpAnyH_take (i := 5) (v := pp t) rfl (by kernel_rfl) (by kernel_rfl) (by kernel_rfl) (fun _ _ _ h => h) (Or.inl ⟨by rfl, fun w' _ => by go_simp⟩) hS0 ?_
          simp only [Act.put, List.getElem_toArray, List.getElem_cons_zero, List.getElem_cons_succ, List.setIfInBounds_toArray, List.set_cons_zero, List.set_cons_succ]
          refine wpAnyH_take (i := 6) (v := .pointer (some ⟨t, 1, none⟩)) rfl (by kernel_rfl) (by kernel_rfl) (by kernel_rfl) (fun _ _ _ h => h) (Or.inl ⟨by rfl, fun w' _ => by go_simp⟩) hS0 ?_
          simp only [Act.put, List.getElem_toArray, List.getElem_cons_zero, List.getElem_cons_succ, List.setIfInBounds_toArray, List.set_cons_zero, List.set_cons_succ]
          refine wpAnyH_take (i := 7) (v := .slice zk K.length kc) rfl (by kernel_rfl) (by kernel_rfl) (by kernel_rfl) (fun _ _ _ h => h) (Or.inl ⟨by rfl, fun w' hS => by have hc := hS.2.1; go_simp⟩) hS0 ?_
          simp only [Act.put, List.getElem_toArray, List.getElem_cons_zero, List.getElem_cons_succ, List.setIfInBounds_toArray, List.set_cons_zero, List.set_cons_succ]
          refine wpAnyH_take (i := 8) (v := .int .i64 (K.length : Int)) rfl (by kernel_rfl) (by kernel_rfl) (by kernel_rfl) (fun _ _ _ h => h) (Or.inl ⟨by rfl, fun w' _ => by go_simp⟩) hS0 ?_
          simp only [Act.put, List.getElem_toArray, List.getElem_cons_zero, List.getElem_cons_succ, List.setIfInBounds_toArray, List.set_cons_zero, List.set_cons_succ]
          refine wpAnyH_take (i := 9) (v := pp t) rfl (by kernel_rfl) (by kernel_rfl) (by kernel_rfl) (fun _ _ _ h => h) (Or.inl ⟨by rfl, fun w' _ => by go_simp⟩) hS0 ?_
          simp only [Act.put, List.getElem_toArray, List.getElem_cons_zero, List.getElem_cons_succ, List.setIfInBounds_toArray, List.set_cons_zero, List.set_cons_succ]
          refine wpAnyH_take (i := 10) (v := pp t) rfl (by kernel_rfl) (by kernel_rfl) (by kernel_rfl) (fun _ _ _ h => h) (Or.inl ⟨by rfl, fun w' _ => by go_simp⟩) hS0 ?_
          simp only [Act.put, List.getElem_toArray, List.getElem_cons_zero, List.getElem_cons_succ, List.setIfInBounds_toArray, List.set_cons_zero, List.set_cons_succ]
          refine wpAnyH_take (i := 11) (v := .pointer (some ⟨t, 2, none⟩)) rfl (by kernel_rfl) (by kernel_rfl) (by kernel_rfl) (fun _ _ _ h => h) (Or.inl ⟨by rfl, fun w' _ => by go_simp⟩) hS0 ?_
          simp only [Act.put, List.getElem_toArray, List.getElem_cons_zero, List.getElem_cons_succ, List.setIfInBounds_toArray, List.set_cons_zero, List.set_cons_succ]
          refine wpAnyH_take (i := 12) (v := .slice (some ⟨wb, wo, none⟩) Wt.length wc) rfl (by kernel_rfl) (by kernel_rfl) (by kernel_rfl) (fun _ _ _ h => h) (Or.inl ⟨by rfl, fun w' hS => by have hc := hS.2.2.1; go_simp⟩) hS0 ?_
          simp only [Act.put, List.getElem_toArray, List.getElem_cons_zero, List.getElem_cons_succ, List.setIfInBounds_toArray, List.set_cons_zero, List.set_cons_succ]
          refine wpAnyH_take (i := 13) (v := .int .i64 (Wt.length : Int)) rfl (by kernel_rfl) (by kernel_rfl) (by kernel_rfl) (fun _ _ _ h => h) (Or.inl ⟨by rfl, fun w' _ => by go_simp⟩) hS0 ?_
          simp only [Act.put, List.getElem_toArray, List.getElem_cons_zero, List.getElem_cons_succ, List.setIfInBounds_toArray, List.set_cons_zero, List.set_cons_succ]
          refine wpAnyH_take (i := 14) (v := .int .i64 ((K.length + Wt.length : Nat) : Int)) rfl (by kernel_rfl) (by kernel_rfl) (by kernel_rfl) (fun _ _ _ h => h) (Or.inl ⟨by rfl, fun w' _ => by go_simp; exact (wrapI _).trans (ar_l HLn.out.1)⟩) hS0 ?_
          simp only [Act.put, List.getElem_toArray, List.getElem_cons_zero, List.getElem_cons_succ, List.setIfInBounds_toArray, List.set_cons_zero, List.set_cons_succ]
          refine wpAnyH_take (i := 15) (v := pp t) rfl (by kernel_rfl) (by kernel_rfl) (by kernel_rfl) (fun _ _ _ h => h) (Or.inl ⟨by rfl, fun w' _ => by go_simp⟩) hS0 ?_
          simp only [Act.put, List.getElem_toArray, List.getElem_cons_zero, List.getElem_cons_succ, List.setIfInBounds_toArray, List.set_cons_zero, List.set_cons_succ]
          refine wpAnyH_take (i := 16) (v := pp t) rfl (by kernel_rfl) (by kernel_rfl) (by kernel_rfl) (fun _ _ _ h => h) (Or.inl ⟨by rfl, fun w' _ => by go_simp⟩) hS0 ?_
          simp only [Act.put, List.getElem_toArray, List.getElem_cons_zero, List.getElem_cons_succ, List.setIfInBounds_toArray, List.set_cons_zero, List.set_cons_succ]
          refine wpAnyH_take (i := 17) (v := .pointer (some ⟨t, 4, none⟩)) rfl (by kernel_rfl) (by kernel_rfl) (by kernel_rfl) (fun _ _ _ h => h) (Or.inl ⟨by rfl, fun w' _ => by go_simp⟩) hS0 ?_
          simp only [Act.put, List.getElem_toArray, List.getElem_cons_zero, List.getElem_cons_succ, List.setIfInBounds_toArray, List.set_cons_zero, List.set_cons_succ]
          refine wpAnyH_take (i := 18) (v := .int .i64 (3 + (tks K : Int) + (tks Wt : Int))) rfl (by kernel_rfl) (by kernel_rfl) (by kernel_rfl) (fun _ _ _ h => h) (Or.inl ⟨by rfl, fun w' hS => by have hc := hS.2.2.2; go_simp⟩) hS0 ?_
          simp only [Act.put, List.getElem_toArray, List.getElem_cons_zero, List.getElem_cons_succ, List.setIfInBounds_toArray, List.set_cons_zero, List.set_cons_succ]
          refine wpAnyH_take (i := 19) (v := .int .i64 ((tks K + tks Wt : Nat) : Int)) rfl (by kernel_rfl) (by kernel_rfl) (by kernel_rfl) (fun _ _ _ h => h) (Or.inl ⟨by rfl, fun w' _ => by go_simp; exact (wrapI _).trans (ar_e HLn.out.2.1)⟩) hS0 ?_
          simp only [Act.put, List.getElem_toArray, List.getElem_cons_zero, List.getElem_cons_succ, List.setIfInBounds_toArray, List.set_cons_zero, List.set_cons_succ]
          refine wpAnyH_ready (rs := [20]) (by kernel_rfl) (by simp) (AllReadyH.cons rfl (fun Kt hK => ?_) AllReadyH.nil)
          refine wanted_pos rfl ?_
          refine wp_call (R := fun x w' => ∃ g, x = s64 g ∧ W2.drew.heap.size ≤ g ∧ g < w'.heap.size ∧ Rw w' g 64 (pz (mkf (K.length + Wt.length) (tks K + tks Wt)) 16) ∧ Below W2.drew.heap.size W2.drew w') (vs := #[.int .i64 ((K.length + Wt.length : Nat) : Int), .int .i64 ((tks K + tks Wt : Nat) : Int)]) rfl (by simp only [List.map_toArray, List.map_cons, List.map_nil]; rfl) (by go_simp) (Calls.mono HVl.out (fun e w' he => by obtain ⟨g, rfl, hh⟩ := he; exact ⟨_, rfl, g, rfl, hh⟩)) (fun x W3 hr => ?_)
          obtain ⟨g, hx, hr3⟩ := hr
          subst hx
          have HV3 := hide hr3
          clear hr3
          have HSa := hide (save_any ((HD2.out.keep (Go.Proofs.Ytjgpopjpmfkfmaa.K.drew (Below.refl _ W2))).keep HV3.out.2.2.2) (a := 0) (by unfold few9; omega) (c := 64) (HV3.out.2.2.1.ba (o := 0) (m := 64) (by omega)))
          refine hK.out _ _ ⟨later HV3.out.2.2.2 hS0.1, later HV3.out.2.2.2 hS0.2.1, later HV3.out.2.2.2 hS0.2.2.1, later HV3.out.2.2.2 hS0.2.2.2⟩ (fun hS3 => ?_)
          clear hK Kt
          simp only [Act.put, List.getElem_toArray, List.getElem_cons_zero, List.getElem_cons_succ, List.setIfInBounds_toArray, List.set_cons_zero, List.set_cons_succ]
          refine wpAnyH_ready (rs := [21]) (by kernel_rfl) (by simp) (AllReadyH.cons rfl (fun Kt hK => ?_) AllReadyH.nil)
          refine wanted_pos rfl ?_
          simp only [Nat.zero_add] at HSa
          obtain ⟨D4, er4, hc4⟩ : ∃ D4 er4, (D.sy.saveD 0 (pz (mkf (K.length + Wt.length) (tks K + tks Wt)) 16) 64, D.sy.saveE 0 (pz (mkf (K.length + Wt.length) (tks K + tks Wt)) 16) 64) = (D4, er4) := ⟨_, _, rfl⟩
          have e41 : D.sy.saveD 0 (pz (mkf (K.length + Wt.length) (tks K + tks Wt)) 16) 64 = D4 := congrArg Prod.fst hc4
          have e42 : D.sy.saveE 0 (pz (mkf (K.length + Wt.length) (tks K + tks Wt)) 16) 64 = er4 := congrArg Prod.snd hc4
          rw [hc4] at HCm
          rw [e41, e42] at HSa
          clear hc4 e41 e42
          refine wp_call (R := fun x w' => x = .int .i64 er4 ∧ Dsk w' b lb mb D4 ∧ Kp (X3 b lb mb) W3 w') (vs := #[pp b, .int .i64 0, s64 g]) rfl (by simp only [List.map_toArray, List.map_cons, List.map_nil]; rfl) (by go_simp) (Calls.mono HSa.out (fun e w' he => ⟨_, he.1, rfl, he.2⟩)) (fun x W4 hr => ?_)
          obtain ⟨hx, hD4, hK4⟩ := hr
          subst hx
          have HD4 := hide hD4
          have HK4 := hide hK4
          clear hD4 hK4
          refine hK.out _ _ ⟨(HK4.out.cell (p := ⟨t, 0, none⟩) (World.block_lt_of_cell? _ _ hS3.1) HT.out).trans hS3.1, (HK4.out.cell (p := ⟨t, 1, none⟩) (World.block_lt_of_cell? _ _ hS3.2.1) HT.out).trans hS3.2.1, (HK4.out.cell (p := ⟨t, 2, none⟩) (World.block_lt_of_cell? _ _ hS3.2.2.1) HT.out).trans hS3.2.2.1, (HK4.out.cell (p := ⟨t, 4, none⟩) (World.block_lt_of_cell? _ _ hS3.2.2.2) HT.out).trans hS3.2.2.2⟩ (fun hS4 => ?_)
          clear hK Kt
          simp only [Act.put, List.getElem_toArray, List.getElem_cons_zero, List.getElem_cons_succ, List.setIfInBounds_toArray, List.set_cons_zero, List.set_cons_succ]
          refine wpAnyH_take (i := 22) (v := .int .i64 er4) rfl (by kernel_rfl) (by kernel_rfl) (by kernel_rfl) (fun _ _ _ h => h) (Or.inl ⟨by rfl, fun w' _ => by go_simp⟩) hS4 ?_
          simp only [Act.put, List.getElem_toArray, List.getElem_cons_zero, List.getElem_cons_succ, List.setIfInBounds_toArray, List.set_cons_zero, List.set_cons_succ]
          refine wpAnyH_done (by kernel_rfl) ?_ _
          refine NoPanic.normal ?_
          clear hS0 hS3 hS4
          go_wp2_with fail
          go_ret
          rw [← HCm.out]
          exact ⟨rfl, HD4.out, ((Kp.of HB.out).trans HK2.out).trans ((Kp.of (Go.Proofs.Ytjgpopjpmfkfmaa.K.drew (Below.refl _ W2))).trans ((Kp.of HV3.out.2.2.2).trans HK4.out))⟩
        · have HCm := hide (cm_not hsy (K ++ Wt))
          have hq : (D.syE != 0) = true := by simp [hsy]
          obtain ⟨er, her⟩ : ∃ er, er = D.syE := ⟨_, rfl⟩
          rw [← her] at HSy hq
          have HEr := hide her
          clear hsy her
          go_wp2_with (go_at_call 72; refine Calls.mono HSy.out ?_; rintro e W2 ⟨rfl, hD2, hK2⟩; have HD2 := hide hD2; have HK2 := hide hK2; clear hD2 hK2)
          go_ret
          rw [HCm.out]
          exact ⟨by rw [← HEr.out]; rfl, HD2.out, (Kp.of HB.out).trans HK2.out⟩
end Go.Proofs.Ytjgpopjpmfkfmaa
namespace Go.Proofs.Ytjgpopjpmfkfmaa
open Go.RowKit Go.Maps
attribute [local go_sem ↓] Go.wp_at_zero Go.wp_at_succ

theorem PSt.done {W W3 : World} {bs t b : Nat} {Y : Nat → Bool} {vk vw v' : Value} {ck cw : List Value} {K Wt : List (List Nat)} (h : PSt W bs t b Y vk vw ck cw K Wt false) (hY : ∀ g, Y g = true → g < W.heap.size)
    (ho : W3.ownsRow bs 38 1 v' (K.length + Wt.length) (ck ++ cw)) (hG : W.grownBy W3 vk.ownBlock) (hat : v'.ownBlock = vk.ownBlock ∨ v'.ownBlock = some W.heap.size) :
    (∀ i u, i < 6 → W.cell? ⟨t, i, none⟩ = some u → W3.cell? ⟨t, i, none⟩ = some u) ∧ (∀ i, i < 6 → W3.frozen? ⟨t, i, none⟩ = false) ∧
    PSt (((W3.setCell ⟨t, 1, none⟩ v').setCell ⟨t, 2, none⟩ (.slice none 0 0)).setCell ⟨t, 3, none⟩ (.int .i64 (3 + (tks K : Int) + (tks Wt : Int)))) bs t b Y v' (.slice none 0 0) (ck ++ cw) [] (K ++ Wt) [] false := by
  have htn : vk.ownBlock ≠ some t := fun e => by
    have := h.k.x t e
    rw [Xt_u (Xu_of (Or.inr rfl))] at this
    cases this
  have e := hG.block t h.tl (fun e => htn e.symm)
  have ec : ∀ i, W3.cell? ⟨t, i, none⟩ = W.cell? ⟨t, i, none⟩ := fun i => World.cell?_of_block (w := W) e
  have ef : ∀ i, W3.frozen? ⟨t, i, none⟩ = W.frozen? ⟨t, i, none⟩ := fun i => World.frozen?_of_block (w := W) e
  have hXu : ∀ k, Xu Y t k = true → k < W.heap.size := fun k hk => by
    rcases Xu_inv hk with e1 | e1
    · exact hY k e1
    · rw [e1]; exact h.tl
  have hk : Lst W3 bs (Xu Y t) v' (K ++ Wt) (ck ++ cw) := (h.k.sub (fun k hk => Xt_u hk)).cat h.s hXu (fun g hg => by
    rcases hg with e1 | e1
    · exact Xt_u e1
    · exact Xt_own e1) ho hG hat
  have hU : Xu Y t t = true := Xu_of (Or.inr rfl)
  have hts : (3 + (tks K : Int) + (tks Wt : Int)) = 3 + (tks (K ++ Wt) : Int) := by rw [tks_app]; omega
  refine ⟨fun i u _ hu => (ec i).trans hu, fun i hi => (ef i).trans (h.z i hi), ⟨(cell_oth (by decide)).trans ((cell_oth (by decide)).trans ((cell_oth (by decide)).trans ((ec 0).trans h.c0))), (cell_oth (by decide)).trans ((cell_oth (by decide)).trans (cell_at ((ec 1).trans h.c1))), (cell_oth (by decide)).trans (cell_at ((cell_oth (by decide)).trans ((ec 2).trans h.c2))), ?_, ?_, (cell_oth (by decide)).trans ((cell_oth (by decide)).trans ((cell_oth (by decide)).trans ((ec 5).trans h.c5))), fun i hi => by rw [World.frozen?_setCell, World.frozen?_setCell, World.frozen?_setCell, ef]; exact h.z i hi, ?_, h.ty, (RSt.set (RSt.set (RSt.set hk hU) hU) hU).sub (fun k hk => ?_), Lst.nil _ _ _⟩⟩
  · rw [← hts]
    exact cell_at ((cell_oth (by decide)).trans ((cell_oth (by decide)).trans ((ec 3).trans h.c3)))
  · show _ = some (Value.int .i64 (3 + (tks (K ++ Wt) : Int) + ((0 : Nat) : Int)))
    rw [show (3 + (tks (K ++ Wt) : Int) + ((0 : Nat) : Int)) = 3 + (tks (K ++ Wt) : Int) by omega, ← hts]
    exact (cell_oth (by decide)).trans ((cell_oth (by decide)).trans ((cell_oth (by decide)).trans ((ec 4).trans h.c4)))
  · have := h.tl
    have := hG.size
    simp
    omega
  · rcases Xt_inv hk with e1 | e1
    · exact e1
    · cases e1
def CoP (w : World) (bs t b lb mb : Nat) (Y : Nat → Bool) (vk vw : Value) (D : DM) (er : Int) (K Wt : List (List Nat)) (ov : Bool) (e : Ending) (w' : World) : Prop := e = .returned (.int .i64 er) ∧ ∃ vk' vw' ck' cw', Dsk w' b lb mb D ∧ PSt w' bs t b Y vk' vw' ck' cw' K Wt ov ∧ Kp (Xt (X3 b lb mb) t vk) w w' ∧ (vk'.ownBlock = vk.ownBlock ∨ ∃ g, vk'.ownBlock = some g ∧ w.heap.size ≤ g) ∧ (vw'.ownBlock = vw.ownBlock ∨ vw'.ownBlock = none)
section
variable {w : World} {bs t b : Nat} {Y : Nat → Bool} {vk vw : Value} {ck cw : List Value} {K Wt : List (List Nat)}
theorem commit_over1 (h : PSt w bs t b Y vk vw ck cw K Wt true) : Calls Try.prog 17 #[pp t] w fun e w' => e = .returned (.int .i64 6) ∧ w' = w := by
  have HO := hide (over_n h)
  clear h
  go_enter Try.func17, Try.ntmps17
  go_wp2_with (go_at_call 45; refine Calls.mono HO.out ?_; rintro e w ⟨rfl, rfl⟩)
  go_ret
  exact ⟨rfl, rfl⟩
theorem commit_none1 (h : PSt w bs t b Y vk vw ck cw K [] false) : Calls Try.prog 17 #[pp t] w fun e w' => e = .returned (.int .i64 0) ∧ w' = w := by
  have HO := hide (over_n h)
  obtain ⟨z, c, rfl, _⟩ := h.s.shape
  have h2 := h.c2
  clear h
  go_enter Try.func17, Try.ntmps17
  go_wp2_with (go_at_call 45; refine Calls.mono HO.out ?_; rintro e w ⟨rfl, rfl⟩)
  go_ret
  exact ⟨rfl, rfl⟩
end
set_option maxRecDepth 100000 in
set_option maxHeartbeats 8000000 in
theorem commit_n {w : World} {bs t b lb mb : Nat} {Y : Nat → Bool} {vk vw : Value} {ck cw : List Value} {K Wt : List (List Nat)} {D : DM} (h : PSt w bs t b Y vk vw ck cw K Wt false) (hd : Dsk w b lb mb D) (hXY : ∀ g, X3 b lb mb g = true → Y g = true) (hY : ∀ g, Y g = true → g < w.heap.size) (hbs : bs ≤ w.heap.size)
    (hw : Wt ≠ []) (hs : ∀ l ∈ Wt, l.length ≤ 200) (hf : 3 + tks K + tks Wt ≤ D.n) (hst : D.dn = true ∨ (D.dn = false ∧ stl D (3 + tks K) Wt)) :
    Calls Try.prog 17 #[pp t] w (CoP w bs t b lb mb Y vk vw (cm D (K ++ Wt)).1 (cm D (K ++ Wt)).2 (cmK (cm D (K ++ Wt)).2 K Wt) (cmW (cm D (K ++ Wt)).2 Wt) (cmO (cm D (K ++ Wt)).2)) := by
  have hn := hd.ok.n
  have HO := hide (over_n h)
  have HKw := hide (keep_n h hd hXY hw hs hf hst)
  have HT : Hid (X3 b lb mb t = false) := by
    cases hq : X3 b lb mb t with
    | false => rfl
    | true => have := hXY t hq; rw [h.ty] at this; cases this
  have hl1 := tks_len K
  have hl2 := tks_len Wt
  have HLn : Hid (K.length + Wt.length ≤ 1000000) := (show K.length + Wt.length ≤ 1000000 by omega)
  have hlw : ((Wt.length : Int) == 0) = false := by
    cases Wt with
    | nil => exact absurd rfl hw
    | cons a b => simp; omega
  obtain ⟨D1, er, hA⟩ : ∃ D1 er, cm D (K ++ Wt) = (D1, er) := ⟨_, _, rfl⟩
  rw [hA] at HKw ⊢
  obtain ⟨zw, wc, rfl, _⟩ := h.s.shape
  have h2 := h.c2
  have HS := hide h
  have HX := hide (And.intro hXY (And.intro hY hbs))
  clear h hd hXY hY hbs hw hs hf hst hA
  go_enter Try.func17, Try.ntmps17
  go_upto_region 6 with (first
    | (go_at_call 45; refine Calls.mono HO.out ?_; rintro e w ⟨rfl, rfl⟩)
    | (go_at_call 51; refine Calls.mono HKw.out ?_; rintro e W2 ⟨rfl, hD2, hK2⟩; have HD2 := hide hD2; have HK2 := hide hK2; clear hD2 hK2))
  have HS2 := hide (HS.out.kp (HK2.out.mono HX.out.1))
  by_cases he : er = 0
  · have hq : (er != 0) = false := by simp [he]
    have HE : Hid (cmK er K Wt = K ++ Wt ∧ cmW er Wt = [] ∧ cmO er = false ∧ er = 0) := ⟨if_pos he, if_pos he, by subst he; decide, he⟩
    obtain ⟨zk, kc, ek, _⟩ := HS2.out.k.shape
    subst ek
    clear he HO HKw h2
    go_upto_region 8 with fail
    have HSd := hide (HS2.out.keep (Go.Proofs.Ytjgpopjpmfkfmaa.K.drew (Below.refl _ W2)))
    have HDd := hide (HD2.out.keep (Go.Proofs.Ytjgpopjpmfkfmaa.K.drew (Below.refl _ W2)))
    have HYd : Hid (∀ g, Y g = true → g < W2.drew.heap.size) := fun g hg => Nat.lt_of_lt_of_le (HX.out.2.1 g hg) HK2.out.size
    have HBs : Hid (bs ≤ W2.drew.heap.size) := Nat.le_trans HX.out.2.2 HK2.out.size
    refine wp_region_noPanic ?_
    refine wp_region_held_drew (S := fun _ => True) (by kernel_rfl) trivial (fun hS0 => ?_)
    refine wpAnyH_take (i := 0) (v := pp t) rfl (by kernel_rfl) (by kernel_rfl) (by kernel_rfl) (fun _ _ _ h => h) (Or.inl ⟨by rfl, fun w' _ => by go_simp⟩) hS0 ?_
    simp only [Act.put, List.getElem_toArray, List.getElem_cons_zero, List.setIfInBounds_toArray, List.set_cons_zero, List.set_cons_succ]
    refine wpAnyH_take (i := 1) (v := pp t) rfl (by kernel_rfl) (by kernel_rfl) (by kernel_rfl) (fun _ _ _ h => h) (Or.inl ⟨by rfl, fun w' _ => by go_simp⟩) hS0 ?_
    simp only [Act.put, List.getElem_toArray, List.getElem_cons_zero, List.getElem_cons_succ, List.setIfInBounds_toArray, List.set_cons_zero, List.set_cons_succ]
    refine wpAnyH_take (i := 2) (v := pp t) rfl (by kernel_rfl) (by kernel_rfl) (by kernel_rfl) (fun _ _ _ h => h) (Or.inl ⟨by rfl, fun w' _ => by go_simp⟩) hS0 ?_
    simp only [Act.put, List.getElem_toArray, List.getElem_cons_zero, List.getElem_cons_succ, List.setIfInBounds_toArray, List.set_cons_zero, List.set_cons_succ]
    refine wpAnyH_take (i := 3) (v := .pointer (some ⟨t, 1, none⟩)) rfl (by kernel_rfl) (by kernel_rfl) (by kernel_rfl) (fun _ _ _ h => h) (Or.inl ⟨by rfl, fun w' _ => by go_simp⟩) hS0 ?_
    simp only [Act.put, List.getElem_toArray, List.getElem_cons_zero, List.getElem_cons_succ, List.setIfInBounds_toArray, List.set_cons_zero, List.set_cons_succ]
    refine wpAnyH_take (i := 5) (v := pp t) rfl (by kernel_rfl) (by kernel_rfl) (by kernel_rfl) (fun _ _ _ h => h) (Or.inl ⟨by rfl, fun w' _ => by go_simp⟩) hS0 ?_
    simp only [Act.put, List.getElem_toArray, List.getElem_cons_zero, List.getElem_cons_succ, List.setIfInBounds_toArray, List.set_cons_zero, List.set_cons_succ]
    refine wpAnyH_take (i := 6) (v := pp t) rfl (by kernel_rfl) (by kernel_rfl) (by kernel_rfl) (fun _ _ _ h => h) (Or.inl ⟨by rfl, fun w' _ => by go_simp⟩) hS0 ?_
    simp only [Act.put, List.getElem_toArray, List.getElem_cons_zero, List.getElem_cons_succ, List.setIfInBounds_toArray, List.set_cons_zero, List.set_cons_succ]
    refine wpAnyH_take (i := 7) (v := .pointer (some ⟨t, 2, none⟩)) rfl (by kernel_rfl) (by kernel_rfl) (by kernel_rfl) (fun _ _ _ h => h) (Or.inl ⟨by rfl, fun w' _ => by go_simp⟩) hS0 ?_
    simp only [Act.put, List.getElem_toArray, List.getElem_cons_zero, List.getElem_cons_succ, List.setIfInBounds_toArray, List.set_cons_zero, List.set_cons_succ]
    apply meet
    · intro hcut
      refine wpAnyH_ready (rs := [4, 8]) (by kernel_rfl) (by simp) (AllReadyH.cons rfl (fun Kt hK => ?_) (AllReadyH.cons rfl (fun Kt hK => ?_) AllReadyH.nil))
      · skip
        refine wanted_pos rfl ?_
        refine wp_load2 rfl (by rfl) HSd.out.c1 (hK.out _ _ trivial (fun _ => ?_))
        clear hK Kt
        simp only [Act.put, List.getElem_toArray, List.getElem_cons_zero, List.getElem_cons_succ, List.setIfInBounds_toArray, List.set_cons_zero, List.set_cons_succ]
        refine wpAnyH_ready (rs := [8]) (by kernel_rfl) (by simp) (AllReadyH.cons rfl (fun Kt hK => ?_) AllReadyH.nil)
        refine wanted_pos rfl ?_
        refine wp_load2 rfl (by rfl) HSd.out.c2 (hK.out _ _ trivial (fun _ => ?_))
        clear hK Kt
        simp only [Act.put, List.getElem_toArray, List.getElem_cons_zero, List.getElem_cons_succ, List.setIfInBounds_toArray, List.set_cons_zero, List.set_cons_succ]
        exact hcut
      · skip
        refine wanted_pos rfl ?_
        refine wp_load2 rfl (by rfl) HSd.out.c2 (hK.out _ _ trivial (fun _ => ?_))
        clear hK Kt
        simp only [Act.put, List.getElem_toArray, List.getElem_cons_zero, List.getElem_cons_succ, List.setIfInBounds_toArray, List.set_cons_zero, List.set_cons_succ]
        refine wpAnyH_ready (rs := [4]) (by kernel_rfl) (by simp) (AllReadyH.cons rfl (fun Kt hK => ?_) AllReadyH.nil)
        refine wanted_pos rfl ?_
        refine wp_load2 rfl (by rfl) HSd.out.c1 (hK.out _ _ trivial (fun _ => ?_))
        clear hK Kt
        simp only [Act.put, List.getElem_toArray, List.getElem_cons_zero, List.getElem_cons_succ, List.setIfInBounds_toArray, List.set_cons_zero, List.set_cons_succ]
        exact hcut
    refine wpAnyH_ready (rs := [9]) (by kernel_rfl) (by simp) (AllReadyH.cons rfl (fun Kt hK => ?_) AllReadyH.nil)
    refine wanted_pos rfl ?_
    refine wp_appL _ _ rfl (by rfl) HSd.out.k.o (by rfl) HSd.out.s.o HSd.out.s.one HLn.out HBs.out (fun v4 W4 ho hG hat => ?_)
    have HPd := hide (HSd.out.done HYd.out ho hG hat)
    have HKg : Hid (Kp (Xt (X3 b lb mb) t (.slice zk K.length kc)) W2.drew W4) := grown_kp hG (fun k hk => Xt_own hk)
    have HAt : Hid (v4.ownBlock = (Value.slice zk K.length kc).ownBlock ∨ ∃ g, v4.ownBlock = some g ∧ w.heap.size ≤ g) := hat.imp id (fun e => ⟨_, e, HK2.out.size⟩)
    have HDg : Hid (Dsk W4 b lb mb D1) := HDd.out.same hG.size (fun k hk => hG.block k (by
      rcases X3_of.1 hk with rfl | rfl | rfl
      · exact HDd.out.bl
      · exact HDd.out.ll
      · exact HDd.out.mp.lt) (fun e => by
        have := HSd.out.k.x k e.symm
        rw [Xt_u (Xu_of (Or.inl (HX.out.1 k hk)))] at this
        cases this))
    have HC1 := hide (HPd.out.1 1 _ (by decide) HSd.out.c1)
    have HZ1 := hide (HPd.out.2.1 1 (by decide))
    obtain ⟨zq, lc, e6, _⟩ := (show ∃ zq lc, v4 = .slice zq (K.length + Wt.length) lc ∧ True by
      rcases ho.2 with ⟨e1, e2⟩ | ⟨g, cap, cur, e1, _⟩
      · exact ⟨none, 0, by rw [e1, e2], trivial⟩
      · exact ⟨_, _, e1, trivial⟩)
    subst e6
    clear ho hG hat
    refine hK.out _ _ trivial (fun _ => ?_)
    clear hK Kt
    simp only [Act.put, List.getElem_toArray, List.getElem_cons_zero, List.getElem_cons_succ, List.setIfInBounds_toArray, List.set_cons_zero, List.set_cons_succ]
    refine wpAnyH_take (i := 10) (v := pp t) rfl (by kernel_rfl) (by kernel_rfl) (by kernel_rfl) (fun _ _ _ h => h) (Or.inl ⟨by rfl, fun w' _ => by go_simp⟩) trivial ?_
    simp only [Act.put, List.getElem_toArray, List.getElem_cons_zero, List.getElem_cons_succ, List.setIfInBounds_toArray, List.set_cons_zero, List.set_cons_succ]
    refine wpAnyH_take (i := 11) (v := .pointer (some ⟨t, 1, none⟩)) rfl (by kernel_rfl) (by kernel_rfl) (by kernel_rfl) (fun _ _ _ h => h) (Or.inl ⟨by rfl, fun w' _ => by go_simp⟩) trivial ?_
    simp only [Act.put, List.getElem_toArray, List.getElem_cons_zero, List.getElem_cons_succ, List.setIfInBounds_toArray, List.set_cons_zero, List.set_cons_succ]
    refine wpAnyH_ready (rs := [12]) (by kernel_rfl) (by simp) (AllReadyH.cons rfl (fun Kt hK => ?_) AllReadyH.nil)
    refine wanted_pos rfl ?_
    refine wp_store2 rfl (by rfl) (by rfl) HC1.out HZ1.out (hK.out _ _ trivial (fun _ => ?_))
    clear hK Kt
    simp only [Act.put, List.getElem_toArray, List.getElem_cons_zero, List.getElem_cons_succ]
    refine wpAnyH_done (by kernel_rfl) ?_ _
    refine NoPanic.normal ?_
    obtain ⟨W5, hW5⟩ : ∃ W5, W5 = W4.setCell ⟨t, 1, none⟩ (.slice zq (K.length + Wt.length) lc) := ⟨_, rfl⟩
    rw [← hW5]
    have HP4 := hide HPd.out.2.2
    rw [← hW5] at HP4
    have hq2 : W5.cell? ⟨t, 2, none⟩ = some (.slice zw Wt.length wc) := by rw [hW5]; exact (cell_oth (by decide)).trans (HPd.out.1 2 _ (by decide) HSd.out.c2)
    have hq3 : W5.cell? ⟨t, 3, none⟩ = some (.int .i64 (3 + (tks K : Int))) := by rw [hW5]; exact (cell_oth (by decide)).trans (HPd.out.1 3 _ (by decide) HSd.out.c3)
    have hq4 : W5.cell? ⟨t, 4, none⟩ = some (.int .i64 (3 + (tks K : Int) + (tks Wt : Int))) := by rw [hW5]; exact (cell_oth (by decide)).trans (HPd.out.1 4 _ (by decide) HSd.out.c4)
    have hf2 : W5.frozen? ⟨t, 2, none⟩ = false := by rw [hW5, World.frozen?_setCell]; exact HPd.out.2.1 2 (by decide)
    have hf3 : W5.frozen? ⟨t, 3, none⟩ = false := by rw [hW5, World.frozen?_setCell]; exact HPd.out.2.1 3 (by decide)
    have HK4 : Hid (Kp (Xt (X3 b lb mb) t (.slice zk K.length kc)) W2.drew W5) := by rw [hW5]; exact HKg.out.trans (kp_v _)
    have HD4 : Hid (Dsk W5 b lb mb D1) := by rw [hW5]; exact HDg.out.setx HT.out _
    clear hW5 HPd HKg HDg HSd HDd hq
    go_wp2_with fail
    go_ret
    rw [HE.out.1, HE.out.2.1, HE.out.2.2.1, HE.out.2.2.2]
    exact ⟨rfl, _, _, _, _, ((HD4.out.setx HT.out _).setx HT.out _), HP4.out, (((HK2.out.mono (fun k hk => Xt_u (Xu_of (Or.inl hk)))).trans (Kp.of (Go.Proofs.Ytjgpopjpmfkfmaa.K.drew (Below.refl _ W2)))).trans HK4.out).trans ((kp_v _).trans (kp_v _)), HAt.out, Or.inr rfl⟩
  · have hq : (er != 0) = true := by simp [he]
    have HE : Hid (cmK er K Wt = K ∧ cmW er Wt = Wt) := ⟨if_neg he, if_neg he⟩
    have HFa := hide (failed_n HS2.out er)
    clear he HO HKw h2
    go_wp2_with (go_at_call 48; refine Calls.mono HFa.out ?_; rintro e W3 ⟨rfl, hS3, hK3⟩; have HS3 := hide (And.intro hS3 hK3); clear hS3 hK3)
    go_ret
    rw [HE.out.1, HE.out.2]
    refine ⟨rfl, vk, _, ck, cw, HD2.out.same HS3.out.2.size (fun k hk => HS3.out.2.block k ?_ (X1_not (fun e => ?_))), HS3.out.1, (HK2.out.mono (fun k hk => Xt_u (Xu_of (Or.inl hk)))).trans (HS3.out.2.mono (fun k hk => Xt_u (Xu_of (Or.inr (Nat.eq_of_beq_eq_true hk))))), Or.inl rfl, Or.inl rfl⟩
    · rcases X3_of.1 hk with rfl | rfl | rfl
      · exact HD2.out.bl
      · exact HD2.out.ll
      · exact HD2.out.mp.lt
    · rw [e, HT.out] at hk; cases hk
end Go.Proofs.Ytjgpopjpmfkfmaa
namespace Go.Proofs.Ytjgpopjpmfkfmaa

theorem md2_free {D : DM} (h : D.free) {a : Nat} (ha : a + 2 < D.n) {B : Nat → List Nat} {v : List Nat} (hv : sec v) : ∀ j, j ≤ 3 → (md2 D a B v j).2 = 0 ∧ (md2 D a B v j).1.free ∧ (md2 D a B v j).1.n = D.n
  | 0, _ => ⟨rfl, h, rfl⟩
  | j + 1, hj => by
    obtain ⟨e, h1, h2⟩ := md2_free h ha hv (B := B) j (by omega)
    by_cases hb : B j = v
    · have es : md2 D a B v (j + 1) = md2 D a B v j := (if_pos e).trans (if_pos hb)
      rw [es]
      exact ⟨e, h1, h2⟩
    · have es : md2 D a B v (j + 1) = ((md2 D a B v j).1.ws ((a : Int) + (j : Int)) v, (md2 D a B v j).1.wsE ((a : Int) + (j : Int)) v) := (if_pos e).trans (if_neg hb)
      have c : ((a : Int) + (j : Int)) = ((a + j : Nat) : Int) := by omega
      rw [es, c]
      obtain ⟨g1, g2, g3, _⟩ := ws_free h1 (i := a + j) (by rw [h2]; omega) hv
      exact ⟨g1, g2, g3.trans h2⟩
theorem mend_free {D : DM} (h : D.free) (ho : D.ok) (hn : 2 < D.n) : D.mendE 0 = 0 ∧ (D.mendD 0).free ∧ (D.mendD 0).n = D.n := by
  have hl : D.ldE 0 = 0 := (ld_free h (a := 0) hn).1
  have e1 : D.mendE 0 = (md2 D 0 (D.three 0) (D.ldB 0) 3).2 := if_pos hl
  have e2 : D.mendD 0 = (md2 D 0 (D.three 0) (D.ldB 0) 3).1 := if_pos hl
  rw [e1, e2]
  exact md2_free h (a := 0) hn (ldB_sec ho hl) 3 (by omega)
theorem apw_free {D : DM} (h : D.free) {p : Nat} {f : Nat → Nat} (hf : ∀ i, f i < 256) {m : Nat} (hm : m ≤ 200) : ∀ j, p + j ≤ D.n → (apw D p f m j).2 = 0 ∧ (apw D p f m j).1.free ∧ (apw D p f m j).1.n = D.n
  | 0, _ => ⟨rfl, h, rfl⟩
  | j + 1, hj => by
    obtain ⟨e, h1, h2⟩ := apw_free h (p := p) hf hm j (by omega)
    rw [apw_step e, show (p : Int) + (j : Int) = ((p + j : Nat) : Int) by omega]
    have hs := esec_sec hf hm j
    obtain ⟨g1, g2, g3, _⟩ := wr_free h1 (i := p + j) (by rw [h2]; omega) hs
    rw [hs.1] at g1
    exact ⟨g1, g2, g3.trans h2⟩
theorem cm_free {D : DM} (h : D.free) (hn : 2 < D.n) (M : List (List Nat)) : (cm D M).2 = 0 ∧ (cm D M).1.free ∧ (cm D M).1.n = D.n := by
  obtain ⟨h1, h2, h3, _⟩ := sy_free' h
  have e : cm D M = sv D.sy 0 (mkv M) 3 := if_pos h1
  rw [e]
  obtain ⟨g1, g2, g3, _⟩ := sv_free h2 (a := 0) (by rw [h3]; exact hn) (mkv_sec M) 3 (by omega)
  exact ⟨g1, g2, g3.trans h3⟩
/-- The errors that there are. -/
theorem wr_06 (D : DM) {i : Nat} (hi : i < D.n) : D.wrE (i : Int) 64 = 0 ∨ D.wrE (i : Int) 64 = 6 := by
  unfold DM.wrE
  split
  · exact Or.inr rfl
  · rw [if_pos (by omega), if_pos rfl]
    split
    · exact Or.inl rfl
    · exact Or.inr rfl
theorem apw_06 (D : DM) (p : Nat) (f : Nat → Nat) (m : Nat) : ∀ j, p + j ≤ D.n → (apw D p f m j).2 = 0 ∨ (apw D p f m j).2 = 6
  | 0, _ => Or.inl rfl
  | j + 1, hj => by
    rcases apw_06 D p f m j (by omega) with e | e
    · rw [apw_step e, show (p : Int) + (j : Int) = ((p + j : Nat) : Int) by omega]
      exact wr_06 _ (by rw [(apw_la D p f m j).2.1]; omega)
    · have es : apw D p f m (j + 1) = apw D p f m j := if_neg (by rw [e]; decide)
      rw [es]
      exact Or.inr e
theorem sy_06 (D : DM) : D.syE = 0 ∨ D.syE = 6 := by
  unfold DM.syE
  split
  · exact Or.inr rfl
  · split
    · exact Or.inl rfl
    · exact Or.inr rfl
theorem sy_n' (D : DM) : D.sy.n = D.n := by
  unfold DM.sy
  split
  · rfl
  · split
    · show D.burn.n = D.n
      exact burn_n D
    · exact burn_n D
theorem ws_06 (D : DM) {i : Nat} (hi : i < D.n) {l : List Nat} (hl : l.length = 64) : D.wsE (i : Int) l = 0 ∨ D.wsE (i : Int) l = 6 := by
  unfold DM.wsE
  split
  · exact sy_06 _
  · rw [hl]
    exact wr_06 D hi
theorem ws_n (D : DM) (i : Int) (l : List Nat) : (D.ws i l).n = D.n := by
  unfold DM.ws
  have h1 := (wr_la' D i l).2
  split
  · rw [sy_n']
    exact h1
  · exact h1
theorem sv_06 (D : DM) {v : List Nat} (hv : v.length = 64) (hn : 2 < D.n) : ∀ j, j ≤ 3 → ((sv D 0 v j).2 = 0 ∨ (sv D 0 v j).2 = 6) ∧ (sv D 0 v j).1.n = D.n
  | 0, _ => ⟨Or.inl rfl, rfl⟩
  | j + 1, hj => by
    obtain ⟨h1, h2⟩ := sv_06 D hv hn j (by omega)
    rcases h1 with e | e
    · have es : sv D 0 v (j + 1) = ((sv D 0 v j).1.ws (0 + (j : Int)) v, (sv D 0 v j).1.wsE (0 + (j : Int)) v) := if_pos e
      rw [es, Int.zero_add]
      exact ⟨ws_06 _ (by rw [h2]; omega) hv, (ws_n _ _ _).trans h2⟩
    · have es : sv D 0 v (j + 1) = sv D 0 v j := if_neg (by rw [e]; decide)
      rw [es]
      exact ⟨Or.inr e, h2⟩
theorem cm_06 (D : DM) (M : List (List Nat)) (hn : 2 < D.n) : ((cm D M).2 = 0 ∨ (cm D M).2 = 6) ∧ (cm D M).1.n = D.n := by
  by_cases hs : D.syE = 0
  · have e : cm D M = sv D.sy 0 (mkv M) 3 := if_pos hs
    have h3 : D.sy.n = D.n := sy_n' D
    rw [e]
    obtain ⟨g1, g2⟩ := sv_06 D.sy (mkv_sec M).1 (by rw [h3]; exact hn) 3 (by omega)
    exact ⟨g1, g2.trans h3⟩
  · rw [cm_not hs]
    exact ⟨sy_06 D, sy_n' D⟩
theorem apw_congr {f h : Nat → Nat} {m : Nat} (e : ∀ i, i < m → f i = h i) (D : DM) (p : Nat) : ∀ j, apw D p f m j = apw D p h m j
  | 0 => rfl
  | j + 1 => by
    show (if (apw D p f m j).2 = 0 then ((apw D p f m j).1.wr ((p + j : Nat) : Int) (esec f m j), (apw D p f m j).1.wrE ((p + j : Nat) : Int) 64) else apw D p f m j) = (if (apw D p h m j).2 = 0 then ((apw D p h m j).1.wr ((p + j : Nat) : Int) (esec h m j), (apw D p h m j).1.wrE ((p + j : Nat) : Int) 64) else apw D p h m j)
    rw [apw_congr e D p j, esec_congr e j]
/-- The model of a store: its disk, what is kept, what waits, whether it is over. -/
structure SM where
  D : DM
  K : List (List Nat)
  W : List (List Nat)
  o : Bool
/-- Append: what it answers, and what it leaves. -/
def apx (s : SM) (l : List Nat) : DM × Int := apw s.D (3 + tks s.K + tks s.W) (fun i => l.getD i 0) l.length (tk l.length)
def SM.apE (s : SM) (l : List Nat) : Int := if s.o then 6 else if 200 < l.length then 4 else if s.D.n < 3 + tks s.K + tks s.W + tk l.length then 5 else (apx s l).2
def SM.ap (s : SM) (l : List Nat) : SM := if s.o then s else if 200 < l.length then s else if s.D.n < 3 + tks s.K + tks s.W + tk l.length then s else ⟨(apx s l).1, s.K, apW (apx s l).2 s.W l, cmO (apx s l).2⟩
/-- Commit. -/
def SM.coE (s : SM) : Int := if s.o then 6 else if s.W = [] then 0 else (cm s.D (s.K ++ s.W)).2
def SM.co (s : SM) : SM := if s.o then s else if s.W = [] then s else ⟨(cm s.D (s.K ++ s.W)).1, cmK (cm s.D (s.K ++ s.W)).2 s.K s.W, cmW (cm s.D (s.K ++ s.W)).2 s.W, cmO (cm s.D (s.K ++ s.W)).2⟩
/-- What is always so. -/
structure SM.ok (s : SM) : Prop where
  n : 3 + tks s.K + tks s.W ≤ s.D.n
  k : ∀ l ∈ s.K, l.length ≤ 200
  w : ∀ l ∈ s.W, l.length ≤ 200
  s : s.o = false → s.D.dn = false → stl s.D (3 + tks s.K) s.W
theorem SM.ap_ok {s : SM} (h : s.ok) (l : List Nat) : (s.ap l).ok ∧ (s.ap l).K = s.K := by
  unfold SM.ap
  split
  · exact ⟨h, rfl⟩
  · rename_i ho
    split
    · exact ⟨h, rfl⟩
    · rename_i hl
      split
      · exact ⟨h, rfl⟩
      · rename_i hn
        refine ⟨?_, rfl⟩
        have hla := apw_la s.D (3 + tks s.K + tks s.W) (fun i => l.getD i 0) l.length (tk l.length)
        have e0 : fl (fun i => l.getD i 0) l.length = l := by have := fl_getD l; simp only [Nat.zero_add] at this; exact this
        rcases apw_06 s.D (3 + tks s.K + tks s.W) (fun i => l.getD i 0) l.length (tk l.length) (by omega) with e | e
        · have e1 : apW (apx s l).2 s.W l = s.W ++ [l] := if_pos e
          have e2 : cmO (apx s l).2 = false := by unfold apx; rw [e]; decide
          have ht : tks (s.W ++ [l]) = tks s.W + tk l.length := by rw [tks_app]; rfl
          refine ⟨?_, h.k, ?_, ?_⟩
          · show 3 + tks s.K + tks (apW (apx s l).2 s.W l) ≤ (apx s l).1.n
            rw [e1, ht]
            unfold apx
            rw [hla.2.1]
            omega
          · show ∀ x ∈ apW (apx s l).2 s.W l, x.length ≤ 200
            rw [e1]
            intro x hx
            rcases List.mem_append.1 hx with h1 | h1
            · exact h.w x h1
            · rw [List.mem_singleton.1 h1]; omega
          · intro _ hd
            show stl (apx s l).1 (3 + tks s.K) (apW (apx s l).2 s.W l)
            rw [e1]
            have hd0 : s.D.dn = false := by
              cases hq : s.D.dn with
              | false => rfl
              | true => rw [apw_down hq] at e; cases e
            obtain ⟨_, hc⟩ := apw_ok e hd0
            have hn' : (apx s l).1.n = s.D.n := hla.2.1
            refine stl_app (stl_congr hn' (h.s (by cases hq : s.o with | false => rfl | true => rw [hq] at ho; exact absurd rfl ho) hd0) (fun k h1 h2 => ?_)) (fun j hj => ?_)
            · show DM.cur (apw _ _ _ _ _).1 k = _
              rw [hc k, if_neg (by omega)]
            · refine ⟨by rw [hn']; omega, ?_⟩
              show DM.cur (apw _ _ _ _ _).1 _ = _
              rw [hc, if_pos (by omega), show 3 + tks s.K + tks s.W + j - (3 + tks s.K + tks s.W) = j by omega]
        · have e1 : apW (apx s l).2 s.W l = s.W := if_neg (by unfold apx; rw [e]; decide)
          have e2 : cmO (apx s l).2 = true := by unfold apx; rw [e]; decide
          refine ⟨?_, h.k, ?_, ?_⟩
          · show 3 + tks s.K + tks (apW (apx s l).2 s.W l) ≤ (apx s l).1.n
            rw [e1]
            unfold apx
            rw [hla.2.1]
            exact h.n
          · show ∀ x ∈ apW (apx s l).2 s.W l, x.length ≤ 200
            rw [e1]
            exact h.w
          · intro ho2
            have ho2 : cmO (apx s l).2 = false := ho2
            rw [e2] at ho2
            cases ho2
theorem SM.co_ok {s : SM} (h : s.ok) : s.co.ok := by
  unfold SM.co
  split
  · exact h
  · split
    · exact h
    · obtain ⟨g1, g2⟩ := cm_06 s.D (s.K ++ s.W) (by have := h.n; omega)
      rcases g1 with e | e
      · have e1 : cmK (cm s.D (s.K ++ s.W)).2 s.K s.W = s.K ++ s.W := if_pos e
        have e2 : cmW (cm s.D (s.K ++ s.W)).2 s.W = [] := if_pos e
        rw [e1, e2]
        refine ⟨?_, ?_, fun l hl => by simp at hl, fun _ _ => trivial⟩
        · show 3 + tks (s.K ++ s.W) + 0 ≤ DM.n _
          rw [g2, tks_app]
          have := h.n
          omega
        · intro l hl
          rcases List.mem_append.1 hl with h1 | h1
          · exact h.k l h1
          · exact h.w l h1
      · have e1 : cmK (cm s.D (s.K ++ s.W)).2 s.K s.W = s.K := if_neg (by rw [e]; decide)
        have e2 : cmW (cm s.D (s.K ++ s.W)).2 s.W = s.W := if_neg (by rw [e]; decide)
        have e3 : cmO (cm s.D (s.K ++ s.W)).2 = true := by rw [e]; decide
        rw [e1, e2, e3]
        refine ⟨?_, h.k, h.w, fun ho => by cases ho⟩
        show 3 + tks s.K + tks s.W ≤ DM.n _
        rw [g2]
        exact h.n
end Go.Proofs.Ytjgpopjpmfkfmaa
