/- Layer 13: the law of what a crash keeps. -/
import Derived.Test.YtmifmgnlfjahmaaD13X
namespace Go.Proofs.Ytmifmgnlfjahmaa
open Go.RowKit Go.Maps
attribute [local go_sem ↓] Go.wp_at_zero Go.wp_at_succ

theorem infoBo : (Try.prog.info? 4).map (fun i => (i.zero, i.size, i.bytes)) = some (some (.bool false), 1, 1) := by kernel_rfl
/-- Truths that are made. -/
def oB (k : Nat) : Obj := .cells (madeCells #[.bool false] k) 4
theorem run_mkB (w : World) (k : Nat) (hk : k ≤ 4096) : (Instr.makeSlice 34 (.int .i64 (k : Int)) (.int .i64 (k : Int))).run Try.prog w = .ok (.slice (some ⟨w.heap.size, 0, none⟩) k k) (w.alloc (oB k)) := by
  obtain ⟨i0, hi, hz0, hz1, hz2⟩ := info_parts infoBo
  have hr := run_make (P := Try.prog) w 34 4 i0 (.bool false) Try.underlying34 hi hz0 .i64 .i64 k k (by omega) (by omega) (by rw [hz2]; omega) (by omega)
  rw [hz1, Nat.mul_one] at hr
  exact hr
theorem wpList_mkB {w : World} {ops : Array Oper} {rest : List Oper} {o : Oper} {a : Act} {Q : Exit → Act → World → Prop} (hgd : o.guard = none) (l c : Operand) (hop : o.op = Op.makeSlice 34 l c) {k : Nat} (hl : a.eval l = .int .i64 (k : Int)) (hc : a.eval c = .int .i64 (k : Int)) (hk : k ≤ 4096)
    (hK : ∀ w', Below w.heap.size w w' → w'.heap.size = w.heap.size + 1 → (∀ j, j < k → w'.cell? ⟨w.heap.size, j, none⟩ = some (.bool false) ∧ w'.frozen? ⟨w.heap.size, j, none⟩ = false) → wpList Try.prog ops Q rest (a.put o.dst (.slice (some ⟨w.heap.size, 0, none⟩) k k)) w') : wpList Try.prog ops Q (o :: rest) a w := by
  refine wpList_plain hgd fun K' hK' => ?_
  have hrun := run_mkB w k hk
  unfold Oper.wp
  simp only [execOp, hop, hl, hc, hrun, Sem.run_bind, Sem.run_pure, Result.andThen_ok]
  have hh : (w.alloc (oB k)).heap[w.heap.size]? = some (oB k) := heap_alloc_new w _
  refine hK' _ _ (hK _ (K.alloc (Below.refl _ _) _) (by simp) (fun j hj => ⟨?_, ?_⟩))
  · have hm : (madeCells #[.bool false] k)[j]? = some (.bool false) := by simp [madeCells, hj, Nat.mod_one]
    unfold World.cell?
    simp only [hh]
    exact hm
  · unfold World.frozen?
    simp only [hh]
    show (decide (0 ≤ j) && decide (j < 0)) = false
    simp
theorem wpList_alloc41 {w : World} {ops : Array Oper} {rest : List Oper} {o : Oper} {a : Act} {Q : Exit → Act → World → Prop} (hgd : o.guard = none) (hop : o.op = Op.alloc 56)
    (hK : ∀ w', Below w.heap.size w w' → w'.heap.size = w.heap.size + 1 → (∀ j, j < 41 → w'.cell? ⟨w.heap.size, j, none⟩ = some (.int .u8 0) ∧ w'.frozen? ⟨w.heap.size, j, none⟩ = false) → wpList Try.prog ops Q rest (a.put o.dst (pp w.heap.size)) w') : wpList Try.prog ops Q (o :: rest) a w := by
  refine wpList_plain hgd fun K' hK' => ?_
  unfold Oper.wp
  have hrun : (execOp a.eval o).run Try.prog w = .ok (.value (pp w.heap.size)) (w.alloc (.cells (cells8 (List.replicate 41 0)).toArray 56)) := by
    unfold execOp
    simp [hop, Instr.alloc, newVar, newRow, Result.andThen, Value.cells]
    rfl
  rw [hrun]
  have hh : (w.alloc (.cells (cells8 (List.replicate 41 0)).toArray 56)).heap[w.heap.size]? = some (.cells (cells8 (List.replicate 41 0)).toArray 56) := heap_alloc_new w _
  refine hK' _ _ (hK _ (K.alloc (Below.refl _ _) _) (by simp) (fun j hj => ⟨?_, ?_⟩))
  · unfold World.cell?
    simp only [hh]
    rw [List.getElem?_toArray, cells8_at _ j (by simpa using hj), List.getD_eq_getElem?_getD, List.getElem?_replicate, if_pos hj]
    rfl
  · unfold World.frozen?
    simp only [hh]
    simp
/-- A row of noughts with one byte put at its end. -/
theorem ba_zv (w : World) (v : Nat) (hv : v < 256) : BA ((w.alloc o64).setCell ⟨w.heap.size, 63, none⟩ (.int .u8 (v : Int))) (some ⟨w.heap.size, 0, none⟩) 64 (fun i => (zv v).getD i 0) := by
  refine ⟨fun i => getD_lt (zv_sec hv).2 i, Or.inr ⟨w.heap.size, 0, rfl, ⟨fun i hi => ?_⟩⟩⟩
  have h0 := ((ba64 w).at_.resolve_left (by omega))
  obtain ⟨b, o, e, hr⟩ := h0
  cases e
  rw [Nat.zero_add]
  by_cases e : i = 63
  · subst e
    have := hr.c 63 (by omega)
    rw [Nat.zero_add] at this
    rw [World.cell?_setCell_same _ _ _ this]
    simp [zv, z64]
  · have := hr.c i hi
    rw [Nat.zero_add] at this
    rw [World.cell?_setCell_other _ _ _ _ (fun e2 => e (congrArg Addr.off e2).symm), this]
    have : (zv v).getD i 0 = 0 := by
      unfold zv
      rw [List.getD_eq_getElem?_getD, List.getElem?_set_ne (Ne.symm e), z64, List.getElem?_replicate, if_pos hi]
      rfl
    rw [this]
theorem fl_zv (v : Nat) : fl (fun i => (zv v).getD i 0) 64 = zv v := fl_of (by simp [zv, z64])
set_option maxRecDepth 100000 in
set_option maxHeartbeats 16000000 in
theorem diskKeeps_any {u : Nat} (hu : u < 256) {x : Option Addr} {m c : Nat} {f : Nat → Nat} {y : Nat} {w : World} (hb : BA w x m f) :
    Calls Try.prog 7 #[.int .u8 (u : Int), .slice x m c, .int .u8 (y : Int)] w (OkT w) := by
  have HBA := hide hb
  obtain ⟨k, hk⟩ : ∃ k : Nat, k = 1 + u % 40 := ⟨_, rfl⟩
  clear hb
  by_cases hm60 : m ≤ 60
  · have hmd : decide ((60 : Int) < (m : Int)) = false := decide_eq_false (by omega)
    go_enter Try.func7, Try.ntmps7
    go_upto_region 4 with (go_at_call 8; refine Calls.mono (awake_any _) ?_; rintro e W0 ⟨rfl, hB0⟩; have HB0 := hide hB0; clear hB0)
    rw [show (1 + (u : Int) % 40) = (k : Int) by omega]
    have HKu : Hid (0 < k ∧ k ≤ 40) := ⟨by omega, by omega⟩
    have hk40 : k ≤ 4096 := by omega
    clear hk hu
    go_wp2_with (first
      | (go_at_call 10; refine Calls.mono (new_any (n := k) (by have := HKu.out; omega) W0) ?_; rintro e W1 ⟨b, lb, mb, rfl, hD, h1, h2, h3, hB⟩; have HR := hide (FzR.mk hD h1 h2 h3 hB); clear hD h1 h2 h3 hB)
      | (go_at_call 10; refine Calls.mono (new_any (n := k) (by have := HKu.out; omega) _) ?_; rintro e W2 ⟨b2, lb2, mb2, rfl, hD, h1, h2, h3, hB⟩; have HR2 := hide (FzR.mk hD h1 h2 h3 hB); clear hD h1 h2 h3 hB)
      | (refine wpList_mkB rfl _ _ rfl (by rfl) (by rfl) hk40 ?_; intro W3 hB3 hs3 hc3; have H3 := hide (And.intro hB3 (And.intro hs3 hc3)); clear hB3 hs3 hc3)
      | (refine wpList_alloc41 rfl rfl ?_; intro W4 hB4 hs4 hc4; have H4 := hide (And.intro hB4 (And.intro hs4 hc4)); clear hB4 hs4 hc4))
    have HKe : Hid (KeR W0 W4 b lb mb b2 lb2 mb2 W2.heap.size W3.heap.size k (ke k f y 0).D (ke k f y 0).D (fun _ => false) (ke k f y 0).l) := by
      have hs3 := H3.out.2.1
      have hs4 := H4.out.2.1
      have hB34 : Below W2.heap.size W2 W4 := K.call H3.out.1 H4.out.1
      have hf1 := ((HR.out.grow HR2.out.k).grow hB34)
      have hg0 := HR2.out.grow hB34
      have hk1 := HR.out.k.size
      have hk2 := HR2.out.k.size
      refine ⟨hf1, ⟨hg0.d, Nat.le_trans hk1 hg0.b, Nat.le_trans hk1 hg0.l, Nat.le_trans hk1 hg0.m, hf1.k⟩, fun q hq => ?_, ?_, ?_, ?_, ?_, by omega, by omega, by omega, by omega, by omega, fun j hj => later H4.out.1 (H3.out.2.2 j hj).1, fun j hj => (H4.out.1.frozen (p := ⟨W2.heap.size, j, none⟩) (by show W2.heap.size < _; omega)).trans (H3.out.2.2 j hj).2, fun j hj => (H4.out.2.2 j hj).1, fun j hj => (H4.out.2.2 j hj).2⟩
      · have h1 := (HR.out.lts hq).1
        cases hx : X3 b2 lb2 mb2 q with
        | false => rfl
        | true => have := (HR2.out.lts hx).2; omega
      · exact HR.out.out (by omega)
      · exact HR2.out.out (Nat.le_refl _)
      · exact HR.out.out (by omega)
      · exact HR2.out.out (by omega)
    obtain ⟨gk, hgk⟩ : ∃ gk, gk = W2.heap.size := ⟨_, rfl⟩
    obtain ⟨gl, hgl⟩ : ∃ gl, gl = W3.heap.size := ⟨_, rfl⟩
    rw [← hgk, ← hgl] at HKe ⊢
    have HBm := hide (HBA.out.keep HB0.out)
    have HM := hide hm60
    clear hgk hgl HR HR2 H3 H4 HBA
    go_loopg [14] m (fun g' s14 wr => ∃ i : Nat, g' = m - i ∧ i ≤ m ∧ s14 = .int .i64 (i : Int) ∧ KeR W0 wr b lb mb b2 lb2 mb2 gk gl k (ke k f y i).D (ke k f y i).D (fun _ => false) (ke k f y i).l)
    case atStart => exact ⟨0, rfl, Nat.zero_le _, rfl, HKe.out⟩
    case round =>
      clear HKe
      obtain ⟨i, rfl, hi, rfl, hR⟩ := hrel
      have HR := hide hR
      clear hR
      have hm60 := HM.out
      by_cases hlt : i < m
      · obtain ⟨pb, po, rfl, hr⟩ := HBm.out.at_.resolve_left (by omega)
        have hlt' : (i : Int) < (m : Int) := by omega
        have hci := later HR.out.f.k (hr.c i hlt)
        have hk0 := HKu.out.1
        have hkz : ¬ k = 0 := by omega
        have hmk := run_mk64
        have HF : Hid (f i < 256) := HBm.out.lt i
        have hw : wrap64 ((f i : Nat) : Int) = ((f i : Nat) : Int) := by have := HF.out; unfold wrap64; omega
        go_upto_region 13 with fail
        obtain ⟨p, hp⟩ : ∃ p, p = f i % k := ⟨_, rfl⟩
        rw [show ((f i : Nat) : Int) % (k : Int) = (p : Int) by rw [hp]; simp]
        have HP : Hid (p = f i % k) := hp
        have hpk : p < k := by rw [hp]; exact Nat.mod_lt _ hk0
        have hp41 : (p : Int) < 41 := by have := HKu.out.2; omega
        clear hp hw
        refine wp_let (fun X hX => ?_)
        obtain ⟨g, hg⟩ : ∃ g, g = wr.heap.size := ⟨_, rfl⟩
        rw [← hg]
        have HX := hide hX
        have HG := hide hg
        have c63 : X.cell? ⟨g, 63, none⟩ = some (.int .u8 0) := by
          rw [hX, hg]
          obtain ⟨b', o', e, hr'⟩ := (ba64 wr).at_.resolve_left (by omega)
          cases e
          exact hr'.c 63 (by omega)
        have z63 : X.frozen? ⟨g, 63, none⟩ = false := by
          have hh : X.heap[g]? = some o64 := by rw [hX, hg]; exact heap_alloc_new wr _
          unfold World.frozen?
          simp only [hh]
          show (decide (0 ≤ 63) && decide (63 < 0)) = false
          rfl
        clear hX hg hci hr
        go_upto_region 14 with fail
        obtain ⟨v, hv⟩ : ∃ v, v = (y + i) % 256 := ⟨_, rfl⟩
        have hve : ((y : Int) + (i : Int)) % 256 = (v : Int) := by omega
        rw [hve]
        have HV : Hid (v = (y + i) % 256 ∧ v < 256) := ⟨hv, by omega⟩
        refine wp_let (fun X2 hX2 => ?_)
        have hB2 : Below wr.heap.size wr X2 := by
          rw [hX2, HX.out]
          exact K.set (K.alloc (Below.refl _ _) _) (by rw [HG.out]; exact Nat.le_refl _) _
        have HBz : Hid (BA X2 (some ⟨g, 0, none⟩) 64 (fun i => (zv v).getD i 0)) := by
          show BA _ _ _ _
          rw [hX2, HX.out, HG.out]
          exact ba_zv wr v HV.out.2
        have HR2 := hide (KeR.grow HR.out hB2)
        have cl := HR2.out.lc p (by omega)
        have zl := HR2.out.lz p (by omega)
        have HGx : Hid (X3 b lb mb g = false ∧ X3 b2 lb2 mb2 g = false ∧ g ≠ gl) := ⟨HR.out.f.out (by rw [HG.out]; exact Nat.le_refl _), HR.out.g.out (by rw [HG.out]; exact Nat.le_refl _), fun e => by have := HR.out.ll; have := HG.out; omega⟩
        clear hX2 hB2 hv c63 z63 HX HR
        go_upto_region 15 with fail
        rw [hve]
        refine wp_let (fun X4 hX4 => ?_)
        have HR4 : Hid (KeR W0 X4 b lb mb b2 lb2 mb2 gk gl k (ke k f y i).D (ke k f y i).D (fun _ => false) (upd (ke k f y i).l p v)) := by
          show KeR _ _ _ _ _ _ _ _ _ _ _ _ _ _ _
          rw [hX4]
          exact KeR.setl HR2.out (by omega) v
        have HBz4 : Hid (BA X4 (some ⟨g, 0, none⟩) 64 (fun i => (zv v).getD i 0)) := by
          refine ⟨HBz.out.lt, HBz.out.at_.imp id fun ⟨b', o', e, hr'⟩ => ⟨b', o', e, ⟨fun q hq => ?_⟩⟩⟩
          cases e
          rw [hX4, World.cell?_setCell_other _ _ _ _ (fun e2 => HGx.out.2.2 (congrArg Addr.block e2).symm)]
          exact hr'.c q hq
        have HEq : Hid ((ke k f y (i + 1)).D = (ke k f y i).D.wr (p : Int) (zv v) ∧ (ke k f y (i + 1)).l = upd (ke k f y i).l p v) := by
          rw [HP.out, HV.out.1]
          exact ⟨rfl, rfl⟩
        clear hX4 cl zl HR2 HBz
        have HC1 := hide (write_any HR4.out.f.d (p : Int) (c := 64) HBz4.out (fun _ q hq => by cases hq; exact HGx.out.1))
        rw [fl_zv] at HC1
        go_wp2_with (first
          | (go_at_call 15; refine Calls.mono HC2.out ?_; rintro e W6 ⟨rfl, hD6, hK6⟩; have HR6 := hide (HR5.out.call2 hD6 hK6); clear hD6 hK6)
          | (go_at_call 15; refine Calls.mono HC1.out ?_; rintro e W5 ⟨rfl, hD5, hK5⟩; have HR5 := hide (HR4.out.call1 hD5 hK5); have HBz5 := hide (HBz4.out.kp (fun q hq => by cases hq; exact HGx.out.1) hK5); have HC2 := hide (write_any HR5.out.g.d (p : Int) (c := 64) HBz5.out (fun _ q hq => by cases hq; exact HGx.out.2.1)); rw [fl_zv] at HC2; clear hD5 hK5 HC1))
        go_roundg (m - (i + 1))
        case measure => omega
        case rel => exact ⟨i + 1, rfl, by omega, by simp, by rw [HEq.out.1, HEq.out.2]; exact HR6.out⟩
      · obtain rfl : i = m := by omega
        have hKO := ke_ok HKu.out.1 f y i
        obtain ⟨KE, hKE⟩ : ∃ KE, KE = ke k f y i := ⟨_, rfl⟩
        rw [← hKE] at HR hKO
        have HKO := hide hKO
        have hnlt : ¬ (i : Int) < (i : Int) := by omega
        clear hKE hKO hlt hi
        go_wp2_with fail
        go_loopg [17] k (fun g' s17 wr => ∃ j : Nat, g' = k - j ∧ j ≤ k ∧ s17 = .int .i64 (j : Int) ∧ KeR W0 wr b lb mb b2 lb2 mb2 gk gl k KE.D KE.D (fun q => decide (q < j)) KE.l)
        case atStart => exact ⟨0, rfl, Nat.zero_le _, rfl, HR.out⟩
        case round =>
          clear HR
          obtain ⟨j, rfl, hj, rfl, hR⟩ := hrel
          have HR := hide hR
          clear hR
          by_cases hltj : j < k
          · have hltj' : (j : Int) < (k : Int) := by omega
            have ck := HR.out.kc j hltj
            have zk := HR.out.kz j hltj
            have hk41 := HKu.out.2
            have HR2 : Hid (KeR W0 (wr.setCell ⟨gk, j, none⟩ (.bool true)) b lb mb b2 lb2 mb2 gk gl k KE.D KE.D (fun q => decide (q < j + 1)) KE.l) := by
              have h := HR.out.setk hltj
              have e : upd (fun q => decide (q < j)) j true = fun q => decide (q < j + 1) := by
                funext q
                unfold upd
                by_cases e : q = j
                · subst e; simp
                · rw [if_neg e]
                  show decide (q < j) = decide (q < j + 1)
                  exact decide_eq_decide.2 ⟨fun h => by omega, fun h => by omega⟩
              rw [e] at h
              exact h
            go_wp2_with fail
            go_roundg (k - (j + 1))
            case measure => omega
            case rel => exact ⟨j + 1, rfl, by omega, by simp, HR2.out⟩
          · obtain rfl : j = k := by omega
            have hkb : Kb wr (some ⟨gk, 0, none⟩) (List.replicate j true) := Or.inr ⟨gk, 0, rfl, fun q v hv => by
              rw [List.getElem?_replicate] at hv
              split at hv
              · rename_i hq
                cases hv
                rw [Nat.zero_add, HR.out.kc q hq]
                simp [hq]
              · cases hv⟩
            have HC1 := hide (crash_any (c := j) HR.out.f.d hkb (fun _ q hq => by cases hq; exact HR.out.k1) (-1) 0)
            rw [List.length_replicate] at HC1
            have hnltj : ¬ (j : Int) < (j : Int) := by omega
            have HE1 := hide (fun q => ke_keeps HKO.out HR.out.f.d.ok q)
            have HE2 := hide (fun q => ke_none HKO.out q)
            clear hkb hltj hj
            go_wp2_with (first
              | (go_at_call 17; refine Calls.mono HC2.out ?_; rintro e W6 ⟨⟨v2, rfl⟩, hD6, hK6⟩; have HR6 := hide (HR5.out.call2 hD6 hK6); clear hD6 hK6)
              | (go_at_call 17; refine Calls.mono HC1.out ?_; rintro e W5 ⟨⟨v1, rfl⟩, hD5, hK5⟩; have HR5 := hide (HR.out.call1 hD5 hK5); have HC2 := hide (crash_any (KL := []) (c := 0) (z := none) HR5.out.g.d (Or.inl rfl) (fun h => absurd rfl h) (-1) 0); clear hD5 hK5 HC1))
            have HN : Hid (KE.D.n = j) := HKO.out.n
            clear HR HR5 HC2
            go_loopg [18] j (fun g' s18 wr => ∃ q : Nat, g' = j - q ∧ q ≤ j ∧ s18 = .int .i64 (q : Int) ∧ KeR W0 wr b lb mb b2 lb2 mb2 gk gl j (KE.D.cr (List.replicate j true) (-1) 0) (KE.D.cr [] (-1) 0) (fun q => decide (q < j)) KE.l)
            case atStart => exact ⟨0, rfl, Nat.zero_le _, rfl, HR6.out⟩
            case round =>
              clear HR6
              obtain ⟨q, rfl, hq, rfl, hR⟩ := hrel
              have HR := hide hR
              clear hR
              by_cases hltq : q < j
              · have hltq' : (q : Int) < (j : Int) := by omega
                have hk41 := HKu.out.2
                have HRd1 := hide (rd_last (D := KE.D.cr (List.replicate j true) (-1) 0) rfl rfl (i := q) (by show q < KE.D.n; rw [HN.out]; exact hltq))
                have HRd2 := hide (rd_last (D := KE.D.cr [] (-1) 0) rfl rfl (i := q) (by show q < KE.D.n; rw [HN.out]; exact hltq))
                have HS1 : Hid (sec (zv (KE.l q))) := zv_sec (HKO.out.v q)
                have HC1 := hide (read_any HR.out.f.d (q : Int))
                rw [HRd1.out.1, HRd1.out.2, HE1.out q] at HC1
                go_upto_region 28 with (first
                  | (go_at_call 18; refine Calls.mono HC2.out ?_; rintro e W9 ⟨vr2, rfl, hN2, hB9⟩; obtain ⟨g2, rfl, _, _, hg3⟩ := hN2.resolve_left (fun h => by cases h.1); have HN2 := hide hg3; have HB9 := hide hB9; rw [show z64.length = 64 from rfl]; clear hg3 hN2 hB9)
                  | (go_at_call 18; refine Calls.mono HC1.out ?_; rintro e W8 ⟨vr, rfl, hN1, hB8⟩; obtain ⟨g, rfl, _, _, hg3⟩ := hN1.resolve_left (fun h => by have := HS1.out.1; rw [h.1] at this; cases this); have HN1 := hide hg3; have HB8 := hide hB8; have HC2 := hide (read_any (HR.out.g.grow hB8).d (q : Int)); rw [HRd2.out.1, HRd2.out.2, HE2.out q] at HC2; rw [HS1.out.1]; clear hg3 hN1 hB8 HC1))
                have hq41 : (q : Int) < 41 := by omega
                have hB89 := K.call HB8.out HB9.out
                have HGa : Hid (W9.drew.cell? ⟨g, 63, none⟩ = some (.int .u8 ((KE.l q : Nat) : Int))) := by
                  have h1 := later HB9.out (HN1.out 63 (.int .u8 ((KE.l q : Nat) : Int)) (by rw [cells8_at _ 63 (by rw [HS1.out.1]; omega)]; simp [zv, z64]))
                  exact h1
                have HGl : Hid (W9.drew.cell? ⟨gl, q, none⟩ = some (.int .u8 ((KE.l q : Nat) : Int))) := (HR.out.grow hB89).lc q (by omega)
                have HBa : Hid (BA (W9.drew.alloc o64) (some ⟨g2, 0, none⟩) 64 (fun i => z64.getD i 0)) := (ba_sec HN2.out z64_sec).keep (K.alloc (K.drew (Below.refl _ W9)) o64)
                have HSm : Hid (decide (fl (fun i => z64.getD i 0) 64 = fl (fun _ => 0) 64) = true) := decide_eq_true (by rw [fl_of z64_sec.1, fl0_64])
                refine wp_region_noPanic ?_
                refine wp_region_held_drew (S := fun w' => w'.cell? ⟨g, 63, none⟩ = some (.int .u8 ((KE.l q : Nat) : Int)) ∧ w'.cell? ⟨gl, q, none⟩ = some (.int .u8 ((KE.l q : Nat) : Int))) (by kernel_rfl) ⟨HGa.out, HGl.out⟩ (fun hS0 => ?_)
                refine wpAnyH_take (i := 0) (v := .slice (some ⟨g, 0, none⟩) 64 64) rfl (by kernel_rfl) (by kernel_rfl) (by kernel_rfl) (fun _ _ _ h => h) (Or.inl ⟨by rfl, fun w' _ => by go_simp⟩) hS0 ?_
                simp only [Act.put, List.getElem_toArray, List.getElem_cons_zero, List.setIfInBounds_toArray, List.set_cons_zero, List.set_cons_succ]
                refine wpAnyH_take (i := 1) (v := .int .i64 64) rfl (by kernel_rfl) (by kernel_rfl) (by kernel_rfl) (fun _ _ _ h => h) (Or.inl ⟨by rfl, fun w' _ => by go_simp⟩) hS0 ?_
                simp only [Act.put, List.getElem_toArray, List.getElem_cons_zero, List.getElem_cons_succ, List.setIfInBounds_toArray, List.set_cons_zero, List.set_cons_succ]
                refine wpAnyH_take (i := 2) (v := .bool false) rfl (by kernel_rfl) (by kernel_rfl) (by kernel_rfl) (fun _ _ _ h => h) (Or.inl ⟨by rfl, fun w' _ => by go_simp⟩) hS0 ?_
                simp only [Act.put, List.getElem_toArray, List.getElem_cons_zero, List.getElem_cons_succ, List.setIfInBounds_toArray, List.set_cons_zero, List.set_cons_succ]
                refine wpAnyH_take (i := 3) (v := .bool false) rfl (by kernel_rfl) (by kernel_rfl) (by kernel_rfl) (fun _ _ _ h => h) (Or.inl ⟨by rfl, fun w' _ => by go_simp⟩) hS0 ?_
                simp only [Act.put, List.getElem_toArray, List.getElem_cons_zero, List.getElem_cons_succ, List.setIfInBounds_toArray, List.set_cons_zero, List.set_cons_succ]
                refine wpAnyH_take (i := 4) (v := .slice (some ⟨g, 0, none⟩) 64 64) rfl (by kernel_rfl) (by kernel_rfl) (by kernel_rfl) (fun _ _ _ h => h) (Or.inl ⟨by rfl, fun w' _ => by go_simp⟩) hS0 ?_
                simp only [Act.put, List.getElem_toArray, List.getElem_cons_zero, List.getElem_cons_succ, List.setIfInBounds_toArray, List.set_cons_zero, List.set_cons_succ]
                refine wpAnyH_take (i := 5) (v := .pointer (some ⟨g, 63, none⟩)) rfl (by kernel_rfl) (by kernel_rfl) (by kernel_rfl) (fun _ _ _ h => h) (Or.inl ⟨by rfl, fun w' _ => by go_simp⟩) hS0 ?_
                simp only [Act.put, List.getElem_toArray, List.getElem_cons_zero, List.getElem_cons_succ, List.setIfInBounds_toArray, List.set_cons_zero, List.set_cons_succ]
                refine wpAnyH_take (i := 6) (v := .int .u8 ((KE.l q : Nat) : Int)) rfl (by kernel_rfl) (by kernel_rfl) (by kernel_rfl) (fun _ _ _ h => h) (Or.inl ⟨by rfl, fun w' hS => by have hc := hS.1; go_simp⟩) hS0 ?_
                simp only [Act.put, List.getElem_toArray, List.getElem_cons_zero, List.getElem_cons_succ, List.setIfInBounds_toArray, List.set_cons_zero, List.set_cons_succ]
                refine wpAnyH_take (i := 7) (v := .int .i64 (q : Int)) rfl (by kernel_rfl) (by kernel_rfl) (by kernel_rfl) (fun _ _ _ h => h) (Or.inl ⟨by rfl, fun w' _ => by go_simp⟩) hS0 ?_
                simp only [Act.put, List.getElem_toArray, List.getElem_cons_zero, List.getElem_cons_succ, List.setIfInBounds_toArray, List.set_cons_zero, List.set_cons_succ]
                refine wpAnyH_take (i := 8) (v := .pointer (some ⟨gl, q, none⟩)) rfl (by kernel_rfl) (by kernel_rfl) (by kernel_rfl) (fun _ _ _ h => h) (Or.inl ⟨by rfl, fun w' _ => by go_simp⟩) hS0 ?_
                simp only [Act.put, List.getElem_toArray, List.getElem_cons_zero, List.getElem_cons_succ, List.setIfInBounds_toArray, List.set_cons_zero, List.set_cons_succ]
                refine wpAnyH_take (i := 9) (v := .int .u8 ((KE.l q : Nat) : Int)) rfl (by kernel_rfl) (by kernel_rfl) (by kernel_rfl) (fun _ _ _ h => h) (Or.inl ⟨by rfl, fun w' hS => by have hc := hS.2; go_simp⟩) hS0 ?_
                simp only [Act.put, List.getElem_toArray, List.getElem_cons_zero, List.getElem_cons_succ, List.setIfInBounds_toArray, List.set_cons_zero, List.set_cons_succ]
                refine wpAnyH_take (i := 10) (v := .bool false) rfl (by kernel_rfl) (by kernel_rfl) (by kernel_rfl) (fun _ _ _ h => h) (Or.inl ⟨by rfl, fun w' _ => by go_simp⟩) hS0 ?_
                simp only [Act.put, List.getElem_toArray, List.getElem_cons_zero, List.getElem_cons_succ, List.setIfInBounds_toArray, List.set_cons_zero, List.set_cons_succ]
                refine wpAnyH_take (i := 11) (v := .bool false) rfl (by kernel_rfl) (by kernel_rfl) (by kernel_rfl) (fun _ _ _ h => h) (Or.inl ⟨by rfl, fun w' _ => by go_simp⟩) hS0 ?_
                simp only [Act.put, List.getElem_toArray, List.getElem_cons_zero, List.getElem_cons_succ, List.setIfInBounds_toArray, List.set_cons_zero, List.set_cons_succ]
                refine wpAnyH_take (i := 12) (v := .bool false) rfl (by kernel_rfl) (by kernel_rfl) (by kernel_rfl) (fun _ _ _ h => h) (Or.inl ⟨by rfl, fun w' _ => by go_simp⟩) hS0 ?_
                simp only [Act.put, List.getElem_toArray, List.getElem_cons_zero, List.getElem_cons_succ, List.setIfInBounds_toArray, List.set_cons_zero, List.set_cons_succ]
                refine wpAnyH_take (i := 13) (v := .slice (some ⟨g2, 0, none⟩) 64 64) rfl (by kernel_rfl) (by kernel_rfl) (by kernel_rfl) (fun _ _ _ h => h) (Or.inl ⟨by rfl, fun w' _ => by go_simp⟩) hS0 ?_
                simp only [Act.put, List.getElem_toArray, List.getElem_cons_zero, List.getElem_cons_succ, List.setIfInBounds_toArray, List.set_cons_zero, List.set_cons_succ]
                refine wpAnyH_ready (rs := [14]) (by kernel_rfl) (by simp) (AllReadyH.cons rfl (fun Kt hK => ?_) AllReadyH.nil)
                refine wanted_pos rfl ?_
                refine wp_mk64 _ _ rfl (by rfl) (by rfl) (hK.out _ _ ⟨later_a hS0.1, later_a hS0.2⟩ (fun hS1 => ?_))
                clear hK Kt
                simp only [Act.put, List.getElem_toArray, List.getElem_cons_zero, List.getElem_cons_succ, List.setIfInBounds_toArray, List.set_cons_zero, List.set_cons_succ]
                refine wpAnyH_ready (rs := [15]) (by kernel_rfl) (by simp) (AllReadyH.cons rfl (fun Kt hK => ?_) AllReadyH.nil)
                refine wanted_pos rfl ?_
                refine wp_call (R := fun r w' => r = .bool true ∧ Below (W9.drew.alloc o64).heap.size (W9.drew.alloc o64) w') (vs := #[.slice (some ⟨g2, 0, none⟩) 64 64, .slice (some ⟨W9.drew.heap.size, 0, none⟩) 64 64]) rfl (by simp only [List.map_toArray, List.map_cons, List.map_nil]; rfl) (by go_simp) (Calls.mono (same13 HBa.out (ba64 _) (by omega)) (fun e w' ⟨he, hb⟩ => ⟨_, he, by rw [HSm.out], hb⟩)) (fun r W10 ⟨hr, hb10⟩ => ?_)
                subst hr
                refine hK.out _ _ ⟨later hb10 hS1.1, later hb10 hS1.2⟩ (fun hS2 => ?_)
                clear hK Kt
                simp only [Act.put, List.getElem_toArray, List.getElem_cons_zero, List.getElem_cons_succ, List.setIfInBounds_toArray, List.set_cons_zero, List.set_cons_succ]
                refine wpAnyH_take (i := 16) (v := .bool false) rfl (by kernel_rfl) (by kernel_rfl) (by kernel_rfl) (fun _ _ _ h => h) (Or.inl ⟨by rfl, fun w' _ => by go_simp⟩) hS2 ?_
                simp only [Act.put, List.getElem_toArray, List.getElem_cons_zero, List.getElem_cons_succ, List.setIfInBounds_toArray, List.set_cons_zero, List.set_cons_succ]
                refine wpAnyH_take (i := 17) (v := .bool false) rfl (by kernel_rfl) (by kernel_rfl) (by kernel_rfl) (fun _ _ _ h => h) (Or.inl ⟨by rfl, fun w' _ => by go_simp⟩) hS2 ?_
                simp only [Act.put, List.getElem_toArray, List.getElem_cons_zero, List.getElem_cons_succ, List.setIfInBounds_toArray, List.set_cons_zero, List.set_cons_succ]
                refine wpAnyH_done (by kernel_rfl) ?_ _
                refine NoPanic.normal ?_
                have hB10 := K.call (K.call hB89 (K.alloc (K.drew (Below.refl _ W9)) o64)) hb10
                have HR10 := hide (HR.out.grow hB10)
                clear hB10 hb10 hB89 hS0 hS1 hS2
                go_wp2_with fail
                go_roundg (j - (q + 1))
                case measure => omega
                case rel => exact ⟨q + 1, rfl, by omega, by simp, HR10.out⟩
              · obtain rfl : q = j := by omega
                go_wp2_with fail
                go_ret
                exact ⟨rfl, K.call HB0.out HR.out.f.k⟩
  · have hmd : (60 : Int) < (m : Int) := by omega
    go_enter Try.func7, Try.ntmps7
    go_wp2_with (first
      | (go_at_call 8; refine Calls.mono (awake_any w) ?_; rintro e W0 ⟨rfl, hB0⟩; have HB0 := hide hB0; clear hB0)
      | (go_at_call 8; refine Calls.mono (awake_any _) ?_; rintro e W1 ⟨rfl, hB1⟩))
    go_ret
    exact ⟨rfl, K.call HB0.out hB1⟩
end Go.Proofs.Ytmifmgnlfjahmaa
