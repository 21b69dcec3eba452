/- Layer 13: the document's Write. -/
import Derived.Test.YtjgpopjpmfkfmaaR13B
import Derived.Test.YtjgpopjpmfkfmaaVBytes
namespace Go.Proofs.Ytjgpopjpmfkfmaa
set_option maxRecDepth 100000
open Go.RowKit Go.Maps
attribute [local go_sem ↓] Go.wp_at_zero Go.wp_at_succ

/-- Bytes at the end of a row of one's own. -/
theorem run_app8 {w : World} {base : Nat} {v : Value} {n : Nat} {l : List Nat} (hown : w.ownsRow base 5 1 v n (cells8 l)) {x : Option Addr} {m c : Nat} {f : Nat → Nat} (hx : BA w x m f) (hb : n + m ≤ 1000000) (hbase : base ≤ w.heap.size) (ty : TypeId) :
    ∃ v' w', (Builtin.append_ #[38, 38] ty #[v, .slice x m c]).run Try.prog w = .ok v' w' ∧ w'.ownsRow base 5 1 v' (n + m) (cells8 (l ++ fl f m)) ∧ w.grownBy w' v.ownBlock ∧ (v'.ownBlock = v.ownBlock ∨ v'.ownBlock = some w.heap.size) := by
  obtain ⟨i0, hi, hz0, hz1, hz2⟩ := info_parts info8
  rcases hx.at_ with rfl | ⟨b, o, rfl, hr⟩
  · refine ⟨v, w, run_append_zero w base _ _ 5 i0 1 Try.underlying38 hi v n _ hown x c, ?_, World.grownBy.refl _ _, Or.inl rfl⟩
    rw [show fl f 0 = [] from rfl, List.append_nil]
    exact hown
  · obtain ⟨v', w', h1, h2, h3, _, h5⟩ := run_append_own_at (P := Try.prog) w base 38 ty 5 i0 (.int .u8 0) 1 1 Try.underlying38 hi hz0 hz1 hz2 rfl (by decide) v n _ hown ⟨b, o, none⟩ m c (cells8 (fl f m)) (by rw [cells8_len, fl_len]; omega) (fun j u hu => by
      have hj : j < m := by
        rcases Nat.lt_or_ge j m with h' | h'
        · exact h'
        · rw [List.getElem?_eq_none (by rw [cells8_len, fl_len]; exact h')] at hu; cases hu
      rw [cells8_at _ j (by rw [fl_len]; exact hj), List.getD_eq_getElem?_getD, fl_at f hj] at hu
      rw [Addr.add_mid, hr.c j hj]
      simpa using hu) (cells8_one _) (by unfold maxLen; omega) (by omega) hbase
    refine ⟨v', w', h1, ?_, h3, h5⟩
    rw [show cells8 (l ++ fl f m) = cells8 l ++ cells8 (fl f m) from List.map_append]
    exact h2
theorem wpList_app8 {w : World} {ops : Array Oper} {rest : List Oper} {o : Oper} {a : Act} {Q : Exit → Act → World → Prop} (hgd : o.guard = none) (s x : Operand) (hop : o.op = .call { callee := .builtin .append, args := #[s, x], argTypes := #[38, 38] })
    {base : Nat} {v : Value} {n : Nat} {l : List Nat} (hs : a.eval s = v) (hown : w.ownsRow base 5 1 v n (cells8 l)) {y : Option Addr} {m c : Nat} {f : Nat → Nat} (hx : a.eval x = .slice y m c) (hy : BA w y m f) (hb : n + m ≤ 1000000) (hbase : base ≤ w.heap.size)
    (hK : ∀ v' w', w'.ownsRow base 5 1 v' (n + m) (cells8 (l ++ fl f m)) → w.grownBy w' v.ownBlock → (v'.ownBlock = v.ownBlock ∨ v'.ownBlock = some w.heap.size) → wpList Try.prog ops Q rest (a.put o.dst v') w') : wpList Try.prog ops Q (o :: rest) a w := by
  refine wpList_plain hgd fun K' hK' => ?_
  obtain ⟨v', w', hr, h2, h3, h4⟩ := run_app8 (c := c) hown hy hb hbase o.type
  unfold Oper.wp execOp
  simp only [hop, resolve, invoke, builtin, Sem.run_bind, Sem.run_pure, Result.andThen_ok, List.map_toArray, List.map_cons, List.map_nil, hs, hx, hr]
  exact hK' _ _ (hK v' w' h2 h3 h4)
/-- A row of one's own as a sector that nobody writes any more. -/
theorem sl_own {w : World} {base : Nat} {v : Value} {l : List Nat} {G : Nat → Bool} {r la na : Nat} (h : w.ownsRow base 5 1 v 64 (cells8 l)) (hG : ∀ g, v.ownBlock = some g → G g = true) (hX : ∀ g, v.ownBlock = some g → X3 r la na g = false) : Sl w G r la na v l := by
  have hl : (cells8 l).length = 64 := by have := h.1; omega
  rcases h.2 with ⟨_, h0⟩ | ⟨g, cap, cur, rfl, _, _, hc, _⟩
  · cases h0
  · refine ⟨g, cap, rfl, fun j u hu => ?_, hG g rfl, hX g rfl, hc⟩
    have hj : j < (cells8 l).length := (List.getElem?_eq_some_iff.1 hu).1
    rw [hl] at hj
    rw [Nat.zero_add]
    exact (h.cellAt j (by omega)).trans hu
/-- What a call on the document's disk leaves. -/
def RwP (w : World) (r la na cl cn : Nat) (zl zn : Option Addr) (D : DM) (G : Nat → Bool) (er : Int) (e : Ending) (w' : World) : Prop := e = .returned (.int .i64 er) ∧ ∃ G', RDk w' r la na cl cn zl zn D G' ∧ Kp (X3 r la na) w w' ∧ ∀ k, G' k = true → G k = true ∨ w.heap.size ≤ k
set_option maxRecDepth 100000 in
set_option maxHeartbeats 8000000 in
theorem ref_write {w : World} {r la na cl cn : Nat} {zl zn : Option Addr} {D : DM} {G : Nat → Bool} (h : RDk w r la na cl cn zl zn D G) (i : Int) {x : Option Addr} {m c : Nat} {f : Nat → Nat} (hb : BA w x m f) (hz : 0 < m → ∀ p, x = some p → X3 r la na p.block = false) : Calls Try.prog 23 #[pp r, .int .i64 i, .slice x m c] w (RwP w r la na cl cn zl zn (D.wr i (fl f m)) G (D.wrE i m)) := by
  have HD := hide h
  have h0 := h.c0
  have h3 := h.c3
  have same : ∀ er : Int, RwP w r la na cl cn zl zn D G er (.returned (.int .i64 er)) w := fun er => ⟨rfl, G, h, Kp.refl _ _, fun k hk => Or.inl hk⟩
  have HSm := hide same
  clear same
  cases hdn : D.dn with
  | true =>
    have e1 : D.wr i (fl f m) = D := if_pos hdn
    have e2 : D.wrE i m = 6 := if_pos hdn
    rw [e1, e2]
    clear h e1 e2 hb hz
    go_enter Try.func23, Try.ntmps23
    go_wp2_with fail
    go_ret
    exact HSm.out _
  | false =>
    have hdn' : ¬ D.dn = true := by simp [hdn]
    by_cases hi : 0 ≤ i ∧ i < D.n
    · obtain ⟨k, rfl⟩ : ∃ k : Nat, i = (k : Int) := ⟨i.toNat, by omega⟩
      have hk : k < D.n := by omega
      have hk' : (k : Int) < (D.n : Int) := by omega
      have hkd : decide ((D.n : Int) ≤ (k : Int)) = false := decide_eq_false (by omega)
      have hk0 : decide ((k : Int) < 0) = false := decide_eq_false (by omega)
      by_cases hm : m = 64
      · subst hm
        have HB := hide hb
        have HZ := hide hz
        have HK := hide hk
        obtain ⟨rfl, rfl, hne⟩ := h.a (by omega)
        have HA := hide hne
        cases hmay : D.may with
        | false =>
          have e1 : D.wr k (fl f 64) = D.burn := by
            unfold DM.wr
            rw [if_neg hdn', if_pos hi, if_pos (fl_len f 64), if_neg (by simp [hmay])]
          have e2 : D.wrE k 64 = 6 := by
            unfold DM.wrE
            rw [if_neg hdn', if_pos hi, if_pos rfl, if_neg (by simp [hmay])]
          rw [e1, e2]
          clear h e1 e2 hb hdn' hi hz hne
          go_enter Try.func23, Try.ntmps23
          go_wp2_with (go_at_call 60; refine Calls.mono (ref_op HD.out hdn) ?_; rintro e W1 ⟨rfl, hD1, hK1⟩; rw [hmay])
          go_ret
          exact ⟨rfl, G, hD1, hK1, fun k hk => Or.inl hk⟩
        | true =>
          have e1 : D.wr k (fl f 64) = { D.burn with nw := upd D.burn.nw k (some (fl f 64)) } := by
            unfold DM.wr
            rw [if_neg hdn', if_pos hi, if_pos (fl_len f 64), if_pos (by simp [hmay]), burn_nw]
            rfl
          have e2 : D.wrE k 64 = 0 := by
            unfold DM.wrE
            rw [if_neg hdn', if_pos hi, if_pos rfl, if_pos (by simp [hmay])]
          have HL : Hid (sec (fl f 64)) := ⟨fl_len f 64, fl_lt hb.lt 64⟩
          rw [e1, e2]
          clear h e1 e2 hb hdn' hi hz hne
          go_enter Try.func23, Try.ntmps23
          go_upto_region 11 with (first
            | (go_at_call 60; refine Calls.mono (ref_op HD.out hdn) ?_; rintro e W1 ⟨rfl, hD1, hK1⟩; rw [hmay]; have HD1 := hide hD1; have HK1 := hide hK1; clear hD1 hK1)
            | (refine wpList_app8 (l := []) (n := 0) (base := W1.heap.size) rfl _ _ rfl (by rfl) (World.ownsRow_nil _ _ _ _) (by rfl) (HB.out.kp (HZ.out (by omega)) HK1.out) (by omega) (Nat.le_refl _) ?_; intro v W2 ho hG hat; have HO := hide ho; have HGr := hide hG; have HAt := hide hat; clear ho hG hat))
          have hD2 : RDk W2 r la na cl cn (some ⟨la, 0, none⟩) (some ⟨na, 0, none⟩) D.burn G := HD1.out.same HGr.out.size (fun q hq => HGr.out.block q (HD1.out.gl q hq) (by simp [Value.ownBlock]))
          have HD2 := hide hD2
          have hkb : k < D.burn.n := by rw [burn_n]; exact HK.out
          have d1 := hD2.c1
          rw [burn_n] at d1
          have zk := hD2.nz k hkb
          obtain ⟨vk, dk, _⟩ := hD2.nv k hkb
          have hb0 : ∀ g, v.ownBlock = some g → g = W1.heap.size := fun g hg => by
            rcases HAt.out with e | e
            · rw [e] at hg; cases hg
            · rw [e] at hg; exact (Option.some.inj hg).symm
          have HS : Hid (Sl W2 (fun q => G q || decide (v.ownBlock = some q)) r la na v (fl f 64)) := sl_own (l := fl f 64) HO.out (fun g hg => by simp [hg]) (fun g hg => by
            rw [hb0 g hg]
            cases hx : X3 r la na W1.heap.size with
            | false => rfl
            | true => have := HD1.out.gl _ (HD1.out.gx _ hx); omega)
          have HLt : Hid (∀ q, (G q || decide (v.ownBlock = some q)) = true → q < W2.heap.size) := fun q hq => by
            rcases Bool.or_eq_true_iff.1 hq with h' | h'
            · exact HD2.out.gl q h'
            · exact (HO.out.lt q (of_decide_eq_true h')).2
          have HNw : Hid (∀ q, (G q || decide (v.ownBlock = some q)) = true → G q = true ∨ w.heap.size ≤ q) := fun q hq => by
            rcases Bool.or_eq_true_iff.1 hq with h' | h'
            · exact Or.inl h'
            · right; rw [hb0 q (of_decide_eq_true h')]; exact HK1.out.size
          have HK2 : Hid (Kp (X3 r la na) w W2) := HK1.out.trans ⟨HGr.out.os, HGr.out.tape, HGr.out.output, HGr.out.size, fun q hq _ => HGr.out.block q hq (by simp [Value.ownBlock])⟩
          clear hD2 hb0
          obtain ⟨g, cap, rfl, _⟩ := own_form HO.out (by omega)
          go_wp2_with fail
          go_ret
          exact ⟨rfl, _, HD2.out.setn hkb (fun q hq => by simp [hq]) HLt.out (Or.inr ⟨_, rfl, HL.out, HS.out⟩), HK2.out.setCell (p := ⟨na, k, none⟩) (Or.inr (X3_of.2 (Or.inr (Or.inr rfl)))) _, HNw.out⟩
      · have e1 : D.wr k (fl f m) = D := by
          unfold DM.wr
          rw [if_neg hdn', if_pos hi, if_neg (by rw [fl_len]; exact hm)]
        have e2 : D.wrE k m = 1 := by
          unfold DM.wrE
          rw [if_neg hdn', if_pos hi, if_neg hm]
        have hm' : ((m : Int) == 64) = false := by simp; omega
        rw [e1, e2]
        clear h e1 e2 hb hdn' hi hz
        go_enter Try.func23, Try.ntmps23
        go_wp2_with fail
        go_ret
        exact HSm.out _
    · have e1 : D.wr i (fl f m) = D := by
        unfold DM.wr
        rw [if_neg hdn', if_neg hi]
      have e2 : D.wrE i m = 3 := by
        unfold DM.wrE
        rw [if_neg hdn', if_neg hi]
      rw [e1, e2]
      by_cases h4 : i < 0
      · clear h e1 e2 hb hdn' hi hz
        go_enter Try.func23, Try.ntmps23
        go_wp2_with fail
        go_ret
        exact HSm.out _
      · have h5 : decide (i < 0) = false := decide_eq_false h4
        have h6 : (D.n : Int) ≤ i := by omega
        clear h e1 e2 hb hdn' hi hz
        go_enter Try.func23, Try.ntmps23
        go_wp2_with fail
        go_ret
        exact HSm.out _
/-- What the document's Left answers. -/
def LfP (w : World) (G : Nat → Bool) (r la na : Nat) (l : List Nat) (e : Ending) (w' : World) : Prop := ∃ v G', e = .returned v ∧ Sl w' G' r la na v l ∧ Below w.heap.size w w' ∧ (∀ k, G k = true → G' k = true) ∧ ∀ k, G' k = true → G k = true ∨ w.heap.size ≤ k ∧ k < w'.heap.size
theorem fl_take {s : List Nat} (hs : sec s) {k : Nat} (hk : k ≤ 64) : fl (fun i => s.getD (0 + i) 0) k = s.take k := by
  apply List.ext_getElem?
  intro i
  rcases Nat.lt_or_ge i k with hi | hi
  · have : i < s.length := by rw [hs.1]; omega
    rw [fl_at _ hi, List.getElem?_take_of_lt hi, Nat.zero_add, List.getD_eq_getElem?_getD, List.getElem?_eq_getElem this]
    rfl
  · rw [List.getElem?_eq_none (by rw [fl_len]; exact hi), List.getElem?_eq_none (by rw [List.length_take]; omega)]
theorem fl_drop {l : List Nat} (hl : sec l) {k : Nat} (hk : k ≤ 64) : fl (fun i => l.getD (k + i) 0) (64 - k) = l.drop k := by
  apply List.ext_getElem?
  intro i
  rcases Nat.lt_or_ge i (64 - k) with hi | hi
  · have : k + i < l.length := by rw [hl.1]; omega
    rw [fl_at _ hi, List.getElem?_drop, List.getD_eq_getElem?_getD, List.getElem?_eq_getElem this]
    rfl
  · rw [List.getElem?_eq_none (by rw [fl_len]; exact hi), List.getElem?_eq_none (by rw [List.length_drop, hl.1]; omega)]
set_option maxRecDepth 100000 in
set_option maxHeartbeats 8000000 in
theorem ref_left {w : World} {r la na : Nat} {G : Nat → Bool} {v1 v2 : Value} {l s : List Nat} (h1 : Sl w G r la na v1 l) (h2 : Sl w G r la na v2 s) (hl : sec l) (hs : sec s) (hX : ∀ k, X3 r la na k = true → k < w.heap.size) (p : Nat) {z : Option Addr} {KL : List Bool} {c : Nat} (hK : Kb w z KL) (t at_ : Int) :
    Calls Try.prog 57 #[v1, v2, .int .i64 (p : Int), .agg #[.slice z KL.length c, .int .i64 t, .int .i64 at_]] w (LfP w G r la na (mix (lv KL t at_ p) s l)) := by
  obtain ⟨g1, c1, rfl, r1, q1⟩ := h1
  obtain ⟨g2, c2, rfl, r2, q2⟩ := h2
  have HS1 : Hid (Sl w G r la na (.slice (some ⟨g1, 0, none⟩) 64 c1) l) := ⟨g1, c1, rfl, r1, q1⟩
  have HS2 : Hid (Sl w G r la na (.slice (some ⟨g2, 0, none⟩) 64 c2) s) := ⟨g2, c2, rfl, r2, q2⟩
  have HLe := hide (lv_le KL t at_ p)
  have fin : ∀ (v : Value) (m : List Nat) (w' : World), Sl w G r la na v m → Below w.heap.size w w' → LfP w G r la na m (.returned v) w' := fun v m w' hs hb => by
    refine ⟨v, G, rfl, ?_, hb, fun _ h => h, fun _ h => Or.inl h⟩
    obtain ⟨g, c, e, h1, h2, h3⟩ := hs
    exact ⟨g, c, e, fun j u hu => later hb (h1 j u hu), h2, h3⟩
  have HFin := hide fin
  clear fin
  by_cases ht : (p : Int) = t
  · have HR : Hid (lv KL t at_ p = ((max at_ 0) % 65).toNat) := if_pos ht
    have hte : ((p : Int) == t) = true := by simp [ht]
    have HBa1 := hide (ba_sec r1 hl)
    have HBa2 := hide (ba_sec r2 hs)
    have HC := hide (And.intro q1.2.2 q2.2.2)
    obtain ⟨k, hk⟩ : ∃ k : Nat, k = lv KL t at_ p := ⟨_, rfl⟩
    rw [← hk] at HR HLe ⊢
    have HK : Hid ((k : Int) = (max at_ 0) % 65) := by show _ = _; rw [HR.out]; omega
    clear hk hK r1 r2 q1 q2
    go_enter Try.func57, Try.ntmps57
    go_upto_region 5 with fail
    · have h0 : 0 < at_ := by assumption
      obtain ⟨kk, hkk⟩ : ∃ kk : Int, kk = at_ % 65 := ⟨_, rfl⟩
      have hke : kk = (k : Int) := by have := HK.out; omega
      rw [← hkk]
      have hle := HLe.out
      have hT2 := fun W => run_toS (a := some ⟨g2, 0, none⟩) (n := 64) (c := c2) (m := k) (by have := HC.out.2; omega) W
      have hT1 := fun W => run_fromS (a := some ⟨g1, 0, none⟩) (n := 64) (c := c1) (k := k) (by omega) W
      rw [← hke] at hT2 hT1
      clear hkk hke h0
      have HW0 : Hid (Below w.heap.size w (w.alloc (Obj.cells #[Value.slice z KL.length c, Value.int IntKind.i64 t, Value.int IntKind.i64 at_] 41))) := K.alloc (Below.refl _ _) _
      go_wp2_with (first
        | (refine wpList_app8 (l := s.take k) (n := 0 + k) (base := w.heap.size) (f := fun i => l.getD (k + i) 0) (m := 64 - k) rfl _ _ rfl (by rfl) HO1.out (by rfl) (((HBa1.out.cut c1 k (64 - k) (by omega) HC.out.1).keep HW0.out).keep HB1.out) (by omega) (by have := HW0.out.size; have := HB1.out.size; omega) ?_; intro v2 W2 ho2 hG2 hat2; have HO2 := hide ho2; have HG2 := hide hG2; have HAt2 := hide hat2; clear ho2 hG2 hat2)
        | (refine wpList_app8 (l := []) (n := 0) (base := w.heap.size) (f := fun i => s.getD (0 + i) 0) (m := k) rfl _ _ rfl (by rfl) (World.ownsRow_nil _ _ _ _) (by rfl) ((HBa2.out.cut c2 0 k (by omega) HC.out.2).keep HW0.out) (by omega) HW0.out.size ?_; rw [List.nil_append, fl_take hs (by omega)]; intro v1 W1 ho1 hG1 hat1; have HO1 := hide ho1; have HAt1 := hide hat1; have HB1 : Hid (Below (w.alloc (Obj.cells #[Value.slice z KL.length c, Value.int IntKind.i64 t, Value.int IntKind.i64 at_] 41)).heap.size (w.alloc (Obj.cells #[Value.slice z KL.length c, Value.int IntKind.i64 t, Value.int IntKind.i64 at_] 41)) W1) := ⟨hG1.os, hG1.tape, hG1.output, hG1.size, fun q hq => hG1.block q hq (by simp [Value.ownBlock])⟩; clear ho1 hG1 hat1))
      go_ret
      have ho : W2.ownsRow w.heap.size 5 1 v2 64 (cells8 (mix k s l)) := by
        have h := HO2.out
        rw [fl_drop hl (by omega)] at h
        rw [show 64 = 0 + k + (64 - k) by omega]
        exact h
      have hb1 := K.call HW0.out HB1.out
      have hB : Below w.heap.size w W2 := ⟨HG2.out.os.trans hb1.os, HG2.out.tape.trans hb1.tape, HG2.out.output.trans hb1.output, Nat.le_trans hb1.size HG2.out.size, fun q hq => (HG2.out.block q (Nat.lt_of_lt_of_le hq hb1.size) (fun e => by have := (HO1.out.lt q e.symm).1; omega)).trans (hb1.block q hq)⟩
      refine ⟨v2, fun q => G q || decide (v2.ownBlock = some q), rfl, sl_own ho (fun g hg => by simp [hg]) (fun g hg => ?_), hB, fun q hq => by simp [hq], fun q hq => ?_⟩
      · have := (ho.lt g hg).1
        cases hx : X3 r la na g with
        | false => rfl
        | true => have := hX g hx; omega
      · rcases Bool.or_eq_true_iff.1 hq with h' | h'
        · exact Or.inl h'
        · exact Or.inr (ho.lt q (of_decide_eq_true h'))
    · have h0 : ¬ 0 < at_ := by first | assumption | (simp_all; omega) | omega
      have hk0 : k = 0 := by have := HK.out; omega
      have hle := HLe.out
      have hT2 := fun W => run_toS (a := some ⟨g2, 0, none⟩) (n := 64) (c := c2) (m := k) (by have := HC.out.2; omega) W
      have hT1 := fun W => run_fromS (a := some ⟨g1, 0, none⟩) (n := 64) (c := c1) (k := k) (by omega) W
      rw [show ((k : Nat) : Int) = 0 by omega] at hT2 hT1
      clear hk0 h0
      have HW0 : Hid (Below w.heap.size w (w.alloc (Obj.cells #[Value.slice z KL.length c, Value.int IntKind.i64 t, Value.int IntKind.i64 at_] 41))) := K.alloc (Below.refl _ _) _
      go_wp2_with (first
        | (refine wpList_app8 (l := s.take k) (n := 0 + k) (base := w.heap.size) (f := fun i => l.getD (k + i) 0) (m := 64 - k) rfl _ _ rfl (by rfl) HO1.out (by rfl) (((HBa1.out.cut c1 k (64 - k) (by omega) HC.out.1).keep HW0.out).keep HB1.out) (by omega) (by have := HW0.out.size; have := HB1.out.size; omega) ?_; intro v2 W2 ho2 hG2 hat2; have HO2 := hide ho2; have HG2 := hide hG2; have HAt2 := hide hat2; clear ho2 hG2 hat2)
        | (refine wpList_app8 (l := []) (n := 0) (base := w.heap.size) (f := fun i => s.getD (0 + i) 0) (m := k) rfl _ _ rfl (by rfl) (World.ownsRow_nil _ _ _ _) (by rfl) ((HBa2.out.cut c2 0 k (by omega) HC.out.2).keep HW0.out) (by omega) HW0.out.size ?_; rw [List.nil_append, fl_take hs (by omega)]; intro v1 W1 ho1 hG1 hat1; have HO1 := hide ho1; have HAt1 := hide hat1; have HB1 : Hid (Below (w.alloc (Obj.cells #[Value.slice z KL.length c, Value.int IntKind.i64 t, Value.int IntKind.i64 at_] 41)).heap.size (w.alloc (Obj.cells #[Value.slice z KL.length c, Value.int IntKind.i64 t, Value.int IntKind.i64 at_] 41)) W1) := ⟨hG1.os, hG1.tape, hG1.output, hG1.size, fun q hq => hG1.block q hq (by simp [Value.ownBlock])⟩; clear ho1 hG1 hat1))
      go_ret
      have ho : W2.ownsRow w.heap.size 5 1 v2 64 (cells8 (mix k s l)) := by
        have h := HO2.out
        rw [fl_drop hl (by omega)] at h
        rw [show 64 = 0 + k + (64 - k) by omega]
        exact h
      have hb1 := K.call HW0.out HB1.out
      have hB : Below w.heap.size w W2 := ⟨HG2.out.os.trans hb1.os, HG2.out.tape.trans hb1.tape, HG2.out.output.trans hb1.output, Nat.le_trans hb1.size HG2.out.size, fun q hq => (HG2.out.block q (Nat.lt_of_lt_of_le hq hb1.size) (fun e => by have := (HO1.out.lt q e.symm).1; omega)).trans (hb1.block q hq)⟩
      refine ⟨v2, fun q => G q || decide (v2.ownBlock = some q), rfl, sl_own ho (fun g hg => by simp [hg]) (fun g hg => ?_), hB, fun q hq => by simp [hq], fun q hq => ?_⟩
      · have := (ho.lt g hg).1
        cases hx : X3 r la na g with
        | false => rfl
        | true => have := hX g hx; omega
      · rcases Bool.or_eq_true_iff.1 hq with h' | h'
        · exact Or.inl h'
        · exact Or.inr (ho.lt q (of_decide_eq_true h'))
  · have hte : ((p : Int) == t) = false := by simp [ht]
    clear r1 r2 q1 q2
    by_cases hlt : p < KL.length
    · obtain ⟨v, hv⟩ : ∃ v, KL[p]? = some v := ⟨_, List.getElem?_eq_getElem hlt⟩
      have HR : Hid (lv KL t at_ p = if v then 64 else 0) := by
        show lv KL t at_ p = _
        unfold lv
        rw [if_neg ht, List.getD_eq_getElem?_getD, hv]
        rfl
      rcases hK with rfl | ⟨b, o, rfl, hr⟩
      · simp at hlt
      have hc := hr p v hv
      have hlt' : (p : Int) < (KL.length : Int) := by omega
      have hbl := World.block_lt_of_cell? w _ hc
      clear hr
      cases v with
      | true =>
        have e : mix (lv KL t at_ p) s l = s := by rw [HR.out]; exact mix_all hs hl
        rw [e]
        clear e
        go_enter Try.func57, Try.ntmps57
        go_wp2_with fail
        go_ret
        exact HFin.out _ _ _ HS2.out (K.alloc (Below.refl _ _) _)
      | false =>
        have e : mix (lv KL t at_ p) s l = l := by rw [HR.out]; rfl
        rw [e]
        clear e
        go_enter Try.func57, Try.ntmps57
        go_wp2_with fail
        go_ret
        exact HFin.out _ _ _ HS1.out (K.alloc (Below.refl _ _) _)
    · have e : mix (lv KL t at_ p) s l = l := by
        have : lv KL t at_ p = 0 := by
          unfold lv
          rw [if_neg ht, List.getD_eq_getElem?_getD, List.getElem?_eq_none (by omega)]
          rfl
        rw [this]
        rfl
      have hd : decide ((p : Int) < (KL.length : Int)) = false := decide_eq_false (by omega)
      rw [e]
      clear e
      go_enter Try.func57, Try.ntmps57
      go_wp2_with fail
      go_ret
      exact HFin.out _ _ _ HS1.out (K.alloc (Below.refl _ _) _)
end Go.Proofs.Ytjgpopjpmfkfmaa
