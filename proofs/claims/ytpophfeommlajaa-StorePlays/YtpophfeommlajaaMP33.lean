/- Layer 13: the document's Write. Layer 13: the document's Sync. Layer 15, pure: what a store's calls do to a disk's model; what a crash leaves. (Made ahead.) -/
import Derived.Test.YtpophfeommlajaaMP31
import Derived.Test.YtpophfeommlajaaMP32
import Derived.Test.YtpophfeommlajaaMP30
namespace Go.Proofs.Ytpophfeommlajaa
set_option maxRecDepth 100000
open Go.RowKit Go.Maps
attribute [local go_sem ↓] Go.wp_at_zero Go.wp_at_succ

/-- Bytes at the end of a row of one's own. -/
theorem run_app8 {w : World} {base : Nat} {v : Value} {n : Nat} {l : List Nat} (hown : w.ownsRow base 5 1 v n (cells8 l)) {x : Option Addr} {m c : Nat} {f : Nat → Nat} (hx : BA w x m f) (hb : n + m ≤ 1000000) (hbase : base ≤ w.heap.size) (ty : TypeId) :
    ∃ v' w', (Builtin.append_ #[38, 38] ty #[v, .slice x m c]).run Try.prog w = .ok v' w' ∧ w'.ownsRow base 5 1 v' (n + m) (cells8 (l ++ fl f m)) ∧ w.grownBy w' v.ownBlock ∧ (v'.ownBlock = v.ownBlock ∨ v'.ownBlock = some w.heap.size) := by
  obtain ⟨i0, hi, hz0, hz1, hz2⟩ := info_parts info8
  rcases hx.at_ with rfl | ⟨b, o, rfl, hr⟩
  · refine ⟨v, w, run_append_zero w base _ _ 5 i0 1 Try.underlying38 hi v n _ hown x c, ?_, World.grownBy.refl _ _, Or.inl rfl⟩
    rw [show fl f 0 = [] from rfl, List.append_nil]
    exact hown
  · obtain ⟨v', w', h1, h2, h3, _, h5⟩ := run_append_own_at (P := Try.prog) w base 38 ty 5 i0 (.int .u8 0) 1 1 Try.underlying38 hi hz0 hz1 hz2 rfl (by decide) v n _ hown ⟨b, o, none⟩ m c (cells8 (fl f m)) (by rw [cells8_len, fl_len]; omega) (fun j u hu => by
      have hj : j < m := by
        rcases Nat.lt_or_ge j m with h' | h'
        · exact h'
        · rw [List.getElem?_eq_none (by rw [cells8_len, fl_len]; exact h')] at hu; cases hu
      rw [cells8_at _ j (by rw [fl_len]; exact hj), List.getD_eq_getElem?_getD, fl_at f hj] at hu
      rw [Addr.add_mid, hr.c j hj]
      simpa using hu) (cells8_one _) (by unfold maxLen; omega) (by omega) hbase
    refine ⟨v', w', h1, ?_, h3, h5⟩
    rw [show cells8 (l ++ fl f m) = cells8 l ++ cells8 (fl f m) from List.map_append]
    exact h2
theorem wpList_app8 {w : World} {ops : Array Oper} {rest : List Oper} {o : Oper} {a : Act} {Q : Exit → Act → World → Prop} (hgd : o.guard = none) (s x : Operand) (hop : o.op = .call { callee := .builtin .append, args := #[s, x], argTypes := #[38, 38] })
    {base : Nat} {v : Value} {n : Nat} {l : List Nat} (hs : a.eval s = v) (hown : w.ownsRow base 5 1 v n (cells8 l)) {y : Option Addr} {m c : Nat} {f : Nat → Nat} (hx : a.eval x = .slice y m c) (hy : BA w y m f) (hb : n + m ≤ 1000000) (hbase : base ≤ w.heap.size)
    (hK : ∀ v' w', w'.ownsRow base 5 1 v' (n + m) (cells8 (l ++ fl f m)) → w.grownBy w' v.ownBlock → (v'.ownBlock = v.ownBlock ∨ v'.ownBlock = some w.heap.size) → wpList Try.prog ops Q rest (a.put o.dst v') w') : wpList Try.prog ops Q (o :: rest) a w := by
  refine wpList_plain hgd fun K' hK' => ?_
  obtain ⟨v', w', hr, h2, h3, h4⟩ := run_app8 (c := c) hown hy hb hbase o.type
  unfold Oper.wp execOp
  simp only [hop, resolve, invoke, builtin, Sem.run_bind, Sem.run_pure, Result.andThen_ok, List.map_toArray, List.map_cons, List.map_nil, hs, hx, hr]
  exact hK' _ _ (hK v' w' h2 h3 h4)
/-- A row of one's own as a sector that nobody writes any more. -/
theorem sl_own {w : World} {base : Nat} {v : Value} {l : List Nat} {G : Nat → Bool} {r la na : Nat} (h : w.ownsRow base 5 1 v 64 (cells8 l)) (hG : ∀ g, v.ownBlock = some g → G g = true) (hX : ∀ g, v.ownBlock = some g → X3 r la na g = false) : Sl w G r la na v l := by
  have hl : (cells8 l).length = 64 := by have := h.1; omega
  rcases h.2 with ⟨_, h0⟩ | ⟨g, cap, cur, rfl, _, _, hc, _⟩
  · cases h0
  · refine ⟨g, cap, rfl, fun j u hu => ?_, hG g rfl, hX g rfl, hc⟩
    have hj : j < (cells8 l).length := (List.getElem?_eq_some_iff.1 hu).1
    rw [hl] at hj
    rw [Nat.zero_add]
    exact (h.cellAt j (by omega)).trans hu
/-- What a call on the document's disk leaves. -/
def RwP (w : World) (r la na cl cn : Nat) (zl zn : Option Addr) (D : DM) (G : Nat → Bool) (er : Int) (e : Ending) (w' : World) : Prop := e = .returned (.int .i64 er) ∧ ∃ G', RDk w' r la na cl cn zl zn D G' ∧ Kp (X3 r la na) w w' ∧ ∀ k, G' k = true → G k = true ∨ w.heap.size ≤ k
set_option maxRecDepth 100000 in
set_option maxHeartbeats 8000000 in
theorem ref_write {w : World} {r la na cl cn : Nat} {zl zn : Option Addr} {D : DM} {G : Nat → Bool} (h : RDk w r la na cl cn zl zn D G) (i : Int) {x : Option Addr} {m c : Nat} {f : Nat → Nat} (hb : BA w x m f) (hz : 0 < m → ∀ p, x = some p → X3 r la na p.block = false) : Calls Try.prog 19 #[pp r, .int .i64 i, .slice x m c] w (RwP w r la na cl cn zl zn (D.wr i (fl f m)) G (D.wrE i m)) := by
  have HD := hide h
  have h0 := h.c0
  have h3 := h.c3
  have same : ∀ er : Int, RwP w r la na cl cn zl zn D G er (.returned (.int .i64 er)) w := fun er => ⟨rfl, G, h, Kp.refl _ _, fun k hk => Or.inl hk⟩
  have HSm := hide same
  clear same
  cases hdn : D.dn with
  | true =>
    have e1 : D.wr i (fl f m) = D := if_pos hdn
    have e2 : D.wrE i m = 6 := if_pos hdn
    rw [e1, e2]
    clear h e1 e2 hb hz
    go_enter Try.func19, Try.ntmps19
    go_wp2_with fail
    go_ret
    exact HSm.out _
  | false =>
    have hdn' : ¬ D.dn = true := by simp [hdn]
    by_cases hi : 0 ≤ i ∧ i < D.n
    · obtain ⟨k, rfl⟩ : ∃ k : Nat, i = (k : Int) := ⟨i.toNat, by omega⟩
      have hk : k < D.n := by omega
      have hk' : (k : Int) < (D.n : Int) := by omega
      have hkd : decide ((D.n : Int) ≤ (k : Int)) = false := decide_eq_false (by omega)
      have hk0 : decide ((k : Int) < 0) = false := decide_eq_false (by omega)
      by_cases hm : m = 64
      · subst hm
        have HB := hide hb
        have HZ := hide hz
        have HK := hide hk
        obtain ⟨rfl, rfl, hne⟩ := h.a (by omega)
        have HA := hide hne
        cases hmay : D.may with
        | false =>
          have e1 : D.wr k (fl f 64) = D.burn := by
            unfold DM.wr
            rw [if_neg hdn', if_pos hi, if_pos (fl_len f 64), if_neg (by simp [hmay])]
          have e2 : D.wrE k 64 = 6 := by
            unfold DM.wrE
            rw [if_neg hdn', if_pos hi, if_pos rfl, if_neg (by simp [hmay])]
          rw [e1, e2]
          clear h e1 e2 hb hdn' hi hz hne
          go_enter Try.func19, Try.ntmps19
          go_wp2_with (go_at_call 56; refine Calls.mono (ref_op HD.out hdn) ?_; rintro e W1 ⟨rfl, hD1, hK1⟩; rw [hmay])
          go_ret
          exact ⟨rfl, G, hD1, hK1, fun k hk => Or.inl hk⟩
        | true =>
          have e1 : D.wr k (fl f 64) = { D.burn with nw := upd D.burn.nw k (some (fl f 64)) } := by
            unfold DM.wr
            rw [if_neg hdn', if_pos hi, if_pos (fl_len f 64), if_pos (by simp [hmay]), burn_nw]
            rfl
          have e2 : D.wrE k 64 = 0 := by
            unfold DM.wrE
            rw [if_neg hdn', if_pos hi, if_pos rfl, if_pos (by simp [hmay])]
          have HL : Hid (sec (fl f 64)) := ⟨fl_len f 64, fl_lt hb.lt 64⟩
          rw [e1, e2]
          clear h e1 e2 hb hdn' hi hz hne
          go_enter Try.func19, Try.ntmps19
          go_upto_region 11 with (first
            | (go_at_call 56; refine Calls.mono (ref_op HD.out hdn) ?_; rintro e W1 ⟨rfl, hD1, hK1⟩; rw [hmay]; have HD1 := hide hD1; have HK1 := hide hK1; clear hD1 hK1)
            | (refine wpList_app8 (l := []) (n := 0) (base := W1.heap.size) rfl _ _ rfl (by rfl) (World.ownsRow_nil _ _ _ _) (by rfl) (HB.out.kp (HZ.out (by omega)) HK1.out) (by omega) (Nat.le_refl _) ?_; intro v W2 ho hG hat; have HO := hide ho; have HGr := hide hG; have HAt := hide hat; clear ho hG hat))
          have hD2 : RDk W2 r la na cl cn (some ⟨la, 0, none⟩) (some ⟨na, 0, none⟩) D.burn G := HD1.out.same HGr.out.size (fun q hq => HGr.out.block q (HD1.out.gl q hq) (by simp [Value.ownBlock]))
          have HD2 := hide hD2
          have hkb : k < D.burn.n := by rw [burn_n]; exact HK.out
          have d1 := hD2.c1
          rw [burn_n] at d1
          have zk := hD2.nz k hkb
          obtain ⟨vk, dk, _⟩ := hD2.nv k hkb
          have hb0 : ∀ g, v.ownBlock = some g → g = W1.heap.size := fun g hg => by
            rcases HAt.out with e | e
            · rw [e] at hg; cases hg
            · rw [e] at hg; exact (Option.some.inj hg).symm
          have HS : Hid (Sl W2 (fun q => G q || decide (v.ownBlock = some q)) r la na v (fl f 64)) := sl_own (l := fl f 64) HO.out (fun g hg => by simp [hg]) (fun g hg => by
            rw [hb0 g hg]
            cases hx : X3 r la na W1.heap.size with
            | false => rfl
            | true => have := HD1.out.gl _ (HD1.out.gx _ hx); omega)
          have HLt : Hid (∀ q, (G q || decide (v.ownBlock = some q)) = true → q < W2.heap.size) := fun q hq => by
            rcases Bool.or_eq_true_iff.1 hq with h' | h'
            · exact HD2.out.gl q h'
            · exact (HO.out.lt q (of_decide_eq_true h')).2
          have HNw : Hid (∀ q, (G q || decide (v.ownBlock = some q)) = true → G q = true ∨ w.heap.size ≤ q) := fun q hq => by
            rcases Bool.or_eq_true_iff.1 hq with h' | h'
            · exact Or.inl h'
            · right; rw [hb0 q (of_decide_eq_true h')]; exact HK1.out.size
          have HK2 : Hid (Kp (X3 r la na) w W2) := HK1.out.trans ⟨HGr.out.os, HGr.out.tape, HGr.out.output, HGr.out.size, fun q hq _ => HGr.out.block q hq (by simp [Value.ownBlock])⟩
          clear hD2 hb0
          obtain ⟨g, cap, rfl, _⟩ := own_form HO.out (by omega)
          go_wp2_with fail
          go_ret
          exact ⟨rfl, _, HD2.out.setn hkb (fun q hq => by simp [hq]) HLt.out (Or.inr ⟨_, rfl, HL.out, HS.out⟩), HK2.out.setCell (p := ⟨na, k, none⟩) (Or.inr (X3_of.2 (Or.inr (Or.inr rfl)))) _, HNw.out⟩
      · have e1 : D.wr k (fl f m) = D := by
          unfold DM.wr
          rw [if_neg hdn', if_pos hi, if_neg (by rw [fl_len]; exact hm)]
        have e2 : D.wrE k m = 1 := by
          unfold DM.wrE
          rw [if_neg hdn', if_pos hi, if_neg hm]
        have hm' : ((m : Int) == 64) = false := by simp; omega
        rw [e1, e2]
        clear h e1 e2 hb hdn' hi hz
        go_enter Try.func19, Try.ntmps19
        go_wp2_with fail
        go_ret
        exact HSm.out _
    · have e1 : D.wr i (fl f m) = D := by
        unfold DM.wr
        rw [if_neg hdn', if_neg hi]
      have e2 : D.wrE i m = 3 := by
        unfold DM.wrE
        rw [if_neg hdn', if_neg hi]
      rw [e1, e2]
      by_cases h4 : i < 0
      · clear h e1 e2 hb hdn' hi hz
        go_enter Try.func19, Try.ntmps19
        go_wp2_with fail
        go_ret
        exact HSm.out _
      · have h5 : decide (i < 0) = false := decide_eq_false h4
        have h6 : (D.n : Int) ≤ i := by omega
        clear h e1 e2 hb hdn' hi hz
        go_enter Try.func19, Try.ntmps19
        go_wp2_with fail
        go_ret
        exact HSm.out _
/-- What the document's Left answers. -/
def LfP (w : World) (G : Nat → Bool) (r la na : Nat) (l : List Nat) (e : Ending) (w' : World) : Prop := ∃ v G', e = .returned v ∧ Sl w' G' r la na v l ∧ Below w.heap.size w w' ∧ (∀ k, G k = true → G' k = true) ∧ ∀ k, G' k = true → G k = true ∨ w.heap.size ≤ k ∧ k < w'.heap.size
theorem fl_take {s : List Nat} (hs : sec s) {k : Nat} (hk : k ≤ 64) : fl (fun i => s.getD (0 + i) 0) k = s.take k := by
  apply List.ext_getElem?
  intro i
  rcases Nat.lt_or_ge i k with hi | hi
  · have : i < s.length := by rw [hs.1]; omega
    rw [fl_at _ hi, List.getElem?_take_of_lt hi, Nat.zero_add, List.getD_eq_getElem?_getD, List.getElem?_eq_getElem this]
    rfl
  · rw [List.getElem?_eq_none (by rw [fl_len]; exact hi), List.getElem?_eq_none (by rw [List.length_take]; omega)]
theorem fl_drop {l : List Nat} (hl : sec l) {k : Nat} (hk : k ≤ 64) : fl (fun i => l.getD (k + i) 0) (64 - k) = l.drop k := by
  apply List.ext_getElem?
  intro i
  rcases Nat.lt_or_ge i (64 - k) with hi | hi
  · have : k + i < l.length := by rw [hl.1]; omega
    rw [fl_at _ hi, List.getElem?_drop, List.getD_eq_getElem?_getD, List.getElem?_eq_getElem this]
    rfl
  · rw [List.getElem?_eq_none (by rw [fl_len]; exact hi), List.getElem?_eq_none (by rw [List.length_drop, hl.1]; omega)]
set_option maxRecDepth 100000 in
set_option maxHeartbeats 8000000 in
theorem ref_left {w : World} {r la na : Nat} {G : Nat → Bool} {v1 v2 : Value} {l s : List Nat} (h1 : Sl w G r la na v1 l) (h2 : Sl w G r la na v2 s) (hl : sec l) (hs : sec s) (hX : ∀ k, X3 r la na k = true → k < w.heap.size) (p : Nat) {z : Option Addr} {KL : List Bool} {c : Nat} (hK : Kb w z KL) (t at_ : Int) :
    Calls Try.prog 53 #[v1, v2, .int .i64 (p : Int), .agg #[.slice z KL.length c, .int .i64 t, .int .i64 at_]] w (LfP w G r la na (mix (lv KL t at_ p) s l)) := by
  obtain ⟨g1, c1, rfl, r1, q1⟩ := h1
  obtain ⟨g2, c2, rfl, r2, q2⟩ := h2
  have HS1 : Hid (Sl w G r la na (.slice (some ⟨g1, 0, none⟩) 64 c1) l) := ⟨g1, c1, rfl, r1, q1⟩
  have HS2 : Hid (Sl w G r la na (.slice (some ⟨g2, 0, none⟩) 64 c2) s) := ⟨g2, c2, rfl, r2, q2⟩
  have HLe := hide (lv_le KL t at_ p)
  have fin : ∀ (v : Value) (m : List Nat) (w' : World), Sl w G r la na v m → Below w.heap.size w w' → LfP w G r la na m (.returned v) w' := fun v m w' hs hb => by
    refine ⟨v, G, rfl, ?_, hb, fun _ h => h, fun _ h => Or.inl h⟩
    obtain ⟨g, c, e, h1, h2, h3⟩ := hs
    exact ⟨g, c, e, fun j u hu => later hb (h1 j u hu), h2, h3⟩
  have HFin := hide fin
  clear fin
  by_cases ht : (p : Int) = t
  · have HR : Hid (lv KL t at_ p = ((max at_ 0) % 65).toNat) := if_pos ht
    have hte : ((p : Int) == t) = true := by simp [ht]
    have HBa1 := hide (ba_sec r1 hl)
    have HBa2 := hide (ba_sec r2 hs)
    have HC := hide (And.intro q1.2.2 q2.2.2)
    obtain ⟨k, hk⟩ : ∃ k : Nat, k = lv KL t at_ p := ⟨_, rfl⟩
    rw [← hk] at HR HLe ⊢
    have HK : Hid ((k : Int) = (max at_ 0) % 65) := by show _ = _; rw [HR.out]; omega
    clear hk hK r1 r2 q1 q2
    go_enter Try.func53, Try.ntmps53
    go_upto_region 5 with fail
    · have h0 : 0 < at_ := by assumption
      obtain ⟨kk, hkk⟩ : ∃ kk : Int, kk = at_ % 65 := ⟨_, rfl⟩
      have hke : kk = (k : Int) := by have := HK.out; omega
      rw [← hkk]
      have hle := HLe.out
      have hT2 := fun W => run_toS (a := some ⟨g2, 0, none⟩) (n := 64) (c := c2) (m := k) (by have := HC.out.2; omega) W
      have hT1 := fun W => run_fromS (a := some ⟨g1, 0, none⟩) (n := 64) (c := c1) (k := k) (by omega) W
      rw [← hke] at hT2 hT1
      clear hkk hke h0
      have HW0 : Hid (Below w.heap.size w (w.alloc (Obj.cells #[Value.slice z KL.length c, Value.int IntKind.i64 t, Value.int IntKind.i64 at_] 41))) := K.alloc (Below.refl _ _) _
      go_wp2_with (first
        | (refine wpList_app8 (l := s.take k) (n := 0 + k) (base := w.heap.size) (f := fun i => l.getD (k + i) 0) (m := 64 - k) rfl _ _ rfl (by rfl) HO1.out (by rfl) (((HBa1.out.cut c1 k (64 - k) (by omega) HC.out.1).keep HW0.out).keep HB1.out) (by omega) (by have := HW0.out.size; have := HB1.out.size; omega) ?_; intro v2 W2 ho2 hG2 hat2; have HO2 := hide ho2; have HG2 := hide hG2; have HAt2 := hide hat2; clear ho2 hG2 hat2)
        | (refine wpList_app8 (l := []) (n := 0) (base := w.heap.size) (f := fun i => s.getD (0 + i) 0) (m := k) rfl _ _ rfl (by rfl) (World.ownsRow_nil _ _ _ _) (by rfl) ((HBa2.out.cut c2 0 k (by omega) HC.out.2).keep HW0.out) (by omega) HW0.out.size ?_; rw [List.nil_append, fl_take hs (by omega)]; intro v1 W1 ho1 hG1 hat1; have HO1 := hide ho1; have HAt1 := hide hat1; have HB1 : Hid (Below (w.alloc (Obj.cells #[Value.slice z KL.length c, Value.int IntKind.i64 t, Value.int IntKind.i64 at_] 41)).heap.size (w.alloc (Obj.cells #[Value.slice z KL.length c, Value.int IntKind.i64 t, Value.int IntKind.i64 at_] 41)) W1) := ⟨hG1.os, hG1.tape, hG1.output, hG1.size, fun q hq => hG1.block q hq (by simp [Value.ownBlock])⟩; clear ho1 hG1 hat1))
      go_ret
      have ho : W2.ownsRow w.heap.size 5 1 v2 64 (cells8 (mix k s l)) := by
        have h := HO2.out
        rw [fl_drop hl (by omega)] at h
        rw [show 64 = 0 + k + (64 - k) by omega]
        exact h
      have hb1 := K.call HW0.out HB1.out
      have hB : Below w.heap.size w W2 := ⟨HG2.out.os.trans hb1.os, HG2.out.tape.trans hb1.tape, HG2.out.output.trans hb1.output, Nat.le_trans hb1.size HG2.out.size, fun q hq => (HG2.out.block q (Nat.lt_of_lt_of_le hq hb1.size) (fun e => by have := (HO1.out.lt q e.symm).1; omega)).trans (hb1.block q hq)⟩
      refine ⟨v2, fun q => G q || decide (v2.ownBlock = some q), rfl, sl_own ho (fun g hg => by simp [hg]) (fun g hg => ?_), hB, fun q hq => by simp [hq], fun q hq => ?_⟩
      · have := (ho.lt g hg).1
        cases hx : X3 r la na g with
        | false => rfl
        | true => have := hX g hx; omega
      · rcases Bool.or_eq_true_iff.1 hq with h' | h'
        · exact Or.inl h'
        · exact Or.inr (ho.lt q (of_decide_eq_true h'))
    · have h0 : ¬ 0 < at_ := by first | assumption | (simp_all; omega) | omega
      have hk0 : k = 0 := by have := HK.out; omega
      have hle := HLe.out
      have hT2 := fun W => run_toS (a := some ⟨g2, 0, none⟩) (n := 64) (c := c2) (m := k) (by have := HC.out.2; omega) W
      have hT1 := fun W => run_fromS (a := some ⟨g1, 0, none⟩) (n := 64) (c := c1) (k := k) (by omega) W
      rw [show ((k : Nat) : Int) = 0 by omega] at hT2 hT1
      clear hk0 h0
      have HW0 : Hid (Below w.heap.size w (w.alloc (Obj.cells #[Value.slice z KL.length c, Value.int IntKind.i64 t, Value.int IntKind.i64 at_] 41))) := K.alloc (Below.refl _ _) _
      go_wp2_with (first
        | (refine wpList_app8 (l := s.take k) (n := 0 + k) (base := w.heap.size) (f := fun i => l.getD (k + i) 0) (m := 64 - k) rfl _ _ rfl (by rfl) HO1.out (by rfl) (((HBa1.out.cut c1 k (64 - k) (by omega) HC.out.1).keep HW0.out).keep HB1.out) (by omega) (by have := HW0.out.size; have := HB1.out.size; omega) ?_; intro v2 W2 ho2 hG2 hat2; have HO2 := hide ho2; have HG2 := hide hG2; have HAt2 := hide hat2; clear ho2 hG2 hat2)
        | (refine wpList_app8 (l := []) (n := 0) (base := w.heap.size) (f := fun i => s.getD (0 + i) 0) (m := k) rfl _ _ rfl (by rfl) (World.ownsRow_nil _ _ _ _) (by rfl) ((HBa2.out.cut c2 0 k (by omega) HC.out.2).keep HW0.out) (by omega) HW0.out.size ?_; rw [List.nil_append, fl_take hs (by omega)]; intro v1 W1 ho1 hG1 hat1; have HO1 := hide ho1; have HAt1 := hide hat1; have HB1 : Hid (Below (w.alloc (Obj.cells #[Value.slice z KL.length c, Value.int IntKind.i64 t, Value.int IntKind.i64 at_] 41)).heap.size (w.alloc (Obj.cells #[Value.slice z KL.length c, Value.int IntKind.i64 t, Value.int IntKind.i64 at_] 41)) W1) := ⟨hG1.os, hG1.tape, hG1.output, hG1.size, fun q hq => hG1.block q hq (by simp [Value.ownBlock])⟩; clear ho1 hG1 hat1))
      go_ret
      have ho : W2.ownsRow w.heap.size 5 1 v2 64 (cells8 (mix k s l)) := by
        have h := HO2.out
        rw [fl_drop hl (by omega)] at h
        rw [show 64 = 0 + k + (64 - k) by omega]
        exact h
      have hb1 := K.call HW0.out HB1.out
      have hB : Below w.heap.size w W2 := ⟨HG2.out.os.trans hb1.os, HG2.out.tape.trans hb1.tape, HG2.out.output.trans hb1.output, Nat.le_trans hb1.size HG2.out.size, fun q hq => (HG2.out.block q (Nat.lt_of_lt_of_le hq hb1.size) (fun e => by have := (HO1.out.lt q e.symm).1; omega)).trans (hb1.block q hq)⟩
      refine ⟨v2, fun q => G q || decide (v2.ownBlock = some q), rfl, sl_own ho (fun g hg => by simp [hg]) (fun g hg => ?_), hB, fun q hq => by simp [hq], fun q hq => ?_⟩
      · have := (ho.lt g hg).1
        cases hx : X3 r la na g with
        | false => rfl
        | true => have := hX g hx; omega
      · rcases Bool.or_eq_true_iff.1 hq with h' | h'
        · exact Or.inl h'
        · exact Or.inr (ho.lt q (of_decide_eq_true h'))
  · have hte : ((p : Int) == t) = false := by simp [ht]
    clear r1 r2 q1 q2
    by_cases hlt : p < KL.length
    · obtain ⟨v, hv⟩ : ∃ v, KL[p]? = some v := ⟨_, List.getElem?_eq_getElem hlt⟩
      have HR : Hid (lv KL t at_ p = if v then 64 else 0) := by
        show lv KL t at_ p = _
        unfold lv
        rw [if_neg ht, List.getD_eq_getElem?_getD, hv]
        rfl
      rcases hK with rfl | ⟨b, o, rfl, hr⟩
      · simp at hlt
      have hc := hr p v hv
      have hlt' : (p : Int) < (KL.length : Int) := by omega
      have hbl := World.block_lt_of_cell? w _ hc
      clear hr
      cases v with
      | true =>
        have e : mix (lv KL t at_ p) s l = s := by rw [HR.out]; exact mix_all hs hl
        rw [e]
        clear e
        go_enter Try.func53, Try.ntmps53
        go_wp2_with fail
        go_ret
        exact HFin.out _ _ _ HS2.out (K.alloc (Below.refl _ _) _)
      | false =>
        have e : mix (lv KL t at_ p) s l = l := by rw [HR.out]; rfl
        rw [e]
        clear e
        go_enter Try.func53, Try.ntmps53
        go_wp2_with fail
        go_ret
        exact HFin.out _ _ _ HS1.out (K.alloc (Below.refl _ _) _)
    · have e : mix (lv KL t at_ p) s l = l := by
        have : lv KL t at_ p = 0 := by
          unfold lv
          rw [if_neg ht, List.getD_eq_getElem?_getD, List.getElem?_eq_none (by omega)]
          rfl
        rw [this]
        rfl
      have hd : decide ((p : Int) < (KL.length : Int)) = false := decide_eq_false (by omega)
      rw [e]
      clear e
      go_enter Try.func53, Try.ntmps53
      go_wp2_with fail
      go_ret
      exact HFin.out _ _ _ HS1.out (K.alloc (Below.refl _ _) _)
end Go.Proofs.Ytpophfeommlajaa
namespace Go.Proofs.Ytpophfeommlajaa
set_option maxRecDepth 100000
open Go.RowKit Go.Maps
attribute [local go_sem ↓] Go.wp_at_zero Go.wp_at_succ

theorem wp_store1 {op : Oper} {a : Act} {w : World} {Kt : Act → World → Prop} {Q : Exit → Act → World → Prop} {x y : Operand} {g o m c : Nat} {p : Option Addr} {u : Value} (ho : op.op = .store 38 x y) (hx : a.eval x = .pointer (some ⟨g, o, none⟩)) (hy : a.eval y = .slice p m c)
    (hc : w.cell? ⟨g, o, none⟩ = some u) (hz : w.frozen? ⟨g, o, none⟩ = false) (h : Kt (a.put op.dst undef) (w.setCell ⟨g, o, none⟩ (.slice p m c))) : Oper.wp Try.prog op a w Kt Q := by
  unfold Oper.wp execOp
  simp only [ho, hx, hy]
  go_simp
  exact h
/-- What lasts while a Sync goes on. -/
def DM.syp (D : DM) (i : Nat) : DM := { D with la := fun j => if j < i then (D.nw j).getD (D.la j) else D.la j, nw := fun j => if j < i then none else D.nw j }
theorem DM.mk_eq {n : Nat} {la la' : Nat → List Nat} {nw nw' : Nat → Option (List Nat)} {fu : Option Nat} {dn : Bool} (h1 : la = la') (h2 : nw = nw') : DM.mk n la nw fu dn = DM.mk n la' nw' fu dn := by
  subst h1 h2
  rfl
theorem DM.syp_zero (D : DM) : D.syp 0 = D := by
  obtain ⟨n, la, nw, fu, dn⟩ := D
  simp [DM.syp]
theorem DM.syp_none {D : DM} {i : Nat} (h : D.nw i = none) : D.syp (i + 1) = D.syp i := by
  unfold DM.syp
  congr 1
  · funext j
    by_cases e : j = i
    · subst e; simp [h]
    · by_cases h1 : j < i
      · rw [if_pos h1, if_pos (by omega)]
      · rw [if_neg h1, if_neg (by omega)]
  · funext j
    by_cases e : j = i
    · subst e; simp [h]
    · by_cases h1 : j < i
      · rw [if_pos h1, if_pos (by omega)]
      · rw [if_neg h1, if_neg (by omega)]
theorem DM.syp_some {D : DM} {i : Nat} {l : List Nat} (h : D.nw i = some l) : ({ D.syp i with la := upd (D.syp i).la i l, nw := upd (D.syp i).nw i none } : DM) = D.syp (i + 1) := by
  refine DM.mk_eq ?_ ?_
  · funext j
    show upd _ i l j = if j < i + 1 then (D.nw j).getD (D.la j) else D.la j
    by_cases e : j = i
    · subst e; simp [h, upd]
    · by_cases h1 : j < i
      · simp only [upd, if_neg e, DM.syp]; rw [if_pos h1, if_pos (by omega)]
      · simp only [upd, if_neg e, DM.syp]; rw [if_neg h1, if_neg (by omega)]
  · funext j
    show upd _ i none j = if j < i + 1 then none else D.nw j
    by_cases e : j = i
    · subst e; simp [upd]
    · by_cases h1 : j < i
      · simp only [upd, if_neg e, DM.syp]; rw [if_pos h1, if_pos (by omega)]
      · simp only [upd, if_neg e, DM.syp]; rw [if_neg h1, if_neg (by omega)]
theorem DM.syp_end {D : DM} (hok : D.ok) : D.syp D.n = { D with la := fun i => (D.nw i).getD (D.la i), nw := fun _ => none } := by
  have hn : ∀ j, ¬ j < D.n → D.nw j = none := fun j hj => by
    cases hx : D.nw j with
    | none => rfl
    | some l => exact absurd (hok.nw j l hx).1 hj
  unfold DM.syp
  congr 1
  · funext j
    split
    · rfl
    · rename_i hj; rw [hn j hj]; rfl
  · funext j
    split
    · rfl
    · rename_i hj; exact hn j hj
def SyQ (w wr : World) (r la na cl cn : Nat) (zl zn : Option Addr) (D : DM) (G : Nat → Bool) (i : Nat) : Prop := RDk wr r la na cl cn zl zn (D.syp i) G ∧ Kp (X3 r la na) w wr
set_option maxRecDepth 100000 in
set_option maxHeartbeats 8000000 in
theorem ref_sync {w : World} {r la na cl cn : Nat} {zl zn : Option Addr} {D : DM} {G : Nat → Bool} (h : RDk w r la na cl cn zl zn D G) : Calls Try.prog 48 #[pp r] w (RwP w r la na cl cn zl zn D.sy G D.syE) := by
  have HD := hide h
  have h3 := h.c3
  cases hdn : D.dn with
  | true =>
    have e1 : D.sy = D := if_pos hdn
    have e2 : D.syE = 6 := if_pos hdn
    rw [e1, e2]
    clear h e1 e2
    go_enter Try.func48, Try.ntmps48
    go_wp2_with fail
    go_ret
    exact ⟨rfl, G, HD.out, Kp.refl _ _, fun k hk => Or.inl hk⟩
  | false =>
  have hdn' : ¬ D.dn = true := by simp [hdn]
  cases hmay : D.may with
  | false =>
    have e1 : D.sy = D.burn := by
      unfold DM.sy
      rw [if_neg hdn', if_neg (by simp [hmay])]
    have e2 : D.syE = 6 := by
      unfold DM.syE
      rw [if_neg hdn', if_neg (by simp [hmay])]
    rw [e1, e2]
    clear h e1 e2 hdn'
    go_enter Try.func48, Try.ntmps48
    go_wp2_with (go_at_call 56; refine Calls.mono (ref_op HD.out hdn) ?_; rintro e W1 ⟨rfl, hD1, hK1⟩; rw [hmay])
    go_ret
    exact ⟨rfl, G, hD1, hK1, fun k hk => Or.inl hk⟩
  | true =>
  have e2 : D.syE = 0 := by
    unfold DM.syE
    rw [if_neg hdn', if_pos hmay]
  obtain ⟨D1, hD⟩ : ∃ D1, D1 = D.burn := ⟨_, rfl⟩
  have HE1 : Hid (D.sy = { D1 with la := fun i => (D1.nw i).getD (D1.la i), nw := fun _ => none }) := by
    show _ = _
    unfold DM.sy
    rw [if_neg hdn', if_pos hmay, hD, burn_nw, burn_la]
  rw [e2]
  have HB : Hid (D.burn = D1) := hD.symm
  clear h e2 hdn' hD
  go_enter Try.func48, Try.ntmps48
  go_upto_region 3 with (go_at_call 56; refine Calls.mono (ref_op HD.out hdn) ?_; rintro e W1 ⟨rfl, hD1, hK1⟩; rw [hmay])
  rw [HB.out] at hD1
  have HD1 := hide hD1
  have HK1 := hide hK1
  clear hD1 hK1 HB HD h3
  go_wp2_with fail
  go_loopg [3] D1.n (fun g' s3 wr => ∃ i : Nat, g' = D1.n - i ∧ i ≤ D1.n ∧ s3 = .int .i64 (i : Int) ∧ SyQ W1 wr r la na cl cn zl zn D1 G i)
  case atStart => exact ⟨0, rfl, Nat.zero_le _, rfl, by rw [DM.syp_zero]; exact HD1.out, Kp.refl _ _⟩
  case round =>
    obtain ⟨i, rfl, hp, rfl, hDp, hKp⟩ := hrel
    have h0 : wr.cell? ⟨r, 0, none⟩ = some (.slice zl D1.n cl) := hDp.c0
    have h1 : wr.cell? ⟨r, 1, none⟩ = some (.slice zn D1.n cn) := hDp.c1
    have HDp := hide hDp
    have HKp := hide hKp
    have hn4 := HD1.out.ok.n
    clear hDp hKp
    by_cases hlt : i < D1.n
    · obtain ⟨rfl, rfl, a3, a4, a5⟩ := HDp.out.a (Nat.lt_of_le_of_lt (Nat.zero_le _) hlt)
      obtain ⟨vl, hvl, _⟩ := HDp.out.lv i hlt
      obtain ⟨vn, hvn, sn⟩ := HDp.out.nv i hlt
      have hlt' : (i : Int) < (D1.n : Int) := by omega
      have hw : wrap64 ((i : Int) + 1) = ((i + 1 : Nat) : Int) := by unfold wrap64; omega
      have en : (D1.syp i).nw i = D1.nw i := if_neg (Nat.lt_irrefl i)
      rw [en] at sn
      have HP := hide (And.intro hlt hn4)
      rcases sn with ⟨e0, rfl⟩ | ⟨l, e0, sn⟩
      · clear hlt hp hn4 en a3 a4 a5
        go_wp2_with fail
        go_roundg (D1.n - (i + 1))
        case measure => have := HP.out.1; omega
        case rel => exact ⟨i + 1, rfl, HP.out.1, by rw [hw], by rw [DM.syp_none e0]; exact HDp.out, HKp.out⟩
      · have HS := hide sn
        have HSec := hide (HDp.out.ok.nw i l (en.trans e0)).2
        obtain ⟨g, c, rfl, hg1, hg2, hg3, _⟩ := sn
        have hgl := HDp.out.gl
        have hrl := HDp.out.rl
        have hnal : na < wr.heap.size := HDp.out.gl na (HDp.out.gx na (X3_of.2 (Or.inr (Or.inr rfl))))
        have HC0 : Hid (∀ w' : World, wr.grownBy w' (some la) → w'.cell? ⟨r, 0, none⟩ = some (.slice (some ⟨la, 0, none⟩) D1.n cl)) := fun w' hg => (World.cell?_of_block (w := wr) (hg.block r hrl (fun e => a3 (Option.some.inj e).symm))).trans h0
        have HC1 : Hid (∀ w' : World, wr.grownBy w' (some la) → w'.cell? ⟨r, 1, none⟩ = some (.slice (some ⟨na, 0, none⟩) D1.n cn)) := fun w' hg => (World.cell?_of_block (w := wr) (hg.block r hrl (fun e => a3 (Option.some.inj e).symm))).trans h1
        have HCN : Hid (∀ w' : World, wr.grownBy w' (some la) → w'.cell? ⟨na, i, none⟩ = some (.slice (some ⟨g, 0, none⟩) 64 c)) := fun w' hg => (World.cell?_of_block (w := wr) (hg.block na hnal (fun e => a5 (Option.some.inj e).symm))).trans hvn
        have hzl := HDp.out.lz i hlt
        have HA := hide (And.intro a3 (And.intro a4 a5))
        have HZ := hide hzl
        have HVL := hide hvl
        clear hp hn4 a3 a4 a5 hg1 hg2 hg3 hgl hrl hnal hzl hvl
        go_upto_region 7 with fail
        refine wp_region_noPanic ?_
        refine wp_region_held_drew (S := fun w' => wr.grownBy w' (some la)) (by kernel_rfl) ⟨rfl, rfl, rfl, Nat.le_refl _, fun _ _ _ => rfl⟩ (fun hS0 => ?_)
        refine wpAnyH_take (i := 0) (v := pp r) rfl (by kernel_rfl) (by kernel_rfl) (by kernel_rfl) (fun _ _ _ h => h) (Or.inl ⟨by rfl, fun w' _ => by go_simp⟩) hS0 ?_
        simp only [Act.put, List.getElem_toArray, List.getElem_cons_zero, List.setIfInBounds_toArray, List.set_cons_zero, List.set_cons_succ]
        refine wpAnyH_take (i := 1) (v := pp r) rfl (by kernel_rfl) (by kernel_rfl) (by kernel_rfl) (fun _ _ _ h => h) (Or.inl ⟨by rfl, fun w' _ => by go_simp⟩) hS0 ?_
        simp only [Act.put, List.getElem_toArray, List.getElem_cons_zero, List.getElem_cons_succ, List.setIfInBounds_toArray, List.set_cons_zero, List.set_cons_succ]
        refine wpAnyH_take (i := 2) (v := pp r) rfl (by kernel_rfl) (by kernel_rfl) (by kernel_rfl) (fun _ _ _ h => h) (Or.inl ⟨by rfl, fun w' _ => by go_simp⟩) hS0 ?_
        simp only [Act.put, List.getElem_toArray, List.getElem_cons_zero, List.getElem_cons_succ, List.setIfInBounds_toArray, List.set_cons_zero, List.set_cons_succ]
        refine wpAnyH_take (i := 3) (v := .slice (some ⟨la, 0, none⟩) D1.n cl) rfl (by kernel_rfl) (by kernel_rfl) (by kernel_rfl) (fun _ _ _ h => h) (Or.inl ⟨by rfl, fun w' hS => by have hc := HC0.out _ hS; go_simp⟩) hS0 ?_
        simp only [Act.put, List.getElem_toArray, List.getElem_cons_zero, List.getElem_cons_succ, List.setIfInBounds_toArray, List.set_cons_zero, List.set_cons_succ]
        refine wpAnyH_take (i := 4) (v := .int .i64 (i : Int)) rfl (by kernel_rfl) (by kernel_rfl) (by kernel_rfl) (fun _ _ _ h => h) (Or.inl ⟨by rfl, fun w' _ => by go_simp⟩) hS0 ?_
        simp only [Act.put, List.getElem_toArray, List.getElem_cons_zero, List.getElem_cons_succ, List.setIfInBounds_toArray, List.set_cons_zero, List.set_cons_succ]
        refine wpAnyH_take (i := 5) (v := pp r) rfl (by kernel_rfl) (by kernel_rfl) (by kernel_rfl) (fun _ _ _ h => h) (Or.inl ⟨by rfl, fun w' _ => by go_simp⟩) hS0 ?_
        simp only [Act.put, List.getElem_toArray, List.getElem_cons_zero, List.getElem_cons_succ, List.setIfInBounds_toArray, List.set_cons_zero, List.set_cons_succ]
        refine wpAnyH_take (i := 6) (v := pp r) rfl (by kernel_rfl) (by kernel_rfl) (by kernel_rfl) (fun _ _ _ h => h) (Or.inl ⟨by rfl, fun w' _ => by go_simp⟩) hS0 ?_
        simp only [Act.put, List.getElem_toArray, List.getElem_cons_zero, List.getElem_cons_succ, List.setIfInBounds_toArray, List.set_cons_zero, List.set_cons_succ]
        refine wpAnyH_take (i := 7) (v := .pointer (some ⟨r, 1, none⟩)) rfl (by kernel_rfl) (by kernel_rfl) (by kernel_rfl) (fun _ _ _ h => h) (Or.inl ⟨by rfl, fun w' _ => by go_simp⟩) hS0 ?_
        simp only [Act.put, List.getElem_toArray, List.getElem_cons_zero, List.getElem_cons_succ, List.setIfInBounds_toArray, List.set_cons_zero, List.set_cons_succ]
        refine wpAnyH_take (i := 8) (v := .slice (some ⟨na, 0, none⟩) D1.n cn) rfl (by kernel_rfl) (by kernel_rfl) (by kernel_rfl) (fun _ _ _ h => h) (Or.inl ⟨by rfl, fun w' hS => by have hc := HC1.out _ hS; go_simp⟩) hS0 ?_
        simp only [Act.put, List.getElem_toArray, List.getElem_cons_zero, List.getElem_cons_succ, List.setIfInBounds_toArray, List.set_cons_zero, List.set_cons_succ]
        refine wpAnyH_take (i := 9) (v := .int .i64 (i : Int)) rfl (by kernel_rfl) (by kernel_rfl) (by kernel_rfl) (fun _ _ _ h => h) (Or.inl ⟨by rfl, fun w' _ => by go_simp⟩) hS0 ?_
        simp only [Act.put, List.getElem_toArray, List.getElem_cons_zero, List.getElem_cons_succ, List.setIfInBounds_toArray, List.set_cons_zero, List.set_cons_succ]
        refine wpAnyH_take (i := 10) (v := .pointer (some ⟨na, i, none⟩)) rfl (by kernel_rfl) (by kernel_rfl) (by kernel_rfl) (fun _ _ _ h => h) (Or.inl ⟨by rfl, fun w' _ => by go_simp⟩) hS0 ?_
        simp only [Act.put, List.getElem_toArray, List.getElem_cons_zero, List.getElem_cons_succ, List.setIfInBounds_toArray, List.set_cons_zero, List.set_cons_succ]
        refine wpAnyH_take (i := 11) (v := .slice (some ⟨g, 0, none⟩) 64 c) rfl (by kernel_rfl) (by kernel_rfl) (by kernel_rfl) (fun _ _ _ h => h) (Or.inl ⟨by rfl, fun w' hS => by have hc := HCN.out _ hS; go_simp⟩) hS0 ?_
        simp only [Act.put, List.getElem_toArray, List.getElem_cons_zero, List.getElem_cons_succ, List.setIfInBounds_toArray, List.set_cons_zero, List.set_cons_succ]
        refine wpAnyH_take (i := 12) (v := .pointer (some ⟨la, i, none⟩)) rfl (by kernel_rfl) (by kernel_rfl) (by kernel_rfl) (fun _ _ _ h => h) (Or.inl ⟨by rfl, fun w' _ => by go_simp⟩) hS0 ?_
        simp only [Act.put, List.getElem_toArray, List.getElem_cons_zero, List.getElem_cons_succ, List.setIfInBounds_toArray, List.set_cons_zero, List.set_cons_succ]
        refine wpAnyH_ready (rs := [13]) (by kernel_rfl) (by simp) (AllReadyH.cons rfl (fun Kt hK => ?_) AllReadyH.nil)
        refine wanted_pos rfl ?_
        refine wp_store1 rfl (by rfl) (by rfl) (u := vl) HVL.out HZ.out (hK.out _ _ ?_ (fun _ => ?_))
        · exact ⟨rfl, rfl, rfl, by simp, fun k hk hne => Below.heap_setCell _ _ _ _ (fun e => hne (by rw [e]))⟩
        clear hK Kt
        refine wpAnyH_done (by kernel_rfl) ?_ _
        refine NoPanic.normal ?_
        have hDd : RDk wr.drew r la na cl cn (some ⟨la, 0, none⟩) (some ⟨na, 0, none⟩) (D1.syp i) G := HDp.out.same (Nat.le_refl _) (fun _ _ => rfl)
        have hD2 := hDd.setl (i := i) (v := .slice (some ⟨g, 0, none⟩) 64 c) (G' := G) hlt (fun _ h => h) hDd.gl HSec.out (HS.out.same (fun _ _ _ => rfl))
        have hK2 : Kp (X3 r la na) W1 (wr.drew.setCell ⟨la, i, none⟩ (.slice (some ⟨g, 0, none⟩) 64 c)) := (HKp.out.grow (K.drew (Below.refl _ wr))).setCell (p := ⟨la, i, none⟩) (Or.inr (X3_of.2 (Or.inr (Or.inl rfl)))) _
        have hNN : ∃ vv, (wr.drew.setCell ⟨la, i, none⟩ (.slice (some ⟨g, 0, none⟩) 64 c)).cell? ⟨na, i, none⟩ = some vv := (hD2.nv i hlt).imp fun _ h => h.1
        obtain ⟨vv, hvv⟩ := hNN
        generalize wr.drew.setCell ⟨la, i, none⟩ (.slice (some ⟨g, 0, none⟩) 64 c) = W7 at hD2 hK2 hvv ⊢
        have d1 : W7.cell? ⟨r, 1, none⟩ = some (.slice (some ⟨na, 0, none⟩) D1.n cn) := hD2.c1
        have dz : W7.frozen? ⟨na, i, none⟩ = false := hD2.nz i hlt
        have HD2 := hide hD2
        have HK2 := hide hK2
        clear hD2 hK2 hDd hS0 HC0 HC1 HCN HVL HZ hlt h0 h1 hvn
        simp only [Act.put, List.getElem_toArray, List.getElem_cons_zero, List.getElem_cons_succ]
        go_wp2_with fail
        go_roundg (D1.n - (i + 1))
        case measure => have := HP.out.1; omega
        case rel =>
          have hD3 := HD2.out.setn (i := i) (v := .slice none 0 0) (nv := none) (G' := G) HP.out.1 (fun _ h => h) HD2.out.gl (Or.inl ⟨rfl, rfl⟩)
          exact ⟨i + 1, rfl, HP.out.1, by rw [hw], by rw [← DM.syp_some e0]; exact hD3, HK2.out.setCell (p := ⟨na, i, none⟩) (Or.inr (X3_of.2 (Or.inr (Or.inr rfl)))) _⟩
    · obtain rfl : i = D1.n := by omega
      clear hlt hp hn4
      go_wp2_with fail
      go_ret
      rw [HE1.out, ← DM.syp_end HD1.out.ok]
      exact ⟨rfl, G, HDp.out, HK1.out.trans HKp.out, fun k hk => Or.inl hk⟩
end Go.Proofs.Ytpophfeommlajaa
namespace Go.Proofs.Ytpophfeommlajaa
set_option maxRecDepth 100000

theorem wr_ok {D : DM} {i : Int} {l : List Nat} (h : D.wrE i l.length = 0) : D.dn = false ∧ 0 ≤ i ∧ i < D.n ∧ l.length = 64 ∧ (D.wr i l).dn = false ∧ (D.wr i l).n = D.n ∧ (D.wr i l).la = D.la ∧ (D.wr i l).nw = upd D.nw i.toNat (some l) := by
  unfold DM.wrE at h
  split at h
  · cases h
  · rename_i hd
    have hd' : D.dn = false := by simpa using hd
    split at h
    · rename_i hi
      split at h
      · rename_i hl
        split at h
        · rename_i hm
          have e : D.wr i l = { D.burn with nw := upd D.nw i.toNat (some l) } := by
            unfold DM.wr
            rw [if_neg hd, if_pos hi, if_pos hl, if_pos hm]
          rw [e]
          refine ⟨hd', hi.1, hi.2, hl, ?_, burn_n D, burn_la D, rfl⟩
          show D.burn.dn = false
          unfold DM.burn
          unfold DM.may at hm
          split
          · exact hd'
          · rename_i hf; rw [hf] at hm; cases hm
          · exact hd'
        · cases h
      · cases h
    · cases h
theorem sy_ok {D : DM} (h : D.syE = 0) : D.dn = false ∧ D.sy.calm ∧ D.sy.n = D.n ∧ D.sy.la = D.cur := by
  unfold DM.syE at h
  split at h
  · cases h
  · rename_i hd
    have hd' : D.dn = false := by simpa using hd
    split at h
    · rename_i hm
      have e : D.sy = { D.burn with la := fun i => (D.nw i).getD (D.la i), nw := fun _ => none } := by
        unfold DM.sy
        rw [if_neg hd, if_pos hm]
      rw [e]
      refine ⟨hd', ⟨rfl, ?_⟩, burn_n D, rfl⟩
      show D.burn.dn = false
      unfold DM.burn
      unfold DM.may at hm
      split
      · exact hd'
      · rename_i hf; rw [hf] at hm; cases hm
      · exact hd'
    · cases h
theorem calm_cur {D : DM} (h : D.calm) : D.cur = D.la := by
  funext k
  unfold DM.cur
  rw [h.nw]
  rfl
theorem ws_ok {D : DM} {i : Nat} {l : List Nat} (h : D.wsE (i : Int) l = 0) : D.dn = false ∧ i < D.n ∧ l.length = 64 ∧ (D.ws (i : Int) l).calm ∧ (D.ws (i : Int) l).n = D.n ∧ ∀ k, (D.ws (i : Int) l).cur k = if k = i then l else D.cur k := by
  unfold DM.wsE at h
  split at h
  · rename_i hw
    obtain ⟨h1, h2, h3, h4, h5, h6, h7, h8⟩ := wr_ok hw
    obtain ⟨g1, g2, g3, g4⟩ := sy_ok h
    have e : D.ws (i : Int) l = (D.wr (i : Int) l).sy := if_pos hw
    rw [e]
    refine ⟨h1, by omega, h4, g2, g3.trans h6, fun k => ?_⟩
    rw [calm_cur g2, g4]
    unfold DM.cur
    rw [h7, h8]
    unfold upd
    rw [Int.toNat_natCast]
    by_cases e : k = i
    · rw [if_pos e, if_pos e]; rfl
    · rw [if_neg e, if_neg e]
  · rename_i hw; exact absurd h hw
theorem rd_up {D : DM} (h : D.dn = false) {i : Nat} (hi : i < D.n) : D.rdE (i : Int) = 0 ∧ D.rdB (i : Int) = D.cur i := by
  have hi' : (0 : Int) ≤ (i : Int) ∧ (i : Int) < (D.n : Int) := by omega
  refine ⟨by simp [DM.rdE, h, hi'], ?_⟩
  simp [DM.rdB, h, hi']
theorem rd_inv {D : DM} {i : Nat} (h : D.rdE (i : Int) = 0) : D.dn = false ∧ i < D.n := by
  unfold DM.rdE at h
  split at h
  · cases h
  · rename_i hd
    split at h
    · rename_i hi; exact ⟨by simpa using hd, by omega⟩
    · cases h
theorem ld_inv {D : DM} {a : Nat} (h : D.ldE (a : Int) = 0) : D.dn = false ∧ a + 2 < D.n := by
  obtain ⟨h0, _, h2⟩ := ld_rd h
  have e : (a : Int) + 2 = ((a + 2 : Nat) : Int) := by omega
  rw [e] at h2
  exact ⟨(rd_inv h0).1, (rd_inv h2).2⟩
theorem ld_up {D : DM} (h : D.dn = false) {a : Nat} (ha : a + 2 < D.n) : D.ldE (a : Int) = 0 ∧ D.ldB (a : Int) = vl (D.cur a) (D.cur (a + 1)) (D.cur (a + 2)) := by
  obtain ⟨e0, b0⟩ := rd_up h (i := a) (by omega)
  obtain ⟨e1, b1⟩ := rd_up h (i := a + 1) (by omega)
  obtain ⟨e2, b2⟩ := rd_up h (i := a + 2) ha
  have c1 : ((a : Int) + 1) = ((a + 1 : Nat) : Int) := by omega
  have c2 : ((a : Int) + 2) = ((a + 2 : Nat) : Int) := by omega
  have e : D.ldE (a : Int) = 0 := by
    unfold DM.ldE
    rw [c1, c2, if_pos e0, if_pos e1, e2]
  exact ⟨e, by rw [ldB_of e, c1, c2, b0, b1, b2]⟩
theorem three_cur {D : DM} {a : Nat} (h : D.ldE (a : Int) = 0) {q : Nat} (hq : q < 3) : D.three a q = D.cur (a + q) := by
  obtain ⟨h1, h2⟩ := ld_inv h
  have e : (a : Int) + (q : Int) = ((a + q : Nat) : Int) := by omega
  unfold DM.three
  rw [e]
  exact (rd_up h1 (by omega)).2
/-- A Mend, as far as it went through. -/
theorem md2_ok {D : DM} (hd : D.dn = false) {a : Nat} {B : Nat → List Nat} (hB : ∀ q, q < 3 → B q = D.cur (a + q)) {v : List Nat} : ∀ j, j ≤ 3 → (md2 D a B v j).2 = 0 → (md2 D a B v j).1.dn = false ∧ (md2 D a B v j).1.n = D.n ∧ ∀ k, (md2 D a B v j).1.cur k = if a ≤ k ∧ k < a + j then v else D.cur k
  | 0, _, _ => ⟨hd, rfl, fun k => (if_neg (by omega)).symm⟩
  | j + 1, hj, he => by
    by_cases e : (md2 D a B v j).2 = 0
    · obtain ⟨h1, h2, h3⟩ := md2_ok hd hB j (by omega) e
      by_cases hs : B j = v
      · have es : md2 D a B v (j + 1) = md2 D a B v j := (if_pos e).trans (if_pos hs)
        rw [es]
        refine ⟨h1, h2, fun k => ?_⟩
        rw [h3]
        by_cases e1 : k = a + j
        · rw [if_neg (by omega), if_pos (by omega), e1, ← hB j (by omega), hs]
        · by_cases e2 : a ≤ k ∧ k < a + j
          · rw [if_pos e2, if_pos (by omega)]
          · rw [if_neg e2, if_neg (by omega)]
      · have es : md2 D a B v (j + 1) = ((md2 D a B v j).1.ws ((a : Int) + (j : Int)) v, (md2 D a B v j).1.wsE ((a : Int) + (j : Int)) v) := (if_pos e).trans (if_neg hs)
        have c : ((a : Int) + (j : Int)) = ((a + j : Nat) : Int) := by omega
        rw [es, c] at he ⊢
        obtain ⟨_, _, _, g4, g5, g6⟩ := ws_ok he
        refine ⟨g4.dn, g5.trans h2, fun k => ?_⟩
        show DM.cur _ k = _
        rw [g6, h3]
        by_cases e1 : k = a + j
        · rw [if_pos e1, if_pos (by omega)]
        · rw [if_neg e1]
          by_cases e2 : a ≤ k ∧ k < a + j
          · rw [if_pos e2, if_pos (by omega)]
          · rw [if_neg e2, if_neg (by omega)]
    · have es : md2 D a B v (j + 1) = md2 D a B v j := if_neg e
      rw [es] at he
      exact absurd he e
/-- Behind a Mend that is answered OK. -/
theorem mend_ok {D : DM} {a : Nat} (h : D.mendE (a : Int) = 0) : D.dn = false ∧ a + 2 < D.n ∧ (D.mendD (a : Int)).dn = false ∧ (D.mendD (a : Int)).n = D.n ∧ (∀ k, (D.mendD (a : Int)).cur k = if a ≤ k ∧ k < a + 3 then D.ldB (a : Int) else D.cur k) ∧ (D.mendD (a : Int)).ldE (a : Int) = 0 ∧ (D.mendD (a : Int)).ldB (a : Int) = D.ldB (a : Int) := by
  by_cases he : D.ldE (a : Int) = 0
  · obtain ⟨hd, hn⟩ := ld_inv he
    have e1 : D.mendE (a : Int) = (md2 D a (D.three a) (D.ldB (a : Int)) 3).2 := if_pos he
    have e2 : D.mendD (a : Int) = (md2 D a (D.three a) (D.ldB (a : Int)) 3).1 := if_pos he
    rw [e1] at h
    obtain ⟨h1, h2, h3⟩ := md2_ok hd (fun q hq => three_cur he hq) 3 (by omega) h
    rw [e2]
    obtain ⟨g1, g2⟩ := ld_up h1 (a := a) (by rw [h2]; exact hn)
    refine ⟨hd, hn, h1, h2, h3, g1, ?_⟩
    rw [g2, h3, h3, h3, if_pos (by omega), if_pos (by omega), if_pos (by omega)]
    exact if_pos rfl
  · have e1 : D.mendE (a : Int) = D.ldE (a : Int) := if_neg he
    rw [e1] at h
    exact absurd h he
/-- What Open answers, and leaves: the error, the entries. -/
def DM.opO (D : DM) : Option (List (List Nat)) := opn ((D.mendD 0).ldB 0) (D.mendD 0).cur D.n
def DM.opE (D : DM) : Int := if D.mendE 0 = 0 then (if D.opO.isSome then 0 else 2) else D.mendE 0
def DM.opL (D : DM) : List (List Nat) := D.opO.getD []
/-- Opened again it is the same. -/
theorem op_again {D : DM} (h : D.mendE 0 = 0) : (D.mendD 0).mendE 0 = 0 ∧ (D.mendD 0).mendD 0 = D.mendD 0 ∧ (D.mendD 0).opO = D.opO ∧ (D.mendD 0).opE = D.opE := by
  obtain ⟨h1, h2, h3, h4, h5, h6, h7⟩ := mend_ok (a := 0) h
  replace h3 : (D.mendD 0).dn = false := h3
  replace h4 : (D.mendD 0).n = D.n := h4
  replace h5 : ∀ k, (D.mendD 0).cur k = if 0 ≤ k ∧ k < 0 + 3 then D.ldB 0 else D.cur k := h5
  replace h6 : (D.mendD 0).ldE 0 = 0 := h6
  replace h7 : (D.mendD 0).ldB 0 = D.ldB 0 := h7
  have key : ∀ j, j ≤ 3 → md2 (D.mendD 0) 0 ((D.mendD 0).three 0) ((D.mendD 0).ldB 0) j = (D.mendD 0, 0) := by
    intro j
    induction j with
    | zero => intro _; rfl
    | succ j ih =>
      intro hj
      have ih := ih (by omega)
      have hB : (D.mendD 0).three 0 j = (D.mendD 0).ldB 0 := by
        have e := three_cur (D := D.mendD 0) (a := 0) h6 (q := j) (by omega)
        rw [Nat.zero_add] at e
        have e' : (D.mendD 0).three 0 j = (D.mendD 0).cur j := e
        rw [e', h5, if_pos (by omega), h7]
      show (if (md2 (D.mendD 0) 0 ((D.mendD 0).three 0) ((D.mendD 0).ldB 0) j).2 = 0 then (if (D.mendD 0).three 0 j = (D.mendD 0).ldB 0 then md2 (D.mendD 0) 0 ((D.mendD 0).three 0) ((D.mendD 0).ldB 0) j else _) else _) = _
      rw [ih, if_pos rfl, if_pos hB]
  have e1 : (D.mendD 0).mendE 0 = 0 := (if_pos h6).trans (by rw [key 3 (by omega)])
  have e2 : (D.mendD 0).mendD 0 = D.mendD 0 := (if_pos h6).trans (by rw [key 3 (by omega)])
  have e3 : (D.mendD 0).opO = D.opO := by unfold DM.opO; rw [e2, h4]
  refine ⟨e1, e2, e3, ?_⟩
  unfold DM.opE
  rw [e1, e3, if_pos rfl, if_pos h]
theorem wr_la' (D : DM) (i : Int) (l : List Nat) : (D.wr i l).la = D.la ∧ (D.wr i l).n = D.n := by
  unfold DM.wr
  split
  · exact ⟨rfl, rfl⟩
  · split
    · split
      · split
        · exact ⟨burn_la D, burn_n D⟩
        · exact ⟨burn_la D, burn_n D⟩
      · exact ⟨rfl, rfl⟩
    · exact ⟨rfl, rfl⟩
theorem wr_nw' (D : DM) (i : Int) (l : List Nat) {j : Nat} (h : (j : Int) ≠ i) : (D.wr i l).nw j = D.nw j := by
  unfold DM.wr
  split
  · rfl
  · split
    · rename_i hi
      split
      · split
        · show upd D.nw i.toNat (some l) j = _
          exact if_neg (by omega)
        · rw [burn_nw]
      · rfl
    · rfl
/-- An entry is written, sector by sector, from a place on. -/
def apw (D : DM) (p : Nat) (f : Nat → Nat) (m : Nat) : Nat → DM × Int
  | 0 => (D, 0)
  | j + 1 => if (apw D p f m j).2 = 0 then ((apw D p f m j).1.wr ((p + j : Nat) : Int) (esec f m j), (apw D p f m j).1.wrE ((p + j : Nat) : Int) 64) else apw D p f m j
theorem apw_err {D : DM} {p : Nat} {f : Nat → Nat} {m j : Nat} (h : (apw D p f m j).2 ≠ 0) : ∀ k, j ≤ k → apw D p f m k = apw D p f m j := by
  intro k hk
  induction k with
  | zero => rw [show j = 0 by omega]
  | succ k ih =>
    by_cases e : j = k + 1
    · rw [e]
    · have ih := ih (by omega)
      show (if (apw D p f m k).2 = 0 then _ else apw D p f m k) = _
      rw [ih, if_neg h]
/-- What it leaves: what lasts, and what was written elsewhere, stays; as far as it went through, it is there. -/
theorem apw_la (D : DM) (p : Nat) (f : Nat → Nat) (m : Nat) : ∀ j, (apw D p f m j).1.la = D.la ∧ (apw D p f m j).1.n = D.n ∧ ∀ k, k < p ∨ p + j ≤ k → (apw D p f m j).1.nw k = D.nw k
  | 0 => ⟨rfl, rfl, fun _ _ => rfl⟩
  | j + 1 => by
    obtain ⟨h1, h2, h3⟩ := apw_la D p f m j
    by_cases e : (apw D p f m j).2 = 0
    · have es : apw D p f m (j + 1) = ((apw D p f m j).1.wr ((p + j : Nat) : Int) (esec f m j), (apw D p f m j).1.wrE ((p + j : Nat) : Int) 64) := if_pos e
      rw [es]
      have hw := wr_la' (apw D p f m j).1 ((p + j : Nat) : Int) (esec f m j)
      exact ⟨hw.1.trans h1, hw.2.trans h2, fun k hk => (wr_nw' _ _ _ (by omega)).trans (h3 k (by omega))⟩
    · have es : apw D p f m (j + 1) = apw D p f m j := if_neg e
      rw [es]
      exact ⟨h1, h2, fun k hk => h3 k (by omega)⟩
theorem apw_ok {D : DM} {p : Nat} {f : Nat → Nat} {m : Nat} : ∀ {j : Nat}, (apw D p f m j).2 = 0 → D.dn = false → (apw D p f m j).1.dn = false ∧ ∀ k, (apw D p f m j).1.cur k = if p ≤ k ∧ k < p + j then esec f m (k - p) else D.cur k
  | 0, _, hd => ⟨hd, fun k => (if_neg (by omega)).symm⟩
  | j + 1, he, hd => by
    by_cases e : (apw D p f m j).2 = 0
    · obtain ⟨h1, h2⟩ := apw_ok e hd
      have es : apw D p f m (j + 1) = ((apw D p f m j).1.wr ((p + j : Nat) : Int) (esec f m j), (apw D p f m j).1.wrE ((p + j : Nat) : Int) 64) := if_pos e
      rw [es] at he ⊢
      have hl : (esec f m j).length = 64 := fl_len _ _
      obtain ⟨_, _, _, _, g5, _, g7, g8⟩ := wr_ok (l := esec f m j) (by rw [hl]; exact he)
      refine ⟨g5, fun k => ?_⟩
      show DM.cur _ k = _
      have hc : DM.cur ((apw D p f m j).1.wr ((p + j : Nat) : Int) (esec f m j)) k = if k = p + j then esec f m j else (apw D p f m j).1.cur k := by
        unfold DM.cur
        rw [g7, g8]
        unfold upd
        rw [Int.toNat_natCast]
        by_cases e1 : k = p + j
        · rw [if_pos e1, if_pos e1]; rfl
        · rw [if_neg e1, if_neg e1]
      rw [hc, h2]
      by_cases e1 : k = p + j
      · rw [if_pos e1, if_pos (by omega), show k - p = j by omega]
      · rw [if_neg e1]
        by_cases e2 : p ≤ k ∧ k < p + j
        · rw [if_pos e2, if_pos (by omega)]
        · rw [if_neg e2, if_neg (by omega)]
    · have es : apw D p f m (j + 1) = apw D p f m j := if_neg e
      rw [es] at he
      exact absurd he e
end Go.Proofs.Ytpophfeommlajaa
