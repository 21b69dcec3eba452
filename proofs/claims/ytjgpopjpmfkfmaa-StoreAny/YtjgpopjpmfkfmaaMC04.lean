/- Layer 13: the program's Write. Layer 13: the program's Sync. Layer 13: the places of what was written, sorted, by the library's own slices.Sorted and maps.Keys. Layer 13: the program's Crash. -/
import Derived.Test.YtjgpopjpmfkfmaaMC03
import Derived.Test.YtjgpopjpmfkfmaaMC01
namespace Go.Proofs.Ytjgpopjpmfkfmaa
set_option maxRecDepth 100000
open Go.RowKit Go.Maps
attribute [local go_sem ↓] Go.wp_at_zero Go.wp_at_succ

theorem Dsk.mapd {w w' : World} {b lb mb : Nat} {D : DM} {nw : Nat → Option (List Nat)} (h : Dsk w b lb mb D) (hm : Mp w' mb { D with nw := nw }) (hg : w.grownBy w' (some mb)) (hn : ∀ i l, nw i = some l → i < D.n ∧ sec l) : Dsk w' b lb mb { D with nw := nw } := by
  have e1 := hg.block b h.bl (fun e => h.n2 (Option.some.inj e))
  have e2 := hg.block lb h.ll (fun e => h.n3 (Option.some.inj e))
  have c1 : ∀ o, w'.cell? ⟨b, o, none⟩ = w.cell? ⟨b, o, none⟩ := fun o => World.cell?_of_block (w := w) e1
  have c2 : ∀ o, w'.cell? ⟨lb, o, none⟩ = w.cell? ⟨lb, o, none⟩ := fun o => World.cell?_of_block (w := w) e2
  have f1 : ∀ o, w'.frozen? ⟨b, o, none⟩ = w.frozen? ⟨b, o, none⟩ := fun o => World.frozen?_of_block (w := w) e1
  have f2 : ∀ o, w'.frozen? ⟨lb, o, none⟩ = w.frozen? ⟨lb, o, none⟩ := fun o => World.frozen?_of_block (w := w) e2
  exact ⟨(c1 0).trans h.c0, (c1 1).trans h.c1, (c1 2).trans h.c2, (c1 3).trans h.c3, (c1 4).trans h.c4, fun i hi => (f1 i).trans (h.z i hi), Nat.lt_of_lt_of_le h.bl hg.size, Nat.lt_of_lt_of_le h.ll hg.size,
    fun i hi j v hv => (c2 _).trans (h.rows i hi j v hv), fun j hj => ⟨by rw [c2]; exact (h.th j hj).1, by rw [f2]; exact (h.th j hj).2⟩, hm, h.n1, h.n2, h.n3, ⟨h.ok.n, h.ok.la, hn, h.ok.fu⟩⟩
theorem kp_map {w w' : World} {b lb mb : Nat} (hg : w.grownBy w' (some mb)) : Kp (X3 b lb mb) w w' :=
  ⟨hg.os, hg.tape, hg.output, hg.size, fun k hk hx => hg.block k hk (fun e => by
    rw [X3_of.2 (Or.inr (Or.inr (Option.some.inj e)))] at hx
    cases hx)⟩
/-- What Write answers, and what it leaves. -/
def DM.wrE (D : DM) (i : Int) (m : Nat) : Int := if D.dn then 6 else if 0 ≤ i ∧ i < D.n then (if m = 64 then (if D.may then 0 else 6) else 1) else 3
def DM.wr (D : DM) (i : Int) (l : List Nat) : DM := if D.dn then D else if 0 ≤ i ∧ i < D.n then (if l.length = 64 then (if D.may then { D.burn with nw := upd D.nw i.toNat (some l) } else D.burn) else D) else D
theorem burn_n (D : DM) : D.burn.n = D.n := by unfold DM.burn; split <;> rfl
theorem burn_nw (D : DM) : D.burn.nw = D.nw := by unfold DM.burn; split <;> rfl
theorem burn_la (D : DM) : D.burn.la = D.la := by unfold DM.burn; split <;> rfl
theorem copy_sec {w : World} {g : Nat} {x : Option Addr} {c : Nat} {f : Nat → Nat} (ht : w.there g 0 64) (hb : BA w x 64 f) (ty : TypeId) :
    (Builtin.copy_ #[38, 38] ty #[.slice (some ⟨g, 0, none⟩) 64 64, .slice x 64 c]).run Try.prog w = .ok (.int .i64 64) (w.setCells g 0 (cells8 (fl f 64))) := by
  rcases hb.at_ with h0 | ⟨b, o, rfl, hr⟩
  · cases h0
  have hl : (cells8 (fl f 64)).length = 64 := by rw [cells8_len, fl_len]
  have := run_copy_cells (P := Try.prog) w 38 38 ty 5 g 0 64 64 ⟨b, o, none⟩ 64 c (cells8 (fl f 64)) Try.underlying38 (by kernel_rfl) (by rw [hl]; rfl) (fun j v hv => by
      have hj : j < 64 := by have := (List.getElem?_eq_some_iff.1 hv).1; omega
      rw [Addr.add_mid, hr.c j hj]
      rw [cells8_at _ j (by rw [fl_len]; exact hj), List.getD_eq_getElem?_getD, fl_at f hj] at hv
      simpa using hv) (fun j hj => (ht j (by omega)).1) (fun j hj => (ht j (by omega)).2) (cells8_one _)
  rw [this, hl]
  rfl
/-- Bytes that are handed in lie in none of the disk's blocks. -/
theorem BA.kp {X : Nat → Bool} {w w' : World} {x : Option Addr} {m : Nat} {f : Nat → Nat} (h : BA w x m f) (hz : ∀ p, x = some p → X p.block = false) (hk : Kp X w w') : BA w' x m f := by
  refine ⟨h.lt, h.at_.elim Or.inl fun ⟨b, o, e, hr⟩ => Or.inr ⟨b, o, e, ⟨fun i hi => ?_⟩⟩⟩
  have hc := hr.c i hi
  rw [hk.cell (p := ⟨b, o + i, none⟩) (World.block_lt_of_cell? w _ hc) (hz ⟨b, o, none⟩ e)]
  exact hc
section
variable {w : World} {ops : Array Oper} {rest : List Oper} {o : Oper} {a : Act} {Q : Exit → Act → World → Prop}
theorem wpList_copy_sec (hgd : o.guard = none) (x y : Operand) (hop : o.op = Op.call { callee := .builtin .copy, args := #[x, y], argTypes := #[38, 38] }) {g : Nat} {z : Option Addr} {c : Nat} {f : Nat → Nat} (hx : a.eval x = .slice (some ⟨g, 0, none⟩) 64 64) (hy : a.eval y = .slice z 64 c) (ht : w.there g 0 64) (hb : BA w z 64 f) (hK : ∀ w', Hid (w' = w.setCells g 0 (cells8 (fl f 64))) → wpList Try.prog ops Q rest (a.put o.dst (.int .i64 64)) w') : wpList Try.prog ops Q (o :: rest) a w := by
  refine wpList_plain hgd fun K' hK' => ?_
  have hrun := copy_sec (c := c) ht hb o.type
  unfold Oper.wp
  simp only [execOp, hop, resolve, invoke, builtin, List.map_toArray, List.map_cons, List.map_nil, hx, hy, hrun, Sem.run_bind, Sem.run_pure, Result.andThen_ok]
  exact hK' _ _ (hK _ rfl)
theorem wp_write_sec {K : Act → World → Prop} (m x v : Operand) (hop : o.op = Op.mapUpdate 68 m x v) {mb : Nat} {D : DM} (h : Mp w mb D) (hok : D.ok) (hm : a.eval m = .map (some mb)) {i : Nat} (hx : a.eval x = .int .i64 (i : Int)) {l : List Nat} (hv : a.eval v = secV l) (hi : i < D.n) (hl : sec l)
    (hK : ∀ w', Mp w' mb { D with nw := upd D.nw i (some l) } → w.grownBy w' (some mb) → K (a.put o.dst undef) w') : o.wp Try.prog a w K Q := by
  obtain ⟨w', hrun, h1, h2⟩ := h.write hok hi hl
  unfold Oper.wp
  simp [execOp, hop, hm, hx, hv, hrun, Result.andThen]
  exact hK w' h1 h2
end
/-- What a call on a disk leaves. -/
def WrP (w : World) (b lb mb : Nat) (D : DM) (er : Int) (e : Ending) (w' : World) : Prop := e = .returned (.int .i64 er) ∧ Dsk w' b lb mb D ∧ Kp (X3 b lb mb) w w'
set_option maxRecDepth 100000 in
set_option maxHeartbeats 8000000 in
theorem write_any {w : World} {b lb mb : Nat} {D : DM} (h : Dsk w b lb mb D) (i : Int) {z : Option Addr} {m c : Nat} {f : Nat → Nat} (hb : BA w z m f) (hz : 0 < m → ∀ p, z = some p → X3 b lb mb p.block = false) : Calls Try.prog 22 #[pp b, .int .i64 i, .slice z m c] w (WrP w b lb mb (D.wr i (fl f m)) (D.wrE i m)) := by
  have HD := hide h
  cases hdn : D.dn with
  | true =>
    have e1 : D.wr i (fl f m) = D := if_pos hdn
    have e2 : D.wrE i m = 6 := if_pos hdn
    rw [e1, e2]
    clear h e1 e2 hb hz
    go_enter Try.func22, Try.ntmps22
    go_wp2_with (go_at_call 24; refine Calls.mono (down_any HD.out) ?_; rintro e w' ⟨rfl, rfl⟩)
    go_ret
    exact ⟨rfl, HD.out, Kp.refl _ _⟩
  | false =>
    have hdn' : ¬ D.dn = true := by simp [hdn]
    by_cases hi : 0 ≤ i ∧ i < D.n
    · have hd : decide (0 ≤ i ∧ i < (D.n : Int)) = true := decide_eq_true hi
      by_cases hm : m = 64
      · obtain ⟨k, rfl⟩ : ∃ k : Nat, i = (k : Int) := ⟨i.toNat, by omega⟩
        subst hm
        have hk : k < D.n := by omega
        have HK := hide hk
        have HB := hide hb
        have HZ := hide hz
        cases hmay : D.may with
        | false =>
          have e1 : D.wr k (fl f 64) = D.burn := by
            unfold DM.wr
            rw [if_neg hdn', if_pos hi, if_pos (fl_len f 64), if_neg (by simp [hmay])]
          have e2 : D.wrE k 64 = 6 := by
            unfold DM.wrE
            rw [if_neg hdn', if_pos hi, if_pos rfl, if_neg (by simp [hmay])]
          rw [e1, e2]
          clear h e1 e2 hb hdn' hi hz
          go_enter Try.func22, Try.ntmps22
          go_wp2_with (first
            | (go_at_call 24; refine Calls.mono (down_any HD.out) ?_; rintro e w' ⟨rfl, rfl⟩)
            | (go_at_call 58; refine Calls.mono (has_any HD.out _) ?_; rintro e w' ⟨rfl, rfl⟩)
            | (go_at_call 59; refine Calls.mono (burn_any HD.out) ?_; rintro e W1 ⟨rfl, hD1, hK1⟩))
          go_ret
          exact ⟨rfl, hD1, hK1⟩
        | true =>
          have e1 : D.wr k (fl f 64) = { D.burn with nw := upd D.burn.nw k (some (fl f 64)) } := by
            unfold DM.wr
            rw [if_neg hdn', if_pos hi, if_pos (fl_len f 64), if_pos (by simp [hmay]), burn_nw]
            rfl
          have e2 : D.wrE k 64 = 0 := by
            unfold DM.wrE
            rw [if_neg hdn', if_pos hi, if_pos rfl, if_pos (by simp [hmay])]
          have HL : Hid (sec (fl f 64)) := ⟨fl_len f 64, fl_lt hb.lt 64⟩
          rw [e1, e2]
          clear h e1 e2 hb hdn' hi hz
          go_enter Try.func22, Try.ntmps22
          go_wp2_with (first
            | (go_at_call 24; refine Calls.mono (down_any HD.out) ?_; rintro e w' ⟨rfl, rfl⟩)
            | (go_at_call 58; refine Calls.mono (has_any HD.out _) ?_; rintro e w' ⟨rfl, rfl⟩)
            | (go_at_call 59; refine Calls.mono (burn_any HD.out) ?_; rintro e W1 ⟨rfl, hD1, hK1⟩)
            | (refine wpList_alloc_sec rfl rfl ?_; intro W2 V2)
            | (refine wpList_copy_sec rfl _ _ rfl (by rfl) (by rfl) V2.t ((HB.out.kp (HZ.out (by omega)) hK1).keep V2.bl) ?_; intro W3 hW3; have V3 := V2.put HL.out hW3.out; clear hW3))
          have hD3 := (hD1.keep V3.bl).keep (K.drew (Below.refl _ W3))
          have hkb : k < D.burn.n := by rw [burn_n]; exact HK.out
          refine wp_region_noPanic ?_
          refine wp_region_held_drew (S := fun w' => w'.cell? ⟨b, 1, none⟩ = some (.map (some mb)) ∧ w'.rangeAt W1.heap.size 0 (cells8 (fl f 64))) (by kernel_rfl) ⟨hD3.c1, V3.r⟩ (fun hS0 => ?_)
          refine wpAnyH_take (i := 0) (v := pp b) rfl (by kernel_rfl) (by kernel_rfl) (by kernel_rfl) (fun _ _ _ h => h) (Or.inl ⟨by rfl, fun w' _ => by go_simp⟩) hS0 ?_
          simp only [Act.put, List.getElem_toArray, List.getElem_cons_zero, List.setIfInBounds_toArray, List.set_cons_zero, List.set_cons_succ]
          refine wpAnyH_take (i := 1) (v := pp b) rfl (by kernel_rfl) (by kernel_rfl) (by kernel_rfl) (fun _ _ _ h => h) (Or.inl ⟨by rfl, fun w' _ => by go_simp⟩) hS0 ?_
          simp only [Act.put, List.getElem_toArray, List.getElem_cons_zero, List.getElem_cons_succ, List.setIfInBounds_toArray, List.set_cons_zero, List.set_cons_succ]
          refine wpAnyH_take (i := 2) (v := .pointer (some ⟨b, 1, none⟩)) rfl (by kernel_rfl) (by kernel_rfl) (by kernel_rfl) (fun _ _ _ h => h) (Or.inl ⟨by rfl, fun w' _ => by go_simp⟩) hS0 ?_
          simp only [Act.put, List.getElem_toArray, List.getElem_cons_zero, List.getElem_cons_succ, List.setIfInBounds_toArray, List.set_cons_zero, List.set_cons_succ]
          refine wpAnyH_take (i := 3) (v := .map (some mb)) rfl (by kernel_rfl) (by kernel_rfl) (by kernel_rfl) (fun _ _ _ h => h) (Or.inl ⟨by rfl, fun w' hS => by have hc := hS.1; go_simp⟩) hS0 ?_
          simp only [Act.put, List.getElem_toArray, List.getElem_cons_zero, List.getElem_cons_succ, List.setIfInBounds_toArray, List.set_cons_zero, List.set_cons_succ]
          refine wpAnyH_take (i := 4) (v := .int .i64 (k : Int)) rfl (by kernel_rfl) (by kernel_rfl) (by kernel_rfl) (fun _ _ _ h => h) (Or.inl ⟨by rfl, fun w' _ => by go_simp⟩) hS0 ?_
          simp only [Act.put, List.getElem_toArray, List.getElem_cons_zero, List.getElem_cons_succ, List.setIfInBounds_toArray, List.set_cons_zero, List.set_cons_succ]
          refine wpAnyH_take (i := 5) (v := secV (fl f 64)) rfl (by kernel_rfl) (by kernel_rfl) (by kernel_rfl) (fun _ _ _ h => h) (yieldsIf_load_mid (by rfl) 98 _ rfl W1.heap.size 0 (by rfl) (cells8 (fl f 64)) _ (fun w' hS => hS.2) Try.underlying98 rfl (by rw [cells8_len' HL.out]; exact sizeSec)) hS0 ?_
          simp only [Act.put, List.getElem_toArray, List.getElem_cons_zero, List.getElem_cons_succ, List.setIfInBounds_toArray, List.set_cons_zero, List.set_cons_succ]
          refine wpAnyH_ready (rs := [6]) (by kernel_rfl) (by simp) (AllReadyH.cons rfl (fun Kt hK => ?_) AllReadyH.nil)
          refine wanted_pos rfl ?_
          refine wp_write_sec _ _ _ rfl (w := W3.drew) (hD3.mp) hD3.ok (by rfl) (by rfl) (by rfl) hkb HL.out (fun W4 hM4 hg4 => hK.out _ _ ?_ (fun _ => ?_))
          · exact ⟨(World.cell?_of_block (w := W3.drew) (hg4.block b hD3.bl (fun e => hD3.n2 (Option.some.inj e)))).trans hS0.1, fun j v hv => (World.cell?_of_block (w := W3.drew) (hg4.block _ V3.lt (fun e => by
              have h1 := hD1.mp.lt
              rw [← Option.some.inj e] at h1
              exact Nat.lt_irrefl _ h1))).trans (hS0.2 j v hv)⟩
          clear hK Kt
          refine wpAnyH_done (by kernel_rfl) ?_ _
          refine NoPanic.normal ?_
          have hD4 : Dsk W4 b lb mb { D.burn with nw := upd D.burn.nw k (some (fl f 64)) } := hD3.mapd hM4 hg4 (fun j l hj => by
            by_cases e : j = k
            · subst e
              simp only [upd, if_true, Option.some.injEq] at hj
              subst hj
              exact ⟨hkb, HL.out⟩
            · simp only [upd, if_neg e] at hj
              exact hD3.ok.nw j l hj)
          have hK4 : Kp (X3 b lb mb) w' W4 := ((hK1.grow V3.bl).grow (K.drew (Below.refl _ W3))).trans (kp_map (w := W3.drew) hg4)
          clear hM4 hg4 hD3 hD1 hK1 V2 V3 hS0
          go_wp2_with fail
          go_ret
          exact ⟨rfl, hD4, hK4⟩
      · have e1 : D.wr i (fl f m) = D := by
          unfold DM.wr
          rw [if_neg hdn', if_pos hi, if_neg (by rw [fl_len]; exact hm)]
        have e2 : D.wrE i m = 1 := by
          unfold DM.wrE
          rw [if_neg hdn', if_pos hi, if_neg hm]
        have hm' : ((m : Int) == 64) = false := by simp; omega
        rw [e1, e2]
        clear h e1 e2 hb hdn' hi hz
        go_enter Try.func22, Try.ntmps22
        go_wp2_with (first
          | (go_at_call 24; refine Calls.mono (down_any HD.out) ?_; rintro e w' ⟨rfl, rfl⟩)
          | (go_at_call 58; refine Calls.mono (has_any HD.out _) ?_; rintro e w' ⟨rfl, rfl⟩))
        go_ret
        exact ⟨rfl, HD.out, Kp.refl _ _⟩
    · have hd : decide (0 ≤ i ∧ i < (D.n : Int)) = false := decide_eq_false hi
      have e1 : D.wr i (fl f m) = D := by
        unfold DM.wr
        rw [if_neg hdn', if_neg hi]
      have e2 : D.wrE i m = 3 := by
        unfold DM.wrE
        rw [if_neg hdn', if_neg hi]
      rw [e1, e2]
      clear h e1 e2 hb hdn' hi hz
      go_enter Try.func22, Try.ntmps22
      go_wp2_with (first
        | (go_at_call 24; refine Calls.mono (down_any HD.out) ?_; rintro e w' ⟨rfl, rfl⟩)
        | (go_at_call 58; refine Calls.mono (has_any HD.out _) ?_; rintro e w' ⟨rfl, rfl⟩))
      go_ret
      exact ⟨rfl, HD.out, Kp.refl _ _⟩
end Go.Proofs.Ytjgpopjpmfkfmaa
namespace Go.Proofs.Ytjgpopjpmfkfmaa
set_option maxRecDepth 100000
open Go.RowKit Go.Maps
attribute [local go_sem ↓] Go.wp_at_zero Go.wp_at_succ

theorem grown_set64 (g : Nat) (vs : List Value) (o : Nat) (w : World) : w.grownBy (w.setCells g o vs) (some g) := by
  have h := kp_sets (X := fun k => Nat.beq k g) g (Nat.beq_refl g) vs o w (Kp.refl _ w)
  exact h.grown
/-- A sector of what lasts is put anew. -/
theorem Dsk.row {w : World} {b lb mb : Nat} {D : DM} (h : Dsk w b lb mb D) {i : Nat} (hi : i < D.n) {l : List Nat} (hl : sec l) : Dsk (w.setCells lb (i * 64) (cells8 l)) b lb mb { D with la := upd D.la i l } := by
  have hg := grown_set64 lb (cells8 l) (i * 64) w
  have e1 := hg.block b h.bl (fun e => h.n1 (Option.some.inj e))
  have e3 := hg.block mb h.mp.lt (fun e => h.n3 (Option.some.inj e).symm)
  have c1 : ∀ o, (w.setCells lb (i * 64) (cells8 l)).cell? ⟨b, o, none⟩ = w.cell? ⟨b, o, none⟩ := fun o => World.cell?_of_block (w := w) e1
  have f1 : ∀ o, (w.setCells lb (i * 64) (cells8 l)).frozen? ⟨b, o, none⟩ = w.frozen? ⟨b, o, none⟩ := fun o => World.frozen?_of_block (w := w) e1
  have ht : w.there lb (i * 64) (cells8 l).length := fun j hj => by
    rw [cells8_len' hl] at hj
    have := h.th (i * 64 + j) (by omega)
    rwa [Nat.zero_add] at this
  obtain ⟨E, ⟨es, clock, hbm, r⟩, hE⟩ := h.mp
  refine ⟨(c1 0).trans h.c0, (c1 1).trans h.c1, (c1 2).trans h.c2, (c1 3).trans h.c3, (c1 4).trans h.c4, fun i hi => (f1 i).trans (h.z i hi), Nat.lt_of_lt_of_le h.bl hg.size, Nat.lt_of_lt_of_le h.ll hg.size,
    fun j hj => ?_, World.there_setCells h.th _ _ _, ⟨E, ⟨es, clock, e3.trans hbm, r⟩, hE⟩, h.n1, h.n2, h.n3, ⟨h.ok.n, fun j => ?_, h.ok.nw, h.ok.fu⟩⟩
  · by_cases e : j = i
    · subst e
      simp only [upd, if_true]
      exact World.rangeAt_setCells_same _ _ _ _ ht
    · simp only [upd, if_neg e]
      refine World.rangeAt_setCells_apart (h.rows j hj) _ _ _ (Or.inr ?_)
      rw [cells8_len' hl, cells8_len' (h.ok.la j)]
      omega
  · by_cases e : j = i
    · subst e; simp only [upd, if_true]; exact hl
    · simp only [upd, if_neg e]; exact h.ok.la j
theorem kp_row {b lb mb : Nat} {w : World} (o : Nat) (vs : List Value) : Kp (X3 b lb mb) w (w.setCells lb o vs) := kp_sets lb (X3_of.2 (Or.inr (Or.inl rfl))) vs o w (Kp.refl _ w)
section
variable {w : World} {ops : Array Oper} {rest : List Oper} {o : Oper} {a : Act} {Q : Exit → Act → World → Prop}
theorem wpList_next_sec (hg : o.guard = none) (it : Operand) (hop : o.op = Op.next it false) {E : DataW Unit} {N : Nat} {nw : Nat → Option (List Nat)} (hE : MpD E N nw) (mb r n : Nat) (left : Lit → Bool) (cnt : Nat) (hleft : ∀ kl, left kl = true → Maps.has E kl = true)
    (hit : a.eval it = .pointer (some ⟨r, 0, none⟩)) (h : w.ranges Try.prog 3 secR mb r n E left cnt)
    (hDone : (∀ kl, left kl = false) → wpList Try.prog ops Q rest (a.put o.dst (.tuple #[.bool false])) w)
    (hMore : ∀ (i : Nat) (l : List Nat) (w' : World) (cnt' : Nat), i < N → nw i = some l → left (kz i) = true → w'.ranges Try.prog 3 secR mb r n E (fun z => left z && !z.sameKey (kz i)) cnt' → cnt' < cnt →
      w.grownBy w' (some r) → w'.heap.size = w.heap.size → (Instr.entry (.pointer (some ⟨r, 0, none⟩))).run Try.prog w' = .ok (.tuple #[.int .i64 (i : Int), secV l]) w' → wpList Try.prog ops Q rest (a.put o.dst (.tuple #[.bool true, .int .i64 (i : Int), secV l])) w') :
    wpList Try.prog ops Q (o :: rest) a w := by
  refine wpList_next_ranges w hg it hop 3 keyed3 secR (Value.int .i64) secV (fun key kl hkey => by obtain ⟨x, rfl, _⟩ := Maps.keyOf_int_inv Try.underlying3 hkey; exact ⟨x, rfl⟩) (fun v y hv => by obtain ⟨l, _, rfl, _⟩ := secR_inv hv; exact ⟨l, rfl⟩) mb r n E left cnt hit h (fun _ hl => hDone hl) (fun x c kl y w' cnt' hkey hlk hv hat hrg hlt hgr hsz hen => ?_)
  obtain ⟨x', ex, rfl, _⟩ := Maps.keyOf_int_inv Try.underlying3 hkey
  cases ex
  obtain ⟨i, hi, ek, hs⟩ := hE.b _ (hleft _ hlk)
  obtain rfl : x = (i : Int) := by simpa [kz] using ek
  obtain ⟨l, hl⟩ := Option.isSome_iff_exists.1 hs
  obtain ⟨c', hc', e1, e2⟩ := secR_inv hv
  have e3 : secD l = secD c' := by
    have e5 := congrArg Prod.fst e2
    simp only at e5
    rw [← (hE.a i l hl).2 (secD z64), ← e5]
    exact hat _
  have e4 := secD_inj e3
  subst e4
  rw [e1] at hen ⊢
  exact hMore i _ w' cnt' hi hl hlk hrg hlt hgr hsz hen
theorem wpList_clear_sec (hg : o.guard = none) (m : Operand) (hop : o.op = Op.call { callee := .builtin .clear, args := #[m], argTypes := #[68] }) {mb : Nat} {D : DM} (h : Mp w mb D) (hm : a.eval m = .map (some mb))
    (hK : ∀ w', Mp w' mb { D with nw := fun _ => none } → w.grownBy w' (some mb) → wpList Try.prog ops Q rest (a.put o.dst (.tuple #[])) w') : wpList Try.prog ops Q (o :: rest) a w := by
  refine wpList_plain hg fun K' hK' => ?_
  obtain ⟨w', hrun, h1, h2⟩ := h.clear o.type
  unfold Oper.wp
  simp only [execOp, hop, resolve, invoke, builtin, List.map_toArray, List.map_cons, List.map_nil, hm, hrun, Sem.run_bind, Sem.run_pure, Result.andThen_ok]
  exact hK' _ _ (hK _ h1 h2)
end
/-- What lasts, while some are still to come. -/
def DM.left (D : DM) (left : Lit → Bool) : DM := { D with la := fun i => if left (kz i) then D.la i else (D.nw i).getD (D.la i) }
/-- What Sync answers, and what it leaves. -/
def DM.syE (D : DM) : Int := if D.dn then 6 else if D.may then 0 else 6
def DM.sy (D : DM) : DM := if D.dn then D else if D.may then { D.burn with la := fun i => (D.nw i).getD (D.la i), nw := fun _ => none } else D.burn
def SyR (w wr : World) (b lb mb r : Nat) (E : DataW Unit) (D : DM) : Prop := ∃ (left : Lit → Bool) (cnt : Nat), (∀ kl, left kl = true → Maps.has E kl = true) ∧ wr.ranges Try.prog 3 secR mb r (Maps.size E) E left cnt ∧ Dsk wr b lb mb (D.left left) ∧ Kp (X3 b lb mb) w wr
set_option maxRecDepth 100000 in
set_option maxHeartbeats 8000000 in
theorem sync_any {w : World} {b lb mb : Nat} {D : DM} (h : Dsk w b lb mb D) : Calls Try.prog 72 #[pp b] w (WrP w b lb mb D.sy D.syE) := by
  have HD := hide h
  cases hdn : D.dn with
  | true =>
    have e1 : D.sy = D := if_pos hdn
    have e2 : D.syE = 6 := if_pos hdn
    rw [e1, e2]
    clear h e1 e2
    go_enter Try.func72, Try.ntmps72
    go_wp2_with (go_at_call 24; refine Calls.mono (down_any HD.out) ?_; rintro e w' ⟨rfl, rfl⟩)
    go_ret
    exact ⟨rfl, HD.out, Kp.refl _ _⟩
  | false =>
  have hdn' : ¬ D.dn = true := by simp [hdn]
  cases hmay : D.may with
  | false =>
    have e1 : D.sy = D.burn := by
      unfold DM.sy
      rw [if_neg hdn', if_neg (by simp [hmay])]
    have e2 : D.syE = 6 := by
      unfold DM.syE
      rw [if_neg hdn', if_neg (by simp [hmay])]
    rw [e1, e2]
    clear h e1 e2 hdn'
    go_enter Try.func72, Try.ntmps72
    go_wp2_with (first
      | (go_at_call 24; refine Calls.mono (down_any HD.out) ?_; rintro e w' ⟨rfl, rfl⟩)
      | (go_at_call 59; refine Calls.mono (burn_any HD.out) ?_; rintro e W1 ⟨rfl, hD1, hK1⟩))
    go_ret
    exact ⟨rfl, hD1, hK1⟩
  | true =>
  have e2 : D.syE = 0 := by
    unfold DM.syE
    rw [if_neg hdn', if_pos hmay]
  obtain ⟨D1, hD⟩ : ∃ D1, D1 = D.burn := ⟨_, rfl⟩
  have HE1 : Hid (D.sy = { D1 with la := fun i => (D1.nw i).getD (D1.la i), nw := fun _ => none }) := by
    show _ = _
    unfold DM.sy
    rw [if_neg hdn', if_pos hmay, hD, burn_nw, burn_la]
  rw [e2]
  have HB : Hid (D.burn = D1) := hD.symm
  clear h e2 hdn' hD
  go_enter Try.func72, Try.ntmps72
  go_upto_region 3 with (first
    | (go_at_call 24; refine Calls.mono (down_any HD.out) ?_; rintro e w' ⟨rfl, rfl⟩)
    | (go_at_call 59; refine Calls.mono (burn_any HD.out) ?_; rintro e W1 ⟨rfl, hD1, hK1⟩))
  rw [HB.out] at hD1
  obtain ⟨E, hown, hE⟩ := hD1.mp
  have HM := hide hE
  have h1 := hD1.c1
  have HD1 := hide hD1
  have HK1 := hide hK1
  have HO := hide hown
  clear hD1 hK1 HB HD hE hown
  obtain ⟨r, hr⟩ : ∃ r, r = W1.heap.size := ⟨_, rfl⟩
  have HR := hide hr
  go_wp2_with (first
    | (at_range; refine wpList_range_own _ rfl _ 68 rfl 3 98 keyed3 Try.underlying68 secR mb _ E (by rfl) HO.out ?_; rw [← HR.out]; intro W2 hrg0 hg0 hs0)
    | go_in)
  have HD2 : Hid (Dsk W2 b lb mb (D1.left (Maps.has E))) := by
    have e : D1.left (Maps.has E) = D1 := by
      obtain ⟨n, la, nw, fu, dn⟩ := D1
      refine congrArg (fun la => DM.mk n la nw fu dn) (funext fun i => ?_)
      show (if Maps.has E (kz i) = true then la i else (nw i).getD (la i)) = la i
      split
      · rfl
      · rename_i hh
        cases hn : nw i with
        | none => rfl
        | some l => exact absurd (HM.out.a i l hn).1 hh
    show Dsk _ _ _ _ _
    rw [e]
    exact HD1.out.same hg0.size (fun k hk => hg0.block k (by
      rcases X3_of.1 hk with rfl | rfl | rfl
      · exact HD1.out.bl
      · exact HD1.out.ll
      · exact HD1.out.mp.lt) (by simp))
  have HK2 : Hid (Kp (X3 b lb mb) w' W2) := HK1.out.trans ⟨hg0.os, hg0.tape, hg0.output, hg0.size, fun k hk _ => hg0.block k hk (by simp)⟩
  have HG := hide hrg0
  have HX : Hid (r ≠ b ∧ r ≠ lb ∧ r ≠ mb ∧ w'.heap.size ≤ r) := ⟨by have := HD1.out.bl; omega, by have := HD1.out.ll; omega, by have := HD1.out.mp.lt; omega, by rw [hr]; exact HK1.out.size⟩
  clear HD1 HK1 HO hg0 hs0 hr HR hrg0 h1
  go_frame
  go_loopw [3] (fun _ wr => SyR w' wr b lb mb r E D1)
    (fun _ wr => wr.rangeLeft mb r)
  case atStart => exact ⟨_, _, fun _ h => h, HG.out, HD2.out, HK2.out⟩
  case round =>
    obtain ⟨left, cnt, hle, hrg, hDr, hKr⟩ := hrel
    clear HD2 HK2 HG
    go_wp2_with (first
      | (at_next; refine wpList_next_sec rfl _ rfl HM.out mb r _ left cnt hle (by rfl) hrg ?_ ?_)
      | go_in)
    · intro hl0
      have h1 := hDr.c1
      go_wp2_with (refine wpList_clear_sec rfl _ rfl hDr.mp (by rfl) ?_; intro W4 hM4 hg4)
      go_ret
      refine ⟨rfl, ?_, hKr.trans (kp_map hg4)⟩
      have hD4 := hDr.mapd hM4 hg4 (fun i l hh => by cases hh)
      have e : D.sy = { D1.left left with nw := fun _ => none } := by
        rw [HE1.out]
        refine congrArg (fun la => DM.mk D1.n la (fun _ => none) D1.fu D1.dn) (funext fun i => ?_)
        show _ = if left (kz i) = true then _ else _
        rw [hl0 (kz i)]
        rfl
      rw [e]
      exact hD4
    · intro i l W3 cnt1 hi hl hlk hrg1 hlt hg1 hs1 hen
      have HL := hide (hDr.ok.nw i l hl).2
      have hDr3 : Dsk W3 b lb mb (D1.left left) := hDr.same hg1.size (fun k hk => hg1.block k (by
        rcases X3_of.1 hk with rfl | rfl | rfl
        · exact hDr.bl
        · exact hDr.ll
        · exact hDr.mp.lt) (fun e => by
        have hx := HX.out
        rcases X3_of.1 hk with e1 | e1 | e1
        · exact hx.1 ((Option.some.inj e).symm.trans e1)
        · exact hx.2.1 ((Option.some.inj e).symm.trans e1)
        · exact hx.2.2.1 ((Option.some.inj e).symm.trans e1)))
      have HKr3 : Hid (Kp (X3 b lb mb) w' W3) := by
        have hx := HX.out
        refine ⟨hg1.os.trans hKr.os, hg1.tape.trans hKr.tape, hg1.output.trans hKr.output, Nat.le_trans hKr.size hg1.size, fun k hk hX => (hg1.block k (Nat.lt_of_lt_of_le hk hKr.size) (fun e => ?_)).trans (hKr.block k hk hX)⟩
        have := Option.some.inj e
        omega
      have HDr := hide hDr3
      have HRg := hide hrg1
      have HI := hide (And.intro hi (And.intro hl hlk))
      have HMs := hide (And.intro (And.intro hlt hrg.left_eq) hle)
      have hin : (i : Int) < (D1.n : Int) := by omega
      clear hDr hDr3 hKr hrg hrg1 hl hlk hlt hle hg1 hs1
      go_wp2_with (first
        | (refine wpList_alloc_sec rfl rfl ?_; intro W4 V4)
        | (refine wpList_store_sec rfl _ _ rfl (by rfl) (by rfl) HL.out V4.t ?_; intro W5 hW5; have V5 := V4.put HL.out hW5.out; clear hW5))
      have hD3 := (HDr.out.keep V5.bl).keep (K.drew (Below.refl _ W5))
      have hg5 : W3.grownBy W5.drew none := ⟨V5.bl.os, V5.bl.tape, V5.bl.output, V5.bl.size, fun k hk _ => V5.bl.block k hk⟩
      have hrg5 := HRg.out.kept hg5 (by simp) (by simp)
      refine wp_region_noPanic ?_
      refine wp_region_held_drew (S := fun w' => w'.cell? ⟨b, 0, none⟩ = some (.slice (some ⟨lb, 0, none⟩) D1.n D1.n) ∧ w'.rangeAt W3.heap.size 0 (cells8 l)) (by kernel_rfl) ⟨hD3.c0, V5.r⟩ (fun hS0 => ?_)
      refine wpAnyH_take (i := 0) (v := pp b) rfl (by kernel_rfl) (by kernel_rfl) (by kernel_rfl) (fun _ _ _ h => h) (Or.inl ⟨by rfl, fun w' _ => by go_simp⟩) hS0 ?_
      simp only [Act.put, List.getElem_toArray, List.getElem_cons_zero, List.setIfInBounds_toArray, List.set_cons_zero, List.set_cons_succ]
      refine wpAnyH_take (i := 1) (v := pp b) rfl (by kernel_rfl) (by kernel_rfl) (by kernel_rfl) (fun _ _ _ h => h) (Or.inl ⟨by rfl, fun w' _ => by go_simp⟩) hS0 ?_
      simp only [Act.put, List.getElem_toArray, List.getElem_cons_zero, List.getElem_cons_succ, List.setIfInBounds_toArray, List.set_cons_zero, List.set_cons_succ]
      refine wpAnyH_take (i := 2) (v := pp b) rfl (by kernel_rfl) (by kernel_rfl) (by kernel_rfl) (fun _ _ _ h => h) (Or.inl ⟨by rfl, fun w' _ => by go_simp⟩) hS0 ?_
      simp only [Act.put, List.getElem_toArray, List.getElem_cons_zero, List.getElem_cons_succ, List.setIfInBounds_toArray, List.set_cons_zero, List.set_cons_succ]
      refine wpAnyH_take (i := 3) (v := .slice (some ⟨lb, 0, none⟩) D1.n D1.n) rfl (by kernel_rfl) (by kernel_rfl) (by kernel_rfl) (fun _ _ _ h => h) (Or.inl ⟨by rfl, fun w' hS => by have hc := hS.1; go_simp⟩) hS0 ?_
      simp only [Act.put, List.getElem_toArray, List.getElem_cons_zero, List.getElem_cons_succ, List.setIfInBounds_toArray, List.set_cons_zero, List.set_cons_succ]
      refine wpAnyH_take (i := 4) (v := .int .i64 (i : Int)) rfl (by kernel_rfl) (by kernel_rfl) (by kernel_rfl) (fun _ _ _ h => h) (Or.inl ⟨by rfl, fun w' _ => by go_simp⟩) hS0 ?_
      simp only [Act.put, List.getElem_toArray, List.getElem_cons_zero, List.getElem_cons_succ, List.setIfInBounds_toArray, List.set_cons_zero, List.set_cons_succ]
      refine wpAnyH_take (i := 5) (v := secV l) rfl (by kernel_rfl) (by kernel_rfl) (by kernel_rfl) (fun _ _ _ h => h) (yieldsIf_load_mid (by rfl) 98 _ rfl W3.heap.size 0 (by rfl) (cells8 l) _ (fun w' hS => hS.2) Try.underlying98 rfl (by rw [cells8_len' HL.out]; exact sizeSec)) hS0 ?_
      simp only [Act.put, List.getElem_toArray, List.getElem_cons_zero, List.getElem_cons_succ, List.setIfInBounds_toArray, List.set_cons_zero, List.set_cons_succ]
      refine wpAnyH_take (i := 6) (v := .pointer (some ⟨lb, i * 64, none⟩)) rfl (by kernel_rfl) (by kernel_rfl) (by kernel_rfl) (fun _ _ _ h => h) (Or.inl ⟨by rfl, fun w' _ => by go_simp⟩) hS0 ?_
      simp only [Act.put, List.getElem_toArray, List.getElem_cons_zero, List.getElem_cons_succ, List.setIfInBounds_toArray, List.set_cons_zero, List.set_cons_succ]
      refine wpAnyH_ready (rs := [7]) (by kernel_rfl) (by simp) (AllReadyH.cons rfl (fun Kt hK => ?_) AllReadyH.nil)
      refine wanted_pos rfl ?_
      refine wp_store_mid 98 _ _ rfl lb (i * 64) (cells8 l).toArray (by rfl) (by rfl) (by
        rw [List.size_toArray, cells8_len' HL.out]
        intro j hj
        have := hD3.th (i * 64 + j) (by have := HI.out.1; show _ < D1.n * 64; omega)
        rwa [Nat.zero_add] at this) (by rw [List.size_toArray, cells8_len' HL.out]; exact sizeSec) (all_oneCell_toArray (cells8_one l)) (hK.out _ _ ?_ (fun _ => ?_))
      · have hg6 := grown_set64 lb (cells8 l) (i * 64) W5.drew
        exact ⟨(World.cell?_of_block (w := W5.drew) (hg6.block b hD3.bl (fun e => hD3.n1 (Option.some.inj e)))).trans hS0.1, World.rangeAt_setCells_apart hS0.2 _ _ _ (Or.inl (fun e => by
          have h1 := HDr.out.ll
          rw [← e] at h1
          exact Nat.lt_irrefl _ h1))⟩
      clear hK Kt
      refine wpAnyH_done (by kernel_rfl) ?_ _
      refine NoPanic.normal ?_
      have hD6 := hD3.row (i := i) HI.out.1 HL.out
      have hg6 := grown_set64 lb (cells8 l) (i * 64) W5.drew
      have hrg6 := hrg5.kept hg6 (fun e => hD3.n3 (Option.some.inj e).symm) (fun e => HX.out.2.1 (Option.some.inj e))
      have hK6 : Kp (X3 b lb mb) w' (W5.drew.setCells lb (i * 64) (cells8 l)) := ((HKr3.out.grow V5.bl).grow (K.drew (Below.refl _ W5))).trans (kp_row _ _)
      have eD : { D1.left left with la := upd (D1.left left).la i l } = D1.left (fun z => left z && !z.sameKey (kz i)) := by
        refine congrArg (fun la => DM.mk D1.n la D1.nw D1.fu D1.dn) (funext fun j => ?_)
        show (if j = i then l else if left (kz j) = true then _ else _) = if (left (kz j) && !(kz j).sameKey (kz i)) = true then _ else _
        by_cases e : j = i
        · subst e
          rw [if_pos rfl, WideAt.sameKey_self (kz_key j), HI.out.2.1]
          simp
        · rw [if_neg e, sameKey_ne (fun e2 => e (kz_inj e2))]
          simp
      rw [eD] at hD6
      clear hD3 hg6 hg5 hrg5 V4 V5 hS0 HRg HDr HKr3 eD
      show Exit.inBlock 1 _ Exit.normal _ (W5.drew.setCells lb (i * 64) (cells8 l))
      generalize W5.drew.setCells lb (i * 64) (cells8 l) = W7 at hD6 hrg6 hK6 ⊢
      go_wp2_with fail
      go_roundw
      case rel => exact ⟨_, _, fun kl hh => HMs.out.2 kl (by simp at hh; exact hh.1), hrg6, hD6, hK6⟩
      case measure => rw [hrg6.left_eq, HMs.out.1.2]; exact HMs.out.1.1
end Go.Proofs.Ytjgpopjpmfkfmaa
namespace Go.Proofs.Ytjgpopjpmfkfmaa
set_option maxRecDepth 100000
open Go.RowKit Go.Maps Go.Sort Go.Shelf

end Go.Proofs.Ytjgpopjpmfkfmaa
namespace Go.Proofs.Ytjgpopjpmfkfmaa
set_option maxRecDepth 100000
open Go.RowKit Go.Maps
attribute [local go_sem ↓] Go.wp_at_zero Go.wp_at_succ

/-- The first k bytes of what was written, and behind them what lasted. -/
def mix (k : Nat) (s l : List Nat) : List Nat := s.take k ++ l.drop k
/-- What a crash leaves of a sector. -/
def DM.crA (D : DM) (K : List Bool) (t at_ : Int) (i : Nat) : List Nat := match D.nw i with
  | none => D.la i
  | some s => mix (lv K t at_ (rk D.nw i)) s (D.la i)
def DM.cr (D : DM) (K : List Bool) (t at_ : Int) : DM := ⟨D.n, D.crA K t at_, fun _ => none, none, false⟩
end Go.Proofs.Ytjgpopjpmfkfmaa
