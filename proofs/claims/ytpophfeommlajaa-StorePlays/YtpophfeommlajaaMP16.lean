/- Layer 13: the program's Write. -/
import Derived.Test.YtpophfeommlajaaMP15
namespace Go.Proofs.Ytpophfeommlajaa
set_option maxRecDepth 100000
open Go.RowKit Go.Maps
attribute [local go_sem ↓] Go.wp_at_zero Go.wp_at_succ

theorem Dsk.mapd {w w' : World} {b lb mb : Nat} {D : DM} {nw : Nat → Option (List Nat)} (h : Dsk w b lb mb D) (hm : Mp w' mb { D with nw := nw }) (hg : w.grownBy w' (some mb)) (hn : ∀ i l, nw i = some l → i < D.n ∧ sec l) : Dsk w' b lb mb { D with nw := nw } := by
  have e1 := hg.block b h.bl (fun e => h.n2 (Option.some.inj e))
  have e2 := hg.block lb h.ll (fun e => h.n3 (Option.some.inj e))
  have c1 : ∀ o, w'.cell? ⟨b, o, none⟩ = w.cell? ⟨b, o, none⟩ := fun o => World.cell?_of_block (w := w) e1
  have c2 : ∀ o, w'.cell? ⟨lb, o, none⟩ = w.cell? ⟨lb, o, none⟩ := fun o => World.cell?_of_block (w := w) e2
  have f1 : ∀ o, w'.frozen? ⟨b, o, none⟩ = w.frozen? ⟨b, o, none⟩ := fun o => World.frozen?_of_block (w := w) e1
  have f2 : ∀ o, w'.frozen? ⟨lb, o, none⟩ = w.frozen? ⟨lb, o, none⟩ := fun o => World.frozen?_of_block (w := w) e2
  exact ⟨(c1 0).trans h.c0, (c1 1).trans h.c1, (c1 2).trans h.c2, (c1 3).trans h.c3, (c1 4).trans h.c4, fun i hi => (f1 i).trans (h.z i hi), Nat.lt_of_lt_of_le h.bl hg.size, Nat.lt_of_lt_of_le h.ll hg.size,
    fun i hi j v hv => (c2 _).trans (h.rows i hi j v hv), fun j hj => ⟨by rw [c2]; exact (h.th j hj).1, by rw [f2]; exact (h.th j hj).2⟩, hm, h.n1, h.n2, h.n3, ⟨h.ok.n, h.ok.la, hn, h.ok.fu⟩⟩
theorem kp_map {w w' : World} {b lb mb : Nat} (hg : w.grownBy w' (some mb)) : Kp (X3 b lb mb) w w' :=
  ⟨hg.os, hg.tape, hg.output, hg.size, fun k hk hx => hg.block k hk (fun e => by
    rw [X3_of.2 (Or.inr (Or.inr (Option.some.inj e)))] at hx
    cases hx)⟩
/-- What Write answers, and what it leaves. -/
def DM.wrE (D : DM) (i : Int) (m : Nat) : Int := if D.dn then 6 else if 0 ≤ i ∧ i < D.n then (if m = 64 then (if D.may then 0 else 6) else 1) else 3
def DM.wr (D : DM) (i : Int) (l : List Nat) : DM := if D.dn then D else if 0 ≤ i ∧ i < D.n then (if l.length = 64 then (if D.may then { D.burn with nw := upd D.nw i.toNat (some l) } else D.burn) else D) else D
theorem burn_n (D : DM) : D.burn.n = D.n := by unfold DM.burn; split <;> rfl
theorem burn_nw (D : DM) : D.burn.nw = D.nw := by unfold DM.burn; split <;> rfl
theorem burn_la (D : DM) : D.burn.la = D.la := by unfold DM.burn; split <;> rfl
theorem copy_sec {w : World} {g : Nat} {x : Option Addr} {c : Nat} {f : Nat → Nat} (ht : w.there g 0 64) (hb : BA w x 64 f) (ty : TypeId) :
    (Builtin.copy_ #[38, 38] ty #[.slice (some ⟨g, 0, none⟩) 64 64, .slice x 64 c]).run Try.prog w = .ok (.int .i64 64) (w.setCells g 0 (cells8 (fl f 64))) := by
  rcases hb.at_ with h0 | ⟨b, o, rfl, hr⟩
  · cases h0
  have hl : (cells8 (fl f 64)).length = 64 := by rw [cells8_len, fl_len]
  have := run_copy_cells (P := Try.prog) w 38 38 ty 5 g 0 64 64 ⟨b, o, none⟩ 64 c (cells8 (fl f 64)) Try.underlying38 (by kernel_rfl) (by rw [hl]; rfl) (fun j v hv => by
      have hj : j < 64 := by have := (List.getElem?_eq_some_iff.1 hv).1; omega
      rw [Addr.add_mid, hr.c j hj]
      rw [cells8_at _ j (by rw [fl_len]; exact hj), List.getD_eq_getElem?_getD, fl_at f hj] at hv
      simpa using hv) (fun j hj => (ht j (by omega)).1) (fun j hj => (ht j (by omega)).2) (cells8_one _)
  rw [this, hl]
  rfl
/-- Bytes that are handed in lie in none of the disk's blocks. -/
theorem BA.kp {X : Nat → Bool} {w w' : World} {x : Option Addr} {m : Nat} {f : Nat → Nat} (h : BA w x m f) (hz : ∀ p, x = some p → X p.block = false) (hk : Kp X w w') : BA w' x m f := by
  refine ⟨h.lt, h.at_.elim Or.inl fun ⟨b, o, e, hr⟩ => Or.inr ⟨b, o, e, ⟨fun i hi => ?_⟩⟩⟩
  have hc := hr.c i hi
  rw [hk.cell (p := ⟨b, o + i, none⟩) (World.block_lt_of_cell? w _ hc) (hz ⟨b, o, none⟩ e)]
  exact hc
section
variable {w : World} {ops : Array Oper} {rest : List Oper} {o : Oper} {a : Act} {Q : Exit → Act → World → Prop}
theorem wpList_copy_sec (hgd : o.guard = none) (x y : Operand) (hop : o.op = Op.call { callee := .builtin .copy, args := #[x, y], argTypes := #[38, 38] }) {g : Nat} {z : Option Addr} {c : Nat} {f : Nat → Nat} (hx : a.eval x = .slice (some ⟨g, 0, none⟩) 64 64) (hy : a.eval y = .slice z 64 c) (ht : w.there g 0 64) (hb : BA w z 64 f) (hK : ∀ w', Hid (w' = w.setCells g 0 (cells8 (fl f 64))) → wpList Try.prog ops Q rest (a.put o.dst (.int .i64 64)) w') : wpList Try.prog ops Q (o :: rest) a w := by
  refine wpList_plain hgd fun K' hK' => ?_
  have hrun := copy_sec (c := c) ht hb o.type
  unfold Oper.wp
  simp only [execOp, hop, resolve, invoke, builtin, List.map_toArray, List.map_cons, List.map_nil, hx, hy, hrun, Sem.run_bind, Sem.run_pure, Result.andThen_ok]
  exact hK' _ _ (hK _ rfl)
theorem wp_write_sec {K : Act → World → Prop} (m x v : Operand) (hop : o.op = Op.mapUpdate 57 m x v) {mb : Nat} {D : DM} (h : Mp w mb D) (hok : D.ok) (hm : a.eval m = .map (some mb)) {i : Nat} (hx : a.eval x = .int .i64 (i : Int)) {l : List Nat} (hv : a.eval v = secV l) (hi : i < D.n) (hl : sec l)
    (hK : ∀ w', Mp w' mb { D with nw := upd D.nw i (some l) } → w.grownBy w' (some mb) → K (a.put o.dst undef) w') : o.wp Try.prog a w K Q := by
  obtain ⟨w', hrun, h1, h2⟩ := h.write hok hi hl
  unfold Oper.wp
  simp [execOp, hop, hm, hx, hv, hrun, Result.andThen]
  exact hK w' h1 h2
end
/-- What a call on a disk leaves. -/
def WrP (w : World) (b lb mb : Nat) (D : DM) (er : Int) (e : Ending) (w' : World) : Prop := e = .returned (.int .i64 er) ∧ Dsk w' b lb mb D ∧ Kp (X3 b lb mb) w w'
set_option maxRecDepth 100000 in
set_option maxHeartbeats 8000000 in
theorem write_any {w : World} {b lb mb : Nat} {D : DM} (h : Dsk w b lb mb D) (i : Int) {z : Option Addr} {m c : Nat} {f : Nat → Nat} (hb : BA w z m f) (hz : 0 < m → ∀ p, z = some p → X3 b lb mb p.block = false) : Calls Try.prog 18 #[pp b, .int .i64 i, .slice z m c] w (WrP w b lb mb (D.wr i (fl f m)) (D.wrE i m)) := by
  have HD := hide h
  cases hdn : D.dn with
  | true =>
    have e1 : D.wr i (fl f m) = D := if_pos hdn
    have e2 : D.wrE i m = 6 := if_pos hdn
    rw [e1, e2]
    clear h e1 e2 hb hz
    go_enter Try.func18, Try.ntmps18
    go_wp2_with (go_at_call 20; refine Calls.mono (down_any HD.out) ?_; rintro e w' ⟨rfl, rfl⟩)
    go_ret
    exact ⟨rfl, HD.out, Kp.refl _ _⟩
  | false =>
    have hdn' : ¬ D.dn = true := by simp [hdn]
    by_cases hi : 0 ≤ i ∧ i < D.n
    · have hd : decide (0 ≤ i ∧ i < (D.n : Int)) = true := decide_eq_true hi
      by_cases hm : m = 64
      · obtain ⟨k, rfl⟩ : ∃ k : Nat, i = (k : Int) := ⟨i.toNat, by omega⟩
        subst hm
        have hk : k < D.n := by omega
        have HK := hide hk
        have HB := hide hb
        have HZ := hide hz
        cases hmay : D.may with
        | false =>
          have e1 : D.wr k (fl f 64) = D.burn := by
            unfold DM.wr
            rw [if_neg hdn', if_pos hi, if_pos (fl_len f 64), if_neg (by simp [hmay])]
          have e2 : D.wrE k 64 = 6 := by
            unfold DM.wrE
            rw [if_neg hdn', if_pos hi, if_pos rfl, if_neg (by simp [hmay])]
          rw [e1, e2]
          clear h e1 e2 hb hdn' hi hz
          go_enter Try.func18, Try.ntmps18
          go_wp2_with (first
            | (go_at_call 20; refine Calls.mono (down_any HD.out) ?_; rintro e w' ⟨rfl, rfl⟩)
            | (go_at_call 54; refine Calls.mono (has_any HD.out _) ?_; rintro e w' ⟨rfl, rfl⟩)
            | (go_at_call 55; refine Calls.mono (burn_any HD.out) ?_; rintro e W1 ⟨rfl, hD1, hK1⟩))
          go_ret
          exact ⟨rfl, hD1, hK1⟩
        | true =>
          have e1 : D.wr k (fl f 64) = { D.burn with nw := upd D.burn.nw k (some (fl f 64)) } := by
            unfold DM.wr
            rw [if_neg hdn', if_pos hi, if_pos (fl_len f 64), if_pos (by simp [hmay]), burn_nw]
            rfl
          have e2 : D.wrE k 64 = 0 := by
            unfold DM.wrE
            rw [if_neg hdn', if_pos hi, if_pos rfl, if_pos (by simp [hmay])]
          have HL : Hid (sec (fl f 64)) := ⟨fl_len f 64, fl_lt hb.lt 64⟩
          rw [e1, e2]
          clear h e1 e2 hb hdn' hi hz
          go_enter Try.func18, Try.ntmps18
          go_wp2_with (first
            | (go_at_call 20; refine Calls.mono (down_any HD.out) ?_; rintro e w' ⟨rfl, rfl⟩)
            | (go_at_call 54; refine Calls.mono (has_any HD.out _) ?_; rintro e w' ⟨rfl, rfl⟩)
            | (go_at_call 55; refine Calls.mono (burn_any HD.out) ?_; rintro e W1 ⟨rfl, hD1, hK1⟩)
            | (refine wpList_alloc_sec rfl rfl ?_; intro W2 V2)
            | (refine wpList_copy_sec rfl _ _ rfl (by rfl) (by rfl) V2.t ((HB.out.kp (HZ.out (by omega)) hK1).keep V2.bl) ?_; intro W3 hW3; have V3 := V2.put HL.out hW3.out; clear hW3))
          have hD3 := (hD1.keep V3.bl).keep (K.drew (Below.refl _ W3))
          have hkb : k < D.burn.n := by rw [burn_n]; exact HK.out
          refine wp_region_noPanic ?_
          refine wp_region_held_drew (S := fun w' => w'.cell? ⟨b, 1, none⟩ = some (.map (some mb)) ∧ w'.rangeAt W1.heap.size 0 (cells8 (fl f 64))) (by kernel_rfl) ⟨hD3.c1, V3.r⟩ (fun hS0 => ?_)
          refine wpAnyH_take (i := 0) (v := pp b) rfl (by kernel_rfl) (by kernel_rfl) (by kernel_rfl) (fun _ _ _ h => h) (Or.inl ⟨by rfl, fun w' _ => by go_simp⟩) hS0 ?_
          simp only [Act.put, List.getElem_toArray, List.getElem_cons_zero, List.setIfInBounds_toArray, List.set_cons_zero, List.set_cons_succ]
          refine wpAnyH_take (i := 1) (v := pp b) rfl (by kernel_rfl) (by kernel_rfl) (by kernel_rfl) (fun _ _ _ h => h) (Or.inl ⟨by rfl, fun w' _ => by go_simp⟩) hS0 ?_
          simp only [Act.put, List.getElem_toArray, List.getElem_cons_zero, List.getElem_cons_succ, List.setIfInBounds_toArray, List.set_cons_zero, List.set_cons_succ]
          refine wpAnyH_take (i := 2) (v := .pointer (some ⟨b, 1, none⟩)) rfl (by kernel_rfl) (by kernel_rfl) (by kernel_rfl) (fun _ _ _ h => h) (Or.inl ⟨by rfl, fun w' _ => by go_simp⟩) hS0 ?_
          simp only [Act.put, List.getElem_toArray, List.getElem_cons_zero, List.getElem_cons_succ, List.setIfInBounds_toArray, List.set_cons_zero, List.set_cons_succ]
          refine wpAnyH_take (i := 3) (v := .map (some mb)) rfl (by kernel_rfl) (by kernel_rfl) (by kernel_rfl) (fun _ _ _ h => h) (Or.inl ⟨by rfl, fun w' hS => by have hc := hS.1; go_simp⟩) hS0 ?_
          simp only [Act.put, List.getElem_toArray, List.getElem_cons_zero, List.getElem_cons_succ, List.setIfInBounds_toArray, List.set_cons_zero, List.set_cons_succ]
          refine wpAnyH_take (i := 4) (v := .int .i64 (k : Int)) rfl (by kernel_rfl) (by kernel_rfl) (by kernel_rfl) (fun _ _ _ h => h) (Or.inl ⟨by rfl, fun w' _ => by go_simp⟩) hS0 ?_
          simp only [Act.put, List.getElem_toArray, List.getElem_cons_zero, List.getElem_cons_succ, List.setIfInBounds_toArray, List.set_cons_zero, List.set_cons_succ]
          refine wpAnyH_take (i := 5) (v := secV (fl f 64)) rfl (by kernel_rfl) (by kernel_rfl) (by kernel_rfl) (fun _ _ _ h => h) (yieldsIf_load_mid (by rfl) 93 _ rfl W1.heap.size 0 (by rfl) (cells8 (fl f 64)) _ (fun w' hS => hS.2) Try.underlying93 rfl (by rw [cells8_len' HL.out]; exact sizeSec)) hS0 ?_
          simp only [Act.put, List.getElem_toArray, List.getElem_cons_zero, List.getElem_cons_succ, List.setIfInBounds_toArray, List.set_cons_zero, List.set_cons_succ]
          refine wpAnyH_ready (rs := [6]) (by kernel_rfl) (by simp) (AllReadyH.cons rfl (fun Kt hK => ?_) AllReadyH.nil)
          refine wanted_pos rfl ?_
          refine wp_write_sec _ _ _ rfl (w := W3.drew) (hD3.mp) hD3.ok (by rfl) (by rfl) (by rfl) hkb HL.out (fun W4 hM4 hg4 => hK.out _ _ ?_ (fun _ => ?_))
          · exact ⟨(World.cell?_of_block (w := W3.drew) (hg4.block b hD3.bl (fun e => hD3.n2 (Option.some.inj e)))).trans hS0.1, fun j v hv => (World.cell?_of_block (w := W3.drew) (hg4.block _ V3.lt (fun e => by
              have h1 := hD1.mp.lt
              rw [← Option.some.inj e] at h1
              exact Nat.lt_irrefl _ h1))).trans (hS0.2 j v hv)⟩
          clear hK Kt
          refine wpAnyH_done (by kernel_rfl) ?_ _
          refine NoPanic.normal ?_
          have hD4 : Dsk W4 b lb mb { D.burn with nw := upd D.burn.nw k (some (fl f 64)) } := hD3.mapd hM4 hg4 (fun j l hj => by
            by_cases e : j = k
            · subst e
              simp only [upd, if_true, Option.some.injEq] at hj
              subst hj
              exact ⟨hkb, HL.out⟩
            · simp only [upd, if_neg e] at hj
              exact hD3.ok.nw j l hj)
          have hK4 : Kp (X3 b lb mb) w' W4 := ((hK1.grow V3.bl).grow (K.drew (Below.refl _ W3))).trans (kp_map (w := W3.drew) hg4)
          clear hM4 hg4 hD3 hD1 hK1 V2 V3 hS0
          go_wp2_with fail
          go_ret
          exact ⟨rfl, hD4, hK4⟩
      · have e1 : D.wr i (fl f m) = D := by
          unfold DM.wr
          rw [if_neg hdn', if_pos hi, if_neg (by rw [fl_len]; exact hm)]
        have e2 : D.wrE i m = 1 := by
          unfold DM.wrE
          rw [if_neg hdn', if_pos hi, if_neg hm]
        have hm' : ((m : Int) == 64) = false := by simp; omega
        rw [e1, e2]
        clear h e1 e2 hb hdn' hi hz
        go_enter Try.func18, Try.ntmps18
        go_wp2_with (first
          | (go_at_call 20; refine Calls.mono (down_any HD.out) ?_; rintro e w' ⟨rfl, rfl⟩)
          | (go_at_call 54; refine Calls.mono (has_any HD.out _) ?_; rintro e w' ⟨rfl, rfl⟩))
        go_ret
        exact ⟨rfl, HD.out, Kp.refl _ _⟩
    · have hd : decide (0 ≤ i ∧ i < (D.n : Int)) = false := decide_eq_false hi
      have e1 : D.wr i (fl f m) = D := by
        unfold DM.wr
        rw [if_neg hdn', if_neg hi]
      have e2 : D.wrE i m = 3 := by
        unfold DM.wrE
        rw [if_neg hdn', if_neg hi]
      rw [e1, e2]
      clear h e1 e2 hb hdn' hi hz
      go_enter Try.func18, Try.ntmps18
      go_wp2_with (first
        | (go_at_call 20; refine Calls.mono (down_any HD.out) ?_; rintro e w' ⟨rfl, rfl⟩)
        | (go_at_call 54; refine Calls.mono (has_any HD.out _) ?_; rintro e w' ⟨rfl, rfl⟩))
      go_ret
      exact ⟨rfl, HD.out, Kp.refl _ _⟩
end Go.Proofs.Ytpophfeommlajaa
