/- Layer 13: the program's Sync. -/
import Derived.Test.YtpophfeommlajaaMP16
namespace Go.Proofs.Ytpophfeommlajaa
set_option maxRecDepth 100000
open Go.RowKit Go.Maps
attribute [local go_sem ↓] Go.wp_at_zero Go.wp_at_succ

theorem grown_set64 (g : Nat) (vs : List Value) (o : Nat) (w : World) : w.grownBy (w.setCells g o vs) (some g) := by
  have h := kp_sets (X := fun k => Nat.beq k g) g (Nat.beq_refl g) vs o w (Kp.refl _ w)
  exact h.grown
/-- A sector of what lasts is put anew. -/
theorem Dsk.row {w : World} {b lb mb : Nat} {D : DM} (h : Dsk w b lb mb D) {i : Nat} (hi : i < D.n) {l : List Nat} (hl : sec l) : Dsk (w.setCells lb (i * 64) (cells8 l)) b lb mb { D with la := upd D.la i l } := by
  have hg := grown_set64 lb (cells8 l) (i * 64) w
  have e1 := hg.block b h.bl (fun e => h.n1 (Option.some.inj e))
  have e3 := hg.block mb h.mp.lt (fun e => h.n3 (Option.some.inj e).symm)
  have c1 : ∀ o, (w.setCells lb (i * 64) (cells8 l)).cell? ⟨b, o, none⟩ = w.cell? ⟨b, o, none⟩ := fun o => World.cell?_of_block (w := w) e1
  have f1 : ∀ o, (w.setCells lb (i * 64) (cells8 l)).frozen? ⟨b, o, none⟩ = w.frozen? ⟨b, o, none⟩ := fun o => World.frozen?_of_block (w := w) e1
  have ht : w.there lb (i * 64) (cells8 l).length := fun j hj => by
    rw [cells8_len' hl] at hj
    have := h.th (i * 64 + j) (by omega)
    rwa [Nat.zero_add] at this
  obtain ⟨E, ⟨es, clock, hbm, r⟩, hE⟩ := h.mp
  refine ⟨(c1 0).trans h.c0, (c1 1).trans h.c1, (c1 2).trans h.c2, (c1 3).trans h.c3, (c1 4).trans h.c4, fun i hi => (f1 i).trans (h.z i hi), Nat.lt_of_lt_of_le h.bl hg.size, Nat.lt_of_lt_of_le h.ll hg.size,
    fun j hj => ?_, World.there_setCells h.th _ _ _, ⟨E, ⟨es, clock, e3.trans hbm, r⟩, hE⟩, h.n1, h.n2, h.n3, ⟨h.ok.n, fun j => ?_, h.ok.nw, h.ok.fu⟩⟩
  · by_cases e : j = i
    · subst e
      simp only [upd, if_true]
      exact World.rangeAt_setCells_same _ _ _ _ ht
    · simp only [upd, if_neg e]
      refine World.rangeAt_setCells_apart (h.rows j hj) _ _ _ (Or.inr ?_)
      rw [cells8_len' hl, cells8_len' (h.ok.la j)]
      omega
  · by_cases e : j = i
    · subst e; simp only [upd, if_true]; exact hl
    · simp only [upd, if_neg e]; exact h.ok.la j
theorem kp_row {b lb mb : Nat} {w : World} (o : Nat) (vs : List Value) : Kp (X3 b lb mb) w (w.setCells lb o vs) := kp_sets lb (X3_of.2 (Or.inr (Or.inl rfl))) vs o w (Kp.refl _ w)
section
variable {w : World} {ops : Array Oper} {rest : List Oper} {o : Oper} {a : Act} {Q : Exit → Act → World → Prop}
theorem wpList_next_sec (hg : o.guard = none) (it : Operand) (hop : o.op = Op.next it false) {E : DataW Unit} {N : Nat} {nw : Nat → Option (List Nat)} (hE : MpD E N nw) (mb r n : Nat) (left : Lit → Bool) (cnt : Nat) (hleft : ∀ kl, left kl = true → Maps.has E kl = true)
    (hit : a.eval it = .pointer (some ⟨r, 0, none⟩)) (h : w.ranges Try.prog 3 secR mb r n E left cnt)
    (hDone : (∀ kl, left kl = false) → wpList Try.prog ops Q rest (a.put o.dst (.tuple #[.bool false])) w)
    (hMore : ∀ (i : Nat) (l : List Nat) (w' : World) (cnt' : Nat), i < N → nw i = some l → left (kz i) = true → w'.ranges Try.prog 3 secR mb r n E (fun z => left z && !z.sameKey (kz i)) cnt' → cnt' < cnt →
      w.grownBy w' (some r) → w'.heap.size = w.heap.size → (Instr.entry (.pointer (some ⟨r, 0, none⟩))).run Try.prog w' = .ok (.tuple #[.int .i64 (i : Int), secV l]) w' → wpList Try.prog ops Q rest (a.put o.dst (.tuple #[.bool true, .int .i64 (i : Int), secV l])) w') :
    wpList Try.prog ops Q (o :: rest) a w := by
  refine wpList_next_ranges w hg it hop 3 keyed3 secR (Value.int .i64) secV (fun key kl hkey => by obtain ⟨x, rfl, _⟩ := Maps.keyOf_int_inv Try.underlying3 hkey; exact ⟨x, rfl⟩) (fun v y hv => by obtain ⟨l, _, rfl, _⟩ := secR_inv hv; exact ⟨l, rfl⟩) mb r n E left cnt hit h (fun _ hl => hDone hl) (fun x c kl y w' cnt' hkey hlk hv hat hrg hlt hgr hsz hen => ?_)
  obtain ⟨x', ex, rfl, _⟩ := Maps.keyOf_int_inv Try.underlying3 hkey
  cases ex
  obtain ⟨i, hi, ek, hs⟩ := hE.b _ (hleft _ hlk)
  obtain rfl : x = (i : Int) := by simpa [kz] using ek
  obtain ⟨l, hl⟩ := Option.isSome_iff_exists.1 hs
  obtain ⟨c', hc', e1, e2⟩ := secR_inv hv
  have e3 : secD l = secD c' := by
    have e5 := congrArg Prod.fst e2
    simp only at e5
    rw [← (hE.a i l hl).2 (secD z64), ← e5]
    exact hat _
  have e4 := secD_inj e3
  subst e4
  rw [e1] at hen ⊢
  exact hMore i _ w' cnt' hi hl hlk hrg hlt hgr hsz hen
theorem wpList_clear_sec (hg : o.guard = none) (m : Operand) (hop : o.op = Op.call { callee := .builtin .clear, args := #[m], argTypes := #[57] }) {mb : Nat} {D : DM} (h : Mp w mb D) (hm : a.eval m = .map (some mb))
    (hK : ∀ w', Mp w' mb { D with nw := fun _ => none } → w.grownBy w' (some mb) → wpList Try.prog ops Q rest (a.put o.dst (.tuple #[])) w') : wpList Try.prog ops Q (o :: rest) a w := by
  refine wpList_plain hg fun K' hK' => ?_
  obtain ⟨w', hrun, h1, h2⟩ := h.clear o.type
  unfold Oper.wp
  simp only [execOp, hop, resolve, invoke, builtin, List.map_toArray, List.map_cons, List.map_nil, hm, hrun, Sem.run_bind, Sem.run_pure, Result.andThen_ok]
  exact hK' _ _ (hK _ h1 h2)
end
/-- What lasts, while some are still to come. -/
def DM.left (D : DM) (left : Lit → Bool) : DM := { D with la := fun i => if left (kz i) then D.la i else (D.nw i).getD (D.la i) }
/-- What Sync answers, and what it leaves. -/
def DM.syE (D : DM) : Int := if D.dn then 6 else if D.may then 0 else 6
def DM.sy (D : DM) : DM := if D.dn then D else if D.may then { D.burn with la := fun i => (D.nw i).getD (D.la i), nw := fun _ => none } else D.burn
def SyR (w wr : World) (b lb mb r : Nat) (E : DataW Unit) (D : DM) : Prop := ∃ (left : Lit → Bool) (cnt : Nat), (∀ kl, left kl = true → Maps.has E kl = true) ∧ wr.ranges Try.prog 3 secR mb r (Maps.size E) E left cnt ∧ Dsk wr b lb mb (D.left left) ∧ Kp (X3 b lb mb) w wr
set_option maxRecDepth 100000 in
set_option maxHeartbeats 8000000 in
theorem sync_any {w : World} {b lb mb : Nat} {D : DM} (h : Dsk w b lb mb D) : Calls Try.prog 68 #[pp b] w (WrP w b lb mb D.sy D.syE) := by
  have HD := hide h
  cases hdn : D.dn with
  | true =>
    have e1 : D.sy = D := if_pos hdn
    have e2 : D.syE = 6 := if_pos hdn
    rw [e1, e2]
    clear h e1 e2
    go_enter Try.func68, Try.ntmps68
    go_wp2_with (go_at_call 20; refine Calls.mono (down_any HD.out) ?_; rintro e w' ⟨rfl, rfl⟩)
    go_ret
    exact ⟨rfl, HD.out, Kp.refl _ _⟩
  | false =>
  have hdn' : ¬ D.dn = true := by simp [hdn]
  cases hmay : D.may with
  | false =>
    have e1 : D.sy = D.burn := by
      unfold DM.sy
      rw [if_neg hdn', if_neg (by simp [hmay])]
    have e2 : D.syE = 6 := by
      unfold DM.syE
      rw [if_neg hdn', if_neg (by simp [hmay])]
    rw [e1, e2]
    clear h e1 e2 hdn'
    go_enter Try.func68, Try.ntmps68
    go_wp2_with (first
      | (go_at_call 20; refine Calls.mono (down_any HD.out) ?_; rintro e w' ⟨rfl, rfl⟩)
      | (go_at_call 55; refine Calls.mono (burn_any HD.out) ?_; rintro e W1 ⟨rfl, hD1, hK1⟩))
    go_ret
    exact ⟨rfl, hD1, hK1⟩
  | true =>
  have e2 : D.syE = 0 := by
    unfold DM.syE
    rw [if_neg hdn', if_pos hmay]
  obtain ⟨D1, hD⟩ : ∃ D1, D1 = D.burn := ⟨_, rfl⟩
  have HE1 : Hid (D.sy = { D1 with la := fun i => (D1.nw i).getD (D1.la i), nw := fun _ => none }) := by
    show _ = _
    unfold DM.sy
    rw [if_neg hdn', if_pos hmay, hD, burn_nw, burn_la]
  rw [e2]
  have HB : Hid (D.burn = D1) := hD.symm
  clear h e2 hdn' hD
  go_enter Try.func68, Try.ntmps68
  go_upto_region 3 with (first
    | (go_at_call 20; refine Calls.mono (down_any HD.out) ?_; rintro e w' ⟨rfl, rfl⟩)
    | (go_at_call 55; refine Calls.mono (burn_any HD.out) ?_; rintro e W1 ⟨rfl, hD1, hK1⟩))
  rw [HB.out] at hD1
  obtain ⟨E, hown, hE⟩ := hD1.mp
  have HM := hide hE
  have h1 := hD1.c1
  have HD1 := hide hD1
  have HK1 := hide hK1
  have HO := hide hown
  clear hD1 hK1 HB HD hE hown
  obtain ⟨r, hr⟩ : ∃ r, r = W1.heap.size := ⟨_, rfl⟩
  have HR := hide hr
  go_wp2_with (first
    | (at_range; refine wpList_range_own _ rfl _ 57 rfl 3 93 keyed3 Try.underlying57 secR mb _ E (by rfl) HO.out ?_; rw [← HR.out]; intro W2 hrg0 hg0 hs0)
    | go_in)
  have HD2 : Hid (Dsk W2 b lb mb (D1.left (Maps.has E))) := by
    have e : D1.left (Maps.has E) = D1 := by
      obtain ⟨n, la, nw, fu, dn⟩ := D1
      refine congrArg (fun la => DM.mk n la nw fu dn) (funext fun i => ?_)
      show (if Maps.has E (kz i) = true then la i else (nw i).getD (la i)) = la i
      split
      · rfl
      · rename_i hh
        cases hn : nw i with
        | none => rfl
        | some l => exact absurd (HM.out.a i l hn).1 hh
    show Dsk _ _ _ _ _
    rw [e]
    exact HD1.out.same hg0.size (fun k hk => hg0.block k (by
      rcases X3_of.1 hk with rfl | rfl | rfl
      · exact HD1.out.bl
      · exact HD1.out.ll
      · exact HD1.out.mp.lt) (by simp))
  have HK2 : Hid (Kp (X3 b lb mb) w' W2) := HK1.out.trans ⟨hg0.os, hg0.tape, hg0.output, hg0.size, fun k hk _ => hg0.block k hk (by simp)⟩
  have HG := hide hrg0
  have HX : Hid (r ≠ b ∧ r ≠ lb ∧ r ≠ mb ∧ w'.heap.size ≤ r) := ⟨by have := HD1.out.bl; omega, by have := HD1.out.ll; omega, by have := HD1.out.mp.lt; omega, by rw [hr]; exact HK1.out.size⟩
  clear HD1 HK1 HO hg0 hs0 hr HR hrg0 h1
  go_frame
  go_loopw [3] (fun _ wr => SyR w' wr b lb mb r E D1)
    (fun _ wr => wr.rangeLeft mb r)
  case atStart => exact ⟨_, _, fun _ h => h, HG.out, HD2.out, HK2.out⟩
  case round =>
    obtain ⟨left, cnt, hle, hrg, hDr, hKr⟩ := hrel
    clear HD2 HK2 HG
    go_wp2_with (first
      | (at_next; refine wpList_next_sec rfl _ rfl HM.out mb r _ left cnt hle (by rfl) hrg ?_ ?_)
      | go_in)
    · intro hl0
      have h1 := hDr.c1
      go_wp2_with (refine wpList_clear_sec rfl _ rfl hDr.mp (by rfl) ?_; intro W4 hM4 hg4)
      go_ret
      refine ⟨rfl, ?_, hKr.trans (kp_map hg4)⟩
      have hD4 := hDr.mapd hM4 hg4 (fun i l hh => by cases hh)
      have e : D.sy = { D1.left left with nw := fun _ => none } := by
        rw [HE1.out]
        refine congrArg (fun la => DM.mk D1.n la (fun _ => none) D1.fu D1.dn) (funext fun i => ?_)
        show _ = if left (kz i) = true then _ else _
        rw [hl0 (kz i)]
        rfl
      rw [e]
      exact hD4
    · intro i l W3 cnt1 hi hl hlk hrg1 hlt hg1 hs1 hen
      have HL := hide (hDr.ok.nw i l hl).2
      have hDr3 : Dsk W3 b lb mb (D1.left left) := hDr.same hg1.size (fun k hk => hg1.block k (by
        rcases X3_of.1 hk with rfl | rfl | rfl
        · exact hDr.bl
        · exact hDr.ll
        · exact hDr.mp.lt) (fun e => by
        have hx := HX.out
        rcases X3_of.1 hk with e1 | e1 | e1
        · exact hx.1 ((Option.some.inj e).symm.trans e1)
        · exact hx.2.1 ((Option.some.inj e).symm.trans e1)
        · exact hx.2.2.1 ((Option.some.inj e).symm.trans e1)))
      have HKr3 : Hid (Kp (X3 b lb mb) w' W3) := by
        have hx := HX.out
        refine ⟨hg1.os.trans hKr.os, hg1.tape.trans hKr.tape, hg1.output.trans hKr.output, Nat.le_trans hKr.size hg1.size, fun k hk hX => (hg1.block k (Nat.lt_of_lt_of_le hk hKr.size) (fun e => ?_)).trans (hKr.block k hk hX)⟩
        have := Option.some.inj e
        omega
      have HDr := hide hDr3
      have HRg := hide hrg1
      have HI := hide (And.intro hi (And.intro hl hlk))
      have HMs := hide (And.intro (And.intro hlt hrg.left_eq) hle)
      have hin : (i : Int) < (D1.n : Int) := by omega
      clear hDr hDr3 hKr hrg hrg1 hl hlk hlt hle hg1 hs1
      go_wp2_with (first
        | (refine wpList_alloc_sec rfl rfl ?_; intro W4 V4)
        | (refine wpList_store_sec rfl _ _ rfl (by rfl) (by rfl) HL.out V4.t ?_; intro W5 hW5; have V5 := V4.put HL.out hW5.out; clear hW5))
      have hD3 := (HDr.out.keep V5.bl).keep (K.drew (Below.refl _ W5))
      have hg5 : W3.grownBy W5.drew none := ⟨V5.bl.os, V5.bl.tape, V5.bl.output, V5.bl.size, fun k hk _ => V5.bl.block k hk⟩
      have hrg5 := HRg.out.kept hg5 (by simp) (by simp)
      refine wp_region_noPanic ?_
      refine wp_region_held_drew (S := fun w' => w'.cell? ⟨b, 0, none⟩ = some (.slice (some ⟨lb, 0, none⟩) D1.n D1.n) ∧ w'.rangeAt W3.heap.size 0 (cells8 l)) (by kernel_rfl) ⟨hD3.c0, V5.r⟩ (fun hS0 => ?_)
      refine wpAnyH_take (i := 0) (v := pp b) rfl (by kernel_rfl) (by kernel_rfl) (by kernel_rfl) (fun _ _ _ h => h) (Or.inl ⟨by rfl, fun w' _ => by go_simp⟩) hS0 ?_
      simp only [Act.put, List.getElem_toArray, List.getElem_cons_zero, List.setIfInBounds_toArray, List.set_cons_zero, List.set_cons_succ]
      refine wpAnyH_take (i := 1) (v := pp b) rfl (by kernel_rfl) (by kernel_rfl) (by kernel_rfl) (fun _ _ _ h => h) (Or.inl ⟨by rfl, fun w' _ => by go_simp⟩) hS0 ?_
      simp only [Act.put, List.getElem_toArray, List.getElem_cons_zero, List.getElem_cons_succ, List.setIfInBounds_toArray, List.set_cons_zero, List.set_cons_succ]
      refine wpAnyH_take (i := 2) (v := pp b) rfl (by kernel_rfl) (by kernel_rfl) (by kernel_rfl) (fun _ _ _ h => h) (Or.inl ⟨by rfl, fun w' _ => by go_simp⟩) hS0 ?_
      simp only [Act.put, List.getElem_toArray, List.getElem_cons_zero, List.getElem_cons_succ, List.setIfInBounds_toArray, List.set_cons_zero, List.set_cons_succ]
      refine wpAnyH_take (i := 3) (v := .slice (some ⟨lb, 0, none⟩) D1.n D1.n) rfl (by kernel_rfl) (by kernel_rfl) (by kernel_rfl) (fun _ _ _ h => h) (Or.inl ⟨by rfl, fun w' hS => by have hc := hS.1; go_simp⟩) hS0 ?_
      simp only [Act.put, List.getElem_toArray, List.getElem_cons_zero, List.getElem_cons_succ, List.setIfInBounds_toArray, List.set_cons_zero, List.set_cons_succ]
      refine wpAnyH_take (i := 4) (v := .int .i64 (i : Int)) rfl (by kernel_rfl) (by kernel_rfl) (by kernel_rfl) (fun _ _ _ h => h) (Or.inl ⟨by rfl, fun w' _ => by go_simp⟩) hS0 ?_
      simp only [Act.put, List.getElem_toArray, List.getElem_cons_zero, List.getElem_cons_succ, List.setIfInBounds_toArray, List.set_cons_zero, List.set_cons_succ]
      refine wpAnyH_take (i := 5) (v := secV l) rfl (by kernel_rfl) (by kernel_rfl) (by kernel_rfl) (fun _ _ _ h => h) (yieldsIf_load_mid (by rfl) 93 _ rfl W3.heap.size 0 (by rfl) (cells8 l) _ (fun w' hS => hS.2) Try.underlying93 rfl (by rw [cells8_len' HL.out]; exact sizeSec)) hS0 ?_
      simp only [Act.put, List.getElem_toArray, List.getElem_cons_zero, List.getElem_cons_succ, List.setIfInBounds_toArray, List.set_cons_zero, List.set_cons_succ]
      refine wpAnyH_take (i := 6) (v := .pointer (some ⟨lb, i * 64, none⟩)) rfl (by kernel_rfl) (by kernel_rfl) (by kernel_rfl) (fun _ _ _ h => h) (Or.inl ⟨by rfl, fun w' _ => by go_simp⟩) hS0 ?_
      simp only [Act.put, List.getElem_toArray, List.getElem_cons_zero, List.getElem_cons_succ, List.setIfInBounds_toArray, List.set_cons_zero, List.set_cons_succ]
      refine wpAnyH_ready (rs := [7]) (by kernel_rfl) (by simp) (AllReadyH.cons rfl (fun Kt hK => ?_) AllReadyH.nil)
      refine wanted_pos rfl ?_
      refine wp_store_mid 93 _ _ rfl lb (i * 64) (cells8 l).toArray (by rfl) (by rfl) (by
        rw [List.size_toArray, cells8_len' HL.out]
        intro j hj
        have := hD3.th (i * 64 + j) (by have := HI.out.1; show _ < D1.n * 64; omega)
        rwa [Nat.zero_add] at this) (by rw [List.size_toArray, cells8_len' HL.out]; exact sizeSec) (all_oneCell_toArray (cells8_one l)) (hK.out _ _ ?_ (fun _ => ?_))
      · have hg6 := grown_set64 lb (cells8 l) (i * 64) W5.drew
        exact ⟨(World.cell?_of_block (w := W5.drew) (hg6.block b hD3.bl (fun e => hD3.n1 (Option.some.inj e)))).trans hS0.1, World.rangeAt_setCells_apart hS0.2 _ _ _ (Or.inl (fun e => by
          have h1 := HDr.out.ll
          rw [← e] at h1
          exact Nat.lt_irrefl _ h1))⟩
      clear hK Kt
      refine wpAnyH_done (by kernel_rfl) ?_ _
      refine NoPanic.normal ?_
      have hD6 := hD3.row (i := i) HI.out.1 HL.out
      have hg6 := grown_set64 lb (cells8 l) (i * 64) W5.drew
      have hrg6 := hrg5.kept hg6 (fun e => hD3.n3 (Option.some.inj e).symm) (fun e => HX.out.2.1 (Option.some.inj e))
      have hK6 : Kp (X3 b lb mb) w' (W5.drew.setCells lb (i * 64) (cells8 l)) := ((HKr3.out.grow V5.bl).grow (K.drew (Below.refl _ W5))).trans (kp_row _ _)
      have eD : { D1.left left with la := upd (D1.left left).la i l } = D1.left (fun z => left z && !z.sameKey (kz i)) := by
        refine congrArg (fun la => DM.mk D1.n la D1.nw D1.fu D1.dn) (funext fun j => ?_)
        show (if j = i then l else if left (kz j) = true then _ else _) = if (left (kz j) && !(kz j).sameKey (kz i)) = true then _ else _
        by_cases e : j = i
        · subst e
          rw [if_pos rfl, WideAt.sameKey_self (kz_key j), HI.out.2.1]
          simp
        · rw [if_neg e, sameKey_ne (fun e2 => e (kz_inj e2))]
          simp
      rw [eD] at hD6
      clear hD3 hg6 hg5 hrg5 V4 V5 hS0 HRg HDr HKr3 eD
      show Exit.inBlock 1 _ Exit.normal _ (W5.drew.setCells lb (i * 64) (cells8 l))
      generalize W5.drew.setCells lb (i * 64) (cells8 l) = W7 at hD6 hrg6 hK6 ⊢
      go_wp2_with fail
      go_roundw
      case rel => exact ⟨_, _, fun kl hh => HMs.out.2 kl (by simp at hh; exact hh.1), hrg6, hD6, hK6⟩
      case measure => rw [hrg6.left_eq, HMs.out.1.2]; exact HMs.out.1.1
end Go.Proofs.Ytpophfeommlajaa
