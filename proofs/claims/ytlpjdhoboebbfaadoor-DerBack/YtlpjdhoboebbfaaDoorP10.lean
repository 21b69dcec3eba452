/- What the program's own Decode of layer 10 answers: where a reader panics it recovers. -/
import Derived.Test.YtlpjdhoboebbfaaDoorP10R
import Derived.Test.YtlpjdhoboebbfaaDoorD10Dec
import Derived.Test.YtlpjdhoboebbfaaDoorVD2
namespace Go.Proofs.YtlpjdhoboebbfaaDoor
open Go.RowKit

theorem cE11 (vs : List Value) : ∀ w, (callFunc 11 vs.toArray).run Tryd.prog w = .ok (.enter 11 vs.toArray) w := callFunc_enter Tryd.func11 (by kernel_rfl) (by kernel_rfl) _
theorem z4 : (Tryd.prog.info? 4).map (·.zero) = some (some (.bool false)) := by kernel_rfl
theorem catch_idle {g2 g3 g4 : Nat} (w : World) : CallsD Tryd.prog 11 [.pointer (some ⟨g2, 0, none⟩), .pointer (some ⟨g3, 0, none⟩), .pointer (some ⟨g4, 0, none⟩)].toArray .returning w fun e u' w' => e = .returned (.tuple #[]) ∧ u' = .returning ∧ w' = w := by
  refine callsD_of_wpS Tryd.func11 rfl fun c₀ cs hu => ?_
  apply wpS_seq
  apply wpS_region
  simp [wpOpsS, go_sem, recoverD, hu, Tryd.ntmps11, Exit.thenS]
  refine wpS_cond (t := false) (by simp [Act.eval, Array.replicate]) ?_
  simp only [Bool.false_eq_true, if_false]
  refine wpS_of_wp (wp_skip ?_)
  cases c₀
  simp_all [bodyPostS, results, Tryd.results11]
set_option maxRecDepth 100000 in
set_option maxHeartbeats 4000000 in
theorem catch_pan {g2 g3 g4 : Nat} {w : World} (t : TypeId) (pv : Value) {x0 x1 x2 x3 y0 y1 y2 y3 v4 : Value} (r2 : w.rangeAt g2 0 [x0, x1, x2, x3]) (t2 : w.there g2 0 4) (l2 : g2 < w.heap.size) (r3 : w.rangeAt g3 0 [y0, y1, y2, y3]) (t3 : w.there g3 0 4) (l3 : g3 < w.heap.size) (r4 : w.rangeAt g4 0 [v4]) (t4 : w.there g4 0 1) (l4 : g4 < w.heap.size) (n23 : g2 ≠ g3) (n24 : g2 ≠ g4) (n34 : g3 ≠ g4) : CallsD Tryd.prog 11 [.pointer (some ⟨g2, 0, none⟩), .pointer (some ⟨g3, 0, none⟩), .pointer (some ⟨g4, 0, none⟩)].toArray (.panicking [{ v := .iface t pv, recovered := false }]) w fun e u' w' => e = .returned (.tuple #[]) ∧ u' = .panicking [{ v := .iface t pv, recovered := true }] ∧ Kp (fun k => Nat.beq k g2 || Nat.beq k g3 || Nat.beq k g4) w w' ∧ w'.rangeAt g2 0 nz ∧ w'.rangeAt g3 0 nz ∧ w'.rangeAt g4 0 [Value.bool false] := by
  refine callsD_of_wpS Tryd.func11 rfl fun c₀ cs hu => ?_
  apply wpS_seq
  apply wpS_region
  simp [wpOpsS, go_sem, recoverD, hu, Tryd.ntmps11, Exit.thenS]
  refine wpS_cond (t := true) (by simp [Act.eval, Array.replicate]) ?_
  simp only [if_true]
  refine wpS_of_wp ?_
  refine wp_raw (fun k => Nat.beq k g2 || Nat.beq k g3 || Nat.beq k g4) 7 rfl rfl (fun a h => ?_)
  have nb : ∀ {i j : Nat}, i ≠ j → ∀ {ds : List Value} (v : Value) (F : Nat → Bool) (w' : World), (varPd i ds).p v F w' → F j = false := fun hn ds v F w' hp => by
    cases hF : F _ with
    | false => rfl
    | true => exact absurd ((hp.2.1 _).1 hF).symm hn
  replace h := h.keepQ [(0, .val (Value.pointer (some ⟨g2, 0, none⟩))), (1, .val (Value.pointer (some ⟨g3, 0, none⟩))), (2, .val (Value.pointer (some ⟨g4, 0, none⟩)))] [] [] ⟨rfl, rfl, rfl, trivial⟩ trivial trivial rfl
  replace h := h.gift 0 g2 [x0, x1, x2, x3] rfl (fun _ => rfl) (by simp) l2 r2 t2 (fun y p hy => by cases hy)
  replace h := h.keepQ [(0, .val (Value.pointer (some ⟨g2, 0, none⟩))), (1, .val (Value.pointer (some ⟨g3, 0, none⟩))), (2, .val (Value.pointer (some ⟨g4, 0, none⟩)))] [] [(0, varPd g2 [x0, x1, x2, x3])] ⟨rfl, rfl, rfl, trivial⟩ trivial ⟨rfl, trivial⟩ rfl
  replace h := h.gift 1 g3 [y0, y1, y2, y3] rfl (fun _ => rfl) (by simp) l3 r3 t3 (fun y p hy => by
    rcases y with _ | y
    · cases hy; exact nb n23
    · cases hy)
  replace h := h.keepQ [(0, .val (Value.pointer (some ⟨g2, 0, none⟩))), (1, .val (Value.pointer (some ⟨g3, 0, none⟩))), (2, .val (Value.pointer (some ⟨g4, 0, none⟩)))] [] [(0, varPd g2 [x0, x1, x2, x3]), (1, varPd g3 [y0, y1, y2, y3])] ⟨rfl, rfl, rfl, trivial⟩ trivial ⟨rfl, rfl, trivial⟩ rfl
  replace h := h.gift 2 g4 [v4] rfl (fun _ => rfl) (by simp) l4 r4 t4 (fun y p hy => by
    rcases y with _ | _ | y
    · cases hy; exact nb n24
    · cases hy; exact nb n34
    · cases hy)
  replace h := h.keepQ [(0, .val (Value.pointer (some ⟨g2, 0, none⟩))), (1, .val (Value.pointer (some ⟨g3, 0, none⟩))), (2, .val (Value.pointer (some ⟨g4, 0, none⟩)))] [] [(0, varPd g2 [x0, x1, x2, x3]), (1, varPd g3 [y0, y1, y2, y3]), (2, varPd g4 [v4])] ⟨rfl, rfl, rfl, trivial⟩ trivial ⟨rfl, rfl, rfl, trivial⟩ rfl
  refine a_endQ TT h hm [0, 1, 2, 3, 4] [eS 5 (.val (.agg (nz).toArray)), eS 6 (.val (.agg (nz).toArray)), eV 0 (varPd g2 (nz)), eV 1 (varPd g3 (nz)), eV 2 (varPd g4 ([Value.bool false]))] (by kernel_rfl) ⟨fun L u => u_build u (gd0 rfl) 5 rfl 26 #[] rfl [] rfl (nz) (n_b0), fun L u => u_build u (gd0 rfl) 6 rfl 26 #[] rfl [] rfl (nz) (n_b0), fun L u => u_storeF u (gd0 rfl) 26 (.tmp 0) (.tmp 5) rfl rfl rfl 0 rfl (vs := nz) rfl i26 (lk rfl) rfl _ rfl, fun L u => u_storeF u (gd0 rfl) 26 (.tmp 1) (.tmp 6) rfl rfl rfl 1 rfl (vs := nz) rfl i26 (lk rfl) rfl _ rfl, fun L u => u_storeF1 u (gd0 rfl) 4 (.tmp 2) (.const (.bool false)) rfl rfl rfl 2 rfl rfl i4 (lk rfl) rfl _ rfl, trivial⟩ [] [] [(0, varPd g2 (nz)), (1, varPd g3 (nz)), (2, varPd g4 ([Value.bool false]))] trivial trivial ⟨rfl, rfl, rfl, trivial⟩ rfl (fun a w h => ?_)
  have k2 := (h.told (x := 0) rfl).1
  have k3 := (h.told (x := 1) rfl).1
  have k4 := (h.told (x := 2) rfl).1
  have hkp := h.below
  refine ⟨h.defers, _, rfl, .tuple #[], by simp [results, Tryd.results11], rfl, rfl, hkp, k2, k3, k4⟩
set_option maxRecDepth 100000 in
set_option maxHeartbeats 4000000 in
theorem dec_none {w : World} {n c : Nat} {z : Option Addr} {f : Nat → Nat} (hba : BA w z n f) (hT : Tab w) (hnc : n ≤ c) (hn : n ≤ 1000) (hp : ¬ PairOk f n) : Calls Tryd.prog 7 [Value.slice (z) (n) (c)].toArray w fun e w' => e = .returned (.tuple [.agg nz.toArray, .agg nz.toArray, .bool false].toArray) ∧ Below w.heap.size w w' := by
  refine enterD (args := [Value.slice (z) (n) (c)]) Tryd.func7 rfl 13 rfl (lk rfl) (fun a h => ?_)
  refine a_region TT h hm [] [eN 2 (nz), eN 3 (nz), eN 4 ([Value.bool false])] (by kernel_rfl) ⟨rfl, rfl, rfl, trivial⟩ [(0, .val (Value.slice (z) (n) (c))), (2, .ptr 2 0), (3, .ptr 3 0), (4, .ptr 4 0)] [(2, nz), (3, nz), (4, [Value.bool false])] ⟨rfl, rfl, rfl, rfl, trivial⟩ ⟨rfl, rfl, rfl, trivial⟩ rfl (fun a w h => ?_)
  obtain ⟨g2, h⟩ := h.fix 2 rfl rfl
  replace h := h.keepQ [(0, .val (Value.slice (z) (n) (c))), (2, .val (Value.pointer (some ⟨g2, 0, none⟩))), (3, .ptr 3 0), (4, .ptr 4 0)] [(3, nz), (4, [Value.bool false])] [(2, varPd g2 (nz))] ⟨rfl, rfl, rfl, rfl, trivial⟩ ⟨rfl, rfl, trivial⟩ ⟨rfl, trivial⟩ rfl
  obtain ⟨g3, h⟩ := h.fix 3 rfl rfl
  replace h := h.keepQ [(0, .val (Value.slice (z) (n) (c))), (2, .val (Value.pointer (some ⟨g2, 0, none⟩))), (3, .val (Value.pointer (some ⟨g3, 0, none⟩))), (4, .ptr 4 0)] [(4, [Value.bool false])] [(2, varPd g2 (nz)), (3, varPd g3 (nz))] ⟨rfl, rfl, rfl, rfl, trivial⟩ ⟨rfl, trivial⟩ ⟨rfl, rfl, trivial⟩ rfl
  obtain ⟨g4, h⟩ := h.fix 4 rfl rfl
  replace h := h.keepQ [(0, .val (Value.slice (z) (n) (c))), (2, .val (Value.pointer (some ⟨g2, 0, none⟩))), (3, .val (Value.pointer (some ⟨g3, 0, none⟩))), (4, .val (Value.pointer (some ⟨g4, 0, none⟩)))] [] [(2, varPd g2 (nz)), (3, varPd g3 (nz)), (4, varPd g4 ([Value.bool false]))] ⟨rfl, rfl, rfl, rfl, trivial⟩ trivial ⟨rfl, rfl, rfl, trivial⟩ rfl
  refine wp_seq ?_
  refine sq_begin [0, 1] rfl ?_
  refine sq_step h (i := 0) rfl (u_func (xs := []) (up_seq (i := 0) (by kernel_rfl) rfl) (gd0 rfl) 5 rfl (.func 11) #[(.tmp 2), (.tmp 3), (.tmp 4)] rfl [Value.pointer (some ⟨g2, 0, none⟩), Value.pointer (some ⟨g3, 0, none⟩), Value.pointer (some ⟨g4, 0, none⟩)] rfl) (fun a w h => ?_)
  refine sq_defer h (i := 1) rfl (gq0 rfl) (.tmp 5) #[] rfl rfl (cap := [Value.pointer (some ⟨g2, 0, none⟩), Value.pointer (some ⟨g3, 0, none⟩), Value.pointer (some ⟨g4, 0, none⟩)]) rfl (fun a h => ?_)
  replace h := h.keepQ [(0, .val (Value.slice (z) (n) (c))), (2, .val (Value.pointer (some ⟨g2, 0, none⟩))), (3, .val (Value.pointer (some ⟨g3, 0, none⟩))), (4, .val (Value.pointer (some ⟨g4, 0, none⟩)))] [] [(2, varPd g2 (nz)), (3, varPd g3 (nz)), (4, varPd g4 ([Value.bool false]))] ⟨rfl, rfl, rfl, rfl, trivial⟩ trivial ⟨rfl, rfl, rfl, trivial⟩ rfl
  refine sq_end ?_
  refine then_norm ?_
  refine wp_seq ?_
  refine sq_begin [0, 1, 2, 3, 4, 5, 6] rfl ?_
  refine sq_step h (i := 0) rfl (u_move (xs := []) (up_seq (i := 0) (by kernel_rfl) rfl) (gd0 rfl) 7 rfl (.tmp 0) (Or.inl rfl) rfl) (fun a w h => ?_)
  refine sq_callP h (i := 1) rfl (gq0 rfl) 12 #[(.tmp 7)] #[22] rfl [.val (Value.slice (z) (n) (c))] rfl (fun vs w => callFunc_enter Tryd.func12 (by kernel_rfl) (by kernel_rfl) vs w) (fun β hr => pair_pan (hba.keep (Bs.kp_d hr.bl)) (hT.keep (Bs.kp_d hr.bl)) hnc hn hp) (fun t v w h => ?_)
  refine then_pan ?_
  have T2 := h.told (x := 2) rfl; have T3 := h.told (x := 3) rfl; have T4 := h.told (x := 4) rfl; exact leave_pan h rfl (cE11 _) (catch_pan t v T2.1 T2.2.1 T2.2.2.2 T3.1 T3.2.1 T3.2.2.2 T4.1 T4.2.1 T4.2.2.2 (h.told_ne (x := 2) (y := 3) rfl rfl (by decide)) (h.told_ne (x := 2) (y := 4) rfl rfl (by decide)) (h.told_ne (x := 3) (y := 4) rfl rfl (by decide))) (fun w' hS => ⟨_, res_three (c1 := nz) (c2 := nz) (v := Value.bool false) rfl (h.slot (d := 2) (lk rfl) rfl) (h.slot (d := 3) (lk rfl) rfl) (h.slot (d := 4) (lk rfl) rfl) hS.2.1 hS.2.2.1 hS.2.2.2 Tryd.underlying26 rfl i26 rfl Tryd.underlying4 rfl, rfl, kp_more (Bs.kp_d h.below) hS.1 (fun k hk => or3 hk (old_of T2.2.2.1) (old_of T3.2.2.1) (old_of T4.2.2.1))⟩)
set_option maxRecDepth 100000 in
set_option maxHeartbeats 4000000 in
theorem dec_some {w : World} {n c : Nat} {z : Option Addr} {f : Nat → Nat} (hba : BA w z n f) (hT : Tab w) (hnc : n ≤ c) (hn : n ≤ 1000) (hp : PairOk f n) {R S : Nat} (hR : nV (fun i => f (2 + i)) = R) (hS : nV (fun i => f (4 + f 3 + i)) = S) : Calls Tryd.prog 7 [Value.slice (z) (n) (c)].toArray w fun e w' => e = .returned (.tuple [.agg (nc ((R : Nat) : Int)).toArray, .agg (nc ((S : Nat) : Int)).toArray, .bool true].toArray) ∧ Below w.heap.size w w' := by
  refine enterD (args := [Value.slice (z) (n) (c)]) Tryd.func7 rfl 13 rfl (lk rfl) (fun a h => ?_)
  refine a_region TT h hm [] [eN 2 (nz), eN 3 (nz), eN 4 ([Value.bool false])] (by kernel_rfl) ⟨rfl, rfl, rfl, trivial⟩ [(0, .val (Value.slice (z) (n) (c))), (2, .ptr 2 0), (3, .ptr 3 0), (4, .ptr 4 0)] [(2, nz), (3, nz), (4, [Value.bool false])] ⟨rfl, rfl, rfl, rfl, trivial⟩ ⟨rfl, rfl, rfl, trivial⟩ rfl (fun a w h => ?_)
  obtain ⟨g2, h⟩ := h.fix 2 rfl rfl
  replace h := h.keepQ [(0, .val (Value.slice (z) (n) (c))), (2, .val (Value.pointer (some ⟨g2, 0, none⟩))), (3, .ptr 3 0), (4, .ptr 4 0)] [(3, nz), (4, [Value.bool false])] [(2, varPd g2 (nz))] ⟨rfl, rfl, rfl, rfl, trivial⟩ ⟨rfl, rfl, trivial⟩ ⟨rfl, trivial⟩ rfl
  obtain ⟨g3, h⟩ := h.fix 3 rfl rfl
  replace h := h.keepQ [(0, .val (Value.slice (z) (n) (c))), (2, .val (Value.pointer (some ⟨g2, 0, none⟩))), (3, .val (Value.pointer (some ⟨g3, 0, none⟩))), (4, .ptr 4 0)] [(4, [Value.bool false])] [(2, varPd g2 (nz)), (3, varPd g3 (nz))] ⟨rfl, rfl, rfl, rfl, trivial⟩ ⟨rfl, trivial⟩ ⟨rfl, rfl, trivial⟩ rfl
  obtain ⟨g4, h⟩ := h.fix 4 rfl rfl
  replace h := h.keepQ [(0, .val (Value.slice (z) (n) (c))), (2, .val (Value.pointer (some ⟨g2, 0, none⟩))), (3, .val (Value.pointer (some ⟨g3, 0, none⟩))), (4, .val (Value.pointer (some ⟨g4, 0, none⟩)))] [] [(2, varPd g2 (nz)), (3, varPd g3 (nz)), (4, varPd g4 ([Value.bool false]))] ⟨rfl, rfl, rfl, rfl, trivial⟩ trivial ⟨rfl, rfl, rfl, trivial⟩ rfl
  refine wp_seq ?_
  refine sq_begin [0, 1] rfl ?_
  refine sq_step h (i := 0) rfl (u_func (xs := []) (up_seq (i := 0) (by kernel_rfl) rfl) (gd0 rfl) 5 rfl (.func 11) #[(.tmp 2), (.tmp 3), (.tmp 4)] rfl [Value.pointer (some ⟨g2, 0, none⟩), Value.pointer (some ⟨g3, 0, none⟩), Value.pointer (some ⟨g4, 0, none⟩)] rfl) (fun a w h => ?_)
  refine sq_defer h (i := 1) rfl (gq0 rfl) (.tmp 5) #[] rfl rfl (cap := [Value.pointer (some ⟨g2, 0, none⟩), Value.pointer (some ⟨g3, 0, none⟩), Value.pointer (some ⟨g4, 0, none⟩)]) rfl (fun a h => ?_)
  replace h := h.keepQ [(0, .val (Value.slice (z) (n) (c))), (2, .val (Value.pointer (some ⟨g2, 0, none⟩))), (3, .val (Value.pointer (some ⟨g3, 0, none⟩))), (4, .val (Value.pointer (some ⟨g4, 0, none⟩)))] [] [(2, varPd g2 (nz)), (3, varPd g3 (nz)), (4, varPd g4 ([Value.bool false]))] ⟨rfl, rfl, rfl, rfl, trivial⟩ trivial ⟨rfl, rfl, rfl, trivial⟩ rfl
  refine sq_end ?_
  refine then_norm ?_
  refine wp_seq ?_
  refine sq_begin [0, 1, 2, 3, 4, 5, 6] rfl ?_
  refine sq_step h (i := 0) rfl (u_move (xs := []) (up_seq (i := 0) (by kernel_rfl) rfl) (gd0 rfl) 7 rfl (.tmp 0) (Or.inl rfl) rfl) (fun a w h => ?_)
  refine sq_step h (i := 1) rfl (u_call (xs := []) (up_seq (i := 1) (by kernel_rfl) rfl) (gd0 rfl) _ rfl _ _ _ rfl [_] rfl (cE12 _) (.tuple [.agg (nc (((R : Nat) : Int))).toArray, .agg (nc (((S : Nat) : Int))).toArray].toArray) (fun w hb => by have q := pair_ok (w := w) (hba.keep (Bs.kp_d hb)) (hT.keep (Bs.kp_d hb)) hnc hn hp; rw [hR, hS] at q; exact q)) (fun a w h => ?_)
  refine sq_step h (i := 2) rfl (u_move (xs := []) (up_seq (i := 2) (by kernel_rfl) rfl) (gd0 rfl) 6 rfl (.tmp 8) (Or.inl rfl) rfl) (fun a w h => ?_)
  refine sq_step h (i := 3) rfl (u_part (xs := []) (up_seq (i := 3) (by kernel_rfl) rfl) (gd0 rfl) 9 rfl (.tmp 6) 0 rfl (vs := [.agg (nc (((R : Nat) : Int))).toArray, .agg (nc (((S : Nat) : Int))).toArray]) rfl _ rfl) (fun a w h => ?_)
  refine sq_step h (i := 4) rfl (u_part (xs := []) (up_seq (i := 4) (by kernel_rfl) rfl) (gd0 rfl) 10 rfl (.tmp 6) 1 rfl (vs := [.agg (nc (((R : Nat) : Int))).toArray, .agg (nc (((S : Nat) : Int))).toArray]) rfl _ rfl) (fun a w h => ?_)
  refine sq_step h (i := 5) rfl (u_storeF (xs := []) (up_seq (i := 5) (by kernel_rfl) rfl) (gd0 rfl) 26 (.tmp 2) (.tmp 9) rfl rfl rfl 2 rfl (vs := nc (((R : Nat) : Int))) rfl i26 (lk rfl) rfl _ rfl) (fun a w h => ?_)
  refine sq_step h (i := 6) rfl (u_storeF (xs := []) (up_seq (i := 6) (by kernel_rfl) rfl) (gd0 rfl) 26 (.tmp 3) (.tmp 10) rfl rfl rfl 3 rfl (vs := nc (((S : Nat) : Int))) rfl i26 (lk rfl) rfl _ rfl) (fun a w h => ?_)
  replace h := h.keepQ [(2, .val (Value.pointer (some ⟨g2, 0, none⟩))), (3, .val (Value.pointer (some ⟨g3, 0, none⟩))), (4, .val (Value.pointer (some ⟨g4, 0, none⟩)))] [] [(2, varPd g2 (nc (((R : Nat) : Int)))), (3, varPd g3 (nc (((S : Nat) : Int)))), (4, varPd g4 ([Value.bool false]))] ⟨rfl, rfl, rfl, trivial⟩ trivial ⟨rfl, rfl, rfl, trivial⟩ rfl
  refine sq_end ?_
  refine then_norm ?_
  refine a_regionQ TT h hm [0, 1, 2, 3, 4] [eS 11 (.val (.agg (nc (((R : Nat) : Int))).toArray)), eS 12 (.val (.agg (nc (((S : Nat) : Int))).toArray)), eV 2 (varPd g2 (nc (((R : Nat) : Int)))), eV 3 (varPd g3 (nc (((S : Nat) : Int)))), eV 4 (varPd g4 ([Value.bool true]))] (by kernel_rfl) ⟨fun L u => u_loadF u (gd0 rfl) 11 rfl 26 (.tmp 2) rfl rfl 2 rfl Tryd.underlying26 rfl i26 (lk rfl) _ rfl, fun L u => u_loadF u (gd0 rfl) 12 rfl 26 (.tmp 3) rfl rfl 3 rfl Tryd.underlying26 rfl i26 (lk rfl) _ rfl, fun L u => u_storeF u (gd0 rfl) 26 (.tmp 2) (.tmp 11) rfl rfl rfl 2 rfl (vs := nc (((R : Nat) : Int))) rfl i26 (lk rfl) rfl _ rfl, fun L u => u_storeF u (gd0 rfl) 26 (.tmp 3) (.tmp 12) rfl rfl rfl 3 rfl (vs := nc (((S : Nat) : Int))) rfl i26 (lk rfl) rfl _ rfl, fun L u => u_storeF1 u (gd0 rfl) 4 (.tmp 4) (.const (.bool true)) rfl rfl rfl 4 rfl rfl i4 (lk rfl) rfl _ rfl, trivial⟩ [(2, .val (Value.pointer (some ⟨g2, 0, none⟩))), (3, .val (Value.pointer (some ⟨g3, 0, none⟩))), (4, .val (Value.pointer (some ⟨g4, 0, none⟩)))] [] [(2, varPd g2 (nc (((R : Nat) : Int)))), (3, varPd g3 (nc (((S : Nat) : Int)))), (4, varPd g4 ([Value.bool true]))] ⟨rfl, rfl, rfl, trivial⟩ trivial ⟨rfl, rfl, rfl, trivial⟩ rfl (fun a w h => ?_)
  refine wp_ret ?_
  have T2 := h.told (x := 2) rfl; have T3 := h.told (x := 3) rfl; have T4 := h.told (x := 4) rfl; exact leave_ret h rfl (cE11 _) (catch_idle _) (res_three (c1 := nc (((R : Nat) : Int))) (c2 := nc (((S : Nat) : Int))) (v := Value.bool true) rfl (h.slot (d := 2) (lk rfl) rfl) (h.slot (d := 3) (lk rfl) rfl) (h.slot (d := 4) (lk rfl) rfl) T2.1 T3.1 T4.1 Tryd.underlying26 rfl i26 rfl Tryd.underlying4 rfl) ⟨rfl, Bs.kp_d h.below⟩
theorem fl_split (f : Nat → Nat) {a b n : Nat} (h : a + b = n) : fl f n = fl f a ++ fl (fun i => f (a + i)) b := by
  rw [← h, fl_cat]
  exact fl_same (fun i hi => by
    unfold cat
    split
    · rfl
    · show f i = f (a + (i - a))
      rw [show a + (i - a) = i by omega])
theorem pair_yes {f : Nat → Nat} {n : Nat} (h : PairOk f n) : dE (nV (fun i => f (2 + i))) (nV (fun i => f (4 + f 3 + i))) = fl f n := by
  obtain ⟨h1, h2, h3, h4, h5, h6⟩ := h
  obtain ⟨p1, p2, p3, p4⟩ := h4
  obtain ⟨q1, q2, q3, q4⟩ := h5
  have e3 : f (4 + f 3 + 1) = f (5 + f 3) := n3_at f
  have mR : msz (nV (fun i => f (2 + i))) = f 3 := by
    have := congrArg List.length p4
    rw [fl_len, be_len] at this
    exact this.symm
  have mS : msz (nV (fun i => f (4 + f 3 + i))) = f (5 + f 3) := by
    have := congrArg List.length q4
    rw [fl_len, be_len] at this
    exact this.symm.trans e3
  rw [dE_eq, mR, mS]
  rw [mR] at p4
  rw [mS] at q4
  have w1 : fl f n = [f 0, f 1] ++ ([f 2, f 3] ++ (fl (fun i => f (2 + (2 + i))) (f 3) ++ ([f (4 + f 3), f (5 + f 3)] ++ fl (fun i => f (4 + f 3 + (2 + i))) (f (5 + f 3))))) := by
    rw [fl_split f (a := 2) (b := n - 2) (by omega), fl_split (fun i => f (2 + i)) (a := 2) (b := n - 4) (by omega), fl_split (fun i => f (2 + (2 + i))) (a := f 3) (b := n - 4 - f 3) (by omega), fl_split (fun i => f (2 + (2 + (f 3 + i)))) (a := 2) (b := f (5 + f 3)) (by omega)]
    have a1 : fl f 2 = [f 0, f 1] := rfl
    have a2 : fl (fun i => f (2 + i)) 2 = [f 2, f 3] := rfl
    have a3 : fl (fun i => f (2 + (2 + (f 3 + i)))) 2 = [f (4 + f 3), f (5 + f 3)] := by
      show [f (2 + (2 + (f 3 + 0))), f (2 + (2 + (f 3 + 1)))] = _
      rw [show 2 + (2 + (f 3 + 0)) = 4 + f 3 by omega, show 2 + (2 + (f 3 + 1)) = 5 + f 3 by omega]
    have a4 : (fun i => f (2 + (2 + (f 3 + (2 + i))))) = fun i => f (4 + f 3 + (2 + i)) := funext fun i => by rw [show 2 + (2 + (f 3 + (2 + i))) = 4 + f 3 + (2 + i) by omega]
    rw [a1, a2, a3, a4]
  rw [w1]
  have p2' : f 2 = 2 := p2
  have q2' : f (4 + f 3) = 2 := q2
  have p4' : fl (fun i => f (2 + (2 + i))) (f 3) = be (nV (fun i => f (2 + i))) (f 3) := p4
  have q4' : fl (fun i => f (4 + f 3 + (2 + i))) (f (5 + f 3)) = be (nV (fun i => f (4 + f 3 + i))) (f (5 + f 3)) := by
    have e : (fun i => f (4 + f 3 + i)) 1 = f (5 + f 3) := n3_at f
    rw [e] at q4
    exact q4
  rw [p4', q4', h2, h3, p2', q2', show f 3 + f (5 + f 3) + 4 = n - 2 by omega]
  rfl
theorem fl_of {f : Nat → Nat} {n i : Nat} {l : List Nat} (h : l = fl f n) (hi : i < n) : f i = l.getD i 0 := by
  rw [h, List.getD_eq_getElem?_getD, fl_at f hi]
  rfl
theorem pair_no {f : Nat → Nat} {n : Nat} {r s : Nat} (hr : r < 2 ^ 256) (hs : s < 2 ^ 256) (h : dE r s = fl f n) : PairOk f n := by
  obtain ⟨k1, k2, k3, k4, k5⟩ := dE_only hr hs h
  have hlen : n = msz r + msz s + 6 := by rw [← dE_len, h, fl_len]
  have e := dE_eq r s
  have f0 : f 0 = 48 := by rw [fl_of h (by omega), e]; rfl
  have f1 : f 1 = msz r + msz s + 4 := by rw [fl_of h (by omega), e]; rfl
  have f2 : f 2 = 2 := by rw [fl_of h (by omega), e]; rfl
  have f3 : f 3 = msz r := by rw [fl_of h (by omega), e]; rfl
  have tl : ∀ k, (dE r s).getD (4 + f 3 + k) 0 = (2 :: msz s :: be s (msz s)).getD k 0 := fun k => by
    rw [e, f3, List.getD_eq_getElem?_getD, List.getD_eq_getElem?_getD]
    show (48 :: (msz r + msz s + 4) :: 2 :: msz r :: (be r (msz r) ++ 2 :: msz s :: be s (msz s)))[4 + msz r + k]?.getD 0 = _
    rw [show 4 + msz r + k = (msz r + k) + 1 + 1 + 1 + 1 by omega, List.getElem?_cons_succ, List.getElem?_cons_succ, List.getElem?_cons_succ, List.getElem?_cons_succ, List.getElem?_append_right (by rw [be_len]; omega), be_len, show msz r + k - msz r = k by omega]
  have hsz := (msz_spec hs).2.2.1
  have f4 : f (4 + f 3) = 2 := by rw [fl_of h (i := 4 + f 3) (by omega)]; exact tl 0
  have f5 : f (5 + f 3) = msz s := by
    rw [fl_of h (i := 5 + f 3) (by omega), show 5 + f 3 = 4 + f 3 + 1 by omega]
    exact tl 1
  have bR : fl (fun i => f (4 + i)) (f 3) = be r (msz r) := by
    have q := dE_r r s
    rw [h, fl_cut (by omega), ← f3] at q
    rw [f3] at q ⊢
    exact q
  have bS : fl (fun i => f (6 + f 3 + i)) (f (5 + f 3)) = be s (msz s) := by
    have q := dE_s r s
    rw [h, fl_tail (by omega), ← f3, show n - (6 + f 3) = f (5 + f 3) by omega] at q
    exact q
  have vR : nV (fun i => f (2 + i)) = r := by
    have a1 : (fun i => f (2 + (2 + i))) = fun i => f (4 + i) := funext fun i => by rw [show 2 + (2 + i) = 4 + i by omega]
    show num (fl (fun i => f (2 + (2 + i))) (f 3)) % 2 ^ 256 = r
    rw [a1, bR, be_msz hr, Nat.mod_eq_of_lt hr]
  have a5 : (fun i => f (4 + f 3 + (2 + i))) = fun i => f (6 + f 3 + i) := funext fun i => by rw [show 4 + f 3 + (2 + i) = 6 + f 3 + i by omega]
  have e3 : f (4 + f 3 + 1) = f (5 + f 3) := n3_at f
  have vS : nV (fun i => f (4 + f 3 + i)) = s := by
    show num (fl (fun i => f (4 + f 3 + (2 + i))) (f (4 + f 3 + 1))) % 2 ^ 256 = s
    rw [a5, e3, bS, be_msz hs, Nat.mod_eq_of_lt hs]
  refine ⟨by omega, f0, by omega, ⟨by omega, f2, ?_, ?_⟩, ⟨by omega, f4, ?_, ?_⟩, by omega⟩
  · show 2 + f 3 ≤ n - 2
    omega
  · rw [vR]
    have a1 : (fun i => f (2 + (2 + i))) = fun i => f (4 + i) := funext fun i => by rw [show 2 + (2 + i) = 4 + i by omega]
    show fl (fun i => f (2 + (2 + i))) (f 3) = _
    rw [a1]; exact bR
  · show 2 + f (4 + f 3 + 1) ≤ n - 4 - f 3
    omega
  · rw [vS]
    show fl (fun i => f (4 + f 3 + (2 + i))) (f (4 + f 3 + 1)) = _
    rw [a5, e3]; exact bS
/-- The program's own Decode, of all bytes (of 1000 at most). -/
theorem e_Dec {w : World} {A : Option Addr} {n c : Nat} {f : Nat → Nat} (hT : Tab w) (hba : BA w A n f) (hc : n ≤ c) (hn : n ≤ 1000) : Calls Tryd.prog 7 [.slice A n c].toArray w fun e w' => e = .returned (dv (fl f n)) ∧ Below w.heap.size w w' := by
  by_cases h : PairOk f n
  · rw [dv_yes (nV_lt _) (nV_lt _) (pair_yes h)]
    exact dec_some hba hT hc hn h rfl rfl
  · rw [dv_no (fun r s hr hs e => h (pair_no hr hs e))]
    exact dec_none hba hT hc hn h
end Go.Proofs.YtlpjdhoboebbfaaDoor
