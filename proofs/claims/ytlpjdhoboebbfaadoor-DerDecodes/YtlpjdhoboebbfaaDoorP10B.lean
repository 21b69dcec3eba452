/- What the program's own readers of layer 10 answer, and where they panic. -/
import Derived.Test.YtlpjdhoboebbfaaDoorP10A
import Derived.Test.YtlpjdhoboebbfaaDoorVW
namespace Go.Proofs.YtlpjdhoboebbfaaDoor
open Go.RowKit

/-- The variable that the readers panic with is there. -/
structure Tab (w : World) : Prop where
  c : ∃ t v, w.cell? ⟨0, 0, none⟩ = some (.iface t v)
theorem Tab.keep {w w1 : World} (h : Tab w) (hb : Below w.heap.size w w1) : Tab w1 := by
  obtain ⟨t, v, hc⟩ := h.c
  exact ⟨t, v, later hb hc⟩
/-- Bytes, and that variable, whatever is written into block b. -/
structure Env (w : World) (b : Nat) (z : Option Addr) (n c : Nat) (f : Nat → Nat) : Prop where
  nc : n ≤ c
  ba : ∀ w', w.grownBy w' (some b) → BA w' z n f
  tb : ∀ w', w.grownBy w' (some b) → Tab w'
theorem Env.later {w w1 : World} {b n c : Nat} {z : Option Addr} {f : Nat → Nat} (h : Env w b z n c f) (hw : w.grownBy w1 (some b)) : Env w1 b z n c f := ⟨h.nc, fun w' h' => h.ba w' (grown_trans hw h'), fun w' h' => h.tb w' (grown_trans hw h')⟩
theorem Env.cut {w : World} {b n c : Nat} {z : Option Addr} {f : Nat → Nat} (h : Env w b z n c f) (k : Nat) {z1 : Option Addr} (hz : cutA z c k = z1) {n1 c1 : Nat} (hn : n = n1 + k) (hc : c = c1 + k) {g : Nat → Nat} (hg : ∀ i, g i = f (k + i)) : Env w b z1 n1 c1 g := by
  refine ⟨by have := h.nc; omega, fun w' h' => ?_, h.tb⟩
  have e := (h.ba w' h').cut c k n1 (by omega) h.nc
  rw [hz, show (fun i => f (k + i)) = g from funext fun i => (hg i).symm] at e
  exact e
theorem env_of {w0 w : World} {b n c : Nat} {z : Option Addr} {f : Nat → Nat} (hba : BA w0 z n f) (hT : Tab w0) (hnc : n ≤ c) (hk : (Bs.of w0).kp w) (ho : (Bs.of w0).w.heap.size ≤ b ∨ (Bs.of w0).X b = true) : Env w b z n c f := by
  have hb : w0.heap.size ≤ b := ho.resolve_right (fun e => by cases e)
  have key : ∀ w', w.grownBy w' (some b) → Below w0.heap.size w0 w' := fun w' h' => Bs.kp_of (grown_kp hk (Or.inl hb) h')
  exact ⟨hnc, fun w' h' => hba.keep (key w' h'), fun w' h' => hT.keep (key w' h')⟩
theorem BA.cellAt {w : World} {d o n : Nat} {f : Nat → Nat} (h : BA w (some ⟨d, o, none⟩) n f) {i : Nat} (hi : i < n) : w.cell? ⟨d, o + i, none⟩ = some (.int .u8 ((f i : Nat) : Int)) := by
  rcases h.at_ with h0 | ⟨b, q, e, hr⟩
  · omega
  · cases e
    exact hr.c i hi
theorem cutA0 (d o c : Nat) : cutA (some ⟨d, o, none⟩) c 0 = some ⟨d, o, none⟩ := by
  unfold cutA
  split
  · rfl
  · rw [Option.map_some, Addr.add_mid]; rfl
theorem cE19 (vs : List Value) : ∀ w, (callFunc 19 vs.toArray).run Tryd.prog w = .ok (.enter 19 vs.toArray) w := callFunc_enter Tryd.func19 (by kernel_rfl) (by kernel_rfl) _
theorem cE25 (vs : List Value) : ∀ w, (callFunc 25 vs.toArray).run Tryd.prog w = .ok (.enter 25 vs.toArray) w := callFunc_enter Tryd.func25 (by kernel_rfl) (by kernel_rfl) _
theorem cE18 (vs : List Value) : ∀ w, (callFunc 18 vs.toArray).run Tryd.prog w = .ok (.enter 18 vs.toArray) w := callFunc_enter Tryd.func18 (by kernel_rfl) (by kernel_rfl) _
theorem cE17 (vs : List Value) : ∀ w, (callFunc 17 vs.toArray).run Tryd.prog w = .ok (.enter 17 vs.toArray) w := callFunc_enter Tryd.func17 (by kernel_rfl) (by kernel_rfl) _
theorem cE20 (vs : List Value) : ∀ w, (callFunc 20 vs.toArray).run Tryd.prog w = .ok (.enter 20 vs.toArray) w := callFunc_enter Tryd.func20 (by kernel_rfl) (by kernel_rfl) _
theorem cE26 (vs : List Value) : ∀ w, (callFunc 26 vs.toArray).run Tryd.prog w = .ok (.enter 26 vs.toArray) w := callFunc_enter Tryd.func26 (by kernel_rfl) (by kernel_rfl) _
theorem cE24 (vs : List Value) : ∀ w, (callFunc 24 vs.toArray).run Tryd.prog w = .ok (.enter 24 vs.toArray) w := callFunc_enter Tryd.func24 (by kernel_rfl) (by kernel_rfl) _
theorem cE12 (vs : List Value) : ∀ w, (callFunc 12 vs.toArray).run Tryd.prog w = .ok (.enter 12 vs.toArray) w := callFunc_enter Tryd.func12 (by kernel_rfl) (by kernel_rfl) _
set_option maxRecDepth 100000 in
set_option maxHeartbeats 4000000 in
theorem ins_t {w : World}  : Calls Tryd.prog 19 [Value.bool true].toArray w fun e w' => e = .returned (.tuple #[]) ∧ Below w.heap.size w w' := by
  refine enter (args := [Value.bool true]) Tryd.func19 rfl 5 rfl (lk rfl) (fun a h => ?_)
  refine a_region TT h hm [] [eS 2 (.val (Value.bool true)), eS 3 (.val (Value.bool false))] (by kernel_rfl) ⟨rfl, rfl, trivial⟩ [(3, .val (Value.bool false))] [] ⟨rfl, trivial⟩ trivial rfl (fun a w h => ?_)
  refine go_cond h false rfl (fun ht => ?_) (fun hf => ?_)
  case refine_1 => cases ht
  refine wp_skip ?_
  refine end_none h rfl ?_
  exact ⟨rfl, h.grows⟩
set_option maxRecDepth 100000 in
set_option maxHeartbeats 4000000 in
theorem ins_f {w : World} (hT : Tab w) : Calls Tryd.prog 19 [Value.bool false].toArray w fun e w' => Pn e ∧ Below w.heap.size w w' := by
  obtain ⟨t0, v0, hc0⟩ := hT.c
  refine enter (args := [Value.bool false]) Tryd.func19 rfl 5 rfl (lk rfl) (fun a h => ?_)
  refine a_region TT h hm [] [eS 2 (.val (Value.bool false)), eS 3 (.val (Value.bool true))] (by kernel_rfl) ⟨rfl, rfl, trivial⟩ [(3, .val (Value.bool true))] [] ⟨rfl, trivial⟩ trivial rfl (fun a w h => ?_)
  refine go_cond h true rfl (fun ht => ?_) (fun hf => ?_)
  case refine_2 => cases hf
  refine sq_begin [0, 1] rfl ?_
  refine sq_step h (i := 0) rfl (u_loadX (xs := []) (up_seq (i := 0) (by kernel_rfl) rfl) (gd0 rfl) 4 rfl 54 (.global 0) rfl rfl Tryd.underlying54 rfl (Value.iface t0 v0) (hc0) rfl) (fun a w h => ?_)
  refine sq_panic h (i := 1) rfl (gq0 rfl) (.tmp 4) rfl rfl (fun t v h => ?_)
  exact pan_end h
set_option maxRecDepth 100000 in
set_option maxHeartbeats 4000000 in
theorem take_ok {w : World} {b n c k n1 c1 : Nat} {z z0 z1 : Option Addr} (_hnc : n ≤ c) (h0 : cutA z c 0 = z0) (h1 : cutA z c k = z1) (hn : n = n1 + k) (hc : c = c1 + k) (h3 : w.rangeAt b 0 [Value.slice (z) (n) (c)]) (h4 : w.there b 0 [Value.slice (z) (n) (c)].length) (hl : b < w.heap.size) : Calls Tryd.prog 25 [Value.pointer (some ⟨b, 0, none⟩), Value.int .i64 ((k : Nat) : Int)].toArray w fun e w' => e = .returned (Value.slice (z0) (k) (c)) ∧ w.grownBy w' (some b) ∧ w'.rangeAt b 0 [Value.slice (z1) (n1) (c1)] ∧ w'.there b 0 [Value.slice (z1) (n1) (c1)].length := by
  refine enterB (X := fun k => Nat.beq k b) (args := [Value.pointer (some ⟨b, 0, none⟩), Value.int .i64 ((k : Nat) : Int)]) Tryd.func25 rfl 30 rfl (lk rfl) (fun a h => ?_)
  replace h := h.keepQ [(0, .val (Value.pointer (some ⟨b, 0, none⟩))), (1, .val (Value.int .i64 ((k : Nat) : Int)))] [] [] ⟨rfl, rfl, trivial⟩ trivial trivial rfl
  replace h := h.gift 0 b [Value.slice (z) (n) (c)] rfl (fun _ => rfl) (Nat.beq_refl b) hl h3 h4 (fun y p hy => by cases hy)
  replace h := h.keepQ [(0, .val (Value.pointer (some ⟨b, 0, none⟩))), (1, .val (Value.int .i64 ((k : Nat) : Int)))] [] [(0, varPd b ([Value.slice (z) (n) (c)]))] ⟨rfl, rfl, trivial⟩ trivial ⟨rfl, trivial⟩ rfl
  refine a_regionQ TT h hm [] [eS 4 (.val ((Value.slice none 0 0)))] (by kernel_rfl) ⟨rfl, trivial⟩ [(0, .val (Value.pointer (some ⟨b, 0, none⟩))), (1, .val (Value.int .i64 ((k : Nat) : Int)))] [] [(0, varPd b ([Value.slice (z) (n) (c)]))] ⟨rfl, rfl, trivial⟩ trivial ⟨rfl, trivial⟩ rfl (fun a w h => ?_)
  refine wp_seq ?_
  refine sq_begin [0, 1, 2, 3, 4, 5, 6, 7] rfl ?_
  refine sq_step h (i := 0) rfl (u_move (xs := []) (up_seq (i := 0) (by kernel_rfl) rfl) (gd0 rfl) 6 rfl (.tmp 1) (Or.inl rfl) rfl) (fun a w h => ?_)
  refine sq_step h (i := 1) rfl (u_move (xs := []) (up_seq (i := 1) (by kernel_rfl) rfl) (gd0 rfl) 7 rfl (.tmp 0) (Or.inl rfl) rfl) (fun a w h => ?_)
  refine sq_step h (i := 2) rfl (u_nilV (xs := []) (up_seq (i := 2) (by kernel_rfl) rfl) (gd0 rfl) 8 rfl (.tmp 7) rfl rfl) (fun a w h => ?_)
  refine sq_step h (i := 3) rfl (u_fieldV (xs := []) (up_seq (i := 3) (by kernel_rfl) rfl) (gd0 rfl) 9 rfl 42 (.tmp 8) 0 rfl rfl Tryd.underlying42 rfl i22 0 rfl) (fun a w h => ?_)
  refine sq_step h (i := 4) rfl (u_loadF1 (xs := []) (up_seq (i := 4) (by kernel_rfl) rfl) (gd0 rfl) 10 rfl 22 (.tmp 9) rfl rfl 0 rfl Tryd.underlying22 rfl (Value.slice (z) (n) (c)) rfl) (fun a w h => ?_)
  refine sq_step h (i := 5) rfl (u_lenV (xs := []) (up_seq (i := 5) (by kernel_rfl) rfl) (gd0 rfl) 11 rfl (.tmp 10) 22 rfl rfl Tryd.underlying22) (fun a w h => ?_)
  refine sq_step h (i := 6) rfl (u_bin (xs := []) (up_seq (i := 6) (by kernel_rfl) rfl) (gd0 rfl) 12 rfl .leq 3 3 (.tmp 6) (.tmp 11) rfl rfl rfl (eqg_int _ _ _ _ _ _ _ _) (Value.bool true) (yes_of (fun w => i_leq _ _ _ _ w) (by omega))) (fun a w h => ?_)
  refine sq_step h (i := 7) rfl (u_call (xs := []) (up_seq (i := 7) (by kernel_rfl) rfl) (gd0 rfl) _ rfl _ _ _ rfl [_] rfl (cE19 _) _ (fun w hb => ins_t)) (fun a w h => ?_)
  replace h := h.keepQ [(0, .val (Value.pointer (some ⟨b, 0, none⟩))), (1, .val (Value.int .i64 ((k : Nat) : Int)))] [] [(0, varPd b ([Value.slice (z) (n) (c)]))] ⟨rfl, rfl, trivial⟩ trivial ⟨rfl, trivial⟩ rfl
  refine sq_end ?_
  refine then_norm ?_
  refine a_regionQ TT h hm [1, 2, 3, 5] [eS 14 (.val (Value.pointer (some ⟨b, 0, none⟩))), eS 15 (.val (Value.pointer (some ⟨b, 0, none⟩))), eS 16 (.val (Value.pointer (some ⟨b, 0, none⟩))), eS 17 (.val (Value.slice (z) (n) (c))), eS 18 (.val (Value.int .i64 ((k : Nat) : Int))), eS 19 (.val (Value.slice (z0) (k) (c))), eS 5 (.val (Value.slice (z0) (k) (c)))] (by kernel_rfl) ⟨rfl, fun L u => u_nilV u (gd0 rfl) 15 rfl (.tmp 14) rfl rfl, fun L u => u_fieldV u (gd0 rfl) 16 rfl 42 (.tmp 15) 0 rfl rfl Tryd.underlying42 rfl i22 0 rfl, fun L u => u_loadF1 u (gd0 rfl) 17 rfl 22 (.tmp 16) rfl rfl 0 rfl Tryd.underlying22 rfl (Value.slice (z) (n) (c)) rfl, rfl, fun L u => u_partH u (gd0 rfl) 19 rfl 22 (.tmp 17) (.tmp 18) rfl rfl rfl (Value.slice (z0) (k) (c)) (fun w => by have g := run_toS (a := z) (n := n) (c := c) (m := k) (by omega) w; rw [h0] at g; exact g), rfl, trivial⟩ [(0, .val (Value.pointer (some ⟨b, 0, none⟩))), (1, .val (Value.int .i64 ((k : Nat) : Int))), (5, .val (Value.slice (z0) (k) (c)))] [] [(0, varPd b ([Value.slice (z) (n) (c)]))] ⟨rfl, rfl, rfl, trivial⟩ trivial ⟨rfl, trivial⟩ rfl (fun a w h => ?_)
  refine a_regionQ TT h hm [2, 3, 4, 6, 7, 8, 9] [eS 20 (.val (Value.pointer (some ⟨b, 0, none⟩))), eS 21 (.val (Value.pointer (some ⟨b, 0, none⟩))), eS 22 (.val (Value.pointer (some ⟨b, 0, none⟩))), eS 23 (.val (Value.pointer (some ⟨b, 0, none⟩))), eS 24 (.val (Value.slice (z) (n) (c))), eS 25 (.val (Value.int .i64 ((k : Nat) : Int))), eS 26 (.val (Value.slice (z1) (n1) (c1))), eS 27 (.val (Value.pointer (some ⟨b, 0, none⟩))), eS 28 (.val (Value.pointer (some ⟨b, 0, none⟩))), eV 0 (varPd b ([Value.slice (z1) (n1) (c1)]))] (by kernel_rfl) ⟨rfl, rfl, fun L u => u_nilV u (gd0 rfl) 22 rfl (.tmp 21) rfl rfl, fun L u => u_fieldV u (gd0 rfl) 23 rfl 42 (.tmp 22) 0 rfl rfl Tryd.underlying42 rfl i22 0 rfl, fun L u => u_loadF1 u (gd0 rfl) 24 rfl 22 (.tmp 23) rfl rfl 0 rfl Tryd.underlying22 rfl (Value.slice (z) (n) (c)) rfl, rfl, fun L u => u_partT u (gd0 rfl) 26 rfl 22 (.tmp 24) (.tmp 25) rfl rfl rfl (Value.slice (z1) (n1) (c1)) (fun w => by have g := run_fromS (a := z) (n := n) (c := c) (k := k) (by omega) w; rw [h1, show n - k = n1 by omega, show c - k = c1 by omega] at g; exact g), fun L u => u_nilV u (gd0 rfl) 27 rfl (.tmp 20) rfl rfl, fun L u => u_fieldV u (gd0 rfl) 28 rfl 42 (.tmp 27) 0 rfl rfl Tryd.underlying42 rfl i22 0 rfl, fun L u => u_storeF1 u (gd0 rfl) 22 (.tmp 28) (.tmp 26) rfl rfl rfl 0 rfl rfl i22 (lk rfl) rfl _ rfl, trivial⟩ [(5, .val (Value.slice (z0) (k) (c)))] [] [(0, varPd b ([Value.slice (z1) (n1) (c1)]))] ⟨rfl, trivial⟩ trivial ⟨rfl, trivial⟩ rfl (fun a w h => ?_)
  refine a_regionQ TT h hm [] [eS 29 (.val (Value.slice (z0) (k) (c))), eS 4 (.val (Value.slice (z0) (k) (c)))] (by kernel_rfl) ⟨rfl, rfl, trivial⟩ [(4, .val (Value.slice (z0) (k) (c)))] [] [(0, varPd b ([Value.slice (z1) (n1) (c1)]))] ⟨rfl, trivial⟩ trivial ⟨rfl, trivial⟩ rfl (fun a w h => ?_)
  refine wp_ret ?_
  refine ret_slot h 4 rfl (lk rfl) (Value.slice (z0) (k) (c)) rfl ?_
  exact ⟨rfl, h.wrote (x := 0) rfl⟩
set_option maxRecDepth 100000 in
set_option maxHeartbeats 4000000 in
theorem take_pan {w : World} {b n c : Nat} {z : Option Addr} {f : Nat → Nat} (hE : Env w b z n c f) {k : Nat} (hn : n < k) (h3 : w.rangeAt b 0 [Value.slice (z) (n) (c)]) (h4 : w.there b 0 [Value.slice (z) (n) (c)].length) (hl : b < w.heap.size) : Calls Tryd.prog 25 [Value.pointer (some ⟨b, 0, none⟩), Value.int .i64 ((k : Nat) : Int)].toArray w fun e w' => Pn e ∧ w.grownBy w' (some b) := by
  refine enterB (X := fun k => Nat.beq k b) (args := [Value.pointer (some ⟨b, 0, none⟩), Value.int .i64 ((k : Nat) : Int)]) Tryd.func25 rfl 30 rfl (lk rfl) (fun a h => ?_)
  replace h := h.keepQ [(0, .val (Value.pointer (some ⟨b, 0, none⟩))), (1, .val (Value.int .i64 ((k : Nat) : Int)))] [] [] ⟨rfl, rfl, trivial⟩ trivial trivial rfl
  replace h := h.gift 0 b [Value.slice (z) (n) (c)] rfl (fun _ => rfl) (Nat.beq_refl b) hl h3 h4 (fun y p hy => by cases hy)
  replace h := h.keepQ [(0, .val (Value.pointer (some ⟨b, 0, none⟩))), (1, .val (Value.int .i64 ((k : Nat) : Int)))] [] [(0, varPd b ([Value.slice (z) (n) (c)]))] ⟨rfl, rfl, trivial⟩ trivial ⟨rfl, trivial⟩ rfl
  refine a_regionQ TT h hm [] [eS 4 (.val ((Value.slice none 0 0)))] (by kernel_rfl) ⟨rfl, trivial⟩ [(0, .val (Value.pointer (some ⟨b, 0, none⟩))), (1, .val (Value.int .i64 ((k : Nat) : Int)))] [] [(0, varPd b ([Value.slice (z) (n) (c)]))] ⟨rfl, rfl, trivial⟩ trivial ⟨rfl, trivial⟩ rfl (fun a w h => ?_)
  refine wp_seq ?_
  refine sq_begin [0, 1, 2, 3, 4, 5, 6, 7] rfl ?_
  refine sq_step h (i := 0) rfl (u_move (xs := []) (up_seq (i := 0) (by kernel_rfl) rfl) (gd0 rfl) 6 rfl (.tmp 1) (Or.inl rfl) rfl) (fun a w h => ?_)
  refine sq_step h (i := 1) rfl (u_move (xs := []) (up_seq (i := 1) (by kernel_rfl) rfl) (gd0 rfl) 7 rfl (.tmp 0) (Or.inl rfl) rfl) (fun a w h => ?_)
  refine sq_step h (i := 2) rfl (u_nilV (xs := []) (up_seq (i := 2) (by kernel_rfl) rfl) (gd0 rfl) 8 rfl (.tmp 7) rfl rfl) (fun a w h => ?_)
  refine sq_step h (i := 3) rfl (u_fieldV (xs := []) (up_seq (i := 3) (by kernel_rfl) rfl) (gd0 rfl) 9 rfl 42 (.tmp 8) 0 rfl rfl Tryd.underlying42 rfl i22 0 rfl) (fun a w h => ?_)
  refine sq_step h (i := 4) rfl (u_loadF1 (xs := []) (up_seq (i := 4) (by kernel_rfl) rfl) (gd0 rfl) 10 rfl 22 (.tmp 9) rfl rfl 0 rfl Tryd.underlying22 rfl (Value.slice (z) (n) (c)) rfl) (fun a w h => ?_)
  refine sq_step h (i := 5) rfl (u_lenV (xs := []) (up_seq (i := 5) (by kernel_rfl) rfl) (gd0 rfl) 11 rfl (.tmp 10) 22 rfl rfl Tryd.underlying22) (fun a w h => ?_)
  refine sq_step h (i := 6) rfl (u_bin (xs := []) (up_seq (i := 6) (by kernel_rfl) rfl) (gd0 rfl) 12 rfl .leq 3 3 (.tmp 6) (.tmp 11) rfl rfl rfl (eqg_int _ _ _ _ _ _ _ _) (Value.bool false) (no_of (fun w => i_leq _ _ _ _ w) (by omega))) (fun a w h => ?_)
  refine sq_callP h (i := 7) rfl (gq0 rfl) 19 #[(.tmp 12)] #[4] rfl [.val (Value.bool false)] rfl (fun vs w => callFunc_enter Tryd.func19 (by kernel_rfl) (by kernel_rfl) vs w) (fun β hr => ins_f (hE.tb _ (Kp.grown hr.bl))) (fun t v w h => ?_)
  refine then_pan ?_
  exact pan_X h.kp h.defers
set_option maxRecDepth 100000 in
set_option maxHeartbeats 4000000 in
theorem next_at {w : World} {b n c d o : Nat} {f : Nat → Nat} (hE : Env w b (some ⟨d, o, none⟩) n c f) {z1 : Option Addr} {n1 c1 : Nat} (hz1 : cutA (some ⟨d, o, none⟩) c 1 = z1) (hn1 : n = n1 + 1) (hc1 : c = c1 + 1) (h3 : w.rangeAt b 0 [Value.slice (some ⟨d, o, none⟩) (n) (c)]) (h4 : w.there b 0 [Value.slice (some ⟨d, o, none⟩) (n) (c)].length) (hl : b < w.heap.size) : Calls Tryd.prog 18 [Value.pointer (some ⟨b, 0, none⟩)].toArray w fun e w' => e = .returned (Value.int .i64 ((f 0 : Nat) : Int)) ∧ w.grownBy w' (some b) ∧ w'.rangeAt b 0 [Value.slice (z1) (n1) (c1)] ∧ w'.there b 0 [Value.slice (z1) (n1) (c1)].length := by
  refine enterB (X := fun k => Nat.beq k b) (args := [Value.pointer (some ⟨b, 0, none⟩)]) Tryd.func18 rfl 8 rfl (lk rfl) (fun a h => ?_)
  replace h := h.keepQ [(0, .val (Value.pointer (some ⟨b, 0, none⟩)))] [] [] ⟨rfl, trivial⟩ trivial trivial rfl
  replace h := h.gift 0 b [Value.slice (some ⟨d, o, none⟩) (n) (c)] rfl (fun _ => rfl) (Nat.beq_refl b) hl h3 h4 (fun y p hy => by cases hy)
  replace h := h.keepQ [(0, .val (Value.pointer (some ⟨b, 0, none⟩)))] [] [(0, varPd b ([Value.slice (some ⟨d, o, none⟩) (n) (c)]))] ⟨rfl, trivial⟩ trivial ⟨rfl, trivial⟩ rfl
  refine a_regionQ TT h hm [] [eS 2 (.val ((Value.int IntKind.i64 0)))] (by kernel_rfl) ⟨rfl, trivial⟩ [(0, .val (Value.pointer (some ⟨b, 0, none⟩)))] [] [(0, varPd b ([Value.slice (some ⟨d, o, none⟩) (n) (c)]))] ⟨rfl, trivial⟩ trivial ⟨rfl, trivial⟩ rfl (fun a w h => ?_)
  refine a_regionQ TT h hm [1, 2, 3, 4] [eS 3 (.val (Value.pointer (some ⟨b, 0, none⟩))), eT 4 (.val (Value.slice (some ⟨d, o, none⟩) (1) (c))) 0 (varPd b ([Value.slice (z1) (n1) (c1)])), eS 5 (.val (Value.pointer (some ⟨d, o + 0, none⟩))), eS 6 (.val (Value.int .u8 ((f 0 : Nat) : Int))), eS 7 (.val (Value.int .i64 ((f 0 : Nat) : Int))), eS 2 (.val (Value.int .i64 ((f 0 : Nat) : Int)))] (by kernel_rfl) ⟨rfl, fun L u => u_callW u (gd0 rfl) 4 rfl 25 #[(.tmp 3), (.const (.int .i64 1))] #[51, 3] rfl [Value.pointer (some ⟨b, 0, none⟩), (Value.int IntKind.i64 1)] rfl (fun vs w => callFunc_enter Tryd.func25 (by kernel_rfl) (by kernel_rfl) vs w) 0 rfl (Value.slice (some ⟨d, o, none⟩) (1) (c)) ([Value.slice (z1) (n1) (c1)]) (fun w hk ho h3 h4 hl => take_ok (k := 1) hE.nc (cutA0 d o c) hz1 hn1 hc1 h3 h4 hl), fun L u => u_atX u (gd0 rfl) 5 rfl 22 (.tmp 4) (.const (.int .i64 0)) rfl rfl (k := 0) rfl Tryd.underlying22 i5 (by omega) (o + 0) rfl, fun L u => u_loadK u (gd0 rfl) 6 rfl 5 (.tmp 5) rfl rfl Tryd.underlying5 rfl (Value.int .u8 ((f 0 : Nat) : Int)) (fun w hk => (hE.ba w (Kp.grown hk)).cellAt (i := 0) (by omega)), fun L u => u_conv u (gd0 rfl) 7 rfl 5 3 (.tmp 6) rfl rfl (Value.int .i64 ((f 0 : Nat) : Int)) (fun w => c_int _ ⟨by omega, by have := (hE.ba _ (grown_refl _ _)).lt 0; omega⟩ w), rfl, trivial⟩ [(2, .val (Value.int .i64 ((f 0 : Nat) : Int)))] [] [(0, varPd b ([Value.slice (z1) (n1) (c1)]))] ⟨rfl, trivial⟩ trivial ⟨rfl, trivial⟩ rfl (fun a w h => ?_)
  refine wp_ret ?_
  refine ret_slot h 2 rfl (lk rfl) (Value.int .i64 ((f 0 : Nat) : Int)) rfl ?_
  exact ⟨rfl, h.wrote (x := 0) rfl⟩
theorem next_ok {w : World} {b n c : Nat} {z : Option Addr} {f : Nat → Nat} (hE : Env w b z n c f) {z1 : Option Addr} {n1 c1 : Nat} (hz1 : cutA z c 1 = z1) (hn1 : n = n1 + 1) (hc1 : c = c1 + 1) (h3 : w.rangeAt b 0 [Value.slice (z) (n) (c)]) (h4 : w.there b 0 [Value.slice (z) (n) (c)].length) (hl : b < w.heap.size) : Calls Tryd.prog 18 [Value.pointer (some ⟨b, 0, none⟩)].toArray w fun e w' => e = .returned (Value.int .i64 ((f 0 : Nat) : Int)) ∧ w.grownBy w' (some b) ∧ w'.rangeAt b 0 [Value.slice (z1) (n1) (c1)] ∧ w'.there b 0 [Value.slice (z1) (n1) (c1)].length := by
  rcases (hE.ba w (grown_refl _ _)).at_ with h0 | ⟨d, o, rfl, _⟩
  · omega
  · exact next_at hE hz1 hn1 hc1 h3 h4 hl
set_option maxRecDepth 100000 in
set_option maxHeartbeats 4000000 in
theorem next_pan {w : World} {b n c : Nat} {z : Option Addr} {f : Nat → Nat} (hE : Env w b z n c f) (hn : n = 0) (h3 : w.rangeAt b 0 [Value.slice (z) (n) (c)]) (h4 : w.there b 0 [Value.slice (z) (n) (c)].length) (hl : b < w.heap.size) : Calls Tryd.prog 18 [Value.pointer (some ⟨b, 0, none⟩)].toArray w fun e w' => Pn e ∧ w.grownBy w' (some b) := by
  refine enterB (X := fun k => Nat.beq k b) (args := [Value.pointer (some ⟨b, 0, none⟩)]) Tryd.func18 rfl 8 rfl (lk rfl) (fun a h => ?_)
  replace h := h.keepQ [(0, .val (Value.pointer (some ⟨b, 0, none⟩)))] [] [] ⟨rfl, trivial⟩ trivial trivial rfl
  replace h := h.gift 0 b [Value.slice (z) (n) (c)] rfl (fun _ => rfl) (Nat.beq_refl b) hl h3 h4 (fun y p hy => by cases hy)
  replace h := h.keepQ [(0, .val (Value.pointer (some ⟨b, 0, none⟩)))] [] [(0, varPd b ([Value.slice (z) (n) (c)]))] ⟨rfl, trivial⟩ trivial ⟨rfl, trivial⟩ rfl
  refine a_regionQ TT h hm [] [eS 2 (.val ((Value.int IntKind.i64 0)))] (by kernel_rfl) ⟨rfl, trivial⟩ [(0, .val (Value.pointer (some ⟨b, 0, none⟩)))] [] [(0, varPd b ([Value.slice (z) (n) (c)]))] ⟨rfl, trivial⟩ trivial ⟨rfl, trivial⟩ rfl (fun a w h => ?_)
  refine wp_seq ?_
  refine sq_begin [0, 1, 2, 3, 4, 5] rfl ?_
  refine sq_step h (i := 0) rfl (u_move (xs := []) (up_seq (i := 0) (by kernel_rfl) rfl) (gd0 rfl) 3 rfl (.tmp 0) (Or.inl rfl) rfl) (fun a w h => ?_)
  refine sq_callPW h (i := 1) rfl (gq0 rfl) 25 #[(.tmp 3), (.const (.int .i64 1))] #[51, 3] rfl [Value.pointer (some ⟨b, 0, none⟩), (Value.int IntKind.i64 1)] rfl (fun vs w => callFunc_enter Tryd.func25 (by kernel_rfl) (by kernel_rfl) vs w) 0 rfl (fun w hk ho h3 h4 hl => take_pan (k := 1) (hE.later (Kp.grown hk)) (by omega) h3 h4 hl) (fun t v w hkp hdf => ?_)
  refine then_pan ?_
  exact pan_X hkp hdf
set_option maxRecDepth 100000 in
set_option maxHeartbeats 4000000 in
theorem exp_ok {w : World} {b n c : Nat} {z : Option Addr} {f : Nat → Nat} (hE : Env w b z n c f) {z1 : Option Addr} {n1 c1 : Nat} (hz1 : cutA z c 1 = z1) (hn1 : n = n1 + 1) (hc1 : c = c1 + 1) {mk : Nat} (hf : f 0 = mk) (h3 : w.rangeAt b 0 [Value.slice (z) (n) (c)]) (h4 : w.there b 0 [Value.slice (z) (n) (c)].length) (hl : b < w.heap.size) : Calls Tryd.prog 17 [Value.pointer (some ⟨b, 0, none⟩), Value.int .i64 ((mk : Nat) : Int)].toArray w fun e w' => e = .returned (Value.tuple #[]) ∧ w.grownBy w' (some b) ∧ w'.rangeAt b 0 [Value.slice (z1) (n1) (c1)] ∧ w'.there b 0 [Value.slice (z1) (n1) (c1)].length := by
  refine enterB (X := fun k => Nat.beq k b) (args := [Value.pointer (some ⟨b, 0, none⟩), Value.int .i64 ((mk : Nat) : Int)]) Tryd.func17 rfl 9 rfl (lk rfl) (fun a h => ?_)
  replace h := h.keepQ [(0, .val (Value.pointer (some ⟨b, 0, none⟩))), (1, .val (Value.int .i64 ((mk : Nat) : Int)))] [] [] ⟨rfl, rfl, trivial⟩ trivial trivial rfl
  replace h := h.gift 0 b [Value.slice (z) (n) (c)] rfl (fun _ => rfl) (Nat.beq_refl b) hl h3 h4 (fun y p hy => by cases hy)
  replace h := h.keepQ [(0, .val (Value.pointer (some ⟨b, 0, none⟩))), (1, .val (Value.int .i64 ((mk : Nat) : Int)))] [] [(0, varPd b ([Value.slice (z) (n) (c)]))] ⟨rfl, rfl, trivial⟩ trivial ⟨rfl, trivial⟩ rfl
  refine sq_begin [0, 1, 2, 3, 4] rfl ?_
  refine sq_step h (i := 0) rfl (u_move (xs := []) (up_seq (i := 0) (by kernel_rfl) rfl) (gd0 rfl) 4 rfl (.tmp 0) (Or.inl rfl) rfl) (fun a w h => ?_)
  refine sq_step h (i := 1) rfl (u_callW (xs := []) (up_seq (i := 1) (by kernel_rfl) rfl) (gd0 rfl) 5 rfl 18 #[(.tmp 4)] #[51] rfl [Value.pointer (some ⟨b, 0, none⟩)] rfl (fun vs w => callFunc_enter Tryd.func18 (by kernel_rfl) (by kernel_rfl) vs w) 0 rfl (Value.int .i64 ((f 0 : Nat) : Int)) ([Value.slice (z1) (n1) (c1)]) (fun w hk ho h3 h4 hl => next_ok (hE.later (Kp.grown hk)) hz1 hn1 hc1 h3 h4 hl)) (fun a w h => ?_)
  refine sq_step h (i := 2) rfl (u_move (xs := []) (up_seq (i := 2) (by kernel_rfl) rfl) (gd0 rfl) 6 rfl (.tmp 1) (Or.inl rfl) rfl) (fun a w h => ?_)
  refine sq_step h (i := 3) rfl (u_bin (xs := []) (up_seq (i := 3) (by kernel_rfl) rfl) (gd0 rfl) 7 rfl .eql 3 3 (.tmp 5) (.tmp 6) rfl rfl rfl (eqg_int _ _ _ _ _ _ _ _) (Value.bool true) (yes_of (fun w => i_eql _ _ _ _ w) (by omega))) (fun a w h => ?_)
  refine sq_step h (i := 4) rfl (u_call (xs := []) (up_seq (i := 4) (by kernel_rfl) rfl) (gd0 rfl) _ rfl _ _ _ rfl [_] rfl (cE19 _) _ (fun w hb => ins_t)) (fun a w h => ?_)
  replace h := h.keepQ [] [] [(0, varPd b ([Value.slice (z1) (n1) (c1)]))] trivial trivial ⟨rfl, trivial⟩ rfl
  refine sq_end ?_
  refine end_none h rfl ?_
  exact ⟨rfl, h.wrote (x := 0) rfl⟩
set_option maxRecDepth 100000 in
set_option maxHeartbeats 4000000 in
theorem exp_bad {w : World} {b n c : Nat} {z : Option Addr} {f : Nat → Nat} (hE : Env w b z n c f) {z1 : Option Addr} {n1 c1 : Nat} (hz1 : cutA z c 1 = z1) (hn1 : n = n1 + 1) (hc1 : c = c1 + 1) {mk : Nat} (hf : ¬ f 0 = mk) (h3 : w.rangeAt b 0 [Value.slice (z) (n) (c)]) (h4 : w.there b 0 [Value.slice (z) (n) (c)].length) (hl : b < w.heap.size) : Calls Tryd.prog 17 [Value.pointer (some ⟨b, 0, none⟩), Value.int .i64 ((mk : Nat) : Int)].toArray w fun e w' => Pn e ∧ w.grownBy w' (some b) := by
  refine enterB (X := fun k => Nat.beq k b) (args := [Value.pointer (some ⟨b, 0, none⟩), Value.int .i64 ((mk : Nat) : Int)]) Tryd.func17 rfl 9 rfl (lk rfl) (fun a h => ?_)
  replace h := h.keepQ [(0, .val (Value.pointer (some ⟨b, 0, none⟩))), (1, .val (Value.int .i64 ((mk : Nat) : Int)))] [] [] ⟨rfl, rfl, trivial⟩ trivial trivial rfl
  replace h := h.gift 0 b [Value.slice (z) (n) (c)] rfl (fun _ => rfl) (Nat.beq_refl b) hl h3 h4 (fun y p hy => by cases hy)
  replace h := h.keepQ [(0, .val (Value.pointer (some ⟨b, 0, none⟩))), (1, .val (Value.int .i64 ((mk : Nat) : Int)))] [] [(0, varPd b ([Value.slice (z) (n) (c)]))] ⟨rfl, rfl, trivial⟩ trivial ⟨rfl, trivial⟩ rfl
  refine sq_begin [0, 1, 2, 3, 4] rfl ?_
  refine sq_step h (i := 0) rfl (u_move (xs := []) (up_seq (i := 0) (by kernel_rfl) rfl) (gd0 rfl) 4 rfl (.tmp 0) (Or.inl rfl) rfl) (fun a w h => ?_)
  refine sq_step h (i := 1) rfl (u_callW (xs := []) (up_seq (i := 1) (by kernel_rfl) rfl) (gd0 rfl) 5 rfl 18 #[(.tmp 4)] #[51] rfl [Value.pointer (some ⟨b, 0, none⟩)] rfl (fun vs w => callFunc_enter Tryd.func18 (by kernel_rfl) (by kernel_rfl) vs w) 0 rfl (Value.int .i64 ((f 0 : Nat) : Int)) ([Value.slice (z1) (n1) (c1)]) (fun w hk ho h3 h4 hl => next_ok (hE.later (Kp.grown hk)) hz1 hn1 hc1 h3 h4 hl)) (fun a w h => ?_)
  refine sq_step h (i := 2) rfl (u_move (xs := []) (up_seq (i := 2) (by kernel_rfl) rfl) (gd0 rfl) 6 rfl (.tmp 1) (Or.inl rfl) rfl) (fun a w h => ?_)
  refine sq_step h (i := 3) rfl (u_bin (xs := []) (up_seq (i := 3) (by kernel_rfl) rfl) (gd0 rfl) 7 rfl .eql 3 3 (.tmp 5) (.tmp 6) rfl rfl rfl (eqg_int _ _ _ _ _ _ _ _) (Value.bool false) (no_of (fun w => i_eql _ _ _ _ w) (by omega))) (fun a w h => ?_)
  refine sq_callP h (i := 4) rfl (gq0 rfl) 19 #[(.tmp 7)] #[4] rfl [.val (Value.bool false)] rfl (fun vs w => callFunc_enter Tryd.func19 (by kernel_rfl) (by kernel_rfl) vs w) (fun β hr => ins_f (hE.tb _ (Kp.grown hr.bl))) (fun t v w h => ?_)
  exact pan_X h.kp h.defers
set_option maxRecDepth 100000 in
set_option maxHeartbeats 4000000 in
theorem exp_none {w : World} {b n c : Nat} {z : Option Addr} {f : Nat → Nat} (hE : Env w b z n c f) {mk : Nat} (hn : n = 0) (h3 : w.rangeAt b 0 [Value.slice (z) (n) (c)]) (h4 : w.there b 0 [Value.slice (z) (n) (c)].length) (hl : b < w.heap.size) : Calls Tryd.prog 17 [Value.pointer (some ⟨b, 0, none⟩), Value.int .i64 ((mk : Nat) : Int)].toArray w fun e w' => Pn e ∧ w.grownBy w' (some b) := by
  refine enterB (X := fun k => Nat.beq k b) (args := [Value.pointer (some ⟨b, 0, none⟩), Value.int .i64 ((mk : Nat) : Int)]) Tryd.func17 rfl 9 rfl (lk rfl) (fun a h => ?_)
  replace h := h.keepQ [(0, .val (Value.pointer (some ⟨b, 0, none⟩))), (1, .val (Value.int .i64 ((mk : Nat) : Int)))] [] [] ⟨rfl, rfl, trivial⟩ trivial trivial rfl
  replace h := h.gift 0 b [Value.slice (z) (n) (c)] rfl (fun _ => rfl) (Nat.beq_refl b) hl h3 h4 (fun y p hy => by cases hy)
  replace h := h.keepQ [(0, .val (Value.pointer (some ⟨b, 0, none⟩))), (1, .val (Value.int .i64 ((mk : Nat) : Int)))] [] [(0, varPd b ([Value.slice (z) (n) (c)]))] ⟨rfl, rfl, trivial⟩ trivial ⟨rfl, trivial⟩ rfl
  refine sq_begin [0, 1, 2, 3, 4] rfl ?_
  refine sq_step h (i := 0) rfl (u_move (xs := []) (up_seq (i := 0) (by kernel_rfl) rfl) (gd0 rfl) 4 rfl (.tmp 0) (Or.inl rfl) rfl) (fun a w h => ?_)
  refine sq_callPW h (i := 1) rfl (gq0 rfl) 18 #[(.tmp 4)] #[51] rfl [Value.pointer (some ⟨b, 0, none⟩)] rfl (fun vs w => callFunc_enter Tryd.func18 (by kernel_rfl) (by kernel_rfl) vs w) 0 rfl (fun w hk ho h3 h4 hl => next_pan (hE.later (Kp.grown hk)) (by omega) h3 h4 hl) (fun t v w hkp hdf => ?_)
  exact pan_X hkp hdf
theorem exp_pan {w : World} {b n c : Nat} {z : Option Addr} {f : Nat → Nat} (hE : Env w b z n c f) {mk : Nat} (hf : n = 0 ∨ ¬ f 0 = mk) (h3 : w.rangeAt b 0 [Value.slice (z) (n) (c)]) (h4 : w.there b 0 [Value.slice (z) (n) (c)].length) (hl : b < w.heap.size) : Calls Tryd.prog 17 [Value.pointer (some ⟨b, 0, none⟩), Value.int .i64 ((mk : Nat) : Int)].toArray w fun e w' => Pn e ∧ w.grownBy w' (some b) := by
  have hnc := hE.nc
  by_cases h0 : n = 0
  · exact exp_none hE h0 h3 h4 hl
  · exact exp_bad (n1 := n - 1) (c1 := c - 1) hE rfl (by omega) (by omega) (hf.resolve_left h0) h3 h4 hl
end Go.Proofs.YtlpjdhoboebbfaaDoor
