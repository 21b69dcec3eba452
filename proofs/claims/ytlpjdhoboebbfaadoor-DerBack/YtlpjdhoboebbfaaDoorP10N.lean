/- What the program's own number of layer 10 answers, and where it panics. -/
import Derived.Test.YtlpjdhoboebbfaaDoorP10V
namespace Go.Proofs.YtlpjdhoboebbfaaDoor
open Go.RowKit

theorem cE27 (vs : List Value) : ∀ w, (callFunc 27 vs.toArray).run Tryd.prog w = .ok (.enter 27 vs.toArray) w := callFunc_enter Tryd.func27 (by kernel_rfl) (by kernel_rfl) _
set_option maxRecDepth 100000 in
set_option maxHeartbeats 4000000 in
theorem num_at {w : World} {b n c : Nat} {z : Option Addr} {f : Nat → Nat} (hE : Env w b z n c f) (hn : n ≤ 1000) {n1 c1 : Nat} {z1 : Option Addr} (hz1 : cutA z c 1 = z1) (hn1 : n = n1 + 1) (hc1 : c = c1 + 1) {f1 : Nat → Nat} (hf1 : ∀ i, f1 i = f (1 + i)) (h2 : f 0 = 2) {n2 c2 m : Nat} {z2 zb : Option Addr} (hz2 : cutA z1 c1 1 = z2) (hn2 : n1 = n2 + 1) (hc2 : c1 = c2 + 1) {f2 : Nat → Nat} (hf2 : ∀ i, f2 i = f1 (1 + i)) (hfm : f1 0 = m) {n3 c3 V : Nat} {z3 : Option Addr} (hzb : cutA z2 c2 0 = zb) (hz3 : cutA z2 c2 m = z3) (hn3 : n2 = n3 + m) (hc3 : c2 = c3 + m) (hV : num (fl f2 m) % 2 ^ 256 = V) (hV2 : V < 2 ^ 256) (hQ : fl f2 m = be V (msz V)) (h3 : w.rangeAt b 0 [Value.slice (z) (n) (c)]) (h4 : w.there b 0 [Value.slice (z) (n) (c)].length) (hl : b < w.heap.size) : Calls Tryd.prog 20 [Value.pointer (some ⟨b, 0, none⟩)].toArray w fun e w' => e = .returned (.agg (nc ((V : Nat) : Int)).toArray) ∧ w.grownBy w' (some b) ∧ w'.rangeAt b 0 [Value.slice (z3) (n3) (c3)] ∧ w'.there b 0 [Value.slice (z3) (n3) (c3)].length := by
  have hE1 : Env w b z1 n1 c1 f1 := hE.cut 1 hz1 hn1 hc1 hf1
  have hE2 : Env w b z2 n2 c2 f2 := hE1.cut 1 hz2 hn2 hc2 hf2
  have hBb : ∀ w', w.grownBy w' (some b) → BA w' zb m f2 := fun w' h' => by
    have e := (hE2.ba w' h').cut c2 0 m (by omega) hE2.nc
    rw [hzb, show (fun i => f2 (0 + i)) = f2 from funext fun i => by rw [Nat.zero_add]] at e
    exact e
  refine enterB (X := fun k => Nat.beq k b) (args := [Value.pointer (some ⟨b, 0, none⟩)]) Tryd.func20 rfl 19 rfl (lk rfl) (fun a h => ?_)
  replace h := h.keepQ [(0, .val (Value.pointer (some ⟨b, 0, none⟩)))] [] [] ⟨rfl, trivial⟩ trivial trivial rfl
  replace h := h.gift 0 b [Value.slice (z) (n) (c)] rfl (fun _ => rfl) (Nat.beq_refl b) hl h3 h4 (fun y p hy => by cases hy)
  replace h := h.keepQ [(0, .val (Value.pointer (some ⟨b, 0, none⟩)))] [] [(0, varPd b ([Value.slice (z) (n) (c)]))] ⟨rfl, trivial⟩ trivial ⟨rfl, trivial⟩ rfl
  refine a_regionQ TT h hm [] [eN 2 (nz)] (by kernel_rfl) ⟨rfl, trivial⟩ [(0, .val (Value.pointer (some ⟨b, 0, none⟩))), (2, .ptr 2 0)] [(2, nz)] [(0, varPd b ([Value.slice (z) (n) (c)]))] ⟨rfl, rfl, trivial⟩ ⟨rfl, trivial⟩ ⟨rfl, trivial⟩ rfl (fun a w h => ?_)
  refine a_regionQ TT h hm [1] [eS 5 (.val (Value.pointer (some ⟨b, 0, none⟩))), eT 6 (.val (Value.tuple #[])) 0 (varPd b ([Value.slice (z1) (n1) (c1)]))] (by kernel_rfl) ⟨rfl, fun L u => u_callW u (gd0 rfl) 6 rfl 17 #[(.tmp 5), (.const (.int .i64 2))] #[51, 3] rfl [Value.pointer (some ⟨b, 0, none⟩), (Value.int IntKind.i64 2)] rfl (fun vs w => callFunc_enter Tryd.func17 (by kernel_rfl) (by kernel_rfl) vs w) 0 rfl (Value.tuple #[]) ([Value.slice (z1) (n1) (c1)]) (fun w hk ho h3 h4 hl => exp_ok (mk := 2) (hE.later (Kp.grown hk)) hz1 hn1 hc1 h2 h3 h4 hl), trivial⟩ [(0, .val (Value.pointer (some ⟨b, 0, none⟩))), (2, .ptr 2 0)] [(2, nz)] [(0, varPd b ([Value.slice (z1) (n1) (c1)]))] ⟨rfl, rfl, trivial⟩ ⟨rfl, trivial⟩ ⟨rfl, trivial⟩ rfl (fun a w h => ?_)
  refine a_regionQ TT h hm [2, 3] [eS 7 (.val (Value.pointer (some ⟨b, 0, none⟩))), eS 8 (.val (Value.pointer (some ⟨b, 0, none⟩))), eT 9 (.val (Value.int .i64 ((m : Nat) : Int))) 0 (varPd b ([Value.slice (z2) (n2) (c2)])), eT 10 (.val (Value.slice (zb) (m) (c2))) 0 (varPd b ([Value.slice (z3) (n3) (c3)])), eS 3 (.val (Value.slice (zb) (m) (c2)))] (by kernel_rfl) ⟨rfl, rfl, fun L u => u_callW u (gd0 rfl) 9 rfl 18 #[(.tmp 8)] #[51] rfl [Value.pointer (some ⟨b, 0, none⟩)] rfl (fun vs w => callFunc_enter Tryd.func18 (by kernel_rfl) (by kernel_rfl) vs w) 0 rfl (Value.int .i64 ((m : Nat) : Int)) ([Value.slice (z2) (n2) (c2)]) (fun w hk ho h3 h4 hl => by have q := next_ok (hE1.later (Kp.grown hk)) hz2 hn2 hc2 h3 h4 hl; rw [hfm] at q; exact q), fun L u => u_callW u (gd0 rfl) 10 rfl 25 #[(.tmp 7), (.tmp 9)] #[51, 3] rfl [Value.pointer (some ⟨b, 0, none⟩), Value.int .i64 ((m : Nat) : Int)] rfl (fun vs w => callFunc_enter Tryd.func25 (by kernel_rfl) (by kernel_rfl) vs w) 0 rfl (Value.slice (zb) (m) (c2)) ([Value.slice (z3) (n3) (c3)]) (fun w hk ho h3 h4 hl => take_ok hE2.nc hzb hz3 hn3 hc3 h3 h4 hl), rfl, trivial⟩ [(2, .ptr 2 0), (3, .val (Value.slice (zb) (m) (c2)))] [(2, nz)] [(0, varPd b ([Value.slice (z3) (n3) (c3)]))] ⟨rfl, rfl, trivial⟩ ⟨rfl, trivial⟩ ⟨rfl, trivial⟩ rfl (fun a w h => ?_)
  refine a_regionQ TT h hm [1] [eS 11 (.val (Value.slice (zb) (m) (c2))), eS 12 (.val (.agg (nc (((V : Nat) : Int))).toArray)), eN 4 (nz), eM 4 (nc (((V : Nat) : Int)))] (by kernel_rfl) ⟨rfl, fun L u => u_call u (gd0 rfl) _ rfl _ _ _ rfl [_] rfl (cE26 _) (.agg (nc (((V : Nat) : Int))).toArray) (fun w hb => by have q := val_any (c := c2) (hBb w (Kp.grown hb)) (by omega) (by omega); rw [hV] at q; exact q), rfl, rfl, trivial⟩ [(2, .ptr 2 0), (3, .val (Value.slice (zb) (m) (c2))), (4, .ptr 4 0)] [(2, nz), (4, nc (((V : Nat) : Int)))] [(0, varPd b ([Value.slice (z3) (n3) (c3)]))] ⟨rfl, rfl, rfl, trivial⟩ ⟨rfl, rfl, trivial⟩ ⟨rfl, trivial⟩ rfl (fun a w h => ?_)
  refine wp_seq ?_
  refine sq_begin [0, 1, 2, 3, 4] rfl ?_
  refine sq_step h (i := 0) rfl (u_move (xs := []) (up_seq (i := 0) (by kernel_rfl) rfl) (gd0 rfl) 13 rfl (.tmp 3) (Or.inl rfl) rfl) (fun a w h => ?_)
  refine sq_step h (i := 1) rfl (u_load (xs := []) (up_seq (i := 1) (by kernel_rfl) rfl) (gd0 rfl) 14 rfl 26 (.tmp 4) rfl rfl rfl Tryd.underlying26 rfl i26 (lk rfl) _ rfl) (fun a w h => ?_)
  refine sq_step h (i := 2) rfl (u_callQ (xs := []) (up_seq (i := 2) (by kernel_rfl) rfl) (gd0 rfl) 15 rfl rfl 24 #[(.tmp 14)] #[26] rfl [.val (.agg (nc (((V : Nat) : Int))).toArray)] rfl (fun vs w => callFunc_enter Tryd.func24 (by kernel_rfl) (by kernel_rfl) vs w) (rdPd (msz V) (be V (msz V))) (fun β a w hr => few_any hV2 _)) (fun a w h => ?_)
  refine sq_step h (i := 3) rfl (u_callR (xs := []) (up_seq (i := 3) (by kernel_rfl) rfl) (gd0 rfl) 16 rfl 27 #[(.tmp 13), (.tmp 15)] #[22, 22] rfl [.val (Value.slice (zb) (m) (c2)), .unk 15 id] rfl (fun vs w => callFunc_enter Tryd.func27 (by kernel_rfl) (by kernel_rfl) vs w) (Value.bool true) (fun β a w hr => by obtain ⟨z', c', hv, _, hlen, hb2, _⟩ := hr.thing (x := 15) (p := rdPd (msz V) (be V (msz V))) rfl; have q := eq_any (c1 := c2) (c2 := c') (hBb w (Kp.grown hr.bl)) hb2 (by omega); rw [fl_getD hlen, decide_eq_true hQ, ← hv] at q; exact q)) (fun a w h => ?_)
  refine sq_step h (i := 4) rfl (u_call (xs := []) (up_seq (i := 4) (by kernel_rfl) rfl) (gd0 rfl) _ rfl _ _ _ rfl [_] rfl (cE19 _) _ (fun w hb => ins_t)) (fun a w h => ?_)
  replace h := h.keepQ [(2, .ptr 2 0), (4, .ptr 4 0)] [(2, nz), (4, nc (((V : Nat) : Int)))] [(0, varPd b ([Value.slice (z3) (n3) (c3)]))] ⟨rfl, rfl, trivial⟩ ⟨rfl, rfl, trivial⟩ ⟨rfl, trivial⟩ rfl
  refine sq_end ?_
  refine then_norm ?_
  refine a_regionQ TT h hm [] [eS 18 (.val (.agg (nc (((V : Nat) : Int))).toArray)), eM 2 (nc (((V : Nat) : Int)))] (by kernel_rfl) ⟨rfl, rfl, trivial⟩ [(2, .ptr 2 0)] [(2, nc (((V : Nat) : Int)))] [(0, varPd b ([Value.slice (z3) (n3) (c3)]))] ⟨rfl, trivial⟩ ⟨rfl, trivial⟩ ⟨rfl, trivial⟩ rfl (fun a w h => ?_)
  refine wp_ret ?_
  refine ret_row h 2 26 rfl (lk rfl) 2 rfl (nc (((V : Nat) : Int))) rfl _ Tryd.underlying26 rfl i26 ?_
  exact ⟨rfl, h.wrote (x := 0) rfl⟩
set_option maxRecDepth 100000 in
set_option maxHeartbeats 4000000 in
theorem num_pd {w : World} {b n c : Nat} {z : Option Addr} {f : Nat → Nat} (hE : Env w b z n c f) (hn : n ≤ 1000) {n1 c1 : Nat} {z1 : Option Addr} (hz1 : cutA z c 1 = z1) (hn1 : n = n1 + 1) (hc1 : c = c1 + 1) {f1 : Nat → Nat} (hf1 : ∀ i, f1 i = f (1 + i)) (h2 : f 0 = 2) {n2 c2 m : Nat} {z2 zb : Option Addr} (hz2 : cutA z1 c1 1 = z2) (hn2 : n1 = n2 + 1) (hc2 : c1 = c2 + 1) {f2 : Nat → Nat} (hf2 : ∀ i, f2 i = f1 (1 + i)) (hfm : f1 0 = m) {n3 c3 V : Nat} {z3 : Option Addr} (hzb : cutA z2 c2 0 = zb) (hz3 : cutA z2 c2 m = z3) (hn3 : n2 = n3 + m) (hc3 : c2 = c3 + m) (hV : num (fl f2 m) % 2 ^ 256 = V) (hV2 : V < 2 ^ 256) (hQ : ¬ fl f2 m = be V (msz V)) (h3 : w.rangeAt b 0 [Value.slice (z) (n) (c)]) (h4 : w.there b 0 [Value.slice (z) (n) (c)].length) (hl : b < w.heap.size) : Calls Tryd.prog 20 [Value.pointer (some ⟨b, 0, none⟩)].toArray w fun e w' => Pn e ∧ w.grownBy w' (some b) := by
  have hE1 : Env w b z1 n1 c1 f1 := hE.cut 1 hz1 hn1 hc1 hf1
  have hE2 : Env w b z2 n2 c2 f2 := hE1.cut 1 hz2 hn2 hc2 hf2
  have hBb : ∀ w', w.grownBy w' (some b) → BA w' zb m f2 := fun w' h' => by
    have e := (hE2.ba w' h').cut c2 0 m (by omega) hE2.nc
    rw [hzb, show (fun i => f2 (0 + i)) = f2 from funext fun i => by rw [Nat.zero_add]] at e
    exact e
  refine enterB (X := fun k => Nat.beq k b) (args := [Value.pointer (some ⟨b, 0, none⟩)]) Tryd.func20 rfl 19 rfl (lk rfl) (fun a h => ?_)
  replace h := h.keepQ [(0, .val (Value.pointer (some ⟨b, 0, none⟩)))] [] [] ⟨rfl, trivial⟩ trivial trivial rfl
  replace h := h.gift 0 b [Value.slice (z) (n) (c)] rfl (fun _ => rfl) (Nat.beq_refl b) hl h3 h4 (fun y p hy => by cases hy)
  replace h := h.keepQ [(0, .val (Value.pointer (some ⟨b, 0, none⟩)))] [] [(0, varPd b ([Value.slice (z) (n) (c)]))] ⟨rfl, trivial⟩ trivial ⟨rfl, trivial⟩ rfl
  refine a_regionQ TT h hm [] [eN 2 (nz)] (by kernel_rfl) ⟨rfl, trivial⟩ [(0, .val (Value.pointer (some ⟨b, 0, none⟩))), (2, .ptr 2 0)] [(2, nz)] [(0, varPd b ([Value.slice (z) (n) (c)]))] ⟨rfl, rfl, trivial⟩ ⟨rfl, trivial⟩ ⟨rfl, trivial⟩ rfl (fun a w h => ?_)
  refine a_regionQ TT h hm [1] [eS 5 (.val (Value.pointer (some ⟨b, 0, none⟩))), eT 6 (.val (Value.tuple #[])) 0 (varPd b ([Value.slice (z1) (n1) (c1)]))] (by kernel_rfl) ⟨rfl, fun L u => u_callW u (gd0 rfl) 6 rfl 17 #[(.tmp 5), (.const (.int .i64 2))] #[51, 3] rfl [Value.pointer (some ⟨b, 0, none⟩), (Value.int IntKind.i64 2)] rfl (fun vs w => callFunc_enter Tryd.func17 (by kernel_rfl) (by kernel_rfl) vs w) 0 rfl (Value.tuple #[]) ([Value.slice (z1) (n1) (c1)]) (fun w hk ho h3 h4 hl => exp_ok (mk := 2) (hE.later (Kp.grown hk)) hz1 hn1 hc1 h2 h3 h4 hl), trivial⟩ [(0, .val (Value.pointer (some ⟨b, 0, none⟩))), (2, .ptr 2 0)] [(2, nz)] [(0, varPd b ([Value.slice (z1) (n1) (c1)]))] ⟨rfl, rfl, trivial⟩ ⟨rfl, trivial⟩ ⟨rfl, trivial⟩ rfl (fun a w h => ?_)
  refine a_regionQ TT h hm [2, 3] [eS 7 (.val (Value.pointer (some ⟨b, 0, none⟩))), eS 8 (.val (Value.pointer (some ⟨b, 0, none⟩))), eT 9 (.val (Value.int .i64 ((m : Nat) : Int))) 0 (varPd b ([Value.slice (z2) (n2) (c2)])), eT 10 (.val (Value.slice (zb) (m) (c2))) 0 (varPd b ([Value.slice (z3) (n3) (c3)])), eS 3 (.val (Value.slice (zb) (m) (c2)))] (by kernel_rfl) ⟨rfl, rfl, fun L u => u_callW u (gd0 rfl) 9 rfl 18 #[(.tmp 8)] #[51] rfl [Value.pointer (some ⟨b, 0, none⟩)] rfl (fun vs w => callFunc_enter Tryd.func18 (by kernel_rfl) (by kernel_rfl) vs w) 0 rfl (Value.int .i64 ((m : Nat) : Int)) ([Value.slice (z2) (n2) (c2)]) (fun w hk ho h3 h4 hl => by have q := next_ok (hE1.later (Kp.grown hk)) hz2 hn2 hc2 h3 h4 hl; rw [hfm] at q; exact q), fun L u => u_callW u (gd0 rfl) 10 rfl 25 #[(.tmp 7), (.tmp 9)] #[51, 3] rfl [Value.pointer (some ⟨b, 0, none⟩), Value.int .i64 ((m : Nat) : Int)] rfl (fun vs w => callFunc_enter Tryd.func25 (by kernel_rfl) (by kernel_rfl) vs w) 0 rfl (Value.slice (zb) (m) (c2)) ([Value.slice (z3) (n3) (c3)]) (fun w hk ho h3 h4 hl => take_ok hE2.nc hzb hz3 hn3 hc3 h3 h4 hl), rfl, trivial⟩ [(2, .ptr 2 0), (3, .val (Value.slice (zb) (m) (c2)))] [(2, nz)] [(0, varPd b ([Value.slice (z3) (n3) (c3)]))] ⟨rfl, rfl, trivial⟩ ⟨rfl, trivial⟩ ⟨rfl, trivial⟩ rfl (fun a w h => ?_)
  refine a_regionQ TT h hm [1] [eS 11 (.val (Value.slice (zb) (m) (c2))), eS 12 (.val (.agg (nc (((V : Nat) : Int))).toArray)), eN 4 (nz), eM 4 (nc (((V : Nat) : Int)))] (by kernel_rfl) ⟨rfl, fun L u => u_call u (gd0 rfl) _ rfl _ _ _ rfl [_] rfl (cE26 _) (.agg (nc (((V : Nat) : Int))).toArray) (fun w hb => by have q := val_any (c := c2) (hBb w (Kp.grown hb)) (by omega) (by omega); rw [hV] at q; exact q), rfl, rfl, trivial⟩ [(2, .ptr 2 0), (3, .val (Value.slice (zb) (m) (c2))), (4, .ptr 4 0)] [(2, nz), (4, nc (((V : Nat) : Int)))] [(0, varPd b ([Value.slice (z3) (n3) (c3)]))] ⟨rfl, rfl, rfl, trivial⟩ ⟨rfl, rfl, trivial⟩ ⟨rfl, trivial⟩ rfl (fun a w h => ?_)
  refine wp_seq ?_
  refine sq_begin [0, 1, 2, 3, 4] rfl ?_
  refine sq_step h (i := 0) rfl (u_move (xs := []) (up_seq (i := 0) (by kernel_rfl) rfl) (gd0 rfl) 13 rfl (.tmp 3) (Or.inl rfl) rfl) (fun a w h => ?_)
  refine sq_step h (i := 1) rfl (u_load (xs := []) (up_seq (i := 1) (by kernel_rfl) rfl) (gd0 rfl) 14 rfl 26 (.tmp 4) rfl rfl rfl Tryd.underlying26 rfl i26 (lk rfl) _ rfl) (fun a w h => ?_)
  refine sq_step h (i := 2) rfl (u_callQ (xs := []) (up_seq (i := 2) (by kernel_rfl) rfl) (gd0 rfl) 15 rfl rfl 24 #[(.tmp 14)] #[26] rfl [.val (.agg (nc (((V : Nat) : Int))).toArray)] rfl (fun vs w => callFunc_enter Tryd.func24 (by kernel_rfl) (by kernel_rfl) vs w) (rdPd (msz V) (be V (msz V))) (fun β a w hr => few_any hV2 _)) (fun a w h => ?_)
  refine sq_step h (i := 3) rfl (u_callR (xs := []) (up_seq (i := 3) (by kernel_rfl) rfl) (gd0 rfl) 16 rfl 27 #[(.tmp 13), (.tmp 15)] #[22, 22] rfl [.val (Value.slice (zb) (m) (c2)), .unk 15 id] rfl (fun vs w => callFunc_enter Tryd.func27 (by kernel_rfl) (by kernel_rfl) vs w) (Value.bool false) (fun β a w hr => by obtain ⟨z', c', hv, _, hlen, hb2, _⟩ := hr.thing (x := 15) (p := rdPd (msz V) (be V (msz V))) rfl; have q := eq_any (c1 := c2) (c2 := c') (hBb w (Kp.grown hr.bl)) hb2 (by omega); rw [fl_getD hlen, decide_eq_false hQ, ← hv] at q; exact q)) (fun a w h => ?_)
  refine sq_callP h (i := 4) rfl (gq0 rfl) 19 #[(.tmp 16)] #[4] rfl [.val (Value.bool false)] rfl (fun vs w => callFunc_enter Tryd.func19 (by kernel_rfl) (by kernel_rfl) vs w) (fun β hr => ins_f (hE.tb _ (Kp.grown hr.bl))) (fun t v w h => ?_)
  refine then_pan ?_
  exact pan_X h.kp h.defers
set_option maxRecDepth 100000 in
set_option maxHeartbeats 4000000 in
theorem num_pa {w : World} {b n c : Nat} {z : Option Addr} {f : Nat → Nat} (hE : Env w b z n c f) (hf : n = 0 ∨ ¬ f 0 = 2) (h3 : w.rangeAt b 0 [Value.slice (z) (n) (c)]) (h4 : w.there b 0 [Value.slice (z) (n) (c)].length) (hl : b < w.heap.size) : Calls Tryd.prog 20 [Value.pointer (some ⟨b, 0, none⟩)].toArray w fun e w' => Pn e ∧ w.grownBy w' (some b) := by
  refine enterB (X := fun k => Nat.beq k b) (args := [Value.pointer (some ⟨b, 0, none⟩)]) Tryd.func20 rfl 19 rfl (lk rfl) (fun a h => ?_)
  replace h := h.keepQ [(0, .val (Value.pointer (some ⟨b, 0, none⟩)))] [] [] ⟨rfl, trivial⟩ trivial trivial rfl
  replace h := h.gift 0 b [Value.slice (z) (n) (c)] rfl (fun _ => rfl) (Nat.beq_refl b) hl h3 h4 (fun y p hy => by cases hy)
  replace h := h.keepQ [(0, .val (Value.pointer (some ⟨b, 0, none⟩)))] [] [(0, varPd b ([Value.slice (z) (n) (c)]))] ⟨rfl, trivial⟩ trivial ⟨rfl, trivial⟩ rfl
  refine a_regionQ TT h hm [] [eN 2 (nz)] (by kernel_rfl) ⟨rfl, trivial⟩ [(0, .val (Value.pointer (some ⟨b, 0, none⟩))), (2, .ptr 2 0)] [(2, nz)] [(0, varPd b ([Value.slice (z) (n) (c)]))] ⟨rfl, rfl, trivial⟩ ⟨rfl, trivial⟩ ⟨rfl, trivial⟩ rfl (fun a w h => ?_)
  refine wp_seq ?_
  refine sq_begin [0, 1] rfl ?_
  refine sq_step h (i := 0) rfl (u_move (xs := []) (up_seq (i := 0) (by kernel_rfl) rfl) (gd0 rfl) 5 rfl (.tmp 0) (Or.inl rfl) rfl) (fun a w h => ?_)
  refine sq_callPW h (i := 1) rfl (gq0 rfl) 17 #[(.tmp 5), (.const (.int .i64 2))] #[51, 3] rfl [Value.pointer (some ⟨b, 0, none⟩), (Value.int IntKind.i64 2)] rfl (fun vs w => callFunc_enter Tryd.func17 (by kernel_rfl) (by kernel_rfl) vs w) 0 rfl (fun w hk ho h3 h4 hl => exp_pan (mk := 2) (hE.later (Kp.grown hk)) hf h3 h4 hl) (fun t v w hkp hdf => ?_)
  refine then_pan ?_
  exact pan_X hkp hdf
set_option maxRecDepth 100000 in
set_option maxHeartbeats 4000000 in
theorem num_pb {w : World} {b n c : Nat} {z : Option Addr} {f : Nat → Nat} (hE : Env w b z n c f) {n1 c1 : Nat} {z1 : Option Addr} (hz1 : cutA z c 1 = z1) (hn1 : n = n1 + 1) (hc1 : c = c1 + 1) {f1 : Nat → Nat} (hf1 : ∀ i, f1 i = f (1 + i)) (h2 : f 0 = 2) (h0 : n1 = 0) (h3 : w.rangeAt b 0 [Value.slice (z) (n) (c)]) (h4 : w.there b 0 [Value.slice (z) (n) (c)].length) (hl : b < w.heap.size) : Calls Tryd.prog 20 [Value.pointer (some ⟨b, 0, none⟩)].toArray w fun e w' => Pn e ∧ w.grownBy w' (some b) := by
  have hE1 : Env w b z1 n1 c1 f1 := hE.cut 1 hz1 hn1 hc1 hf1
  refine enterB (X := fun k => Nat.beq k b) (args := [Value.pointer (some ⟨b, 0, none⟩)]) Tryd.func20 rfl 19 rfl (lk rfl) (fun a h => ?_)
  replace h := h.keepQ [(0, .val (Value.pointer (some ⟨b, 0, none⟩)))] [] [] ⟨rfl, trivial⟩ trivial trivial rfl
  replace h := h.gift 0 b [Value.slice (z) (n) (c)] rfl (fun _ => rfl) (Nat.beq_refl b) hl h3 h4 (fun y p hy => by cases hy)
  replace h := h.keepQ [(0, .val (Value.pointer (some ⟨b, 0, none⟩)))] [] [(0, varPd b ([Value.slice (z) (n) (c)]))] ⟨rfl, trivial⟩ trivial ⟨rfl, trivial⟩ rfl
  refine a_regionQ TT h hm [] [eN 2 (nz)] (by kernel_rfl) ⟨rfl, trivial⟩ [(0, .val (Value.pointer (some ⟨b, 0, none⟩))), (2, .ptr 2 0)] [(2, nz)] [(0, varPd b ([Value.slice (z) (n) (c)]))] ⟨rfl, rfl, trivial⟩ ⟨rfl, trivial⟩ ⟨rfl, trivial⟩ rfl (fun a w h => ?_)
  refine a_regionQ TT h hm [1] [eS 5 (.val (Value.pointer (some ⟨b, 0, none⟩))), eT 6 (.val (Value.tuple #[])) 0 (varPd b ([Value.slice (z1) (n1) (c1)]))] (by kernel_rfl) ⟨rfl, fun L u => u_callW u (gd0 rfl) 6 rfl 17 #[(.tmp 5), (.const (.int .i64 2))] #[51, 3] rfl [Value.pointer (some ⟨b, 0, none⟩), (Value.int IntKind.i64 2)] rfl (fun vs w => callFunc_enter Tryd.func17 (by kernel_rfl) (by kernel_rfl) vs w) 0 rfl (Value.tuple #[]) ([Value.slice (z1) (n1) (c1)]) (fun w hk ho h3 h4 hl => exp_ok (mk := 2) (hE.later (Kp.grown hk)) hz1 hn1 hc1 h2 h3 h4 hl), trivial⟩ [(0, .val (Value.pointer (some ⟨b, 0, none⟩))), (2, .ptr 2 0)] [(2, nz)] [(0, varPd b ([Value.slice (z1) (n1) (c1)]))] ⟨rfl, rfl, trivial⟩ ⟨rfl, trivial⟩ ⟨rfl, trivial⟩ rfl (fun a w h => ?_)
  refine wp_seq ?_
  refine sq_begin [0, 1, 2, 3, 4] rfl ?_
  refine sq_step h (i := 0) rfl (u_move (xs := []) (up_seq (i := 0) (by kernel_rfl) rfl) (gd0 rfl) 7 rfl (.tmp 0) (Or.inl rfl) rfl) (fun a w h => ?_)
  refine sq_step h (i := 1) rfl (u_move (xs := []) (up_seq (i := 1) (by kernel_rfl) rfl) (gd0 rfl) 8 rfl (.tmp 0) (Or.inl rfl) rfl) (fun a w h => ?_)
  refine sq_callPW h (i := 2) rfl (gq0 rfl) 18 #[(.tmp 8)] #[51] rfl [Value.pointer (some ⟨b, 0, none⟩)] rfl (fun vs w => callFunc_enter Tryd.func18 (by kernel_rfl) (by kernel_rfl) vs w) 0 rfl (fun w hk ho h3 h4 hl => next_pan (hE1.later (Kp.grown hk)) (by omega) h3 h4 hl) (fun t v w hkp hdf => ?_)
  refine then_pan ?_
  exact pan_X hkp hdf
set_option maxRecDepth 100000 in
set_option maxHeartbeats 4000000 in
theorem num_pc {w : World} {b n c : Nat} {z : Option Addr} {f : Nat → Nat} (hE : Env w b z n c f) {n1 c1 : Nat} {z1 : Option Addr} (hz1 : cutA z c 1 = z1) (hn1 : n = n1 + 1) (hc1 : c = c1 + 1) {f1 : Nat → Nat} (hf1 : ∀ i, f1 i = f (1 + i)) (h2 : f 0 = 2) {n2 c2 m : Nat} {z2 : Option Addr} (hz2 : cutA z1 c1 1 = z2) (hn2 : n1 = n2 + 1) (hc2 : c1 = c2 + 1) {f2 : Nat → Nat} (hf2 : ∀ i, f2 i = f1 (1 + i)) (hfm : f1 0 = m) (h0 : n2 < m) (h3 : w.rangeAt b 0 [Value.slice (z) (n) (c)]) (h4 : w.there b 0 [Value.slice (z) (n) (c)].length) (hl : b < w.heap.size) : Calls Tryd.prog 20 [Value.pointer (some ⟨b, 0, none⟩)].toArray w fun e w' => Pn e ∧ w.grownBy w' (some b) := by
  have hE1 : Env w b z1 n1 c1 f1 := hE.cut 1 hz1 hn1 hc1 hf1
  have hE2 : Env w b z2 n2 c2 f2 := hE1.cut 1 hz2 hn2 hc2 hf2
  refine enterB (X := fun k => Nat.beq k b) (args := [Value.pointer (some ⟨b, 0, none⟩)]) Tryd.func20 rfl 19 rfl (lk rfl) (fun a h => ?_)
  replace h := h.keepQ [(0, .val (Value.pointer (some ⟨b, 0, none⟩)))] [] [] ⟨rfl, trivial⟩ trivial trivial rfl
  replace h := h.gift 0 b [Value.slice (z) (n) (c)] rfl (fun _ => rfl) (Nat.beq_refl b) hl h3 h4 (fun y p hy => by cases hy)
  replace h := h.keepQ [(0, .val (Value.pointer (some ⟨b, 0, none⟩)))] [] [(0, varPd b ([Value.slice (z) (n) (c)]))] ⟨rfl, trivial⟩ trivial ⟨rfl, trivial⟩ rfl
  refine a_regionQ TT h hm [] [eN 2 (nz)] (by kernel_rfl) ⟨rfl, trivial⟩ [(0, .val (Value.pointer (some ⟨b, 0, none⟩))), (2, .ptr 2 0)] [(2, nz)] [(0, varPd b ([Value.slice (z) (n) (c)]))] ⟨rfl, rfl, trivial⟩ ⟨rfl, trivial⟩ ⟨rfl, trivial⟩ rfl (fun a w h => ?_)
  refine a_regionQ TT h hm [1] [eS 5 (.val (Value.pointer (some ⟨b, 0, none⟩))), eT 6 (.val (Value.tuple #[])) 0 (varPd b ([Value.slice (z1) (n1) (c1)]))] (by kernel_rfl) ⟨rfl, fun L u => u_callW u (gd0 rfl) 6 rfl 17 #[(.tmp 5), (.const (.int .i64 2))] #[51, 3] rfl [Value.pointer (some ⟨b, 0, none⟩), (Value.int IntKind.i64 2)] rfl (fun vs w => callFunc_enter Tryd.func17 (by kernel_rfl) (by kernel_rfl) vs w) 0 rfl (Value.tuple #[]) ([Value.slice (z1) (n1) (c1)]) (fun w hk ho h3 h4 hl => exp_ok (mk := 2) (hE.later (Kp.grown hk)) hz1 hn1 hc1 h2 h3 h4 hl), trivial⟩ [(0, .val (Value.pointer (some ⟨b, 0, none⟩))), (2, .ptr 2 0)] [(2, nz)] [(0, varPd b ([Value.slice (z1) (n1) (c1)]))] ⟨rfl, rfl, trivial⟩ ⟨rfl, trivial⟩ ⟨rfl, trivial⟩ rfl (fun a w h => ?_)
  refine wp_seq ?_
  refine sq_begin [0, 1, 2, 3, 4] rfl ?_
  refine sq_step h (i := 0) rfl (u_move (xs := []) (up_seq (i := 0) (by kernel_rfl) rfl) (gd0 rfl) 7 rfl (.tmp 0) (Or.inl rfl) rfl) (fun a w h => ?_)
  refine sq_step h (i := 1) rfl (u_move (xs := []) (up_seq (i := 1) (by kernel_rfl) rfl) (gd0 rfl) 8 rfl (.tmp 0) (Or.inl rfl) rfl) (fun a w h => ?_)
  refine sq_step h (i := 2) rfl (u_callW (xs := []) (up_seq (i := 2) (by kernel_rfl) rfl) (gd0 rfl) 9 rfl 18 #[(.tmp 8)] #[51] rfl [Value.pointer (some ⟨b, 0, none⟩)] rfl (fun vs w => callFunc_enter Tryd.func18 (by kernel_rfl) (by kernel_rfl) vs w) 0 rfl (Value.int .i64 ((m : Nat) : Int)) ([Value.slice (z2) (n2) (c2)]) (fun w hk ho h3 h4 hl => by have q := next_ok (hE1.later (Kp.grown hk)) hz2 hn2 hc2 h3 h4 hl; rw [hfm] at q; exact q)) (fun a w h => ?_)
  refine sq_callPW h (i := 3) rfl (gq0 rfl) 25 #[(.tmp 7), (.tmp 9)] #[51, 3] rfl [Value.pointer (some ⟨b, 0, none⟩), Value.int .i64 ((m : Nat) : Int)] rfl (fun vs w => callFunc_enter Tryd.func25 (by kernel_rfl) (by kernel_rfl) vs w) 0 rfl (fun w hk ho h3 h4 hl => take_pan (hE2.later (Kp.grown hk)) (by omega) h3 h4 hl) (fun t v w hkp hdf => ?_)
  refine then_pan ?_
  exact pan_X hkp hdf
/-- The number that stands at the head of bytes, and whether it is one. -/
def nV (f : Nat → Nat) : Nat := num (fl (fun i => f (2 + i)) (f 1)) % 2 ^ 256
def NumOk (f : Nat → Nat) (n : Nat) : Prop := 2 ≤ n ∧ f 0 = 2 ∧ 2 + f 1 ≤ n ∧ fl (fun i => f (2 + i)) (f 1) = be (nV f) (msz (nV f))
theorem nV_lt (f : Nat → Nat) : nV f < 2 ^ 256 := Nat.mod_lt _ (Nat.pow_pos (by decide))
theorem num_ok {w : World} {b n c : Nat} {z : Option Addr} {f : Nat → Nat} (hE : Env w b z n c f) (hn : n ≤ 1000) (h : NumOk f n) {z3 : Option Addr} {n3 c3 : Nat} (hz : cutA (cutA (cutA z c 1) (c - 1) 1) (c - 2) (f 1) = z3) (hn3 : n = n3 + (2 + f 1)) (hc3 : c = c3 + (2 + f 1)) (h3 : w.rangeAt b 0 [Value.slice (z) (n) (c)]) (h4 : w.there b 0 [Value.slice (z) (n) (c)].length) (hl : b < w.heap.size) : Calls Tryd.prog 20 [Value.pointer (some ⟨b, 0, none⟩)].toArray w fun e w' => e = .returned (.agg (nc ((nV f : Nat) : Int)).toArray) ∧ w.grownBy w' (some b) ∧ w'.rangeAt b 0 [Value.slice (z3) (n3) (c3)] ∧ w'.there b 0 [Value.slice (z3) (n3) (c3)].length :=
  num_at (n1 := n - 1) (c1 := c - 1) (f1 := fun i => f (1 + i)) (n2 := n - 2) (c2 := c - 2) (f2 := fun i => f (2 + i)) (m := f 1) hE hn rfl (by omega) (by omega) (fun _ => rfl) h.2.1 rfl (by omega) (by omega) (fun i => by show f (2 + i) = f (1 + (1 + i)); rw [show 1 + (1 + i) = 2 + i by omega]) rfl rfl hz (by omega) (by omega) rfl (nV_lt f) h.2.2.2 h3 h4 hl
theorem num_pan {w : World} {b n c : Nat} {z : Option Addr} {f : Nat → Nat} (hE : Env w b z n c f) (hn : n ≤ 1000) (h : ¬ NumOk f n) (h3 : w.rangeAt b 0 [Value.slice (z) (n) (c)]) (h4 : w.there b 0 [Value.slice (z) (n) (c)].length) (hl : b < w.heap.size) : Calls Tryd.prog 20 [Value.pointer (some ⟨b, 0, none⟩)].toArray w fun e w' => Pn e ∧ w.grownBy w' (some b) := by
  have hnc := hE.nc
  by_cases h1 : n = 0 ∨ ¬ f 0 = 2
  · exact num_pa hE h1 h3 h4 hl
  have h0 : n ≠ 0 ∧ f 0 = 2 := by
    refine ⟨fun e => h1 (Or.inl e), ?_⟩
    by_cases e : f 0 = 2
    · exact e
    · exact absurd (Or.inr e) h1
  by_cases h2 : n = 1
  · exact num_pb (n1 := n - 1) (c1 := c - 1) (f1 := fun i => f (1 + i)) hE rfl (by omega) (by omega) (fun _ => rfl) h0.2 (by omega) h3 h4 hl
  by_cases hm2 : n - 2 < f 1
  · exact num_pc (n1 := n - 1) (c1 := c - 1) (f1 := fun i => f (1 + i)) (n2 := n - 2) (c2 := c - 2) (f2 := fun i => f (2 + i)) (m := f 1) hE rfl (by omega) (by omega) (fun _ => rfl) h0.2 rfl (by omega) (by omega) (fun i => by show f (2 + i) = f (1 + (1 + i)); rw [show 1 + (1 + i) = 2 + i by omega]) rfl hm2 h3 h4 hl
  · exact num_pd (n1 := n - 1) (c1 := c - 1) (f1 := fun i => f (1 + i)) (n2 := n - 2) (c2 := c - 2) (f2 := fun i => f (2 + i)) (m := f 1) (n3 := n - 2 - f 1) (c3 := c - 2 - f 1) hE hn rfl (by omega) (by omega) (fun _ => rfl) h0.2 rfl (by omega) (by omega) (fun i => by show f (2 + i) = f (1 + (1 + i)); rw [show 1 + (1 + i) = 2 + i by omega]) rfl rfl rfl (by omega) (by omega) rfl (nV_lt f) (fun e => h ⟨by omega, h0.2, by omega, e⟩) h3 h4 hl
theorem env_num {w : World} {b n c : Nat} {z : Option Addr} {f : Nat → Nat} (hE : Env w b z n c f) {z3 : Option Addr} {n3 c3 : Nat} (hz : cutA (cutA (cutA z c 1) (c - 1) 1) (c - 2) (f 1) = z3) (hn3 : n = n3 + (2 + f 1)) (hc3 : c = c3 + (2 + f 1)) {g : Nat → Nat} (hg : ∀ i, g i = f (2 + f 1 + i)) : Env w b z3 n3 c3 g := by
  have e1 := hE.cut 1 (n1 := n - 1) (c1 := c - 1) (g := fun i => f (1 + i)) rfl (by omega) (by omega) (fun _ => rfl)
  have e2 := e1.cut 1 (n1 := n - 2) (c1 := c - 2) (g := fun i => f (2 + i)) rfl (by omega) (by omega) (fun i => by show f (2 + i) = f (1 + (1 + i)); rw [show 1 + (1 + i) = 2 + i by omega])
  exact e2.cut (f 1) hz (by omega) (by omega) (fun i => by rw [hg]; show f (2 + f 1 + i) = f (2 + (f 1 + i)); rw [Nat.add_assoc])
end Go.Proofs.YtlpjdhoboebbfaaDoor
