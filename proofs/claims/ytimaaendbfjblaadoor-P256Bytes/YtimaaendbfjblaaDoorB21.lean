/- Multiples by the one formula for all cases, bit by bit from the highest on. What the program's own functions of layer 8 answer. -/
import Derived.Test.YtimaaendbfjblaaDoorB03
import Derived.Test.YtimaaendbfjblaaDoorB20
namespace Go.Proofs.YtimaaendbfjblaaDoor

def wm (k : Nat) (P : P3 (Fin m0)) : Nat → P3 (Fin m0)
  | 0 => ⟨0, 1, 0⟩
  | n + 1 => if k / 2 ^ (255 - n) % 2 = 1 then wa wb (wa wb (wm k P n) (wm k P n)) P else wa wb (wm k P n) (wm k P n)
theorem o_on : On wb (⟨0, 1, 0⟩ : P3 (Fin m0)) := on_lift wk0 (a := Wp.o) trivial
theorem nm_o : nm fiv (⟨0, 1, 0⟩ : P3 (Fin m0)) = Wp.o := nm_lift fld0 Wp.o
theorem wa_nm {P Q : P3 (Fin m0)} (hP : On wb P) (hQ : On wb Q) : nm fiv (wa wb P Q) = wplus (nm fiv P) (nm fiv Q) := nm_wa wk0 hP hQ
theorem wm_on {k : Nat} {P : P3 (Fin m0)} (hP : On wb P) : ∀ n, On wb (wm k P n)
  | 0 => o_on
  | n + 1 => by
    have ih := wm_on (k := k) hP n
    have hd := on_wa wk0 ih ih
    by_cases hb : k / 2 ^ (255 - n) % 2 = 1
    · rw [show wm k P (n + 1) = wa wb (wa wb (wm k P n) (wm k P n)) P from if_pos hb]
      exact on_wa wk0 hd hP
    · rw [show wm k P (n + 1) = wa wb (wm k P n) (wm k P n) from if_neg hb]
      exact hd
theorem wm_mt {k : Nat} {P : P3 (Fin m0)} (hP : On wb P) : ∀ n, n ≤ 256 → nm fiv (wm k P n) = mt wplus Wp.o (nm fiv P) (k / 2 ^ (256 - n) % 2 ^ n)
  | 0, _ => by
    rw [show k / 2 ^ (256 - 0) % 2 ^ 0 = 0 by rw [Nat.pow_zero, Nat.mod_one]]
    exact nm_o
  | n + 1, hn => by
    have ih := wm_mt (k := k) hP n (by omega)
    have hon := wm_on (k := k) hP n
    have ho := on_nm wk0 hP
    have e1 : k / 2 ^ (256 - (n + 1)) % 2 ^ (n + 1) = 2 * (k / 2 ^ (256 - n) % 2 ^ n) + k / 2 ^ (255 - n) % 2 := by
      rw [show 256 - (n + 1) = 255 - n by omega]
      have e2 : k / 2 ^ (256 - n) = k / 2 ^ (255 - n) / 2 := by
        rw [Nat.div_div_eq_div_mul, ← Nat.pow_succ]
        congr 2
        omega
      rw [e2]
      generalize k / 2 ^ (255 - n) = m
      rw [Nat.pow_succ, Nat.mul_comm (2 ^ n) 2, Nat.mod_mul]
      omega
    have hd := wa_nm hon hon
    rw [e1]
    by_cases hb : k / 2 ^ (255 - n) % 2 = 1
    · rw [show wm k P (n + 1) = wa wb (wa wb (wm k P n) (wm k P n)) P from if_pos hb, wa_nm (on_wa wk0 hon hon) hP, hd, hb, ih]
      show _ = wplus (mt wplus Wp.o (nm fiv P) (2 * (k / 2 ^ (256 - n) % 2 ^ n))) (nm fiv P)
      rw [mt_two wgr ho]
    · rw [show wm k P (n + 1) = wa wb (wm k P n) (wm k P n) from if_neg hb, hd, ih, show k / 2 ^ (255 - n) % 2 = 0 by omega, Nat.add_zero, mt_two wgr ho]
theorem wm_all {k : Nat} (hk : k < 2 ^ 256) {P : P3 (Fin m0)} (hP : On wb P) : nm fiv (wm k P 256) = mt wplus Wp.o (nm fiv P) k := by
  rw [wm_mt hP 256 (Nat.le_refl _), Nat.sub_self, Nat.pow_zero, Nat.div_one, Nat.mod_eq_of_lt hk]
end Go.Proofs.YtimaaendbfjblaaDoor
namespace Go.Proofs.YtimaaendbfjblaaDoor
open Go.RowKit

theorem i55 : (Tryd.prog.info? 55).map (·.size) = some 12 := by kernel_rfl
theorem z55 : (Tryd.prog.info? 55).map (·.zero) = some (some (.agg (nz ++ nz ++ nz).toArray)) := by kernel_rfl
theorem bN1 : Tryd.prog.built 24 [(0, .int .u64 1)] = some (fc 1).toArray := by kernel_rfl
theorem bN1x {one : Fin m0} (h : one = 1) : Tryd.prog.built 24 [(0, .int .u64 1)] = some (fc one).toArray := by rw [h]; exact bN1
theorem l_none : jc (Wp.lift (none : Wp m0)) = fc 0 ++ fc 1 ++ fc 0 := rfl
theorem l_some (x y : Fin m0) : jc (Wp.lift (some (x, y))) = fc x ++ fc y ++ fc 1 := rfl
theorem bQ1 (y : Fin m0) : Tryd.prog.built 55 [(1, .agg (fc y).toArray)] = some (nz ++ fc y ++ nz).toArray := by kernel_rfl
theorem bQ3 (x y z : Fin m0) : Tryd.prog.built 55 [(0, .agg (fc x).toArray), (1, .agg (fc y).toArray), (2, .agg (fc z).toArray)] = some (fc x ++ fc y ++ fc z).toArray := by kernel_rfl
theorem Tab.wb {w : World} (h : Tab w) : w.rangeAt 0 0 (fc wb) := by
  rw [fc_wb]
  intro j v hj
  match j, hj with
  | 0, hj => cases hj; exact h.cb0
  | 1, hj => cases hj; exact h.cb1
  | 2, hj => cases hj; exact h.cb2
  | 3, hj => cases hj; exact h.cb3
  | j + 4, hj => cases hj
theorem cE57 (vs : List Value) : ∀ w, (callFunc 57 vs.toArray).run Tryd.prog w = .ok (.enter 57 vs.toArray) w := callFunc_enter Tryd.func57 (by kernel_rfl) (by kernel_rfl) _
theorem cE58 (vs : List Value) : ∀ w, (callFunc 58 vs.toArray).run Tryd.prog w = .ok (.enter 58 vs.toArray) w := callFunc_enter Tryd.func58 (by kernel_rfl) (by kernel_rfl) _
theorem cE30 (vs : List Value) : ∀ w, (callFunc 30 vs.toArray).run Tryd.prog w = .ok (.enter 30 vs.toArray) w := callFunc_enter Tryd.func30 (by kernel_rfl) (by kernel_rfl) _
theorem cE59 (vs : List Value) : ∀ w, (callFunc 59 vs.toArray).run Tryd.prog w = .ok (.enter 59 vs.toArray) w := callFunc_enter Tryd.func59 (by kernel_rfl) (by kernel_rfl) _
theorem cE63 (vs : List Value) : ∀ w, (callFunc 63 vs.toArray).run Tryd.prog w = .ok (.enter 63 vs.toArray) w := callFunc_enter Tryd.func63 (by kernel_rfl) (by kernel_rfl) _
theorem cE31 (vs : List Value) : ∀ w, (callFunc 31 vs.toArray).run Tryd.prog w = .ok (.enter 31 vs.toArray) w := callFunc_enter Tryd.func31 (by kernel_rfl) (by kernel_rfl) _
theorem cE28 (vs : List Value) : ∀ w, (callFunc 28 vs.toArray).run Tryd.prog w = .ok (.enter 28 vs.toArray) w := callFunc_enter Tryd.func28 (by kernel_rfl) (by kernel_rfl) _
theorem cE41 (vs : List Value) : ∀ w, (callFunc 41 vs.toArray).run Tryd.prog w = .ok (.enter 41 vs.toArray) w := callFunc_enter Tryd.func41 (by kernel_rfl) (by kernel_rfl) _
theorem cE39 (vs : List Value) : ∀ w, (callFunc 39 vs.toArray).run Tryd.prog w = .ok (.enter 39 vs.toArray) w := callFunc_enter Tryd.func39 (by kernel_rfl) (by kernel_rfl) _
theorem cE40 (vs : List Value) : ∀ w, (callFunc 40 vs.toArray).run Tryd.prog w = .ok (.enter 40 vs.toArray) w := callFunc_enter Tryd.func40 (by kernel_rfl) (by kernel_rfl) _
theorem cE45 (vs : List Value) : ∀ w, (callFunc 45 vs.toArray).run Tryd.prog w = .ok (.enter 45 vs.toArray) w := callFunc_enter Tryd.func45 (by kernel_rfl) (by kernel_rfl) _
theorem cE16 (vs : List Value) : ∀ w, (callFunc 16 vs.toArray).run Tryd.prog w = .ok (.enter 16 vs.toArray) w := callFunc_enter Tryd.func16 (by kernel_rfl) (by kernel_rfl) _
theorem cE10 (vs : List Value) : ∀ w, (callFunc 10 vs.toArray).run Tryd.prog w = .ok (.enter 10 vs.toArray) w := callFunc_enter Tryd.func10 (by kernel_rfl) (by kernel_rfl) _
theorem cE12 (vs : List Value) : ∀ w, (callFunc 12 vs.toArray).run Tryd.prog w = .ok (.enter 12 vs.toArray) w := callFunc_enter Tryd.func12 (by kernel_rfl) (by kernel_rfl) _
theorem cE14 (vs : List Value) : ∀ w, (callFunc 14 vs.toArray).run Tryd.prog w = .ok (.enter 14 vs.toArray) w := callFunc_enter Tryd.func14 (by kernel_rfl) (by kernel_rfl) _
theorem cE17 (vs : List Value) : ∀ w, (callFunc 17 vs.toArray).run Tryd.prog w = .ok (.enter 17 vs.toArray) w := callFunc_enter Tryd.func17 (by kernel_rfl) (by kernel_rfl) _
theorem cE29 (vs : List Value) : ∀ w, (callFunc 29 vs.toArray).run Tryd.prog w = .ok (.enter 29 vs.toArray) w := callFunc_enter Tryd.func29 (by kernel_rfl) (by kernel_rfl) _
theorem cE54 (vs : List Value) : ∀ w, (callFunc 54 vs.toArray).run Tryd.prog w = .ok (.enter 54 vs.toArray) w := callFunc_enter Tryd.func54 (by kernel_rfl) (by kernel_rfl) _
theorem cE66 (vs : List Value) : ∀ w, (callFunc 66 vs.toArray).run Tryd.prog w = .ok (.enter 66 vs.toArray) w := callFunc_enter Tryd.func66 (by kernel_rfl) (by kernel_rfl) _
theorem cE55 (vs : List Value) : ∀ w, (callFunc 55 vs.toArray).run Tryd.prog w = .ok (.enter 55 vs.toArray) w := callFunc_enter Tryd.func55 (by kernel_rfl) (by kernel_rfl) _
set_option maxRecDepth 100000 in
set_option maxHeartbeats 4000000 in
theorem q_add {w : World} (hT : Tab w) (x y : Fin m0) : Calls Tryd.prog 57 [.agg (fc (x)).toArray, .agg (fc (y)).toArray].toArray w fun e w' => e = .returned (.agg (fc (x + y)).toArray) ∧ Below w.heap.size w w' := by
  refine enter (args := [.agg (fc (x)).toArray, .agg (fc (y)).toArray]) Tryd.func57 rfl 8 rfl (lk rfl) (fun a h => ?_)
  refine go_region h hm [eN 2 (fc (x)), eN 3 (fc (y)), eN 4 (nz)] (by kernel_rfl) ⟨
    fun L u => u_box u (gd0 rfl) 24 (.tmp 0) rfl 2 rfl rfl rfl _ rfl,
    fun L u => u_box u (gd0 rfl) 24 (.tmp 1) rfl 3 rfl rfl rfl _ rfl,
    fun L u => u_alloc u (gd0 rfl) 24 rfl 4 rfl rfl z24 _ rfl,
    trivial⟩ [(2, .ptr 2 0), (3, .ptr 3 0), (4, .ptr 4 0)] [(2, fc (x)), (3, fc (y)), (4, nz)] ⟨rfl, rfl, rfl, trivial⟩ ⟨rfl, rfl, rfl, trivial⟩ rfl (fun a w h => ?_)
  refine go_region h hm [eS 5 (.val (.agg (fc (x)).toArray)), eS 6 (.val (.agg (fc (y)).toArray)), eS 7 (.val (.agg (fc ((x) + (y))).toArray)), eM 4 (fc ((x) + (y)))] (by kernel_rfl) ⟨
    fun L u => u_load u (gd0 rfl) 5 rfl 24 (.tmp 2) rfl rfl rfl Tryd.underlying24 rfl i24 (lk rfl) _ rfl,
    fun L u => u_load u (gd0 rfl) 6 rfl 24 (.tmp 3) rfl rfl rfl Tryd.underlying24 rfl i24 (lk rfl) _ rfl,
    fun L u => u_call u (gd0 rfl) 7 rfl 60 #[(.const (.int .i64 0)), (.tmp 5), (.tmp 6)] #[3, 24, 24] rfl [(Value.int IntKind.i64 0), .agg (fc (x)).toArray, .agg (fc (y)).toArray] rfl (cE60 _) (.agg (fc ((x) + (y))).toArray) (fun w hb => c_add (hT.keep (Bs.kp_of hb)) _ _),
    fun L u => u_store u (gd0 rfl) 24 (.tmp 4) (.tmp 7) rfl rfl rfl (vs := fc ((x) + (y))) rfl rfl i24 (lk rfl) rfl _ rfl,
    trivial⟩ [(4, .ptr 4 0)] [(4, fc ((x) + (y)))] ⟨rfl, trivial⟩ ⟨rfl, trivial⟩ rfl (fun a w h => ?_)
  refine wp_ret ?_
  refine ret_row h 4 24 rfl (lk rfl) 4 rfl (fc ((x) + (y))) rfl _ Tryd.underlying24 rfl i24 ?_
  exact ⟨rfl, h.grows⟩
set_option maxRecDepth 100000 in
set_option maxHeartbeats 4000000 in
theorem q_sub {w : World} (hT : Tab w) (x y : Fin m0) : Calls Tryd.prog 58 [.agg (fc (x)).toArray, .agg (fc (y)).toArray].toArray w fun e w' => e = .returned (.agg (fc (x - y)).toArray) ∧ Below w.heap.size w w' := by
  refine enter (args := [.agg (fc (x)).toArray, .agg (fc (y)).toArray]) Tryd.func58 rfl 8 rfl (lk rfl) (fun a h => ?_)
  refine go_region h hm [eN 2 (fc (x)), eN 3 (fc (y)), eN 4 (nz)] (by kernel_rfl) ⟨
    fun L u => u_box u (gd0 rfl) 24 (.tmp 0) rfl 2 rfl rfl rfl _ rfl,
    fun L u => u_box u (gd0 rfl) 24 (.tmp 1) rfl 3 rfl rfl rfl _ rfl,
    fun L u => u_alloc u (gd0 rfl) 24 rfl 4 rfl rfl z24 _ rfl,
    trivial⟩ [(2, .ptr 2 0), (3, .ptr 3 0), (4, .ptr 4 0)] [(2, fc (x)), (3, fc (y)), (4, nz)] ⟨rfl, rfl, rfl, trivial⟩ ⟨rfl, rfl, rfl, trivial⟩ rfl (fun a w h => ?_)
  refine go_region h hm [eS 5 (.val (.agg (fc (x)).toArray)), eS 6 (.val (.agg (fc (y)).toArray)), eS 7 (.val (.agg (fc ((x) - (y))).toArray)), eM 4 (fc ((x) - (y)))] (by kernel_rfl) ⟨
    fun L u => u_load u (gd0 rfl) 5 rfl 24 (.tmp 2) rfl rfl rfl Tryd.underlying24 rfl i24 (lk rfl) _ rfl,
    fun L u => u_load u (gd0 rfl) 6 rfl 24 (.tmp 3) rfl rfl rfl Tryd.underlying24 rfl i24 (lk rfl) _ rfl,
    fun L u => u_call u (gd0 rfl) 7 rfl 61 #[(.const (.int .i64 0)), (.tmp 5), (.tmp 6)] #[3, 24, 24] rfl [(Value.int IntKind.i64 0), .agg (fc (x)).toArray, .agg (fc (y)).toArray] rfl (cE61 _) (.agg (fc ((x) - (y))).toArray) (fun w hb => c_sub (hT.keep (Bs.kp_of hb)) _ _),
    fun L u => u_store u (gd0 rfl) 24 (.tmp 4) (.tmp 7) rfl rfl rfl (vs := fc ((x) - (y))) rfl rfl i24 (lk rfl) rfl _ rfl,
    trivial⟩ [(4, .ptr 4 0)] [(4, fc ((x) - (y)))] ⟨rfl, trivial⟩ ⟨rfl, trivial⟩ rfl (fun a w h => ?_)
  refine wp_ret ?_
  refine ret_row h 4 24 rfl (lk rfl) 4 rfl (fc ((x) - (y))) rfl _ Tryd.underlying24 rfl i24 ?_
  exact ⟨rfl, h.grows⟩
set_option maxRecDepth 100000 in
set_option maxHeartbeats 4000000 in
theorem q_mul {w : World} (hT : Tab w) (x y : Fin m0) : Calls Tryd.prog 30 [.agg (fc (x)).toArray, .agg (fc (y)).toArray].toArray w fun e w' => e = .returned (.agg (fc (x * y)).toArray) ∧ Below w.heap.size w w' := by
  refine enter (args := [.agg (fc (x)).toArray, .agg (fc (y)).toArray]) Tryd.func30 rfl 8 rfl (lk rfl) (fun a h => ?_)
  refine go_region h hm [eN 2 (fc (x)), eN 3 (fc (y)), eN 4 (nz)] (by kernel_rfl) ⟨
    fun L u => u_box u (gd0 rfl) 24 (.tmp 0) rfl 2 rfl rfl rfl _ rfl,
    fun L u => u_box u (gd0 rfl) 24 (.tmp 1) rfl 3 rfl rfl rfl _ rfl,
    fun L u => u_alloc u (gd0 rfl) 24 rfl 4 rfl rfl z24 _ rfl,
    trivial⟩ [(2, .ptr 2 0), (3, .ptr 3 0), (4, .ptr 4 0)] [(2, fc (x)), (3, fc (y)), (4, nz)] ⟨rfl, rfl, rfl, trivial⟩ ⟨rfl, rfl, rfl, trivial⟩ rfl (fun a w h => ?_)
  refine go_region h hm [eS 5 (.val (.agg (fc (x)).toArray)), eS 6 (.val (.agg (fc (y)).toArray)), eS 7 (.val (.agg (fc ((x) * (y))).toArray)), eM 4 (fc ((x) * (y)))] (by kernel_rfl) ⟨
    fun L u => u_load u (gd0 rfl) 5 rfl 24 (.tmp 2) rfl rfl rfl Tryd.underlying24 rfl i24 (lk rfl) _ rfl,
    fun L u => u_load u (gd0 rfl) 6 rfl 24 (.tmp 3) rfl rfl rfl Tryd.underlying24 rfl i24 (lk rfl) _ rfl,
    fun L u => u_call u (gd0 rfl) 7 rfl 56 #[(.const (.int .i64 0)), (.tmp 5), (.tmp 6)] #[3, 24, 24] rfl [(Value.int IntKind.i64 0), .agg (fc (x)).toArray, .agg (fc (y)).toArray] rfl (cE56 _) (.agg (fc ((x) * (y))).toArray) (fun w hb => c_mul (hT.keep (Bs.kp_of hb)) _ _),
    fun L u => u_store u (gd0 rfl) 24 (.tmp 4) (.tmp 7) rfl rfl rfl (vs := fc ((x) * (y))) rfl rfl i24 (lk rfl) rfl _ rfl,
    trivial⟩ [(4, .ptr 4 0)] [(4, fc ((x) * (y)))] ⟨rfl, trivial⟩ ⟨rfl, trivial⟩ rfl (fun a w h => ?_)
  refine wp_ret ?_
  refine ret_row h 4 24 rfl (lk rfl) 4 rfl (fc ((x) * (y))) rfl _ Tryd.underlying24 rfl i24 ?_
  exact ⟨rfl, h.grows⟩
set_option maxRecDepth 100000 in
set_option maxHeartbeats 8000000 in
theorem q_triple {w : World} (hT : Tab w) (x : Fin m0) : Calls Tryd.prog 59 [.agg (fc (x)).toArray].toArray w fun e w' => e = .returned (.agg (fc (x + x + x)).toArray) ∧ Below w.heap.size w w' := by
  obtain ⟨v1, ev1⟩ : ∃ z, z = x + x := ⟨_, rfl⟩
  obtain ⟨v2, ev2⟩ : ∃ z, z = v1 + x := ⟨_, rfl⟩
  refine enter (args := [.agg (fc (x)).toArray]) Tryd.func59 rfl 8 rfl (lk rfl) (fun a h => ?_)
  refine go_region h hm [eN 1 (fc (x)), eN 2 (nz)] (by kernel_rfl) ⟨
    fun L u => u_box u (gd0 rfl) 24 (.tmp 0) rfl 1 rfl rfl rfl _ rfl,
    fun L u => u_alloc u (gd0 rfl) 24 rfl 2 rfl rfl z24 _ rfl,
    trivial⟩ [(1, .ptr 1 0), (2, .ptr 2 0)] [(1, fc (x)), (2, nz)] ⟨rfl, rfl, trivial⟩ ⟨rfl, rfl, trivial⟩ rfl (fun a w h => ?_)
  refine go_region h hm [eS 3 (.val (.agg (fc (x)).toArray)), eS 4 (.val (.agg (fc (x)).toArray)), eS 5 (.val (.agg (fc (v1)).toArray)), eS 6 (.val (.agg (fc (x)).toArray)), eS 7 (.val (.agg (fc (v2)).toArray)), eM 2 (fc (v2))] (by kernel_rfl) ⟨
    fun L u => u_load u (gd0 rfl) 3 rfl 24 (.tmp 1) rfl rfl rfl Tryd.underlying24 rfl i24 (lk rfl) _ rfl,
    fun L u => u_load u (gd0 rfl) 4 rfl 24 (.tmp 1) rfl rfl rfl Tryd.underlying24 rfl i24 (lk rfl) _ rfl,
    fun L u => u_call u (gd0 rfl) 5 rfl 57 #[(.tmp 3), (.tmp 4)] #[24, 24] rfl [.agg (fc (x)).toArray, .agg (fc (x)).toArray] rfl (cE57 _) (.agg (fc (v1)).toArray) (fun w hb => by have g := q_add (hT.keep (Bs.kp_of hb)) x x; rw [← ev1] at g; exact g),
    fun L u => u_load u (gd0 rfl) 6 rfl 24 (.tmp 1) rfl rfl rfl Tryd.underlying24 rfl i24 (lk rfl) _ rfl,
    fun L u => u_call u (gd0 rfl) 7 rfl 57 #[(.tmp 5), (.tmp 6)] #[24, 24] rfl [.agg (fc (v1)).toArray, .agg (fc (x)).toArray] rfl (cE57 _) (.agg (fc (v2)).toArray) (fun w hb => by have g := q_add (hT.keep (Bs.kp_of hb)) v1 x; rw [← ev2] at g; exact g),
    fun L u => u_store u (gd0 rfl) 24 (.tmp 2) (.tmp 7) rfl rfl rfl (vs := fc (v2)) rfl rfl i24 (lk rfl) rfl _ rfl,
    trivial⟩ [(2, .ptr 2 0)] [(2, fc (v2))] ⟨rfl, trivial⟩ ⟨rfl, trivial⟩ rfl (fun a w h => ?_)
  refine wp_ret ?_
  refine ret_row h 2 24 rfl (lk rfl) 2 rfl (fc (v2)) rfl _ Tryd.underlying24 rfl i24 ?_
  exact ⟨by rw [ev2, ev1], h.grows⟩
set_option maxRecDepth 100000 in
set_option maxHeartbeats 8000000 in
theorem q_cross {w : World} (hT : Tab w) (x1 x2 x3 x4 : Fin m0) : Calls Tryd.prog 63 [.agg (fc (x1)).toArray, .agg (fc (x2)).toArray, .agg (fc (x3)).toArray, .agg (fc (x4)).toArray].toArray w fun e w' => e = .returned (.agg (fc (x1 * x2 + x3 * x4)).toArray) ∧ Below w.heap.size w w' := by
  obtain ⟨v1, ev1⟩ : ∃ z, z = x1 * x2 := ⟨_, rfl⟩
  obtain ⟨v2, ev2⟩ : ∃ z, z = x3 * x4 := ⟨_, rfl⟩
  obtain ⟨v3, ev3⟩ : ∃ z, z = v1 + v2 := ⟨_, rfl⟩
  refine enter (args := [.agg (fc (x1)).toArray, .agg (fc (x2)).toArray, .agg (fc (x3)).toArray, .agg (fc (x4)).toArray]) Tryd.func63 rfl 16 rfl (lk rfl) (fun a h => ?_)
  refine go_region h hm [eN 4 (fc (x1)), eN 5 (fc (x2)), eN 6 (fc (x3)), eN 7 (fc (x4)), eN 8 (nz)] (by kernel_rfl) ⟨
    fun L u => u_box u (gd0 rfl) 24 (.tmp 0) rfl 4 rfl rfl rfl _ rfl,
    fun L u => u_box u (gd0 rfl) 24 (.tmp 1) rfl 5 rfl rfl rfl _ rfl,
    fun L u => u_box u (gd0 rfl) 24 (.tmp 2) rfl 6 rfl rfl rfl _ rfl,
    fun L u => u_box u (gd0 rfl) 24 (.tmp 3) rfl 7 rfl rfl rfl _ rfl,
    fun L u => u_alloc u (gd0 rfl) 24 rfl 8 rfl rfl z24 _ rfl,
    trivial⟩ [(4, .ptr 4 0), (5, .ptr 5 0), (6, .ptr 6 0), (7, .ptr 7 0), (8, .ptr 8 0)] [(4, fc (x1)), (5, fc (x2)), (6, fc (x3)), (7, fc (x4)), (8, nz)] ⟨rfl, rfl, rfl, rfl, rfl, trivial⟩ ⟨rfl, rfl, rfl, rfl, rfl, trivial⟩ rfl (fun a w h => ?_)
  refine go_region h hm [eS 9 (.val (.agg (fc (x1)).toArray)), eS 10 (.val (.agg (fc (x2)).toArray)), eS 11 (.val (.agg (fc (v1)).toArray)), eS 12 (.val (.agg (fc (x3)).toArray)), eS 13 (.val (.agg (fc (x4)).toArray)), eS 14 (.val (.agg (fc (v2)).toArray)), eS 15 (.val (.agg (fc (v3)).toArray)), eM 8 (fc (v3))] (by kernel_rfl) ⟨
    fun L u => u_load u (gd0 rfl) 9 rfl 24 (.tmp 4) rfl rfl rfl Tryd.underlying24 rfl i24 (lk rfl) _ rfl,
    fun L u => u_load u (gd0 rfl) 10 rfl 24 (.tmp 5) rfl rfl rfl Tryd.underlying24 rfl i24 (lk rfl) _ rfl,
    fun L u => u_call u (gd0 rfl) 11 rfl 30 #[(.tmp 9), (.tmp 10)] #[24, 24] rfl [.agg (fc (x1)).toArray, .agg (fc (x2)).toArray] rfl (cE30 _) (.agg (fc (v1)).toArray) (fun w hb => by have g := q_mul (hT.keep (Bs.kp_of hb)) x1 x2; rw [← ev1] at g; exact g),
    fun L u => u_load u (gd0 rfl) 12 rfl 24 (.tmp 6) rfl rfl rfl Tryd.underlying24 rfl i24 (lk rfl) _ rfl,
    fun L u => u_load u (gd0 rfl) 13 rfl 24 (.tmp 7) rfl rfl rfl Tryd.underlying24 rfl i24 (lk rfl) _ rfl,
    fun L u => u_call u (gd0 rfl) 14 rfl 30 #[(.tmp 12), (.tmp 13)] #[24, 24] rfl [.agg (fc (x3)).toArray, .agg (fc (x4)).toArray] rfl (cE30 _) (.agg (fc (v2)).toArray) (fun w hb => by have g := q_mul (hT.keep (Bs.kp_of hb)) x3 x4; rw [← ev2] at g; exact g),
    fun L u => u_call u (gd0 rfl) 15 rfl 57 #[(.tmp 11), (.tmp 14)] #[24, 24] rfl [.agg (fc (v1)).toArray, .agg (fc (v2)).toArray] rfl (cE57 _) (.agg (fc (v3)).toArray) (fun w hb => by have g := q_add (hT.keep (Bs.kp_of hb)) v1 v2; rw [← ev3] at g; exact g),
    fun L u => u_store u (gd0 rfl) 24 (.tmp 8) (.tmp 15) rfl rfl rfl (vs := fc (v3)) rfl rfl i24 (lk rfl) rfl _ rfl,
    trivial⟩ [(8, .ptr 8 0)] [(8, fc (v3))] ⟨rfl, trivial⟩ ⟨rfl, trivial⟩ rfl (fun a w h => ?_)
  refine wp_ret ?_
  refine ret_row h 8 24 rfl (lk rfl) 8 rfl (fc (v3)) rfl _ Tryd.underlying24 rfl i24 ?_
  exact ⟨by rw [ev3, ev2, ev1], h.grows⟩
set_option maxRecDepth 100000 in
set_option maxHeartbeats 8000000 in
theorem q_right {w : World} (hT : Tab w) (x : Fin m0) : Calls Tryd.prog 31 [.agg (fc (x)).toArray].toArray w fun e w' => e = .returned (.agg (fc (x * x * x - (x + x + x) + wb)).toArray) ∧ Below w.heap.size w w' := by
  obtain ⟨v1, ev1⟩ : ∃ z, z = x * x := ⟨_, rfl⟩
  obtain ⟨v2, ev2⟩ : ∃ z, z = v1 * x := ⟨_, rfl⟩
  obtain ⟨v3, ev3⟩ : ∃ z, z = x + x + x := ⟨_, rfl⟩
  obtain ⟨v4, ev4⟩ : ∃ z, z = v2 - v3 := ⟨_, rfl⟩
  obtain ⟨v5, ev5⟩ : ∃ z, z = v4 + wb := ⟨_, rfl⟩
  refine enter (args := [.agg (fc (x)).toArray]) Tryd.func31 rfl 13 rfl (lk rfl) (fun a h => ?_)
  refine go_region h hm [eN 1 (fc (x)), eN 2 (nz)] (by kernel_rfl) ⟨
    fun L u => u_box u (gd0 rfl) 24 (.tmp 0) rfl 1 rfl rfl rfl _ rfl,
    fun L u => u_alloc u (gd0 rfl) 24 rfl 2 rfl rfl z24 _ rfl,
    trivial⟩ [(1, .ptr 1 0), (2, .ptr 2 0)] [(1, fc (x)), (2, nz)] ⟨rfl, rfl, trivial⟩ ⟨rfl, rfl, trivial⟩ rfl (fun a w h => ?_)
  refine go_region h hm [eS 3 (.val (.agg (fc (x)).toArray)), eS 4 (.val (.agg (fc (x)).toArray)), eS 5 (.val (.agg (fc (v1)).toArray)), eS 6 (.val (.agg (fc (x)).toArray)), eS 7 (.val (.agg (fc (v2)).toArray)), eS 8 (.val (.agg (fc (x)).toArray)), eS 9 (.val (.agg (fc (v3)).toArray)), eS 10 (.val (.agg (fc (v4)).toArray)), eS 11 (.val (.agg (fc (wb)).toArray)), eS 12 (.val (.agg (fc (v5)).toArray)), eM 2 (fc (v5))] (by kernel_rfl) ⟨
    fun L u => u_load u (gd0 rfl) 3 rfl 24 (.tmp 1) rfl rfl rfl Tryd.underlying24 rfl i24 (lk rfl) _ rfl,
    fun L u => u_load u (gd0 rfl) 4 rfl 24 (.tmp 1) rfl rfl rfl Tryd.underlying24 rfl i24 (lk rfl) _ rfl,
    fun L u => u_call u (gd0 rfl) 5 rfl 30 #[(.tmp 3), (.tmp 4)] #[24, 24] rfl [.agg (fc (x)).toArray, .agg (fc (x)).toArray] rfl (cE30 _) (.agg (fc (v1)).toArray) (fun w hb => by have g := q_mul (hT.keep (Bs.kp_of hb)) x x; rw [← ev1] at g; exact g),
    fun L u => u_load u (gd0 rfl) 6 rfl 24 (.tmp 1) rfl rfl rfl Tryd.underlying24 rfl i24 (lk rfl) _ rfl,
    fun L u => u_call u (gd0 rfl) 7 rfl 30 #[(.tmp 5), (.tmp 6)] #[24, 24] rfl [.agg (fc (v1)).toArray, .agg (fc (x)).toArray] rfl (cE30 _) (.agg (fc (v2)).toArray) (fun w hb => by have g := q_mul (hT.keep (Bs.kp_of hb)) v1 x; rw [← ev2] at g; exact g),
    fun L u => u_load u (gd0 rfl) 8 rfl 24 (.tmp 1) rfl rfl rfl Tryd.underlying24 rfl i24 (lk rfl) _ rfl,
    fun L u => u_call u (gd0 rfl) 9 rfl 59 #[(.tmp 8)] #[24] rfl [.agg (fc (x)).toArray] rfl (cE59 _) (.agg (fc (v3)).toArray) (fun w hb => by have g := q_triple (hT.keep (Bs.kp_of hb)) x; rw [← ev3] at g; exact g),
    fun L u => u_call u (gd0 rfl) 10 rfl 58 #[(.tmp 7), (.tmp 9)] #[24, 24] rfl [.agg (fc (v2)).toArray, .agg (fc (v3)).toArray] rfl (cE58 _) (.agg (fc (v4)).toArray) (fun w hb => by have g := q_sub (hT.keep (Bs.kp_of hb)) v2 v3; rw [← ev4] at g; exact g),
    fun L u => u_loadXR u (gd0 rfl) 11 rfl 24 (.global 0) rfl rfl Tryd.underlying24 rfl (fc (wb)) i24 rfl (hT.wb) rfl,
    fun L u => u_call u (gd0 rfl) 12 rfl 57 #[(.tmp 10), (.tmp 11)] #[24, 24] rfl [.agg (fc (v4)).toArray, .agg (fc (wb)).toArray] rfl (cE57 _) (.agg (fc (v5)).toArray) (fun w hb => by have g := q_add (hT.keep (Bs.kp_of hb)) v4 wb; rw [← ev5] at g; exact g),
    fun L u => u_store u (gd0 rfl) 24 (.tmp 2) (.tmp 12) rfl rfl rfl (vs := fc (v5)) rfl rfl i24 (lk rfl) rfl _ rfl,
    trivial⟩ [(2, .ptr 2 0)] [(2, fc (v5))] ⟨rfl, trivial⟩ ⟨rfl, trivial⟩ rfl (fun a w h => ?_)
  refine wp_ret ?_
  refine ret_row h 2 24 rfl (lk rfl) 2 rfl (fc (v5)) rfl _ Tryd.underlying24 rfl i24 ?_
  exact ⟨by rw [ev5, ev4, ev3, ev2, ev1], h.grows⟩
set_option maxRecDepth 100000 in
set_option maxHeartbeats 4000000 in
theorem q_neutral {w : World}  : Calls Tryd.prog 28 [].toArray w fun e w' => e = .returned (.agg (nz ++ nz ++ [Value.bool true]).toArray) ∧ Below w.heap.size w w' := by
  refine enter (args := []) Tryd.func28 rfl 2 rfl (lk rfl) (fun a h => ?_)
  refine go_region h hm [eN 0 (nz ++ nz ++ [Value.bool false])] (by kernel_rfl) ⟨
    fun L u => u_alloc u (gd0 rfl) 26 rfl 0 rfl rfl z26 _ rfl,
    trivial⟩ [(0, .ptr 0 0)] [(0, nz ++ nz ++ [Value.bool false])] ⟨rfl, trivial⟩ ⟨rfl, trivial⟩ rfl (fun a w h => ?_)
  refine go_region h hm [eS 1 (.val (.agg (nz ++ nz ++ [Value.bool true]).toArray)), eM 0 (nz ++ nz ++ [Value.bool true])] (by kernel_rfl) ⟨
    fun L u => u_build u (gd0 rfl) 1 rfl 26 #[(2, (.const (.bool true)))] rfl [(2, Value.bool true)] rfl (nz ++ nz ++ [Value.bool true]) (bP1),
    fun L u => u_store u (gd0 rfl) 26 (.tmp 0) (.tmp 1) rfl rfl rfl (vs := nz ++ nz ++ [Value.bool true]) rfl rfl i26 (lk rfl) rfl _ rfl,
    trivial⟩ [(0, .ptr 0 0)] [(0, nz ++ nz ++ [Value.bool true])] ⟨rfl, trivial⟩ ⟨rfl, trivial⟩ rfl (fun a w h => ?_)
  refine wp_ret ?_
  refine ret_row h 0 26 rfl (lk rfl) 0 rfl (nz ++ nz ++ [Value.bool true]) rfl _ Tryd.underlying26 rfl i26 ?_
  exact ⟨rfl, h.grows⟩
theorem plus_poly {p : Nat} [NeZero p] (b x1 y1 z1 x2 y2 z2 : Fin p) {v1 : Fin p} (ev1 : v1 = x1 * x2) {v2 : Fin p} (ev2 : v2 = y1 * y2) {v3 : Fin p} (ev3 : v3 = z1 * z2) {v4 : Fin p} (ev4 : v4 = x1 * y2 + x2 * y1) {v5 : Fin p} (ev5 : v5 = x1 * z2 + x2 * z1) {v6 : Fin p} (ev6 : v6 = y1 * z2 + y2 * z1) {v7 : Fin p} (ev7 : v7 = b * v3) {v8 : Fin p} (ev8 : v8 = v5 - v7) {v9 : Fin p} (ev9 : v9 = v8 + v8 + v8) {v10 : Fin p} (ev10 : v10 = v2 + v9) {v11 : Fin p} (ev11 : v11 = v2 - v9) {v12 : Fin p} (ev12 : v12 = v1 - v3) {v13 : Fin p} (ev13 : v13 = v12 + v12 + v12) {v14 : Fin p} (ev14 : v14 = b * v5) {v15 : Fin p} (ev15 : v15 = v3 + v3 + v3) {v16 : Fin p} (ev16 : v16 = v14 - v15) {v17 : Fin p} (ev17 : v17 = v16 - v1) {v18 : Fin p} (ev18 : v18 = v17 + v17 + v17) {v19 : Fin p} (ev19 : v19 = v4 * v10) {v20 : Fin p} (ev20 : v20 = v6 * v18) {v21 : Fin p} (ev21 : v21 = v19 - v20) {v22 : Fin p} (ev22 : v22 = v10 * v11 + v13 * v18) {v23 : Fin p} (ev23 : v23 = v6 * v11 + v4 * v13) : (⟨v21, v22, v23⟩ : P3 (Fin p)) = wa b ⟨x1, y1, z1⟩ ⟨x2, y2, z2⟩ := by
  subst ev1 ev2 ev3 ev4 ev5 ev6 ev7 ev8 ev9 ev10 ev11 ev12 ev13 ev14 ev15 ev16 ev17 ev18 ev19 ev20 ev21 ev22 ev23
  rw [wa_eq]
  congr 1 <;> grobner
set_option maxRecDepth 100000 in
set_option maxHeartbeats 8000000 in
theorem q_plus {w : World} (hT : Tab w) (x1 y1 z1 x2 y2 z2 : Fin m0) : Calls Tryd.prog 40 [.agg (fc x1 ++ fc y1 ++ fc z1).toArray, .agg (fc x2 ++ fc y2 ++ fc z2).toArray].toArray w fun e w' => e = .returned (.agg (jc (wa wb ⟨x1, y1, z1⟩ ⟨x2, y2, z2⟩)).toArray) ∧ Below w.heap.size w w' := by
  obtain ⟨v1, ev1⟩ : ∃ z, z = x1 * x2 := ⟨_, rfl⟩
  obtain ⟨v2, ev2⟩ : ∃ z, z = y1 * y2 := ⟨_, rfl⟩
  obtain ⟨v3, ev3⟩ : ∃ z, z = z1 * z2 := ⟨_, rfl⟩
  obtain ⟨v4, ev4⟩ : ∃ z, z = x1 * y2 + x2 * y1 := ⟨_, rfl⟩
  obtain ⟨v5, ev5⟩ : ∃ z, z = x1 * z2 + x2 * z1 := ⟨_, rfl⟩
  obtain ⟨v6, ev6⟩ : ∃ z, z = y1 * z2 + y2 * z1 := ⟨_, rfl⟩
  obtain ⟨v7, ev7⟩ : ∃ z, z = wb * v3 := ⟨_, rfl⟩
  obtain ⟨v8, ev8⟩ : ∃ z, z = v5 - v7 := ⟨_, rfl⟩
  obtain ⟨v9, ev9⟩ : ∃ z, z = v8 + v8 + v8 := ⟨_, rfl⟩
  obtain ⟨v10, ev10⟩ : ∃ z, z = v2 + v9 := ⟨_, rfl⟩
  obtain ⟨v11, ev11⟩ : ∃ z, z = v2 - v9 := ⟨_, rfl⟩
  obtain ⟨v12, ev12⟩ : ∃ z, z = v1 - v3 := ⟨_, rfl⟩
  obtain ⟨v13, ev13⟩ : ∃ z, z = v12 + v12 + v12 := ⟨_, rfl⟩
  obtain ⟨v14, ev14⟩ : ∃ z, z = wb * v5 := ⟨_, rfl⟩
  obtain ⟨v15, ev15⟩ : ∃ z, z = v3 + v3 + v3 := ⟨_, rfl⟩
  obtain ⟨v16, ev16⟩ : ∃ z, z = v14 - v15 := ⟨_, rfl⟩
  obtain ⟨v17, ev17⟩ : ∃ z, z = v16 - v1 := ⟨_, rfl⟩
  obtain ⟨v18, ev18⟩ : ∃ z, z = v17 + v17 + v17 := ⟨_, rfl⟩
  obtain ⟨v19, ev19⟩ : ∃ z, z = v4 * v10 := ⟨_, rfl⟩
  obtain ⟨v20, ev20⟩ : ∃ z, z = v6 * v18 := ⟨_, rfl⟩
  obtain ⟨v21, ev21⟩ : ∃ z, z = v19 - v20 := ⟨_, rfl⟩
  obtain ⟨v22, ev22⟩ : ∃ z, z = v10 * v11 + v13 * v18 := ⟨_, rfl⟩
  obtain ⟨v23, ev23⟩ : ∃ z, z = v6 * v11 + v4 * v13 := ⟨_, rfl⟩
  have hpp := plus_poly wb x1 y1 z1 x2 y2 z2 ev1 ev2 ev3 ev4 ev5 ev6 ev7 ev8 ev9 ev10 ev11 ev12 ev13 ev14 ev15 ev16 ev17 ev18 ev19 ev20 ev21 ev22 ev23
  refine enter (args := [.agg (fc (x1) ++ fc (y1) ++ fc (z1)).toArray, .agg (fc (x2) ++ fc (y2) ++ fc (z2)).toArray]) Tryd.func40 rfl 101 rfl (lk rfl) (fun a h => ?_)
  refine go_region h hm [eN 2 (fc (x1) ++ fc (y1) ++ fc (z1)), eN 3 (fc (x2) ++ fc (y2) ++ fc (z2)), eN 4 (nz ++ nz ++ nz)] (by kernel_rfl) ⟨
    fun L u => u_box u (gd0 rfl) 55 (.tmp 0) rfl 2 rfl rfl rfl _ rfl,
    fun L u => u_box u (gd0 rfl) 55 (.tmp 1) rfl 3 rfl rfl rfl _ rfl,
    fun L u => u_alloc u (gd0 rfl) 55 rfl 4 rfl rfl z55 _ rfl,
    trivial⟩ [(2, .ptr 2 0), (3, .ptr 3 0), (4, .ptr 4 0)] [(2, fc (x1) ++ fc (y1) ++ fc (z1)), (3, fc (x2) ++ fc (y2) ++ fc (z2)), (4, nz ++ nz ++ nz)] ⟨rfl, rfl, rfl, trivial⟩ ⟨rfl, rfl, rfl, trivial⟩ rfl (fun a w h => ?_)
  refine go_region h hm [eS 16 (.ptr 2 0), eS 17 (.val (.agg (fc (x1)).toArray)), eS 18 (.ptr 3 0), eS 19 (.val (.agg (fc (x2)).toArray)), eS 20 (.val (.agg (fc (v1)).toArray)), eS 21 (.ptr 2 4), eS 22 (.val (.agg (fc (y1)).toArray)), eS 23 (.ptr 3 4), eS 24 (.val (.agg (fc (y2)).toArray)), eS 25 (.val (.agg (fc (v2)).toArray)), eS 26 (.ptr 2 8), eS 27 (.val (.agg (fc (z1)).toArray)), eS 28 (.ptr 3 8), eS 29 (.val (.agg (fc (z2)).toArray)), eS 30 (.val (.agg (fc (v3)).toArray)), eN 5 (nz), eN 6 (nz), eN 7 (nz), eM 5 (fc (v1)), eM 6 (fc (v2)), eM 7 (fc (v3))] (by kernel_rfl) ⟨
    fun L u => u_field u (gd0 rfl) 16 rfl 55 (.tmp 2) 0 rfl rfl rfl Tryd.underlying55 rfl i24 _ rfl,
    fun L u => u_load u (gd0 rfl) 17 rfl 24 (.tmp 16) rfl rfl rfl Tryd.underlying24 rfl i24 (lk rfl) _ rfl,
    fun L u => u_field u (gd0 rfl) 18 rfl 55 (.tmp 3) 0 rfl rfl rfl Tryd.underlying55 rfl i24 _ rfl,
    fun L u => u_load u (gd0 rfl) 19 rfl 24 (.tmp 18) rfl rfl rfl Tryd.underlying24 rfl i24 (lk rfl) _ rfl,
    fun L u => u_call u (gd0 rfl) 20 rfl 30 #[(.tmp 17), (.tmp 19)] #[24, 24] rfl [.agg (fc (x1)).toArray, .agg (fc (x2)).toArray] rfl (cE30 _) (.agg (fc (v1)).toArray) (fun w hb => by have g := q_mul (hT.keep (Bs.kp_of hb)) x1 x2; rw [← ev1] at g; exact g),
    fun L u => u_field u (gd0 rfl) 21 rfl 55 (.tmp 2) 1 rfl rfl rfl Tryd.underlying55 rfl i24 _ rfl,
    fun L u => u_load u (gd0 rfl) 22 rfl 24 (.tmp 21) rfl rfl rfl Tryd.underlying24 rfl i24 (lk rfl) _ rfl,
    fun L u => u_field u (gd0 rfl) 23 rfl 55 (.tmp 3) 1 rfl rfl rfl Tryd.underlying55 rfl i24 _ rfl,
    fun L u => u_load u (gd0 rfl) 24 rfl 24 (.tmp 23) rfl rfl rfl Tryd.underlying24 rfl i24 (lk rfl) _ rfl,
    fun L u => u_call u (gd0 rfl) 25 rfl 30 #[(.tmp 22), (.tmp 24)] #[24, 24] rfl [.agg (fc (y1)).toArray, .agg (fc (y2)).toArray] rfl (cE30 _) (.agg (fc (v2)).toArray) (fun w hb => by have g := q_mul (hT.keep (Bs.kp_of hb)) y1 y2; rw [← ev2] at g; exact g),
    fun L u => u_field u (gd0 rfl) 26 rfl 55 (.tmp 2) 2 rfl rfl rfl Tryd.underlying55 rfl i24 _ rfl,
    fun L u => u_load u (gd0 rfl) 27 rfl 24 (.tmp 26) rfl rfl rfl Tryd.underlying24 rfl i24 (lk rfl) _ rfl,
    fun L u => u_field u (gd0 rfl) 28 rfl 55 (.tmp 3) 2 rfl rfl rfl Tryd.underlying55 rfl i24 _ rfl,
    fun L u => u_load u (gd0 rfl) 29 rfl 24 (.tmp 28) rfl rfl rfl Tryd.underlying24 rfl i24 (lk rfl) _ rfl,
    fun L u => u_call u (gd0 rfl) 30 rfl 30 #[(.tmp 27), (.tmp 29)] #[24, 24] rfl [.agg (fc (z1)).toArray, .agg (fc (z2)).toArray] rfl (cE30 _) (.agg (fc (v3)).toArray) (fun w hb => by have g := q_mul (hT.keep (Bs.kp_of hb)) z1 z2; rw [← ev3] at g; exact g),
    fun L u => u_alloc u (gd0 rfl) 24 rfl 5 rfl rfl z24 _ rfl,
    fun L u => u_alloc u (gd0 rfl) 24 rfl 6 rfl rfl z24 _ rfl,
    fun L u => u_alloc u (gd0 rfl) 24 rfl 7 rfl rfl z24 _ rfl,
    fun L u => u_store u (gd0 rfl) 24 (.tmp 5) (.tmp 20) rfl rfl rfl (vs := fc (v1)) rfl rfl i24 (lk rfl) rfl _ rfl,
    fun L u => u_store u (gd0 rfl) 24 (.tmp 6) (.tmp 25) rfl rfl rfl (vs := fc (v2)) rfl rfl i24 (lk rfl) rfl _ rfl,
    fun L u => u_store u (gd0 rfl) 24 (.tmp 7) (.tmp 30) rfl rfl rfl (vs := fc (v3)) rfl rfl i24 (lk rfl) rfl _ rfl,
    trivial⟩ [(2, .ptr 2 0), (3, .ptr 3 0), (4, .ptr 4 0), (5, .ptr 5 0), (6, .ptr 6 0), (7, .ptr 7 0)] [(2, fc (x1) ++ fc (y1) ++ fc (z1)), (3, fc (x2) ++ fc (y2) ++ fc (z2)), (4, nz ++ nz ++ nz), (5, fc (v1)), (6, fc (v2)), (7, fc (v3))] ⟨rfl, rfl, rfl, rfl, rfl, rfl, trivial⟩ ⟨rfl, rfl, rfl, rfl, rfl, rfl, trivial⟩ rfl (fun a w h => ?_)
  refine go_region h hm [eS 31 (.ptr 2 0), eS 32 (.val (.agg (fc (x1)).toArray)), eS 33 (.ptr 3 4), eS 34 (.val (.agg (fc (y2)).toArray)), eS 35 (.ptr 3 0), eS 36 (.val (.agg (fc (x2)).toArray)), eS 37 (.ptr 2 4), eS 38 (.val (.agg (fc (y1)).toArray)), eS 39 (.val (.agg (fc (v4)).toArray)), eN 8 (nz), eM 8 (fc (v4))] (by kernel_rfl) ⟨
    fun L u => u_field u (gd0 rfl) 31 rfl 55 (.tmp 2) 0 rfl rfl rfl Tryd.underlying55 rfl i24 _ rfl,
    fun L u => u_load u (gd0 rfl) 32 rfl 24 (.tmp 31) rfl rfl rfl Tryd.underlying24 rfl i24 (lk rfl) _ rfl,
    fun L u => u_field u (gd0 rfl) 33 rfl 55 (.tmp 3) 1 rfl rfl rfl Tryd.underlying55 rfl i24 _ rfl,
    fun L u => u_load u (gd0 rfl) 34 rfl 24 (.tmp 33) rfl rfl rfl Tryd.underlying24 rfl i24 (lk rfl) _ rfl,
    fun L u => u_field u (gd0 rfl) 35 rfl 55 (.tmp 3) 0 rfl rfl rfl Tryd.underlying55 rfl i24 _ rfl,
    fun L u => u_load u (gd0 rfl) 36 rfl 24 (.tmp 35) rfl rfl rfl Tryd.underlying24 rfl i24 (lk rfl) _ rfl,
    fun L u => u_field u (gd0 rfl) 37 rfl 55 (.tmp 2) 1 rfl rfl rfl Tryd.underlying55 rfl i24 _ rfl,
    fun L u => u_load u (gd0 rfl) 38 rfl 24 (.tmp 37) rfl rfl rfl Tryd.underlying24 rfl i24 (lk rfl) _ rfl,
    fun L u => u_call u (gd0 rfl) 39 rfl 63 #[(.tmp 32), (.tmp 34), (.tmp 36), (.tmp 38)] #[24, 24, 24, 24] rfl [.agg (fc (x1)).toArray, .agg (fc (y2)).toArray, .agg (fc (x2)).toArray, .agg (fc (y1)).toArray] rfl (cE63 _) (.agg (fc (v4)).toArray) (fun w hb => by have g := q_cross (hT.keep (Bs.kp_of hb)) x1 y2 x2 y1; rw [← ev4] at g; exact g),
    fun L u => u_alloc u (gd0 rfl) 24 rfl 8 rfl rfl z24 _ rfl,
    fun L u => u_store u (gd0 rfl) 24 (.tmp 8) (.tmp 39) rfl rfl rfl (vs := fc (v4)) rfl rfl i24 (lk rfl) rfl _ rfl,
    trivial⟩ [(2, .ptr 2 0), (3, .ptr 3 0), (4, .ptr 4 0), (5, .ptr 5 0), (6, .ptr 6 0), (7, .ptr 7 0), (8, .ptr 8 0)] [(2, fc (x1) ++ fc (y1) ++ fc (z1)), (3, fc (x2) ++ fc (y2) ++ fc (z2)), (4, nz ++ nz ++ nz), (5, fc (v1)), (6, fc (v2)), (7, fc (v3)), (8, fc (v4))] ⟨rfl, rfl, rfl, rfl, rfl, rfl, rfl, trivial⟩ ⟨rfl, rfl, rfl, rfl, rfl, rfl, rfl, trivial⟩ rfl (fun a w h => ?_)
  refine go_region h hm [eS 40 (.ptr 2 0), eS 41 (.val (.agg (fc (x1)).toArray)), eS 42 (.ptr 3 8), eS 43 (.val (.agg (fc (z2)).toArray)), eS 44 (.ptr 3 0), eS 45 (.val (.agg (fc (x2)).toArray)), eS 46 (.ptr 2 8), eS 47 (.val (.agg (fc (z1)).toArray)), eS 48 (.val (.agg (fc (v5)).toArray)), eN 9 (nz), eM 9 (fc (v5))] (by kernel_rfl) ⟨
    fun L u => u_field u (gd0 rfl) 40 rfl 55 (.tmp 2) 0 rfl rfl rfl Tryd.underlying55 rfl i24 _ rfl,
    fun L u => u_load u (gd0 rfl) 41 rfl 24 (.tmp 40) rfl rfl rfl Tryd.underlying24 rfl i24 (lk rfl) _ rfl,
    fun L u => u_field u (gd0 rfl) 42 rfl 55 (.tmp 3) 2 rfl rfl rfl Tryd.underlying55 rfl i24 _ rfl,
    fun L u => u_load u (gd0 rfl) 43 rfl 24 (.tmp 42) rfl rfl rfl Tryd.underlying24 rfl i24 (lk rfl) _ rfl,
    fun L u => u_field u (gd0 rfl) 44 rfl 55 (.tmp 3) 0 rfl rfl rfl Tryd.underlying55 rfl i24 _ rfl,
    fun L u => u_load u (gd0 rfl) 45 rfl 24 (.tmp 44) rfl rfl rfl Tryd.underlying24 rfl i24 (lk rfl) _ rfl,
    fun L u => u_field u (gd0 rfl) 46 rfl 55 (.tmp 2) 2 rfl rfl rfl Tryd.underlying55 rfl i24 _ rfl,
    fun L u => u_load u (gd0 rfl) 47 rfl 24 (.tmp 46) rfl rfl rfl Tryd.underlying24 rfl i24 (lk rfl) _ rfl,
    fun L u => u_call u (gd0 rfl) 48 rfl 63 #[(.tmp 41), (.tmp 43), (.tmp 45), (.tmp 47)] #[24, 24, 24, 24] rfl [.agg (fc (x1)).toArray, .agg (fc (z2)).toArray, .agg (fc (x2)).toArray, .agg (fc (z1)).toArray] rfl (cE63 _) (.agg (fc (v5)).toArray) (fun w hb => by have g := q_cross (hT.keep (Bs.kp_of hb)) x1 z2 x2 z1; rw [← ev5] at g; exact g),
    fun L u => u_alloc u (gd0 rfl) 24 rfl 9 rfl rfl z24 _ rfl,
    fun L u => u_store u (gd0 rfl) 24 (.tmp 9) (.tmp 48) rfl rfl rfl (vs := fc (v5)) rfl rfl i24 (lk rfl) rfl _ rfl,
    trivial⟩ [(2, .ptr 2 0), (3, .ptr 3 0), (4, .ptr 4 0), (5, .ptr 5 0), (6, .ptr 6 0), (7, .ptr 7 0), (8, .ptr 8 0), (9, .ptr 9 0)] [(2, fc (x1) ++ fc (y1) ++ fc (z1)), (3, fc (x2) ++ fc (y2) ++ fc (z2)), (4, nz ++ nz ++ nz), (5, fc (v1)), (6, fc (v2)), (7, fc (v3)), (8, fc (v4)), (9, fc (v5))] ⟨rfl, rfl, rfl, rfl, rfl, rfl, rfl, rfl, trivial⟩ ⟨rfl, rfl, rfl, rfl, rfl, rfl, rfl, rfl, trivial⟩ rfl (fun a w h => ?_)
  refine go_region h hm [eS 49 (.ptr 2 4), eS 50 (.val (.agg (fc (y1)).toArray)), eS 51 (.ptr 3 8), eS 52 (.val (.agg (fc (z2)).toArray)), eS 53 (.ptr 3 4), eS 54 (.val (.agg (fc (y2)).toArray)), eS 55 (.ptr 2 8), eS 56 (.val (.agg (fc (z1)).toArray)), eS 57 (.val (.agg (fc (v6)).toArray)), eN 10 (nz), eM 10 (fc (v6))] (by kernel_rfl) ⟨
    fun L u => u_field u (gd0 rfl) 49 rfl 55 (.tmp 2) 1 rfl rfl rfl Tryd.underlying55 rfl i24 _ rfl,
    fun L u => u_load u (gd0 rfl) 50 rfl 24 (.tmp 49) rfl rfl rfl Tryd.underlying24 rfl i24 (lk rfl) _ rfl,
    fun L u => u_field u (gd0 rfl) 51 rfl 55 (.tmp 3) 2 rfl rfl rfl Tryd.underlying55 rfl i24 _ rfl,
    fun L u => u_load u (gd0 rfl) 52 rfl 24 (.tmp 51) rfl rfl rfl Tryd.underlying24 rfl i24 (lk rfl) _ rfl,
    fun L u => u_field u (gd0 rfl) 53 rfl 55 (.tmp 3) 1 rfl rfl rfl Tryd.underlying55 rfl i24 _ rfl,
    fun L u => u_load u (gd0 rfl) 54 rfl 24 (.tmp 53) rfl rfl rfl Tryd.underlying24 rfl i24 (lk rfl) _ rfl,
    fun L u => u_field u (gd0 rfl) 55 rfl 55 (.tmp 2) 2 rfl rfl rfl Tryd.underlying55 rfl i24 _ rfl,
    fun L u => u_load u (gd0 rfl) 56 rfl 24 (.tmp 55) rfl rfl rfl Tryd.underlying24 rfl i24 (lk rfl) _ rfl,
    fun L u => u_call u (gd0 rfl) 57 rfl 63 #[(.tmp 50), (.tmp 52), (.tmp 54), (.tmp 56)] #[24, 24, 24, 24] rfl [.agg (fc (y1)).toArray, .agg (fc (z2)).toArray, .agg (fc (y2)).toArray, .agg (fc (z1)).toArray] rfl (cE63 _) (.agg (fc (v6)).toArray) (fun w hb => by have g := q_cross (hT.keep (Bs.kp_of hb)) y1 z2 y2 z1; rw [← ev6] at g; exact g),
    fun L u => u_alloc u (gd0 rfl) 24 rfl 10 rfl rfl z24 _ rfl,
    fun L u => u_store u (gd0 rfl) 24 (.tmp 10) (.tmp 57) rfl rfl rfl (vs := fc (v6)) rfl rfl i24 (lk rfl) rfl _ rfl,
    trivial⟩ [(4, .ptr 4 0), (5, .ptr 5 0), (6, .ptr 6 0), (7, .ptr 7 0), (8, .ptr 8 0), (9, .ptr 9 0), (10, .ptr 10 0)] [(4, nz ++ nz ++ nz), (5, fc (v1)), (6, fc (v2)), (7, fc (v3)), (8, fc (v4)), (9, fc (v5)), (10, fc (v6))] ⟨rfl, rfl, rfl, rfl, rfl, rfl, rfl, trivial⟩ ⟨rfl, rfl, rfl, rfl, rfl, rfl, rfl, trivial⟩ rfl (fun a w h => ?_)
  refine go_region h hm [eS 58 (.val (.agg (fc (v5)).toArray)), eS 59 (.val (.agg (fc (wb)).toArray)), eS 60 (.val (.agg (fc (v3)).toArray)), eS 61 (.val (.agg (fc (v7)).toArray)), eS 62 (.val (.agg (fc (v8)).toArray)), eS 63 (.val (.agg (fc (v9)).toArray)), eN 11 (nz), eM 11 (fc (v9))] (by kernel_rfl) ⟨
    fun L u => u_load u (gd0 rfl) 58 rfl 24 (.tmp 9) rfl rfl rfl Tryd.underlying24 rfl i24 (lk rfl) _ rfl,
    fun L u => u_loadXR u (gd0 rfl) 59 rfl 24 (.global 0) rfl rfl Tryd.underlying24 rfl (fc (wb)) i24 rfl (hT.wb) rfl,
    fun L u => u_load u (gd0 rfl) 60 rfl 24 (.tmp 7) rfl rfl rfl Tryd.underlying24 rfl i24 (lk rfl) _ rfl,
    fun L u => u_call u (gd0 rfl) 61 rfl 30 #[(.tmp 59), (.tmp 60)] #[24, 24] rfl [.agg (fc (wb)).toArray, .agg (fc (v3)).toArray] rfl (cE30 _) (.agg (fc (v7)).toArray) (fun w hb => by have g := q_mul (hT.keep (Bs.kp_of hb)) wb v3; rw [← ev7] at g; exact g),
    fun L u => u_call u (gd0 rfl) 62 rfl 58 #[(.tmp 58), (.tmp 61)] #[24, 24] rfl [.agg (fc (v5)).toArray, .agg (fc (v7)).toArray] rfl (cE58 _) (.agg (fc (v8)).toArray) (fun w hb => by have g := q_sub (hT.keep (Bs.kp_of hb)) v5 v7; rw [← ev8] at g; exact g),
    fun L u => u_call u (gd0 rfl) 63 rfl 59 #[(.tmp 62)] #[24] rfl [.agg (fc (v8)).toArray] rfl (cE59 _) (.agg (fc (v9)).toArray) (fun w hb => by have g := q_triple (hT.keep (Bs.kp_of hb)) v8; rw [← ev9] at g; exact g),
    fun L u => u_alloc u (gd0 rfl) 24 rfl 11 rfl rfl z24 _ rfl,
    fun L u => u_store u (gd0 rfl) 24 (.tmp 11) (.tmp 63) rfl rfl rfl (vs := fc (v9)) rfl rfl i24 (lk rfl) rfl _ rfl,
    trivial⟩ [(4, .ptr 4 0), (5, .ptr 5 0), (6, .ptr 6 0), (7, .ptr 7 0), (8, .ptr 8 0), (9, .ptr 9 0), (10, .ptr 10 0), (11, .ptr 11 0)] [(4, nz ++ nz ++ nz), (5, fc (v1)), (6, fc (v2)), (7, fc (v3)), (8, fc (v4)), (9, fc (v5)), (10, fc (v6)), (11, fc (v9))] ⟨rfl, rfl, rfl, rfl, rfl, rfl, rfl, rfl, trivial⟩ ⟨rfl, rfl, rfl, rfl, rfl, rfl, rfl, rfl, trivial⟩ rfl (fun a w h => ?_)
  refine go_region h hm [eS 64 (.val (.agg (fc (v2)).toArray)), eS 65 (.val (.agg (fc (v9)).toArray)), eS 66 (.val (.agg (fc (v10)).toArray)), eS 67 (.val (.agg (fc (v2)).toArray)), eS 68 (.val (.agg (fc (v9)).toArray)), eS 69 (.val (.agg (fc (v11)).toArray)), eN 12 (nz), eN 13 (nz), eM 12 (fc (v10)), eM 13 (fc (v11))] (by kernel_rfl) ⟨
    fun L u => u_load u (gd0 rfl) 64 rfl 24 (.tmp 6) rfl rfl rfl Tryd.underlying24 rfl i24 (lk rfl) _ rfl,
    fun L u => u_load u (gd0 rfl) 65 rfl 24 (.tmp 11) rfl rfl rfl Tryd.underlying24 rfl i24 (lk rfl) _ rfl,
    fun L u => u_call u (gd0 rfl) 66 rfl 57 #[(.tmp 64), (.tmp 65)] #[24, 24] rfl [.agg (fc (v2)).toArray, .agg (fc (v9)).toArray] rfl (cE57 _) (.agg (fc (v10)).toArray) (fun w hb => by have g := q_add (hT.keep (Bs.kp_of hb)) v2 v9; rw [← ev10] at g; exact g),
    fun L u => u_load u (gd0 rfl) 67 rfl 24 (.tmp 6) rfl rfl rfl Tryd.underlying24 rfl i24 (lk rfl) _ rfl,
    fun L u => u_load u (gd0 rfl) 68 rfl 24 (.tmp 11) rfl rfl rfl Tryd.underlying24 rfl i24 (lk rfl) _ rfl,
    fun L u => u_call u (gd0 rfl) 69 rfl 58 #[(.tmp 67), (.tmp 68)] #[24, 24] rfl [.agg (fc (v2)).toArray, .agg (fc (v9)).toArray] rfl (cE58 _) (.agg (fc (v11)).toArray) (fun w hb => by have g := q_sub (hT.keep (Bs.kp_of hb)) v2 v9; rw [← ev11] at g; exact g),
    fun L u => u_alloc u (gd0 rfl) 24 rfl 12 rfl rfl z24 _ rfl,
    fun L u => u_alloc u (gd0 rfl) 24 rfl 13 rfl rfl z24 _ rfl,
    fun L u => u_store u (gd0 rfl) 24 (.tmp 12) (.tmp 66) rfl rfl rfl (vs := fc (v10)) rfl rfl i24 (lk rfl) rfl _ rfl,
    fun L u => u_store u (gd0 rfl) 24 (.tmp 13) (.tmp 69) rfl rfl rfl (vs := fc (v11)) rfl rfl i24 (lk rfl) rfl _ rfl,
    trivial⟩ [(4, .ptr 4 0), (5, .ptr 5 0), (7, .ptr 7 0), (8, .ptr 8 0), (9, .ptr 9 0), (10, .ptr 10 0), (12, .ptr 12 0), (13, .ptr 13 0)] [(4, nz ++ nz ++ nz), (5, fc (v1)), (7, fc (v3)), (8, fc (v4)), (9, fc (v5)), (10, fc (v6)), (12, fc (v10)), (13, fc (v11))] ⟨rfl, rfl, rfl, rfl, rfl, rfl, rfl, rfl, trivial⟩ ⟨rfl, rfl, rfl, rfl, rfl, rfl, rfl, rfl, trivial⟩ rfl (fun a w h => ?_)
  refine go_region h hm [eS 70 (.val (.agg (fc (v1)).toArray)), eS 71 (.val (.agg (fc (v3)).toArray)), eS 72 (.val (.agg (fc (v12)).toArray)), eS 73 (.val (.agg (fc (v13)).toArray)), eN 14 (nz), eM 14 (fc (v13))] (by kernel_rfl) ⟨
    fun L u => u_load u (gd0 rfl) 70 rfl 24 (.tmp 5) rfl rfl rfl Tryd.underlying24 rfl i24 (lk rfl) _ rfl,
    fun L u => u_load u (gd0 rfl) 71 rfl 24 (.tmp 7) rfl rfl rfl Tryd.underlying24 rfl i24 (lk rfl) _ rfl,
    fun L u => u_call u (gd0 rfl) 72 rfl 58 #[(.tmp 70), (.tmp 71)] #[24, 24] rfl [.agg (fc (v1)).toArray, .agg (fc (v3)).toArray] rfl (cE58 _) (.agg (fc (v12)).toArray) (fun w hb => by have g := q_sub (hT.keep (Bs.kp_of hb)) v1 v3; rw [← ev12] at g; exact g),
    fun L u => u_call u (gd0 rfl) 73 rfl 59 #[(.tmp 72)] #[24] rfl [.agg (fc (v12)).toArray] rfl (cE59 _) (.agg (fc (v13)).toArray) (fun w hb => by have g := q_triple (hT.keep (Bs.kp_of hb)) v12; rw [← ev13] at g; exact g),
    fun L u => u_alloc u (gd0 rfl) 24 rfl 14 rfl rfl z24 _ rfl,
    fun L u => u_store u (gd0 rfl) 24 (.tmp 14) (.tmp 73) rfl rfl rfl (vs := fc (v13)) rfl rfl i24 (lk rfl) rfl _ rfl,
    trivial⟩ [(4, .ptr 4 0), (5, .ptr 5 0), (7, .ptr 7 0), (8, .ptr 8 0), (9, .ptr 9 0), (10, .ptr 10 0), (12, .ptr 12 0), (13, .ptr 13 0), (14, .ptr 14 0)] [(4, nz ++ nz ++ nz), (5, fc (v1)), (7, fc (v3)), (8, fc (v4)), (9, fc (v5)), (10, fc (v6)), (12, fc (v10)), (13, fc (v11)), (14, fc (v13))] ⟨rfl, rfl, rfl, rfl, rfl, rfl, rfl, rfl, rfl, trivial⟩ ⟨rfl, rfl, rfl, rfl, rfl, rfl, rfl, rfl, rfl, trivial⟩ rfl (fun a w h => ?_)
  refine go_region h hm [eS 74 (.val (.agg (fc (wb)).toArray)), eS 75 (.val (.agg (fc (v5)).toArray)), eS 76 (.val (.agg (fc (v14)).toArray)), eS 77 (.val (.agg (fc (v3)).toArray)), eS 78 (.val (.agg (fc (v15)).toArray)), eS 79 (.val (.agg (fc (v16)).toArray)), eS 80 (.val (.agg (fc (v1)).toArray)), eS 81 (.val (.agg (fc (v17)).toArray)), eS 82 (.val (.agg (fc (v18)).toArray)), eN 15 (nz), eM 15 (fc (v18))] (by kernel_rfl) ⟨
    fun L u => u_loadXR u (gd0 rfl) 74 rfl 24 (.global 0) rfl rfl Tryd.underlying24 rfl (fc (wb)) i24 rfl (hT.wb) rfl,
    fun L u => u_load u (gd0 rfl) 75 rfl 24 (.tmp 9) rfl rfl rfl Tryd.underlying24 rfl i24 (lk rfl) _ rfl,
    fun L u => u_call u (gd0 rfl) 76 rfl 30 #[(.tmp 74), (.tmp 75)] #[24, 24] rfl [.agg (fc (wb)).toArray, .agg (fc (v5)).toArray] rfl (cE30 _) (.agg (fc (v14)).toArray) (fun w hb => by have g := q_mul (hT.keep (Bs.kp_of hb)) wb v5; rw [← ev14] at g; exact g),
    fun L u => u_load u (gd0 rfl) 77 rfl 24 (.tmp 7) rfl rfl rfl Tryd.underlying24 rfl i24 (lk rfl) _ rfl,
    fun L u => u_call u (gd0 rfl) 78 rfl 59 #[(.tmp 77)] #[24] rfl [.agg (fc (v3)).toArray] rfl (cE59 _) (.agg (fc (v15)).toArray) (fun w hb => by have g := q_triple (hT.keep (Bs.kp_of hb)) v3; rw [← ev15] at g; exact g),
    fun L u => u_call u (gd0 rfl) 79 rfl 58 #[(.tmp 76), (.tmp 78)] #[24, 24] rfl [.agg (fc (v14)).toArray, .agg (fc (v15)).toArray] rfl (cE58 _) (.agg (fc (v16)).toArray) (fun w hb => by have g := q_sub (hT.keep (Bs.kp_of hb)) v14 v15; rw [← ev16] at g; exact g),
    fun L u => u_load u (gd0 rfl) 80 rfl 24 (.tmp 5) rfl rfl rfl Tryd.underlying24 rfl i24 (lk rfl) _ rfl,
    fun L u => u_call u (gd0 rfl) 81 rfl 58 #[(.tmp 79), (.tmp 80)] #[24, 24] rfl [.agg (fc (v16)).toArray, .agg (fc (v1)).toArray] rfl (cE58 _) (.agg (fc (v17)).toArray) (fun w hb => by have g := q_sub (hT.keep (Bs.kp_of hb)) v16 v1; rw [← ev17] at g; exact g),
    fun L u => u_call u (gd0 rfl) 82 rfl 59 #[(.tmp 81)] #[24] rfl [.agg (fc (v17)).toArray] rfl (cE59 _) (.agg (fc (v18)).toArray) (fun w hb => by have g := q_triple (hT.keep (Bs.kp_of hb)) v17; rw [← ev18] at g; exact g),
    fun L u => u_alloc u (gd0 rfl) 24 rfl 15 rfl rfl z24 _ rfl,
    fun L u => u_store u (gd0 rfl) 24 (.tmp 15) (.tmp 82) rfl rfl rfl (vs := fc (v18)) rfl rfl i24 (lk rfl) rfl _ rfl,
    trivial⟩ [(4, .ptr 4 0), (8, .ptr 8 0), (10, .ptr 10 0), (12, .ptr 12 0), (13, .ptr 13 0), (14, .ptr 14 0), (15, .ptr 15 0)] [(4, nz ++ nz ++ nz), (8, fc (v4)), (10, fc (v6)), (12, fc (v10)), (13, fc (v11)), (14, fc (v13)), (15, fc (v18))] ⟨rfl, rfl, rfl, rfl, rfl, rfl, rfl, trivial⟩ ⟨rfl, rfl, rfl, rfl, rfl, rfl, rfl, trivial⟩ rfl (fun a w h => ?_)
  refine go_region h hm [eS 83 (.val (.agg (fc (v4)).toArray)), eS 84 (.val (.agg (fc (v10)).toArray)), eS 85 (.val (.agg (fc (v19)).toArray)), eS 86 (.val (.agg (fc (v6)).toArray)), eS 87 (.val (.agg (fc (v18)).toArray)), eS 88 (.val (.agg (fc (v20)).toArray)), eS 89 (.val (.agg (fc (v21)).toArray)), eS 90 (.val (.agg (fc (v10)).toArray)), eS 91 (.val (.agg (fc (v11)).toArray)), eS 92 (.val (.agg (fc (v13)).toArray)), eS 93 (.val (.agg (fc (v18)).toArray)), eS 94 (.val (.agg (fc (v22)).toArray)), eS 95 (.val (.agg (fc (v6)).toArray)), eS 96 (.val (.agg (fc (v11)).toArray)), eS 97 (.val (.agg (fc (v4)).toArray)), eS 98 (.val (.agg (fc (v13)).toArray)), eS 99 (.val (.agg (fc (v23)).toArray)), eS 100 (.val (.agg (fc (v21) ++ fc (v22) ++ fc (v23)).toArray)), eM 4 (fc (v21) ++ fc (v22) ++ fc (v23))] (by kernel_rfl) ⟨
    fun L u => u_load u (gd0 rfl) 83 rfl 24 (.tmp 8) rfl rfl rfl Tryd.underlying24 rfl i24 (lk rfl) _ rfl,
    fun L u => u_load u (gd0 rfl) 84 rfl 24 (.tmp 12) rfl rfl rfl Tryd.underlying24 rfl i24 (lk rfl) _ rfl,
    fun L u => u_call u (gd0 rfl) 85 rfl 30 #[(.tmp 83), (.tmp 84)] #[24, 24] rfl [.agg (fc (v4)).toArray, .agg (fc (v10)).toArray] rfl (cE30 _) (.agg (fc (v19)).toArray) (fun w hb => by have g := q_mul (hT.keep (Bs.kp_of hb)) v4 v10; rw [← ev19] at g; exact g),
    fun L u => u_load u (gd0 rfl) 86 rfl 24 (.tmp 10) rfl rfl rfl Tryd.underlying24 rfl i24 (lk rfl) _ rfl,
    fun L u => u_load u (gd0 rfl) 87 rfl 24 (.tmp 15) rfl rfl rfl Tryd.underlying24 rfl i24 (lk rfl) _ rfl,
    fun L u => u_call u (gd0 rfl) 88 rfl 30 #[(.tmp 86), (.tmp 87)] #[24, 24] rfl [.agg (fc (v6)).toArray, .agg (fc (v18)).toArray] rfl (cE30 _) (.agg (fc (v20)).toArray) (fun w hb => by have g := q_mul (hT.keep (Bs.kp_of hb)) v6 v18; rw [← ev20] at g; exact g),
    fun L u => u_call u (gd0 rfl) 89 rfl 58 #[(.tmp 85), (.tmp 88)] #[24, 24] rfl [.agg (fc (v19)).toArray, .agg (fc (v20)).toArray] rfl (cE58 _) (.agg (fc (v21)).toArray) (fun w hb => by have g := q_sub (hT.keep (Bs.kp_of hb)) v19 v20; rw [← ev21] at g; exact g),
    fun L u => u_load u (gd0 rfl) 90 rfl 24 (.tmp 12) rfl rfl rfl Tryd.underlying24 rfl i24 (lk rfl) _ rfl,
    fun L u => u_load u (gd0 rfl) 91 rfl 24 (.tmp 13) rfl rfl rfl Tryd.underlying24 rfl i24 (lk rfl) _ rfl,
    fun L u => u_load u (gd0 rfl) 92 rfl 24 (.tmp 14) rfl rfl rfl Tryd.underlying24 rfl i24 (lk rfl) _ rfl,
    fun L u => u_load u (gd0 rfl) 93 rfl 24 (.tmp 15) rfl rfl rfl Tryd.underlying24 rfl i24 (lk rfl) _ rfl,
    fun L u => u_call u (gd0 rfl) 94 rfl 63 #[(.tmp 90), (.tmp 91), (.tmp 92), (.tmp 93)] #[24, 24, 24, 24] rfl [.agg (fc (v10)).toArray, .agg (fc (v11)).toArray, .agg (fc (v13)).toArray, .agg (fc (v18)).toArray] rfl (cE63 _) (.agg (fc (v22)).toArray) (fun w hb => by have g := q_cross (hT.keep (Bs.kp_of hb)) v10 v11 v13 v18; rw [← ev22] at g; exact g),
    fun L u => u_load u (gd0 rfl) 95 rfl 24 (.tmp 10) rfl rfl rfl Tryd.underlying24 rfl i24 (lk rfl) _ rfl,
    fun L u => u_load u (gd0 rfl) 96 rfl 24 (.tmp 13) rfl rfl rfl Tryd.underlying24 rfl i24 (lk rfl) _ rfl,
    fun L u => u_load u (gd0 rfl) 97 rfl 24 (.tmp 8) rfl rfl rfl Tryd.underlying24 rfl i24 (lk rfl) _ rfl,
    fun L u => u_load u (gd0 rfl) 98 rfl 24 (.tmp 14) rfl rfl rfl Tryd.underlying24 rfl i24 (lk rfl) _ rfl,
    fun L u => u_call u (gd0 rfl) 99 rfl 63 #[(.tmp 95), (.tmp 96), (.tmp 97), (.tmp 98)] #[24, 24, 24, 24] rfl [.agg (fc (v6)).toArray, .agg (fc (v11)).toArray, .agg (fc (v4)).toArray, .agg (fc (v13)).toArray] rfl (cE63 _) (.agg (fc (v23)).toArray) (fun w hb => by have g := q_cross (hT.keep (Bs.kp_of hb)) v6 v11 v4 v13; rw [← ev23] at g; exact g),
    fun L u => u_build u (gd0 rfl) 100 rfl 55 #[(0, (.tmp 89)), (1, (.tmp 94)), (2, (.tmp 99))] rfl [(0, .agg (fc (v21)).toArray), (1, .agg (fc (v22)).toArray), (2, .agg (fc (v23)).toArray)] rfl (fc (v21) ++ fc (v22) ++ fc (v23)) (bQ3 _ _ _),
    fun L u => u_store u (gd0 rfl) 55 (.tmp 4) (.tmp 100) rfl rfl rfl (vs := fc (v21) ++ fc (v22) ++ fc (v23)) rfl rfl i55 (lk rfl) rfl _ rfl,
    trivial⟩ [(4, .ptr 4 0)] [(4, fc (v21) ++ fc (v22) ++ fc (v23))] ⟨rfl, trivial⟩ ⟨rfl, trivial⟩ rfl (fun a w h => ?_)
  refine wp_ret ?_
  refine ret_row h 4 55 rfl (lk rfl) 4 rfl (fc (v21) ++ fc (v22) ++ fc (v23)) rfl _ Tryd.underlying55 rfl i55 ?_
  exact ⟨by rw [← hpp]; rfl, h.grows⟩
end Go.Proofs.YtimaaendbfjblaaDoor
