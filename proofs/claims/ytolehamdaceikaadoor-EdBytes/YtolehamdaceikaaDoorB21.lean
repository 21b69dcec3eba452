/- What the program's own functions of layer 9 answer. -/
import Derived.Test.YtolehamdaceikaaDoorB20
namespace Go.Proofs.YtolehamdaceikaaDoor
open Go.RowKit

theorem i54 : (Tryd.prog.info? 54).map (·.size) = some 16 := by kernel_rfl
theorem z54 : (Tryd.prog.info? 54).map (·.zero) = some (some (.agg (nz ++ nz ++ nz ++ nz).toArray)) := by kernel_rfl
theorem g_bN1 : Tryd.prog.built 24 [(0, .int .u64 1)] = some (gc 1).toArray := by kernel_rfl
theorem g_bN1x {one : Fin m2} (h : one = 1) : Tryd.prog.built 24 [(0, .int .u64 1)] = some (gc one).toArray := by rw [h]; exact g_bN1
theorem g_bX (x y z t : Fin m2) : Tryd.prog.built 54 [(0, .agg (gc x).toArray), (1, .agg (gc y).toArray), (2, .agg (gc z).toArray), (3, .agg (gc t).toArray)] = some (gc x ++ gc y ++ gc z ++ gc t).toArray := by kernel_rfl
/-- Four numbers as they lie in memory. -/
def xc (p : X4) : List Value := gc p.x ++ gc p.y ++ gc p.z ++ gc p.t
theorem cE31 (vs : List Value) : ∀ w, (callFunc 31 vs.toArray).run Tryd.prog w = .ok (.enter 31 vs.toArray) w := callFunc_enter Tryd.func31 (by kernel_rfl) (by kernel_rfl) _
theorem cE30 (vs : List Value) : ∀ w, (callFunc 30 vs.toArray).run Tryd.prog w = .ok (.enter 30 vs.toArray) w := callFunc_enter Tryd.func30 (by kernel_rfl) (by kernel_rfl) _
theorem cE29 (vs : List Value) : ∀ w, (callFunc 29 vs.toArray).run Tryd.prog w = .ok (.enter 29 vs.toArray) w := callFunc_enter Tryd.func29 (by kernel_rfl) (by kernel_rfl) _
theorem cE32 (vs : List Value) : ∀ w, (callFunc 32 vs.toArray).run Tryd.prog w = .ok (.enter 32 vs.toArray) w := callFunc_enter Tryd.func32 (by kernel_rfl) (by kernel_rfl) _
theorem cE55 (vs : List Value) : ∀ w, (callFunc 55 vs.toArray).run Tryd.prog w = .ok (.enter 55 vs.toArray) w := callFunc_enter Tryd.func55 (by kernel_rfl) (by kernel_rfl) _
theorem cE51 (vs : List Value) : ∀ w, (callFunc 51 vs.toArray).run Tryd.prog w = .ok (.enter 51 vs.toArray) w := callFunc_enter Tryd.func51 (by kernel_rfl) (by kernel_rfl) _
theorem cE41 (vs : List Value) : ∀ w, (callFunc 41 vs.toArray).run Tryd.prog w = .ok (.enter 41 vs.toArray) w := callFunc_enter Tryd.func41 (by kernel_rfl) (by kernel_rfl) _
theorem cE39 (vs : List Value) : ∀ w, (callFunc 39 vs.toArray).run Tryd.prog w = .ok (.enter 39 vs.toArray) w := callFunc_enter Tryd.func39 (by kernel_rfl) (by kernel_rfl) _
theorem cE40 (vs : List Value) : ∀ w, (callFunc 40 vs.toArray).run Tryd.prog w = .ok (.enter 40 vs.toArray) w := callFunc_enter Tryd.func40 (by kernel_rfl) (by kernel_rfl) _
theorem cE45 (vs : List Value) : ∀ w, (callFunc 45 vs.toArray).run Tryd.prog w = .ok (.enter 45 vs.toArray) w := callFunc_enter Tryd.func45 (by kernel_rfl) (by kernel_rfl) _
theorem cE16 (vs : List Value) : ∀ w, (callFunc 16 vs.toArray).run Tryd.prog w = .ok (.enter 16 vs.toArray) w := callFunc_enter Tryd.func16 (by kernel_rfl) (by kernel_rfl) _
theorem cE10 (vs : List Value) : ∀ w, (callFunc 10 vs.toArray).run Tryd.prog w = .ok (.enter 10 vs.toArray) w := callFunc_enter Tryd.func10 (by kernel_rfl) (by kernel_rfl) _
theorem cE12 (vs : List Value) : ∀ w, (callFunc 12 vs.toArray).run Tryd.prog w = .ok (.enter 12 vs.toArray) w := callFunc_enter Tryd.func12 (by kernel_rfl) (by kernel_rfl) _
theorem cE14 (vs : List Value) : ∀ w, (callFunc 14 vs.toArray).run Tryd.prog w = .ok (.enter 14 vs.toArray) w := callFunc_enter Tryd.func14 (by kernel_rfl) (by kernel_rfl) _
theorem cE17 (vs : List Value) : ∀ w, (callFunc 17 vs.toArray).run Tryd.prog w = .ok (.enter 17 vs.toArray) w := callFunc_enter Tryd.func17 (by kernel_rfl) (by kernel_rfl) _
theorem cE28 (vs : List Value) : ∀ w, (callFunc 28 vs.toArray).run Tryd.prog w = .ok (.enter 28 vs.toArray) w := callFunc_enter Tryd.func28 (by kernel_rfl) (by kernel_rfl) _
theorem cE52 (vs : List Value) : ∀ w, (callFunc 52 vs.toArray).run Tryd.prog w = .ok (.enter 52 vs.toArray) w := callFunc_enter Tryd.func52 (by kernel_rfl) (by kernel_rfl) _
set_option maxRecDepth 100000 in
set_option maxHeartbeats 4000000 in
theorem e_add {w : World} (hT : Tab w) (x y : Fin m2) : Calls Tryd.prog 31 [.agg (gc (x)).toArray, .agg (gc (y)).toArray].toArray w fun e w' => e = .returned (.agg (gc (x + y)).toArray) ∧ Below w.heap.size w w' := by
  refine enter (args := [.agg (gc (x)).toArray, .agg (gc (y)).toArray]) Tryd.func31 rfl 8 rfl (lk rfl) (fun a h => ?_)
  refine go_region h hm [eN 2 (gc (x)), eN 3 (gc (y)), eN 4 (nz)] (by kernel_rfl) ⟨
    fun L u => u_box u (gd0 rfl) 24 (.tmp 0) rfl 2 rfl rfl rfl _ rfl,
    fun L u => u_box u (gd0 rfl) 24 (.tmp 1) rfl 3 rfl rfl rfl _ rfl,
    fun L u => u_alloc u (gd0 rfl) 24 rfl 4 rfl rfl z24 _ rfl,
    trivial⟩ [(2, .ptr 2 0), (3, .ptr 3 0), (4, .ptr 4 0)] [(2, gc (x)), (3, gc (y)), (4, nz)] ⟨rfl, rfl, rfl, trivial⟩ ⟨rfl, rfl, rfl, trivial⟩ rfl (fun a w h => ?_)
  refine go_region h hm [eS 5 (.val (.agg (gc (x)).toArray)), eS 6 (.val (.agg (gc (y)).toArray)), eS 7 (.val (.agg (gc ((x) + (y))).toArray)), eM 4 (gc ((x) + (y)))] (by kernel_rfl) ⟨
    fun L u => u_load u (gd0 rfl) 5 rfl 24 (.tmp 2) rfl rfl rfl Tryd.underlying24 rfl i24 (lk rfl) _ rfl,
    fun L u => u_load u (gd0 rfl) 6 rfl 24 (.tmp 3) rfl rfl rfl Tryd.underlying24 rfl i24 (lk rfl) _ rfl,
    fun L u => u_call u (gd0 rfl) 7 rfl 67 #[(.const (.int .i64 2)), (.tmp 5), (.tmp 6)] #[3, 24, 24] rfl [(Value.int IntKind.i64 2), .agg (gc (x)).toArray, .agg (gc (y)).toArray] rfl (cE67 _) (.agg (gc ((x) + (y))).toArray) (fun w hb => d_add (hT.keep (Bs.kp_of hb)) _ _),
    fun L u => u_store u (gd0 rfl) 24 (.tmp 4) (.tmp 7) rfl rfl rfl (vs := gc ((x) + (y))) rfl rfl i24 (lk rfl) rfl _ rfl,
    trivial⟩ [(4, .ptr 4 0)] [(4, gc ((x) + (y)))] ⟨rfl, trivial⟩ ⟨rfl, trivial⟩ rfl (fun a w h => ?_)
  refine wp_ret ?_
  refine ret_row h 4 24 rfl (lk rfl) 4 rfl (gc ((x) + (y))) rfl _ Tryd.underlying24 rfl i24 ?_
  exact ⟨rfl, h.grows⟩
set_option maxRecDepth 100000 in
set_option maxHeartbeats 4000000 in
theorem e_sub {w : World} (hT : Tab w) (x y : Fin m2) : Calls Tryd.prog 30 [.agg (gc (x)).toArray, .agg (gc (y)).toArray].toArray w fun e w' => e = .returned (.agg (gc (x - y)).toArray) ∧ Below w.heap.size w w' := by
  refine enter (args := [.agg (gc (x)).toArray, .agg (gc (y)).toArray]) Tryd.func30 rfl 8 rfl (lk rfl) (fun a h => ?_)
  refine go_region h hm [eN 2 (gc (x)), eN 3 (gc (y)), eN 4 (nz)] (by kernel_rfl) ⟨
    fun L u => u_box u (gd0 rfl) 24 (.tmp 0) rfl 2 rfl rfl rfl _ rfl,
    fun L u => u_box u (gd0 rfl) 24 (.tmp 1) rfl 3 rfl rfl rfl _ rfl,
    fun L u => u_alloc u (gd0 rfl) 24 rfl 4 rfl rfl z24 _ rfl,
    trivial⟩ [(2, .ptr 2 0), (3, .ptr 3 0), (4, .ptr 4 0)] [(2, gc (x)), (3, gc (y)), (4, nz)] ⟨rfl, rfl, rfl, trivial⟩ ⟨rfl, rfl, rfl, trivial⟩ rfl (fun a w h => ?_)
  refine go_region h hm [eS 5 (.val (.agg (gc (x)).toArray)), eS 6 (.val (.agg (gc (y)).toArray)), eS 7 (.val (.agg (gc ((x) - (y))).toArray)), eM 4 (gc ((x) - (y)))] (by kernel_rfl) ⟨
    fun L u => u_load u (gd0 rfl) 5 rfl 24 (.tmp 2) rfl rfl rfl Tryd.underlying24 rfl i24 (lk rfl) _ rfl,
    fun L u => u_load u (gd0 rfl) 6 rfl 24 (.tmp 3) rfl rfl rfl Tryd.underlying24 rfl i24 (lk rfl) _ rfl,
    fun L u => u_call u (gd0 rfl) 7 rfl 66 #[(.const (.int .i64 2)), (.tmp 5), (.tmp 6)] #[3, 24, 24] rfl [(Value.int IntKind.i64 2), .agg (gc (x)).toArray, .agg (gc (y)).toArray] rfl (cE66 _) (.agg (gc ((x) - (y))).toArray) (fun w hb => d_sub (hT.keep (Bs.kp_of hb)) _ _),
    fun L u => u_store u (gd0 rfl) 24 (.tmp 4) (.tmp 7) rfl rfl rfl (vs := gc ((x) - (y))) rfl rfl i24 (lk rfl) rfl _ rfl,
    trivial⟩ [(4, .ptr 4 0)] [(4, gc ((x) - (y)))] ⟨rfl, trivial⟩ ⟨rfl, trivial⟩ rfl (fun a w h => ?_)
  refine wp_ret ?_
  refine ret_row h 4 24 rfl (lk rfl) 4 rfl (gc ((x) - (y))) rfl _ Tryd.underlying24 rfl i24 ?_
  exact ⟨rfl, h.grows⟩
set_option maxRecDepth 100000 in
set_option maxHeartbeats 4000000 in
theorem e_mul {w : World} (hT : Tab w) (x y : Fin m2) : Calls Tryd.prog 29 [.agg (gc (x)).toArray, .agg (gc (y)).toArray].toArray w fun e w' => e = .returned (.agg (gc (x * y)).toArray) ∧ Below w.heap.size w w' := by
  refine enter (args := [.agg (gc (x)).toArray, .agg (gc (y)).toArray]) Tryd.func29 rfl 8 rfl (lk rfl) (fun a h => ?_)
  refine go_region h hm [eN 2 (gc (x)), eN 3 (gc (y)), eN 4 (nz)] (by kernel_rfl) ⟨
    fun L u => u_box u (gd0 rfl) 24 (.tmp 0) rfl 2 rfl rfl rfl _ rfl,
    fun L u => u_box u (gd0 rfl) 24 (.tmp 1) rfl 3 rfl rfl rfl _ rfl,
    fun L u => u_alloc u (gd0 rfl) 24 rfl 4 rfl rfl z24 _ rfl,
    trivial⟩ [(2, .ptr 2 0), (3, .ptr 3 0), (4, .ptr 4 0)] [(2, gc (x)), (3, gc (y)), (4, nz)] ⟨rfl, rfl, rfl, trivial⟩ ⟨rfl, rfl, rfl, trivial⟩ rfl (fun a w h => ?_)
  refine go_region h hm [eS 5 (.val (.agg (gc (x)).toArray)), eS 6 (.val (.agg (gc (y)).toArray)), eS 7 (.val (.agg (gc ((x) * (y))).toArray)), eM 4 (gc ((x) * (y)))] (by kernel_rfl) ⟨
    fun L u => u_load u (gd0 rfl) 5 rfl 24 (.tmp 2) rfl rfl rfl Tryd.underlying24 rfl i24 (lk rfl) _ rfl,
    fun L u => u_load u (gd0 rfl) 6 rfl 24 (.tmp 3) rfl rfl rfl Tryd.underlying24 rfl i24 (lk rfl) _ rfl,
    fun L u => u_call u (gd0 rfl) 7 rfl 65 #[(.const (.int .i64 2)), (.tmp 5), (.tmp 6)] #[3, 24, 24] rfl [(Value.int IntKind.i64 2), .agg (gc (x)).toArray, .agg (gc (y)).toArray] rfl (cE65 _) (.agg (gc ((x) * (y))).toArray) (fun w hb => d_mul (hT.keep (Bs.kp_of hb)) _ _),
    fun L u => u_store u (gd0 rfl) 24 (.tmp 4) (.tmp 7) rfl rfl rfl (vs := gc ((x) * (y))) rfl rfl i24 (lk rfl) rfl _ rfl,
    trivial⟩ [(4, .ptr 4 0)] [(4, gc ((x) * (y)))] ⟨rfl, trivial⟩ ⟨rfl, trivial⟩ rfl (fun a w h => ?_)
  refine wp_ret ?_
  refine ret_row h 4 24 rfl (lk rfl) 4 rfl (gc ((x) * (y))) rfl _ Tryd.underlying24 rfl i24 ?_
  exact ⟨rfl, h.grows⟩
theorem Tab.ed {w : World} (h : Tab w) : w.rangeAt 0 0 (gc ed) := by
  rw [gc_ed]
  intro j v hj
  match j, hj with
  | 0, hj => cases hj; exact h.ccurveD0
  | 1, hj => cases hj; exact h.ccurveD1
  | 2, hj => cases hj; exact h.ccurveD2
  | 3, hj => cases hj; exact h.ccurveD3
  | j + 4, hj => cases hj
set_option maxRecDepth 100000 in
set_option maxHeartbeats 4000000 in
theorem e_one {w : World} {one : Fin m2} (hone : one = 1) : Calls Tryd.prog 32 [].toArray w fun e w' => e = .returned (.agg (gc one).toArray) ∧ Below w.heap.size w w' := by
  refine enter (args := []) Tryd.func32 rfl 2 rfl (lk rfl) (fun a h => ?_)
  refine go_region h hm [eN 0 (nz)] (by kernel_rfl) ⟨
    fun L u => u_alloc u (gd0 rfl) 24 rfl 0 rfl rfl z24 _ rfl,
    trivial⟩ [(0, .ptr 0 0)] [(0, nz)] ⟨rfl, trivial⟩ ⟨rfl, trivial⟩ rfl (fun a w h => ?_)
  refine go_region h hm [eS 1 (.val (.agg (gc (one)).toArray)), eM 0 (gc (one))] (by kernel_rfl) ⟨
    fun L u => u_build u (gd0 rfl) 1 rfl 24 #[(0, (.const (.int .u64 1)))] rfl [(0, (Value.int IntKind.u64 1))] rfl (gc (one)) (g_bN1x hone),
    fun L u => u_store u (gd0 rfl) 24 (.tmp 0) (.tmp 1) rfl rfl rfl (vs := gc (one)) rfl rfl i24 (lk rfl) rfl _ rfl,
    trivial⟩ [(0, .ptr 0 0)] [(0, gc (one))] ⟨rfl, trivial⟩ ⟨rfl, trivial⟩ rfl (fun a w h => ?_)
  refine wp_ret ?_
  refine ret_row h 0 24 rfl (lk rfl) 0 rfl (gc (one)) rfl _ Tryd.underlying24 rfl i24 ?_
  exact ⟨rfl, h.grows⟩
theorem o_cells : pcE (Ep.o m2) = gc 0 ++ gc 1 ++ [Value.bool false] := rfl
set_option maxRecDepth 100000 in
set_option maxHeartbeats 4000000 in
theorem e_neutral {w : World}  : Calls Tryd.prog 51 [].toArray w fun e w' => e = .returned (.agg (pcE (Ep.o m2)).toArray) ∧ Below w.heap.size w w' := by
  obtain ⟨one, hone⟩ : ∃ z : Fin m2, z = 1 := ⟨_, rfl⟩
  refine enter (args := []) Tryd.func51 rfl 3 rfl (lk rfl) (fun a h => ?_)
  refine go_region h hm [eN 0 (nz ++ nz ++ [Value.bool false])] (by kernel_rfl) ⟨
    fun L u => u_alloc u (gd0 rfl) 26 rfl 0 rfl rfl z26 _ rfl,
    trivial⟩ [(0, .ptr 0 0)] [(0, nz ++ nz ++ [Value.bool false])] ⟨rfl, trivial⟩ ⟨rfl, trivial⟩ rfl (fun a w h => ?_)
  refine go_region h hm [eS 1 (.val (.agg (gc (one)).toArray)), eS 2 (.val (.agg (nz ++ gc (one) ++ [Value.bool false]).toArray)), eM 0 (nz ++ gc (one) ++ [Value.bool false])] (by kernel_rfl) ⟨
    fun L u => u_call u (gd0 rfl) 1 rfl 32 #[] #[] rfl [] rfl (cE32 _) (.agg (gc (one)).toArray) (fun w hb => e_one hone),
    fun L u => u_build u (gd0 rfl) 2 rfl 26 #[(1, (.tmp 1))] rfl [(1, .agg (gc (one)).toArray)] rfl (nz ++ gc (one) ++ [Value.bool false]) (g_bY _),
    fun L u => u_store u (gd0 rfl) 26 (.tmp 0) (.tmp 2) rfl rfl rfl (vs := nz ++ gc (one) ++ [Value.bool false]) rfl rfl i26 (lk rfl) rfl _ rfl,
    trivial⟩ [(0, .ptr 0 0)] [(0, nz ++ gc (one) ++ [Value.bool false])] ⟨rfl, trivial⟩ ⟨rfl, trivial⟩ rfl (fun a w h => ?_)
  refine wp_ret ?_
  refine ret_row h 0 26 rfl (lk rfl) 0 rfl (nz ++ gc (one) ++ [Value.bool false]) rfl _ Tryd.underlying26 rfl i26 ?_
  exact ⟨by rw [o_cells, hone, nz_gc], h.grows⟩
theorem xplus_poly {p : Nat} [NeZero p] (d x1 y1 z1 t1 x2 y2 z2 t2 : Fin p) {v1 : Fin p} (ev1 : v1 = x1 * x2) {v2 : Fin p} (ev2 : v2 = y1 * y2) {v3 : Fin p} (ev3 : v3 = z1 * z2) {v4 : Fin p} (ev4 : v4 = t1 * t2) {v5 : Fin p} (ev5 : v5 = d * v4) {v6 : Fin p} (ev6 : v6 = x1 * y2) {v7 : Fin p} (ev7 : v7 = x2 * y1) {v8 : Fin p} (ev8 : v8 = v6 + v7) {v9 : Fin p} (ev9 : v9 = v2 + v1) {v10 : Fin p} (ev10 : v10 = v3 + v5) {v11 : Fin p} (ev11 : v11 = v3 - v5) {v12 : Fin p} (ev12 : v12 = v8 * v11) {v13 : Fin p} (ev13 : v13 = v9 * v10) {v14 : Fin p} (ev14 : v14 = v10 * v11) {v15 : Fin p} (ev15 : v15 = v8 * v9) : v12 = (x1 * y2 + x2 * y1) * (z1 * z2 - d * (t1 * t2)) ∧ v13 = (z1 * z2 + d * (t1 * t2)) * (y1 * y2 + x1 * x2) ∧ v14 = (z1 * z2 - d * (t1 * t2)) * (z1 * z2 + d * (t1 * t2)) ∧ v15 = (x1 * y2 + x2 * y1) * (y1 * y2 + x1 * x2) := by
  subst ev1 ev2 ev3 ev4 ev5 ev6 ev7 ev8 ev9 ev10 ev11 ev12 ev13 ev14 ev15
  refine ⟨?_, ?_, ?_, ?_⟩ <;> grobner
set_option maxRecDepth 100000 in
set_option maxHeartbeats 8000000 in
theorem e_plus {w : World} (hT : Tab w) (x1 y1 z1 t1 x2 y2 z2 t2 : Fin m2) : Calls Tryd.prog 40 [.agg (gc (x1) ++ gc (y1) ++ gc (z1) ++ gc (t1)).toArray, .agg (gc (x2) ++ gc (y2) ++ gc (z2) ++ gc (t2)).toArray].toArray w fun e w' => e = .returned (.agg (xc (xadd ⟨x1, y1, z1, t1⟩ ⟨x2, y2, z2, t2⟩)).toArray) ∧ Below w.heap.size w w' := by
  obtain ⟨v1, ev1⟩ : ∃ z : Fin m2, z = x1 * x2 := ⟨_, rfl⟩
  obtain ⟨v2, ev2⟩ : ∃ z : Fin m2, z = y1 * y2 := ⟨_, rfl⟩
  obtain ⟨v3, ev3⟩ : ∃ z : Fin m2, z = z1 * z2 := ⟨_, rfl⟩
  obtain ⟨v4, ev4⟩ : ∃ z : Fin m2, z = t1 * t2 := ⟨_, rfl⟩
  obtain ⟨v5, ev5⟩ : ∃ z : Fin m2, z = ed * v4 := ⟨_, rfl⟩
  obtain ⟨v6, ev6⟩ : ∃ z : Fin m2, z = x1 * y2 := ⟨_, rfl⟩
  obtain ⟨v7, ev7⟩ : ∃ z : Fin m2, z = x2 * y1 := ⟨_, rfl⟩
  obtain ⟨v8, ev8⟩ : ∃ z : Fin m2, z = v6 + v7 := ⟨_, rfl⟩
  obtain ⟨v9, ev9⟩ : ∃ z : Fin m2, z = v2 + v1 := ⟨_, rfl⟩
  obtain ⟨v10, ev10⟩ : ∃ z : Fin m2, z = v3 + v5 := ⟨_, rfl⟩
  obtain ⟨v11, ev11⟩ : ∃ z : Fin m2, z = v3 - v5 := ⟨_, rfl⟩
  obtain ⟨v12, ev12⟩ : ∃ z : Fin m2, z = v8 * v11 := ⟨_, rfl⟩
  obtain ⟨v13, ev13⟩ : ∃ z : Fin m2, z = v9 * v10 := ⟨_, rfl⟩
  obtain ⟨v14, ev14⟩ : ∃ z : Fin m2, z = v10 * v11 := ⟨_, rfl⟩
  obtain ⟨v15, ev15⟩ : ∃ z : Fin m2, z = v8 * v9 := ⟨_, rfl⟩
  have hpp := xplus_poly ed x1 y1 z1 t1 x2 y2 z2 t2 ev1 ev2 ev3 ev4 ev5 ev6 ev7 ev8 ev9 ev10 ev11 ev12 ev13 ev14 ev15
  refine enter (args := [.agg (gc (x1) ++ gc (y1) ++ gc (z1) ++ gc (t1)).toArray, .agg (gc (x2) ++ gc (y2) ++ gc (z2) ++ gc (t2)).toArray]) Tryd.func40 rfl 68 rfl (lk rfl) (fun a h => ?_)
  refine go_region h hm [eN 2 (gc (x1) ++ gc (y1) ++ gc (z1) ++ gc (t1)), eN 3 (gc (x2) ++ gc (y2) ++ gc (z2) ++ gc (t2)), eN 4 (nz ++ nz ++ nz ++ nz)] (by kernel_rfl) ⟨
    fun L u => u_box u (gd0 rfl) 54 (.tmp 0) rfl 2 rfl rfl rfl _ rfl,
    fun L u => u_box u (gd0 rfl) 54 (.tmp 1) rfl 3 rfl rfl rfl _ rfl,
    fun L u => u_alloc u (gd0 rfl) 54 rfl 4 rfl rfl z54 _ rfl,
    trivial⟩ [(2, .ptr 2 0), (3, .ptr 3 0), (4, .ptr 4 0)] [(2, gc (x1) ++ gc (y1) ++ gc (z1) ++ gc (t1)), (3, gc (x2) ++ gc (y2) ++ gc (z2) ++ gc (t2)), (4, nz ++ nz ++ nz ++ nz)] ⟨rfl, rfl, rfl, trivial⟩ ⟨rfl, rfl, rfl, trivial⟩ rfl (fun a w h => ?_)
  refine go_region h hm [eS 13 (.ptr 2 0), eS 14 (.val (.agg (gc (x1)).toArray)), eS 15 (.ptr 3 0), eS 16 (.val (.agg (gc (x2)).toArray)), eS 17 (.val (.agg (gc (v1)).toArray)), eS 18 (.ptr 2 4), eS 19 (.val (.agg (gc (y1)).toArray)), eS 20 (.ptr 3 4), eS 21 (.val (.agg (gc (y2)).toArray)), eS 22 (.val (.agg (gc (v2)).toArray)), eS 23 (.ptr 2 8), eS 24 (.val (.agg (gc (z1)).toArray)), eS 25 (.ptr 3 8), eS 26 (.val (.agg (gc (z2)).toArray)), eS 27 (.val (.agg (gc (v3)).toArray)), eN 5 (nz), eN 6 (nz), eN 7 (nz), eM 5 (gc (v1)), eM 6 (gc (v2)), eM 7 (gc (v3))] (by kernel_rfl) ⟨
    fun L u => u_field u (gd0 rfl) 13 rfl 54 (.tmp 2) 0 rfl rfl rfl Tryd.underlying54 rfl i24 _ rfl,
    fun L u => u_load u (gd0 rfl) 14 rfl 24 (.tmp 13) rfl rfl rfl Tryd.underlying24 rfl i24 (lk rfl) _ rfl,
    fun L u => u_field u (gd0 rfl) 15 rfl 54 (.tmp 3) 0 rfl rfl rfl Tryd.underlying54 rfl i24 _ rfl,
    fun L u => u_load u (gd0 rfl) 16 rfl 24 (.tmp 15) rfl rfl rfl Tryd.underlying24 rfl i24 (lk rfl) _ rfl,
    fun L u => u_call u (gd0 rfl) 17 rfl 29 #[(.tmp 14), (.tmp 16)] #[24, 24] rfl [.agg (gc (x1)).toArray, .agg (gc (x2)).toArray] rfl (cE29 _) (.agg (gc (v1)).toArray) (fun w hb => by have g := e_mul (hT.keep (Bs.kp_of hb)) x1 x2; rw [← ev1] at g; exact g),
    fun L u => u_field u (gd0 rfl) 18 rfl 54 (.tmp 2) 1 rfl rfl rfl Tryd.underlying54 rfl i24 _ rfl,
    fun L u => u_load u (gd0 rfl) 19 rfl 24 (.tmp 18) rfl rfl rfl Tryd.underlying24 rfl i24 (lk rfl) _ rfl,
    fun L u => u_field u (gd0 rfl) 20 rfl 54 (.tmp 3) 1 rfl rfl rfl Tryd.underlying54 rfl i24 _ rfl,
    fun L u => u_load u (gd0 rfl) 21 rfl 24 (.tmp 20) rfl rfl rfl Tryd.underlying24 rfl i24 (lk rfl) _ rfl,
    fun L u => u_call u (gd0 rfl) 22 rfl 29 #[(.tmp 19), (.tmp 21)] #[24, 24] rfl [.agg (gc (y1)).toArray, .agg (gc (y2)).toArray] rfl (cE29 _) (.agg (gc (v2)).toArray) (fun w hb => by have g := e_mul (hT.keep (Bs.kp_of hb)) y1 y2; rw [← ev2] at g; exact g),
    fun L u => u_field u (gd0 rfl) 23 rfl 54 (.tmp 2) 2 rfl rfl rfl Tryd.underlying54 rfl i24 _ rfl,
    fun L u => u_load u (gd0 rfl) 24 rfl 24 (.tmp 23) rfl rfl rfl Tryd.underlying24 rfl i24 (lk rfl) _ rfl,
    fun L u => u_field u (gd0 rfl) 25 rfl 54 (.tmp 3) 2 rfl rfl rfl Tryd.underlying54 rfl i24 _ rfl,
    fun L u => u_load u (gd0 rfl) 26 rfl 24 (.tmp 25) rfl rfl rfl Tryd.underlying24 rfl i24 (lk rfl) _ rfl,
    fun L u => u_call u (gd0 rfl) 27 rfl 29 #[(.tmp 24), (.tmp 26)] #[24, 24] rfl [.agg (gc (z1)).toArray, .agg (gc (z2)).toArray] rfl (cE29 _) (.agg (gc (v3)).toArray) (fun w hb => by have g := e_mul (hT.keep (Bs.kp_of hb)) z1 z2; rw [← ev3] at g; exact g),
    fun L u => u_alloc u (gd0 rfl) 24 rfl 5 rfl rfl z24 _ rfl,
    fun L u => u_alloc u (gd0 rfl) 24 rfl 6 rfl rfl z24 _ rfl,
    fun L u => u_alloc u (gd0 rfl) 24 rfl 7 rfl rfl z24 _ rfl,
    fun L u => u_store u (gd0 rfl) 24 (.tmp 5) (.tmp 17) rfl rfl rfl (vs := gc (v1)) rfl rfl i24 (lk rfl) rfl _ rfl,
    fun L u => u_store u (gd0 rfl) 24 (.tmp 6) (.tmp 22) rfl rfl rfl (vs := gc (v2)) rfl rfl i24 (lk rfl) rfl _ rfl,
    fun L u => u_store u (gd0 rfl) 24 (.tmp 7) (.tmp 27) rfl rfl rfl (vs := gc (v3)) rfl rfl i24 (lk rfl) rfl _ rfl,
    trivial⟩ [(2, .ptr 2 0), (3, .ptr 3 0), (4, .ptr 4 0), (5, .ptr 5 0), (6, .ptr 6 0), (7, .ptr 7 0)] [(2, gc (x1) ++ gc (y1) ++ gc (z1) ++ gc (t1)), (3, gc (x2) ++ gc (y2) ++ gc (z2) ++ gc (t2)), (4, nz ++ nz ++ nz ++ nz), (5, gc (v1)), (6, gc (v2)), (7, gc (v3))] ⟨rfl, rfl, rfl, rfl, rfl, rfl, trivial⟩ ⟨rfl, rfl, rfl, rfl, rfl, rfl, trivial⟩ rfl (fun a w h => ?_)
  refine go_region h hm [eS 28 (.val (.agg (gc (ed)).toArray)), eS 29 (.ptr 2 12), eS 30 (.val (.agg (gc (t1)).toArray)), eS 31 (.ptr 3 12), eS 32 (.val (.agg (gc (t2)).toArray)), eS 33 (.val (.agg (gc (v4)).toArray)), eS 34 (.val (.agg (gc (v5)).toArray)), eN 8 (nz), eM 8 (gc (v5))] (by kernel_rfl) ⟨
    fun L u => u_loadXR u (gd0 rfl) 28 rfl 24 (.global 0) rfl rfl Tryd.underlying24 rfl (gc (ed)) i24 rfl (hT.ed) rfl,
    fun L u => u_field u (gd0 rfl) 29 rfl 54 (.tmp 2) 3 rfl rfl rfl Tryd.underlying54 rfl i24 _ rfl,
    fun L u => u_load u (gd0 rfl) 30 rfl 24 (.tmp 29) rfl rfl rfl Tryd.underlying24 rfl i24 (lk rfl) _ rfl,
    fun L u => u_field u (gd0 rfl) 31 rfl 54 (.tmp 3) 3 rfl rfl rfl Tryd.underlying54 rfl i24 _ rfl,
    fun L u => u_load u (gd0 rfl) 32 rfl 24 (.tmp 31) rfl rfl rfl Tryd.underlying24 rfl i24 (lk rfl) _ rfl,
    fun L u => u_call u (gd0 rfl) 33 rfl 29 #[(.tmp 30), (.tmp 32)] #[24, 24] rfl [.agg (gc (t1)).toArray, .agg (gc (t2)).toArray] rfl (cE29 _) (.agg (gc (v4)).toArray) (fun w hb => by have g := e_mul (hT.keep (Bs.kp_of hb)) t1 t2; rw [← ev4] at g; exact g),
    fun L u => u_call u (gd0 rfl) 34 rfl 29 #[(.tmp 28), (.tmp 33)] #[24, 24] rfl [.agg (gc (ed)).toArray, .agg (gc (v4)).toArray] rfl (cE29 _) (.agg (gc (v5)).toArray) (fun w hb => by have g := e_mul (hT.keep (Bs.kp_of hb)) ed v4; rw [← ev5] at g; exact g),
    fun L u => u_alloc u (gd0 rfl) 24 rfl 8 rfl rfl z24 _ rfl,
    fun L u => u_store u (gd0 rfl) 24 (.tmp 8) (.tmp 34) rfl rfl rfl (vs := gc (v5)) rfl rfl i24 (lk rfl) rfl _ rfl,
    trivial⟩ [(2, .ptr 2 0), (3, .ptr 3 0), (4, .ptr 4 0), (5, .ptr 5 0), (6, .ptr 6 0), (7, .ptr 7 0), (8, .ptr 8 0)] [(2, gc (x1) ++ gc (y1) ++ gc (z1) ++ gc (t1)), (3, gc (x2) ++ gc (y2) ++ gc (z2) ++ gc (t2)), (4, nz ++ nz ++ nz ++ nz), (5, gc (v1)), (6, gc (v2)), (7, gc (v3)), (8, gc (v5))] ⟨rfl, rfl, rfl, rfl, rfl, rfl, rfl, trivial⟩ ⟨rfl, rfl, rfl, rfl, rfl, rfl, rfl, trivial⟩ rfl (fun a w h => ?_)
  refine go_region h hm [eS 35 (.ptr 2 0), eS 36 (.val (.agg (gc (x1)).toArray)), eS 37 (.ptr 3 4), eS 38 (.val (.agg (gc (y2)).toArray)), eS 39 (.val (.agg (gc (v6)).toArray)), eS 40 (.ptr 3 0), eS 41 (.val (.agg (gc (x2)).toArray)), eS 42 (.ptr 2 4), eS 43 (.val (.agg (gc (y1)).toArray)), eS 44 (.val (.agg (gc (v7)).toArray)), eS 45 (.val (.agg (gc (v8)).toArray)), eN 9 (nz), eM 9 (gc (v8))] (by kernel_rfl) ⟨
    fun L u => u_field u (gd0 rfl) 35 rfl 54 (.tmp 2) 0 rfl rfl rfl Tryd.underlying54 rfl i24 _ rfl,
    fun L u => u_load u (gd0 rfl) 36 rfl 24 (.tmp 35) rfl rfl rfl Tryd.underlying24 rfl i24 (lk rfl) _ rfl,
    fun L u => u_field u (gd0 rfl) 37 rfl 54 (.tmp 3) 1 rfl rfl rfl Tryd.underlying54 rfl i24 _ rfl,
    fun L u => u_load u (gd0 rfl) 38 rfl 24 (.tmp 37) rfl rfl rfl Tryd.underlying24 rfl i24 (lk rfl) _ rfl,
    fun L u => u_call u (gd0 rfl) 39 rfl 29 #[(.tmp 36), (.tmp 38)] #[24, 24] rfl [.agg (gc (x1)).toArray, .agg (gc (y2)).toArray] rfl (cE29 _) (.agg (gc (v6)).toArray) (fun w hb => by have g := e_mul (hT.keep (Bs.kp_of hb)) x1 y2; rw [← ev6] at g; exact g),
    fun L u => u_field u (gd0 rfl) 40 rfl 54 (.tmp 3) 0 rfl rfl rfl Tryd.underlying54 rfl i24 _ rfl,
    fun L u => u_load u (gd0 rfl) 41 rfl 24 (.tmp 40) rfl rfl rfl Tryd.underlying24 rfl i24 (lk rfl) _ rfl,
    fun L u => u_field u (gd0 rfl) 42 rfl 54 (.tmp 2) 1 rfl rfl rfl Tryd.underlying54 rfl i24 _ rfl,
    fun L u => u_load u (gd0 rfl) 43 rfl 24 (.tmp 42) rfl rfl rfl Tryd.underlying24 rfl i24 (lk rfl) _ rfl,
    fun L u => u_call u (gd0 rfl) 44 rfl 29 #[(.tmp 41), (.tmp 43)] #[24, 24] rfl [.agg (gc (x2)).toArray, .agg (gc (y1)).toArray] rfl (cE29 _) (.agg (gc (v7)).toArray) (fun w hb => by have g := e_mul (hT.keep (Bs.kp_of hb)) x2 y1; rw [← ev7] at g; exact g),
    fun L u => u_call u (gd0 rfl) 45 rfl 31 #[(.tmp 39), (.tmp 44)] #[24, 24] rfl [.agg (gc (v6)).toArray, .agg (gc (v7)).toArray] rfl (cE31 _) (.agg (gc (v8)).toArray) (fun w hb => by have g := e_add (hT.keep (Bs.kp_of hb)) v6 v7; rw [← ev8] at g; exact g),
    fun L u => u_alloc u (gd0 rfl) 24 rfl 9 rfl rfl z24 _ rfl,
    fun L u => u_store u (gd0 rfl) 24 (.tmp 9) (.tmp 45) rfl rfl rfl (vs := gc (v8)) rfl rfl i24 (lk rfl) rfl _ rfl,
    trivial⟩ [(4, .ptr 4 0), (5, .ptr 5 0), (6, .ptr 6 0), (7, .ptr 7 0), (8, .ptr 8 0), (9, .ptr 9 0)] [(4, nz ++ nz ++ nz ++ nz), (5, gc (v1)), (6, gc (v2)), (7, gc (v3)), (8, gc (v5)), (9, gc (v8))] ⟨rfl, rfl, rfl, rfl, rfl, rfl, trivial⟩ ⟨rfl, rfl, rfl, rfl, rfl, rfl, trivial⟩ rfl (fun a w h => ?_)
  refine go_region h hm [eS 46 (.val (.agg (gc (v2)).toArray)), eS 47 (.val (.agg (gc (v1)).toArray)), eS 48 (.val (.agg (gc (v9)).toArray)), eN 10 (nz), eM 10 (gc (v9))] (by kernel_rfl) ⟨
    fun L u => u_load u (gd0 rfl) 46 rfl 24 (.tmp 6) rfl rfl rfl Tryd.underlying24 rfl i24 (lk rfl) _ rfl,
    fun L u => u_load u (gd0 rfl) 47 rfl 24 (.tmp 5) rfl rfl rfl Tryd.underlying24 rfl i24 (lk rfl) _ rfl,
    fun L u => u_call u (gd0 rfl) 48 rfl 31 #[(.tmp 46), (.tmp 47)] #[24, 24] rfl [.agg (gc (v2)).toArray, .agg (gc (v1)).toArray] rfl (cE31 _) (.agg (gc (v9)).toArray) (fun w hb => by have g := e_add (hT.keep (Bs.kp_of hb)) v2 v1; rw [← ev9] at g; exact g),
    fun L u => u_alloc u (gd0 rfl) 24 rfl 10 rfl rfl z24 _ rfl,
    fun L u => u_store u (gd0 rfl) 24 (.tmp 10) (.tmp 48) rfl rfl rfl (vs := gc (v9)) rfl rfl i24 (lk rfl) rfl _ rfl,
    trivial⟩ [(4, .ptr 4 0), (7, .ptr 7 0), (8, .ptr 8 0), (9, .ptr 9 0), (10, .ptr 10 0)] [(4, nz ++ nz ++ nz ++ nz), (7, gc (v3)), (8, gc (v5)), (9, gc (v8)), (10, gc (v9))] ⟨rfl, rfl, rfl, rfl, rfl, trivial⟩ ⟨rfl, rfl, rfl, rfl, rfl, trivial⟩ rfl (fun a w h => ?_)
  refine go_region h hm [eS 49 (.val (.agg (gc (v3)).toArray)), eS 50 (.val (.agg (gc (v5)).toArray)), eS 51 (.val (.agg (gc (v10)).toArray)), eS 52 (.val (.agg (gc (v3)).toArray)), eS 53 (.val (.agg (gc (v5)).toArray)), eS 54 (.val (.agg (gc (v11)).toArray)), eN 11 (nz), eN 12 (nz), eM 11 (gc (v10)), eM 12 (gc (v11))] (by kernel_rfl) ⟨
    fun L u => u_load u (gd0 rfl) 49 rfl 24 (.tmp 7) rfl rfl rfl Tryd.underlying24 rfl i24 (lk rfl) _ rfl,
    fun L u => u_load u (gd0 rfl) 50 rfl 24 (.tmp 8) rfl rfl rfl Tryd.underlying24 rfl i24 (lk rfl) _ rfl,
    fun L u => u_call u (gd0 rfl) 51 rfl 31 #[(.tmp 49), (.tmp 50)] #[24, 24] rfl [.agg (gc (v3)).toArray, .agg (gc (v5)).toArray] rfl (cE31 _) (.agg (gc (v10)).toArray) (fun w hb => by have g := e_add (hT.keep (Bs.kp_of hb)) v3 v5; rw [← ev10] at g; exact g),
    fun L u => u_load u (gd0 rfl) 52 rfl 24 (.tmp 7) rfl rfl rfl Tryd.underlying24 rfl i24 (lk rfl) _ rfl,
    fun L u => u_load u (gd0 rfl) 53 rfl 24 (.tmp 8) rfl rfl rfl Tryd.underlying24 rfl i24 (lk rfl) _ rfl,
    fun L u => u_call u (gd0 rfl) 54 rfl 30 #[(.tmp 52), (.tmp 53)] #[24, 24] rfl [.agg (gc (v3)).toArray, .agg (gc (v5)).toArray] rfl (cE30 _) (.agg (gc (v11)).toArray) (fun w hb => by have g := e_sub (hT.keep (Bs.kp_of hb)) v3 v5; rw [← ev11] at g; exact g),
    fun L u => u_alloc u (gd0 rfl) 24 rfl 11 rfl rfl z24 _ rfl,
    fun L u => u_alloc u (gd0 rfl) 24 rfl 12 rfl rfl z24 _ rfl,
    fun L u => u_store u (gd0 rfl) 24 (.tmp 11) (.tmp 51) rfl rfl rfl (vs := gc (v10)) rfl rfl i24 (lk rfl) rfl _ rfl,
    fun L u => u_store u (gd0 rfl) 24 (.tmp 12) (.tmp 54) rfl rfl rfl (vs := gc (v11)) rfl rfl i24 (lk rfl) rfl _ rfl,
    trivial⟩ [(4, .ptr 4 0), (9, .ptr 9 0), (10, .ptr 10 0), (11, .ptr 11 0), (12, .ptr 12 0)] [(4, nz ++ nz ++ nz ++ nz), (9, gc (v8)), (10, gc (v9)), (11, gc (v10)), (12, gc (v11))] ⟨rfl, rfl, rfl, rfl, rfl, trivial⟩ ⟨rfl, rfl, rfl, rfl, rfl, trivial⟩ rfl (fun a w h => ?_)
  refine go_region h hm [eS 55 (.val (.agg (gc (v8)).toArray)), eS 56 (.val (.agg (gc (v11)).toArray)), eS 57 (.val (.agg (gc (v12)).toArray)), eS 58 (.val (.agg (gc (v9)).toArray)), eS 59 (.val (.agg (gc (v10)).toArray)), eS 60 (.val (.agg (gc (v13)).toArray)), eS 61 (.val (.agg (gc (v10)).toArray)), eS 62 (.val (.agg (gc (v11)).toArray)), eS 63 (.val (.agg (gc (v14)).toArray)), eS 64 (.val (.agg (gc (v8)).toArray)), eS 65 (.val (.agg (gc (v9)).toArray)), eS 66 (.val (.agg (gc (v15)).toArray)), eS 67 (.val (.agg (gc (v12) ++ gc (v13) ++ gc (v14) ++ gc (v15)).toArray)), eM 4 (gc (v12) ++ gc (v13) ++ gc (v14) ++ gc (v15))] (by kernel_rfl) ⟨
    fun L u => u_load u (gd0 rfl) 55 rfl 24 (.tmp 9) rfl rfl rfl Tryd.underlying24 rfl i24 (lk rfl) _ rfl,
    fun L u => u_load u (gd0 rfl) 56 rfl 24 (.tmp 12) rfl rfl rfl Tryd.underlying24 rfl i24 (lk rfl) _ rfl,
    fun L u => u_call u (gd0 rfl) 57 rfl 29 #[(.tmp 55), (.tmp 56)] #[24, 24] rfl [.agg (gc (v8)).toArray, .agg (gc (v11)).toArray] rfl (cE29 _) (.agg (gc (v12)).toArray) (fun w hb => by have g := e_mul (hT.keep (Bs.kp_of hb)) v8 v11; rw [← ev12] at g; exact g),
    fun L u => u_load u (gd0 rfl) 58 rfl 24 (.tmp 10) rfl rfl rfl Tryd.underlying24 rfl i24 (lk rfl) _ rfl,
    fun L u => u_load u (gd0 rfl) 59 rfl 24 (.tmp 11) rfl rfl rfl Tryd.underlying24 rfl i24 (lk rfl) _ rfl,
    fun L u => u_call u (gd0 rfl) 60 rfl 29 #[(.tmp 58), (.tmp 59)] #[24, 24] rfl [.agg (gc (v9)).toArray, .agg (gc (v10)).toArray] rfl (cE29 _) (.agg (gc (v13)).toArray) (fun w hb => by have g := e_mul (hT.keep (Bs.kp_of hb)) v9 v10; rw [← ev13] at g; exact g),
    fun L u => u_load u (gd0 rfl) 61 rfl 24 (.tmp 11) rfl rfl rfl Tryd.underlying24 rfl i24 (lk rfl) _ rfl,
    fun L u => u_load u (gd0 rfl) 62 rfl 24 (.tmp 12) rfl rfl rfl Tryd.underlying24 rfl i24 (lk rfl) _ rfl,
    fun L u => u_call u (gd0 rfl) 63 rfl 29 #[(.tmp 61), (.tmp 62)] #[24, 24] rfl [.agg (gc (v10)).toArray, .agg (gc (v11)).toArray] rfl (cE29 _) (.agg (gc (v14)).toArray) (fun w hb => by have g := e_mul (hT.keep (Bs.kp_of hb)) v10 v11; rw [← ev14] at g; exact g),
    fun L u => u_load u (gd0 rfl) 64 rfl 24 (.tmp 9) rfl rfl rfl Tryd.underlying24 rfl i24 (lk rfl) _ rfl,
    fun L u => u_load u (gd0 rfl) 65 rfl 24 (.tmp 10) rfl rfl rfl Tryd.underlying24 rfl i24 (lk rfl) _ rfl,
    fun L u => u_call u (gd0 rfl) 66 rfl 29 #[(.tmp 64), (.tmp 65)] #[24, 24] rfl [.agg (gc (v8)).toArray, .agg (gc (v9)).toArray] rfl (cE29 _) (.agg (gc (v15)).toArray) (fun w hb => by have g := e_mul (hT.keep (Bs.kp_of hb)) v8 v9; rw [← ev15] at g; exact g),
    fun L u => u_build u (gd0 rfl) 67 rfl 54 #[(0, (.tmp 57)), (1, (.tmp 60)), (2, (.tmp 63)), (3, (.tmp 66))] rfl [(0, .agg (gc (v12)).toArray), (1, .agg (gc (v13)).toArray), (2, .agg (gc (v14)).toArray), (3, .agg (gc (v15)).toArray)] rfl (gc (v12) ++ gc (v13) ++ gc (v14) ++ gc (v15)) (g_bX _ _ _ _),
    fun L u => u_store u (gd0 rfl) 54 (.tmp 4) (.tmp 67) rfl rfl rfl (vs := gc (v12) ++ gc (v13) ++ gc (v14) ++ gc (v15)) rfl rfl i54 (lk rfl) rfl _ rfl,
    trivial⟩ [(4, .ptr 4 0)] [(4, gc (v12) ++ gc (v13) ++ gc (v14) ++ gc (v15))] ⟨rfl, trivial⟩ ⟨rfl, trivial⟩ rfl (fun a w h => ?_)
  refine wp_ret ?_
  refine ret_row h 4 54 rfl (lk rfl) 4 rfl (gc (v12) ++ gc (v13) ++ gc (v14) ++ gc (v15)) rfl _ Tryd.underlying54 rfl i54 ?_
  exact ⟨by rw [hpp.1, hpp.2.1, hpp.2.2.1, hpp.2.2.2]; rfl, h.grows⟩
end Go.Proofs.YtolehamdaceikaaDoor
