/- The types of layer 9, and what the small functions of the document answer. -/
import Derived.Test.YtolehamdaceikaaDoorB18
namespace Go.Proofs.YtolehamdaceikaaDoor
open Go.RowKit

theorem i24 : (Tryd.prog.info? 24).map (·.size) = some 4 := by kernel_rfl
theorem i59 : (Tryd.prog.info? 59).map (·.size) = some 12 := by kernel_rfl
theorem i26 : (Tryd.prog.info? 26).map (·.size) = some 9 := by kernel_rfl
theorem i4 : (Tryd.prog.info? 4).map (·.size) = some 1 := by kernel_rfl
theorem z24 : (Tryd.prog.info? 24).map (·.zero) = some (some (.agg (nz).toArray)) := by kernel_rfl
theorem z59 : (Tryd.prog.info? 59).map (·.zero) = some (some (.agg (nz ++ nz ++ nz).toArray)) := by kernel_rfl
theorem z26 : (Tryd.prog.info? 26).map (·.zero) = some (some (.agg (nz ++ nz ++ [Value.bool false]).toArray)) := by kernel_rfl
theorem hm : Tryd.prog.follows .mixedOrders = true := by kernel_rfl
theorem g_bN0 : Tryd.prog.built 24 [] = some nz.toArray := by kernel_rfl
theorem g_bN4 (a b c d : Int) : Tryd.prog.built 24 [(0, .int .u64 a), (1, .int .u64 b), (2, .int .u64 c), (3, .int .u64 d)] = some ([Value.int .u64 a] ++ [Value.int .u64 b] ++ [Value.int .u64 c] ++ [Value.int .u64 d]).toArray := by kernel_rfl
theorem g_bF (x y z : Fin m2) : Tryd.prog.built 59 [(0, .agg (gc x).toArray), (1, .agg (gc y).toArray), (2, .agg (gc z).toArray)] = some (gc x ++ gc y ++ gc z).toArray := by kernel_rfl
theorem g_bF0 (y z : Fin m2) : Tryd.prog.built 59 [(0, .agg nz.toArray), (1, .agg (gc y).toArray), (2, .agg (gc z).toArray)] = some (nz ++ gc y ++ gc z).toArray := by kernel_rfl
theorem g_bP (x y : Fin m2) : Tryd.prog.built 26 [(0, .agg (gc x).toArray), (1, .agg (gc y).toArray)] = some (gc x ++ gc y ++ [Value.bool false]).toArray := by kernel_rfl
theorem g_bY (y : Fin m2) : Tryd.prog.built 26 [(1, .agg (gc y).toArray)] = some (nz ++ gc y ++ [Value.bool false]).toArray := by kernel_rfl
theorem g_bPc (a b c d e f g h : Int) : Tryd.prog.built 26 [(0, .agg ([Value.int .u64 a] ++ [Value.int .u64 b] ++ [Value.int .u64 c] ++ [Value.int .u64 d]).toArray), (1, .agg ([Value.int .u64 e] ++ [Value.int .u64 f] ++ [Value.int .u64 g] ++ [Value.int .u64 h]).toArray)] = some ([Value.int .u64 a] ++ [Value.int .u64 b] ++ [Value.int .u64 c] ++ [Value.int .u64 d] ++ [Value.int .u64 e] ++ [Value.int .u64 f] ++ [Value.int .u64 g] ++ [Value.int .u64 h] ++ [Value.bool false]).toArray := by kernel_rfl
/-- Three numbers as they lie in memory; a point. -/
def fjc (p : P3 (Fin m2)) : List Value := gc p.x ++ gc p.y ++ gc p.z
def pcE (a : Ep m2) : List Value := gc a.x ++ gc a.y ++ [Value.bool false]
theorem cE67 (vs : List Value) : ∀ w, (callFunc 67 vs.toArray).run Tryd.prog w = .ok (.enter 67 vs.toArray) w := callFunc_enter Tryd.func67 (by kernel_rfl) (by kernel_rfl) _
theorem cE66 (vs : List Value) : ∀ w, (callFunc 66 vs.toArray).run Tryd.prog w = .ok (.enter 66 vs.toArray) w := callFunc_enter Tryd.func66 (by kernel_rfl) (by kernel_rfl) _
theorem cE65 (vs : List Value) : ∀ w, (callFunc 65 vs.toArray).run Tryd.prog w = .ok (.enter 65 vs.toArray) w := callFunc_enter Tryd.func65 (by kernel_rfl) (by kernel_rfl) _
theorem cE58 (vs : List Value) : ∀ w, (callFunc 58 vs.toArray).run Tryd.prog w = .ok (.enter 58 vs.toArray) w := callFunc_enter Tryd.func58 (by kernel_rfl) (by kernel_rfl) _
theorem cE69 (vs : List Value) : ∀ w, (callFunc 69 vs.toArray).run Tryd.prog w = .ok (.enter 69 vs.toArray) w := callFunc_enter Tryd.func69 (by kernel_rfl) (by kernel_rfl) _
theorem cE68 (vs : List Value) : ∀ w, (callFunc 68 vs.toArray).run Tryd.prog w = .ok (.enter 68 vs.toArray) w := callFunc_enter Tryd.func68 (by kernel_rfl) (by kernel_rfl) _
theorem cE33 (vs : List Value) : ∀ w, (callFunc 33 vs.toArray).run Tryd.prog w = .ok (.enter 33 vs.toArray) w := callFunc_enter Tryd.func33 (by kernel_rfl) (by kernel_rfl) _
theorem cE36 (vs : List Value) : ∀ w, (callFunc 36 vs.toArray).run Tryd.prog w = .ok (.enter 36 vs.toArray) w := callFunc_enter Tryd.func36 (by kernel_rfl) (by kernel_rfl) _
theorem cE35 (vs : List Value) : ∀ w, (callFunc 35 vs.toArray).run Tryd.prog w = .ok (.enter 35 vs.toArray) w := callFunc_enter Tryd.func35 (by kernel_rfl) (by kernel_rfl) _
theorem cE34 (vs : List Value) : ∀ w, (callFunc 34 vs.toArray).run Tryd.prog w = .ok (.enter 34 vs.toArray) w := callFunc_enter Tryd.func34 (by kernel_rfl) (by kernel_rfl) _
theorem cE37 (vs : List Value) : ∀ w, (callFunc 37 vs.toArray).run Tryd.prog w = .ok (.enter 37 vs.toArray) w := callFunc_enter Tryd.func37 (by kernel_rfl) (by kernel_rfl) _
theorem cE38 (vs : List Value) : ∀ w, (callFunc 38 vs.toArray).run Tryd.prog w = .ok (.enter 38 vs.toArray) w := callFunc_enter Tryd.func38 (by kernel_rfl) (by kernel_rfl) _
theorem cE56 (vs : List Value) : ∀ w, (callFunc 56 vs.toArray).run Tryd.prog w = .ok (.enter 56 vs.toArray) w := callFunc_enter Tryd.func56 (by kernel_rfl) (by kernel_rfl) _
theorem cE11 (vs : List Value) : ∀ w, (callFunc 11 vs.toArray).run Tryd.prog w = .ok (.enter 11 vs.toArray) w := callFunc_enter Tryd.func11 (by kernel_rfl) (by kernel_rfl) _
theorem cE44 (vs : List Value) : ∀ w, (callFunc 44 vs.toArray).run Tryd.prog w = .ok (.enter 44 vs.toArray) w := callFunc_enter Tryd.func44 (by kernel_rfl) (by kernel_rfl) _
theorem cE42 (vs : List Value) : ∀ w, (callFunc 42 vs.toArray).run Tryd.prog w = .ok (.enter 42 vs.toArray) w := callFunc_enter Tryd.func42 (by kernel_rfl) (by kernel_rfl) _
theorem cE43 (vs : List Value) : ∀ w, (callFunc 43 vs.toArray).run Tryd.prog w = .ok (.enter 43 vs.toArray) w := callFunc_enter Tryd.func43 (by kernel_rfl) (by kernel_rfl) _
theorem cE46 (vs : List Value) : ∀ w, (callFunc 46 vs.toArray).run Tryd.prog w = .ok (.enter 46 vs.toArray) w := callFunc_enter Tryd.func46 (by kernel_rfl) (by kernel_rfl) _
theorem cE27 (vs : List Value) : ∀ w, (callFunc 27 vs.toArray).run Tryd.prog w = .ok (.enter 27 vs.toArray) w := callFunc_enter Tryd.func27 (by kernel_rfl) (by kernel_rfl) _
theorem cE13 (vs : List Value) : ∀ w, (callFunc 13 vs.toArray).run Tryd.prog w = .ok (.enter 13 vs.toArray) w := callFunc_enter Tryd.func13 (by kernel_rfl) (by kernel_rfl) _
theorem cE15 (vs : List Value) : ∀ w, (callFunc 15 vs.toArray).run Tryd.prog w = .ok (.enter 15 vs.toArray) w := callFunc_enter Tryd.func15 (by kernel_rfl) (by kernel_rfl) _
set_option maxRecDepth 100000 in
set_option maxHeartbeats 4000000 in
theorem s_add {w : World} (hT : Tab w) (x y : Fin m2) : Calls Tryd.prog 36 [.agg (gc (x)).toArray, .agg (gc (y)).toArray].toArray w fun e w' => e = .returned (.agg (gc (x + y)).toArray) ∧ Below w.heap.size w w' := by
  refine enter (args := [.agg (gc (x)).toArray, .agg (gc (y)).toArray]) Tryd.func36 rfl 8 rfl (lk rfl) (fun a h => ?_)
  refine go_region h hm [eN 2 (gc (x)), eN 3 (gc (y)), eN 4 (nz)] (by kernel_rfl) ⟨
    fun L u => u_box u (gd0 rfl) 24 (.tmp 0) rfl 2 rfl rfl rfl _ rfl,
    fun L u => u_box u (gd0 rfl) 24 (.tmp 1) rfl 3 rfl rfl rfl _ rfl,
    fun L u => u_alloc u (gd0 rfl) 24 rfl 4 rfl rfl z24 _ rfl,
    trivial⟩ [(2, .ptr 2 0), (3, .ptr 3 0), (4, .ptr 4 0)] [(2, gc (x)), (3, gc (y)), (4, nz)] ⟨rfl, rfl, rfl, trivial⟩ ⟨rfl, rfl, rfl, trivial⟩ rfl (fun a w h => ?_)
  refine go_region h hm [eS 5 (.val (.agg (gc (x)).toArray)), eS 6 (.val (.agg (gc (y)).toArray)), eS 7 (.val (.agg (gc ((x) + (y))).toArray)), eM 4 (gc ((x) + (y)))] (by kernel_rfl) ⟨
    fun L u => u_load u (gd0 rfl) 5 rfl 24 (.tmp 2) rfl rfl rfl Tryd.underlying24 rfl i24 (lk rfl) _ rfl,
    fun L u => u_load u (gd0 rfl) 6 rfl 24 (.tmp 3) rfl rfl rfl Tryd.underlying24 rfl i24 (lk rfl) _ rfl,
    fun L u => u_call u (gd0 rfl) 7 rfl 67 #[(.const (.int .i64 2)), (.tmp 5), (.tmp 6)] #[3, 24, 24] rfl [(Value.int IntKind.i64 2), .agg (gc (x)).toArray, .agg (gc (y)).toArray] rfl (cE67 _) (.agg (gc ((x) + (y))).toArray) (fun w hb => d_add (hT.keep (Bs.kp_of hb)) _ _),
    fun L u => u_store u (gd0 rfl) 24 (.tmp 4) (.tmp 7) rfl rfl rfl (vs := gc ((x) + (y))) rfl rfl i24 (lk rfl) rfl _ rfl,
    trivial⟩ [(4, .ptr 4 0)] [(4, gc ((x) + (y)))] ⟨rfl, trivial⟩ ⟨rfl, trivial⟩ rfl (fun a w h => ?_)
  refine wp_ret ?_
  refine ret_row h 4 24 rfl (lk rfl) 4 rfl (gc ((x) + (y))) rfl _ Tryd.underlying24 rfl i24 ?_
  exact ⟨rfl, h.grows⟩
set_option maxRecDepth 100000 in
set_option maxHeartbeats 4000000 in
theorem s_sub {w : World} (hT : Tab w) (x y : Fin m2) : Calls Tryd.prog 35 [.agg (gc (x)).toArray, .agg (gc (y)).toArray].toArray w fun e w' => e = .returned (.agg (gc (x - y)).toArray) ∧ Below w.heap.size w w' := by
  refine enter (args := [.agg (gc (x)).toArray, .agg (gc (y)).toArray]) Tryd.func35 rfl 8 rfl (lk rfl) (fun a h => ?_)
  refine go_region h hm [eN 2 (gc (x)), eN 3 (gc (y)), eN 4 (nz)] (by kernel_rfl) ⟨
    fun L u => u_box u (gd0 rfl) 24 (.tmp 0) rfl 2 rfl rfl rfl _ rfl,
    fun L u => u_box u (gd0 rfl) 24 (.tmp 1) rfl 3 rfl rfl rfl _ rfl,
    fun L u => u_alloc u (gd0 rfl) 24 rfl 4 rfl rfl z24 _ rfl,
    trivial⟩ [(2, .ptr 2 0), (3, .ptr 3 0), (4, .ptr 4 0)] [(2, gc (x)), (3, gc (y)), (4, nz)] ⟨rfl, rfl, rfl, trivial⟩ ⟨rfl, rfl, rfl, trivial⟩ rfl (fun a w h => ?_)
  refine go_region h hm [eS 5 (.val (.agg (gc (x)).toArray)), eS 6 (.val (.agg (gc (y)).toArray)), eS 7 (.val (.agg (gc ((x) - (y))).toArray)), eM 4 (gc ((x) - (y)))] (by kernel_rfl) ⟨
    fun L u => u_load u (gd0 rfl) 5 rfl 24 (.tmp 2) rfl rfl rfl Tryd.underlying24 rfl i24 (lk rfl) _ rfl,
    fun L u => u_load u (gd0 rfl) 6 rfl 24 (.tmp 3) rfl rfl rfl Tryd.underlying24 rfl i24 (lk rfl) _ rfl,
    fun L u => u_call u (gd0 rfl) 7 rfl 66 #[(.const (.int .i64 2)), (.tmp 5), (.tmp 6)] #[3, 24, 24] rfl [(Value.int IntKind.i64 2), .agg (gc (x)).toArray, .agg (gc (y)).toArray] rfl (cE66 _) (.agg (gc ((x) - (y))).toArray) (fun w hb => d_sub (hT.keep (Bs.kp_of hb)) _ _),
    fun L u => u_store u (gd0 rfl) 24 (.tmp 4) (.tmp 7) rfl rfl rfl (vs := gc ((x) - (y))) rfl rfl i24 (lk rfl) rfl _ rfl,
    trivial⟩ [(4, .ptr 4 0)] [(4, gc ((x) - (y)))] ⟨rfl, trivial⟩ ⟨rfl, trivial⟩ rfl (fun a w h => ?_)
  refine wp_ret ?_
  refine ret_row h 4 24 rfl (lk rfl) 4 rfl (gc ((x) - (y))) rfl _ Tryd.underlying24 rfl i24 ?_
  exact ⟨rfl, h.grows⟩
set_option maxRecDepth 100000 in
set_option maxHeartbeats 4000000 in
theorem s_mul {w : World} (hT : Tab w) (x y : Fin m2) : Calls Tryd.prog 34 [.agg (gc (x)).toArray, .agg (gc (y)).toArray].toArray w fun e w' => e = .returned (.agg (gc (x * y)).toArray) ∧ Below w.heap.size w w' := by
  refine enter (args := [.agg (gc (x)).toArray, .agg (gc (y)).toArray]) Tryd.func34 rfl 8 rfl (lk rfl) (fun a h => ?_)
  refine go_region h hm [eN 2 (gc (x)), eN 3 (gc (y)), eN 4 (nz)] (by kernel_rfl) ⟨
    fun L u => u_box u (gd0 rfl) 24 (.tmp 0) rfl 2 rfl rfl rfl _ rfl,
    fun L u => u_box u (gd0 rfl) 24 (.tmp 1) rfl 3 rfl rfl rfl _ rfl,
    fun L u => u_alloc u (gd0 rfl) 24 rfl 4 rfl rfl z24 _ rfl,
    trivial⟩ [(2, .ptr 2 0), (3, .ptr 3 0), (4, .ptr 4 0)] [(2, gc (x)), (3, gc (y)), (4, nz)] ⟨rfl, rfl, rfl, trivial⟩ ⟨rfl, rfl, rfl, trivial⟩ rfl (fun a w h => ?_)
  refine go_region h hm [eS 5 (.val (.agg (gc (x)).toArray)), eS 6 (.val (.agg (gc (y)).toArray)), eS 7 (.val (.agg (gc ((x) * (y))).toArray)), eM 4 (gc ((x) * (y)))] (by kernel_rfl) ⟨
    fun L u => u_load u (gd0 rfl) 5 rfl 24 (.tmp 2) rfl rfl rfl Tryd.underlying24 rfl i24 (lk rfl) _ rfl,
    fun L u => u_load u (gd0 rfl) 6 rfl 24 (.tmp 3) rfl rfl rfl Tryd.underlying24 rfl i24 (lk rfl) _ rfl,
    fun L u => u_call u (gd0 rfl) 7 rfl 65 #[(.const (.int .i64 2)), (.tmp 5), (.tmp 6)] #[3, 24, 24] rfl [(Value.int IntKind.i64 2), .agg (gc (x)).toArray, .agg (gc (y)).toArray] rfl (cE65 _) (.agg (gc ((x) * (y))).toArray) (fun w hb => d_mul (hT.keep (Bs.kp_of hb)) _ _),
    fun L u => u_store u (gd0 rfl) 24 (.tmp 4) (.tmp 7) rfl rfl rfl (vs := gc ((x) * (y))) rfl rfl i24 (lk rfl) rfl _ rfl,
    trivial⟩ [(4, .ptr 4 0)] [(4, gc ((x) * (y)))] ⟨rfl, trivial⟩ ⟨rfl, trivial⟩ rfl (fun a w h => ?_)
  refine wp_ret ?_
  refine ret_row h 4 24 rfl (lk rfl) 4 rfl (gc ((x) * (y))) rfl _ Tryd.underlying24 rfl i24 ?_
  exact ⟨rfl, h.grows⟩
theorem gc_one : gc 1 = [Value.int .u64 1] ++ [Value.int .u64 0] ++ [Value.int .u64 0] ++ [Value.int .u64 0] := by kernel_rfl
set_option maxRecDepth 100000 in
set_option maxHeartbeats 4000000 in
theorem s_small1 {w : World}  : Calls Tryd.prog 68 [Value.int .u64 1].toArray w fun e w' => e = .returned (.agg (gc 1).toArray) ∧ Below w.heap.size w w' := by
  refine enter (args := [Value.int .u64 1]) Tryd.func68 rfl 5 rfl (lk rfl) (fun a h => ?_)
  refine go_region h hm [eN 2 (nz)] (by kernel_rfl) ⟨
    fun L u => u_alloc u (gd0 rfl) 24 rfl 2 rfl rfl z24 _ rfl,
    trivial⟩ [(0, .val (Value.int .u64 1)), (2, .ptr 2 0)] [(2, nz)] ⟨rfl, rfl, trivial⟩ ⟨rfl, trivial⟩ rfl (fun a w h => ?_)
  refine go_region h hm [eS 3 (.val (Value.int .u64 1)), eS 4 (.val (.agg ([Value.int .u64 1] ++ [(Value.int IntKind.u64 0)] ++ [(Value.int IntKind.u64 0)] ++ [(Value.int IntKind.u64 0)]).toArray)), eM 2 ([Value.int .u64 1] ++ [(Value.int IntKind.u64 0)] ++ [(Value.int IntKind.u64 0)] ++ [(Value.int IntKind.u64 0)])] (by kernel_rfl) ⟨
    fun L u => u_move u (gd0 rfl) 3 rfl (.tmp 0) (Or.inl rfl) rfl,
    fun L u => u_build u (gd0 rfl) 4 rfl 24 #[(0, (.tmp 3)), (1, (.const (.int .u64 0))), (2, (.const (.int .u64 0))), (3, (.const (.int .u64 0)))] rfl [(0, Value.int .u64 1), (1, (Value.int IntKind.u64 0)), (2, (Value.int IntKind.u64 0)), (3, (Value.int IntKind.u64 0))] rfl ([Value.int .u64 1] ++ [(Value.int IntKind.u64 0)] ++ [(Value.int IntKind.u64 0)] ++ [(Value.int IntKind.u64 0)]) (g_bN4 _ _ _ _),
    fun L u => u_store u (gd0 rfl) 24 (.tmp 2) (.tmp 4) rfl rfl rfl (vs := [Value.int .u64 1] ++ [(Value.int IntKind.u64 0)] ++ [(Value.int IntKind.u64 0)] ++ [(Value.int IntKind.u64 0)]) rfl rfl i24 (lk rfl) rfl _ rfl,
    trivial⟩ [(2, .ptr 2 0)] [(2, [Value.int .u64 1] ++ [(Value.int IntKind.u64 0)] ++ [(Value.int IntKind.u64 0)] ++ [(Value.int IntKind.u64 0)])] ⟨rfl, trivial⟩ ⟨rfl, trivial⟩ rfl (fun a w h => ?_)
  refine wp_ret ?_
  refine ret_row h 2 24 rfl (lk rfl) 2 rfl ([Value.int .u64 1] ++ [(Value.int IntKind.u64 0)] ++ [(Value.int IntKind.u64 0)] ++ [(Value.int IntKind.u64 0)]) rfl _ Tryd.underlying24 rfl i24 ?_
  exact ⟨by rw [gc_one], h.grows⟩
set_option maxRecDepth 100000 in
set_option maxHeartbeats 4000000 in
theorem s_One {w : World}  : Calls Tryd.prog 37 [].toArray w fun e w' => e = .returned (.agg (gc 1).toArray) ∧ Below w.heap.size w w' := by
  refine enter (args := []) Tryd.func37 rfl 2 rfl (lk rfl) (fun a h => ?_)
  refine go_region h hm [eN 0 (nz)] (by kernel_rfl) ⟨
    fun L u => u_alloc u (gd0 rfl) 24 rfl 0 rfl rfl z24 _ rfl,
    trivial⟩ [(0, .ptr 0 0)] [(0, nz)] ⟨rfl, trivial⟩ ⟨rfl, trivial⟩ rfl (fun a w h => ?_)
  refine go_region h hm [eS 1 (.val (.agg (gc (1)).toArray)), eM 0 (gc (1))] (by kernel_rfl) ⟨
    fun L u => u_call u (gd0 rfl) 1 rfl 68 #[(.const (.int .u64 1))] #[22] rfl [(Value.int IntKind.u64 1)] rfl (cE68 _) (.agg (gc (1)).toArray) (fun w hb => s_small1),
    fun L u => u_store u (gd0 rfl) 24 (.tmp 0) (.tmp 1) rfl rfl rfl (vs := gc (1)) rfl rfl i24 (lk rfl) rfl _ rfl,
    trivial⟩ [(0, .ptr 0 0)] [(0, gc (1))] ⟨rfl, trivial⟩ ⟨rfl, trivial⟩ rfl (fun a w h => ?_)
  refine wp_ret ?_
  refine ret_row h 0 24 rfl (lk rfl) 0 rfl (gc (1)) rfl _ Tryd.underlying24 rfl i24 ?_
  exact ⟨rfl, h.grows⟩
theorem gc_ed : gc ed = [Value.int .u64 8496970652267935907] ++ [Value.int .u64 31536524315187371] ++ [Value.int .u64 10144147576115030168] ++ [Value.int .u64 5909686906226998899] := by kernel_rfl
set_option maxRecDepth 100000 in
set_option maxHeartbeats 4000000 in
theorem s_D {w : World}  : Calls Tryd.prog 38 [].toArray w fun e w' => e = .returned (.agg (gc ed).toArray) ∧ Below w.heap.size w w' := by
  refine enter (args := []) Tryd.func38 rfl 2 rfl (lk rfl) (fun a h => ?_)
  refine go_region h hm [eN 0 (nz)] (by kernel_rfl) ⟨
    fun L u => u_alloc u (gd0 rfl) 24 rfl 0 rfl rfl z24 _ rfl,
    trivial⟩ [(0, .ptr 0 0)] [(0, nz)] ⟨rfl, trivial⟩ ⟨rfl, trivial⟩ rfl (fun a w h => ?_)
  refine go_region h hm [eS 1 (.val (.agg ([(Value.int IntKind.u64 8496970652267935907)] ++ [(Value.int IntKind.u64 31536524315187371)] ++ [(Value.int IntKind.u64 10144147576115030168)] ++ [(Value.int IntKind.u64 5909686906226998899)]).toArray)), eM 0 ([(Value.int IntKind.u64 8496970652267935907)] ++ [(Value.int IntKind.u64 31536524315187371)] ++ [(Value.int IntKind.u64 10144147576115030168)] ++ [(Value.int IntKind.u64 5909686906226998899)])] (by kernel_rfl) ⟨
    fun L u => u_build u (gd0 rfl) 1 rfl 24 #[(0, (.const (.int .u64 8496970652267935907))), (1, (.const (.int .u64 31536524315187371))), (2, (.const (.int .u64 10144147576115030168))), (3, (.const (.int .u64 5909686906226998899)))] rfl [(0, (Value.int IntKind.u64 8496970652267935907)), (1, (Value.int IntKind.u64 31536524315187371)), (2, (Value.int IntKind.u64 10144147576115030168)), (3, (Value.int IntKind.u64 5909686906226998899))] rfl ([(Value.int IntKind.u64 8496970652267935907)] ++ [(Value.int IntKind.u64 31536524315187371)] ++ [(Value.int IntKind.u64 10144147576115030168)] ++ [(Value.int IntKind.u64 5909686906226998899)]) (g_bN4 _ _ _ _),
    fun L u => u_store u (gd0 rfl) 24 (.tmp 0) (.tmp 1) rfl rfl rfl (vs := [(Value.int IntKind.u64 8496970652267935907)] ++ [(Value.int IntKind.u64 31536524315187371)] ++ [(Value.int IntKind.u64 10144147576115030168)] ++ [(Value.int IntKind.u64 5909686906226998899)]) rfl rfl i24 (lk rfl) rfl _ rfl,
    trivial⟩ [(0, .ptr 0 0)] [(0, [(Value.int IntKind.u64 8496970652267935907)] ++ [(Value.int IntKind.u64 31536524315187371)] ++ [(Value.int IntKind.u64 10144147576115030168)] ++ [(Value.int IntKind.u64 5909686906226998899)])] ⟨rfl, trivial⟩ ⟨rfl, trivial⟩ rfl (fun a w h => ?_)
  refine wp_ret ?_
  refine ret_row h 0 24 rfl (lk rfl) 0 rfl ([(Value.int IntKind.u64 8496970652267935907)] ++ [(Value.int IntKind.u64 31536524315187371)] ++ [(Value.int IntKind.u64 10144147576115030168)] ++ [(Value.int IntKind.u64 5909686906226998899)]) rfl _ Tryd.underlying24 rfl i24 ?_
  exact ⟨by rw [gc_ed], h.grows⟩
set_option maxRecDepth 100000 in
set_option maxHeartbeats 4000000 in
theorem s_None {w : World}  : Calls Tryd.prog 56 [].toArray w fun e w' => e = .returned (.agg (pcE (Ep.o m2)).toArray) ∧ Below w.heap.size w w' := by
  refine enter (args := []) Tryd.func56 rfl 3 rfl (lk rfl) (fun a h => ?_)
  refine go_region h hm [eN 0 (nz ++ nz ++ [Value.bool false])] (by kernel_rfl) ⟨
    fun L u => u_alloc u (gd0 rfl) 26 rfl 0 rfl rfl z26 _ rfl,
    trivial⟩ [(0, .ptr 0 0)] [(0, nz ++ nz ++ [Value.bool false])] ⟨rfl, trivial⟩ ⟨rfl, trivial⟩ rfl (fun a w h => ?_)
  refine go_region h hm [eS 1 (.val (.agg (gc (1)).toArray)), eS 2 (.val (.agg (nz ++ gc (1) ++ [Value.bool false]).toArray)), eM 0 (nz ++ gc (1) ++ [Value.bool false])] (by kernel_rfl) ⟨
    fun L u => u_call u (gd0 rfl) 1 rfl 37 #[] #[] rfl [] rfl (cE37 _) (.agg (gc (1)).toArray) (fun w hb => s_One),
    fun L u => u_build u (gd0 rfl) 2 rfl 26 #[(1, (.tmp 1))] rfl [(1, .agg (gc (1)).toArray)] rfl (nz ++ gc (1) ++ [Value.bool false]) (g_bY _),
    fun L u => u_store u (gd0 rfl) 26 (.tmp 0) (.tmp 2) rfl rfl rfl (vs := nz ++ gc (1) ++ [Value.bool false]) rfl rfl i26 (lk rfl) rfl _ rfl,
    trivial⟩ [(0, .ptr 0 0)] [(0, nz ++ gc (1) ++ [Value.bool false])] ⟨rfl, trivial⟩ ⟨rfl, trivial⟩ rfl (fun a w h => ?_)
  refine wp_ret ?_
  refine ret_row h 0 26 rfl (lk rfl) 0 rfl (nz ++ gc (1) ++ [Value.bool false]) rfl _ Tryd.underlying26 rfl i26 ?_
  exact ⟨by rw [nz_gc]; rfl, h.grows⟩
set_option maxRecDepth 100000 in
set_option maxHeartbeats 4000000 in
theorem s_plus {w : World} (hT : Tab w) (x1 y1 z1 x2 y2 z2 : Fin m2) : Calls Tryd.prog 43 [.agg (gc (x1) ++ gc (y1) ++ gc (z1)).toArray, .agg (gc (x2) ++ gc (y2) ++ gc (z2)).toArray].toArray w fun e w' => e = .returned (.agg (fjc (fadd ⟨x1, y1, z1⟩ ⟨x2, y2, z2⟩)).toArray) ∧ Below w.heap.size w w' := by
  refine enter (args := [.agg (gc (x1) ++ gc (y1) ++ gc (z1)).toArray, .agg (gc (x2) ++ gc (y2) ++ gc (z2)).toArray]) Tryd.func43 rfl 69 rfl (lk rfl) (fun a h => ?_)
  refine go_region h hm [eN 2 (gc (x1) ++ gc (y1) ++ gc (z1)), eN 3 (gc (x2) ++ gc (y2) ++ gc (z2)), eN 4 (nz ++ nz ++ nz)] (by kernel_rfl) ⟨
    fun L u => u_box u (gd0 rfl) 59 (.tmp 0) rfl 2 rfl rfl rfl _ rfl,
    fun L u => u_box u (gd0 rfl) 59 (.tmp 1) rfl 3 rfl rfl rfl _ rfl,
    fun L u => u_alloc u (gd0 rfl) 59 rfl 4 rfl rfl z59 _ rfl,
    trivial⟩ [(2, .ptr 2 0), (3, .ptr 3 0), (4, .ptr 4 0)] [(2, gc (x1) ++ gc (y1) ++ gc (z1)), (3, gc (x2) ++ gc (y2) ++ gc (z2)), (4, nz ++ nz ++ nz)] ⟨rfl, rfl, rfl, trivial⟩ ⟨rfl, rfl, rfl, trivial⟩ rfl (fun a w h => ?_)
  refine go_region h hm [eS 13 (.ptr 2 8), eS 14 (.val (.agg (gc (z1)).toArray)), eS 15 (.ptr 3 8), eS 16 (.val (.agg (gc (z2)).toArray)), eS 17 (.val (.agg (gc ((z1) * (z2))).toArray)), eN 5 (nz), eM 5 (gc ((z1) * (z2)))] (by kernel_rfl) ⟨
    fun L u => u_field u (gd0 rfl) 13 rfl 59 (.tmp 2) 2 rfl rfl rfl Tryd.underlying59 rfl i24 _ rfl,
    fun L u => u_load u (gd0 rfl) 14 rfl 24 (.tmp 13) rfl rfl rfl Tryd.underlying24 rfl i24 (lk rfl) _ rfl,
    fun L u => u_field u (gd0 rfl) 15 rfl 59 (.tmp 3) 2 rfl rfl rfl Tryd.underlying59 rfl i24 _ rfl,
    fun L u => u_load u (gd0 rfl) 16 rfl 24 (.tmp 15) rfl rfl rfl Tryd.underlying24 rfl i24 (lk rfl) _ rfl,
    fun L u => u_call u (gd0 rfl) 17 rfl 34 #[(.tmp 14), (.tmp 16)] #[24, 24] rfl [.agg (gc (z1)).toArray, .agg (gc (z2)).toArray] rfl (cE34 _) (.agg (gc ((z1) * (z2))).toArray) (fun w hb => s_mul (hT.keep (Bs.kp_of hb)) _ _),
    fun L u => u_alloc u (gd0 rfl) 24 rfl 5 rfl rfl z24 _ rfl,
    fun L u => u_store u (gd0 rfl) 24 (.tmp 5) (.tmp 17) rfl rfl rfl (vs := gc ((z1) * (z2))) rfl rfl i24 (lk rfl) rfl _ rfl,
    trivial⟩ [(2, .ptr 2 0), (3, .ptr 3 0), (4, .ptr 4 0), (5, .ptr 5 0)] [(2, gc (x1) ++ gc (y1) ++ gc (z1)), (3, gc (x2) ++ gc (y2) ++ gc (z2)), (4, nz ++ nz ++ nz), (5, gc ((z1) * (z2)))] ⟨rfl, rfl, rfl, rfl, trivial⟩ ⟨rfl, rfl, rfl, rfl, trivial⟩ rfl (fun a w h => ?_)
  refine go_region h hm [eS 18 (.val (.agg (gc ((z1) * (z2))).toArray)), eS 19 (.val (.agg (gc ((z1) * (z2))).toArray)), eS 20 (.val (.agg (gc (((z1) * (z2)) * ((z1) * (z2)))).toArray)), eN 6 (nz), eM 6 (gc (((z1) * (z2)) * ((z1) * (z2))))] (by kernel_rfl) ⟨
    fun L u => u_load u (gd0 rfl) 18 rfl 24 (.tmp 5) rfl rfl rfl Tryd.underlying24 rfl i24 (lk rfl) _ rfl,
    fun L u => u_load u (gd0 rfl) 19 rfl 24 (.tmp 5) rfl rfl rfl Tryd.underlying24 rfl i24 (lk rfl) _ rfl,
    fun L u => u_call u (gd0 rfl) 20 rfl 34 #[(.tmp 18), (.tmp 19)] #[24, 24] rfl [.agg (gc ((z1) * (z2))).toArray, .agg (gc ((z1) * (z2))).toArray] rfl (cE34 _) (.agg (gc (((z1) * (z2)) * ((z1) * (z2)))).toArray) (fun w hb => s_mul (hT.keep (Bs.kp_of hb)) _ _),
    fun L u => u_alloc u (gd0 rfl) 24 rfl 6 rfl rfl z24 _ rfl,
    fun L u => u_store u (gd0 rfl) 24 (.tmp 6) (.tmp 20) rfl rfl rfl (vs := gc (((z1) * (z2)) * ((z1) * (z2)))) rfl rfl i24 (lk rfl) rfl _ rfl,
    trivial⟩ [(2, .ptr 2 0), (3, .ptr 3 0), (4, .ptr 4 0), (5, .ptr 5 0), (6, .ptr 6 0)] [(2, gc (x1) ++ gc (y1) ++ gc (z1)), (3, gc (x2) ++ gc (y2) ++ gc (z2)), (4, nz ++ nz ++ nz), (5, gc ((z1) * (z2))), (6, gc (((z1) * (z2)) * ((z1) * (z2))))] ⟨rfl, rfl, rfl, rfl, rfl, trivial⟩ ⟨rfl, rfl, rfl, rfl, rfl, trivial⟩ rfl (fun a w h => ?_)
  refine go_region h hm [eS 21 (.ptr 2 0), eS 22 (.val (.agg (gc (x1)).toArray)), eS 23 (.ptr 3 0), eS 24 (.val (.agg (gc (x2)).toArray)), eS 25 (.val (.agg (gc ((x1) * (x2))).toArray)), eS 26 (.ptr 2 4), eS 27 (.val (.agg (gc (y1)).toArray)), eS 28 (.ptr 3 4), eS 29 (.val (.agg (gc (y2)).toArray)), eS 30 (.val (.agg (gc ((y1) * (y2))).toArray)), eN 7 (nz), eN 8 (nz), eM 7 (gc ((x1) * (x2))), eM 8 (gc ((y1) * (y2)))] (by kernel_rfl) ⟨
    fun L u => u_field u (gd0 rfl) 21 rfl 59 (.tmp 2) 0 rfl rfl rfl Tryd.underlying59 rfl i24 _ rfl,
    fun L u => u_load u (gd0 rfl) 22 rfl 24 (.tmp 21) rfl rfl rfl Tryd.underlying24 rfl i24 (lk rfl) _ rfl,
    fun L u => u_field u (gd0 rfl) 23 rfl 59 (.tmp 3) 0 rfl rfl rfl Tryd.underlying59 rfl i24 _ rfl,
    fun L u => u_load u (gd0 rfl) 24 rfl 24 (.tmp 23) rfl rfl rfl Tryd.underlying24 rfl i24 (lk rfl) _ rfl,
    fun L u => u_call u (gd0 rfl) 25 rfl 34 #[(.tmp 22), (.tmp 24)] #[24, 24] rfl [.agg (gc (x1)).toArray, .agg (gc (x2)).toArray] rfl (cE34 _) (.agg (gc ((x1) * (x2))).toArray) (fun w hb => s_mul (hT.keep (Bs.kp_of hb)) _ _),
    fun L u => u_field u (gd0 rfl) 26 rfl 59 (.tmp 2) 1 rfl rfl rfl Tryd.underlying59 rfl i24 _ rfl,
    fun L u => u_load u (gd0 rfl) 27 rfl 24 (.tmp 26) rfl rfl rfl Tryd.underlying24 rfl i24 (lk rfl) _ rfl,
    fun L u => u_field u (gd0 rfl) 28 rfl 59 (.tmp 3) 1 rfl rfl rfl Tryd.underlying59 rfl i24 _ rfl,
    fun L u => u_load u (gd0 rfl) 29 rfl 24 (.tmp 28) rfl rfl rfl Tryd.underlying24 rfl i24 (lk rfl) _ rfl,
    fun L u => u_call u (gd0 rfl) 30 rfl 34 #[(.tmp 27), (.tmp 29)] #[24, 24] rfl [.agg (gc (y1)).toArray, .agg (gc (y2)).toArray] rfl (cE34 _) (.agg (gc ((y1) * (y2))).toArray) (fun w hb => s_mul (hT.keep (Bs.kp_of hb)) _ _),
    fun L u => u_alloc u (gd0 rfl) 24 rfl 7 rfl rfl z24 _ rfl,
    fun L u => u_alloc u (gd0 rfl) 24 rfl 8 rfl rfl z24 _ rfl,
    fun L u => u_store u (gd0 rfl) 24 (.tmp 7) (.tmp 25) rfl rfl rfl (vs := gc ((x1) * (x2))) rfl rfl i24 (lk rfl) rfl _ rfl,
    fun L u => u_store u (gd0 rfl) 24 (.tmp 8) (.tmp 30) rfl rfl rfl (vs := gc ((y1) * (y2))) rfl rfl i24 (lk rfl) rfl _ rfl,
    trivial⟩ [(2, .ptr 2 0), (3, .ptr 3 0), (4, .ptr 4 0), (5, .ptr 5 0), (6, .ptr 6 0), (7, .ptr 7 0), (8, .ptr 8 0)] [(2, gc (x1) ++ gc (y1) ++ gc (z1)), (3, gc (x2) ++ gc (y2) ++ gc (z2)), (4, nz ++ nz ++ nz), (5, gc ((z1) * (z2))), (6, gc (((z1) * (z2)) * ((z1) * (z2)))), (7, gc ((x1) * (x2))), (8, gc ((y1) * (y2)))] ⟨rfl, rfl, rfl, rfl, rfl, rfl, rfl, trivial⟩ ⟨rfl, rfl, rfl, rfl, rfl, rfl, rfl, trivial⟩ rfl (fun a w h => ?_)
  refine go_region h hm [eS 31 (.val (.agg (gc (ed)).toArray)), eS 32 (.val (.agg (gc ((x1) * (x2))).toArray)), eS 33 (.val (.agg (gc ((y1) * (y2))).toArray)), eS 34 (.val (.agg (gc (((x1) * (x2)) * ((y1) * (y2)))).toArray)), eS 35 (.val (.agg (gc ((ed) * (((x1) * (x2)) * ((y1) * (y2))))).toArray)), eN 9 (nz), eM 9 (gc ((ed) * (((x1) * (x2)) * ((y1) * (y2)))))] (by kernel_rfl) ⟨
    fun L u => u_call u (gd0 rfl) 31 rfl 38 #[] #[] rfl [] rfl (cE38 _) (.agg (gc (ed)).toArray) (fun w hb => s_D),
    fun L u => u_load u (gd0 rfl) 32 rfl 24 (.tmp 7) rfl rfl rfl Tryd.underlying24 rfl i24 (lk rfl) _ rfl,
    fun L u => u_load u (gd0 rfl) 33 rfl 24 (.tmp 8) rfl rfl rfl Tryd.underlying24 rfl i24 (lk rfl) _ rfl,
    fun L u => u_call u (gd0 rfl) 34 rfl 34 #[(.tmp 32), (.tmp 33)] #[24, 24] rfl [.agg (gc ((x1) * (x2))).toArray, .agg (gc ((y1) * (y2))).toArray] rfl (cE34 _) (.agg (gc (((x1) * (x2)) * ((y1) * (y2)))).toArray) (fun w hb => s_mul (hT.keep (Bs.kp_of hb)) _ _),
    fun L u => u_call u (gd0 rfl) 35 rfl 34 #[(.tmp 31), (.tmp 34)] #[24, 24] rfl [.agg (gc (ed)).toArray, .agg (gc (((x1) * (x2)) * ((y1) * (y2)))).toArray] rfl (cE34 _) (.agg (gc ((ed) * (((x1) * (x2)) * ((y1) * (y2))))).toArray) (fun w hb => s_mul (hT.keep (Bs.kp_of hb)) _ _),
    fun L u => u_alloc u (gd0 rfl) 24 rfl 9 rfl rfl z24 _ rfl,
    fun L u => u_store u (gd0 rfl) 24 (.tmp 9) (.tmp 35) rfl rfl rfl (vs := gc ((ed) * (((x1) * (x2)) * ((y1) * (y2))))) rfl rfl i24 (lk rfl) rfl _ rfl,
    trivial⟩ [(2, .ptr 2 0), (3, .ptr 3 0), (4, .ptr 4 0), (5, .ptr 5 0), (6, .ptr 6 0), (7, .ptr 7 0), (8, .ptr 8 0), (9, .ptr 9 0)] [(2, gc (x1) ++ gc (y1) ++ gc (z1)), (3, gc (x2) ++ gc (y2) ++ gc (z2)), (4, nz ++ nz ++ nz), (5, gc ((z1) * (z2))), (6, gc (((z1) * (z2)) * ((z1) * (z2)))), (7, gc ((x1) * (x2))), (8, gc ((y1) * (y2))), (9, gc ((ed) * (((x1) * (x2)) * ((y1) * (y2)))))] ⟨rfl, rfl, rfl, rfl, rfl, rfl, rfl, rfl, trivial⟩ ⟨rfl, rfl, rfl, rfl, rfl, rfl, rfl, rfl, trivial⟩ rfl (fun a w h => ?_)
  refine go_region h hm [eS 36 (.ptr 2 0), eS 37 (.val (.agg (gc (x1)).toArray)), eS 38 (.ptr 3 4), eS 39 (.val (.agg (gc (y2)).toArray)), eS 40 (.val (.agg (gc ((x1) * (y2))).toArray)), eS 41 (.ptr 3 0), eS 42 (.val (.agg (gc (x2)).toArray)), eS 43 (.ptr 2 4), eS 44 (.val (.agg (gc (y1)).toArray)), eS 45 (.val (.agg (gc ((x2) * (y1))).toArray)), eS 46 (.val (.agg (gc (((x1) * (y2)) + ((x2) * (y1)))).toArray)), eN 10 (nz), eM 10 (gc (((x1) * (y2)) + ((x2) * (y1))))] (by kernel_rfl) ⟨
    fun L u => u_field u (gd0 rfl) 36 rfl 59 (.tmp 2) 0 rfl rfl rfl Tryd.underlying59 rfl i24 _ rfl,
    fun L u => u_load u (gd0 rfl) 37 rfl 24 (.tmp 36) rfl rfl rfl Tryd.underlying24 rfl i24 (lk rfl) _ rfl,
    fun L u => u_field u (gd0 rfl) 38 rfl 59 (.tmp 3) 1 rfl rfl rfl Tryd.underlying59 rfl i24 _ rfl,
    fun L u => u_load u (gd0 rfl) 39 rfl 24 (.tmp 38) rfl rfl rfl Tryd.underlying24 rfl i24 (lk rfl) _ rfl,
    fun L u => u_call u (gd0 rfl) 40 rfl 34 #[(.tmp 37), (.tmp 39)] #[24, 24] rfl [.agg (gc (x1)).toArray, .agg (gc (y2)).toArray] rfl (cE34 _) (.agg (gc ((x1) * (y2))).toArray) (fun w hb => s_mul (hT.keep (Bs.kp_of hb)) _ _),
    fun L u => u_field u (gd0 rfl) 41 rfl 59 (.tmp 3) 0 rfl rfl rfl Tryd.underlying59 rfl i24 _ rfl,
    fun L u => u_load u (gd0 rfl) 42 rfl 24 (.tmp 41) rfl rfl rfl Tryd.underlying24 rfl i24 (lk rfl) _ rfl,
    fun L u => u_field u (gd0 rfl) 43 rfl 59 (.tmp 2) 1 rfl rfl rfl Tryd.underlying59 rfl i24 _ rfl,
    fun L u => u_load u (gd0 rfl) 44 rfl 24 (.tmp 43) rfl rfl rfl Tryd.underlying24 rfl i24 (lk rfl) _ rfl,
    fun L u => u_call u (gd0 rfl) 45 rfl 34 #[(.tmp 42), (.tmp 44)] #[24, 24] rfl [.agg (gc (x2)).toArray, .agg (gc (y1)).toArray] rfl (cE34 _) (.agg (gc ((x2) * (y1))).toArray) (fun w hb => s_mul (hT.keep (Bs.kp_of hb)) _ _),
    fun L u => u_call u (gd0 rfl) 46 rfl 36 #[(.tmp 40), (.tmp 45)] #[24, 24] rfl [.agg (gc ((x1) * (y2))).toArray, .agg (gc ((x2) * (y1))).toArray] rfl (cE36 _) (.agg (gc (((x1) * (y2)) + ((x2) * (y1)))).toArray) (fun w hb => s_add (hT.keep (Bs.kp_of hb)) _ _),
    fun L u => u_alloc u (gd0 rfl) 24 rfl 10 rfl rfl z24 _ rfl,
    fun L u => u_store u (gd0 rfl) 24 (.tmp 10) (.tmp 46) rfl rfl rfl (vs := gc (((x1) * (y2)) + ((x2) * (y1)))) rfl rfl i24 (lk rfl) rfl _ rfl,
    trivial⟩ [(4, .ptr 4 0), (5, .ptr 5 0), (6, .ptr 6 0), (7, .ptr 7 0), (8, .ptr 8 0), (9, .ptr 9 0), (10, .ptr 10 0)] [(4, nz ++ nz ++ nz), (5, gc ((z1) * (z2))), (6, gc (((z1) * (z2)) * ((z1) * (z2)))), (7, gc ((x1) * (x2))), (8, gc ((y1) * (y2))), (9, gc ((ed) * (((x1) * (x2)) * ((y1) * (y2))))), (10, gc (((x1) * (y2)) + ((x2) * (y1))))] ⟨rfl, rfl, rfl, rfl, rfl, rfl, rfl, trivial⟩ ⟨rfl, rfl, rfl, rfl, rfl, rfl, rfl, trivial⟩ rfl (fun a w h => ?_)
  refine go_region h hm [eS 47 (.val (.agg (gc (((z1) * (z2)) * ((z1) * (z2)))).toArray)), eS 48 (.val (.agg (gc ((ed) * (((x1) * (x2)) * ((y1) * (y2))))).toArray)), eS 49 (.val (.agg (gc ((((z1) * (z2)) * ((z1) * (z2))) - ((ed) * (((x1) * (x2)) * ((y1) * (y2)))))).toArray)), eS 50 (.val (.agg (gc (((z1) * (z2)) * ((z1) * (z2)))).toArray)), eS 51 (.val (.agg (gc ((ed) * (((x1) * (x2)) * ((y1) * (y2))))).toArray)), eS 52 (.val (.agg (gc ((((z1) * (z2)) * ((z1) * (z2))) + ((ed) * (((x1) * (x2)) * ((y1) * (y2)))))).toArray)), eN 11 (nz), eN 12 (nz), eM 11 (gc ((((z1) * (z2)) * ((z1) * (z2))) - ((ed) * (((x1) * (x2)) * ((y1) * (y2)))))), eM 12 (gc ((((z1) * (z2)) * ((z1) * (z2))) + ((ed) * (((x1) * (x2)) * ((y1) * (y2))))))] (by kernel_rfl) ⟨
    fun L u => u_load u (gd0 rfl) 47 rfl 24 (.tmp 6) rfl rfl rfl Tryd.underlying24 rfl i24 (lk rfl) _ rfl,
    fun L u => u_load u (gd0 rfl) 48 rfl 24 (.tmp 9) rfl rfl rfl Tryd.underlying24 rfl i24 (lk rfl) _ rfl,
    fun L u => u_call u (gd0 rfl) 49 rfl 35 #[(.tmp 47), (.tmp 48)] #[24, 24] rfl [.agg (gc (((z1) * (z2)) * ((z1) * (z2)))).toArray, .agg (gc ((ed) * (((x1) * (x2)) * ((y1) * (y2))))).toArray] rfl (cE35 _) (.agg (gc ((((z1) * (z2)) * ((z1) * (z2))) - ((ed) * (((x1) * (x2)) * ((y1) * (y2)))))).toArray) (fun w hb => s_sub (hT.keep (Bs.kp_of hb)) _ _),
    fun L u => u_load u (gd0 rfl) 50 rfl 24 (.tmp 6) rfl rfl rfl Tryd.underlying24 rfl i24 (lk rfl) _ rfl,
    fun L u => u_load u (gd0 rfl) 51 rfl 24 (.tmp 9) rfl rfl rfl Tryd.underlying24 rfl i24 (lk rfl) _ rfl,
    fun L u => u_call u (gd0 rfl) 52 rfl 36 #[(.tmp 50), (.tmp 51)] #[24, 24] rfl [.agg (gc (((z1) * (z2)) * ((z1) * (z2)))).toArray, .agg (gc ((ed) * (((x1) * (x2)) * ((y1) * (y2))))).toArray] rfl (cE36 _) (.agg (gc ((((z1) * (z2)) * ((z1) * (z2))) + ((ed) * (((x1) * (x2)) * ((y1) * (y2)))))).toArray) (fun w hb => s_add (hT.keep (Bs.kp_of hb)) _ _),
    fun L u => u_alloc u (gd0 rfl) 24 rfl 11 rfl rfl z24 _ rfl,
    fun L u => u_alloc u (gd0 rfl) 24 rfl 12 rfl rfl z24 _ rfl,
    fun L u => u_store u (gd0 rfl) 24 (.tmp 11) (.tmp 49) rfl rfl rfl (vs := gc ((((z1) * (z2)) * ((z1) * (z2))) - ((ed) * (((x1) * (x2)) * ((y1) * (y2)))))) rfl rfl i24 (lk rfl) rfl _ rfl,
    fun L u => u_store u (gd0 rfl) 24 (.tmp 12) (.tmp 52) rfl rfl rfl (vs := gc ((((z1) * (z2)) * ((z1) * (z2))) + ((ed) * (((x1) * (x2)) * ((y1) * (y2)))))) rfl rfl i24 (lk rfl) rfl _ rfl,
    trivial⟩ [(4, .ptr 4 0), (5, .ptr 5 0), (7, .ptr 7 0), (8, .ptr 8 0), (10, .ptr 10 0), (11, .ptr 11 0), (12, .ptr 12 0)] [(4, nz ++ nz ++ nz), (5, gc ((z1) * (z2))), (7, gc ((x1) * (x2))), (8, gc ((y1) * (y2))), (10, gc (((x1) * (y2)) + ((x2) * (y1)))), (11, gc ((((z1) * (z2)) * ((z1) * (z2))) - ((ed) * (((x1) * (x2)) * ((y1) * (y2)))))), (12, gc ((((z1) * (z2)) * ((z1) * (z2))) + ((ed) * (((x1) * (x2)) * ((y1) * (y2))))))] ⟨rfl, rfl, rfl, rfl, rfl, rfl, rfl, trivial⟩ ⟨rfl, rfl, rfl, rfl, rfl, rfl, rfl, trivial⟩ rfl (fun a w h => ?_)
  refine go_region h hm [eS 53 (.val (.agg (gc ((z1) * (z2))).toArray)), eS 54 (.val (.agg (gc (((x1) * (y2)) + ((x2) * (y1)))).toArray)), eS 55 (.val (.agg (gc (((z1) * (z2)) * (((x1) * (y2)) + ((x2) * (y1))))).toArray)), eS 56 (.val (.agg (gc ((((z1) * (z2)) * ((z1) * (z2))) - ((ed) * (((x1) * (x2)) * ((y1) * (y2)))))).toArray)), eS 57 (.val (.agg (gc ((((z1) * (z2)) * (((x1) * (y2)) + ((x2) * (y1)))) * ((((z1) * (z2)) * ((z1) * (z2))) - ((ed) * (((x1) * (x2)) * ((y1) * (y2))))))).toArray)), eS 58 (.val (.agg (gc ((z1) * (z2))).toArray)), eS 59 (.val (.agg (gc ((y1) * (y2))).toArray)), eS 60 (.val (.agg (gc ((x1) * (x2))).toArray)), eS 61 (.val (.agg (gc (((y1) * (y2)) + ((x1) * (x2)))).toArray)), eS 62 (.val (.agg (gc (((z1) * (z2)) * (((y1) * (y2)) + ((x1) * (x2))))).toArray)), eS 63 (.val (.agg (gc ((((z1) * (z2)) * ((z1) * (z2))) + ((ed) * (((x1) * (x2)) * ((y1) * (y2)))))).toArray)), eS 64 (.val (.agg (gc ((((z1) * (z2)) * (((y1) * (y2)) + ((x1) * (x2)))) * ((((z1) * (z2)) * ((z1) * (z2))) + ((ed) * (((x1) * (x2)) * ((y1) * (y2))))))).toArray)), eS 65 (.val (.agg (gc ((((z1) * (z2)) * ((z1) * (z2))) - ((ed) * (((x1) * (x2)) * ((y1) * (y2)))))).toArray)), eS 66 (.val (.agg (gc ((((z1) * (z2)) * ((z1) * (z2))) + ((ed) * (((x1) * (x2)) * ((y1) * (y2)))))).toArray)), eS 67 (.val (.agg (gc (((((z1) * (z2)) * ((z1) * (z2))) - ((ed) * (((x1) * (x2)) * ((y1) * (y2))))) * ((((z1) * (z2)) * ((z1) * (z2))) + ((ed) * (((x1) * (x2)) * ((y1) * (y2))))))).toArray)), eS 68 (.val (.agg (gc ((((z1) * (z2)) * (((x1) * (y2)) + ((x2) * (y1)))) * ((((z1) * (z2)) * ((z1) * (z2))) - ((ed) * (((x1) * (x2)) * ((y1) * (y2)))))) ++ gc ((((z1) * (z2)) * (((y1) * (y2)) + ((x1) * (x2)))) * ((((z1) * (z2)) * ((z1) * (z2))) + ((ed) * (((x1) * (x2)) * ((y1) * (y2)))))) ++ gc (((((z1) * (z2)) * ((z1) * (z2))) - ((ed) * (((x1) * (x2)) * ((y1) * (y2))))) * ((((z1) * (z2)) * ((z1) * (z2))) + ((ed) * (((x1) * (x2)) * ((y1) * (y2))))))).toArray)), eM 4 (gc ((((z1) * (z2)) * (((x1) * (y2)) + ((x2) * (y1)))) * ((((z1) * (z2)) * ((z1) * (z2))) - ((ed) * (((x1) * (x2)) * ((y1) * (y2)))))) ++ gc ((((z1) * (z2)) * (((y1) * (y2)) + ((x1) * (x2)))) * ((((z1) * (z2)) * ((z1) * (z2))) + ((ed) * (((x1) * (x2)) * ((y1) * (y2)))))) ++ gc (((((z1) * (z2)) * ((z1) * (z2))) - ((ed) * (((x1) * (x2)) * ((y1) * (y2))))) * ((((z1) * (z2)) * ((z1) * (z2))) + ((ed) * (((x1) * (x2)) * ((y1) * (y2)))))))] (by kernel_rfl) ⟨
    fun L u => u_load u (gd0 rfl) 53 rfl 24 (.tmp 5) rfl rfl rfl Tryd.underlying24 rfl i24 (lk rfl) _ rfl,
    fun L u => u_load u (gd0 rfl) 54 rfl 24 (.tmp 10) rfl rfl rfl Tryd.underlying24 rfl i24 (lk rfl) _ rfl,
    fun L u => u_call u (gd0 rfl) 55 rfl 34 #[(.tmp 53), (.tmp 54)] #[24, 24] rfl [.agg (gc ((z1) * (z2))).toArray, .agg (gc (((x1) * (y2)) + ((x2) * (y1)))).toArray] rfl (cE34 _) (.agg (gc (((z1) * (z2)) * (((x1) * (y2)) + ((x2) * (y1))))).toArray) (fun w hb => s_mul (hT.keep (Bs.kp_of hb)) _ _),
    fun L u => u_load u (gd0 rfl) 56 rfl 24 (.tmp 11) rfl rfl rfl Tryd.underlying24 rfl i24 (lk rfl) _ rfl,
    fun L u => u_call u (gd0 rfl) 57 rfl 34 #[(.tmp 55), (.tmp 56)] #[24, 24] rfl [.agg (gc (((z1) * (z2)) * (((x1) * (y2)) + ((x2) * (y1))))).toArray, .agg (gc ((((z1) * (z2)) * ((z1) * (z2))) - ((ed) * (((x1) * (x2)) * ((y1) * (y2)))))).toArray] rfl (cE34 _) (.agg (gc ((((z1) * (z2)) * (((x1) * (y2)) + ((x2) * (y1)))) * ((((z1) * (z2)) * ((z1) * (z2))) - ((ed) * (((x1) * (x2)) * ((y1) * (y2))))))).toArray) (fun w hb => s_mul (hT.keep (Bs.kp_of hb)) _ _),
    fun L u => u_load u (gd0 rfl) 58 rfl 24 (.tmp 5) rfl rfl rfl Tryd.underlying24 rfl i24 (lk rfl) _ rfl,
    fun L u => u_load u (gd0 rfl) 59 rfl 24 (.tmp 8) rfl rfl rfl Tryd.underlying24 rfl i24 (lk rfl) _ rfl,
    fun L u => u_load u (gd0 rfl) 60 rfl 24 (.tmp 7) rfl rfl rfl Tryd.underlying24 rfl i24 (lk rfl) _ rfl,
    fun L u => u_call u (gd0 rfl) 61 rfl 36 #[(.tmp 59), (.tmp 60)] #[24, 24] rfl [.agg (gc ((y1) * (y2))).toArray, .agg (gc ((x1) * (x2))).toArray] rfl (cE36 _) (.agg (gc (((y1) * (y2)) + ((x1) * (x2)))).toArray) (fun w hb => s_add (hT.keep (Bs.kp_of hb)) _ _),
    fun L u => u_call u (gd0 rfl) 62 rfl 34 #[(.tmp 58), (.tmp 61)] #[24, 24] rfl [.agg (gc ((z1) * (z2))).toArray, .agg (gc (((y1) * (y2)) + ((x1) * (x2)))).toArray] rfl (cE34 _) (.agg (gc (((z1) * (z2)) * (((y1) * (y2)) + ((x1) * (x2))))).toArray) (fun w hb => s_mul (hT.keep (Bs.kp_of hb)) _ _),
    fun L u => u_load u (gd0 rfl) 63 rfl 24 (.tmp 12) rfl rfl rfl Tryd.underlying24 rfl i24 (lk rfl) _ rfl,
    fun L u => u_call u (gd0 rfl) 64 rfl 34 #[(.tmp 62), (.tmp 63)] #[24, 24] rfl [.agg (gc (((z1) * (z2)) * (((y1) * (y2)) + ((x1) * (x2))))).toArray, .agg (gc ((((z1) * (z2)) * ((z1) * (z2))) + ((ed) * (((x1) * (x2)) * ((y1) * (y2)))))).toArray] rfl (cE34 _) (.agg (gc ((((z1) * (z2)) * (((y1) * (y2)) + ((x1) * (x2)))) * ((((z1) * (z2)) * ((z1) * (z2))) + ((ed) * (((x1) * (x2)) * ((y1) * (y2))))))).toArray) (fun w hb => s_mul (hT.keep (Bs.kp_of hb)) _ _),
    fun L u => u_load u (gd0 rfl) 65 rfl 24 (.tmp 11) rfl rfl rfl Tryd.underlying24 rfl i24 (lk rfl) _ rfl,
    fun L u => u_load u (gd0 rfl) 66 rfl 24 (.tmp 12) rfl rfl rfl Tryd.underlying24 rfl i24 (lk rfl) _ rfl,
    fun L u => u_call u (gd0 rfl) 67 rfl 34 #[(.tmp 65), (.tmp 66)] #[24, 24] rfl [.agg (gc ((((z1) * (z2)) * ((z1) * (z2))) - ((ed) * (((x1) * (x2)) * ((y1) * (y2)))))).toArray, .agg (gc ((((z1) * (z2)) * ((z1) * (z2))) + ((ed) * (((x1) * (x2)) * ((y1) * (y2)))))).toArray] rfl (cE34 _) (.agg (gc (((((z1) * (z2)) * ((z1) * (z2))) - ((ed) * (((x1) * (x2)) * ((y1) * (y2))))) * ((((z1) * (z2)) * ((z1) * (z2))) + ((ed) * (((x1) * (x2)) * ((y1) * (y2))))))).toArray) (fun w hb => s_mul (hT.keep (Bs.kp_of hb)) _ _),
    fun L u => u_build u (gd0 rfl) 68 rfl 59 #[(0, (.tmp 57)), (1, (.tmp 64)), (2, (.tmp 67))] rfl [(0, .agg (gc ((((z1) * (z2)) * (((x1) * (y2)) + ((x2) * (y1)))) * ((((z1) * (z2)) * ((z1) * (z2))) - ((ed) * (((x1) * (x2)) * ((y1) * (y2))))))).toArray), (1, .agg (gc ((((z1) * (z2)) * (((y1) * (y2)) + ((x1) * (x2)))) * ((((z1) * (z2)) * ((z1) * (z2))) + ((ed) * (((x1) * (x2)) * ((y1) * (y2))))))).toArray), (2, .agg (gc (((((z1) * (z2)) * ((z1) * (z2))) - ((ed) * (((x1) * (x2)) * ((y1) * (y2))))) * ((((z1) * (z2)) * ((z1) * (z2))) + ((ed) * (((x1) * (x2)) * ((y1) * (y2))))))).toArray)] rfl (gc ((((z1) * (z2)) * (((x1) * (y2)) + ((x2) * (y1)))) * ((((z1) * (z2)) * ((z1) * (z2))) - ((ed) * (((x1) * (x2)) * ((y1) * (y2)))))) ++ gc ((((z1) * (z2)) * (((y1) * (y2)) + ((x1) * (x2)))) * ((((z1) * (z2)) * ((z1) * (z2))) + ((ed) * (((x1) * (x2)) * ((y1) * (y2)))))) ++ gc (((((z1) * (z2)) * ((z1) * (z2))) - ((ed) * (((x1) * (x2)) * ((y1) * (y2))))) * ((((z1) * (z2)) * ((z1) * (z2))) + ((ed) * (((x1) * (x2)) * ((y1) * (y2))))))) (g_bF _ _ _),
    fun L u => u_store u (gd0 rfl) 59 (.tmp 4) (.tmp 68) rfl rfl rfl (vs := gc ((((z1) * (z2)) * (((x1) * (y2)) + ((x2) * (y1)))) * ((((z1) * (z2)) * ((z1) * (z2))) - ((ed) * (((x1) * (x2)) * ((y1) * (y2)))))) ++ gc ((((z1) * (z2)) * (((y1) * (y2)) + ((x1) * (x2)))) * ((((z1) * (z2)) * ((z1) * (z2))) + ((ed) * (((x1) * (x2)) * ((y1) * (y2)))))) ++ gc (((((z1) * (z2)) * ((z1) * (z2))) - ((ed) * (((x1) * (x2)) * ((y1) * (y2))))) * ((((z1) * (z2)) * ((z1) * (z2))) + ((ed) * (((x1) * (x2)) * ((y1) * (y2))))))) rfl rfl i59 (lk rfl) rfl _ rfl,
    trivial⟩ [(4, .ptr 4 0)] [(4, gc ((((z1) * (z2)) * (((x1) * (y2)) + ((x2) * (y1)))) * ((((z1) * (z2)) * ((z1) * (z2))) - ((ed) * (((x1) * (x2)) * ((y1) * (y2)))))) ++ gc ((((z1) * (z2)) * (((y1) * (y2)) + ((x1) * (x2)))) * ((((z1) * (z2)) * ((z1) * (z2))) + ((ed) * (((x1) * (x2)) * ((y1) * (y2)))))) ++ gc (((((z1) * (z2)) * ((z1) * (z2))) - ((ed) * (((x1) * (x2)) * ((y1) * (y2))))) * ((((z1) * (z2)) * ((z1) * (z2))) + ((ed) * (((x1) * (x2)) * ((y1) * (y2)))))))] ⟨rfl, trivial⟩ ⟨rfl, trivial⟩ rfl (fun a w h => ?_)
  refine wp_ret ?_
  refine ret_row h 4 59 rfl (lk rfl) 4 rfl (gc ((((z1) * (z2)) * (((x1) * (y2)) + ((x2) * (y1)))) * ((((z1) * (z2)) * ((z1) * (z2))) - ((ed) * (((x1) * (x2)) * ((y1) * (y2)))))) ++ gc ((((z1) * (z2)) * (((y1) * (y2)) + ((x1) * (x2)))) * ((((z1) * (z2)) * ((z1) * (z2))) + ((ed) * (((x1) * (x2)) * ((y1) * (y2)))))) ++ gc (((((z1) * (z2)) * ((z1) * (z2))) - ((ed) * (((x1) * (x2)) * ((y1) * (y2))))) * ((((z1) * (z2)) * ((z1) * (z2))) + ((ed) * (((x1) * (x2)) * ((y1) * (y2))))))) rfl _ Tryd.underlying59 rfl i59 ?_
  exact ⟨rfl, h.grows⟩
set_option maxRecDepth 100000 in
set_option maxHeartbeats 4000000 in
theorem s_drop {w : World} (hT : Tab w) (x y z : Fin m2) : Calls Tryd.prog 42 [.agg (gc (x) ++ gc (y) ++ gc (z)).toArray].toArray w fun e w' => e = .returned (.agg (pcE (fdrop ⟨x, y, z⟩)).toArray) ∧ Below w.heap.size w w' := by
  refine enter (args := [.agg (gc (x) ++ gc (y) ++ gc (z)).toArray]) Tryd.func42 rfl 16 rfl (lk rfl) (fun a h => ?_)
  refine go_region h hm [eN 1 (gc (x) ++ gc (y) ++ gc (z)), eN 2 (nz ++ nz ++ [Value.bool false])] (by kernel_rfl) ⟨
    fun L u => u_box u (gd0 rfl) 59 (.tmp 0) rfl 1 rfl rfl rfl _ rfl,
    fun L u => u_alloc u (gd0 rfl) 26 rfl 2 rfl rfl z26 _ rfl,
    trivial⟩ [(1, .ptr 1 0), (2, .ptr 2 0)] [(1, gc (x) ++ gc (y) ++ gc (z)), (2, nz ++ nz ++ [Value.bool false])] ⟨rfl, rfl, trivial⟩ ⟨rfl, rfl, trivial⟩ rfl (fun a w h => ?_)
  refine go_region h hm [eS 4 (.ptr 1 8), eS 5 (.val (.agg (gc (z)).toArray)), eS 6 (.val (.agg (gc (fiv (z))).toArray)), eN 3 (nz), eM 3 (gc (fiv (z)))] (by kernel_rfl) ⟨
    fun L u => u_field u (gd0 rfl) 4 rfl 59 (.tmp 1) 2 rfl rfl rfl Tryd.underlying59 rfl i24 _ rfl,
    fun L u => u_load u (gd0 rfl) 5 rfl 24 (.tmp 4) rfl rfl rfl Tryd.underlying24 rfl i24 (lk rfl) _ rfl,
    fun L u => u_call u (gd0 rfl) 6 rfl 58 #[(.const (.int .i64 2)), (.tmp 5)] #[3, 24] rfl [(Value.int IntKind.i64 2), .agg (gc (z)).toArray] rfl (cE58 _) (.agg (gc (fiv (z))).toArray) (fun w hb => d_inv (hT.keep (Bs.kp_of hb)) _),
    fun L u => u_alloc u (gd0 rfl) 24 rfl 3 rfl rfl z24 _ rfl,
    fun L u => u_store u (gd0 rfl) 24 (.tmp 3) (.tmp 6) rfl rfl rfl (vs := gc (fiv (z))) rfl rfl i24 (lk rfl) rfl _ rfl,
    trivial⟩ [(1, .ptr 1 0), (2, .ptr 2 0), (3, .ptr 3 0)] [(1, gc (x) ++ gc (y) ++ gc (z)), (2, nz ++ nz ++ [Value.bool false]), (3, gc (fiv (z)))] ⟨rfl, rfl, rfl, trivial⟩ ⟨rfl, rfl, rfl, trivial⟩ rfl (fun a w h => ?_)
  refine go_region h hm [eS 7 (.ptr 1 0), eS 8 (.val (.agg (gc (x)).toArray)), eS 9 (.val (.agg (gc (fiv (z))).toArray)), eS 10 (.val (.agg (gc ((x) * (fiv (z)))).toArray)), eS 11 (.ptr 1 4), eS 12 (.val (.agg (gc (y)).toArray)), eS 13 (.val (.agg (gc (fiv (z))).toArray)), eS 14 (.val (.agg (gc ((y) * (fiv (z)))).toArray)), eS 15 (.val (.agg (gc ((x) * (fiv (z))) ++ gc ((y) * (fiv (z))) ++ [Value.bool false]).toArray)), eM 2 (gc ((x) * (fiv (z))) ++ gc ((y) * (fiv (z))) ++ [Value.bool false])] (by kernel_rfl) ⟨
    fun L u => u_field u (gd0 rfl) 7 rfl 59 (.tmp 1) 0 rfl rfl rfl Tryd.underlying59 rfl i24 _ rfl,
    fun L u => u_load u (gd0 rfl) 8 rfl 24 (.tmp 7) rfl rfl rfl Tryd.underlying24 rfl i24 (lk rfl) _ rfl,
    fun L u => u_load u (gd0 rfl) 9 rfl 24 (.tmp 3) rfl rfl rfl Tryd.underlying24 rfl i24 (lk rfl) _ rfl,
    fun L u => u_call u (gd0 rfl) 10 rfl 34 #[(.tmp 8), (.tmp 9)] #[24, 24] rfl [.agg (gc (x)).toArray, .agg (gc (fiv (z))).toArray] rfl (cE34 _) (.agg (gc ((x) * (fiv (z)))).toArray) (fun w hb => s_mul (hT.keep (Bs.kp_of hb)) _ _),
    fun L u => u_field u (gd0 rfl) 11 rfl 59 (.tmp 1) 1 rfl rfl rfl Tryd.underlying59 rfl i24 _ rfl,
    fun L u => u_load u (gd0 rfl) 12 rfl 24 (.tmp 11) rfl rfl rfl Tryd.underlying24 rfl i24 (lk rfl) _ rfl,
    fun L u => u_load u (gd0 rfl) 13 rfl 24 (.tmp 3) rfl rfl rfl Tryd.underlying24 rfl i24 (lk rfl) _ rfl,
    fun L u => u_call u (gd0 rfl) 14 rfl 34 #[(.tmp 12), (.tmp 13)] #[24, 24] rfl [.agg (gc (y)).toArray, .agg (gc (fiv (z))).toArray] rfl (cE34 _) (.agg (gc ((y) * (fiv (z)))).toArray) (fun w hb => s_mul (hT.keep (Bs.kp_of hb)) _ _),
    fun L u => u_build u (gd0 rfl) 15 rfl 26 #[(0, (.tmp 10)), (1, (.tmp 14))] rfl [(0, .agg (gc ((x) * (fiv (z)))).toArray), (1, .agg (gc ((y) * (fiv (z)))).toArray)] rfl (gc ((x) * (fiv (z))) ++ gc ((y) * (fiv (z))) ++ [Value.bool false]) (g_bP _ _),
    fun L u => u_store u (gd0 rfl) 26 (.tmp 2) (.tmp 15) rfl rfl rfl (vs := gc ((x) * (fiv (z))) ++ gc ((y) * (fiv (z))) ++ [Value.bool false]) rfl rfl i26 (lk rfl) rfl _ rfl,
    trivial⟩ [(2, .ptr 2 0)] [(2, gc ((x) * (fiv (z))) ++ gc ((y) * (fiv (z))) ++ [Value.bool false])] ⟨rfl, trivial⟩ ⟨rfl, trivial⟩ rfl (fun a w h => ?_)
  refine wp_ret ?_
  refine ret_row h 2 26 rfl (lk rfl) 2 rfl (gc ((x) * (fiv (z))) ++ gc ((y) * (fiv (z))) ++ [Value.bool false]) rfl _ Tryd.underlying26 rfl i26 ?_
  exact ⟨rfl, h.grows⟩
theorem s_below {a : Int} (ha : Num a) {t : Bool} (ht : decide (a < md 2) = t) {w : World} : Calls Tryd.prog 33 [.int .i64 2, .agg (nc a).toArray].toArray w fun e w' => e = .returned (.bool t) ∧ Below w.heap.size w w' := by
  rw [← ht]
  exact refBelow_any ha w
theorem gin_lt (x : Fin m2) : decide ((x.val : Int) < md 2) = true := by
  rw [md_m2]
  have := x.isLt
  exact decide_eq_true (by omega)
set_option maxRecDepth 100000 in
set_option maxHeartbeats 4000000 in
theorem s_formed_none {w : World} {X Y : Int} : Calls Tryd.prog 11 [.agg (nc (X) ++ nc (Y) ++ [Value.bool true]).toArray].toArray w fun e w' => e = .returned (.bool false) ∧ Below w.heap.size w w' := by
  refine enter (args := [.agg (nc (X) ++ nc (Y) ++ [Value.bool true]).toArray]) Tryd.func11 rfl 40 rfl (lk rfl) (fun a h => ?_)
  refine go_region h hm [eN 1 (nc (X) ++ nc (Y) ++ [Value.bool true]), eS 2 (.val (Value.bool false))] (by kernel_rfl) ⟨
    fun L u => u_box u (gd0 rfl) 26 (.tmp 0) rfl 1 rfl rfl rfl _ rfl,
    fun L u => u_move u (gd0 rfl) 2 rfl (.const (.bool false)) (Or.inr rfl) rfl,
    trivial⟩ [(1, .ptr 1 0)] [(1, nc (X) ++ nc (Y) ++ [Value.bool true])] ⟨rfl, trivial⟩ ⟨rfl, trivial⟩ rfl (fun a w h => ?_)
  refine wp_seq ?_
  refine go_region h hm [eS 5 (.ptr 1 8), eS 6 (.val (Value.bool true)), eS 7 (.val (Value.bool true)), eS 8 (.val undef), eS 9 (.val undef), eS 10 (.val undef), eS 11 (.val undef), eS 12 (.val (Value.bool true)), eS 13 (.val (Value.bool true)), eS 14 (.val undef), eS 15 (.val undef), eS 16 (.val undef), eS 17 (.val undef), eS 18 (.val (Value.bool true))] (by kernel_rfl) ⟨
    fun L u => u_field u (gd0 rfl) 5 rfl 26 (.tmp 1) 2 rfl rfl rfl Tryd.underlying26 rfl i4 _ rfl,
    fun L u => u_load1 u (gd0 rfl) 6 rfl 4 (.tmp 5) rfl rfl rfl Tryd.underlying4 rfl _ rfl,
    fun L u => u_move u (gd0 rfl) 7 rfl (.tmp 6) (Or.inl rfl) rfl,
    fun L u => u_no u 2 false rfl 7 rfl (lk rfl) rfl 8 rfl,
    fun L u => u_no u 2 false rfl 7 rfl (lk rfl) rfl 9 rfl,
    fun L u => u_no u 2 false rfl 7 rfl (lk rfl) rfl 10 rfl,
    fun L u => u_no u 2 false rfl 7 rfl (lk rfl) rfl 11 rfl,
    fun L u => u_pick u (gd0 rfl) 12 rfl (.tmp 7) (.const (.bool true)) (.tmp 11) rfl rfl rfl rfl _ rfl,
    fun L u => u_move u (gd0 rfl) 13 rfl (.tmp 12) (Or.inl rfl) rfl,
    fun L u => u_no u 8 false rfl 13 rfl (lk rfl) rfl 14 rfl,
    fun L u => u_no u 8 false rfl 13 rfl (lk rfl) rfl 15 rfl,
    fun L u => u_no u 8 false rfl 13 rfl (lk rfl) rfl 16 rfl,
    fun L u => u_no u 8 false rfl 13 rfl (lk rfl) rfl 17 rfl,
    fun L u => u_pick u (gd0 rfl) 18 rfl (.tmp 13) (.const (.bool true)) (.tmp 17) rfl rfl rfl rfl _ rfl,
    trivial⟩ [(1, .ptr 1 0), (18, .val (Value.bool true))] [(1, nc (X) ++ nc (Y) ++ [Value.bool true])] ⟨rfl, rfl, trivial⟩ ⟨rfl, trivial⟩ rfl (fun a w h => ?_)
  refine go_cond h true rfl (fun ht => ?_) (fun hf => ?_)
  case refine_2 => cases hf
  refine go_region h hm [eS 2 (.val (Value.bool false))] (by kernel_rfl) ⟨
    fun L u => u_move u (gd0 rfl) 2 rfl (.const (.bool false)) (Or.inr rfl) rfl,
    trivial⟩ [(2, .val (Value.bool false))] [] ⟨rfl, trivial⟩ trivial rfl (fun a w h => ?_)
  refine wp_ret ?_
  refine then_ret ?_
  refine ret_slot h 2 rfl (lk rfl) (Value.bool false) rfl ?_
  exact ⟨rfl, h.grows⟩
set_option maxRecDepth 100000 in
set_option maxHeartbeats 4000000 in
theorem s_formed_x {w : World} {X Y : Int} (hX : Num X) (bX : decide (X < md 2) = false) : Calls Tryd.prog 11 [.agg (nc (X) ++ nc (Y) ++ [Value.bool false]).toArray].toArray w fun e w' => e = .returned (.bool false) ∧ Below w.heap.size w w' := by
  refine enter (args := [.agg (nc (X) ++ nc (Y) ++ [Value.bool false]).toArray]) Tryd.func11 rfl 40 rfl (lk rfl) (fun a h => ?_)
  refine go_region h hm [eN 1 (nc (X) ++ nc (Y) ++ [Value.bool false]), eS 2 (.val (Value.bool false))] (by kernel_rfl) ⟨
    fun L u => u_box u (gd0 rfl) 26 (.tmp 0) rfl 1 rfl rfl rfl _ rfl,
    fun L u => u_move u (gd0 rfl) 2 rfl (.const (.bool false)) (Or.inr rfl) rfl,
    trivial⟩ [(1, .ptr 1 0)] [(1, nc (X) ++ nc (Y) ++ [Value.bool false])] ⟨rfl, trivial⟩ ⟨rfl, trivial⟩ rfl (fun a w h => ?_)
  refine wp_seq ?_
  refine go_region h hm [eS 5 (.ptr 1 8), eS 6 (.val (Value.bool false)), eS 7 (.val (Value.bool false)), eS 8 (.ptr 1 0), eS 9 (.val (.agg (nc (X)).toArray)), eS 10 (.val (Value.bool false)), eS 11 (.val (Value.bool true)), eS 12 (.val (Value.bool true)), eS 13 (.val (Value.bool true)), eS 14 (.val undef), eS 15 (.val undef), eS 16 (.val undef), eS 17 (.val undef), eS 18 (.val (Value.bool true))] (by kernel_rfl) ⟨
    fun L u => u_field u (gd0 rfl) 5 rfl 26 (.tmp 1) 2 rfl rfl rfl Tryd.underlying26 rfl i4 _ rfl,
    fun L u => u_load1 u (gd0 rfl) 6 rfl 4 (.tmp 5) rfl rfl rfl Tryd.underlying4 rfl _ rfl,
    fun L u => u_move u (gd0 rfl) 7 rfl (.tmp 6) (Or.inl rfl) rfl,
    fun L u => u_field u (gd1 u 2 false rfl 7 rfl (lk rfl) rfl) 8 rfl 26 (.tmp 1) 0 rfl rfl rfl Tryd.underlying26 rfl i24 _ rfl,
    fun L u => u_load u (gd1 u 2 false rfl 7 rfl (lk rfl) rfl) 9 rfl 24 (.tmp 8) rfl rfl rfl Tryd.underlying24 rfl i24 (lk rfl) _ rfl,
    fun L u => u_call u (gd1 u 2 false rfl 7 rfl (lk rfl) rfl) 10 rfl 33 #[(.const (.int .i64 2)), (.tmp 9)] #[3, 24] rfl [(Value.int IntKind.i64 2), .agg (nc (X)).toArray] rfl (cE33 _) (Value.bool false) (fun w hb => s_below hX bX),
    fun L u => u_not u (gd1 u 2 false rfl 7 rfl (lk rfl) rfl) 11 rfl 4 (.tmp 10) rfl rfl _ rfl,
    fun L u => u_pick u (gd0 rfl) 12 rfl (.tmp 7) (.const (.bool true)) (.tmp 11) rfl rfl rfl rfl _ rfl,
    fun L u => u_move u (gd0 rfl) 13 rfl (.tmp 12) (Or.inl rfl) rfl,
    fun L u => u_no u 8 false rfl 13 rfl (lk rfl) rfl 14 rfl,
    fun L u => u_no u 8 false rfl 13 rfl (lk rfl) rfl 15 rfl,
    fun L u => u_no u 8 false rfl 13 rfl (lk rfl) rfl 16 rfl,
    fun L u => u_no u 8 false rfl 13 rfl (lk rfl) rfl 17 rfl,
    fun L u => u_pick u (gd0 rfl) 18 rfl (.tmp 13) (.const (.bool true)) (.tmp 17) rfl rfl rfl rfl _ rfl,
    trivial⟩ [(1, .ptr 1 0), (18, .val (Value.bool true))] [(1, nc (X) ++ nc (Y) ++ [Value.bool false])] ⟨rfl, rfl, trivial⟩ ⟨rfl, trivial⟩ rfl (fun a w h => ?_)
  refine go_cond h true rfl (fun ht => ?_) (fun hf => ?_)
  case refine_2 => cases hf
  refine go_region h hm [eS 2 (.val (Value.bool false))] (by kernel_rfl) ⟨
    fun L u => u_move u (gd0 rfl) 2 rfl (.const (.bool false)) (Or.inr rfl) rfl,
    trivial⟩ [(2, .val (Value.bool false))] [] ⟨rfl, trivial⟩ trivial rfl (fun a w h => ?_)
  refine wp_ret ?_
  refine then_ret ?_
  refine ret_slot h 2 rfl (lk rfl) (Value.bool false) rfl ?_
  exact ⟨rfl, h.grows⟩
set_option maxRecDepth 100000 in
set_option maxHeartbeats 4000000 in
theorem s_formed_y {w : World} {X Y : Int} (hX : Num X) (bX : decide (X < md 2) = true) (hY : Num Y) (bY : decide (Y < md 2) = false) : Calls Tryd.prog 11 [.agg (nc (X) ++ nc (Y) ++ [Value.bool false]).toArray].toArray w fun e w' => e = .returned (.bool false) ∧ Below w.heap.size w w' := by
  refine enter (args := [.agg (nc (X) ++ nc (Y) ++ [Value.bool false]).toArray]) Tryd.func11 rfl 40 rfl (lk rfl) (fun a h => ?_)
  refine go_region h hm [eN 1 (nc (X) ++ nc (Y) ++ [Value.bool false]), eS 2 (.val (Value.bool false))] (by kernel_rfl) ⟨
    fun L u => u_box u (gd0 rfl) 26 (.tmp 0) rfl 1 rfl rfl rfl _ rfl,
    fun L u => u_move u (gd0 rfl) 2 rfl (.const (.bool false)) (Or.inr rfl) rfl,
    trivial⟩ [(1, .ptr 1 0)] [(1, nc (X) ++ nc (Y) ++ [Value.bool false])] ⟨rfl, trivial⟩ ⟨rfl, trivial⟩ rfl (fun a w h => ?_)
  refine wp_seq ?_
  refine go_region h hm [eS 5 (.ptr 1 8), eS 6 (.val (Value.bool false)), eS 7 (.val (Value.bool false)), eS 8 (.ptr 1 0), eS 9 (.val (.agg (nc (X)).toArray)), eS 10 (.val (Value.bool true)), eS 11 (.val (Value.bool false)), eS 12 (.val (Value.bool false)), eS 13 (.val (Value.bool false)), eS 14 (.ptr 1 4), eS 15 (.val (.agg (nc (Y)).toArray)), eS 16 (.val (Value.bool false)), eS 17 (.val (Value.bool true)), eS 18 (.val (Value.bool true))] (by kernel_rfl) ⟨
    fun L u => u_field u (gd0 rfl) 5 rfl 26 (.tmp 1) 2 rfl rfl rfl Tryd.underlying26 rfl i4 _ rfl,
    fun L u => u_load1 u (gd0 rfl) 6 rfl 4 (.tmp 5) rfl rfl rfl Tryd.underlying4 rfl _ rfl,
    fun L u => u_move u (gd0 rfl) 7 rfl (.tmp 6) (Or.inl rfl) rfl,
    fun L u => u_field u (gd1 u 2 false rfl 7 rfl (lk rfl) rfl) 8 rfl 26 (.tmp 1) 0 rfl rfl rfl Tryd.underlying26 rfl i24 _ rfl,
    fun L u => u_load u (gd1 u 2 false rfl 7 rfl (lk rfl) rfl) 9 rfl 24 (.tmp 8) rfl rfl rfl Tryd.underlying24 rfl i24 (lk rfl) _ rfl,
    fun L u => u_call u (gd1 u 2 false rfl 7 rfl (lk rfl) rfl) 10 rfl 33 #[(.const (.int .i64 2)), (.tmp 9)] #[3, 24] rfl [(Value.int IntKind.i64 2), .agg (nc (X)).toArray] rfl (cE33 _) (Value.bool true) (fun w hb => s_below hX bX),
    fun L u => u_not u (gd1 u 2 false rfl 7 rfl (lk rfl) rfl) 11 rfl 4 (.tmp 10) rfl rfl _ rfl,
    fun L u => u_pick u (gd0 rfl) 12 rfl (.tmp 7) (.const (.bool true)) (.tmp 11) rfl rfl rfl rfl _ rfl,
    fun L u => u_move u (gd0 rfl) 13 rfl (.tmp 12) (Or.inl rfl) rfl,
    fun L u => u_field u (gd1 u 8 false rfl 13 rfl (lk rfl) rfl) 14 rfl 26 (.tmp 1) 1 rfl rfl rfl Tryd.underlying26 rfl i24 _ rfl,
    fun L u => u_load u (gd1 u 8 false rfl 13 rfl (lk rfl) rfl) 15 rfl 24 (.tmp 14) rfl rfl rfl Tryd.underlying24 rfl i24 (lk rfl) _ rfl,
    fun L u => u_call u (gd1 u 8 false rfl 13 rfl (lk rfl) rfl) 16 rfl 33 #[(.const (.int .i64 2)), (.tmp 15)] #[3, 24] rfl [(Value.int IntKind.i64 2), .agg (nc (Y)).toArray] rfl (cE33 _) (Value.bool false) (fun w hb => s_below hY bY),
    fun L u => u_not u (gd1 u 8 false rfl 13 rfl (lk rfl) rfl) 17 rfl 4 (.tmp 16) rfl rfl _ rfl,
    fun L u => u_pick u (gd0 rfl) 18 rfl (.tmp 13) (.const (.bool true)) (.tmp 17) rfl rfl rfl rfl _ rfl,
    trivial⟩ [(1, .ptr 1 0), (18, .val (Value.bool true))] [(1, nc (X) ++ nc (Y) ++ [Value.bool false])] ⟨rfl, rfl, trivial⟩ ⟨rfl, trivial⟩ rfl (fun a w h => ?_)
  refine go_cond h true rfl (fun ht => ?_) (fun hf => ?_)
  case refine_2 => cases hf
  refine go_region h hm [eS 2 (.val (Value.bool false))] (by kernel_rfl) ⟨
    fun L u => u_move u (gd0 rfl) 2 rfl (.const (.bool false)) (Or.inr rfl) rfl,
    trivial⟩ [(2, .val (Value.bool false))] [] ⟨rfl, trivial⟩ trivial rfl (fun a w h => ?_)
  refine wp_ret ?_
  refine then_ret ?_
  refine ret_slot h 2 rfl (lk rfl) (Value.bool false) rfl ?_
  exact ⟨rfl, h.grows⟩
set_option maxRecDepth 100000 in
set_option maxHeartbeats 4000000 in
theorem s_formed_at {w : World} (hT : Tab w) (x y : Fin m2) : Calls Tryd.prog 11 [.agg (gc (x) ++ gc (y) ++ [Value.bool false]).toArray].toArray w fun e w' => e = .returned (.bool (decide (y * y - x * x = 1 + ed * (x * x * (y * y))))) ∧ Below w.heap.size w w' := by
  refine enter (args := [.agg (gc (x) ++ gc (y) ++ [Value.bool false]).toArray]) Tryd.func11 rfl 40 rfl (lk rfl) (fun a h => ?_)
  refine go_region h hm [eN 1 (gc (x) ++ gc (y) ++ [Value.bool false]), eS 2 (.val (Value.bool false))] (by kernel_rfl) ⟨
    fun L u => u_box u (gd0 rfl) 26 (.tmp 0) rfl 1 rfl rfl rfl _ rfl,
    fun L u => u_move u (gd0 rfl) 2 rfl (.const (.bool false)) (Or.inr rfl) rfl,
    trivial⟩ [(1, .ptr 1 0)] [(1, gc (x) ++ gc (y) ++ [Value.bool false])] ⟨rfl, trivial⟩ ⟨rfl, trivial⟩ rfl (fun a w h => ?_)
  refine wp_seq ?_
  refine go_region h hm [eS 5 (.ptr 1 8), eS 6 (.val (Value.bool false)), eS 7 (.val (Value.bool false)), eS 8 (.ptr 1 0), eS 9 (.val (.agg (gc (x)).toArray)), eS 10 (.val (Value.bool true)), eS 11 (.val (Value.bool false)), eS 12 (.val (Value.bool false)), eS 13 (.val (Value.bool false)), eS 14 (.ptr 1 4), eS 15 (.val (.agg (gc (y)).toArray)), eS 16 (.val (Value.bool true)), eS 17 (.val (Value.bool false)), eS 18 (.val (Value.bool false))] (by kernel_rfl) ⟨
    fun L u => u_field u (gd0 rfl) 5 rfl 26 (.tmp 1) 2 rfl rfl rfl Tryd.underlying26 rfl i4 _ rfl,
    fun L u => u_load1 u (gd0 rfl) 6 rfl 4 (.tmp 5) rfl rfl rfl Tryd.underlying4 rfl _ rfl,
    fun L u => u_move u (gd0 rfl) 7 rfl (.tmp 6) (Or.inl rfl) rfl,
    fun L u => u_field u (gd1 u 2 false rfl 7 rfl (lk rfl) rfl) 8 rfl 26 (.tmp 1) 0 rfl rfl rfl Tryd.underlying26 rfl i24 _ rfl,
    fun L u => u_load u (gd1 u 2 false rfl 7 rfl (lk rfl) rfl) 9 rfl 24 (.tmp 8) rfl rfl rfl Tryd.underlying24 rfl i24 (lk rfl) _ rfl,
    fun L u => u_call u (gd1 u 2 false rfl 7 rfl (lk rfl) rfl) 10 rfl 33 #[(.const (.int .i64 2)), (.tmp 9)] #[3, 24] rfl [(Value.int IntKind.i64 2), .agg (gc (x)).toArray] rfl (cE33 _) (Value.bool true) (fun w hb => s_below (gin_num _) (gin_lt _)),
    fun L u => u_not u (gd1 u 2 false rfl 7 rfl (lk rfl) rfl) 11 rfl 4 (.tmp 10) rfl rfl _ rfl,
    fun L u => u_pick u (gd0 rfl) 12 rfl (.tmp 7) (.const (.bool true)) (.tmp 11) rfl rfl rfl rfl _ rfl,
    fun L u => u_move u (gd0 rfl) 13 rfl (.tmp 12) (Or.inl rfl) rfl,
    fun L u => u_field u (gd1 u 8 false rfl 13 rfl (lk rfl) rfl) 14 rfl 26 (.tmp 1) 1 rfl rfl rfl Tryd.underlying26 rfl i24 _ rfl,
    fun L u => u_load u (gd1 u 8 false rfl 13 rfl (lk rfl) rfl) 15 rfl 24 (.tmp 14) rfl rfl rfl Tryd.underlying24 rfl i24 (lk rfl) _ rfl,
    fun L u => u_call u (gd1 u 8 false rfl 13 rfl (lk rfl) rfl) 16 rfl 33 #[(.const (.int .i64 2)), (.tmp 15)] #[3, 24] rfl [(Value.int IntKind.i64 2), .agg (gc (y)).toArray] rfl (cE33 _) (Value.bool true) (fun w hb => s_below (gin_num _) (gin_lt _)),
    fun L u => u_not u (gd1 u 8 false rfl 13 rfl (lk rfl) rfl) 17 rfl 4 (.tmp 16) rfl rfl _ rfl,
    fun L u => u_pick u (gd0 rfl) 18 rfl (.tmp 13) (.const (.bool true)) (.tmp 17) rfl rfl rfl rfl _ rfl,
    trivial⟩ [(1, .ptr 1 0), (18, .val (Value.bool false))] [(1, gc (x) ++ gc (y) ++ [Value.bool false])] ⟨rfl, rfl, trivial⟩ ⟨rfl, trivial⟩ rfl (fun a w h => ?_)
  refine go_cond h false rfl (fun ht => ?_) (fun hf => ?_)
  case refine_1 => cases ht
  refine wp_skip ?_
  refine then_norm ?_
  refine go_region h hm [eS 19 (.ptr 1 0), eS 20 (.val (.agg (gc (x)).toArray)), eS 21 (.ptr 1 0), eS 22 (.val (.agg (gc (x)).toArray)), eS 23 (.val (.agg (gc ((x) * (x))).toArray)), eS 24 (.ptr 1 4), eS 25 (.val (.agg (gc (y)).toArray)), eS 26 (.ptr 1 4), eS 27 (.val (.agg (gc (y)).toArray)), eS 28 (.val (.agg (gc ((y) * (y))).toArray)), eN 3 (nz), eN 4 (nz), eM 3 (gc ((x) * (x))), eM 4 (gc ((y) * (y)))] (by kernel_rfl) ⟨
    fun L u => u_field u (gd0 rfl) 19 rfl 26 (.tmp 1) 0 rfl rfl rfl Tryd.underlying26 rfl i24 _ rfl,
    fun L u => u_load u (gd0 rfl) 20 rfl 24 (.tmp 19) rfl rfl rfl Tryd.underlying24 rfl i24 (lk rfl) _ rfl,
    fun L u => u_field u (gd0 rfl) 21 rfl 26 (.tmp 1) 0 rfl rfl rfl Tryd.underlying26 rfl i24 _ rfl,
    fun L u => u_load u (gd0 rfl) 22 rfl 24 (.tmp 21) rfl rfl rfl Tryd.underlying24 rfl i24 (lk rfl) _ rfl,
    fun L u => u_call u (gd0 rfl) 23 rfl 34 #[(.tmp 20), (.tmp 22)] #[24, 24] rfl [.agg (gc (x)).toArray, .agg (gc (x)).toArray] rfl (cE34 _) (.agg (gc ((x) * (x))).toArray) (fun w hb => s_mul (hT.keep (Bs.kp_of hb)) _ _),
    fun L u => u_field u (gd0 rfl) 24 rfl 26 (.tmp 1) 1 rfl rfl rfl Tryd.underlying26 rfl i24 _ rfl,
    fun L u => u_load u (gd0 rfl) 25 rfl 24 (.tmp 24) rfl rfl rfl Tryd.underlying24 rfl i24 (lk rfl) _ rfl,
    fun L u => u_field u (gd0 rfl) 26 rfl 26 (.tmp 1) 1 rfl rfl rfl Tryd.underlying26 rfl i24 _ rfl,
    fun L u => u_load u (gd0 rfl) 27 rfl 24 (.tmp 26) rfl rfl rfl Tryd.underlying24 rfl i24 (lk rfl) _ rfl,
    fun L u => u_call u (gd0 rfl) 28 rfl 34 #[(.tmp 25), (.tmp 27)] #[24, 24] rfl [.agg (gc (y)).toArray, .agg (gc (y)).toArray] rfl (cE34 _) (.agg (gc ((y) * (y))).toArray) (fun w hb => s_mul (hT.keep (Bs.kp_of hb)) _ _),
    fun L u => u_alloc u (gd0 rfl) 24 rfl 3 rfl rfl z24 _ rfl,
    fun L u => u_alloc u (gd0 rfl) 24 rfl 4 rfl rfl z24 _ rfl,
    fun L u => u_store u (gd0 rfl) 24 (.tmp 3) (.tmp 23) rfl rfl rfl (vs := gc ((x) * (x))) rfl rfl i24 (lk rfl) rfl _ rfl,
    fun L u => u_store u (gd0 rfl) 24 (.tmp 4) (.tmp 28) rfl rfl rfl (vs := gc ((y) * (y))) rfl rfl i24 (lk rfl) rfl _ rfl,
    trivial⟩ [(3, .ptr 3 0), (4, .ptr 4 0)] [(3, gc ((x) * (x))), (4, gc ((y) * (y)))] ⟨rfl, rfl, trivial⟩ ⟨rfl, rfl, trivial⟩ rfl (fun a w h => ?_)
  refine go_region h hm [eS 29 (.val (.agg (gc ((y) * (y))).toArray)), eS 30 (.val (.agg (gc ((x) * (x))).toArray)), eS 31 (.val (.agg (gc (((y) * (y)) - ((x) * (x)))).toArray)), eS 32 (.val (.agg (gc (1)).toArray)), eS 33 (.val (.agg (gc (ed)).toArray)), eS 34 (.val (.agg (gc ((x) * (x))).toArray)), eS 35 (.val (.agg (gc ((y) * (y))).toArray)), eS 36 (.val (.agg (gc (((x) * (x)) * ((y) * (y)))).toArray)), eS 37 (.val (.agg (gc ((ed) * (((x) * (x)) * ((y) * (y))))).toArray)), eS 38 (.val (.agg (gc ((1) + ((ed) * (((x) * (x)) * ((y) * (y)))))).toArray)), eS 39 (.val (Value.bool (decide (((y) * (y)) - ((x) * (x)) = (1) + ((ed) * (((x) * (x)) * ((y) * (y)))))))), eS 2 (.val (Value.bool (decide (((y) * (y)) - ((x) * (x)) = (1) + ((ed) * (((x) * (x)) * ((y) * (y))))))))] (by kernel_rfl) ⟨
    fun L u => u_load u (gd0 rfl) 29 rfl 24 (.tmp 4) rfl rfl rfl Tryd.underlying24 rfl i24 (lk rfl) _ rfl,
    fun L u => u_load u (gd0 rfl) 30 rfl 24 (.tmp 3) rfl rfl rfl Tryd.underlying24 rfl i24 (lk rfl) _ rfl,
    fun L u => u_call u (gd0 rfl) 31 rfl 35 #[(.tmp 29), (.tmp 30)] #[24, 24] rfl [.agg (gc ((y) * (y))).toArray, .agg (gc ((x) * (x))).toArray] rfl (cE35 _) (.agg (gc (((y) * (y)) - ((x) * (x)))).toArray) (fun w hb => s_sub (hT.keep (Bs.kp_of hb)) _ _),
    fun L u => u_call u (gd0 rfl) 32 rfl 37 #[] #[] rfl [] rfl (cE37 _) (.agg (gc (1)).toArray) (fun w hb => s_One),
    fun L u => u_call u (gd0 rfl) 33 rfl 38 #[] #[] rfl [] rfl (cE38 _) (.agg (gc (ed)).toArray) (fun w hb => s_D),
    fun L u => u_load u (gd0 rfl) 34 rfl 24 (.tmp 3) rfl rfl rfl Tryd.underlying24 rfl i24 (lk rfl) _ rfl,
    fun L u => u_load u (gd0 rfl) 35 rfl 24 (.tmp 4) rfl rfl rfl Tryd.underlying24 rfl i24 (lk rfl) _ rfl,
    fun L u => u_call u (gd0 rfl) 36 rfl 34 #[(.tmp 34), (.tmp 35)] #[24, 24] rfl [.agg (gc ((x) * (x))).toArray, .agg (gc ((y) * (y))).toArray] rfl (cE34 _) (.agg (gc (((x) * (x)) * ((y) * (y)))).toArray) (fun w hb => s_mul (hT.keep (Bs.kp_of hb)) _ _),
    fun L u => u_call u (gd0 rfl) 37 rfl 34 #[(.tmp 33), (.tmp 36)] #[24, 24] rfl [.agg (gc (ed)).toArray, .agg (gc (((x) * (x)) * ((y) * (y)))).toArray] rfl (cE34 _) (.agg (gc ((ed) * (((x) * (x)) * ((y) * (y))))).toArray) (fun w hb => s_mul (hT.keep (Bs.kp_of hb)) _ _),
    fun L u => u_call u (gd0 rfl) 38 rfl 36 #[(.tmp 32), (.tmp 37)] #[24, 24] rfl [.agg (gc (1)).toArray, .agg (gc ((ed) * (((x) * (x)) * ((y) * (y))))).toArray] rfl (cE36 _) (.agg (gc ((1) + ((ed) * (((x) * (x)) * ((y) * (y)))))).toArray) (fun w hb => s_add (hT.keep (Bs.kp_of hb)) _ _),
    fun L u => u_eql u (gd0 rfl) 39 rfl 24 24 (.tmp 31) (.tmp 38) rfl rfl rfl Tryd.eqGuardType24 (decide (((y) * (y)) - ((x) * (x)) = (1) + ((ed) * (((x) * (x)) * ((y) * (y)))))) (fun w => eq_gc _ _ w),
    fun L u => u_move u (gd0 rfl) 2 rfl (.tmp 39) (Or.inr rfl) rfl,
    trivial⟩ [(2, .val (Value.bool (decide (((y) * (y)) - ((x) * (x)) = (1) + ((ed) * (((x) * (x)) * ((y) * (y))))))))] [] ⟨rfl, trivial⟩ trivial rfl (fun a w h => ?_)
  refine wp_ret ?_
  refine ret_slot h 2 rfl (lk rfl) (Value.bool (decide (((y) * (y)) - ((x) * (x)) = (1) + ((ed) * (((x) * (x)) * ((y) * (y))))))) rfl ?_
  exact ⟨rfl, h.grows⟩
set_option maxRecDepth 100000 in
set_option maxHeartbeats 4000000 in
theorem s_lift_none {w : World} {X Y : Int} : Calls Tryd.prog 44 [.agg (nc (X) ++ nc (Y) ++ [Value.bool true]).toArray].toArray w fun e w' => e = .returned (.agg (fjc (flift (Ep.o m2))).toArray) ∧ Below w.heap.size w w' := by
  refine enter (args := [.agg (nc (X) ++ nc (Y) ++ [Value.bool true]).toArray]) Tryd.func44 rfl 13 rfl (lk rfl) (fun a h => ?_)
  refine go_region h hm [eN 1 (nc (X) ++ nc (Y) ++ [Value.bool true]), eN 2 (nz ++ nz ++ nz)] (by kernel_rfl) ⟨
    fun L u => u_box u (gd0 rfl) 26 (.tmp 0) rfl 1 rfl rfl rfl _ rfl,
    fun L u => u_alloc u (gd0 rfl) 59 rfl 2 rfl rfl z59 _ rfl,
    trivial⟩ [(1, .ptr 1 0), (2, .ptr 2 0)] [(1, nc (X) ++ nc (Y) ++ [Value.bool true]), (2, nz ++ nz ++ nz)] ⟨rfl, rfl, trivial⟩ ⟨rfl, rfl, trivial⟩ rfl (fun a w h => ?_)
  refine wp_seq ?_
  refine go_region h hm [eS 3 (.val (.agg (nc (X) ++ nc (Y) ++ [Value.bool true]).toArray)), eS 4 (.val (Value.bool false)), eS 5 (.val (Value.bool true))] (by kernel_rfl) ⟨
    fun L u => u_load u (gd0 rfl) 3 rfl 26 (.tmp 1) rfl rfl rfl Tryd.underlying26 rfl i26 (lk rfl) _ rfl,
    fun L u => u_call u (gd0 rfl) 4 rfl 11 #[(.tmp 3)] #[26] rfl [.agg (nc (X) ++ nc (Y) ++ [Value.bool true]).toArray] rfl (cE11 _) (Value.bool false) (fun w hb => s_formed_none),
    fun L u => u_not u (gd0 rfl) 5 rfl 4 (.tmp 4) rfl rfl _ rfl,
    trivial⟩ [(1, .ptr 1 0), (2, .ptr 2 0), (5, .val (Value.bool true))] [(1, nc (X) ++ nc (Y) ++ [Value.bool true]), (2, nz ++ nz ++ nz)] ⟨rfl, rfl, rfl, trivial⟩ ⟨rfl, rfl, trivial⟩ rfl (fun a w h => ?_)
  refine go_cond h true rfl (fun ht => ?_) (fun hf => ?_)
  case refine_2 => cases hf
  refine go_end h hm [eS 6 (.val (.agg (gc ((Ep.o m2).x) ++ gc ((Ep.o m2).y) ++ [Value.bool false]).toArray)), eM 1 (gc ((Ep.o m2).x) ++ gc ((Ep.o m2).y) ++ [Value.bool false])] (by kernel_rfl) ⟨
    fun L u => u_call u (gd0 rfl) 6 rfl 56 #[] #[] rfl [] rfl (cE56 _) (.agg (gc ((Ep.o m2).x) ++ gc ((Ep.o m2).y) ++ [Value.bool false]).toArray) (fun w hb => s_None),
    fun L u => u_store u (gd0 rfl) 26 (.tmp 1) (.tmp 6) rfl rfl rfl (vs := gc ((Ep.o m2).x) ++ gc ((Ep.o m2).y) ++ [Value.bool false]) rfl rfl i26 (lk rfl) rfl _ rfl,
    trivial⟩ [(1, .ptr 1 0), (2, .ptr 2 0)] [(1, gc ((Ep.o m2).x) ++ gc ((Ep.o m2).y) ++ [Value.bool false]), (2, nz ++ nz ++ nz)] ⟨rfl, rfl, trivial⟩ ⟨rfl, rfl, trivial⟩ rfl (fun a w h => ?_)
  refine then_norm ?_
  refine go_region h hm [eS 7 (.ptr 1 0), eS 8 (.val (.agg (gc ((Ep.o m2).x)).toArray)), eS 9 (.ptr 1 4), eS 10 (.val (.agg (gc ((Ep.o m2).y)).toArray)), eS 11 (.val (.agg (gc (1)).toArray)), eS 12 (.val (.agg (gc ((Ep.o m2).x) ++ gc ((Ep.o m2).y) ++ gc (1)).toArray)), eM 2 (gc ((Ep.o m2).x) ++ gc ((Ep.o m2).y) ++ gc (1))] (by kernel_rfl) ⟨
    fun L u => u_field u (gd0 rfl) 7 rfl 26 (.tmp 1) 0 rfl rfl rfl Tryd.underlying26 rfl i24 _ rfl,
    fun L u => u_load u (gd0 rfl) 8 rfl 24 (.tmp 7) rfl rfl rfl Tryd.underlying24 rfl i24 (lk rfl) _ rfl,
    fun L u => u_field u (gd0 rfl) 9 rfl 26 (.tmp 1) 1 rfl rfl rfl Tryd.underlying26 rfl i24 _ rfl,
    fun L u => u_load u (gd0 rfl) 10 rfl 24 (.tmp 9) rfl rfl rfl Tryd.underlying24 rfl i24 (lk rfl) _ rfl,
    fun L u => u_call u (gd0 rfl) 11 rfl 37 #[] #[] rfl [] rfl (cE37 _) (.agg (gc (1)).toArray) (fun w hb => s_One),
    fun L u => u_build u (gd0 rfl) 12 rfl 59 #[(0, (.tmp 8)), (1, (.tmp 10)), (2, (.tmp 11))] rfl [(0, .agg (gc ((Ep.o m2).x)).toArray), (1, .agg (gc ((Ep.o m2).y)).toArray), (2, .agg (gc (1)).toArray)] rfl (gc ((Ep.o m2).x) ++ gc ((Ep.o m2).y) ++ gc (1)) (g_bF _ _ _),
    fun L u => u_store u (gd0 rfl) 59 (.tmp 2) (.tmp 12) rfl rfl rfl (vs := gc ((Ep.o m2).x) ++ gc ((Ep.o m2).y) ++ gc (1)) rfl rfl i59 (lk rfl) rfl _ rfl,
    trivial⟩ [(2, .ptr 2 0)] [(2, gc ((Ep.o m2).x) ++ gc ((Ep.o m2).y) ++ gc (1))] ⟨rfl, trivial⟩ ⟨rfl, trivial⟩ rfl (fun a w h => ?_)
  refine wp_ret ?_
  refine ret_row h 2 59 rfl (lk rfl) 2 rfl (gc ((Ep.o m2).x) ++ gc ((Ep.o m2).y) ++ gc (1)) rfl _ Tryd.underlying59 rfl i59 ?_
  exact ⟨rfl, h.grows⟩
set_option maxRecDepth 100000 in
set_option maxHeartbeats 4000000 in
theorem s_lift_x {w : World} {X Y : Int} (hX : Num X) (bX : decide (X < md 2) = false) : Calls Tryd.prog 44 [.agg (nc (X) ++ nc (Y) ++ [Value.bool false]).toArray].toArray w fun e w' => e = .returned (.agg (fjc (flift (Ep.o m2))).toArray) ∧ Below w.heap.size w w' := by
  refine enter (args := [.agg (nc (X) ++ nc (Y) ++ [Value.bool false]).toArray]) Tryd.func44 rfl 13 rfl (lk rfl) (fun a h => ?_)
  refine go_region h hm [eN 1 (nc (X) ++ nc (Y) ++ [Value.bool false]), eN 2 (nz ++ nz ++ nz)] (by kernel_rfl) ⟨
    fun L u => u_box u (gd0 rfl) 26 (.tmp 0) rfl 1 rfl rfl rfl _ rfl,
    fun L u => u_alloc u (gd0 rfl) 59 rfl 2 rfl rfl z59 _ rfl,
    trivial⟩ [(1, .ptr 1 0), (2, .ptr 2 0)] [(1, nc (X) ++ nc (Y) ++ [Value.bool false]), (2, nz ++ nz ++ nz)] ⟨rfl, rfl, trivial⟩ ⟨rfl, rfl, trivial⟩ rfl (fun a w h => ?_)
  refine wp_seq ?_
  refine go_region h hm [eS 3 (.val (.agg (nc (X) ++ nc (Y) ++ [Value.bool false]).toArray)), eS 4 (.val (Value.bool false)), eS 5 (.val (Value.bool true))] (by kernel_rfl) ⟨
    fun L u => u_load u (gd0 rfl) 3 rfl 26 (.tmp 1) rfl rfl rfl Tryd.underlying26 rfl i26 (lk rfl) _ rfl,
    fun L u => u_call u (gd0 rfl) 4 rfl 11 #[(.tmp 3)] #[26] rfl [.agg (nc (X) ++ nc (Y) ++ [Value.bool false]).toArray] rfl (cE11 _) (Value.bool false) (fun w hb => s_formed_x hX bX),
    fun L u => u_not u (gd0 rfl) 5 rfl 4 (.tmp 4) rfl rfl _ rfl,
    trivial⟩ [(1, .ptr 1 0), (2, .ptr 2 0), (5, .val (Value.bool true))] [(1, nc (X) ++ nc (Y) ++ [Value.bool false]), (2, nz ++ nz ++ nz)] ⟨rfl, rfl, rfl, trivial⟩ ⟨rfl, rfl, trivial⟩ rfl (fun a w h => ?_)
  refine go_cond h true rfl (fun ht => ?_) (fun hf => ?_)
  case refine_2 => cases hf
  refine go_end h hm [eS 6 (.val (.agg (gc ((Ep.o m2).x) ++ gc ((Ep.o m2).y) ++ [Value.bool false]).toArray)), eM 1 (gc ((Ep.o m2).x) ++ gc ((Ep.o m2).y) ++ [Value.bool false])] (by kernel_rfl) ⟨
    fun L u => u_call u (gd0 rfl) 6 rfl 56 #[] #[] rfl [] rfl (cE56 _) (.agg (gc ((Ep.o m2).x) ++ gc ((Ep.o m2).y) ++ [Value.bool false]).toArray) (fun w hb => s_None),
    fun L u => u_store u (gd0 rfl) 26 (.tmp 1) (.tmp 6) rfl rfl rfl (vs := gc ((Ep.o m2).x) ++ gc ((Ep.o m2).y) ++ [Value.bool false]) rfl rfl i26 (lk rfl) rfl _ rfl,
    trivial⟩ [(1, .ptr 1 0), (2, .ptr 2 0)] [(1, gc ((Ep.o m2).x) ++ gc ((Ep.o m2).y) ++ [Value.bool false]), (2, nz ++ nz ++ nz)] ⟨rfl, rfl, trivial⟩ ⟨rfl, rfl, trivial⟩ rfl (fun a w h => ?_)
  refine then_norm ?_
  refine go_region h hm [eS 7 (.ptr 1 0), eS 8 (.val (.agg (gc ((Ep.o m2).x)).toArray)), eS 9 (.ptr 1 4), eS 10 (.val (.agg (gc ((Ep.o m2).y)).toArray)), eS 11 (.val (.agg (gc (1)).toArray)), eS 12 (.val (.agg (gc ((Ep.o m2).x) ++ gc ((Ep.o m2).y) ++ gc (1)).toArray)), eM 2 (gc ((Ep.o m2).x) ++ gc ((Ep.o m2).y) ++ gc (1))] (by kernel_rfl) ⟨
    fun L u => u_field u (gd0 rfl) 7 rfl 26 (.tmp 1) 0 rfl rfl rfl Tryd.underlying26 rfl i24 _ rfl,
    fun L u => u_load u (gd0 rfl) 8 rfl 24 (.tmp 7) rfl rfl rfl Tryd.underlying24 rfl i24 (lk rfl) _ rfl,
    fun L u => u_field u (gd0 rfl) 9 rfl 26 (.tmp 1) 1 rfl rfl rfl Tryd.underlying26 rfl i24 _ rfl,
    fun L u => u_load u (gd0 rfl) 10 rfl 24 (.tmp 9) rfl rfl rfl Tryd.underlying24 rfl i24 (lk rfl) _ rfl,
    fun L u => u_call u (gd0 rfl) 11 rfl 37 #[] #[] rfl [] rfl (cE37 _) (.agg (gc (1)).toArray) (fun w hb => s_One),
    fun L u => u_build u (gd0 rfl) 12 rfl 59 #[(0, (.tmp 8)), (1, (.tmp 10)), (2, (.tmp 11))] rfl [(0, .agg (gc ((Ep.o m2).x)).toArray), (1, .agg (gc ((Ep.o m2).y)).toArray), (2, .agg (gc (1)).toArray)] rfl (gc ((Ep.o m2).x) ++ gc ((Ep.o m2).y) ++ gc (1)) (g_bF _ _ _),
    fun L u => u_store u (gd0 rfl) 59 (.tmp 2) (.tmp 12) rfl rfl rfl (vs := gc ((Ep.o m2).x) ++ gc ((Ep.o m2).y) ++ gc (1)) rfl rfl i59 (lk rfl) rfl _ rfl,
    trivial⟩ [(2, .ptr 2 0)] [(2, gc ((Ep.o m2).x) ++ gc ((Ep.o m2).y) ++ gc (1))] ⟨rfl, trivial⟩ ⟨rfl, trivial⟩ rfl (fun a w h => ?_)
  refine wp_ret ?_
  refine ret_row h 2 59 rfl (lk rfl) 2 rfl (gc ((Ep.o m2).x) ++ gc ((Ep.o m2).y) ++ gc (1)) rfl _ Tryd.underlying59 rfl i59 ?_
  exact ⟨rfl, h.grows⟩
set_option maxRecDepth 100000 in
set_option maxHeartbeats 4000000 in
theorem s_lift_y {w : World} {X Y : Int} (hX : Num X) (bX : decide (X < md 2) = true) (hY : Num Y) (bY : decide (Y < md 2) = false) : Calls Tryd.prog 44 [.agg (nc (X) ++ nc (Y) ++ [Value.bool false]).toArray].toArray w fun e w' => e = .returned (.agg (fjc (flift (Ep.o m2))).toArray) ∧ Below w.heap.size w w' := by
  refine enter (args := [.agg (nc (X) ++ nc (Y) ++ [Value.bool false]).toArray]) Tryd.func44 rfl 13 rfl (lk rfl) (fun a h => ?_)
  refine go_region h hm [eN 1 (nc (X) ++ nc (Y) ++ [Value.bool false]), eN 2 (nz ++ nz ++ nz)] (by kernel_rfl) ⟨
    fun L u => u_box u (gd0 rfl) 26 (.tmp 0) rfl 1 rfl rfl rfl _ rfl,
    fun L u => u_alloc u (gd0 rfl) 59 rfl 2 rfl rfl z59 _ rfl,
    trivial⟩ [(1, .ptr 1 0), (2, .ptr 2 0)] [(1, nc (X) ++ nc (Y) ++ [Value.bool false]), (2, nz ++ nz ++ nz)] ⟨rfl, rfl, trivial⟩ ⟨rfl, rfl, trivial⟩ rfl (fun a w h => ?_)
  refine wp_seq ?_
  refine go_region h hm [eS 3 (.val (.agg (nc (X) ++ nc (Y) ++ [Value.bool false]).toArray)), eS 4 (.val (Value.bool false)), eS 5 (.val (Value.bool true))] (by kernel_rfl) ⟨
    fun L u => u_load u (gd0 rfl) 3 rfl 26 (.tmp 1) rfl rfl rfl Tryd.underlying26 rfl i26 (lk rfl) _ rfl,
    fun L u => u_call u (gd0 rfl) 4 rfl 11 #[(.tmp 3)] #[26] rfl [.agg (nc (X) ++ nc (Y) ++ [Value.bool false]).toArray] rfl (cE11 _) (Value.bool false) (fun w hb => s_formed_y hX bX hY bY),
    fun L u => u_not u (gd0 rfl) 5 rfl 4 (.tmp 4) rfl rfl _ rfl,
    trivial⟩ [(1, .ptr 1 0), (2, .ptr 2 0), (5, .val (Value.bool true))] [(1, nc (X) ++ nc (Y) ++ [Value.bool false]), (2, nz ++ nz ++ nz)] ⟨rfl, rfl, rfl, trivial⟩ ⟨rfl, rfl, trivial⟩ rfl (fun a w h => ?_)
  refine go_cond h true rfl (fun ht => ?_) (fun hf => ?_)
  case refine_2 => cases hf
  refine go_end h hm [eS 6 (.val (.agg (gc ((Ep.o m2).x) ++ gc ((Ep.o m2).y) ++ [Value.bool false]).toArray)), eM 1 (gc ((Ep.o m2).x) ++ gc ((Ep.o m2).y) ++ [Value.bool false])] (by kernel_rfl) ⟨
    fun L u => u_call u (gd0 rfl) 6 rfl 56 #[] #[] rfl [] rfl (cE56 _) (.agg (gc ((Ep.o m2).x) ++ gc ((Ep.o m2).y) ++ [Value.bool false]).toArray) (fun w hb => s_None),
    fun L u => u_store u (gd0 rfl) 26 (.tmp 1) (.tmp 6) rfl rfl rfl (vs := gc ((Ep.o m2).x) ++ gc ((Ep.o m2).y) ++ [Value.bool false]) rfl rfl i26 (lk rfl) rfl _ rfl,
    trivial⟩ [(1, .ptr 1 0), (2, .ptr 2 0)] [(1, gc ((Ep.o m2).x) ++ gc ((Ep.o m2).y) ++ [Value.bool false]), (2, nz ++ nz ++ nz)] ⟨rfl, rfl, trivial⟩ ⟨rfl, rfl, trivial⟩ rfl (fun a w h => ?_)
  refine then_norm ?_
  refine go_region h hm [eS 7 (.ptr 1 0), eS 8 (.val (.agg (gc ((Ep.o m2).x)).toArray)), eS 9 (.ptr 1 4), eS 10 (.val (.agg (gc ((Ep.o m2).y)).toArray)), eS 11 (.val (.agg (gc (1)).toArray)), eS 12 (.val (.agg (gc ((Ep.o m2).x) ++ gc ((Ep.o m2).y) ++ gc (1)).toArray)), eM 2 (gc ((Ep.o m2).x) ++ gc ((Ep.o m2).y) ++ gc (1))] (by kernel_rfl) ⟨
    fun L u => u_field u (gd0 rfl) 7 rfl 26 (.tmp 1) 0 rfl rfl rfl Tryd.underlying26 rfl i24 _ rfl,
    fun L u => u_load u (gd0 rfl) 8 rfl 24 (.tmp 7) rfl rfl rfl Tryd.underlying24 rfl i24 (lk rfl) _ rfl,
    fun L u => u_field u (gd0 rfl) 9 rfl 26 (.tmp 1) 1 rfl rfl rfl Tryd.underlying26 rfl i24 _ rfl,
    fun L u => u_load u (gd0 rfl) 10 rfl 24 (.tmp 9) rfl rfl rfl Tryd.underlying24 rfl i24 (lk rfl) _ rfl,
    fun L u => u_call u (gd0 rfl) 11 rfl 37 #[] #[] rfl [] rfl (cE37 _) (.agg (gc (1)).toArray) (fun w hb => s_One),
    fun L u => u_build u (gd0 rfl) 12 rfl 59 #[(0, (.tmp 8)), (1, (.tmp 10)), (2, (.tmp 11))] rfl [(0, .agg (gc ((Ep.o m2).x)).toArray), (1, .agg (gc ((Ep.o m2).y)).toArray), (2, .agg (gc (1)).toArray)] rfl (gc ((Ep.o m2).x) ++ gc ((Ep.o m2).y) ++ gc (1)) (g_bF _ _ _),
    fun L u => u_store u (gd0 rfl) 59 (.tmp 2) (.tmp 12) rfl rfl rfl (vs := gc ((Ep.o m2).x) ++ gc ((Ep.o m2).y) ++ gc (1)) rfl rfl i59 (lk rfl) rfl _ rfl,
    trivial⟩ [(2, .ptr 2 0)] [(2, gc ((Ep.o m2).x) ++ gc ((Ep.o m2).y) ++ gc (1))] ⟨rfl, trivial⟩ ⟨rfl, trivial⟩ rfl (fun a w h => ?_)
  refine wp_ret ?_
  refine ret_row h 2 59 rfl (lk rfl) 2 rfl (gc ((Ep.o m2).x) ++ gc ((Ep.o m2).y) ++ gc (1)) rfl _ Tryd.underlying59 rfl i59 ?_
  exact ⟨rfl, h.grows⟩
set_option maxRecDepth 100000 in
set_option maxHeartbeats 4000000 in
theorem s_lift_off {w : World} (hT : Tab w) {x y : Fin m2} (hq : ¬ y * y - x * x = 1 + ed * (x * x * (y * y))) : Calls Tryd.prog 44 [.agg (gc (x) ++ gc (y) ++ [Value.bool false]).toArray].toArray w fun e w' => e = .returned (.agg (fjc (flift (Ep.o m2))).toArray) ∧ Below w.heap.size w w' := by
  refine enter (args := [.agg (gc (x) ++ gc (y) ++ [Value.bool false]).toArray]) Tryd.func44 rfl 13 rfl (lk rfl) (fun a h => ?_)
  refine go_region h hm [eN 1 (gc (x) ++ gc (y) ++ [Value.bool false]), eN 2 (nz ++ nz ++ nz)] (by kernel_rfl) ⟨
    fun L u => u_box u (gd0 rfl) 26 (.tmp 0) rfl 1 rfl rfl rfl _ rfl,
    fun L u => u_alloc u (gd0 rfl) 59 rfl 2 rfl rfl z59 _ rfl,
    trivial⟩ [(1, .ptr 1 0), (2, .ptr 2 0)] [(1, gc (x) ++ gc (y) ++ [Value.bool false]), (2, nz ++ nz ++ nz)] ⟨rfl, rfl, trivial⟩ ⟨rfl, rfl, trivial⟩ rfl (fun a w h => ?_)
  refine wp_seq ?_
  refine go_region h hm [eS 3 (.val (.agg (gc (x) ++ gc (y) ++ [Value.bool false]).toArray)), eS 4 (.val (Value.bool false)), eS 5 (.val (Value.bool true))] (by kernel_rfl) ⟨
    fun L u => u_load u (gd0 rfl) 3 rfl 26 (.tmp 1) rfl rfl rfl Tryd.underlying26 rfl i26 (lk rfl) _ rfl,
    fun L u => u_call u (gd0 rfl) 4 rfl 11 #[(.tmp 3)] #[26] rfl [.agg (gc (x) ++ gc (y) ++ [Value.bool false]).toArray] rfl (cE11 _) (Value.bool false) (fun w hb => by have f := s_formed_at (hT.keep (Bs.kp_of hb)) x y; rw [decide_eq_false hq] at f; exact f),
    fun L u => u_not u (gd0 rfl) 5 rfl 4 (.tmp 4) rfl rfl _ rfl,
    trivial⟩ [(1, .ptr 1 0), (2, .ptr 2 0), (5, .val (Value.bool true))] [(1, gc (x) ++ gc (y) ++ [Value.bool false]), (2, nz ++ nz ++ nz)] ⟨rfl, rfl, rfl, trivial⟩ ⟨rfl, rfl, trivial⟩ rfl (fun a w h => ?_)
  refine go_cond h true rfl (fun ht => ?_) (fun hf => ?_)
  case refine_2 => cases hf
  refine go_end h hm [eS 6 (.val (.agg (gc ((Ep.o m2).x) ++ gc ((Ep.o m2).y) ++ [Value.bool false]).toArray)), eM 1 (gc ((Ep.o m2).x) ++ gc ((Ep.o m2).y) ++ [Value.bool false])] (by kernel_rfl) ⟨
    fun L u => u_call u (gd0 rfl) 6 rfl 56 #[] #[] rfl [] rfl (cE56 _) (.agg (gc ((Ep.o m2).x) ++ gc ((Ep.o m2).y) ++ [Value.bool false]).toArray) (fun w hb => s_None),
    fun L u => u_store u (gd0 rfl) 26 (.tmp 1) (.tmp 6) rfl rfl rfl (vs := gc ((Ep.o m2).x) ++ gc ((Ep.o m2).y) ++ [Value.bool false]) rfl rfl i26 (lk rfl) rfl _ rfl,
    trivial⟩ [(1, .ptr 1 0), (2, .ptr 2 0)] [(1, gc ((Ep.o m2).x) ++ gc ((Ep.o m2).y) ++ [Value.bool false]), (2, nz ++ nz ++ nz)] ⟨rfl, rfl, trivial⟩ ⟨rfl, rfl, trivial⟩ rfl (fun a w h => ?_)
  refine then_norm ?_
  refine go_region h hm [eS 7 (.ptr 1 0), eS 8 (.val (.agg (gc ((Ep.o m2).x)).toArray)), eS 9 (.ptr 1 4), eS 10 (.val (.agg (gc ((Ep.o m2).y)).toArray)), eS 11 (.val (.agg (gc (1)).toArray)), eS 12 (.val (.agg (gc ((Ep.o m2).x) ++ gc ((Ep.o m2).y) ++ gc (1)).toArray)), eM 2 (gc ((Ep.o m2).x) ++ gc ((Ep.o m2).y) ++ gc (1))] (by kernel_rfl) ⟨
    fun L u => u_field u (gd0 rfl) 7 rfl 26 (.tmp 1) 0 rfl rfl rfl Tryd.underlying26 rfl i24 _ rfl,
    fun L u => u_load u (gd0 rfl) 8 rfl 24 (.tmp 7) rfl rfl rfl Tryd.underlying24 rfl i24 (lk rfl) _ rfl,
    fun L u => u_field u (gd0 rfl) 9 rfl 26 (.tmp 1) 1 rfl rfl rfl Tryd.underlying26 rfl i24 _ rfl,
    fun L u => u_load u (gd0 rfl) 10 rfl 24 (.tmp 9) rfl rfl rfl Tryd.underlying24 rfl i24 (lk rfl) _ rfl,
    fun L u => u_call u (gd0 rfl) 11 rfl 37 #[] #[] rfl [] rfl (cE37 _) (.agg (gc (1)).toArray) (fun w hb => s_One),
    fun L u => u_build u (gd0 rfl) 12 rfl 59 #[(0, (.tmp 8)), (1, (.tmp 10)), (2, (.tmp 11))] rfl [(0, .agg (gc ((Ep.o m2).x)).toArray), (1, .agg (gc ((Ep.o m2).y)).toArray), (2, .agg (gc (1)).toArray)] rfl (gc ((Ep.o m2).x) ++ gc ((Ep.o m2).y) ++ gc (1)) (g_bF _ _ _),
    fun L u => u_store u (gd0 rfl) 59 (.tmp 2) (.tmp 12) rfl rfl rfl (vs := gc ((Ep.o m2).x) ++ gc ((Ep.o m2).y) ++ gc (1)) rfl rfl i59 (lk rfl) rfl _ rfl,
    trivial⟩ [(2, .ptr 2 0)] [(2, gc ((Ep.o m2).x) ++ gc ((Ep.o m2).y) ++ gc (1))] ⟨rfl, trivial⟩ ⟨rfl, trivial⟩ rfl (fun a w h => ?_)
  refine wp_ret ?_
  refine ret_row h 2 59 rfl (lk rfl) 2 rfl (gc ((Ep.o m2).x) ++ gc ((Ep.o m2).y) ++ gc (1)) rfl _ Tryd.underlying59 rfl i59 ?_
  exact ⟨rfl, h.grows⟩
set_option maxRecDepth 100000 in
set_option maxHeartbeats 4000000 in
theorem s_lift_on {w : World} (hT : Tab w) {x y : Fin m2} (hq : y * y - x * x = 1 + ed * (x * x * (y * y))) : Calls Tryd.prog 44 [.agg (gc (x) ++ gc (y) ++ [Value.bool false]).toArray].toArray w fun e w' => e = .returned (.agg (fjc (flift ⟨x, y⟩)).toArray) ∧ Below w.heap.size w w' := by
  refine enter (args := [.agg (gc (x) ++ gc (y) ++ [Value.bool false]).toArray]) Tryd.func44 rfl 13 rfl (lk rfl) (fun a h => ?_)
  refine go_region h hm [eN 1 (gc (x) ++ gc (y) ++ [Value.bool false]), eN 2 (nz ++ nz ++ nz)] (by kernel_rfl) ⟨
    fun L u => u_box u (gd0 rfl) 26 (.tmp 0) rfl 1 rfl rfl rfl _ rfl,
    fun L u => u_alloc u (gd0 rfl) 59 rfl 2 rfl rfl z59 _ rfl,
    trivial⟩ [(1, .ptr 1 0), (2, .ptr 2 0)] [(1, gc (x) ++ gc (y) ++ [Value.bool false]), (2, nz ++ nz ++ nz)] ⟨rfl, rfl, trivial⟩ ⟨rfl, rfl, trivial⟩ rfl (fun a w h => ?_)
  refine wp_seq ?_
  refine go_region h hm [eS 3 (.val (.agg (gc (x) ++ gc (y) ++ [Value.bool false]).toArray)), eS 4 (.val (Value.bool true)), eS 5 (.val (Value.bool false))] (by kernel_rfl) ⟨
    fun L u => u_load u (gd0 rfl) 3 rfl 26 (.tmp 1) rfl rfl rfl Tryd.underlying26 rfl i26 (lk rfl) _ rfl,
    fun L u => u_call u (gd0 rfl) 4 rfl 11 #[(.tmp 3)] #[26] rfl [.agg (gc (x) ++ gc (y) ++ [Value.bool false]).toArray] rfl (cE11 _) (Value.bool true) (fun w hb => by have f := s_formed_at (hT.keep (Bs.kp_of hb)) x y; rw [decide_eq_true hq] at f; exact f),
    fun L u => u_not u (gd0 rfl) 5 rfl 4 (.tmp 4) rfl rfl _ rfl,
    trivial⟩ [(1, .ptr 1 0), (2, .ptr 2 0), (5, .val (Value.bool false))] [(1, gc (x) ++ gc (y) ++ [Value.bool false]), (2, nz ++ nz ++ nz)] ⟨rfl, rfl, rfl, trivial⟩ ⟨rfl, rfl, trivial⟩ rfl (fun a w h => ?_)
  refine go_cond h false rfl (fun ht => ?_) (fun hf => ?_)
  case refine_1 => cases ht
  refine wp_skip ?_
  refine then_norm ?_
  refine go_region h hm [eS 7 (.ptr 1 0), eS 8 (.val (.agg (gc (x)).toArray)), eS 9 (.ptr 1 4), eS 10 (.val (.agg (gc (y)).toArray)), eS 11 (.val (.agg (gc (1)).toArray)), eS 12 (.val (.agg (gc (x) ++ gc (y) ++ gc (1)).toArray)), eM 2 (gc (x) ++ gc (y) ++ gc (1))] (by kernel_rfl) ⟨
    fun L u => u_field u (gd0 rfl) 7 rfl 26 (.tmp 1) 0 rfl rfl rfl Tryd.underlying26 rfl i24 _ rfl,
    fun L u => u_load u (gd0 rfl) 8 rfl 24 (.tmp 7) rfl rfl rfl Tryd.underlying24 rfl i24 (lk rfl) _ rfl,
    fun L u => u_field u (gd0 rfl) 9 rfl 26 (.tmp 1) 1 rfl rfl rfl Tryd.underlying26 rfl i24 _ rfl,
    fun L u => u_load u (gd0 rfl) 10 rfl 24 (.tmp 9) rfl rfl rfl Tryd.underlying24 rfl i24 (lk rfl) _ rfl,
    fun L u => u_call u (gd0 rfl) 11 rfl 37 #[] #[] rfl [] rfl (cE37 _) (.agg (gc (1)).toArray) (fun w hb => s_One),
    fun L u => u_build u (gd0 rfl) 12 rfl 59 #[(0, (.tmp 8)), (1, (.tmp 10)), (2, (.tmp 11))] rfl [(0, .agg (gc (x)).toArray), (1, .agg (gc (y)).toArray), (2, .agg (gc (1)).toArray)] rfl (gc (x) ++ gc (y) ++ gc (1)) (g_bF _ _ _),
    fun L u => u_store u (gd0 rfl) 59 (.tmp 2) (.tmp 12) rfl rfl rfl (vs := gc (x) ++ gc (y) ++ gc (1)) rfl rfl i59 (lk rfl) rfl _ rfl,
    trivial⟩ [(2, .ptr 2 0)] [(2, gc (x) ++ gc (y) ++ gc (1))] ⟨rfl, trivial⟩ ⟨rfl, trivial⟩ rfl (fun a w h => ?_)
  refine wp_ret ?_
  refine ret_row h 2 59 rfl (lk rfl) 2 rfl (gc (x) ++ gc (y) ++ gc (1)) rfl _ Tryd.underlying59 rfl i59 ?_
  exact ⟨rfl, h.grows⟩
end Go.Proofs.YtolehamdaceikaaDoor
