/- Points of three numbers: what double, plus and drop of the document answer. -/
import Derived.Test.YtimaaendbfjblaaDoorB18
namespace Go.Proofs.YtimaaendbfjblaaDoor
open Go.RowKit

set_option maxRecDepth 100000 in
set_option maxHeartbeats 4000000 in
theorem r_dbl {w : World} (hT : Tab w) (x y z : Fin m0) : Calls Tryd.prog 64 [.agg (fc (x) ++ fc (y) ++ fc (z)).toArray].toArray w fun e w' => e = .returned (.agg (jc (jdbl ⟨x, y, z⟩)).toArray) ∧ Below w.heap.size w w' := by
  by_cases h0 : z = 0
  · skip
    refine enter (args := [.agg (fc (x) ++ fc (y) ++ fc (z)).toArray]) Tryd.func64 rfl 70 rfl (lk rfl) (fun a h => ?_)
    refine go_region h hm [eN 1 (fc (x) ++ fc (y) ++ fc (z)), eN 2 (nz ++ nz ++ nz)] (by kernel_rfl) ⟨
      fun L u => u_box u (gd0 rfl) 60 (.tmp 0) rfl 1 rfl rfl rfl _ rfl,
      fun L u => u_alloc u (gd0 rfl) 60 rfl 2 rfl rfl z60 _ rfl,
      trivial⟩ [(1, .ptr 1 0), (2, .ptr 2 0)] [(1, fc (x) ++ fc (y) ++ fc (z)), (2, nz ++ nz ++ nz)] ⟨rfl, rfl, trivial⟩ ⟨rfl, rfl, trivial⟩ rfl (fun a w h => ?_)
    refine wp_seq ?_
    refine go_region h hm [eS 9 (.ptr 1 8), eS 10 (.val (.agg (fc (z)).toArray)), eS 11 (.val (.agg (nz).toArray)), eS 12 (.val (Value.bool true)), eS 13 (.val (Value.bool true)), eS 14 (.val undef), eS 15 (.val undef), eS 16 (.val undef), eS 17 (.val undef), eS 18 (.val (Value.bool true))] (by kernel_rfl) ⟨
      fun L u => u_field u (gd0 rfl) 9 rfl 60 (.tmp 1) 2 rfl rfl rfl Tryd.underlying60 rfl i24 _ rfl,
      fun L u => u_load u (gd0 rfl) 10 rfl 24 (.tmp 9) rfl rfl rfl Tryd.underlying24 rfl i24 (lk rfl) _ rfl,
      fun L u => u_build u (gd0 rfl) 11 rfl 24 #[] rfl [] rfl (nz) (bN0),
      fun L u => u_eql u (gd0 rfl) 12 rfl 24 24 (.tmp 10) (.tmp 11) rfl rfl rfl Tryd.eqGuardType24 (true) (eqz_t h0),
      fun L u => u_move u (gd0 rfl) 13 rfl (.tmp 12) (Or.inl rfl) rfl,
      fun L u => u_no u 4 false rfl 13 rfl (lk rfl) rfl 14 rfl,
      fun L u => u_no u 4 false rfl 13 rfl (lk rfl) rfl 15 rfl,
      fun L u => u_no u 4 false rfl 13 rfl (lk rfl) rfl 16 rfl,
      fun L u => u_no u 4 false rfl 13 rfl (lk rfl) rfl 17 rfl,
      fun L u => u_pick u (gd0 rfl) 18 rfl (.tmp 13) (.const (.bool true)) (.tmp 17) rfl rfl rfl rfl _ rfl,
      trivial⟩ [(1, .ptr 1 0), (2, .ptr 2 0), (18, .val (Value.bool true))] [(1, fc (x) ++ fc (y) ++ fc (z)), (2, nz ++ nz ++ nz)] ⟨rfl, rfl, rfl, trivial⟩ ⟨rfl, rfl, trivial⟩ rfl (fun a w h => ?_)
    refine go_cond h true rfl (fun ht => ?_) (fun hf => ?_)
    case refine_2 => cases hf
    refine go_region h hm [eS 19 (.val (.agg (nz ++ nz ++ nz).toArray)), eM 2 (nz ++ nz ++ nz)] (by kernel_rfl) ⟨
      fun L u => u_build u (gd0 rfl) 19 rfl 60 #[] rfl [] rfl (nz ++ nz ++ nz) (bJ0),
      fun L u => u_store u (gd0 rfl) 60 (.tmp 2) (.tmp 19) rfl rfl rfl (vs := nz ++ nz ++ nz) rfl rfl i60 (lk rfl) rfl _ rfl,
      trivial⟩ [(2, .ptr 2 0)] [(2, nz ++ nz ++ nz)] ⟨rfl, trivial⟩ ⟨rfl, trivial⟩ rfl (fun a w h => ?_)
    refine wp_ret ?_
    refine then_ret ?_
    refine ret_row h 2 60 rfl (lk rfl) 2 rfl (nz ++ nz ++ nz) rfl _ Tryd.underlying60 rfl i60 ?_
    exact ⟨by have e : jdbl ⟨x, y, z⟩ = _ := if_pos h0; rw [e]; rw [nz_fc]; rfl, h.grows⟩
  · skip
    by_cases h1 : y = 0
    · skip
      refine enter (args := [.agg (fc (x) ++ fc (y) ++ fc (z)).toArray]) Tryd.func64 rfl 70 rfl (lk rfl) (fun a h => ?_)
      refine go_region h hm [eN 1 (fc (x) ++ fc (y) ++ fc (z)), eN 2 (nz ++ nz ++ nz)] (by kernel_rfl) ⟨
        fun L u => u_box u (gd0 rfl) 60 (.tmp 0) rfl 1 rfl rfl rfl _ rfl,
        fun L u => u_alloc u (gd0 rfl) 60 rfl 2 rfl rfl z60 _ rfl,
        trivial⟩ [(1, .ptr 1 0), (2, .ptr 2 0)] [(1, fc (x) ++ fc (y) ++ fc (z)), (2, nz ++ nz ++ nz)] ⟨rfl, rfl, trivial⟩ ⟨rfl, rfl, trivial⟩ rfl (fun a w h => ?_)
      refine wp_seq ?_
      refine go_region h hm [eS 9 (.ptr 1 8), eS 10 (.val (.agg (fc (z)).toArray)), eS 11 (.val (.agg (nz).toArray)), eS 12 (.val (Value.bool false)), eS 13 (.val (Value.bool false)), eS 14 (.ptr 1 4), eS 15 (.val (.agg (fc (y)).toArray)), eS 16 (.val (.agg (nz).toArray)), eS 17 (.val (Value.bool true)), eS 18 (.val (Value.bool true))] (by kernel_rfl) ⟨
        fun L u => u_field u (gd0 rfl) 9 rfl 60 (.tmp 1) 2 rfl rfl rfl Tryd.underlying60 rfl i24 _ rfl,
        fun L u => u_load u (gd0 rfl) 10 rfl 24 (.tmp 9) rfl rfl rfl Tryd.underlying24 rfl i24 (lk rfl) _ rfl,
        fun L u => u_build u (gd0 rfl) 11 rfl 24 #[] rfl [] rfl (nz) (bN0),
        fun L u => u_eql u (gd0 rfl) 12 rfl 24 24 (.tmp 10) (.tmp 11) rfl rfl rfl Tryd.eqGuardType24 (false) (eqz_f h0),
        fun L u => u_move u (gd0 rfl) 13 rfl (.tmp 12) (Or.inl rfl) rfl,
        fun L u => u_field u (gd1 u 4 false rfl 13 rfl (lk rfl) rfl) 14 rfl 60 (.tmp 1) 1 rfl rfl rfl Tryd.underlying60 rfl i24 _ rfl,
        fun L u => u_load u (gd1 u 4 false rfl 13 rfl (lk rfl) rfl) 15 rfl 24 (.tmp 14) rfl rfl rfl Tryd.underlying24 rfl i24 (lk rfl) _ rfl,
        fun L u => u_build u (gd1 u 4 false rfl 13 rfl (lk rfl) rfl) 16 rfl 24 #[] rfl [] rfl (nz) (bN0),
        fun L u => u_eql u (gd1 u 4 false rfl 13 rfl (lk rfl) rfl) 17 rfl 24 24 (.tmp 15) (.tmp 16) rfl rfl rfl Tryd.eqGuardType24 (true) (eqz_t h1),
        fun L u => u_pick u (gd0 rfl) 18 rfl (.tmp 13) (.const (.bool true)) (.tmp 17) rfl rfl rfl rfl _ rfl,
        trivial⟩ [(1, .ptr 1 0), (2, .ptr 2 0), (18, .val (Value.bool true))] [(1, fc (x) ++ fc (y) ++ fc (z)), (2, nz ++ nz ++ nz)] ⟨rfl, rfl, rfl, trivial⟩ ⟨rfl, rfl, trivial⟩ rfl (fun a w h => ?_)
      refine go_cond h true rfl (fun ht => ?_) (fun hf => ?_)
      case refine_2 => cases hf
      refine go_region h hm [eS 19 (.val (.agg (nz ++ nz ++ nz).toArray)), eM 2 (nz ++ nz ++ nz)] (by kernel_rfl) ⟨
        fun L u => u_build u (gd0 rfl) 19 rfl 60 #[] rfl [] rfl (nz ++ nz ++ nz) (bJ0),
        fun L u => u_store u (gd0 rfl) 60 (.tmp 2) (.tmp 19) rfl rfl rfl (vs := nz ++ nz ++ nz) rfl rfl i60 (lk rfl) rfl _ rfl,
        trivial⟩ [(2, .ptr 2 0)] [(2, nz ++ nz ++ nz)] ⟨rfl, trivial⟩ ⟨rfl, trivial⟩ rfl (fun a w h => ?_)
      refine wp_ret ?_
      refine then_ret ?_
      refine ret_row h 2 60 rfl (lk rfl) 2 rfl (nz ++ nz ++ nz) rfl _ Tryd.underlying60 rfl i60 ?_
      exact ⟨by have e : jdbl ⟨x, y, z⟩ = _ := (if_neg h0).trans (if_pos h1); rw [e]; rw [nz_fc]; rfl, h.grows⟩
    · skip
      refine enter (args := [.agg (fc (x) ++ fc (y) ++ fc (z)).toArray]) Tryd.func64 rfl 70 rfl (lk rfl) (fun a h => ?_)
      refine go_region h hm [eN 1 (fc (x) ++ fc (y) ++ fc (z)), eN 2 (nz ++ nz ++ nz)] (by kernel_rfl) ⟨
        fun L u => u_box u (gd0 rfl) 60 (.tmp 0) rfl 1 rfl rfl rfl _ rfl,
        fun L u => u_alloc u (gd0 rfl) 60 rfl 2 rfl rfl z60 _ rfl,
        trivial⟩ [(1, .ptr 1 0), (2, .ptr 2 0)] [(1, fc (x) ++ fc (y) ++ fc (z)), (2, nz ++ nz ++ nz)] ⟨rfl, rfl, trivial⟩ ⟨rfl, rfl, trivial⟩ rfl (fun a w h => ?_)
      refine wp_seq ?_
      refine go_region h hm [eS 9 (.ptr 1 8), eS 10 (.val (.agg (fc (z)).toArray)), eS 11 (.val (.agg (nz).toArray)), eS 12 (.val (Value.bool false)), eS 13 (.val (Value.bool false)), eS 14 (.ptr 1 4), eS 15 (.val (.agg (fc (y)).toArray)), eS 16 (.val (.agg (nz).toArray)), eS 17 (.val (Value.bool false)), eS 18 (.val (Value.bool false))] (by kernel_rfl) ⟨
        fun L u => u_field u (gd0 rfl) 9 rfl 60 (.tmp 1) 2 rfl rfl rfl Tryd.underlying60 rfl i24 _ rfl,
        fun L u => u_load u (gd0 rfl) 10 rfl 24 (.tmp 9) rfl rfl rfl Tryd.underlying24 rfl i24 (lk rfl) _ rfl,
        fun L u => u_build u (gd0 rfl) 11 rfl 24 #[] rfl [] rfl (nz) (bN0),
        fun L u => u_eql u (gd0 rfl) 12 rfl 24 24 (.tmp 10) (.tmp 11) rfl rfl rfl Tryd.eqGuardType24 (false) (eqz_f h0),
        fun L u => u_move u (gd0 rfl) 13 rfl (.tmp 12) (Or.inl rfl) rfl,
        fun L u => u_field u (gd1 u 4 false rfl 13 rfl (lk rfl) rfl) 14 rfl 60 (.tmp 1) 1 rfl rfl rfl Tryd.underlying60 rfl i24 _ rfl,
        fun L u => u_load u (gd1 u 4 false rfl 13 rfl (lk rfl) rfl) 15 rfl 24 (.tmp 14) rfl rfl rfl Tryd.underlying24 rfl i24 (lk rfl) _ rfl,
        fun L u => u_build u (gd1 u 4 false rfl 13 rfl (lk rfl) rfl) 16 rfl 24 #[] rfl [] rfl (nz) (bN0),
        fun L u => u_eql u (gd1 u 4 false rfl 13 rfl (lk rfl) rfl) 17 rfl 24 24 (.tmp 15) (.tmp 16) rfl rfl rfl Tryd.eqGuardType24 (false) (eqz_f h1),
        fun L u => u_pick u (gd0 rfl) 18 rfl (.tmp 13) (.const (.bool true)) (.tmp 17) rfl rfl rfl rfl _ rfl,
        trivial⟩ [(1, .ptr 1 0), (2, .ptr 2 0), (18, .val (Value.bool false))] [(1, fc (x) ++ fc (y) ++ fc (z)), (2, nz ++ nz ++ nz)] ⟨rfl, rfl, rfl, trivial⟩ ⟨rfl, rfl, trivial⟩ rfl (fun a w h => ?_)
      refine go_cond h false rfl (fun ht => ?_) (fun hf => ?_)
      case refine_1 => cases ht
      refine wp_skip ?_
      refine then_norm ?_
      refine go_region h hm [eS 20 (.ptr 1 8), eS 21 (.val (.agg (fc (z)).toArray)), eS 22 (.ptr 1 8), eS 23 (.val (.agg (fc (z)).toArray)), eS 24 (.val (.agg (fc ((z) * (z))).toArray)), eN 3 (nz), eM 3 (fc ((z) * (z)))] (by kernel_rfl) ⟨
        fun L u => u_field u (gd0 rfl) 20 rfl 60 (.tmp 1) 2 rfl rfl rfl Tryd.underlying60 rfl i24 _ rfl,
        fun L u => u_load u (gd0 rfl) 21 rfl 24 (.tmp 20) rfl rfl rfl Tryd.underlying24 rfl i24 (lk rfl) _ rfl,
        fun L u => u_field u (gd0 rfl) 22 rfl 60 (.tmp 1) 2 rfl rfl rfl Tryd.underlying60 rfl i24 _ rfl,
        fun L u => u_load u (gd0 rfl) 23 rfl 24 (.tmp 22) rfl rfl rfl Tryd.underlying24 rfl i24 (lk rfl) _ rfl,
        fun L u => u_call u (gd0 rfl) 24 rfl 36 #[(.tmp 21), (.tmp 23)] #[24, 24] rfl [.agg (fc (z)).toArray, .agg (fc (z)).toArray] rfl (cE36 _) (.agg (fc ((z) * (z))).toArray) (fun w hb => r_mul (hT.keep (Bs.kp_of hb)) _ _),
        fun L u => u_alloc u (gd0 rfl) 24 rfl 3 rfl rfl z24 _ rfl,
        fun L u => u_store u (gd0 rfl) 24 (.tmp 3) (.tmp 24) rfl rfl rfl (vs := fc ((z) * (z))) rfl rfl i24 (lk rfl) rfl _ rfl,
        trivial⟩ [(1, .ptr 1 0), (2, .ptr 2 0), (3, .ptr 3 0)] [(1, fc (x) ++ fc (y) ++ fc (z)), (2, nz ++ nz ++ nz), (3, fc ((z) * (z)))] ⟨rfl, rfl, rfl, trivial⟩ ⟨rfl, rfl, rfl, trivial⟩ rfl (fun a w h => ?_)
      refine go_region h hm [eS 25 (.ptr 1 4), eS 26 (.val (.agg (fc (y)).toArray)), eS 27 (.ptr 1 4), eS 28 (.val (.agg (fc (y)).toArray)), eS 29 (.val (.agg (fc ((y) * (y))).toArray)), eN 4 (nz), eM 4 (fc ((y) * (y)))] (by kernel_rfl) ⟨
        fun L u => u_field u (gd0 rfl) 25 rfl 60 (.tmp 1) 1 rfl rfl rfl Tryd.underlying60 rfl i24 _ rfl,
        fun L u => u_load u (gd0 rfl) 26 rfl 24 (.tmp 25) rfl rfl rfl Tryd.underlying24 rfl i24 (lk rfl) _ rfl,
        fun L u => u_field u (gd0 rfl) 27 rfl 60 (.tmp 1) 1 rfl rfl rfl Tryd.underlying60 rfl i24 _ rfl,
        fun L u => u_load u (gd0 rfl) 28 rfl 24 (.tmp 27) rfl rfl rfl Tryd.underlying24 rfl i24 (lk rfl) _ rfl,
        fun L u => u_call u (gd0 rfl) 29 rfl 36 #[(.tmp 26), (.tmp 28)] #[24, 24] rfl [.agg (fc (y)).toArray, .agg (fc (y)).toArray] rfl (cE36 _) (.agg (fc ((y) * (y))).toArray) (fun w hb => r_mul (hT.keep (Bs.kp_of hb)) _ _),
        fun L u => u_alloc u (gd0 rfl) 24 rfl 4 rfl rfl z24 _ rfl,
        fun L u => u_store u (gd0 rfl) 24 (.tmp 4) (.tmp 29) rfl rfl rfl (vs := fc ((y) * (y))) rfl rfl i24 (lk rfl) rfl _ rfl,
        trivial⟩ [(1, .ptr 1 0), (2, .ptr 2 0), (3, .ptr 3 0), (4, .ptr 4 0)] [(1, fc (x) ++ fc (y) ++ fc (z)), (2, nz ++ nz ++ nz), (3, fc ((z) * (z))), (4, fc ((y) * (y)))] ⟨rfl, rfl, rfl, rfl, trivial⟩ ⟨rfl, rfl, rfl, rfl, trivial⟩ rfl (fun a w h => ?_)
      refine go_region h hm [eS 30 (.ptr 1 0), eS 31 (.val (.agg (fc (x)).toArray)), eS 32 (.val (.agg (fc ((y) * (y))).toArray)), eS 33 (.val (.agg (fc ((x) * ((y) * (y)))).toArray)), eS 34 (.val (.agg (fc (tmN ((x) * ((y) * (y))) 4)).toArray)), eN 5 (nz), eM 5 (fc (tmN ((x) * ((y) * (y))) 4))] (by kernel_rfl) ⟨
        fun L u => u_field u (gd0 rfl) 30 rfl 60 (.tmp 1) 0 rfl rfl rfl Tryd.underlying60 rfl i24 _ rfl,
        fun L u => u_load u (gd0 rfl) 31 rfl 24 (.tmp 30) rfl rfl rfl Tryd.underlying24 rfl i24 (lk rfl) _ rfl,
        fun L u => u_load u (gd0 rfl) 32 rfl 24 (.tmp 4) rfl rfl rfl Tryd.underlying24 rfl i24 (lk rfl) _ rfl,
        fun L u => u_call u (gd0 rfl) 33 rfl 36 #[(.tmp 31), (.tmp 32)] #[24, 24] rfl [.agg (fc (x)).toArray, .agg (fc ((y) * (y))).toArray] rfl (cE36 _) (.agg (fc ((x) * ((y) * (y)))).toArray) (fun w hb => r_mul (hT.keep (Bs.kp_of hb)) _ _),
        fun L u => u_call u (gd0 rfl) 34 rfl 37 #[(.const (.int .i64 4)), (.tmp 33)] #[3, 24] rfl [(Value.int IntKind.i64 4), .agg (fc ((x) * ((y) * (y)))).toArray] rfl (cE37 _) (.agg (fc (tmN ((x) * ((y) * (y))) 4)).toArray) (fun w hb => r_times (hT.keep (Bs.kp_of hb)) _ 4 (by decide)),
        fun L u => u_alloc u (gd0 rfl) 24 rfl 5 rfl rfl z24 _ rfl,
        fun L u => u_store u (gd0 rfl) 24 (.tmp 5) (.tmp 34) rfl rfl rfl (vs := fc (tmN ((x) * ((y) * (y))) 4)) rfl rfl i24 (lk rfl) rfl _ rfl,
        trivial⟩ [(1, .ptr 1 0), (2, .ptr 2 0), (3, .ptr 3 0), (4, .ptr 4 0), (5, .ptr 5 0)] [(1, fc (x) ++ fc (y) ++ fc (z)), (2, nz ++ nz ++ nz), (3, fc ((z) * (z))), (4, fc ((y) * (y))), (5, fc (tmN ((x) * ((y) * (y))) 4))] ⟨rfl, rfl, rfl, rfl, rfl, trivial⟩ ⟨rfl, rfl, rfl, rfl, rfl, trivial⟩ rfl (fun a w h => ?_)
      refine go_region h hm [eS 35 (.ptr 1 0), eS 36 (.val (.agg (fc (x)).toArray)), eS 37 (.val (.agg (fc ((z) * (z))).toArray)), eS 38 (.val (.agg (fc ((x) - ((z) * (z)))).toArray)), eS 39 (.ptr 1 0), eS 40 (.val (.agg (fc (x)).toArray)), eS 41 (.val (.agg (fc ((z) * (z))).toArray)), eS 42 (.val (.agg (fc ((x) + ((z) * (z)))).toArray)), eS 43 (.val (.agg (fc (((x) - ((z) * (z))) * ((x) + ((z) * (z))))).toArray)), eS 44 (.val (.agg (fc (tmN (((x) - ((z) * (z))) * ((x) + ((z) * (z)))) 3)).toArray)), eN 6 (nz), eM 6 (fc (tmN (((x) - ((z) * (z))) * ((x) + ((z) * (z)))) 3))] (by kernel_rfl) ⟨
        fun L u => u_field u (gd0 rfl) 35 rfl 60 (.tmp 1) 0 rfl rfl rfl Tryd.underlying60 rfl i24 _ rfl,
        fun L u => u_load u (gd0 rfl) 36 rfl 24 (.tmp 35) rfl rfl rfl Tryd.underlying24 rfl i24 (lk rfl) _ rfl,
        fun L u => u_load u (gd0 rfl) 37 rfl 24 (.tmp 3) rfl rfl rfl Tryd.underlying24 rfl i24 (lk rfl) _ rfl,
        fun L u => u_call u (gd0 rfl) 38 rfl 35 #[(.tmp 36), (.tmp 37)] #[24, 24] rfl [.agg (fc (x)).toArray, .agg (fc ((z) * (z))).toArray] rfl (cE35 _) (.agg (fc ((x) - ((z) * (z)))).toArray) (fun w hb => r_sub (hT.keep (Bs.kp_of hb)) _ _),
        fun L u => u_field u (gd0 rfl) 39 rfl 60 (.tmp 1) 0 rfl rfl rfl Tryd.underlying60 rfl i24 _ rfl,
        fun L u => u_load u (gd0 rfl) 40 rfl 24 (.tmp 39) rfl rfl rfl Tryd.underlying24 rfl i24 (lk rfl) _ rfl,
        fun L u => u_load u (gd0 rfl) 41 rfl 24 (.tmp 3) rfl rfl rfl Tryd.underlying24 rfl i24 (lk rfl) _ rfl,
        fun L u => u_call u (gd0 rfl) 42 rfl 34 #[(.tmp 40), (.tmp 41)] #[24, 24] rfl [.agg (fc (x)).toArray, .agg (fc ((z) * (z))).toArray] rfl (cE34 _) (.agg (fc ((x) + ((z) * (z)))).toArray) (fun w hb => r_add (hT.keep (Bs.kp_of hb)) _ _),
        fun L u => u_call u (gd0 rfl) 43 rfl 36 #[(.tmp 38), (.tmp 42)] #[24, 24] rfl [.agg (fc ((x) - ((z) * (z)))).toArray, .agg (fc ((x) + ((z) * (z)))).toArray] rfl (cE36 _) (.agg (fc (((x) - ((z) * (z))) * ((x) + ((z) * (z))))).toArray) (fun w hb => r_mul (hT.keep (Bs.kp_of hb)) _ _),
        fun L u => u_call u (gd0 rfl) 44 rfl 37 #[(.const (.int .i64 3)), (.tmp 43)] #[3, 24] rfl [(Value.int IntKind.i64 3), .agg (fc (((x) - ((z) * (z))) * ((x) + ((z) * (z))))).toArray] rfl (cE37 _) (.agg (fc (tmN (((x) - ((z) * (z))) * ((x) + ((z) * (z)))) 3)).toArray) (fun w hb => r_times (hT.keep (Bs.kp_of hb)) _ 3 (by decide)),
        fun L u => u_alloc u (gd0 rfl) 24 rfl 6 rfl rfl z24 _ rfl,
        fun L u => u_store u (gd0 rfl) 24 (.tmp 6) (.tmp 44) rfl rfl rfl (vs := fc (tmN (((x) - ((z) * (z))) * ((x) + ((z) * (z)))) 3)) rfl rfl i24 (lk rfl) rfl _ rfl,
        trivial⟩ [(1, .ptr 1 0), (2, .ptr 2 0), (4, .ptr 4 0), (5, .ptr 5 0), (6, .ptr 6 0)] [(1, fc (x) ++ fc (y) ++ fc (z)), (2, nz ++ nz ++ nz), (4, fc ((y) * (y))), (5, fc (tmN ((x) * ((y) * (y))) 4)), (6, fc (tmN (((x) - ((z) * (z))) * ((x) + ((z) * (z)))) 3))] ⟨rfl, rfl, rfl, rfl, rfl, trivial⟩ ⟨rfl, rfl, rfl, rfl, rfl, trivial⟩ rfl (fun a w h => ?_)
      refine go_region h hm [eS 45 (.val (.agg (fc (tmN (((x) - ((z) * (z))) * ((x) + ((z) * (z)))) 3)).toArray)), eS 46 (.val (.agg (fc (tmN (((x) - ((z) * (z))) * ((x) + ((z) * (z)))) 3)).toArray)), eS 47 (.val (.agg (fc ((tmN (((x) - ((z) * (z))) * ((x) + ((z) * (z)))) 3) * (tmN (((x) - ((z) * (z))) * ((x) + ((z) * (z)))) 3))).toArray)), eS 48 (.val (.agg (fc (tmN ((x) * ((y) * (y))) 4)).toArray)), eS 49 (.val (.agg (fc (tmN (tmN ((x) * ((y) * (y))) 4) 2)).toArray)), eS 50 (.val (.agg (fc (((tmN (((x) - ((z) * (z))) * ((x) + ((z) * (z)))) 3) * (tmN (((x) - ((z) * (z))) * ((x) + ((z) * (z)))) 3)) - (tmN (tmN ((x) * ((y) * (y))) 4) 2))).toArray)), eN 7 (nz), eM 7 (fc (((tmN (((x) - ((z) * (z))) * ((x) + ((z) * (z)))) 3) * (tmN (((x) - ((z) * (z))) * ((x) + ((z) * (z)))) 3)) - (tmN (tmN ((x) * ((y) * (y))) 4) 2)))] (by kernel_rfl) ⟨
        fun L u => u_load u (gd0 rfl) 45 rfl 24 (.tmp 6) rfl rfl rfl Tryd.underlying24 rfl i24 (lk rfl) _ rfl,
        fun L u => u_load u (gd0 rfl) 46 rfl 24 (.tmp 6) rfl rfl rfl Tryd.underlying24 rfl i24 (lk rfl) _ rfl,
        fun L u => u_call u (gd0 rfl) 47 rfl 36 #[(.tmp 45), (.tmp 46)] #[24, 24] rfl [.agg (fc (tmN (((x) - ((z) * (z))) * ((x) + ((z) * (z)))) 3)).toArray, .agg (fc (tmN (((x) - ((z) * (z))) * ((x) + ((z) * (z)))) 3)).toArray] rfl (cE36 _) (.agg (fc ((tmN (((x) - ((z) * (z))) * ((x) + ((z) * (z)))) 3) * (tmN (((x) - ((z) * (z))) * ((x) + ((z) * (z)))) 3))).toArray) (fun w hb => r_mul (hT.keep (Bs.kp_of hb)) _ _),
        fun L u => u_load u (gd0 rfl) 48 rfl 24 (.tmp 5) rfl rfl rfl Tryd.underlying24 rfl i24 (lk rfl) _ rfl,
        fun L u => u_call u (gd0 rfl) 49 rfl 37 #[(.const (.int .i64 2)), (.tmp 48)] #[3, 24] rfl [(Value.int IntKind.i64 2), .agg (fc (tmN ((x) * ((y) * (y))) 4)).toArray] rfl (cE37 _) (.agg (fc (tmN (tmN ((x) * ((y) * (y))) 4) 2)).toArray) (fun w hb => r_times (hT.keep (Bs.kp_of hb)) _ 2 (by decide)),
        fun L u => u_call u (gd0 rfl) 50 rfl 35 #[(.tmp 47), (.tmp 49)] #[24, 24] rfl [.agg (fc ((tmN (((x) - ((z) * (z))) * ((x) + ((z) * (z)))) 3) * (tmN (((x) - ((z) * (z))) * ((x) + ((z) * (z)))) 3))).toArray, .agg (fc (tmN (tmN ((x) * ((y) * (y))) 4) 2)).toArray] rfl (cE35 _) (.agg (fc (((tmN (((x) - ((z) * (z))) * ((x) + ((z) * (z)))) 3) * (tmN (((x) - ((z) * (z))) * ((x) + ((z) * (z)))) 3)) - (tmN (tmN ((x) * ((y) * (y))) 4) 2))).toArray) (fun w hb => r_sub (hT.keep (Bs.kp_of hb)) _ _),
        fun L u => u_alloc u (gd0 rfl) 24 rfl 7 rfl rfl z24 _ rfl,
        fun L u => u_store u (gd0 rfl) 24 (.tmp 7) (.tmp 50) rfl rfl rfl (vs := fc (((tmN (((x) - ((z) * (z))) * ((x) + ((z) * (z)))) 3) * (tmN (((x) - ((z) * (z))) * ((x) + ((z) * (z)))) 3)) - (tmN (tmN ((x) * ((y) * (y))) 4) 2))) rfl rfl i24 (lk rfl) rfl _ rfl,
        trivial⟩ [(1, .ptr 1 0), (2, .ptr 2 0), (4, .ptr 4 0), (5, .ptr 5 0), (6, .ptr 6 0), (7, .ptr 7 0)] [(1, fc (x) ++ fc (y) ++ fc (z)), (2, nz ++ nz ++ nz), (4, fc ((y) * (y))), (5, fc (tmN ((x) * ((y) * (y))) 4)), (6, fc (tmN (((x) - ((z) * (z))) * ((x) + ((z) * (z)))) 3)), (7, fc (((tmN (((x) - ((z) * (z))) * ((x) + ((z) * (z)))) 3) * (tmN (((x) - ((z) * (z))) * ((x) + ((z) * (z)))) 3)) - (tmN (tmN ((x) * ((y) * (y))) 4) 2)))] ⟨rfl, rfl, rfl, rfl, rfl, rfl, trivial⟩ ⟨rfl, rfl, rfl, rfl, rfl, rfl, trivial⟩ rfl (fun a w h => ?_)
      refine go_region h hm [eS 51 (.val (.agg (fc (tmN (((x) - ((z) * (z))) * ((x) + ((z) * (z)))) 3)).toArray)), eS 52 (.val (.agg (fc (tmN ((x) * ((y) * (y))) 4)).toArray)), eS 53 (.val (.agg (fc (((tmN (((x) - ((z) * (z))) * ((x) + ((z) * (z)))) 3) * (tmN (((x) - ((z) * (z))) * ((x) + ((z) * (z)))) 3)) - (tmN (tmN ((x) * ((y) * (y))) 4) 2))).toArray)), eS 54 (.val (.agg (fc ((tmN ((x) * ((y) * (y))) 4) - (((tmN (((x) - ((z) * (z))) * ((x) + ((z) * (z)))) 3) * (tmN (((x) - ((z) * (z))) * ((x) + ((z) * (z)))) 3)) - (tmN (tmN ((x) * ((y) * (y))) 4) 2)))).toArray)), eS 55 (.val (.agg (fc ((tmN (((x) - ((z) * (z))) * ((x) + ((z) * (z)))) 3) * ((tmN ((x) * ((y) * (y))) 4) - (((tmN (((x) - ((z) * (z))) * ((x) + ((z) * (z)))) 3) * (tmN (((x) - ((z) * (z))) * ((x) + ((z) * (z)))) 3)) - (tmN (tmN ((x) * ((y) * (y))) 4) 2))))).toArray)), eS 56 (.val (.agg (fc ((y) * (y))).toArray)), eS 57 (.val (.agg (fc ((y) * (y))).toArray)), eS 58 (.val (.agg (fc (((y) * (y)) * ((y) * (y)))).toArray)), eS 59 (.val (.agg (fc (tmN (((y) * (y)) * ((y) * (y))) 8)).toArray)), eS 60 (.val (.agg (fc (((tmN (((x) - ((z) * (z))) * ((x) + ((z) * (z)))) 3) * ((tmN ((x) * ((y) * (y))) 4) - (((tmN (((x) - ((z) * (z))) * ((x) + ((z) * (z)))) 3) * (tmN (((x) - ((z) * (z))) * ((x) + ((z) * (z)))) 3)) - (tmN (tmN ((x) * ((y) * (y))) 4) 2)))) - (tmN (((y) * (y)) * ((y) * (y))) 8))).toArray)), eN 8 (nz), eM 8 (fc (((tmN (((x) - ((z) * (z))) * ((x) + ((z) * (z)))) 3) * ((tmN ((x) * ((y) * (y))) 4) - (((tmN (((x) - ((z) * (z))) * ((x) + ((z) * (z)))) 3) * (tmN (((x) - ((z) * (z))) * ((x) + ((z) * (z)))) 3)) - (tmN (tmN ((x) * ((y) * (y))) 4) 2)))) - (tmN (((y) * (y)) * ((y) * (y))) 8)))] (by kernel_rfl) ⟨
        fun L u => u_load u (gd0 rfl) 51 rfl 24 (.tmp 6) rfl rfl rfl Tryd.underlying24 rfl i24 (lk rfl) _ rfl,
        fun L u => u_load u (gd0 rfl) 52 rfl 24 (.tmp 5) rfl rfl rfl Tryd.underlying24 rfl i24 (lk rfl) _ rfl,
        fun L u => u_load u (gd0 rfl) 53 rfl 24 (.tmp 7) rfl rfl rfl Tryd.underlying24 rfl i24 (lk rfl) _ rfl,
        fun L u => u_call u (gd0 rfl) 54 rfl 35 #[(.tmp 52), (.tmp 53)] #[24, 24] rfl [.agg (fc (tmN ((x) * ((y) * (y))) 4)).toArray, .agg (fc (((tmN (((x) - ((z) * (z))) * ((x) + ((z) * (z)))) 3) * (tmN (((x) - ((z) * (z))) * ((x) + ((z) * (z)))) 3)) - (tmN (tmN ((x) * ((y) * (y))) 4) 2))).toArray] rfl (cE35 _) (.agg (fc ((tmN ((x) * ((y) * (y))) 4) - (((tmN (((x) - ((z) * (z))) * ((x) + ((z) * (z)))) 3) * (tmN (((x) - ((z) * (z))) * ((x) + ((z) * (z)))) 3)) - (tmN (tmN ((x) * ((y) * (y))) 4) 2)))).toArray) (fun w hb => r_sub (hT.keep (Bs.kp_of hb)) _ _),
        fun L u => u_call u (gd0 rfl) 55 rfl 36 #[(.tmp 51), (.tmp 54)] #[24, 24] rfl [.agg (fc (tmN (((x) - ((z) * (z))) * ((x) + ((z) * (z)))) 3)).toArray, .agg (fc ((tmN ((x) * ((y) * (y))) 4) - (((tmN (((x) - ((z) * (z))) * ((x) + ((z) * (z)))) 3) * (tmN (((x) - ((z) * (z))) * ((x) + ((z) * (z)))) 3)) - (tmN (tmN ((x) * ((y) * (y))) 4) 2)))).toArray] rfl (cE36 _) (.agg (fc ((tmN (((x) - ((z) * (z))) * ((x) + ((z) * (z)))) 3) * ((tmN ((x) * ((y) * (y))) 4) - (((tmN (((x) - ((z) * (z))) * ((x) + ((z) * (z)))) 3) * (tmN (((x) - ((z) * (z))) * ((x) + ((z) * (z)))) 3)) - (tmN (tmN ((x) * ((y) * (y))) 4) 2))))).toArray) (fun w hb => r_mul (hT.keep (Bs.kp_of hb)) _ _),
        fun L u => u_load u (gd0 rfl) 56 rfl 24 (.tmp 4) rfl rfl rfl Tryd.underlying24 rfl i24 (lk rfl) _ rfl,
        fun L u => u_load u (gd0 rfl) 57 rfl 24 (.tmp 4) rfl rfl rfl Tryd.underlying24 rfl i24 (lk rfl) _ rfl,
        fun L u => u_call u (gd0 rfl) 58 rfl 36 #[(.tmp 56), (.tmp 57)] #[24, 24] rfl [.agg (fc ((y) * (y))).toArray, .agg (fc ((y) * (y))).toArray] rfl (cE36 _) (.agg (fc (((y) * (y)) * ((y) * (y)))).toArray) (fun w hb => r_mul (hT.keep (Bs.kp_of hb)) _ _),
        fun L u => u_call u (gd0 rfl) 59 rfl 37 #[(.const (.int .i64 8)), (.tmp 58)] #[3, 24] rfl [(Value.int IntKind.i64 8), .agg (fc (((y) * (y)) * ((y) * (y)))).toArray] rfl (cE37 _) (.agg (fc (tmN (((y) * (y)) * ((y) * (y))) 8)).toArray) (fun w hb => r_times (hT.keep (Bs.kp_of hb)) _ 8 (by decide)),
        fun L u => u_call u (gd0 rfl) 60 rfl 35 #[(.tmp 55), (.tmp 59)] #[24, 24] rfl [.agg (fc ((tmN (((x) - ((z) * (z))) * ((x) + ((z) * (z)))) 3) * ((tmN ((x) * ((y) * (y))) 4) - (((tmN (((x) - ((z) * (z))) * ((x) + ((z) * (z)))) 3) * (tmN (((x) - ((z) * (z))) * ((x) + ((z) * (z)))) 3)) - (tmN (tmN ((x) * ((y) * (y))) 4) 2))))).toArray, .agg (fc (tmN (((y) * (y)) * ((y) * (y))) 8)).toArray] rfl (cE35 _) (.agg (fc (((tmN (((x) - ((z) * (z))) * ((x) + ((z) * (z)))) 3) * ((tmN ((x) * ((y) * (y))) 4) - (((tmN (((x) - ((z) * (z))) * ((x) + ((z) * (z)))) 3) * (tmN (((x) - ((z) * (z))) * ((x) + ((z) * (z)))) 3)) - (tmN (tmN ((x) * ((y) * (y))) 4) 2)))) - (tmN (((y) * (y)) * ((y) * (y))) 8))).toArray) (fun w hb => r_sub (hT.keep (Bs.kp_of hb)) _ _),
        fun L u => u_alloc u (gd0 rfl) 24 rfl 8 rfl rfl z24 _ rfl,
        fun L u => u_store u (gd0 rfl) 24 (.tmp 8) (.tmp 60) rfl rfl rfl (vs := fc (((tmN (((x) - ((z) * (z))) * ((x) + ((z) * (z)))) 3) * ((tmN ((x) * ((y) * (y))) 4) - (((tmN (((x) - ((z) * (z))) * ((x) + ((z) * (z)))) 3) * (tmN (((x) - ((z) * (z))) * ((x) + ((z) * (z)))) 3)) - (tmN (tmN ((x) * ((y) * (y))) 4) 2)))) - (tmN (((y) * (y)) * ((y) * (y))) 8))) rfl rfl i24 (lk rfl) rfl _ rfl,
        trivial⟩ [(1, .ptr 1 0), (2, .ptr 2 0), (7, .ptr 7 0), (8, .ptr 8 0)] [(1, fc (x) ++ fc (y) ++ fc (z)), (2, nz ++ nz ++ nz), (7, fc (((tmN (((x) - ((z) * (z))) * ((x) + ((z) * (z)))) 3) * (tmN (((x) - ((z) * (z))) * ((x) + ((z) * (z)))) 3)) - (tmN (tmN ((x) * ((y) * (y))) 4) 2))), (8, fc (((tmN (((x) - ((z) * (z))) * ((x) + ((z) * (z)))) 3) * ((tmN ((x) * ((y) * (y))) 4) - (((tmN (((x) - ((z) * (z))) * ((x) + ((z) * (z)))) 3) * (tmN (((x) - ((z) * (z))) * ((x) + ((z) * (z)))) 3)) - (tmN (tmN ((x) * ((y) * (y))) 4) 2)))) - (tmN (((y) * (y)) * ((y) * (y))) 8)))] ⟨rfl, rfl, rfl, rfl, trivial⟩ ⟨rfl, rfl, rfl, rfl, trivial⟩ rfl (fun a w h => ?_)
      refine go_region h hm [eS 61 (.val (.agg (fc (((tmN (((x) - ((z) * (z))) * ((x) + ((z) * (z)))) 3) * (tmN (((x) - ((z) * (z))) * ((x) + ((z) * (z)))) 3)) - (tmN (tmN ((x) * ((y) * (y))) 4) 2))).toArray)), eS 62 (.val (.agg (fc (((tmN (((x) - ((z) * (z))) * ((x) + ((z) * (z)))) 3) * ((tmN ((x) * ((y) * (y))) 4) - (((tmN (((x) - ((z) * (z))) * ((x) + ((z) * (z)))) 3) * (tmN (((x) - ((z) * (z))) * ((x) + ((z) * (z)))) 3)) - (tmN (tmN ((x) * ((y) * (y))) 4) 2)))) - (tmN (((y) * (y)) * ((y) * (y))) 8))).toArray)), eS 63 (.ptr 1 4), eS 64 (.val (.agg (fc (y)).toArray)), eS 65 (.ptr 1 8), eS 66 (.val (.agg (fc (z)).toArray)), eS 67 (.val (.agg (fc ((y) * (z))).toArray)), eS 68 (.val (.agg (fc (tmN ((y) * (z)) 2)).toArray)), eS 69 (.val (.agg (fc (((tmN (((x) - ((z) * (z))) * ((x) + ((z) * (z)))) 3) * (tmN (((x) - ((z) * (z))) * ((x) + ((z) * (z)))) 3)) - (tmN (tmN ((x) * ((y) * (y))) 4) 2)) ++ fc (((tmN (((x) - ((z) * (z))) * ((x) + ((z) * (z)))) 3) * ((tmN ((x) * ((y) * (y))) 4) - (((tmN (((x) - ((z) * (z))) * ((x) + ((z) * (z)))) 3) * (tmN (((x) - ((z) * (z))) * ((x) + ((z) * (z)))) 3)) - (tmN (tmN ((x) * ((y) * (y))) 4) 2)))) - (tmN (((y) * (y)) * ((y) * (y))) 8)) ++ fc (tmN ((y) * (z)) 2)).toArray)), eM 2 (fc (((tmN (((x) - ((z) * (z))) * ((x) + ((z) * (z)))) 3) * (tmN (((x) - ((z) * (z))) * ((x) + ((z) * (z)))) 3)) - (tmN (tmN ((x) * ((y) * (y))) 4) 2)) ++ fc (((tmN (((x) - ((z) * (z))) * ((x) + ((z) * (z)))) 3) * ((tmN ((x) * ((y) * (y))) 4) - (((tmN (((x) - ((z) * (z))) * ((x) + ((z) * (z)))) 3) * (tmN (((x) - ((z) * (z))) * ((x) + ((z) * (z)))) 3)) - (tmN (tmN ((x) * ((y) * (y))) 4) 2)))) - (tmN (((y) * (y)) * ((y) * (y))) 8)) ++ fc (tmN ((y) * (z)) 2))] (by kernel_rfl) ⟨
        fun L u => u_load u (gd0 rfl) 61 rfl 24 (.tmp 7) rfl rfl rfl Tryd.underlying24 rfl i24 (lk rfl) _ rfl,
        fun L u => u_load u (gd0 rfl) 62 rfl 24 (.tmp 8) rfl rfl rfl Tryd.underlying24 rfl i24 (lk rfl) _ rfl,
        fun L u => u_field u (gd0 rfl) 63 rfl 60 (.tmp 1) 1 rfl rfl rfl Tryd.underlying60 rfl i24 _ rfl,
        fun L u => u_load u (gd0 rfl) 64 rfl 24 (.tmp 63) rfl rfl rfl Tryd.underlying24 rfl i24 (lk rfl) _ rfl,
        fun L u => u_field u (gd0 rfl) 65 rfl 60 (.tmp 1) 2 rfl rfl rfl Tryd.underlying60 rfl i24 _ rfl,
        fun L u => u_load u (gd0 rfl) 66 rfl 24 (.tmp 65) rfl rfl rfl Tryd.underlying24 rfl i24 (lk rfl) _ rfl,
        fun L u => u_call u (gd0 rfl) 67 rfl 36 #[(.tmp 64), (.tmp 66)] #[24, 24] rfl [.agg (fc (y)).toArray, .agg (fc (z)).toArray] rfl (cE36 _) (.agg (fc ((y) * (z))).toArray) (fun w hb => r_mul (hT.keep (Bs.kp_of hb)) _ _),
        fun L u => u_call u (gd0 rfl) 68 rfl 37 #[(.const (.int .i64 2)), (.tmp 67)] #[3, 24] rfl [(Value.int IntKind.i64 2), .agg (fc ((y) * (z))).toArray] rfl (cE37 _) (.agg (fc (tmN ((y) * (z)) 2)).toArray) (fun w hb => r_times (hT.keep (Bs.kp_of hb)) _ 2 (by decide)),
        fun L u => u_build u (gd0 rfl) 69 rfl 60 #[(0, (.tmp 61)), (1, (.tmp 62)), (2, (.tmp 68))] rfl [(0, .agg (fc (((tmN (((x) - ((z) * (z))) * ((x) + ((z) * (z)))) 3) * (tmN (((x) - ((z) * (z))) * ((x) + ((z) * (z)))) 3)) - (tmN (tmN ((x) * ((y) * (y))) 4) 2))).toArray), (1, .agg (fc (((tmN (((x) - ((z) * (z))) * ((x) + ((z) * (z)))) 3) * ((tmN ((x) * ((y) * (y))) 4) - (((tmN (((x) - ((z) * (z))) * ((x) + ((z) * (z)))) 3) * (tmN (((x) - ((z) * (z))) * ((x) + ((z) * (z)))) 3)) - (tmN (tmN ((x) * ((y) * (y))) 4) 2)))) - (tmN (((y) * (y)) * ((y) * (y))) 8))).toArray), (2, .agg (fc (tmN ((y) * (z)) 2)).toArray)] rfl (fc (((tmN (((x) - ((z) * (z))) * ((x) + ((z) * (z)))) 3) * (tmN (((x) - ((z) * (z))) * ((x) + ((z) * (z)))) 3)) - (tmN (tmN ((x) * ((y) * (y))) 4) 2)) ++ fc (((tmN (((x) - ((z) * (z))) * ((x) + ((z) * (z)))) 3) * ((tmN ((x) * ((y) * (y))) 4) - (((tmN (((x) - ((z) * (z))) * ((x) + ((z) * (z)))) 3) * (tmN (((x) - ((z) * (z))) * ((x) + ((z) * (z)))) 3)) - (tmN (tmN ((x) * ((y) * (y))) 4) 2)))) - (tmN (((y) * (y)) * ((y) * (y))) 8)) ++ fc (tmN ((y) * (z)) 2)) (bJ _ _ _),
        fun L u => u_store u (gd0 rfl) 60 (.tmp 2) (.tmp 69) rfl rfl rfl (vs := fc (((tmN (((x) - ((z) * (z))) * ((x) + ((z) * (z)))) 3) * (tmN (((x) - ((z) * (z))) * ((x) + ((z) * (z)))) 3)) - (tmN (tmN ((x) * ((y) * (y))) 4) 2)) ++ fc (((tmN (((x) - ((z) * (z))) * ((x) + ((z) * (z)))) 3) * ((tmN ((x) * ((y) * (y))) 4) - (((tmN (((x) - ((z) * (z))) * ((x) + ((z) * (z)))) 3) * (tmN (((x) - ((z) * (z))) * ((x) + ((z) * (z)))) 3)) - (tmN (tmN ((x) * ((y) * (y))) 4) 2)))) - (tmN (((y) * (y)) * ((y) * (y))) 8)) ++ fc (tmN ((y) * (z)) 2)) rfl rfl i60 (lk rfl) rfl _ rfl,
        trivial⟩ [(2, .ptr 2 0)] [(2, fc (((tmN (((x) - ((z) * (z))) * ((x) + ((z) * (z)))) 3) * (tmN (((x) - ((z) * (z))) * ((x) + ((z) * (z)))) 3)) - (tmN (tmN ((x) * ((y) * (y))) 4) 2)) ++ fc (((tmN (((x) - ((z) * (z))) * ((x) + ((z) * (z)))) 3) * ((tmN ((x) * ((y) * (y))) 4) - (((tmN (((x) - ((z) * (z))) * ((x) + ((z) * (z)))) 3) * (tmN (((x) - ((z) * (z))) * ((x) + ((z) * (z)))) 3)) - (tmN (tmN ((x) * ((y) * (y))) 4) 2)))) - (tmN (((y) * (y)) * ((y) * (y))) 8)) ++ fc (tmN ((y) * (z)) 2))] ⟨rfl, trivial⟩ ⟨rfl, trivial⟩ rfl (fun a w h => ?_)
      refine wp_ret ?_
      refine ret_row h 2 60 rfl (lk rfl) 2 rfl (fc (((tmN (((x) - ((z) * (z))) * ((x) + ((z) * (z)))) 3) * (tmN (((x) - ((z) * (z))) * ((x) + ((z) * (z)))) 3)) - (tmN (tmN ((x) * ((y) * (y))) 4) 2)) ++ fc (((tmN (((x) - ((z) * (z))) * ((x) + ((z) * (z)))) 3) * ((tmN ((x) * ((y) * (y))) 4) - (((tmN (((x) - ((z) * (z))) * ((x) + ((z) * (z)))) 3) * (tmN (((x) - ((z) * (z))) * ((x) + ((z) * (z)))) 3)) - (tmN (tmN ((x) * ((y) * (y))) 4) 2)))) - (tmN (((y) * (y)) * ((y) * (y))) 8)) ++ fc (tmN ((y) * (z)) 2)) rfl _ Tryd.underlying60 rfl i60 ?_
      exact ⟨by have e : jdbl ⟨x, y, z⟩ = _ := (if_neg h0).trans (if_neg h1); rw [e]; rfl, h.grows⟩
set_option maxRecDepth 100000 in
set_option maxHeartbeats 4000000 in
theorem r_plus {w : World} (hT : Tab w) (x1 y1 z1 x2 y2 z2 : Fin m0) : Calls Tryd.prog 43 [.agg (fc (x1) ++ fc (y1) ++ fc (z1)).toArray, .agg (fc (x2) ++ fc (y2) ++ fc (z2)).toArray].toArray w fun e w' => e = .returned (.agg (jc (jadd ⟨x1, y1, z1⟩ ⟨x2, y2, z2⟩)).toArray) ∧ Below w.heap.size w w' := by
  by_cases h0 : z1 = 0
  · skip
    refine enter (args := [.agg (fc (x1) ++ fc (y1) ++ fc (z1)).toArray, .agg (fc (x2) ++ fc (y2) ++ fc (z2)).toArray]) Tryd.func43 rfl 111 rfl (lk rfl) (fun a h => ?_)
    refine go_region h hm [eN 2 (fc (x1) ++ fc (y1) ++ fc (z1)), eN 3 (fc (x2) ++ fc (y2) ++ fc (z2)), eN 4 (nz ++ nz ++ nz)] (by kernel_rfl) ⟨
      fun L u => u_box u (gd0 rfl) 60 (.tmp 0) rfl 2 rfl rfl rfl _ rfl,
      fun L u => u_box u (gd0 rfl) 60 (.tmp 1) rfl 3 rfl rfl rfl _ rfl,
      fun L u => u_alloc u (gd0 rfl) 60 rfl 4 rfl rfl z60 _ rfl,
      trivial⟩ [(2, .ptr 2 0), (3, .ptr 3 0), (4, .ptr 4 0)] [(2, fc (x1) ++ fc (y1) ++ fc (z1)), (3, fc (x2) ++ fc (y2) ++ fc (z2)), (4, nz ++ nz ++ nz)] ⟨rfl, rfl, rfl, trivial⟩ ⟨rfl, rfl, rfl, trivial⟩ rfl (fun a w h => ?_)
    refine wp_seq ?_
    refine go_region h hm [eS 18 (.ptr 2 8), eS 19 (.val (.agg (fc (z1)).toArray)), eS 20 (.val (.agg (nz).toArray)), eS 21 (.val (Value.bool true))] (by kernel_rfl) ⟨
      fun L u => u_field u (gd0 rfl) 18 rfl 60 (.tmp 2) 2 rfl rfl rfl Tryd.underlying60 rfl i24 _ rfl,
      fun L u => u_load u (gd0 rfl) 19 rfl 24 (.tmp 18) rfl rfl rfl Tryd.underlying24 rfl i24 (lk rfl) _ rfl,
      fun L u => u_build u (gd0 rfl) 20 rfl 24 #[] rfl [] rfl (nz) (bN0),
      fun L u => u_eql u (gd0 rfl) 21 rfl 24 24 (.tmp 19) (.tmp 20) rfl rfl rfl Tryd.eqGuardType24 (true) (eqz_t h0),
      trivial⟩ [(2, .ptr 2 0), (3, .ptr 3 0), (4, .ptr 4 0), (21, .val (Value.bool true))] [(2, fc (x1) ++ fc (y1) ++ fc (z1)), (3, fc (x2) ++ fc (y2) ++ fc (z2)), (4, nz ++ nz ++ nz)] ⟨rfl, rfl, rfl, rfl, trivial⟩ ⟨rfl, rfl, rfl, trivial⟩ rfl (fun a w h => ?_)
    refine go_cond h true rfl (fun ht => ?_) (fun hf => ?_)
    case refine_2 => cases hf
    refine go_region h hm [eS 22 (.val (.agg (fc (x2) ++ fc (y2) ++ fc (z2)).toArray)), eM 4 (fc (x2) ++ fc (y2) ++ fc (z2))] (by kernel_rfl) ⟨
      fun L u => u_load u (gd0 rfl) 22 rfl 60 (.tmp 3) rfl rfl rfl Tryd.underlying60 rfl i60 (lk rfl) _ rfl,
      fun L u => u_store u (gd0 rfl) 60 (.tmp 4) (.tmp 22) rfl rfl rfl (vs := fc (x2) ++ fc (y2) ++ fc (z2)) rfl rfl i60 (lk rfl) rfl _ rfl,
      trivial⟩ [(4, .ptr 4 0)] [(4, fc (x2) ++ fc (y2) ++ fc (z2))] ⟨rfl, trivial⟩ ⟨rfl, trivial⟩ rfl (fun a w h => ?_)
    refine wp_ret ?_
    refine then_ret ?_
    refine ret_row h 4 60 rfl (lk rfl) 4 rfl (fc (x2) ++ fc (y2) ++ fc (z2)) rfl _ Tryd.underlying60 rfl i60 ?_
    exact ⟨by have e : jadd ⟨x1, y1, z1⟩ ⟨x2, y2, z2⟩ = _ := if_pos h0; rw [e]; rfl, h.grows⟩
  · skip
    by_cases h1 : z2 = 0
    · skip
      refine enter (args := [.agg (fc (x1) ++ fc (y1) ++ fc (z1)).toArray, .agg (fc (x2) ++ fc (y2) ++ fc (z2)).toArray]) Tryd.func43 rfl 111 rfl (lk rfl) (fun a h => ?_)
      refine go_region h hm [eN 2 (fc (x1) ++ fc (y1) ++ fc (z1)), eN 3 (fc (x2) ++ fc (y2) ++ fc (z2)), eN 4 (nz ++ nz ++ nz)] (by kernel_rfl) ⟨
        fun L u => u_box u (gd0 rfl) 60 (.tmp 0) rfl 2 rfl rfl rfl _ rfl,
        fun L u => u_box u (gd0 rfl) 60 (.tmp 1) rfl 3 rfl rfl rfl _ rfl,
        fun L u => u_alloc u (gd0 rfl) 60 rfl 4 rfl rfl z60 _ rfl,
        trivial⟩ [(2, .ptr 2 0), (3, .ptr 3 0), (4, .ptr 4 0)] [(2, fc (x1) ++ fc (y1) ++ fc (z1)), (3, fc (x2) ++ fc (y2) ++ fc (z2)), (4, nz ++ nz ++ nz)] ⟨rfl, rfl, rfl, trivial⟩ ⟨rfl, rfl, rfl, trivial⟩ rfl (fun a w h => ?_)
      refine wp_seq ?_
      refine go_region h hm [eS 18 (.ptr 2 8), eS 19 (.val (.agg (fc (z1)).toArray)), eS 20 (.val (.agg (nz).toArray)), eS 21 (.val (Value.bool false))] (by kernel_rfl) ⟨
        fun L u => u_field u (gd0 rfl) 18 rfl 60 (.tmp 2) 2 rfl rfl rfl Tryd.underlying60 rfl i24 _ rfl,
        fun L u => u_load u (gd0 rfl) 19 rfl 24 (.tmp 18) rfl rfl rfl Tryd.underlying24 rfl i24 (lk rfl) _ rfl,
        fun L u => u_build u (gd0 rfl) 20 rfl 24 #[] rfl [] rfl (nz) (bN0),
        fun L u => u_eql u (gd0 rfl) 21 rfl 24 24 (.tmp 19) (.tmp 20) rfl rfl rfl Tryd.eqGuardType24 (false) (eqz_f h0),
        trivial⟩ [(2, .ptr 2 0), (3, .ptr 3 0), (4, .ptr 4 0), (21, .val (Value.bool false))] [(2, fc (x1) ++ fc (y1) ++ fc (z1)), (3, fc (x2) ++ fc (y2) ++ fc (z2)), (4, nz ++ nz ++ nz)] ⟨rfl, rfl, rfl, rfl, trivial⟩ ⟨rfl, rfl, rfl, trivial⟩ rfl (fun a w h => ?_)
      refine go_cond h false rfl (fun ht => ?_) (fun hf => ?_)
      case refine_1 => cases ht
      refine wp_skip ?_
      refine then_norm ?_
      refine wp_seq ?_
      refine go_region h hm [eS 23 (.ptr 3 8), eS 24 (.val (.agg (fc (z2)).toArray)), eS 25 (.val (.agg (nz).toArray)), eS 26 (.val (Value.bool true))] (by kernel_rfl) ⟨
        fun L u => u_field u (gd0 rfl) 23 rfl 60 (.tmp 3) 2 rfl rfl rfl Tryd.underlying60 rfl i24 _ rfl,
        fun L u => u_load u (gd0 rfl) 24 rfl 24 (.tmp 23) rfl rfl rfl Tryd.underlying24 rfl i24 (lk rfl) _ rfl,
        fun L u => u_build u (gd0 rfl) 25 rfl 24 #[] rfl [] rfl (nz) (bN0),
        fun L u => u_eql u (gd0 rfl) 26 rfl 24 24 (.tmp 24) (.tmp 25) rfl rfl rfl Tryd.eqGuardType24 (true) (eqz_t h1),
        trivial⟩ [(2, .ptr 2 0), (3, .ptr 3 0), (4, .ptr 4 0), (26, .val (Value.bool true))] [(2, fc (x1) ++ fc (y1) ++ fc (z1)), (3, fc (x2) ++ fc (y2) ++ fc (z2)), (4, nz ++ nz ++ nz)] ⟨rfl, rfl, rfl, rfl, trivial⟩ ⟨rfl, rfl, rfl, trivial⟩ rfl (fun a w h => ?_)
      refine go_cond h true rfl (fun ht => ?_) (fun hf => ?_)
      case refine_2 => cases hf
      refine go_region h hm [eS 27 (.val (.agg (fc (x1) ++ fc (y1) ++ fc (z1)).toArray)), eM 4 (fc (x1) ++ fc (y1) ++ fc (z1))] (by kernel_rfl) ⟨
        fun L u => u_load u (gd0 rfl) 27 rfl 60 (.tmp 2) rfl rfl rfl Tryd.underlying60 rfl i60 (lk rfl) _ rfl,
        fun L u => u_store u (gd0 rfl) 60 (.tmp 4) (.tmp 27) rfl rfl rfl (vs := fc (x1) ++ fc (y1) ++ fc (z1)) rfl rfl i60 (lk rfl) rfl _ rfl,
        trivial⟩ [(4, .ptr 4 0)] [(4, fc (x1) ++ fc (y1) ++ fc (z1))] ⟨rfl, trivial⟩ ⟨rfl, trivial⟩ rfl (fun a w h => ?_)
      refine wp_ret ?_
      refine then_ret ?_
      refine ret_row h 4 60 rfl (lk rfl) 4 rfl (fc (x1) ++ fc (y1) ++ fc (z1)) rfl _ Tryd.underlying60 rfl i60 ?_
      exact ⟨by have e : jadd ⟨x1, y1, z1⟩ ⟨x2, y2, z2⟩ = _ := (if_neg h0).trans (if_pos h1); rw [e]; rfl, h.grows⟩
    · skip
      by_cases h2 : (x1) * ((z2) * (z2)) = (x2) * ((z1) * (z1))
      · skip
        by_cases h3 : (y1) * ((z2) * ((z2) * (z2))) = (y2) * ((z1) * ((z1) * (z1)))
        · skip
          refine enter (args := [.agg (fc (x1) ++ fc (y1) ++ fc (z1)).toArray, .agg (fc (x2) ++ fc (y2) ++ fc (z2)).toArray]) Tryd.func43 rfl 111 rfl (lk rfl) (fun a h => ?_)
          refine go_region h hm [eN 2 (fc (x1) ++ fc (y1) ++ fc (z1)), eN 3 (fc (x2) ++ fc (y2) ++ fc (z2)), eN 4 (nz ++ nz ++ nz)] (by kernel_rfl) ⟨
            fun L u => u_box u (gd0 rfl) 60 (.tmp 0) rfl 2 rfl rfl rfl _ rfl,
            fun L u => u_box u (gd0 rfl) 60 (.tmp 1) rfl 3 rfl rfl rfl _ rfl,
            fun L u => u_alloc u (gd0 rfl) 60 rfl 4 rfl rfl z60 _ rfl,
            trivial⟩ [(2, .ptr 2 0), (3, .ptr 3 0), (4, .ptr 4 0)] [(2, fc (x1) ++ fc (y1) ++ fc (z1)), (3, fc (x2) ++ fc (y2) ++ fc (z2)), (4, nz ++ nz ++ nz)] ⟨rfl, rfl, rfl, trivial⟩ ⟨rfl, rfl, rfl, trivial⟩ rfl (fun a w h => ?_)
          refine wp_seq ?_
          refine go_region h hm [eS 18 (.ptr 2 8), eS 19 (.val (.agg (fc (z1)).toArray)), eS 20 (.val (.agg (nz).toArray)), eS 21 (.val (Value.bool false))] (by kernel_rfl) ⟨
            fun L u => u_field u (gd0 rfl) 18 rfl 60 (.tmp 2) 2 rfl rfl rfl Tryd.underlying60 rfl i24 _ rfl,
            fun L u => u_load u (gd0 rfl) 19 rfl 24 (.tmp 18) rfl rfl rfl Tryd.underlying24 rfl i24 (lk rfl) _ rfl,
            fun L u => u_build u (gd0 rfl) 20 rfl 24 #[] rfl [] rfl (nz) (bN0),
            fun L u => u_eql u (gd0 rfl) 21 rfl 24 24 (.tmp 19) (.tmp 20) rfl rfl rfl Tryd.eqGuardType24 (false) (eqz_f h0),
            trivial⟩ [(2, .ptr 2 0), (3, .ptr 3 0), (4, .ptr 4 0), (21, .val (Value.bool false))] [(2, fc (x1) ++ fc (y1) ++ fc (z1)), (3, fc (x2) ++ fc (y2) ++ fc (z2)), (4, nz ++ nz ++ nz)] ⟨rfl, rfl, rfl, rfl, trivial⟩ ⟨rfl, rfl, rfl, trivial⟩ rfl (fun a w h => ?_)
          refine go_cond h false rfl (fun ht => ?_) (fun hf => ?_)
          case refine_1 => cases ht
          refine wp_skip ?_
          refine then_norm ?_
          refine wp_seq ?_
          refine go_region h hm [eS 23 (.ptr 3 8), eS 24 (.val (.agg (fc (z2)).toArray)), eS 25 (.val (.agg (nz).toArray)), eS 26 (.val (Value.bool false))] (by kernel_rfl) ⟨
            fun L u => u_field u (gd0 rfl) 23 rfl 60 (.tmp 3) 2 rfl rfl rfl Tryd.underlying60 rfl i24 _ rfl,
            fun L u => u_load u (gd0 rfl) 24 rfl 24 (.tmp 23) rfl rfl rfl Tryd.underlying24 rfl i24 (lk rfl) _ rfl,
            fun L u => u_build u (gd0 rfl) 25 rfl 24 #[] rfl [] rfl (nz) (bN0),
            fun L u => u_eql u (gd0 rfl) 26 rfl 24 24 (.tmp 24) (.tmp 25) rfl rfl rfl Tryd.eqGuardType24 (false) (eqz_f h1),
            trivial⟩ [(2, .ptr 2 0), (3, .ptr 3 0), (4, .ptr 4 0), (26, .val (Value.bool false))] [(2, fc (x1) ++ fc (y1) ++ fc (z1)), (3, fc (x2) ++ fc (y2) ++ fc (z2)), (4, nz ++ nz ++ nz)] ⟨rfl, rfl, rfl, rfl, trivial⟩ ⟨rfl, rfl, rfl, trivial⟩ rfl (fun a w h => ?_)
          refine go_cond h false rfl (fun ht => ?_) (fun hf => ?_)
          case refine_1 => cases ht
          refine wp_skip ?_
          refine then_norm ?_
          refine go_region h hm [eS 28 (.ptr 2 8), eS 29 (.val (.agg (fc (z1)).toArray)), eS 30 (.ptr 2 8), eS 31 (.val (.agg (fc (z1)).toArray)), eS 32 (.val (.agg (fc ((z1) * (z1))).toArray)), eS 33 (.ptr 3 8), eS 34 (.val (.agg (fc (z2)).toArray)), eS 35 (.ptr 3 8), eS 36 (.val (.agg (fc (z2)).toArray)), eS 37 (.val (.agg (fc ((z2) * (z2))).toArray)), eN 5 (nz), eN 6 (nz), eM 5 (fc ((z1) * (z1))), eM 6 (fc ((z2) * (z2)))] (by kernel_rfl) ⟨
            fun L u => u_field u (gd0 rfl) 28 rfl 60 (.tmp 2) 2 rfl rfl rfl Tryd.underlying60 rfl i24 _ rfl,
            fun L u => u_load u (gd0 rfl) 29 rfl 24 (.tmp 28) rfl rfl rfl Tryd.underlying24 rfl i24 (lk rfl) _ rfl,
            fun L u => u_field u (gd0 rfl) 30 rfl 60 (.tmp 2) 2 rfl rfl rfl Tryd.underlying60 rfl i24 _ rfl,
            fun L u => u_load u (gd0 rfl) 31 rfl 24 (.tmp 30) rfl rfl rfl Tryd.underlying24 rfl i24 (lk rfl) _ rfl,
            fun L u => u_call u (gd0 rfl) 32 rfl 36 #[(.tmp 29), (.tmp 31)] #[24, 24] rfl [.agg (fc (z1)).toArray, .agg (fc (z1)).toArray] rfl (cE36 _) (.agg (fc ((z1) * (z1))).toArray) (fun w hb => r_mul (hT.keep (Bs.kp_of hb)) _ _),
            fun L u => u_field u (gd0 rfl) 33 rfl 60 (.tmp 3) 2 rfl rfl rfl Tryd.underlying60 rfl i24 _ rfl,
            fun L u => u_load u (gd0 rfl) 34 rfl 24 (.tmp 33) rfl rfl rfl Tryd.underlying24 rfl i24 (lk rfl) _ rfl,
            fun L u => u_field u (gd0 rfl) 35 rfl 60 (.tmp 3) 2 rfl rfl rfl Tryd.underlying60 rfl i24 _ rfl,
            fun L u => u_load u (gd0 rfl) 36 rfl 24 (.tmp 35) rfl rfl rfl Tryd.underlying24 rfl i24 (lk rfl) _ rfl,
            fun L u => u_call u (gd0 rfl) 37 rfl 36 #[(.tmp 34), (.tmp 36)] #[24, 24] rfl [.agg (fc (z2)).toArray, .agg (fc (z2)).toArray] rfl (cE36 _) (.agg (fc ((z2) * (z2))).toArray) (fun w hb => r_mul (hT.keep (Bs.kp_of hb)) _ _),
            fun L u => u_alloc u (gd0 rfl) 24 rfl 5 rfl rfl z24 _ rfl,
            fun L u => u_alloc u (gd0 rfl) 24 rfl 6 rfl rfl z24 _ rfl,
            fun L u => u_store u (gd0 rfl) 24 (.tmp 5) (.tmp 32) rfl rfl rfl (vs := fc ((z1) * (z1))) rfl rfl i24 (lk rfl) rfl _ rfl,
            fun L u => u_store u (gd0 rfl) 24 (.tmp 6) (.tmp 37) rfl rfl rfl (vs := fc ((z2) * (z2))) rfl rfl i24 (lk rfl) rfl _ rfl,
            trivial⟩ [(2, .ptr 2 0), (3, .ptr 3 0), (4, .ptr 4 0), (5, .ptr 5 0), (6, .ptr 6 0)] [(2, fc (x1) ++ fc (y1) ++ fc (z1)), (3, fc (x2) ++ fc (y2) ++ fc (z2)), (4, nz ++ nz ++ nz), (5, fc ((z1) * (z1))), (6, fc ((z2) * (z2)))] ⟨rfl, rfl, rfl, rfl, rfl, trivial⟩ ⟨rfl, rfl, rfl, rfl, rfl, trivial⟩ rfl (fun a w h => ?_)
          refine go_region h hm [eS 38 (.ptr 2 0), eS 39 (.val (.agg (fc (x1)).toArray)), eS 40 (.val (.agg (fc ((z2) * (z2))).toArray)), eS 41 (.val (.agg (fc ((x1) * ((z2) * (z2)))).toArray)), eS 42 (.ptr 3 0), eS 43 (.val (.agg (fc (x2)).toArray)), eS 44 (.val (.agg (fc ((z1) * (z1))).toArray)), eS 45 (.val (.agg (fc ((x2) * ((z1) * (z1)))).toArray)), eN 7 (nz), eN 8 (nz), eM 7 (fc ((x1) * ((z2) * (z2)))), eM 8 (fc ((x2) * ((z1) * (z1))))] (by kernel_rfl) ⟨
            fun L u => u_field u (gd0 rfl) 38 rfl 60 (.tmp 2) 0 rfl rfl rfl Tryd.underlying60 rfl i24 _ rfl,
            fun L u => u_load u (gd0 rfl) 39 rfl 24 (.tmp 38) rfl rfl rfl Tryd.underlying24 rfl i24 (lk rfl) _ rfl,
            fun L u => u_load u (gd0 rfl) 40 rfl 24 (.tmp 6) rfl rfl rfl Tryd.underlying24 rfl i24 (lk rfl) _ rfl,
            fun L u => u_call u (gd0 rfl) 41 rfl 36 #[(.tmp 39), (.tmp 40)] #[24, 24] rfl [.agg (fc (x1)).toArray, .agg (fc ((z2) * (z2))).toArray] rfl (cE36 _) (.agg (fc ((x1) * ((z2) * (z2)))).toArray) (fun w hb => r_mul (hT.keep (Bs.kp_of hb)) _ _),
            fun L u => u_field u (gd0 rfl) 42 rfl 60 (.tmp 3) 0 rfl rfl rfl Tryd.underlying60 rfl i24 _ rfl,
            fun L u => u_load u (gd0 rfl) 43 rfl 24 (.tmp 42) rfl rfl rfl Tryd.underlying24 rfl i24 (lk rfl) _ rfl,
            fun L u => u_load u (gd0 rfl) 44 rfl 24 (.tmp 5) rfl rfl rfl Tryd.underlying24 rfl i24 (lk rfl) _ rfl,
            fun L u => u_call u (gd0 rfl) 45 rfl 36 #[(.tmp 43), (.tmp 44)] #[24, 24] rfl [.agg (fc (x2)).toArray, .agg (fc ((z1) * (z1))).toArray] rfl (cE36 _) (.agg (fc ((x2) * ((z1) * (z1)))).toArray) (fun w hb => r_mul (hT.keep (Bs.kp_of hb)) _ _),
            fun L u => u_alloc u (gd0 rfl) 24 rfl 7 rfl rfl z24 _ rfl,
            fun L u => u_alloc u (gd0 rfl) 24 rfl 8 rfl rfl z24 _ rfl,
            fun L u => u_store u (gd0 rfl) 24 (.tmp 7) (.tmp 41) rfl rfl rfl (vs := fc ((x1) * ((z2) * (z2)))) rfl rfl i24 (lk rfl) rfl _ rfl,
            fun L u => u_store u (gd0 rfl) 24 (.tmp 8) (.tmp 45) rfl rfl rfl (vs := fc ((x2) * ((z1) * (z1)))) rfl rfl i24 (lk rfl) rfl _ rfl,
            trivial⟩ [(2, .ptr 2 0), (3, .ptr 3 0), (4, .ptr 4 0), (5, .ptr 5 0), (6, .ptr 6 0), (7, .ptr 7 0), (8, .ptr 8 0)] [(2, fc (x1) ++ fc (y1) ++ fc (z1)), (3, fc (x2) ++ fc (y2) ++ fc (z2)), (4, nz ++ nz ++ nz), (5, fc ((z1) * (z1))), (6, fc ((z2) * (z2))), (7, fc ((x1) * ((z2) * (z2)))), (8, fc ((x2) * ((z1) * (z1))))] ⟨rfl, rfl, rfl, rfl, rfl, rfl, rfl, trivial⟩ ⟨rfl, rfl, rfl, rfl, rfl, rfl, rfl, trivial⟩ rfl (fun a w h => ?_)
          refine go_region h hm [eS 46 (.ptr 2 4), eS 47 (.val (.agg (fc (y1)).toArray)), eS 48 (.ptr 3 8), eS 49 (.val (.agg (fc (z2)).toArray)), eS 50 (.val (.agg (fc ((z2) * (z2))).toArray)), eS 51 (.val (.agg (fc ((z2) * ((z2) * (z2)))).toArray)), eS 52 (.val (.agg (fc ((y1) * ((z2) * ((z2) * (z2))))).toArray)), eS 53 (.ptr 3 4), eS 54 (.val (.agg (fc (y2)).toArray)), eS 55 (.ptr 2 8), eS 56 (.val (.agg (fc (z1)).toArray)), eS 57 (.val (.agg (fc ((z1) * (z1))).toArray)), eS 58 (.val (.agg (fc ((z1) * ((z1) * (z1)))).toArray)), eS 59 (.val (.agg (fc ((y2) * ((z1) * ((z1) * (z1))))).toArray)), eN 9 (nz), eN 10 (nz), eM 9 (fc ((y1) * ((z2) * ((z2) * (z2))))), eM 10 (fc ((y2) * ((z1) * ((z1) * (z1)))))] (by kernel_rfl) ⟨
            fun L u => u_field u (gd0 rfl) 46 rfl 60 (.tmp 2) 1 rfl rfl rfl Tryd.underlying60 rfl i24 _ rfl,
            fun L u => u_load u (gd0 rfl) 47 rfl 24 (.tmp 46) rfl rfl rfl Tryd.underlying24 rfl i24 (lk rfl) _ rfl,
            fun L u => u_field u (gd0 rfl) 48 rfl 60 (.tmp 3) 2 rfl rfl rfl Tryd.underlying60 rfl i24 _ rfl,
            fun L u => u_load u (gd0 rfl) 49 rfl 24 (.tmp 48) rfl rfl rfl Tryd.underlying24 rfl i24 (lk rfl) _ rfl,
            fun L u => u_load u (gd0 rfl) 50 rfl 24 (.tmp 6) rfl rfl rfl Tryd.underlying24 rfl i24 (lk rfl) _ rfl,
            fun L u => u_call u (gd0 rfl) 51 rfl 36 #[(.tmp 49), (.tmp 50)] #[24, 24] rfl [.agg (fc (z2)).toArray, .agg (fc ((z2) * (z2))).toArray] rfl (cE36 _) (.agg (fc ((z2) * ((z2) * (z2)))).toArray) (fun w hb => r_mul (hT.keep (Bs.kp_of hb)) _ _),
            fun L u => u_call u (gd0 rfl) 52 rfl 36 #[(.tmp 47), (.tmp 51)] #[24, 24] rfl [.agg (fc (y1)).toArray, .agg (fc ((z2) * ((z2) * (z2)))).toArray] rfl (cE36 _) (.agg (fc ((y1) * ((z2) * ((z2) * (z2))))).toArray) (fun w hb => r_mul (hT.keep (Bs.kp_of hb)) _ _),
            fun L u => u_field u (gd0 rfl) 53 rfl 60 (.tmp 3) 1 rfl rfl rfl Tryd.underlying60 rfl i24 _ rfl,
            fun L u => u_load u (gd0 rfl) 54 rfl 24 (.tmp 53) rfl rfl rfl Tryd.underlying24 rfl i24 (lk rfl) _ rfl,
            fun L u => u_field u (gd0 rfl) 55 rfl 60 (.tmp 2) 2 rfl rfl rfl Tryd.underlying60 rfl i24 _ rfl,
            fun L u => u_load u (gd0 rfl) 56 rfl 24 (.tmp 55) rfl rfl rfl Tryd.underlying24 rfl i24 (lk rfl) _ rfl,
            fun L u => u_load u (gd0 rfl) 57 rfl 24 (.tmp 5) rfl rfl rfl Tryd.underlying24 rfl i24 (lk rfl) _ rfl,
            fun L u => u_call u (gd0 rfl) 58 rfl 36 #[(.tmp 56), (.tmp 57)] #[24, 24] rfl [.agg (fc (z1)).toArray, .agg (fc ((z1) * (z1))).toArray] rfl (cE36 _) (.agg (fc ((z1) * ((z1) * (z1)))).toArray) (fun w hb => r_mul (hT.keep (Bs.kp_of hb)) _ _),
            fun L u => u_call u (gd0 rfl) 59 rfl 36 #[(.tmp 54), (.tmp 58)] #[24, 24] rfl [.agg (fc (y2)).toArray, .agg (fc ((z1) * ((z1) * (z1)))).toArray] rfl (cE36 _) (.agg (fc ((y2) * ((z1) * ((z1) * (z1))))).toArray) (fun w hb => r_mul (hT.keep (Bs.kp_of hb)) _ _),
            fun L u => u_alloc u (gd0 rfl) 24 rfl 9 rfl rfl z24 _ rfl,
            fun L u => u_alloc u (gd0 rfl) 24 rfl 10 rfl rfl z24 _ rfl,
            fun L u => u_store u (gd0 rfl) 24 (.tmp 9) (.tmp 52) rfl rfl rfl (vs := fc ((y1) * ((z2) * ((z2) * (z2))))) rfl rfl i24 (lk rfl) rfl _ rfl,
            fun L u => u_store u (gd0 rfl) 24 (.tmp 10) (.tmp 59) rfl rfl rfl (vs := fc ((y2) * ((z1) * ((z1) * (z1))))) rfl rfl i24 (lk rfl) rfl _ rfl,
            trivial⟩ [(2, .ptr 2 0), (3, .ptr 3 0), (4, .ptr 4 0), (7, .ptr 7 0), (8, .ptr 8 0), (9, .ptr 9 0), (10, .ptr 10 0)] [(2, fc (x1) ++ fc (y1) ++ fc (z1)), (3, fc (x2) ++ fc (y2) ++ fc (z2)), (4, nz ++ nz ++ nz), (7, fc ((x1) * ((z2) * (z2)))), (8, fc ((x2) * ((z1) * (z1)))), (9, fc ((y1) * ((z2) * ((z2) * (z2))))), (10, fc ((y2) * ((z1) * ((z1) * (z1)))))] ⟨rfl, rfl, rfl, rfl, rfl, rfl, rfl, trivial⟩ ⟨rfl, rfl, rfl, rfl, rfl, rfl, rfl, trivial⟩ rfl (fun a w h => ?_)
          refine wp_seq ?_
          refine go_region h hm [eS 60 (.val (.agg (fc ((x1) * ((z2) * (z2)))).toArray)), eS 61 (.val (.agg (fc ((x2) * ((z1) * (z1)))).toArray)), eS 62 (.val (Value.bool true))] (by kernel_rfl) ⟨
            fun L u => u_load u (gd0 rfl) 60 rfl 24 (.tmp 7) rfl rfl rfl Tryd.underlying24 rfl i24 (lk rfl) _ rfl,
            fun L u => u_load u (gd0 rfl) 61 rfl 24 (.tmp 8) rfl rfl rfl Tryd.underlying24 rfl i24 (lk rfl) _ rfl,
            fun L u => u_eql u (gd0 rfl) 62 rfl 24 24 (.tmp 60) (.tmp 61) rfl rfl rfl Tryd.eqGuardType24 (true) (eq_t h2),
            trivial⟩ [(2, .ptr 2 0), (3, .ptr 3 0), (4, .ptr 4 0), (7, .ptr 7 0), (8, .ptr 8 0), (9, .ptr 9 0), (10, .ptr 10 0), (62, .val (Value.bool true))] [(2, fc (x1) ++ fc (y1) ++ fc (z1)), (3, fc (x2) ++ fc (y2) ++ fc (z2)), (4, nz ++ nz ++ nz), (7, fc ((x1) * ((z2) * (z2)))), (8, fc ((x2) * ((z1) * (z1)))), (9, fc ((y1) * ((z2) * ((z2) * (z2))))), (10, fc ((y2) * ((z1) * ((z1) * (z1)))))] ⟨rfl, rfl, rfl, rfl, rfl, rfl, rfl, rfl, trivial⟩ ⟨rfl, rfl, rfl, rfl, rfl, rfl, rfl, trivial⟩ rfl (fun a w h => ?_)
          refine go_cond h true rfl (fun ht => ?_) (fun hf => ?_)
          case refine_2 => cases hf
          refine wp_seq ?_
          refine go_region h hm [eS 63 (.val (.agg (fc ((y1) * ((z2) * ((z2) * (z2))))).toArray)), eS 64 (.val (.agg (fc ((y2) * ((z1) * ((z1) * (z1))))).toArray)), eS 65 (.val (Value.bool true))] (by kernel_rfl) ⟨
            fun L u => u_load u (gd0 rfl) 63 rfl 24 (.tmp 9) rfl rfl rfl Tryd.underlying24 rfl i24 (lk rfl) _ rfl,
            fun L u => u_load u (gd0 rfl) 64 rfl 24 (.tmp 10) rfl rfl rfl Tryd.underlying24 rfl i24 (lk rfl) _ rfl,
            fun L u => u_eql u (gd0 rfl) 65 rfl 24 24 (.tmp 63) (.tmp 64) rfl rfl rfl Tryd.eqGuardType24 (true) (eq_t h3),
            trivial⟩ [(2, .ptr 2 0), (4, .ptr 4 0), (65, .val (Value.bool true))] [(2, fc (x1) ++ fc (y1) ++ fc (z1)), (4, nz ++ nz ++ nz)] ⟨rfl, rfl, rfl, trivial⟩ ⟨rfl, rfl, trivial⟩ rfl (fun a w h => ?_)
          refine go_cond h true rfl (fun ht => ?_) (fun hf => ?_)
          case refine_2 => cases hf
          refine go_region h hm [eS 66 (.val (.agg (fc (x1) ++ fc (y1) ++ fc (z1)).toArray)), eS 67 (.val (.agg (fc ((jdbl ⟨x1, y1, z1⟩).x) ++ fc ((jdbl ⟨x1, y1, z1⟩).y) ++ fc ((jdbl ⟨x1, y1, z1⟩).z)).toArray)), eM 4 (fc ((jdbl ⟨x1, y1, z1⟩).x) ++ fc ((jdbl ⟨x1, y1, z1⟩).y) ++ fc ((jdbl ⟨x1, y1, z1⟩).z))] (by kernel_rfl) ⟨
            fun L u => u_load u (gd0 rfl) 66 rfl 60 (.tmp 2) rfl rfl rfl Tryd.underlying60 rfl i60 (lk rfl) _ rfl,
            fun L u => u_call u (gd0 rfl) 67 rfl 64 #[(.tmp 66)] #[60] rfl [.agg (fc (x1) ++ fc (y1) ++ fc (z1)).toArray] rfl (cE64 _) (.agg (fc ((jdbl ⟨x1, y1, z1⟩).x) ++ fc ((jdbl ⟨x1, y1, z1⟩).y) ++ fc ((jdbl ⟨x1, y1, z1⟩).z)).toArray) (fun w hb => r_dbl (hT.keep (Bs.kp_of hb)) _ _ _),
            fun L u => u_store u (gd0 rfl) 60 (.tmp 4) (.tmp 67) rfl rfl rfl (vs := fc ((jdbl ⟨x1, y1, z1⟩).x) ++ fc ((jdbl ⟨x1, y1, z1⟩).y) ++ fc ((jdbl ⟨x1, y1, z1⟩).z)) rfl rfl i60 (lk rfl) rfl _ rfl,
            trivial⟩ [(4, .ptr 4 0)] [(4, fc ((jdbl ⟨x1, y1, z1⟩).x) ++ fc ((jdbl ⟨x1, y1, z1⟩).y) ++ fc ((jdbl ⟨x1, y1, z1⟩).z))] ⟨rfl, trivial⟩ ⟨rfl, trivial⟩ rfl (fun a w h => ?_)
          refine wp_ret ?_
          refine then_ret ?_
          refine then_ret ?_
          refine ret_row h 4 60 rfl (lk rfl) 4 rfl (fc ((jdbl ⟨x1, y1, z1⟩).x) ++ fc ((jdbl ⟨x1, y1, z1⟩).y) ++ fc ((jdbl ⟨x1, y1, z1⟩).z)) rfl _ Tryd.underlying60 rfl i60 ?_
          exact ⟨by have e : jadd ⟨x1, y1, z1⟩ ⟨x2, y2, z2⟩ = _ := (if_neg h0).trans ((if_neg h1).trans ((if_pos h2).trans (if_pos h3))); rw [e]; rfl, h.grows⟩
        · skip
          refine enter (args := [.agg (fc (x1) ++ fc (y1) ++ fc (z1)).toArray, .agg (fc (x2) ++ fc (y2) ++ fc (z2)).toArray]) Tryd.func43 rfl 111 rfl (lk rfl) (fun a h => ?_)
          refine go_region h hm [eN 2 (fc (x1) ++ fc (y1) ++ fc (z1)), eN 3 (fc (x2) ++ fc (y2) ++ fc (z2)), eN 4 (nz ++ nz ++ nz)] (by kernel_rfl) ⟨
            fun L u => u_box u (gd0 rfl) 60 (.tmp 0) rfl 2 rfl rfl rfl _ rfl,
            fun L u => u_box u (gd0 rfl) 60 (.tmp 1) rfl 3 rfl rfl rfl _ rfl,
            fun L u => u_alloc u (gd0 rfl) 60 rfl 4 rfl rfl z60 _ rfl,
            trivial⟩ [(2, .ptr 2 0), (3, .ptr 3 0), (4, .ptr 4 0)] [(2, fc (x1) ++ fc (y1) ++ fc (z1)), (3, fc (x2) ++ fc (y2) ++ fc (z2)), (4, nz ++ nz ++ nz)] ⟨rfl, rfl, rfl, trivial⟩ ⟨rfl, rfl, rfl, trivial⟩ rfl (fun a w h => ?_)
          refine wp_seq ?_
          refine go_region h hm [eS 18 (.ptr 2 8), eS 19 (.val (.agg (fc (z1)).toArray)), eS 20 (.val (.agg (nz).toArray)), eS 21 (.val (Value.bool false))] (by kernel_rfl) ⟨
            fun L u => u_field u (gd0 rfl) 18 rfl 60 (.tmp 2) 2 rfl rfl rfl Tryd.underlying60 rfl i24 _ rfl,
            fun L u => u_load u (gd0 rfl) 19 rfl 24 (.tmp 18) rfl rfl rfl Tryd.underlying24 rfl i24 (lk rfl) _ rfl,
            fun L u => u_build u (gd0 rfl) 20 rfl 24 #[] rfl [] rfl (nz) (bN0),
            fun L u => u_eql u (gd0 rfl) 21 rfl 24 24 (.tmp 19) (.tmp 20) rfl rfl rfl Tryd.eqGuardType24 (false) (eqz_f h0),
            trivial⟩ [(2, .ptr 2 0), (3, .ptr 3 0), (4, .ptr 4 0), (21, .val (Value.bool false))] [(2, fc (x1) ++ fc (y1) ++ fc (z1)), (3, fc (x2) ++ fc (y2) ++ fc (z2)), (4, nz ++ nz ++ nz)] ⟨rfl, rfl, rfl, rfl, trivial⟩ ⟨rfl, rfl, rfl, trivial⟩ rfl (fun a w h => ?_)
          refine go_cond h false rfl (fun ht => ?_) (fun hf => ?_)
          case refine_1 => cases ht
          refine wp_skip ?_
          refine then_norm ?_
          refine wp_seq ?_
          refine go_region h hm [eS 23 (.ptr 3 8), eS 24 (.val (.agg (fc (z2)).toArray)), eS 25 (.val (.agg (nz).toArray)), eS 26 (.val (Value.bool false))] (by kernel_rfl) ⟨
            fun L u => u_field u (gd0 rfl) 23 rfl 60 (.tmp 3) 2 rfl rfl rfl Tryd.underlying60 rfl i24 _ rfl,
            fun L u => u_load u (gd0 rfl) 24 rfl 24 (.tmp 23) rfl rfl rfl Tryd.underlying24 rfl i24 (lk rfl) _ rfl,
            fun L u => u_build u (gd0 rfl) 25 rfl 24 #[] rfl [] rfl (nz) (bN0),
            fun L u => u_eql u (gd0 rfl) 26 rfl 24 24 (.tmp 24) (.tmp 25) rfl rfl rfl Tryd.eqGuardType24 (false) (eqz_f h1),
            trivial⟩ [(2, .ptr 2 0), (3, .ptr 3 0), (4, .ptr 4 0), (26, .val (Value.bool false))] [(2, fc (x1) ++ fc (y1) ++ fc (z1)), (3, fc (x2) ++ fc (y2) ++ fc (z2)), (4, nz ++ nz ++ nz)] ⟨rfl, rfl, rfl, rfl, trivial⟩ ⟨rfl, rfl, rfl, trivial⟩ rfl (fun a w h => ?_)
          refine go_cond h false rfl (fun ht => ?_) (fun hf => ?_)
          case refine_1 => cases ht
          refine wp_skip ?_
          refine then_norm ?_
          refine go_region h hm [eS 28 (.ptr 2 8), eS 29 (.val (.agg (fc (z1)).toArray)), eS 30 (.ptr 2 8), eS 31 (.val (.agg (fc (z1)).toArray)), eS 32 (.val (.agg (fc ((z1) * (z1))).toArray)), eS 33 (.ptr 3 8), eS 34 (.val (.agg (fc (z2)).toArray)), eS 35 (.ptr 3 8), eS 36 (.val (.agg (fc (z2)).toArray)), eS 37 (.val (.agg (fc ((z2) * (z2))).toArray)), eN 5 (nz), eN 6 (nz), eM 5 (fc ((z1) * (z1))), eM 6 (fc ((z2) * (z2)))] (by kernel_rfl) ⟨
            fun L u => u_field u (gd0 rfl) 28 rfl 60 (.tmp 2) 2 rfl rfl rfl Tryd.underlying60 rfl i24 _ rfl,
            fun L u => u_load u (gd0 rfl) 29 rfl 24 (.tmp 28) rfl rfl rfl Tryd.underlying24 rfl i24 (lk rfl) _ rfl,
            fun L u => u_field u (gd0 rfl) 30 rfl 60 (.tmp 2) 2 rfl rfl rfl Tryd.underlying60 rfl i24 _ rfl,
            fun L u => u_load u (gd0 rfl) 31 rfl 24 (.tmp 30) rfl rfl rfl Tryd.underlying24 rfl i24 (lk rfl) _ rfl,
            fun L u => u_call u (gd0 rfl) 32 rfl 36 #[(.tmp 29), (.tmp 31)] #[24, 24] rfl [.agg (fc (z1)).toArray, .agg (fc (z1)).toArray] rfl (cE36 _) (.agg (fc ((z1) * (z1))).toArray) (fun w hb => r_mul (hT.keep (Bs.kp_of hb)) _ _),
            fun L u => u_field u (gd0 rfl) 33 rfl 60 (.tmp 3) 2 rfl rfl rfl Tryd.underlying60 rfl i24 _ rfl,
            fun L u => u_load u (gd0 rfl) 34 rfl 24 (.tmp 33) rfl rfl rfl Tryd.underlying24 rfl i24 (lk rfl) _ rfl,
            fun L u => u_field u (gd0 rfl) 35 rfl 60 (.tmp 3) 2 rfl rfl rfl Tryd.underlying60 rfl i24 _ rfl,
            fun L u => u_load u (gd0 rfl) 36 rfl 24 (.tmp 35) rfl rfl rfl Tryd.underlying24 rfl i24 (lk rfl) _ rfl,
            fun L u => u_call u (gd0 rfl) 37 rfl 36 #[(.tmp 34), (.tmp 36)] #[24, 24] rfl [.agg (fc (z2)).toArray, .agg (fc (z2)).toArray] rfl (cE36 _) (.agg (fc ((z2) * (z2))).toArray) (fun w hb => r_mul (hT.keep (Bs.kp_of hb)) _ _),
            fun L u => u_alloc u (gd0 rfl) 24 rfl 5 rfl rfl z24 _ rfl,
            fun L u => u_alloc u (gd0 rfl) 24 rfl 6 rfl rfl z24 _ rfl,
            fun L u => u_store u (gd0 rfl) 24 (.tmp 5) (.tmp 32) rfl rfl rfl (vs := fc ((z1) * (z1))) rfl rfl i24 (lk rfl) rfl _ rfl,
            fun L u => u_store u (gd0 rfl) 24 (.tmp 6) (.tmp 37) rfl rfl rfl (vs := fc ((z2) * (z2))) rfl rfl i24 (lk rfl) rfl _ rfl,
            trivial⟩ [(2, .ptr 2 0), (3, .ptr 3 0), (4, .ptr 4 0), (5, .ptr 5 0), (6, .ptr 6 0)] [(2, fc (x1) ++ fc (y1) ++ fc (z1)), (3, fc (x2) ++ fc (y2) ++ fc (z2)), (4, nz ++ nz ++ nz), (5, fc ((z1) * (z1))), (6, fc ((z2) * (z2)))] ⟨rfl, rfl, rfl, rfl, rfl, trivial⟩ ⟨rfl, rfl, rfl, rfl, rfl, trivial⟩ rfl (fun a w h => ?_)
          refine go_region h hm [eS 38 (.ptr 2 0), eS 39 (.val (.agg (fc (x1)).toArray)), eS 40 (.val (.agg (fc ((z2) * (z2))).toArray)), eS 41 (.val (.agg (fc ((x1) * ((z2) * (z2)))).toArray)), eS 42 (.ptr 3 0), eS 43 (.val (.agg (fc (x2)).toArray)), eS 44 (.val (.agg (fc ((z1) * (z1))).toArray)), eS 45 (.val (.agg (fc ((x2) * ((z1) * (z1)))).toArray)), eN 7 (nz), eN 8 (nz), eM 7 (fc ((x1) * ((z2) * (z2)))), eM 8 (fc ((x2) * ((z1) * (z1))))] (by kernel_rfl) ⟨
            fun L u => u_field u (gd0 rfl) 38 rfl 60 (.tmp 2) 0 rfl rfl rfl Tryd.underlying60 rfl i24 _ rfl,
            fun L u => u_load u (gd0 rfl) 39 rfl 24 (.tmp 38) rfl rfl rfl Tryd.underlying24 rfl i24 (lk rfl) _ rfl,
            fun L u => u_load u (gd0 rfl) 40 rfl 24 (.tmp 6) rfl rfl rfl Tryd.underlying24 rfl i24 (lk rfl) _ rfl,
            fun L u => u_call u (gd0 rfl) 41 rfl 36 #[(.tmp 39), (.tmp 40)] #[24, 24] rfl [.agg (fc (x1)).toArray, .agg (fc ((z2) * (z2))).toArray] rfl (cE36 _) (.agg (fc ((x1) * ((z2) * (z2)))).toArray) (fun w hb => r_mul (hT.keep (Bs.kp_of hb)) _ _),
            fun L u => u_field u (gd0 rfl) 42 rfl 60 (.tmp 3) 0 rfl rfl rfl Tryd.underlying60 rfl i24 _ rfl,
            fun L u => u_load u (gd0 rfl) 43 rfl 24 (.tmp 42) rfl rfl rfl Tryd.underlying24 rfl i24 (lk rfl) _ rfl,
            fun L u => u_load u (gd0 rfl) 44 rfl 24 (.tmp 5) rfl rfl rfl Tryd.underlying24 rfl i24 (lk rfl) _ rfl,
            fun L u => u_call u (gd0 rfl) 45 rfl 36 #[(.tmp 43), (.tmp 44)] #[24, 24] rfl [.agg (fc (x2)).toArray, .agg (fc ((z1) * (z1))).toArray] rfl (cE36 _) (.agg (fc ((x2) * ((z1) * (z1)))).toArray) (fun w hb => r_mul (hT.keep (Bs.kp_of hb)) _ _),
            fun L u => u_alloc u (gd0 rfl) 24 rfl 7 rfl rfl z24 _ rfl,
            fun L u => u_alloc u (gd0 rfl) 24 rfl 8 rfl rfl z24 _ rfl,
            fun L u => u_store u (gd0 rfl) 24 (.tmp 7) (.tmp 41) rfl rfl rfl (vs := fc ((x1) * ((z2) * (z2)))) rfl rfl i24 (lk rfl) rfl _ rfl,
            fun L u => u_store u (gd0 rfl) 24 (.tmp 8) (.tmp 45) rfl rfl rfl (vs := fc ((x2) * ((z1) * (z1)))) rfl rfl i24 (lk rfl) rfl _ rfl,
            trivial⟩ [(2, .ptr 2 0), (3, .ptr 3 0), (4, .ptr 4 0), (5, .ptr 5 0), (6, .ptr 6 0), (7, .ptr 7 0), (8, .ptr 8 0)] [(2, fc (x1) ++ fc (y1) ++ fc (z1)), (3, fc (x2) ++ fc (y2) ++ fc (z2)), (4, nz ++ nz ++ nz), (5, fc ((z1) * (z1))), (6, fc ((z2) * (z2))), (7, fc ((x1) * ((z2) * (z2)))), (8, fc ((x2) * ((z1) * (z1))))] ⟨rfl, rfl, rfl, rfl, rfl, rfl, rfl, trivial⟩ ⟨rfl, rfl, rfl, rfl, rfl, rfl, rfl, trivial⟩ rfl (fun a w h => ?_)
          refine go_region h hm [eS 46 (.ptr 2 4), eS 47 (.val (.agg (fc (y1)).toArray)), eS 48 (.ptr 3 8), eS 49 (.val (.agg (fc (z2)).toArray)), eS 50 (.val (.agg (fc ((z2) * (z2))).toArray)), eS 51 (.val (.agg (fc ((z2) * ((z2) * (z2)))).toArray)), eS 52 (.val (.agg (fc ((y1) * ((z2) * ((z2) * (z2))))).toArray)), eS 53 (.ptr 3 4), eS 54 (.val (.agg (fc (y2)).toArray)), eS 55 (.ptr 2 8), eS 56 (.val (.agg (fc (z1)).toArray)), eS 57 (.val (.agg (fc ((z1) * (z1))).toArray)), eS 58 (.val (.agg (fc ((z1) * ((z1) * (z1)))).toArray)), eS 59 (.val (.agg (fc ((y2) * ((z1) * ((z1) * (z1))))).toArray)), eN 9 (nz), eN 10 (nz), eM 9 (fc ((y1) * ((z2) * ((z2) * (z2))))), eM 10 (fc ((y2) * ((z1) * ((z1) * (z1)))))] (by kernel_rfl) ⟨
            fun L u => u_field u (gd0 rfl) 46 rfl 60 (.tmp 2) 1 rfl rfl rfl Tryd.underlying60 rfl i24 _ rfl,
            fun L u => u_load u (gd0 rfl) 47 rfl 24 (.tmp 46) rfl rfl rfl Tryd.underlying24 rfl i24 (lk rfl) _ rfl,
            fun L u => u_field u (gd0 rfl) 48 rfl 60 (.tmp 3) 2 rfl rfl rfl Tryd.underlying60 rfl i24 _ rfl,
            fun L u => u_load u (gd0 rfl) 49 rfl 24 (.tmp 48) rfl rfl rfl Tryd.underlying24 rfl i24 (lk rfl) _ rfl,
            fun L u => u_load u (gd0 rfl) 50 rfl 24 (.tmp 6) rfl rfl rfl Tryd.underlying24 rfl i24 (lk rfl) _ rfl,
            fun L u => u_call u (gd0 rfl) 51 rfl 36 #[(.tmp 49), (.tmp 50)] #[24, 24] rfl [.agg (fc (z2)).toArray, .agg (fc ((z2) * (z2))).toArray] rfl (cE36 _) (.agg (fc ((z2) * ((z2) * (z2)))).toArray) (fun w hb => r_mul (hT.keep (Bs.kp_of hb)) _ _),
            fun L u => u_call u (gd0 rfl) 52 rfl 36 #[(.tmp 47), (.tmp 51)] #[24, 24] rfl [.agg (fc (y1)).toArray, .agg (fc ((z2) * ((z2) * (z2)))).toArray] rfl (cE36 _) (.agg (fc ((y1) * ((z2) * ((z2) * (z2))))).toArray) (fun w hb => r_mul (hT.keep (Bs.kp_of hb)) _ _),
            fun L u => u_field u (gd0 rfl) 53 rfl 60 (.tmp 3) 1 rfl rfl rfl Tryd.underlying60 rfl i24 _ rfl,
            fun L u => u_load u (gd0 rfl) 54 rfl 24 (.tmp 53) rfl rfl rfl Tryd.underlying24 rfl i24 (lk rfl) _ rfl,
            fun L u => u_field u (gd0 rfl) 55 rfl 60 (.tmp 2) 2 rfl rfl rfl Tryd.underlying60 rfl i24 _ rfl,
            fun L u => u_load u (gd0 rfl) 56 rfl 24 (.tmp 55) rfl rfl rfl Tryd.underlying24 rfl i24 (lk rfl) _ rfl,
            fun L u => u_load u (gd0 rfl) 57 rfl 24 (.tmp 5) rfl rfl rfl Tryd.underlying24 rfl i24 (lk rfl) _ rfl,
            fun L u => u_call u (gd0 rfl) 58 rfl 36 #[(.tmp 56), (.tmp 57)] #[24, 24] rfl [.agg (fc (z1)).toArray, .agg (fc ((z1) * (z1))).toArray] rfl (cE36 _) (.agg (fc ((z1) * ((z1) * (z1)))).toArray) (fun w hb => r_mul (hT.keep (Bs.kp_of hb)) _ _),
            fun L u => u_call u (gd0 rfl) 59 rfl 36 #[(.tmp 54), (.tmp 58)] #[24, 24] rfl [.agg (fc (y2)).toArray, .agg (fc ((z1) * ((z1) * (z1)))).toArray] rfl (cE36 _) (.agg (fc ((y2) * ((z1) * ((z1) * (z1))))).toArray) (fun w hb => r_mul (hT.keep (Bs.kp_of hb)) _ _),
            fun L u => u_alloc u (gd0 rfl) 24 rfl 9 rfl rfl z24 _ rfl,
            fun L u => u_alloc u (gd0 rfl) 24 rfl 10 rfl rfl z24 _ rfl,
            fun L u => u_store u (gd0 rfl) 24 (.tmp 9) (.tmp 52) rfl rfl rfl (vs := fc ((y1) * ((z2) * ((z2) * (z2))))) rfl rfl i24 (lk rfl) rfl _ rfl,
            fun L u => u_store u (gd0 rfl) 24 (.tmp 10) (.tmp 59) rfl rfl rfl (vs := fc ((y2) * ((z1) * ((z1) * (z1))))) rfl rfl i24 (lk rfl) rfl _ rfl,
            trivial⟩ [(2, .ptr 2 0), (3, .ptr 3 0), (4, .ptr 4 0), (7, .ptr 7 0), (8, .ptr 8 0), (9, .ptr 9 0), (10, .ptr 10 0)] [(2, fc (x1) ++ fc (y1) ++ fc (z1)), (3, fc (x2) ++ fc (y2) ++ fc (z2)), (4, nz ++ nz ++ nz), (7, fc ((x1) * ((z2) * (z2)))), (8, fc ((x2) * ((z1) * (z1)))), (9, fc ((y1) * ((z2) * ((z2) * (z2))))), (10, fc ((y2) * ((z1) * ((z1) * (z1)))))] ⟨rfl, rfl, rfl, rfl, rfl, rfl, rfl, trivial⟩ ⟨rfl, rfl, rfl, rfl, rfl, rfl, rfl, trivial⟩ rfl (fun a w h => ?_)
          refine wp_seq ?_
          refine go_region h hm [eS 60 (.val (.agg (fc ((x1) * ((z2) * (z2)))).toArray)), eS 61 (.val (.agg (fc ((x2) * ((z1) * (z1)))).toArray)), eS 62 (.val (Value.bool true))] (by kernel_rfl) ⟨
            fun L u => u_load u (gd0 rfl) 60 rfl 24 (.tmp 7) rfl rfl rfl Tryd.underlying24 rfl i24 (lk rfl) _ rfl,
            fun L u => u_load u (gd0 rfl) 61 rfl 24 (.tmp 8) rfl rfl rfl Tryd.underlying24 rfl i24 (lk rfl) _ rfl,
            fun L u => u_eql u (gd0 rfl) 62 rfl 24 24 (.tmp 60) (.tmp 61) rfl rfl rfl Tryd.eqGuardType24 (true) (eq_t h2),
            trivial⟩ [(2, .ptr 2 0), (3, .ptr 3 0), (4, .ptr 4 0), (7, .ptr 7 0), (8, .ptr 8 0), (9, .ptr 9 0), (10, .ptr 10 0), (62, .val (Value.bool true))] [(2, fc (x1) ++ fc (y1) ++ fc (z1)), (3, fc (x2) ++ fc (y2) ++ fc (z2)), (4, nz ++ nz ++ nz), (7, fc ((x1) * ((z2) * (z2)))), (8, fc ((x2) * ((z1) * (z1)))), (9, fc ((y1) * ((z2) * ((z2) * (z2))))), (10, fc ((y2) * ((z1) * ((z1) * (z1)))))] ⟨rfl, rfl, rfl, rfl, rfl, rfl, rfl, rfl, trivial⟩ ⟨rfl, rfl, rfl, rfl, rfl, rfl, rfl, trivial⟩ rfl (fun a w h => ?_)
          refine go_cond h true rfl (fun ht => ?_) (fun hf => ?_)
          case refine_2 => cases hf
          refine wp_seq ?_
          refine go_region h hm [eS 63 (.val (.agg (fc ((y1) * ((z2) * ((z2) * (z2))))).toArray)), eS 64 (.val (.agg (fc ((y2) * ((z1) * ((z1) * (z1))))).toArray)), eS 65 (.val (Value.bool false))] (by kernel_rfl) ⟨
            fun L u => u_load u (gd0 rfl) 63 rfl 24 (.tmp 9) rfl rfl rfl Tryd.underlying24 rfl i24 (lk rfl) _ rfl,
            fun L u => u_load u (gd0 rfl) 64 rfl 24 (.tmp 10) rfl rfl rfl Tryd.underlying24 rfl i24 (lk rfl) _ rfl,
            fun L u => u_eql u (gd0 rfl) 65 rfl 24 24 (.tmp 63) (.tmp 64) rfl rfl rfl Tryd.eqGuardType24 (false) (eq_f h3),
            trivial⟩ [(2, .ptr 2 0), (4, .ptr 4 0), (65, .val (Value.bool false))] [(2, fc (x1) ++ fc (y1) ++ fc (z1)), (4, nz ++ nz ++ nz)] ⟨rfl, rfl, rfl, trivial⟩ ⟨rfl, rfl, trivial⟩ rfl (fun a w h => ?_)
          refine go_cond h false rfl (fun ht => ?_) (fun hf => ?_)
          case refine_1 => cases ht
          refine wp_skip ?_
          refine then_norm ?_
          refine go_region h hm [eS 68 (.val (.agg (nz ++ nz ++ nz).toArray)), eM 4 (nz ++ nz ++ nz)] (by kernel_rfl) ⟨
            fun L u => u_build u (gd0 rfl) 68 rfl 60 #[] rfl [] rfl (nz ++ nz ++ nz) (bJ0),
            fun L u => u_store u (gd0 rfl) 60 (.tmp 4) (.tmp 68) rfl rfl rfl (vs := nz ++ nz ++ nz) rfl rfl i60 (lk rfl) rfl _ rfl,
            trivial⟩ [(4, .ptr 4 0)] [(4, nz ++ nz ++ nz)] ⟨rfl, trivial⟩ ⟨rfl, trivial⟩ rfl (fun a w h => ?_)
          refine wp_ret ?_
          refine then_ret ?_
          refine ret_row h 4 60 rfl (lk rfl) 4 rfl (nz ++ nz ++ nz) rfl _ Tryd.underlying60 rfl i60 ?_
          exact ⟨by have e : jadd ⟨x1, y1, z1⟩ ⟨x2, y2, z2⟩ = _ := (if_neg h0).trans ((if_neg h1).trans ((if_pos h2).trans (if_neg h3))); rw [e]; rw [nz_fc]; rfl, h.grows⟩
      · skip
        refine enter (args := [.agg (fc (x1) ++ fc (y1) ++ fc (z1)).toArray, .agg (fc (x2) ++ fc (y2) ++ fc (z2)).toArray]) Tryd.func43 rfl 111 rfl (lk rfl) (fun a h => ?_)
        refine go_region h hm [eN 2 (fc (x1) ++ fc (y1) ++ fc (z1)), eN 3 (fc (x2) ++ fc (y2) ++ fc (z2)), eN 4 (nz ++ nz ++ nz)] (by kernel_rfl) ⟨
          fun L u => u_box u (gd0 rfl) 60 (.tmp 0) rfl 2 rfl rfl rfl _ rfl,
          fun L u => u_box u (gd0 rfl) 60 (.tmp 1) rfl 3 rfl rfl rfl _ rfl,
          fun L u => u_alloc u (gd0 rfl) 60 rfl 4 rfl rfl z60 _ rfl,
          trivial⟩ [(2, .ptr 2 0), (3, .ptr 3 0), (4, .ptr 4 0)] [(2, fc (x1) ++ fc (y1) ++ fc (z1)), (3, fc (x2) ++ fc (y2) ++ fc (z2)), (4, nz ++ nz ++ nz)] ⟨rfl, rfl, rfl, trivial⟩ ⟨rfl, rfl, rfl, trivial⟩ rfl (fun a w h => ?_)
        refine wp_seq ?_
        refine go_region h hm [eS 18 (.ptr 2 8), eS 19 (.val (.agg (fc (z1)).toArray)), eS 20 (.val (.agg (nz).toArray)), eS 21 (.val (Value.bool false))] (by kernel_rfl) ⟨
          fun L u => u_field u (gd0 rfl) 18 rfl 60 (.tmp 2) 2 rfl rfl rfl Tryd.underlying60 rfl i24 _ rfl,
          fun L u => u_load u (gd0 rfl) 19 rfl 24 (.tmp 18) rfl rfl rfl Tryd.underlying24 rfl i24 (lk rfl) _ rfl,
          fun L u => u_build u (gd0 rfl) 20 rfl 24 #[] rfl [] rfl (nz) (bN0),
          fun L u => u_eql u (gd0 rfl) 21 rfl 24 24 (.tmp 19) (.tmp 20) rfl rfl rfl Tryd.eqGuardType24 (false) (eqz_f h0),
          trivial⟩ [(2, .ptr 2 0), (3, .ptr 3 0), (4, .ptr 4 0), (21, .val (Value.bool false))] [(2, fc (x1) ++ fc (y1) ++ fc (z1)), (3, fc (x2) ++ fc (y2) ++ fc (z2)), (4, nz ++ nz ++ nz)] ⟨rfl, rfl, rfl, rfl, trivial⟩ ⟨rfl, rfl, rfl, trivial⟩ rfl (fun a w h => ?_)
        refine go_cond h false rfl (fun ht => ?_) (fun hf => ?_)
        case refine_1 => cases ht
        refine wp_skip ?_
        refine then_norm ?_
        refine wp_seq ?_
        refine go_region h hm [eS 23 (.ptr 3 8), eS 24 (.val (.agg (fc (z2)).toArray)), eS 25 (.val (.agg (nz).toArray)), eS 26 (.val (Value.bool false))] (by kernel_rfl) ⟨
          fun L u => u_field u (gd0 rfl) 23 rfl 60 (.tmp 3) 2 rfl rfl rfl Tryd.underlying60 rfl i24 _ rfl,
          fun L u => u_load u (gd0 rfl) 24 rfl 24 (.tmp 23) rfl rfl rfl Tryd.underlying24 rfl i24 (lk rfl) _ rfl,
          fun L u => u_build u (gd0 rfl) 25 rfl 24 #[] rfl [] rfl (nz) (bN0),
          fun L u => u_eql u (gd0 rfl) 26 rfl 24 24 (.tmp 24) (.tmp 25) rfl rfl rfl Tryd.eqGuardType24 (false) (eqz_f h1),
          trivial⟩ [(2, .ptr 2 0), (3, .ptr 3 0), (4, .ptr 4 0), (26, .val (Value.bool false))] [(2, fc (x1) ++ fc (y1) ++ fc (z1)), (3, fc (x2) ++ fc (y2) ++ fc (z2)), (4, nz ++ nz ++ nz)] ⟨rfl, rfl, rfl, rfl, trivial⟩ ⟨rfl, rfl, rfl, trivial⟩ rfl (fun a w h => ?_)
        refine go_cond h false rfl (fun ht => ?_) (fun hf => ?_)
        case refine_1 => cases ht
        refine wp_skip ?_
        refine then_norm ?_
        refine go_region h hm [eS 28 (.ptr 2 8), eS 29 (.val (.agg (fc (z1)).toArray)), eS 30 (.ptr 2 8), eS 31 (.val (.agg (fc (z1)).toArray)), eS 32 (.val (.agg (fc ((z1) * (z1))).toArray)), eS 33 (.ptr 3 8), eS 34 (.val (.agg (fc (z2)).toArray)), eS 35 (.ptr 3 8), eS 36 (.val (.agg (fc (z2)).toArray)), eS 37 (.val (.agg (fc ((z2) * (z2))).toArray)), eN 5 (nz), eN 6 (nz), eM 5 (fc ((z1) * (z1))), eM 6 (fc ((z2) * (z2)))] (by kernel_rfl) ⟨
          fun L u => u_field u (gd0 rfl) 28 rfl 60 (.tmp 2) 2 rfl rfl rfl Tryd.underlying60 rfl i24 _ rfl,
          fun L u => u_load u (gd0 rfl) 29 rfl 24 (.tmp 28) rfl rfl rfl Tryd.underlying24 rfl i24 (lk rfl) _ rfl,
          fun L u => u_field u (gd0 rfl) 30 rfl 60 (.tmp 2) 2 rfl rfl rfl Tryd.underlying60 rfl i24 _ rfl,
          fun L u => u_load u (gd0 rfl) 31 rfl 24 (.tmp 30) rfl rfl rfl Tryd.underlying24 rfl i24 (lk rfl) _ rfl,
          fun L u => u_call u (gd0 rfl) 32 rfl 36 #[(.tmp 29), (.tmp 31)] #[24, 24] rfl [.agg (fc (z1)).toArray, .agg (fc (z1)).toArray] rfl (cE36 _) (.agg (fc ((z1) * (z1))).toArray) (fun w hb => r_mul (hT.keep (Bs.kp_of hb)) _ _),
          fun L u => u_field u (gd0 rfl) 33 rfl 60 (.tmp 3) 2 rfl rfl rfl Tryd.underlying60 rfl i24 _ rfl,
          fun L u => u_load u (gd0 rfl) 34 rfl 24 (.tmp 33) rfl rfl rfl Tryd.underlying24 rfl i24 (lk rfl) _ rfl,
          fun L u => u_field u (gd0 rfl) 35 rfl 60 (.tmp 3) 2 rfl rfl rfl Tryd.underlying60 rfl i24 _ rfl,
          fun L u => u_load u (gd0 rfl) 36 rfl 24 (.tmp 35) rfl rfl rfl Tryd.underlying24 rfl i24 (lk rfl) _ rfl,
          fun L u => u_call u (gd0 rfl) 37 rfl 36 #[(.tmp 34), (.tmp 36)] #[24, 24] rfl [.agg (fc (z2)).toArray, .agg (fc (z2)).toArray] rfl (cE36 _) (.agg (fc ((z2) * (z2))).toArray) (fun w hb => r_mul (hT.keep (Bs.kp_of hb)) _ _),
          fun L u => u_alloc u (gd0 rfl) 24 rfl 5 rfl rfl z24 _ rfl,
          fun L u => u_alloc u (gd0 rfl) 24 rfl 6 rfl rfl z24 _ rfl,
          fun L u => u_store u (gd0 rfl) 24 (.tmp 5) (.tmp 32) rfl rfl rfl (vs := fc ((z1) * (z1))) rfl rfl i24 (lk rfl) rfl _ rfl,
          fun L u => u_store u (gd0 rfl) 24 (.tmp 6) (.tmp 37) rfl rfl rfl (vs := fc ((z2) * (z2))) rfl rfl i24 (lk rfl) rfl _ rfl,
          trivial⟩ [(2, .ptr 2 0), (3, .ptr 3 0), (4, .ptr 4 0), (5, .ptr 5 0), (6, .ptr 6 0)] [(2, fc (x1) ++ fc (y1) ++ fc (z1)), (3, fc (x2) ++ fc (y2) ++ fc (z2)), (4, nz ++ nz ++ nz), (5, fc ((z1) * (z1))), (6, fc ((z2) * (z2)))] ⟨rfl, rfl, rfl, rfl, rfl, trivial⟩ ⟨rfl, rfl, rfl, rfl, rfl, trivial⟩ rfl (fun a w h => ?_)
        refine go_region h hm [eS 38 (.ptr 2 0), eS 39 (.val (.agg (fc (x1)).toArray)), eS 40 (.val (.agg (fc ((z2) * (z2))).toArray)), eS 41 (.val (.agg (fc ((x1) * ((z2) * (z2)))).toArray)), eS 42 (.ptr 3 0), eS 43 (.val (.agg (fc (x2)).toArray)), eS 44 (.val (.agg (fc ((z1) * (z1))).toArray)), eS 45 (.val (.agg (fc ((x2) * ((z1) * (z1)))).toArray)), eN 7 (nz), eN 8 (nz), eM 7 (fc ((x1) * ((z2) * (z2)))), eM 8 (fc ((x2) * ((z1) * (z1))))] (by kernel_rfl) ⟨
          fun L u => u_field u (gd0 rfl) 38 rfl 60 (.tmp 2) 0 rfl rfl rfl Tryd.underlying60 rfl i24 _ rfl,
          fun L u => u_load u (gd0 rfl) 39 rfl 24 (.tmp 38) rfl rfl rfl Tryd.underlying24 rfl i24 (lk rfl) _ rfl,
          fun L u => u_load u (gd0 rfl) 40 rfl 24 (.tmp 6) rfl rfl rfl Tryd.underlying24 rfl i24 (lk rfl) _ rfl,
          fun L u => u_call u (gd0 rfl) 41 rfl 36 #[(.tmp 39), (.tmp 40)] #[24, 24] rfl [.agg (fc (x1)).toArray, .agg (fc ((z2) * (z2))).toArray] rfl (cE36 _) (.agg (fc ((x1) * ((z2) * (z2)))).toArray) (fun w hb => r_mul (hT.keep (Bs.kp_of hb)) _ _),
          fun L u => u_field u (gd0 rfl) 42 rfl 60 (.tmp 3) 0 rfl rfl rfl Tryd.underlying60 rfl i24 _ rfl,
          fun L u => u_load u (gd0 rfl) 43 rfl 24 (.tmp 42) rfl rfl rfl Tryd.underlying24 rfl i24 (lk rfl) _ rfl,
          fun L u => u_load u (gd0 rfl) 44 rfl 24 (.tmp 5) rfl rfl rfl Tryd.underlying24 rfl i24 (lk rfl) _ rfl,
          fun L u => u_call u (gd0 rfl) 45 rfl 36 #[(.tmp 43), (.tmp 44)] #[24, 24] rfl [.agg (fc (x2)).toArray, .agg (fc ((z1) * (z1))).toArray] rfl (cE36 _) (.agg (fc ((x2) * ((z1) * (z1)))).toArray) (fun w hb => r_mul (hT.keep (Bs.kp_of hb)) _ _),
          fun L u => u_alloc u (gd0 rfl) 24 rfl 7 rfl rfl z24 _ rfl,
          fun L u => u_alloc u (gd0 rfl) 24 rfl 8 rfl rfl z24 _ rfl,
          fun L u => u_store u (gd0 rfl) 24 (.tmp 7) (.tmp 41) rfl rfl rfl (vs := fc ((x1) * ((z2) * (z2)))) rfl rfl i24 (lk rfl) rfl _ rfl,
          fun L u => u_store u (gd0 rfl) 24 (.tmp 8) (.tmp 45) rfl rfl rfl (vs := fc ((x2) * ((z1) * (z1)))) rfl rfl i24 (lk rfl) rfl _ rfl,
          trivial⟩ [(2, .ptr 2 0), (3, .ptr 3 0), (4, .ptr 4 0), (5, .ptr 5 0), (6, .ptr 6 0), (7, .ptr 7 0), (8, .ptr 8 0)] [(2, fc (x1) ++ fc (y1) ++ fc (z1)), (3, fc (x2) ++ fc (y2) ++ fc (z2)), (4, nz ++ nz ++ nz), (5, fc ((z1) * (z1))), (6, fc ((z2) * (z2))), (7, fc ((x1) * ((z2) * (z2)))), (8, fc ((x2) * ((z1) * (z1))))] ⟨rfl, rfl, rfl, rfl, rfl, rfl, rfl, trivial⟩ ⟨rfl, rfl, rfl, rfl, rfl, rfl, rfl, trivial⟩ rfl (fun a w h => ?_)
        refine go_region h hm [eS 46 (.ptr 2 4), eS 47 (.val (.agg (fc (y1)).toArray)), eS 48 (.ptr 3 8), eS 49 (.val (.agg (fc (z2)).toArray)), eS 50 (.val (.agg (fc ((z2) * (z2))).toArray)), eS 51 (.val (.agg (fc ((z2) * ((z2) * (z2)))).toArray)), eS 52 (.val (.agg (fc ((y1) * ((z2) * ((z2) * (z2))))).toArray)), eS 53 (.ptr 3 4), eS 54 (.val (.agg (fc (y2)).toArray)), eS 55 (.ptr 2 8), eS 56 (.val (.agg (fc (z1)).toArray)), eS 57 (.val (.agg (fc ((z1) * (z1))).toArray)), eS 58 (.val (.agg (fc ((z1) * ((z1) * (z1)))).toArray)), eS 59 (.val (.agg (fc ((y2) * ((z1) * ((z1) * (z1))))).toArray)), eN 9 (nz), eN 10 (nz), eM 9 (fc ((y1) * ((z2) * ((z2) * (z2))))), eM 10 (fc ((y2) * ((z1) * ((z1) * (z1)))))] (by kernel_rfl) ⟨
          fun L u => u_field u (gd0 rfl) 46 rfl 60 (.tmp 2) 1 rfl rfl rfl Tryd.underlying60 rfl i24 _ rfl,
          fun L u => u_load u (gd0 rfl) 47 rfl 24 (.tmp 46) rfl rfl rfl Tryd.underlying24 rfl i24 (lk rfl) _ rfl,
          fun L u => u_field u (gd0 rfl) 48 rfl 60 (.tmp 3) 2 rfl rfl rfl Tryd.underlying60 rfl i24 _ rfl,
          fun L u => u_load u (gd0 rfl) 49 rfl 24 (.tmp 48) rfl rfl rfl Tryd.underlying24 rfl i24 (lk rfl) _ rfl,
          fun L u => u_load u (gd0 rfl) 50 rfl 24 (.tmp 6) rfl rfl rfl Tryd.underlying24 rfl i24 (lk rfl) _ rfl,
          fun L u => u_call u (gd0 rfl) 51 rfl 36 #[(.tmp 49), (.tmp 50)] #[24, 24] rfl [.agg (fc (z2)).toArray, .agg (fc ((z2) * (z2))).toArray] rfl (cE36 _) (.agg (fc ((z2) * ((z2) * (z2)))).toArray) (fun w hb => r_mul (hT.keep (Bs.kp_of hb)) _ _),
          fun L u => u_call u (gd0 rfl) 52 rfl 36 #[(.tmp 47), (.tmp 51)] #[24, 24] rfl [.agg (fc (y1)).toArray, .agg (fc ((z2) * ((z2) * (z2)))).toArray] rfl (cE36 _) (.agg (fc ((y1) * ((z2) * ((z2) * (z2))))).toArray) (fun w hb => r_mul (hT.keep (Bs.kp_of hb)) _ _),
          fun L u => u_field u (gd0 rfl) 53 rfl 60 (.tmp 3) 1 rfl rfl rfl Tryd.underlying60 rfl i24 _ rfl,
          fun L u => u_load u (gd0 rfl) 54 rfl 24 (.tmp 53) rfl rfl rfl Tryd.underlying24 rfl i24 (lk rfl) _ rfl,
          fun L u => u_field u (gd0 rfl) 55 rfl 60 (.tmp 2) 2 rfl rfl rfl Tryd.underlying60 rfl i24 _ rfl,
          fun L u => u_load u (gd0 rfl) 56 rfl 24 (.tmp 55) rfl rfl rfl Tryd.underlying24 rfl i24 (lk rfl) _ rfl,
          fun L u => u_load u (gd0 rfl) 57 rfl 24 (.tmp 5) rfl rfl rfl Tryd.underlying24 rfl i24 (lk rfl) _ rfl,
          fun L u => u_call u (gd0 rfl) 58 rfl 36 #[(.tmp 56), (.tmp 57)] #[24, 24] rfl [.agg (fc (z1)).toArray, .agg (fc ((z1) * (z1))).toArray] rfl (cE36 _) (.agg (fc ((z1) * ((z1) * (z1)))).toArray) (fun w hb => r_mul (hT.keep (Bs.kp_of hb)) _ _),
          fun L u => u_call u (gd0 rfl) 59 rfl 36 #[(.tmp 54), (.tmp 58)] #[24, 24] rfl [.agg (fc (y2)).toArray, .agg (fc ((z1) * ((z1) * (z1)))).toArray] rfl (cE36 _) (.agg (fc ((y2) * ((z1) * ((z1) * (z1))))).toArray) (fun w hb => r_mul (hT.keep (Bs.kp_of hb)) _ _),
          fun L u => u_alloc u (gd0 rfl) 24 rfl 9 rfl rfl z24 _ rfl,
          fun L u => u_alloc u (gd0 rfl) 24 rfl 10 rfl rfl z24 _ rfl,
          fun L u => u_store u (gd0 rfl) 24 (.tmp 9) (.tmp 52) rfl rfl rfl (vs := fc ((y1) * ((z2) * ((z2) * (z2))))) rfl rfl i24 (lk rfl) rfl _ rfl,
          fun L u => u_store u (gd0 rfl) 24 (.tmp 10) (.tmp 59) rfl rfl rfl (vs := fc ((y2) * ((z1) * ((z1) * (z1))))) rfl rfl i24 (lk rfl) rfl _ rfl,
          trivial⟩ [(2, .ptr 2 0), (3, .ptr 3 0), (4, .ptr 4 0), (7, .ptr 7 0), (8, .ptr 8 0), (9, .ptr 9 0), (10, .ptr 10 0)] [(2, fc (x1) ++ fc (y1) ++ fc (z1)), (3, fc (x2) ++ fc (y2) ++ fc (z2)), (4, nz ++ nz ++ nz), (7, fc ((x1) * ((z2) * (z2)))), (8, fc ((x2) * ((z1) * (z1)))), (9, fc ((y1) * ((z2) * ((z2) * (z2))))), (10, fc ((y2) * ((z1) * ((z1) * (z1)))))] ⟨rfl, rfl, rfl, rfl, rfl, rfl, rfl, trivial⟩ ⟨rfl, rfl, rfl, rfl, rfl, rfl, rfl, trivial⟩ rfl (fun a w h => ?_)
        refine wp_seq ?_
        refine go_region h hm [eS 60 (.val (.agg (fc ((x1) * ((z2) * (z2)))).toArray)), eS 61 (.val (.agg (fc ((x2) * ((z1) * (z1)))).toArray)), eS 62 (.val (Value.bool false))] (by kernel_rfl) ⟨
          fun L u => u_load u (gd0 rfl) 60 rfl 24 (.tmp 7) rfl rfl rfl Tryd.underlying24 rfl i24 (lk rfl) _ rfl,
          fun L u => u_load u (gd0 rfl) 61 rfl 24 (.tmp 8) rfl rfl rfl Tryd.underlying24 rfl i24 (lk rfl) _ rfl,
          fun L u => u_eql u (gd0 rfl) 62 rfl 24 24 (.tmp 60) (.tmp 61) rfl rfl rfl Tryd.eqGuardType24 (false) (eq_f h2),
          trivial⟩ [(2, .ptr 2 0), (3, .ptr 3 0), (4, .ptr 4 0), (7, .ptr 7 0), (8, .ptr 8 0), (9, .ptr 9 0), (10, .ptr 10 0), (62, .val (Value.bool false))] [(2, fc (x1) ++ fc (y1) ++ fc (z1)), (3, fc (x2) ++ fc (y2) ++ fc (z2)), (4, nz ++ nz ++ nz), (7, fc ((x1) * ((z2) * (z2)))), (8, fc ((x2) * ((z1) * (z1)))), (9, fc ((y1) * ((z2) * ((z2) * (z2))))), (10, fc ((y2) * ((z1) * ((z1) * (z1)))))] ⟨rfl, rfl, rfl, rfl, rfl, rfl, rfl, rfl, trivial⟩ ⟨rfl, rfl, rfl, rfl, rfl, rfl, rfl, trivial⟩ rfl (fun a w h => ?_)
        refine go_cond h false rfl (fun ht => ?_) (fun hf => ?_)
        case refine_1 => cases ht
        refine wp_skip ?_
        refine then_norm ?_
        refine go_region h hm [eS 69 (.val (.agg (fc ((x2) * ((z1) * (z1)))).toArray)), eS 70 (.val (.agg (fc ((x1) * ((z2) * (z2)))).toArray)), eS 71 (.val (.agg (fc (((x2) * ((z1) * (z1))) - ((x1) * ((z2) * (z2))))).toArray)), eS 72 (.val (.agg (fc ((y2) * ((z1) * ((z1) * (z1))))).toArray)), eS 73 (.val (.agg (fc ((y1) * ((z2) * ((z2) * (z2))))).toArray)), eS 74 (.val (.agg (fc (((y2) * ((z1) * ((z1) * (z1)))) - ((y1) * ((z2) * ((z2) * (z2)))))).toArray)), eN 11 (nz), eN 12 (nz), eM 11 (fc (((x2) * ((z1) * (z1))) - ((x1) * ((z2) * (z2))))), eM 12 (fc (((y2) * ((z1) * ((z1) * (z1)))) - ((y1) * ((z2) * ((z2) * (z2))))))] (by kernel_rfl) ⟨
          fun L u => u_load u (gd0 rfl) 69 rfl 24 (.tmp 8) rfl rfl rfl Tryd.underlying24 rfl i24 (lk rfl) _ rfl,
          fun L u => u_load u (gd0 rfl) 70 rfl 24 (.tmp 7) rfl rfl rfl Tryd.underlying24 rfl i24 (lk rfl) _ rfl,
          fun L u => u_call u (gd0 rfl) 71 rfl 35 #[(.tmp 69), (.tmp 70)] #[24, 24] rfl [.agg (fc ((x2) * ((z1) * (z1)))).toArray, .agg (fc ((x1) * ((z2) * (z2)))).toArray] rfl (cE35 _) (.agg (fc (((x2) * ((z1) * (z1))) - ((x1) * ((z2) * (z2))))).toArray) (fun w hb => r_sub (hT.keep (Bs.kp_of hb)) _ _),
          fun L u => u_load u (gd0 rfl) 72 rfl 24 (.tmp 10) rfl rfl rfl Tryd.underlying24 rfl i24 (lk rfl) _ rfl,
          fun L u => u_load u (gd0 rfl) 73 rfl 24 (.tmp 9) rfl rfl rfl Tryd.underlying24 rfl i24 (lk rfl) _ rfl,
          fun L u => u_call u (gd0 rfl) 74 rfl 35 #[(.tmp 72), (.tmp 73)] #[24, 24] rfl [.agg (fc ((y2) * ((z1) * ((z1) * (z1))))).toArray, .agg (fc ((y1) * ((z2) * ((z2) * (z2))))).toArray] rfl (cE35 _) (.agg (fc (((y2) * ((z1) * ((z1) * (z1)))) - ((y1) * ((z2) * ((z2) * (z2)))))).toArray) (fun w hb => r_sub (hT.keep (Bs.kp_of hb)) _ _),
          fun L u => u_alloc u (gd0 rfl) 24 rfl 11 rfl rfl z24 _ rfl,
          fun L u => u_alloc u (gd0 rfl) 24 rfl 12 rfl rfl z24 _ rfl,
          fun L u => u_store u (gd0 rfl) 24 (.tmp 11) (.tmp 71) rfl rfl rfl (vs := fc (((x2) * ((z1) * (z1))) - ((x1) * ((z2) * (z2))))) rfl rfl i24 (lk rfl) rfl _ rfl,
          fun L u => u_store u (gd0 rfl) 24 (.tmp 12) (.tmp 74) rfl rfl rfl (vs := fc (((y2) * ((z1) * ((z1) * (z1)))) - ((y1) * ((z2) * ((z2) * (z2)))))) rfl rfl i24 (lk rfl) rfl _ rfl,
          trivial⟩ [(2, .ptr 2 0), (3, .ptr 3 0), (4, .ptr 4 0), (7, .ptr 7 0), (9, .ptr 9 0), (11, .ptr 11 0), (12, .ptr 12 0)] [(2, fc (x1) ++ fc (y1) ++ fc (z1)), (3, fc (x2) ++ fc (y2) ++ fc (z2)), (4, nz ++ nz ++ nz), (7, fc ((x1) * ((z2) * (z2)))), (9, fc ((y1) * ((z2) * ((z2) * (z2))))), (11, fc (((x2) * ((z1) * (z1))) - ((x1) * ((z2) * (z2))))), (12, fc (((y2) * ((z1) * ((z1) * (z1)))) - ((y1) * ((z2) * ((z2) * (z2))))))] ⟨rfl, rfl, rfl, rfl, rfl, rfl, rfl, trivial⟩ ⟨rfl, rfl, rfl, rfl, rfl, rfl, rfl, trivial⟩ rfl (fun a w h => ?_)
        refine go_region h hm [eS 75 (.val (.agg (fc (((x2) * ((z1) * (z1))) - ((x1) * ((z2) * (z2))))).toArray)), eS 76 (.val (.agg (fc (((x2) * ((z1) * (z1))) - ((x1) * ((z2) * (z2))))).toArray)), eS 77 (.val (.agg (fc ((((x2) * ((z1) * (z1))) - ((x1) * ((z2) * (z2)))) * (((x2) * ((z1) * (z1))) - ((x1) * ((z2) * (z2)))))).toArray)), eN 13 (nz), eM 13 (fc ((((x2) * ((z1) * (z1))) - ((x1) * ((z2) * (z2)))) * (((x2) * ((z1) * (z1))) - ((x1) * ((z2) * (z2))))))] (by kernel_rfl) ⟨
          fun L u => u_load u (gd0 rfl) 75 rfl 24 (.tmp 11) rfl rfl rfl Tryd.underlying24 rfl i24 (lk rfl) _ rfl,
          fun L u => u_load u (gd0 rfl) 76 rfl 24 (.tmp 11) rfl rfl rfl Tryd.underlying24 rfl i24 (lk rfl) _ rfl,
          fun L u => u_call u (gd0 rfl) 77 rfl 36 #[(.tmp 75), (.tmp 76)] #[24, 24] rfl [.agg (fc (((x2) * ((z1) * (z1))) - ((x1) * ((z2) * (z2))))).toArray, .agg (fc (((x2) * ((z1) * (z1))) - ((x1) * ((z2) * (z2))))).toArray] rfl (cE36 _) (.agg (fc ((((x2) * ((z1) * (z1))) - ((x1) * ((z2) * (z2)))) * (((x2) * ((z1) * (z1))) - ((x1) * ((z2) * (z2)))))).toArray) (fun w hb => r_mul (hT.keep (Bs.kp_of hb)) _ _),
          fun L u => u_alloc u (gd0 rfl) 24 rfl 13 rfl rfl z24 _ rfl,
          fun L u => u_store u (gd0 rfl) 24 (.tmp 13) (.tmp 77) rfl rfl rfl (vs := fc ((((x2) * ((z1) * (z1))) - ((x1) * ((z2) * (z2)))) * (((x2) * ((z1) * (z1))) - ((x1) * ((z2) * (z2)))))) rfl rfl i24 (lk rfl) rfl _ rfl,
          trivial⟩ [(2, .ptr 2 0), (3, .ptr 3 0), (4, .ptr 4 0), (7, .ptr 7 0), (9, .ptr 9 0), (11, .ptr 11 0), (12, .ptr 12 0), (13, .ptr 13 0)] [(2, fc (x1) ++ fc (y1) ++ fc (z1)), (3, fc (x2) ++ fc (y2) ++ fc (z2)), (4, nz ++ nz ++ nz), (7, fc ((x1) * ((z2) * (z2)))), (9, fc ((y1) * ((z2) * ((z2) * (z2))))), (11, fc (((x2) * ((z1) * (z1))) - ((x1) * ((z2) * (z2))))), (12, fc (((y2) * ((z1) * ((z1) * (z1)))) - ((y1) * ((z2) * ((z2) * (z2)))))), (13, fc ((((x2) * ((z1) * (z1))) - ((x1) * ((z2) * (z2)))) * (((x2) * ((z1) * (z1))) - ((x1) * ((z2) * (z2))))))] ⟨rfl, rfl, rfl, rfl, rfl, rfl, rfl, rfl, trivial⟩ ⟨rfl, rfl, rfl, rfl, rfl, rfl, rfl, rfl, trivial⟩ rfl (fun a w h => ?_)
        refine go_region h hm [eS 78 (.val (.agg (fc (((x2) * ((z1) * (z1))) - ((x1) * ((z2) * (z2))))).toArray)), eS 79 (.val (.agg (fc ((((x2) * ((z1) * (z1))) - ((x1) * ((z2) * (z2)))) * (((x2) * ((z1) * (z1))) - ((x1) * ((z2) * (z2)))))).toArray)), eS 80 (.val (.agg (fc ((((x2) * ((z1) * (z1))) - ((x1) * ((z2) * (z2)))) * ((((x2) * ((z1) * (z1))) - ((x1) * ((z2) * (z2)))) * (((x2) * ((z1) * (z1))) - ((x1) * ((z2) * (z2))))))).toArray)), eN 14 (nz), eM 14 (fc ((((x2) * ((z1) * (z1))) - ((x1) * ((z2) * (z2)))) * ((((x2) * ((z1) * (z1))) - ((x1) * ((z2) * (z2)))) * (((x2) * ((z1) * (z1))) - ((x1) * ((z2) * (z2)))))))] (by kernel_rfl) ⟨
          fun L u => u_load u (gd0 rfl) 78 rfl 24 (.tmp 11) rfl rfl rfl Tryd.underlying24 rfl i24 (lk rfl) _ rfl,
          fun L u => u_load u (gd0 rfl) 79 rfl 24 (.tmp 13) rfl rfl rfl Tryd.underlying24 rfl i24 (lk rfl) _ rfl,
          fun L u => u_call u (gd0 rfl) 80 rfl 36 #[(.tmp 78), (.tmp 79)] #[24, 24] rfl [.agg (fc (((x2) * ((z1) * (z1))) - ((x1) * ((z2) * (z2))))).toArray, .agg (fc ((((x2) * ((z1) * (z1))) - ((x1) * ((z2) * (z2)))) * (((x2) * ((z1) * (z1))) - ((x1) * ((z2) * (z2)))))).toArray] rfl (cE36 _) (.agg (fc ((((x2) * ((z1) * (z1))) - ((x1) * ((z2) * (z2)))) * ((((x2) * ((z1) * (z1))) - ((x1) * ((z2) * (z2)))) * (((x2) * ((z1) * (z1))) - ((x1) * ((z2) * (z2))))))).toArray) (fun w hb => r_mul (hT.keep (Bs.kp_of hb)) _ _),
          fun L u => u_alloc u (gd0 rfl) 24 rfl 14 rfl rfl z24 _ rfl,
          fun L u => u_store u (gd0 rfl) 24 (.tmp 14) (.tmp 80) rfl rfl rfl (vs := fc ((((x2) * ((z1) * (z1))) - ((x1) * ((z2) * (z2)))) * ((((x2) * ((z1) * (z1))) - ((x1) * ((z2) * (z2)))) * (((x2) * ((z1) * (z1))) - ((x1) * ((z2) * (z2))))))) rfl rfl i24 (lk rfl) rfl _ rfl,
          trivial⟩ [(2, .ptr 2 0), (3, .ptr 3 0), (4, .ptr 4 0), (7, .ptr 7 0), (9, .ptr 9 0), (11, .ptr 11 0), (12, .ptr 12 0), (13, .ptr 13 0), (14, .ptr 14 0)] [(2, fc (x1) ++ fc (y1) ++ fc (z1)), (3, fc (x2) ++ fc (y2) ++ fc (z2)), (4, nz ++ nz ++ nz), (7, fc ((x1) * ((z2) * (z2)))), (9, fc ((y1) * ((z2) * ((z2) * (z2))))), (11, fc (((x2) * ((z1) * (z1))) - ((x1) * ((z2) * (z2))))), (12, fc (((y2) * ((z1) * ((z1) * (z1)))) - ((y1) * ((z2) * ((z2) * (z2)))))), (13, fc ((((x2) * ((z1) * (z1))) - ((x1) * ((z2) * (z2)))) * (((x2) * ((z1) * (z1))) - ((x1) * ((z2) * (z2)))))), (14, fc ((((x2) * ((z1) * (z1))) - ((x1) * ((z2) * (z2)))) * ((((x2) * ((z1) * (z1))) - ((x1) * ((z2) * (z2)))) * (((x2) * ((z1) * (z1))) - ((x1) * ((z2) * (z2)))))))] ⟨rfl, rfl, rfl, rfl, rfl, rfl, rfl, rfl, rfl, trivial⟩ ⟨rfl, rfl, rfl, rfl, rfl, rfl, rfl, rfl, rfl, trivial⟩ rfl (fun a w h => ?_)
        refine go_region h hm [eS 81 (.val (.agg (fc ((x1) * ((z2) * (z2)))).toArray)), eS 82 (.val (.agg (fc ((((x2) * ((z1) * (z1))) - ((x1) * ((z2) * (z2)))) * (((x2) * ((z1) * (z1))) - ((x1) * ((z2) * (z2)))))).toArray)), eS 83 (.val (.agg (fc (((x1) * ((z2) * (z2))) * ((((x2) * ((z1) * (z1))) - ((x1) * ((z2) * (z2)))) * (((x2) * ((z1) * (z1))) - ((x1) * ((z2) * (z2))))))).toArray)), eN 15 (nz), eM 15 (fc (((x1) * ((z2) * (z2))) * ((((x2) * ((z1) * (z1))) - ((x1) * ((z2) * (z2)))) * (((x2) * ((z1) * (z1))) - ((x1) * ((z2) * (z2)))))))] (by kernel_rfl) ⟨
          fun L u => u_load u (gd0 rfl) 81 rfl 24 (.tmp 7) rfl rfl rfl Tryd.underlying24 rfl i24 (lk rfl) _ rfl,
          fun L u => u_load u (gd0 rfl) 82 rfl 24 (.tmp 13) rfl rfl rfl Tryd.underlying24 rfl i24 (lk rfl) _ rfl,
          fun L u => u_call u (gd0 rfl) 83 rfl 36 #[(.tmp 81), (.tmp 82)] #[24, 24] rfl [.agg (fc ((x1) * ((z2) * (z2)))).toArray, .agg (fc ((((x2) * ((z1) * (z1))) - ((x1) * ((z2) * (z2)))) * (((x2) * ((z1) * (z1))) - ((x1) * ((z2) * (z2)))))).toArray] rfl (cE36 _) (.agg (fc (((x1) * ((z2) * (z2))) * ((((x2) * ((z1) * (z1))) - ((x1) * ((z2) * (z2)))) * (((x2) * ((z1) * (z1))) - ((x1) * ((z2) * (z2))))))).toArray) (fun w hb => r_mul (hT.keep (Bs.kp_of hb)) _ _),
          fun L u => u_alloc u (gd0 rfl) 24 rfl 15 rfl rfl z24 _ rfl,
          fun L u => u_store u (gd0 rfl) 24 (.tmp 15) (.tmp 83) rfl rfl rfl (vs := fc (((x1) * ((z2) * (z2))) * ((((x2) * ((z1) * (z1))) - ((x1) * ((z2) * (z2)))) * (((x2) * ((z1) * (z1))) - ((x1) * ((z2) * (z2))))))) rfl rfl i24 (lk rfl) rfl _ rfl,
          trivial⟩ [(2, .ptr 2 0), (3, .ptr 3 0), (4, .ptr 4 0), (9, .ptr 9 0), (11, .ptr 11 0), (12, .ptr 12 0), (14, .ptr 14 0), (15, .ptr 15 0)] [(2, fc (x1) ++ fc (y1) ++ fc (z1)), (3, fc (x2) ++ fc (y2) ++ fc (z2)), (4, nz ++ nz ++ nz), (9, fc ((y1) * ((z2) * ((z2) * (z2))))), (11, fc (((x2) * ((z1) * (z1))) - ((x1) * ((z2) * (z2))))), (12, fc (((y2) * ((z1) * ((z1) * (z1)))) - ((y1) * ((z2) * ((z2) * (z2)))))), (14, fc ((((x2) * ((z1) * (z1))) - ((x1) * ((z2) * (z2)))) * ((((x2) * ((z1) * (z1))) - ((x1) * ((z2) * (z2)))) * (((x2) * ((z1) * (z1))) - ((x1) * ((z2) * (z2))))))), (15, fc (((x1) * ((z2) * (z2))) * ((((x2) * ((z1) * (z1))) - ((x1) * ((z2) * (z2)))) * (((x2) * ((z1) * (z1))) - ((x1) * ((z2) * (z2)))))))] ⟨rfl, rfl, rfl, rfl, rfl, rfl, rfl, rfl, trivial⟩ ⟨rfl, rfl, rfl, rfl, rfl, rfl, rfl, rfl, trivial⟩ rfl (fun a w h => ?_)
        refine go_region h hm [eS 84 (.val (.agg (fc (((y2) * ((z1) * ((z1) * (z1)))) - ((y1) * ((z2) * ((z2) * (z2)))))).toArray)), eS 85 (.val (.agg (fc (((y2) * ((z1) * ((z1) * (z1)))) - ((y1) * ((z2) * ((z2) * (z2)))))).toArray)), eS 86 (.val (.agg (fc ((((y2) * ((z1) * ((z1) * (z1)))) - ((y1) * ((z2) * ((z2) * (z2))))) * (((y2) * ((z1) * ((z1) * (z1)))) - ((y1) * ((z2) * ((z2) * (z2))))))).toArray)), eS 87 (.val (.agg (fc ((((x2) * ((z1) * (z1))) - ((x1) * ((z2) * (z2)))) * ((((x2) * ((z1) * (z1))) - ((x1) * ((z2) * (z2)))) * (((x2) * ((z1) * (z1))) - ((x1) * ((z2) * (z2))))))).toArray)), eS 88 (.val (.agg (fc (((((y2) * ((z1) * ((z1) * (z1)))) - ((y1) * ((z2) * ((z2) * (z2))))) * (((y2) * ((z1) * ((z1) * (z1)))) - ((y1) * ((z2) * ((z2) * (z2)))))) - ((((x2) * ((z1) * (z1))) - ((x1) * ((z2) * (z2)))) * ((((x2) * ((z1) * (z1))) - ((x1) * ((z2) * (z2)))) * (((x2) * ((z1) * (z1))) - ((x1) * ((z2) * (z2)))))))).toArray)), eS 89 (.val (.agg (fc (((x1) * ((z2) * (z2))) * ((((x2) * ((z1) * (z1))) - ((x1) * ((z2) * (z2)))) * (((x2) * ((z1) * (z1))) - ((x1) * ((z2) * (z2))))))).toArray)), eS 90 (.val (.agg (fc (tmN (((x1) * ((z2) * (z2))) * ((((x2) * ((z1) * (z1))) - ((x1) * ((z2) * (z2)))) * (((x2) * ((z1) * (z1))) - ((x1) * ((z2) * (z2)))))) 2)).toArray)), eS 91 (.val (.agg (fc ((((((y2) * ((z1) * ((z1) * (z1)))) - ((y1) * ((z2) * ((z2) * (z2))))) * (((y2) * ((z1) * ((z1) * (z1)))) - ((y1) * ((z2) * ((z2) * (z2)))))) - ((((x2) * ((z1) * (z1))) - ((x1) * ((z2) * (z2)))) * ((((x2) * ((z1) * (z1))) - ((x1) * ((z2) * (z2)))) * (((x2) * ((z1) * (z1))) - ((x1) * ((z2) * (z2))))))) - (tmN (((x1) * ((z2) * (z2))) * ((((x2) * ((z1) * (z1))) - ((x1) * ((z2) * (z2)))) * (((x2) * ((z1) * (z1))) - ((x1) * ((z2) * (z2)))))) 2))).toArray)), eN 16 (nz), eM 16 (fc ((((((y2) * ((z1) * ((z1) * (z1)))) - ((y1) * ((z2) * ((z2) * (z2))))) * (((y2) * ((z1) * ((z1) * (z1)))) - ((y1) * ((z2) * ((z2) * (z2)))))) - ((((x2) * ((z1) * (z1))) - ((x1) * ((z2) * (z2)))) * ((((x2) * ((z1) * (z1))) - ((x1) * ((z2) * (z2)))) * (((x2) * ((z1) * (z1))) - ((x1) * ((z2) * (z2))))))) - (tmN (((x1) * ((z2) * (z2))) * ((((x2) * ((z1) * (z1))) - ((x1) * ((z2) * (z2)))) * (((x2) * ((z1) * (z1))) - ((x1) * ((z2) * (z2)))))) 2)))] (by kernel_rfl) ⟨
          fun L u => u_load u (gd0 rfl) 84 rfl 24 (.tmp 12) rfl rfl rfl Tryd.underlying24 rfl i24 (lk rfl) _ rfl,
          fun L u => u_load u (gd0 rfl) 85 rfl 24 (.tmp 12) rfl rfl rfl Tryd.underlying24 rfl i24 (lk rfl) _ rfl,
          fun L u => u_call u (gd0 rfl) 86 rfl 36 #[(.tmp 84), (.tmp 85)] #[24, 24] rfl [.agg (fc (((y2) * ((z1) * ((z1) * (z1)))) - ((y1) * ((z2) * ((z2) * (z2)))))).toArray, .agg (fc (((y2) * ((z1) * ((z1) * (z1)))) - ((y1) * ((z2) * ((z2) * (z2)))))).toArray] rfl (cE36 _) (.agg (fc ((((y2) * ((z1) * ((z1) * (z1)))) - ((y1) * ((z2) * ((z2) * (z2))))) * (((y2) * ((z1) * ((z1) * (z1)))) - ((y1) * ((z2) * ((z2) * (z2))))))).toArray) (fun w hb => r_mul (hT.keep (Bs.kp_of hb)) _ _),
          fun L u => u_load u (gd0 rfl) 87 rfl 24 (.tmp 14) rfl rfl rfl Tryd.underlying24 rfl i24 (lk rfl) _ rfl,
          fun L u => u_call u (gd0 rfl) 88 rfl 35 #[(.tmp 86), (.tmp 87)] #[24, 24] rfl [.agg (fc ((((y2) * ((z1) * ((z1) * (z1)))) - ((y1) * ((z2) * ((z2) * (z2))))) * (((y2) * ((z1) * ((z1) * (z1)))) - ((y1) * ((z2) * ((z2) * (z2))))))).toArray, .agg (fc ((((x2) * ((z1) * (z1))) - ((x1) * ((z2) * (z2)))) * ((((x2) * ((z1) * (z1))) - ((x1) * ((z2) * (z2)))) * (((x2) * ((z1) * (z1))) - ((x1) * ((z2) * (z2))))))).toArray] rfl (cE35 _) (.agg (fc (((((y2) * ((z1) * ((z1) * (z1)))) - ((y1) * ((z2) * ((z2) * (z2))))) * (((y2) * ((z1) * ((z1) * (z1)))) - ((y1) * ((z2) * ((z2) * (z2)))))) - ((((x2) * ((z1) * (z1))) - ((x1) * ((z2) * (z2)))) * ((((x2) * ((z1) * (z1))) - ((x1) * ((z2) * (z2)))) * (((x2) * ((z1) * (z1))) - ((x1) * ((z2) * (z2)))))))).toArray) (fun w hb => r_sub (hT.keep (Bs.kp_of hb)) _ _),
          fun L u => u_load u (gd0 rfl) 89 rfl 24 (.tmp 15) rfl rfl rfl Tryd.underlying24 rfl i24 (lk rfl) _ rfl,
          fun L u => u_call u (gd0 rfl) 90 rfl 37 #[(.const (.int .i64 2)), (.tmp 89)] #[3, 24] rfl [(Value.int IntKind.i64 2), .agg (fc (((x1) * ((z2) * (z2))) * ((((x2) * ((z1) * (z1))) - ((x1) * ((z2) * (z2)))) * (((x2) * ((z1) * (z1))) - ((x1) * ((z2) * (z2))))))).toArray] rfl (cE37 _) (.agg (fc (tmN (((x1) * ((z2) * (z2))) * ((((x2) * ((z1) * (z1))) - ((x1) * ((z2) * (z2)))) * (((x2) * ((z1) * (z1))) - ((x1) * ((z2) * (z2)))))) 2)).toArray) (fun w hb => r_times (hT.keep (Bs.kp_of hb)) _ 2 (by decide)),
          fun L u => u_call u (gd0 rfl) 91 rfl 35 #[(.tmp 88), (.tmp 90)] #[24, 24] rfl [.agg (fc (((((y2) * ((z1) * ((z1) * (z1)))) - ((y1) * ((z2) * ((z2) * (z2))))) * (((y2) * ((z1) * ((z1) * (z1)))) - ((y1) * ((z2) * ((z2) * (z2)))))) - ((((x2) * ((z1) * (z1))) - ((x1) * ((z2) * (z2)))) * ((((x2) * ((z1) * (z1))) - ((x1) * ((z2) * (z2)))) * (((x2) * ((z1) * (z1))) - ((x1) * ((z2) * (z2)))))))).toArray, .agg (fc (tmN (((x1) * ((z2) * (z2))) * ((((x2) * ((z1) * (z1))) - ((x1) * ((z2) * (z2)))) * (((x2) * ((z1) * (z1))) - ((x1) * ((z2) * (z2)))))) 2)).toArray] rfl (cE35 _) (.agg (fc ((((((y2) * ((z1) * ((z1) * (z1)))) - ((y1) * ((z2) * ((z2) * (z2))))) * (((y2) * ((z1) * ((z1) * (z1)))) - ((y1) * ((z2) * ((z2) * (z2)))))) - ((((x2) * ((z1) * (z1))) - ((x1) * ((z2) * (z2)))) * ((((x2) * ((z1) * (z1))) - ((x1) * ((z2) * (z2)))) * (((x2) * ((z1) * (z1))) - ((x1) * ((z2) * (z2))))))) - (tmN (((x1) * ((z2) * (z2))) * ((((x2) * ((z1) * (z1))) - ((x1) * ((z2) * (z2)))) * (((x2) * ((z1) * (z1))) - ((x1) * ((z2) * (z2)))))) 2))).toArray) (fun w hb => r_sub (hT.keep (Bs.kp_of hb)) _ _),
          fun L u => u_alloc u (gd0 rfl) 24 rfl 16 rfl rfl z24 _ rfl,
          fun L u => u_store u (gd0 rfl) 24 (.tmp 16) (.tmp 91) rfl rfl rfl (vs := fc ((((((y2) * ((z1) * ((z1) * (z1)))) - ((y1) * ((z2) * ((z2) * (z2))))) * (((y2) * ((z1) * ((z1) * (z1)))) - ((y1) * ((z2) * ((z2) * (z2)))))) - ((((x2) * ((z1) * (z1))) - ((x1) * ((z2) * (z2)))) * ((((x2) * ((z1) * (z1))) - ((x1) * ((z2) * (z2)))) * (((x2) * ((z1) * (z1))) - ((x1) * ((z2) * (z2))))))) - (tmN (((x1) * ((z2) * (z2))) * ((((x2) * ((z1) * (z1))) - ((x1) * ((z2) * (z2)))) * (((x2) * ((z1) * (z1))) - ((x1) * ((z2) * (z2)))))) 2))) rfl rfl i24 (lk rfl) rfl _ rfl,
          trivial⟩ [(2, .ptr 2 0), (3, .ptr 3 0), (4, .ptr 4 0), (9, .ptr 9 0), (11, .ptr 11 0), (12, .ptr 12 0), (14, .ptr 14 0), (15, .ptr 15 0), (16, .ptr 16 0)] [(2, fc (x1) ++ fc (y1) ++ fc (z1)), (3, fc (x2) ++ fc (y2) ++ fc (z2)), (4, nz ++ nz ++ nz), (9, fc ((y1) * ((z2) * ((z2) * (z2))))), (11, fc (((x2) * ((z1) * (z1))) - ((x1) * ((z2) * (z2))))), (12, fc (((y2) * ((z1) * ((z1) * (z1)))) - ((y1) * ((z2) * ((z2) * (z2)))))), (14, fc ((((x2) * ((z1) * (z1))) - ((x1) * ((z2) * (z2)))) * ((((x2) * ((z1) * (z1))) - ((x1) * ((z2) * (z2)))) * (((x2) * ((z1) * (z1))) - ((x1) * ((z2) * (z2))))))), (15, fc (((x1) * ((z2) * (z2))) * ((((x2) * ((z1) * (z1))) - ((x1) * ((z2) * (z2)))) * (((x2) * ((z1) * (z1))) - ((x1) * ((z2) * (z2))))))), (16, fc ((((((y2) * ((z1) * ((z1) * (z1)))) - ((y1) * ((z2) * ((z2) * (z2))))) * (((y2) * ((z1) * ((z1) * (z1)))) - ((y1) * ((z2) * ((z2) * (z2)))))) - ((((x2) * ((z1) * (z1))) - ((x1) * ((z2) * (z2)))) * ((((x2) * ((z1) * (z1))) - ((x1) * ((z2) * (z2)))) * (((x2) * ((z1) * (z1))) - ((x1) * ((z2) * (z2))))))) - (tmN (((x1) * ((z2) * (z2))) * ((((x2) * ((z1) * (z1))) - ((x1) * ((z2) * (z2)))) * (((x2) * ((z1) * (z1))) - ((x1) * ((z2) * (z2)))))) 2)))] ⟨rfl, rfl, rfl, rfl, rfl, rfl, rfl, rfl, rfl, trivial⟩ ⟨rfl, rfl, rfl, rfl, rfl, rfl, rfl, rfl, rfl, trivial⟩ rfl (fun a w h => ?_)
        refine go_region h hm [eS 92 (.val (.agg (fc (((y2) * ((z1) * ((z1) * (z1)))) - ((y1) * ((z2) * ((z2) * (z2)))))).toArray)), eS 93 (.val (.agg (fc (((x1) * ((z2) * (z2))) * ((((x2) * ((z1) * (z1))) - ((x1) * ((z2) * (z2)))) * (((x2) * ((z1) * (z1))) - ((x1) * ((z2) * (z2))))))).toArray)), eS 94 (.val (.agg (fc ((((((y2) * ((z1) * ((z1) * (z1)))) - ((y1) * ((z2) * ((z2) * (z2))))) * (((y2) * ((z1) * ((z1) * (z1)))) - ((y1) * ((z2) * ((z2) * (z2)))))) - ((((x2) * ((z1) * (z1))) - ((x1) * ((z2) * (z2)))) * ((((x2) * ((z1) * (z1))) - ((x1) * ((z2) * (z2)))) * (((x2) * ((z1) * (z1))) - ((x1) * ((z2) * (z2))))))) - (tmN (((x1) * ((z2) * (z2))) * ((((x2) * ((z1) * (z1))) - ((x1) * ((z2) * (z2)))) * (((x2) * ((z1) * (z1))) - ((x1) * ((z2) * (z2)))))) 2))).toArray)), eS 95 (.val (.agg (fc ((((x1) * ((z2) * (z2))) * ((((x2) * ((z1) * (z1))) - ((x1) * ((z2) * (z2)))) * (((x2) * ((z1) * (z1))) - ((x1) * ((z2) * (z2)))))) - ((((((y2) * ((z1) * ((z1) * (z1)))) - ((y1) * ((z2) * ((z2) * (z2))))) * (((y2) * ((z1) * ((z1) * (z1)))) - ((y1) * ((z2) * ((z2) * (z2)))))) - ((((x2) * ((z1) * (z1))) - ((x1) * ((z2) * (z2)))) * ((((x2) * ((z1) * (z1))) - ((x1) * ((z2) * (z2)))) * (((x2) * ((z1) * (z1))) - ((x1) * ((z2) * (z2))))))) - (tmN (((x1) * ((z2) * (z2))) * ((((x2) * ((z1) * (z1))) - ((x1) * ((z2) * (z2)))) * (((x2) * ((z1) * (z1))) - ((x1) * ((z2) * (z2)))))) 2)))).toArray)), eS 96 (.val (.agg (fc ((((y2) * ((z1) * ((z1) * (z1)))) - ((y1) * ((z2) * ((z2) * (z2))))) * ((((x1) * ((z2) * (z2))) * ((((x2) * ((z1) * (z1))) - ((x1) * ((z2) * (z2)))) * (((x2) * ((z1) * (z1))) - ((x1) * ((z2) * (z2)))))) - ((((((y2) * ((z1) * ((z1) * (z1)))) - ((y1) * ((z2) * ((z2) * (z2))))) * (((y2) * ((z1) * ((z1) * (z1)))) - ((y1) * ((z2) * ((z2) * (z2)))))) - ((((x2) * ((z1) * (z1))) - ((x1) * ((z2) * (z2)))) * ((((x2) * ((z1) * (z1))) - ((x1) * ((z2) * (z2)))) * (((x2) * ((z1) * (z1))) - ((x1) * ((z2) * (z2))))))) - (tmN (((x1) * ((z2) * (z2))) * ((((x2) * ((z1) * (z1))) - ((x1) * ((z2) * (z2)))) * (((x2) * ((z1) * (z1))) - ((x1) * ((z2) * (z2)))))) 2))))).toArray)), eS 97 (.val (.agg (fc ((y1) * ((z2) * ((z2) * (z2))))).toArray)), eS 98 (.val (.agg (fc ((((x2) * ((z1) * (z1))) - ((x1) * ((z2) * (z2)))) * ((((x2) * ((z1) * (z1))) - ((x1) * ((z2) * (z2)))) * (((x2) * ((z1) * (z1))) - ((x1) * ((z2) * (z2))))))).toArray)), eS 99 (.val (.agg (fc (((y1) * ((z2) * ((z2) * (z2)))) * ((((x2) * ((z1) * (z1))) - ((x1) * ((z2) * (z2)))) * ((((x2) * ((z1) * (z1))) - ((x1) * ((z2) * (z2)))) * (((x2) * ((z1) * (z1))) - ((x1) * ((z2) * (z2)))))))).toArray)), eS 100 (.val (.agg (fc (((((y2) * ((z1) * ((z1) * (z1)))) - ((y1) * ((z2) * ((z2) * (z2))))) * ((((x1) * ((z2) * (z2))) * ((((x2) * ((z1) * (z1))) - ((x1) * ((z2) * (z2)))) * (((x2) * ((z1) * (z1))) - ((x1) * ((z2) * (z2)))))) - ((((((y2) * ((z1) * ((z1) * (z1)))) - ((y1) * ((z2) * ((z2) * (z2))))) * (((y2) * ((z1) * ((z1) * (z1)))) - ((y1) * ((z2) * ((z2) * (z2)))))) - ((((x2) * ((z1) * (z1))) - ((x1) * ((z2) * (z2)))) * ((((x2) * ((z1) * (z1))) - ((x1) * ((z2) * (z2)))) * (((x2) * ((z1) * (z1))) - ((x1) * ((z2) * (z2))))))) - (tmN (((x1) * ((z2) * (z2))) * ((((x2) * ((z1) * (z1))) - ((x1) * ((z2) * (z2)))) * (((x2) * ((z1) * (z1))) - ((x1) * ((z2) * (z2)))))) 2)))) - (((y1) * ((z2) * ((z2) * (z2)))) * ((((x2) * ((z1) * (z1))) - ((x1) * ((z2) * (z2)))) * ((((x2) * ((z1) * (z1))) - ((x1) * ((z2) * (z2)))) * (((x2) * ((z1) * (z1))) - ((x1) * ((z2) * (z2))))))))).toArray)), eN 17 (nz), eM 17 (fc (((((y2) * ((z1) * ((z1) * (z1)))) - ((y1) * ((z2) * ((z2) * (z2))))) * ((((x1) * ((z2) * (z2))) * ((((x2) * ((z1) * (z1))) - ((x1) * ((z2) * (z2)))) * (((x2) * ((z1) * (z1))) - ((x1) * ((z2) * (z2)))))) - ((((((y2) * ((z1) * ((z1) * (z1)))) - ((y1) * ((z2) * ((z2) * (z2))))) * (((y2) * ((z1) * ((z1) * (z1)))) - ((y1) * ((z2) * ((z2) * (z2)))))) - ((((x2) * ((z1) * (z1))) - ((x1) * ((z2) * (z2)))) * ((((x2) * ((z1) * (z1))) - ((x1) * ((z2) * (z2)))) * (((x2) * ((z1) * (z1))) - ((x1) * ((z2) * (z2))))))) - (tmN (((x1) * ((z2) * (z2))) * ((((x2) * ((z1) * (z1))) - ((x1) * ((z2) * (z2)))) * (((x2) * ((z1) * (z1))) - ((x1) * ((z2) * (z2)))))) 2)))) - (((y1) * ((z2) * ((z2) * (z2)))) * ((((x2) * ((z1) * (z1))) - ((x1) * ((z2) * (z2)))) * ((((x2) * ((z1) * (z1))) - ((x1) * ((z2) * (z2)))) * (((x2) * ((z1) * (z1))) - ((x1) * ((z2) * (z2)))))))))] (by kernel_rfl) ⟨
          fun L u => u_load u (gd0 rfl) 92 rfl 24 (.tmp 12) rfl rfl rfl Tryd.underlying24 rfl i24 (lk rfl) _ rfl,
          fun L u => u_load u (gd0 rfl) 93 rfl 24 (.tmp 15) rfl rfl rfl Tryd.underlying24 rfl i24 (lk rfl) _ rfl,
          fun L u => u_load u (gd0 rfl) 94 rfl 24 (.tmp 16) rfl rfl rfl Tryd.underlying24 rfl i24 (lk rfl) _ rfl,
          fun L u => u_call u (gd0 rfl) 95 rfl 35 #[(.tmp 93), (.tmp 94)] #[24, 24] rfl [.agg (fc (((x1) * ((z2) * (z2))) * ((((x2) * ((z1) * (z1))) - ((x1) * ((z2) * (z2)))) * (((x2) * ((z1) * (z1))) - ((x1) * ((z2) * (z2))))))).toArray, .agg (fc ((((((y2) * ((z1) * ((z1) * (z1)))) - ((y1) * ((z2) * ((z2) * (z2))))) * (((y2) * ((z1) * ((z1) * (z1)))) - ((y1) * ((z2) * ((z2) * (z2)))))) - ((((x2) * ((z1) * (z1))) - ((x1) * ((z2) * (z2)))) * ((((x2) * ((z1) * (z1))) - ((x1) * ((z2) * (z2)))) * (((x2) * ((z1) * (z1))) - ((x1) * ((z2) * (z2))))))) - (tmN (((x1) * ((z2) * (z2))) * ((((x2) * ((z1) * (z1))) - ((x1) * ((z2) * (z2)))) * (((x2) * ((z1) * (z1))) - ((x1) * ((z2) * (z2)))))) 2))).toArray] rfl (cE35 _) (.agg (fc ((((x1) * ((z2) * (z2))) * ((((x2) * ((z1) * (z1))) - ((x1) * ((z2) * (z2)))) * (((x2) * ((z1) * (z1))) - ((x1) * ((z2) * (z2)))))) - ((((((y2) * ((z1) * ((z1) * (z1)))) - ((y1) * ((z2) * ((z2) * (z2))))) * (((y2) * ((z1) * ((z1) * (z1)))) - ((y1) * ((z2) * ((z2) * (z2)))))) - ((((x2) * ((z1) * (z1))) - ((x1) * ((z2) * (z2)))) * ((((x2) * ((z1) * (z1))) - ((x1) * ((z2) * (z2)))) * (((x2) * ((z1) * (z1))) - ((x1) * ((z2) * (z2))))))) - (tmN (((x1) * ((z2) * (z2))) * ((((x2) * ((z1) * (z1))) - ((x1) * ((z2) * (z2)))) * (((x2) * ((z1) * (z1))) - ((x1) * ((z2) * (z2)))))) 2)))).toArray) (fun w hb => r_sub (hT.keep (Bs.kp_of hb)) _ _),
          fun L u => u_call u (gd0 rfl) 96 rfl 36 #[(.tmp 92), (.tmp 95)] #[24, 24] rfl [.agg (fc (((y2) * ((z1) * ((z1) * (z1)))) - ((y1) * ((z2) * ((z2) * (z2)))))).toArray, .agg (fc ((((x1) * ((z2) * (z2))) * ((((x2) * ((z1) * (z1))) - ((x1) * ((z2) * (z2)))) * (((x2) * ((z1) * (z1))) - ((x1) * ((z2) * (z2)))))) - ((((((y2) * ((z1) * ((z1) * (z1)))) - ((y1) * ((z2) * ((z2) * (z2))))) * (((y2) * ((z1) * ((z1) * (z1)))) - ((y1) * ((z2) * ((z2) * (z2)))))) - ((((x2) * ((z1) * (z1))) - ((x1) * ((z2) * (z2)))) * ((((x2) * ((z1) * (z1))) - ((x1) * ((z2) * (z2)))) * (((x2) * ((z1) * (z1))) - ((x1) * ((z2) * (z2))))))) - (tmN (((x1) * ((z2) * (z2))) * ((((x2) * ((z1) * (z1))) - ((x1) * ((z2) * (z2)))) * (((x2) * ((z1) * (z1))) - ((x1) * ((z2) * (z2)))))) 2)))).toArray] rfl (cE36 _) (.agg (fc ((((y2) * ((z1) * ((z1) * (z1)))) - ((y1) * ((z2) * ((z2) * (z2))))) * ((((x1) * ((z2) * (z2))) * ((((x2) * ((z1) * (z1))) - ((x1) * ((z2) * (z2)))) * (((x2) * ((z1) * (z1))) - ((x1) * ((z2) * (z2)))))) - ((((((y2) * ((z1) * ((z1) * (z1)))) - ((y1) * ((z2) * ((z2) * (z2))))) * (((y2) * ((z1) * ((z1) * (z1)))) - ((y1) * ((z2) * ((z2) * (z2)))))) - ((((x2) * ((z1) * (z1))) - ((x1) * ((z2) * (z2)))) * ((((x2) * ((z1) * (z1))) - ((x1) * ((z2) * (z2)))) * (((x2) * ((z1) * (z1))) - ((x1) * ((z2) * (z2))))))) - (tmN (((x1) * ((z2) * (z2))) * ((((x2) * ((z1) * (z1))) - ((x1) * ((z2) * (z2)))) * (((x2) * ((z1) * (z1))) - ((x1) * ((z2) * (z2)))))) 2))))).toArray) (fun w hb => r_mul (hT.keep (Bs.kp_of hb)) _ _),
          fun L u => u_load u (gd0 rfl) 97 rfl 24 (.tmp 9) rfl rfl rfl Tryd.underlying24 rfl i24 (lk rfl) _ rfl,
          fun L u => u_load u (gd0 rfl) 98 rfl 24 (.tmp 14) rfl rfl rfl Tryd.underlying24 rfl i24 (lk rfl) _ rfl,
          fun L u => u_call u (gd0 rfl) 99 rfl 36 #[(.tmp 97), (.tmp 98)] #[24, 24] rfl [.agg (fc ((y1) * ((z2) * ((z2) * (z2))))).toArray, .agg (fc ((((x2) * ((z1) * (z1))) - ((x1) * ((z2) * (z2)))) * ((((x2) * ((z1) * (z1))) - ((x1) * ((z2) * (z2)))) * (((x2) * ((z1) * (z1))) - ((x1) * ((z2) * (z2))))))).toArray] rfl (cE36 _) (.agg (fc (((y1) * ((z2) * ((z2) * (z2)))) * ((((x2) * ((z1) * (z1))) - ((x1) * ((z2) * (z2)))) * ((((x2) * ((z1) * (z1))) - ((x1) * ((z2) * (z2)))) * (((x2) * ((z1) * (z1))) - ((x1) * ((z2) * (z2)))))))).toArray) (fun w hb => r_mul (hT.keep (Bs.kp_of hb)) _ _),
          fun L u => u_call u (gd0 rfl) 100 rfl 35 #[(.tmp 96), (.tmp 99)] #[24, 24] rfl [.agg (fc ((((y2) * ((z1) * ((z1) * (z1)))) - ((y1) * ((z2) * ((z2) * (z2))))) * ((((x1) * ((z2) * (z2))) * ((((x2) * ((z1) * (z1))) - ((x1) * ((z2) * (z2)))) * (((x2) * ((z1) * (z1))) - ((x1) * ((z2) * (z2)))))) - ((((((y2) * ((z1) * ((z1) * (z1)))) - ((y1) * ((z2) * ((z2) * (z2))))) * (((y2) * ((z1) * ((z1) * (z1)))) - ((y1) * ((z2) * ((z2) * (z2)))))) - ((((x2) * ((z1) * (z1))) - ((x1) * ((z2) * (z2)))) * ((((x2) * ((z1) * (z1))) - ((x1) * ((z2) * (z2)))) * (((x2) * ((z1) * (z1))) - ((x1) * ((z2) * (z2))))))) - (tmN (((x1) * ((z2) * (z2))) * ((((x2) * ((z1) * (z1))) - ((x1) * ((z2) * (z2)))) * (((x2) * ((z1) * (z1))) - ((x1) * ((z2) * (z2)))))) 2))))).toArray, .agg (fc (((y1) * ((z2) * ((z2) * (z2)))) * ((((x2) * ((z1) * (z1))) - ((x1) * ((z2) * (z2)))) * ((((x2) * ((z1) * (z1))) - ((x1) * ((z2) * (z2)))) * (((x2) * ((z1) * (z1))) - ((x1) * ((z2) * (z2)))))))).toArray] rfl (cE35 _) (.agg (fc (((((y2) * ((z1) * ((z1) * (z1)))) - ((y1) * ((z2) * ((z2) * (z2))))) * ((((x1) * ((z2) * (z2))) * ((((x2) * ((z1) * (z1))) - ((x1) * ((z2) * (z2)))) * (((x2) * ((z1) * (z1))) - ((x1) * ((z2) * (z2)))))) - ((((((y2) * ((z1) * ((z1) * (z1)))) - ((y1) * ((z2) * ((z2) * (z2))))) * (((y2) * ((z1) * ((z1) * (z1)))) - ((y1) * ((z2) * ((z2) * (z2)))))) - ((((x2) * ((z1) * (z1))) - ((x1) * ((z2) * (z2)))) * ((((x2) * ((z1) * (z1))) - ((x1) * ((z2) * (z2)))) * (((x2) * ((z1) * (z1))) - ((x1) * ((z2) * (z2))))))) - (tmN (((x1) * ((z2) * (z2))) * ((((x2) * ((z1) * (z1))) - ((x1) * ((z2) * (z2)))) * (((x2) * ((z1) * (z1))) - ((x1) * ((z2) * (z2)))))) 2)))) - (((y1) * ((z2) * ((z2) * (z2)))) * ((((x2) * ((z1) * (z1))) - ((x1) * ((z2) * (z2)))) * ((((x2) * ((z1) * (z1))) - ((x1) * ((z2) * (z2)))) * (((x2) * ((z1) * (z1))) - ((x1) * ((z2) * (z2))))))))).toArray) (fun w hb => r_sub (hT.keep (Bs.kp_of hb)) _ _),
          fun L u => u_alloc u (gd0 rfl) 24 rfl 17 rfl rfl z24 _ rfl,
          fun L u => u_store u (gd0 rfl) 24 (.tmp 17) (.tmp 100) rfl rfl rfl (vs := fc (((((y2) * ((z1) * ((z1) * (z1)))) - ((y1) * ((z2) * ((z2) * (z2))))) * ((((x1) * ((z2) * (z2))) * ((((x2) * ((z1) * (z1))) - ((x1) * ((z2) * (z2)))) * (((x2) * ((z1) * (z1))) - ((x1) * ((z2) * (z2)))))) - ((((((y2) * ((z1) * ((z1) * (z1)))) - ((y1) * ((z2) * ((z2) * (z2))))) * (((y2) * ((z1) * ((z1) * (z1)))) - ((y1) * ((z2) * ((z2) * (z2)))))) - ((((x2) * ((z1) * (z1))) - ((x1) * ((z2) * (z2)))) * ((((x2) * ((z1) * (z1))) - ((x1) * ((z2) * (z2)))) * (((x2) * ((z1) * (z1))) - ((x1) * ((z2) * (z2))))))) - (tmN (((x1) * ((z2) * (z2))) * ((((x2) * ((z1) * (z1))) - ((x1) * ((z2) * (z2)))) * (((x2) * ((z1) * (z1))) - ((x1) * ((z2) * (z2)))))) 2)))) - (((y1) * ((z2) * ((z2) * (z2)))) * ((((x2) * ((z1) * (z1))) - ((x1) * ((z2) * (z2)))) * ((((x2) * ((z1) * (z1))) - ((x1) * ((z2) * (z2)))) * (((x2) * ((z1) * (z1))) - ((x1) * ((z2) * (z2))))))))) rfl rfl i24 (lk rfl) rfl _ rfl,
          trivial⟩ [(2, .ptr 2 0), (3, .ptr 3 0), (4, .ptr 4 0), (11, .ptr 11 0), (16, .ptr 16 0), (17, .ptr 17 0)] [(2, fc (x1) ++ fc (y1) ++ fc (z1)), (3, fc (x2) ++ fc (y2) ++ fc (z2)), (4, nz ++ nz ++ nz), (11, fc (((x2) * ((z1) * (z1))) - ((x1) * ((z2) * (z2))))), (16, fc ((((((y2) * ((z1) * ((z1) * (z1)))) - ((y1) * ((z2) * ((z2) * (z2))))) * (((y2) * ((z1) * ((z1) * (z1)))) - ((y1) * ((z2) * ((z2) * (z2)))))) - ((((x2) * ((z1) * (z1))) - ((x1) * ((z2) * (z2)))) * ((((x2) * ((z1) * (z1))) - ((x1) * ((z2) * (z2)))) * (((x2) * ((z1) * (z1))) - ((x1) * ((z2) * (z2))))))) - (tmN (((x1) * ((z2) * (z2))) * ((((x2) * ((z1) * (z1))) - ((x1) * ((z2) * (z2)))) * (((x2) * ((z1) * (z1))) - ((x1) * ((z2) * (z2)))))) 2))), (17, fc (((((y2) * ((z1) * ((z1) * (z1)))) - ((y1) * ((z2) * ((z2) * (z2))))) * ((((x1) * ((z2) * (z2))) * ((((x2) * ((z1) * (z1))) - ((x1) * ((z2) * (z2)))) * (((x2) * ((z1) * (z1))) - ((x1) * ((z2) * (z2)))))) - ((((((y2) * ((z1) * ((z1) * (z1)))) - ((y1) * ((z2) * ((z2) * (z2))))) * (((y2) * ((z1) * ((z1) * (z1)))) - ((y1) * ((z2) * ((z2) * (z2)))))) - ((((x2) * ((z1) * (z1))) - ((x1) * ((z2) * (z2)))) * ((((x2) * ((z1) * (z1))) - ((x1) * ((z2) * (z2)))) * (((x2) * ((z1) * (z1))) - ((x1) * ((z2) * (z2))))))) - (tmN (((x1) * ((z2) * (z2))) * ((((x2) * ((z1) * (z1))) - ((x1) * ((z2) * (z2)))) * (((x2) * ((z1) * (z1))) - ((x1) * ((z2) * (z2)))))) 2)))) - (((y1) * ((z2) * ((z2) * (z2)))) * ((((x2) * ((z1) * (z1))) - ((x1) * ((z2) * (z2)))) * ((((x2) * ((z1) * (z1))) - ((x1) * ((z2) * (z2)))) * (((x2) * ((z1) * (z1))) - ((x1) * ((z2) * (z2)))))))))] ⟨rfl, rfl, rfl, rfl, rfl, rfl, trivial⟩ ⟨rfl, rfl, rfl, rfl, rfl, rfl, trivial⟩ rfl (fun a w h => ?_)
        refine go_region h hm [eS 101 (.val (.agg (fc ((((((y2) * ((z1) * ((z1) * (z1)))) - ((y1) * ((z2) * ((z2) * (z2))))) * (((y2) * ((z1) * ((z1) * (z1)))) - ((y1) * ((z2) * ((z2) * (z2)))))) - ((((x2) * ((z1) * (z1))) - ((x1) * ((z2) * (z2)))) * ((((x2) * ((z1) * (z1))) - ((x1) * ((z2) * (z2)))) * (((x2) * ((z1) * (z1))) - ((x1) * ((z2) * (z2))))))) - (tmN (((x1) * ((z2) * (z2))) * ((((x2) * ((z1) * (z1))) - ((x1) * ((z2) * (z2)))) * (((x2) * ((z1) * (z1))) - ((x1) * ((z2) * (z2)))))) 2))).toArray)), eS 102 (.val (.agg (fc (((((y2) * ((z1) * ((z1) * (z1)))) - ((y1) * ((z2) * ((z2) * (z2))))) * ((((x1) * ((z2) * (z2))) * ((((x2) * ((z1) * (z1))) - ((x1) * ((z2) * (z2)))) * (((x2) * ((z1) * (z1))) - ((x1) * ((z2) * (z2)))))) - ((((((y2) * ((z1) * ((z1) * (z1)))) - ((y1) * ((z2) * ((z2) * (z2))))) * (((y2) * ((z1) * ((z1) * (z1)))) - ((y1) * ((z2) * ((z2) * (z2)))))) - ((((x2) * ((z1) * (z1))) - ((x1) * ((z2) * (z2)))) * ((((x2) * ((z1) * (z1))) - ((x1) * ((z2) * (z2)))) * (((x2) * ((z1) * (z1))) - ((x1) * ((z2) * (z2))))))) - (tmN (((x1) * ((z2) * (z2))) * ((((x2) * ((z1) * (z1))) - ((x1) * ((z2) * (z2)))) * (((x2) * ((z1) * (z1))) - ((x1) * ((z2) * (z2)))))) 2)))) - (((y1) * ((z2) * ((z2) * (z2)))) * ((((x2) * ((z1) * (z1))) - ((x1) * ((z2) * (z2)))) * ((((x2) * ((z1) * (z1))) - ((x1) * ((z2) * (z2)))) * (((x2) * ((z1) * (z1))) - ((x1) * ((z2) * (z2))))))))).toArray)), eS 103 (.val (.agg (fc (((x2) * ((z1) * (z1))) - ((x1) * ((z2) * (z2))))).toArray)), eS 104 (.ptr 2 8), eS 105 (.val (.agg (fc (z1)).toArray)), eS 106 (.ptr 3 8), eS 107 (.val (.agg (fc (z2)).toArray)), eS 108 (.val (.agg (fc ((z1) * (z2))).toArray)), eS 109 (.val (.agg (fc ((((x2) * ((z1) * (z1))) - ((x1) * ((z2) * (z2)))) * ((z1) * (z2)))).toArray)), eS 110 (.val (.agg (fc ((((((y2) * ((z1) * ((z1) * (z1)))) - ((y1) * ((z2) * ((z2) * (z2))))) * (((y2) * ((z1) * ((z1) * (z1)))) - ((y1) * ((z2) * ((z2) * (z2)))))) - ((((x2) * ((z1) * (z1))) - ((x1) * ((z2) * (z2)))) * ((((x2) * ((z1) * (z1))) - ((x1) * ((z2) * (z2)))) * (((x2) * ((z1) * (z1))) - ((x1) * ((z2) * (z2))))))) - (tmN (((x1) * ((z2) * (z2))) * ((((x2) * ((z1) * (z1))) - ((x1) * ((z2) * (z2)))) * (((x2) * ((z1) * (z1))) - ((x1) * ((z2) * (z2)))))) 2)) ++ fc (((((y2) * ((z1) * ((z1) * (z1)))) - ((y1) * ((z2) * ((z2) * (z2))))) * ((((x1) * ((z2) * (z2))) * ((((x2) * ((z1) * (z1))) - ((x1) * ((z2) * (z2)))) * (((x2) * ((z1) * (z1))) - ((x1) * ((z2) * (z2)))))) - ((((((y2) * ((z1) * ((z1) * (z1)))) - ((y1) * ((z2) * ((z2) * (z2))))) * (((y2) * ((z1) * ((z1) * (z1)))) - ((y1) * ((z2) * ((z2) * (z2)))))) - ((((x2) * ((z1) * (z1))) - ((x1) * ((z2) * (z2)))) * ((((x2) * ((z1) * (z1))) - ((x1) * ((z2) * (z2)))) * (((x2) * ((z1) * (z1))) - ((x1) * ((z2) * (z2))))))) - (tmN (((x1) * ((z2) * (z2))) * ((((x2) * ((z1) * (z1))) - ((x1) * ((z2) * (z2)))) * (((x2) * ((z1) * (z1))) - ((x1) * ((z2) * (z2)))))) 2)))) - (((y1) * ((z2) * ((z2) * (z2)))) * ((((x2) * ((z1) * (z1))) - ((x1) * ((z2) * (z2)))) * ((((x2) * ((z1) * (z1))) - ((x1) * ((z2) * (z2)))) * (((x2) * ((z1) * (z1))) - ((x1) * ((z2) * (z2)))))))) ++ fc ((((x2) * ((z1) * (z1))) - ((x1) * ((z2) * (z2)))) * ((z1) * (z2)))).toArray)), eM 4 (fc ((((((y2) * ((z1) * ((z1) * (z1)))) - ((y1) * ((z2) * ((z2) * (z2))))) * (((y2) * ((z1) * ((z1) * (z1)))) - ((y1) * ((z2) * ((z2) * (z2)))))) - ((((x2) * ((z1) * (z1))) - ((x1) * ((z2) * (z2)))) * ((((x2) * ((z1) * (z1))) - ((x1) * ((z2) * (z2)))) * (((x2) * ((z1) * (z1))) - ((x1) * ((z2) * (z2))))))) - (tmN (((x1) * ((z2) * (z2))) * ((((x2) * ((z1) * (z1))) - ((x1) * ((z2) * (z2)))) * (((x2) * ((z1) * (z1))) - ((x1) * ((z2) * (z2)))))) 2)) ++ fc (((((y2) * ((z1) * ((z1) * (z1)))) - ((y1) * ((z2) * ((z2) * (z2))))) * ((((x1) * ((z2) * (z2))) * ((((x2) * ((z1) * (z1))) - ((x1) * ((z2) * (z2)))) * (((x2) * ((z1) * (z1))) - ((x1) * ((z2) * (z2)))))) - ((((((y2) * ((z1) * ((z1) * (z1)))) - ((y1) * ((z2) * ((z2) * (z2))))) * (((y2) * ((z1) * ((z1) * (z1)))) - ((y1) * ((z2) * ((z2) * (z2)))))) - ((((x2) * ((z1) * (z1))) - ((x1) * ((z2) * (z2)))) * ((((x2) * ((z1) * (z1))) - ((x1) * ((z2) * (z2)))) * (((x2) * ((z1) * (z1))) - ((x1) * ((z2) * (z2))))))) - (tmN (((x1) * ((z2) * (z2))) * ((((x2) * ((z1) * (z1))) - ((x1) * ((z2) * (z2)))) * (((x2) * ((z1) * (z1))) - ((x1) * ((z2) * (z2)))))) 2)))) - (((y1) * ((z2) * ((z2) * (z2)))) * ((((x2) * ((z1) * (z1))) - ((x1) * ((z2) * (z2)))) * ((((x2) * ((z1) * (z1))) - ((x1) * ((z2) * (z2)))) * (((x2) * ((z1) * (z1))) - ((x1) * ((z2) * (z2)))))))) ++ fc ((((x2) * ((z1) * (z1))) - ((x1) * ((z2) * (z2)))) * ((z1) * (z2))))] (by kernel_rfl) ⟨
          fun L u => u_load u (gd0 rfl) 101 rfl 24 (.tmp 16) rfl rfl rfl Tryd.underlying24 rfl i24 (lk rfl) _ rfl,
          fun L u => u_load u (gd0 rfl) 102 rfl 24 (.tmp 17) rfl rfl rfl Tryd.underlying24 rfl i24 (lk rfl) _ rfl,
          fun L u => u_load u (gd0 rfl) 103 rfl 24 (.tmp 11) rfl rfl rfl Tryd.underlying24 rfl i24 (lk rfl) _ rfl,
          fun L u => u_field u (gd0 rfl) 104 rfl 60 (.tmp 2) 2 rfl rfl rfl Tryd.underlying60 rfl i24 _ rfl,
          fun L u => u_load u (gd0 rfl) 105 rfl 24 (.tmp 104) rfl rfl rfl Tryd.underlying24 rfl i24 (lk rfl) _ rfl,
          fun L u => u_field u (gd0 rfl) 106 rfl 60 (.tmp 3) 2 rfl rfl rfl Tryd.underlying60 rfl i24 _ rfl,
          fun L u => u_load u (gd0 rfl) 107 rfl 24 (.tmp 106) rfl rfl rfl Tryd.underlying24 rfl i24 (lk rfl) _ rfl,
          fun L u => u_call u (gd0 rfl) 108 rfl 36 #[(.tmp 105), (.tmp 107)] #[24, 24] rfl [.agg (fc (z1)).toArray, .agg (fc (z2)).toArray] rfl (cE36 _) (.agg (fc ((z1) * (z2))).toArray) (fun w hb => r_mul (hT.keep (Bs.kp_of hb)) _ _),
          fun L u => u_call u (gd0 rfl) 109 rfl 36 #[(.tmp 103), (.tmp 108)] #[24, 24] rfl [.agg (fc (((x2) * ((z1) * (z1))) - ((x1) * ((z2) * (z2))))).toArray, .agg (fc ((z1) * (z2))).toArray] rfl (cE36 _) (.agg (fc ((((x2) * ((z1) * (z1))) - ((x1) * ((z2) * (z2)))) * ((z1) * (z2)))).toArray) (fun w hb => r_mul (hT.keep (Bs.kp_of hb)) _ _),
          fun L u => u_build u (gd0 rfl) 110 rfl 60 #[(0, (.tmp 101)), (1, (.tmp 102)), (2, (.tmp 109))] rfl [(0, .agg (fc ((((((y2) * ((z1) * ((z1) * (z1)))) - ((y1) * ((z2) * ((z2) * (z2))))) * (((y2) * ((z1) * ((z1) * (z1)))) - ((y1) * ((z2) * ((z2) * (z2)))))) - ((((x2) * ((z1) * (z1))) - ((x1) * ((z2) * (z2)))) * ((((x2) * ((z1) * (z1))) - ((x1) * ((z2) * (z2)))) * (((x2) * ((z1) * (z1))) - ((x1) * ((z2) * (z2))))))) - (tmN (((x1) * ((z2) * (z2))) * ((((x2) * ((z1) * (z1))) - ((x1) * ((z2) * (z2)))) * (((x2) * ((z1) * (z1))) - ((x1) * ((z2) * (z2)))))) 2))).toArray), (1, .agg (fc (((((y2) * ((z1) * ((z1) * (z1)))) - ((y1) * ((z2) * ((z2) * (z2))))) * ((((x1) * ((z2) * (z2))) * ((((x2) * ((z1) * (z1))) - ((x1) * ((z2) * (z2)))) * (((x2) * ((z1) * (z1))) - ((x1) * ((z2) * (z2)))))) - ((((((y2) * ((z1) * ((z1) * (z1)))) - ((y1) * ((z2) * ((z2) * (z2))))) * (((y2) * ((z1) * ((z1) * (z1)))) - ((y1) * ((z2) * ((z2) * (z2)))))) - ((((x2) * ((z1) * (z1))) - ((x1) * ((z2) * (z2)))) * ((((x2) * ((z1) * (z1))) - ((x1) * ((z2) * (z2)))) * (((x2) * ((z1) * (z1))) - ((x1) * ((z2) * (z2))))))) - (tmN (((x1) * ((z2) * (z2))) * ((((x2) * ((z1) * (z1))) - ((x1) * ((z2) * (z2)))) * (((x2) * ((z1) * (z1))) - ((x1) * ((z2) * (z2)))))) 2)))) - (((y1) * ((z2) * ((z2) * (z2)))) * ((((x2) * ((z1) * (z1))) - ((x1) * ((z2) * (z2)))) * ((((x2) * ((z1) * (z1))) - ((x1) * ((z2) * (z2)))) * (((x2) * ((z1) * (z1))) - ((x1) * ((z2) * (z2))))))))).toArray), (2, .agg (fc ((((x2) * ((z1) * (z1))) - ((x1) * ((z2) * (z2)))) * ((z1) * (z2)))).toArray)] rfl (fc ((((((y2) * ((z1) * ((z1) * (z1)))) - ((y1) * ((z2) * ((z2) * (z2))))) * (((y2) * ((z1) * ((z1) * (z1)))) - ((y1) * ((z2) * ((z2) * (z2)))))) - ((((x2) * ((z1) * (z1))) - ((x1) * ((z2) * (z2)))) * ((((x2) * ((z1) * (z1))) - ((x1) * ((z2) * (z2)))) * (((x2) * ((z1) * (z1))) - ((x1) * ((z2) * (z2))))))) - (tmN (((x1) * ((z2) * (z2))) * ((((x2) * ((z1) * (z1))) - ((x1) * ((z2) * (z2)))) * (((x2) * ((z1) * (z1))) - ((x1) * ((z2) * (z2)))))) 2)) ++ fc (((((y2) * ((z1) * ((z1) * (z1)))) - ((y1) * ((z2) * ((z2) * (z2))))) * ((((x1) * ((z2) * (z2))) * ((((x2) * ((z1) * (z1))) - ((x1) * ((z2) * (z2)))) * (((x2) * ((z1) * (z1))) - ((x1) * ((z2) * (z2)))))) - ((((((y2) * ((z1) * ((z1) * (z1)))) - ((y1) * ((z2) * ((z2) * (z2))))) * (((y2) * ((z1) * ((z1) * (z1)))) - ((y1) * ((z2) * ((z2) * (z2)))))) - ((((x2) * ((z1) * (z1))) - ((x1) * ((z2) * (z2)))) * ((((x2) * ((z1) * (z1))) - ((x1) * ((z2) * (z2)))) * (((x2) * ((z1) * (z1))) - ((x1) * ((z2) * (z2))))))) - (tmN (((x1) * ((z2) * (z2))) * ((((x2) * ((z1) * (z1))) - ((x1) * ((z2) * (z2)))) * (((x2) * ((z1) * (z1))) - ((x1) * ((z2) * (z2)))))) 2)))) - (((y1) * ((z2) * ((z2) * (z2)))) * ((((x2) * ((z1) * (z1))) - ((x1) * ((z2) * (z2)))) * ((((x2) * ((z1) * (z1))) - ((x1) * ((z2) * (z2)))) * (((x2) * ((z1) * (z1))) - ((x1) * ((z2) * (z2)))))))) ++ fc ((((x2) * ((z1) * (z1))) - ((x1) * ((z2) * (z2)))) * ((z1) * (z2)))) (bJ _ _ _),
          fun L u => u_store u (gd0 rfl) 60 (.tmp 4) (.tmp 110) rfl rfl rfl (vs := fc ((((((y2) * ((z1) * ((z1) * (z1)))) - ((y1) * ((z2) * ((z2) * (z2))))) * (((y2) * ((z1) * ((z1) * (z1)))) - ((y1) * ((z2) * ((z2) * (z2)))))) - ((((x2) * ((z1) * (z1))) - ((x1) * ((z2) * (z2)))) * ((((x2) * ((z1) * (z1))) - ((x1) * ((z2) * (z2)))) * (((x2) * ((z1) * (z1))) - ((x1) * ((z2) * (z2))))))) - (tmN (((x1) * ((z2) * (z2))) * ((((x2) * ((z1) * (z1))) - ((x1) * ((z2) * (z2)))) * (((x2) * ((z1) * (z1))) - ((x1) * ((z2) * (z2)))))) 2)) ++ fc (((((y2) * ((z1) * ((z1) * (z1)))) - ((y1) * ((z2) * ((z2) * (z2))))) * ((((x1) * ((z2) * (z2))) * ((((x2) * ((z1) * (z1))) - ((x1) * ((z2) * (z2)))) * (((x2) * ((z1) * (z1))) - ((x1) * ((z2) * (z2)))))) - ((((((y2) * ((z1) * ((z1) * (z1)))) - ((y1) * ((z2) * ((z2) * (z2))))) * (((y2) * ((z1) * ((z1) * (z1)))) - ((y1) * ((z2) * ((z2) * (z2)))))) - ((((x2) * ((z1) * (z1))) - ((x1) * ((z2) * (z2)))) * ((((x2) * ((z1) * (z1))) - ((x1) * ((z2) * (z2)))) * (((x2) * ((z1) * (z1))) - ((x1) * ((z2) * (z2))))))) - (tmN (((x1) * ((z2) * (z2))) * ((((x2) * ((z1) * (z1))) - ((x1) * ((z2) * (z2)))) * (((x2) * ((z1) * (z1))) - ((x1) * ((z2) * (z2)))))) 2)))) - (((y1) * ((z2) * ((z2) * (z2)))) * ((((x2) * ((z1) * (z1))) - ((x1) * ((z2) * (z2)))) * ((((x2) * ((z1) * (z1))) - ((x1) * ((z2) * (z2)))) * (((x2) * ((z1) * (z1))) - ((x1) * ((z2) * (z2)))))))) ++ fc ((((x2) * ((z1) * (z1))) - ((x1) * ((z2) * (z2)))) * ((z1) * (z2)))) rfl rfl i60 (lk rfl) rfl _ rfl,
          trivial⟩ [(4, .ptr 4 0)] [(4, fc ((((((y2) * ((z1) * ((z1) * (z1)))) - ((y1) * ((z2) * ((z2) * (z2))))) * (((y2) * ((z1) * ((z1) * (z1)))) - ((y1) * ((z2) * ((z2) * (z2)))))) - ((((x2) * ((z1) * (z1))) - ((x1) * ((z2) * (z2)))) * ((((x2) * ((z1) * (z1))) - ((x1) * ((z2) * (z2)))) * (((x2) * ((z1) * (z1))) - ((x1) * ((z2) * (z2))))))) - (tmN (((x1) * ((z2) * (z2))) * ((((x2) * ((z1) * (z1))) - ((x1) * ((z2) * (z2)))) * (((x2) * ((z1) * (z1))) - ((x1) * ((z2) * (z2)))))) 2)) ++ fc (((((y2) * ((z1) * ((z1) * (z1)))) - ((y1) * ((z2) * ((z2) * (z2))))) * ((((x1) * ((z2) * (z2))) * ((((x2) * ((z1) * (z1))) - ((x1) * ((z2) * (z2)))) * (((x2) * ((z1) * (z1))) - ((x1) * ((z2) * (z2)))))) - ((((((y2) * ((z1) * ((z1) * (z1)))) - ((y1) * ((z2) * ((z2) * (z2))))) * (((y2) * ((z1) * ((z1) * (z1)))) - ((y1) * ((z2) * ((z2) * (z2)))))) - ((((x2) * ((z1) * (z1))) - ((x1) * ((z2) * (z2)))) * ((((x2) * ((z1) * (z1))) - ((x1) * ((z2) * (z2)))) * (((x2) * ((z1) * (z1))) - ((x1) * ((z2) * (z2))))))) - (tmN (((x1) * ((z2) * (z2))) * ((((x2) * ((z1) * (z1))) - ((x1) * ((z2) * (z2)))) * (((x2) * ((z1) * (z1))) - ((x1) * ((z2) * (z2)))))) 2)))) - (((y1) * ((z2) * ((z2) * (z2)))) * ((((x2) * ((z1) * (z1))) - ((x1) * ((z2) * (z2)))) * ((((x2) * ((z1) * (z1))) - ((x1) * ((z2) * (z2)))) * (((x2) * ((z1) * (z1))) - ((x1) * ((z2) * (z2)))))))) ++ fc ((((x2) * ((z1) * (z1))) - ((x1) * ((z2) * (z2)))) * ((z1) * (z2))))] ⟨rfl, trivial⟩ ⟨rfl, trivial⟩ rfl (fun a w h => ?_)
        refine wp_ret ?_
        refine ret_row h 4 60 rfl (lk rfl) 4 rfl (fc ((((((y2) * ((z1) * ((z1) * (z1)))) - ((y1) * ((z2) * ((z2) * (z2))))) * (((y2) * ((z1) * ((z1) * (z1)))) - ((y1) * ((z2) * ((z2) * (z2)))))) - ((((x2) * ((z1) * (z1))) - ((x1) * ((z2) * (z2)))) * ((((x2) * ((z1) * (z1))) - ((x1) * ((z2) * (z2)))) * (((x2) * ((z1) * (z1))) - ((x1) * ((z2) * (z2))))))) - (tmN (((x1) * ((z2) * (z2))) * ((((x2) * ((z1) * (z1))) - ((x1) * ((z2) * (z2)))) * (((x2) * ((z1) * (z1))) - ((x1) * ((z2) * (z2)))))) 2)) ++ fc (((((y2) * ((z1) * ((z1) * (z1)))) - ((y1) * ((z2) * ((z2) * (z2))))) * ((((x1) * ((z2) * (z2))) * ((((x2) * ((z1) * (z1))) - ((x1) * ((z2) * (z2)))) * (((x2) * ((z1) * (z1))) - ((x1) * ((z2) * (z2)))))) - ((((((y2) * ((z1) * ((z1) * (z1)))) - ((y1) * ((z2) * ((z2) * (z2))))) * (((y2) * ((z1) * ((z1) * (z1)))) - ((y1) * ((z2) * ((z2) * (z2)))))) - ((((x2) * ((z1) * (z1))) - ((x1) * ((z2) * (z2)))) * ((((x2) * ((z1) * (z1))) - ((x1) * ((z2) * (z2)))) * (((x2) * ((z1) * (z1))) - ((x1) * ((z2) * (z2))))))) - (tmN (((x1) * ((z2) * (z2))) * ((((x2) * ((z1) * (z1))) - ((x1) * ((z2) * (z2)))) * (((x2) * ((z1) * (z1))) - ((x1) * ((z2) * (z2)))))) 2)))) - (((y1) * ((z2) * ((z2) * (z2)))) * ((((x2) * ((z1) * (z1))) - ((x1) * ((z2) * (z2)))) * ((((x2) * ((z1) * (z1))) - ((x1) * ((z2) * (z2)))) * (((x2) * ((z1) * (z1))) - ((x1) * ((z2) * (z2)))))))) ++ fc ((((x2) * ((z1) * (z1))) - ((x1) * ((z2) * (z2)))) * ((z1) * (z2)))) rfl _ Tryd.underlying60 rfl i60 ?_
        exact ⟨by have e : jadd ⟨x1, y1, z1⟩ ⟨x2, y2, z2⟩ = _ := (if_neg h0).trans ((if_neg h1).trans (if_neg h2)); rw [e]; rfl, h.grows⟩
/-- A point as it lies in memory. -/
def px (a : Wp m0) : Fin m0 := match a with
  | none => 0
  | some q => q.1
def py (a : Wp m0) : Fin m0 := match a with
  | none => 0
  | some q => q.2
def pc (a : Wp m0) : List Value := fc (px a) ++ fc (py a) ++ [Value.bool a.isNone]
set_option maxRecDepth 100000 in
set_option maxHeartbeats 4000000 in
theorem r_drop {w : World} (hT : Tab w) (x y z : Fin m0) : Calls Tryd.prog 42 [.agg (fc (x) ++ fc (y) ++ fc (z)).toArray].toArray w fun e w' => e = .returned (.agg (pc (jdrop ⟨x, y, z⟩)).toArray) ∧ Below w.heap.size w w' := by
  by_cases h0 : z = 0
  · skip
    refine enter (args := [.agg (fc (x) ++ fc (y) ++ fc (z)).toArray]) Tryd.func42 rfl 27 rfl (lk rfl) (fun a h => ?_)
    refine go_region h hm [eN 1 (fc (x) ++ fc (y) ++ fc (z)), eN 2 (nz ++ nz ++ [Value.bool false])] (by kernel_rfl) ⟨
      fun L u => u_box u (gd0 rfl) 60 (.tmp 0) rfl 1 rfl rfl rfl _ rfl,
      fun L u => u_alloc u (gd0 rfl) 26 rfl 2 rfl rfl z26 _ rfl,
      trivial⟩ [(1, .ptr 1 0), (2, .ptr 2 0)] [(1, fc (x) ++ fc (y) ++ fc (z)), (2, nz ++ nz ++ [Value.bool false])] ⟨rfl, rfl, trivial⟩ ⟨rfl, rfl, trivial⟩ rfl (fun a w h => ?_)
    refine wp_seq ?_
    refine go_region h hm [eS 5 (.ptr 1 8), eS 6 (.val (.agg (fc (z)).toArray)), eS 7 (.val (.agg (nz).toArray)), eS 8 (.val (Value.bool true))] (by kernel_rfl) ⟨
      fun L u => u_field u (gd0 rfl) 5 rfl 60 (.tmp 1) 2 rfl rfl rfl Tryd.underlying60 rfl i24 _ rfl,
      fun L u => u_load u (gd0 rfl) 6 rfl 24 (.tmp 5) rfl rfl rfl Tryd.underlying24 rfl i24 (lk rfl) _ rfl,
      fun L u => u_build u (gd0 rfl) 7 rfl 24 #[] rfl [] rfl (nz) (bN0),
      fun L u => u_eql u (gd0 rfl) 8 rfl 24 24 (.tmp 6) (.tmp 7) rfl rfl rfl Tryd.eqGuardType24 (true) (eqz_t h0),
      trivial⟩ [(1, .ptr 1 0), (2, .ptr 2 0), (8, .val (Value.bool true))] [(1, fc (x) ++ fc (y) ++ fc (z)), (2, nz ++ nz ++ [Value.bool false])] ⟨rfl, rfl, rfl, trivial⟩ ⟨rfl, rfl, trivial⟩ rfl (fun a w h => ?_)
    refine go_cond h true rfl (fun ht => ?_) (fun hf => ?_)
    case refine_2 => cases hf
    refine go_region h hm [eS 9 (.val (.agg (nz ++ nz ++ [Value.bool true]).toArray)), eM 2 (nz ++ nz ++ [Value.bool true])] (by kernel_rfl) ⟨
      fun L u => u_call u (gd0 rfl) 9 rfl 32 #[] #[] rfl [] rfl (cE32 _) (.agg (nz ++ nz ++ [Value.bool true]).toArray) (fun w hb => r_None),
      fun L u => u_store u (gd0 rfl) 26 (.tmp 2) (.tmp 9) rfl rfl rfl (vs := nz ++ nz ++ [Value.bool true]) rfl rfl i26 (lk rfl) rfl _ rfl,
      trivial⟩ [(2, .ptr 2 0)] [(2, nz ++ nz ++ [Value.bool true])] ⟨rfl, trivial⟩ ⟨rfl, trivial⟩ rfl (fun a w h => ?_)
    refine wp_ret ?_
    refine then_ret ?_
    refine ret_row h 2 26 rfl (lk rfl) 2 rfl (nz ++ nz ++ [Value.bool true]) rfl _ Tryd.underlying26 rfl i26 ?_
    exact ⟨by have e : jdrop ⟨x, y, z⟩ = _ := if_pos h0; rw [e]; rw [nz_fc]; rfl, h.grows⟩
  · skip
    refine enter (args := [.agg (fc (x) ++ fc (y) ++ fc (z)).toArray]) Tryd.func42 rfl 27 rfl (lk rfl) (fun a h => ?_)
    refine go_region h hm [eN 1 (fc (x) ++ fc (y) ++ fc (z)), eN 2 (nz ++ nz ++ [Value.bool false])] (by kernel_rfl) ⟨
      fun L u => u_box u (gd0 rfl) 60 (.tmp 0) rfl 1 rfl rfl rfl _ rfl,
      fun L u => u_alloc u (gd0 rfl) 26 rfl 2 rfl rfl z26 _ rfl,
      trivial⟩ [(1, .ptr 1 0), (2, .ptr 2 0)] [(1, fc (x) ++ fc (y) ++ fc (z)), (2, nz ++ nz ++ [Value.bool false])] ⟨rfl, rfl, trivial⟩ ⟨rfl, rfl, trivial⟩ rfl (fun a w h => ?_)
    refine wp_seq ?_
    refine go_region h hm [eS 5 (.ptr 1 8), eS 6 (.val (.agg (fc (z)).toArray)), eS 7 (.val (.agg (nz).toArray)), eS 8 (.val (Value.bool false))] (by kernel_rfl) ⟨
      fun L u => u_field u (gd0 rfl) 5 rfl 60 (.tmp 1) 2 rfl rfl rfl Tryd.underlying60 rfl i24 _ rfl,
      fun L u => u_load u (gd0 rfl) 6 rfl 24 (.tmp 5) rfl rfl rfl Tryd.underlying24 rfl i24 (lk rfl) _ rfl,
      fun L u => u_build u (gd0 rfl) 7 rfl 24 #[] rfl [] rfl (nz) (bN0),
      fun L u => u_eql u (gd0 rfl) 8 rfl 24 24 (.tmp 6) (.tmp 7) rfl rfl rfl Tryd.eqGuardType24 (false) (eqz_f h0),
      trivial⟩ [(1, .ptr 1 0), (2, .ptr 2 0), (8, .val (Value.bool false))] [(1, fc (x) ++ fc (y) ++ fc (z)), (2, nz ++ nz ++ [Value.bool false])] ⟨rfl, rfl, rfl, trivial⟩ ⟨rfl, rfl, trivial⟩ rfl (fun a w h => ?_)
    refine go_cond h false rfl (fun ht => ?_) (fun hf => ?_)
    case refine_1 => cases ht
    refine wp_skip ?_
    refine then_norm ?_
    refine go_region h hm [eS 10 (.ptr 1 8), eS 11 (.val (.agg (fc (z)).toArray)), eS 12 (.val (.agg (fc (fiv (z))).toArray)), eN 3 (nz), eM 3 (fc (fiv (z)))] (by kernel_rfl) ⟨
      fun L u => u_field u (gd0 rfl) 10 rfl 60 (.tmp 1) 2 rfl rfl rfl Tryd.underlying60 rfl i24 _ rfl,
      fun L u => u_load u (gd0 rfl) 11 rfl 24 (.tmp 10) rfl rfl rfl Tryd.underlying24 rfl i24 (lk rfl) _ rfl,
      fun L u => u_call u (gd0 rfl) 12 rfl 62 #[(.const (.int .i64 0)), (.tmp 11)] #[3, 24] rfl [(Value.int IntKind.i64 0), .agg (fc (z)).toArray] rfl (cE62 _) (.agg (fc (fiv (z))).toArray) (fun w hb => c_inv (hT.keep (Bs.kp_of hb)) _),
      fun L u => u_alloc u (gd0 rfl) 24 rfl 3 rfl rfl z24 _ rfl,
      fun L u => u_store u (gd0 rfl) 24 (.tmp 3) (.tmp 12) rfl rfl rfl (vs := fc (fiv (z))) rfl rfl i24 (lk rfl) rfl _ rfl,
      trivial⟩ [(1, .ptr 1 0), (2, .ptr 2 0), (3, .ptr 3 0)] [(1, fc (x) ++ fc (y) ++ fc (z)), (2, nz ++ nz ++ [Value.bool false]), (3, fc (fiv (z)))] ⟨rfl, rfl, rfl, trivial⟩ ⟨rfl, rfl, rfl, trivial⟩ rfl (fun a w h => ?_)
    refine go_region h hm [eS 13 (.val (.agg (fc (fiv (z))).toArray)), eS 14 (.val (.agg (fc (fiv (z))).toArray)), eS 15 (.val (.agg (fc ((fiv (z)) * (fiv (z)))).toArray)), eN 4 (nz), eM 4 (fc ((fiv (z)) * (fiv (z))))] (by kernel_rfl) ⟨
      fun L u => u_load u (gd0 rfl) 13 rfl 24 (.tmp 3) rfl rfl rfl Tryd.underlying24 rfl i24 (lk rfl) _ rfl,
      fun L u => u_load u (gd0 rfl) 14 rfl 24 (.tmp 3) rfl rfl rfl Tryd.underlying24 rfl i24 (lk rfl) _ rfl,
      fun L u => u_call u (gd0 rfl) 15 rfl 36 #[(.tmp 13), (.tmp 14)] #[24, 24] rfl [.agg (fc (fiv (z))).toArray, .agg (fc (fiv (z))).toArray] rfl (cE36 _) (.agg (fc ((fiv (z)) * (fiv (z)))).toArray) (fun w hb => r_mul (hT.keep (Bs.kp_of hb)) _ _),
      fun L u => u_alloc u (gd0 rfl) 24 rfl 4 rfl rfl z24 _ rfl,
      fun L u => u_store u (gd0 rfl) 24 (.tmp 4) (.tmp 15) rfl rfl rfl (vs := fc ((fiv (z)) * (fiv (z)))) rfl rfl i24 (lk rfl) rfl _ rfl,
      trivial⟩ [(1, .ptr 1 0), (2, .ptr 2 0), (3, .ptr 3 0), (4, .ptr 4 0)] [(1, fc (x) ++ fc (y) ++ fc (z)), (2, nz ++ nz ++ [Value.bool false]), (3, fc (fiv (z))), (4, fc ((fiv (z)) * (fiv (z))))] ⟨rfl, rfl, rfl, rfl, trivial⟩ ⟨rfl, rfl, rfl, rfl, trivial⟩ rfl (fun a w h => ?_)
    refine go_region h hm [eS 16 (.ptr 1 0), eS 17 (.val (.agg (fc (x)).toArray)), eS 18 (.val (.agg (fc ((fiv (z)) * (fiv (z)))).toArray)), eS 19 (.val (.agg (fc ((x) * ((fiv (z)) * (fiv (z))))).toArray)), eS 20 (.ptr 1 4), eS 21 (.val (.agg (fc (y)).toArray)), eS 22 (.val (.agg (fc (fiv (z))).toArray)), eS 23 (.val (.agg (fc ((fiv (z)) * (fiv (z)))).toArray)), eS 24 (.val (.agg (fc ((fiv (z)) * ((fiv (z)) * (fiv (z))))).toArray)), eS 25 (.val (.agg (fc ((y) * ((fiv (z)) * ((fiv (z)) * (fiv (z)))))).toArray)), eS 26 (.val (.agg (fc ((x) * ((fiv (z)) * (fiv (z)))) ++ fc ((y) * ((fiv (z)) * ((fiv (z)) * (fiv (z))))) ++ [Value.bool false]).toArray)), eM 2 (fc ((x) * ((fiv (z)) * (fiv (z)))) ++ fc ((y) * ((fiv (z)) * ((fiv (z)) * (fiv (z))))) ++ [Value.bool false])] (by kernel_rfl) ⟨
      fun L u => u_field u (gd0 rfl) 16 rfl 60 (.tmp 1) 0 rfl rfl rfl Tryd.underlying60 rfl i24 _ rfl,
      fun L u => u_load u (gd0 rfl) 17 rfl 24 (.tmp 16) rfl rfl rfl Tryd.underlying24 rfl i24 (lk rfl) _ rfl,
      fun L u => u_load u (gd0 rfl) 18 rfl 24 (.tmp 4) rfl rfl rfl Tryd.underlying24 rfl i24 (lk rfl) _ rfl,
      fun L u => u_call u (gd0 rfl) 19 rfl 36 #[(.tmp 17), (.tmp 18)] #[24, 24] rfl [.agg (fc (x)).toArray, .agg (fc ((fiv (z)) * (fiv (z)))).toArray] rfl (cE36 _) (.agg (fc ((x) * ((fiv (z)) * (fiv (z))))).toArray) (fun w hb => r_mul (hT.keep (Bs.kp_of hb)) _ _),
      fun L u => u_field u (gd0 rfl) 20 rfl 60 (.tmp 1) 1 rfl rfl rfl Tryd.underlying60 rfl i24 _ rfl,
      fun L u => u_load u (gd0 rfl) 21 rfl 24 (.tmp 20) rfl rfl rfl Tryd.underlying24 rfl i24 (lk rfl) _ rfl,
      fun L u => u_load u (gd0 rfl) 22 rfl 24 (.tmp 3) rfl rfl rfl Tryd.underlying24 rfl i24 (lk rfl) _ rfl,
      fun L u => u_load u (gd0 rfl) 23 rfl 24 (.tmp 4) rfl rfl rfl Tryd.underlying24 rfl i24 (lk rfl) _ rfl,
      fun L u => u_call u (gd0 rfl) 24 rfl 36 #[(.tmp 22), (.tmp 23)] #[24, 24] rfl [.agg (fc (fiv (z))).toArray, .agg (fc ((fiv (z)) * (fiv (z)))).toArray] rfl (cE36 _) (.agg (fc ((fiv (z)) * ((fiv (z)) * (fiv (z))))).toArray) (fun w hb => r_mul (hT.keep (Bs.kp_of hb)) _ _),
      fun L u => u_call u (gd0 rfl) 25 rfl 36 #[(.tmp 21), (.tmp 24)] #[24, 24] rfl [.agg (fc (y)).toArray, .agg (fc ((fiv (z)) * ((fiv (z)) * (fiv (z))))).toArray] rfl (cE36 _) (.agg (fc ((y) * ((fiv (z)) * ((fiv (z)) * (fiv (z)))))).toArray) (fun w hb => r_mul (hT.keep (Bs.kp_of hb)) _ _),
      fun L u => u_build u (gd0 rfl) 26 rfl 26 #[(0, (.tmp 19)), (1, (.tmp 25))] rfl [(0, .agg (fc ((x) * ((fiv (z)) * (fiv (z))))).toArray), (1, .agg (fc ((y) * ((fiv (z)) * ((fiv (z)) * (fiv (z)))))).toArray)] rfl (fc ((x) * ((fiv (z)) * (fiv (z)))) ++ fc ((y) * ((fiv (z)) * ((fiv (z)) * (fiv (z))))) ++ [Value.bool false]) (bP _ _),
      fun L u => u_store u (gd0 rfl) 26 (.tmp 2) (.tmp 26) rfl rfl rfl (vs := fc ((x) * ((fiv (z)) * (fiv (z)))) ++ fc ((y) * ((fiv (z)) * ((fiv (z)) * (fiv (z))))) ++ [Value.bool false]) rfl rfl i26 (lk rfl) rfl _ rfl,
      trivial⟩ [(2, .ptr 2 0)] [(2, fc ((x) * ((fiv (z)) * (fiv (z)))) ++ fc ((y) * ((fiv (z)) * ((fiv (z)) * (fiv (z))))) ++ [Value.bool false])] ⟨rfl, trivial⟩ ⟨rfl, trivial⟩ rfl (fun a w h => ?_)
    refine wp_ret ?_
    refine ret_row h 2 26 rfl (lk rfl) 2 rfl (fc ((x) * ((fiv (z)) * (fiv (z)))) ++ fc ((y) * ((fiv (z)) * ((fiv (z)) * (fiv (z))))) ++ [Value.bool false]) rfl _ Tryd.underlying26 rfl i26 ?_
    exact ⟨by have e : jdrop ⟨x, y, z⟩ = _ := if_neg h0; rw [e]; rfl, h.grows⟩
end Go.Proofs.YtimaaendbfjblaaDoor
