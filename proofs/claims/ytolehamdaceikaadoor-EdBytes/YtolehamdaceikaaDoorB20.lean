/- Multiples on the second curve, as the document reckons them; its sum and its multiple are the curve's. Points of the second curve held against each other, and what else the document's own answers. Points of four numbers (X : Y : Z : T) with X Y = Z T, added by one formula: they are the points of the second curve. -/
import Derived.Test.YtolehamdaceikaaDoorB19
import Derived.Test.YtolehamdaceikaaDoorB03
namespace Go.Proofs.YtolehamdaceikaaDoor
open Go.RowKit

theorem s_bit {w : World} (k i : Nat) (hi : i < 256) : Calls Tryd.prog 69 [.agg (nc (k : Int)).toArray, .int .i64 (i : Int)].toArray w fun e w' => e = .returned (.int .i64 ((k / 2 ^ i % 2 : Nat) : Int)) ∧ Below w.heap.size w w' := by
  have h := ref_bit_any (k : Int) (i : Int) w
  have e : bt (k : Int) (i : Int) = ((k / 2 ^ i % 2 : Nat) : Int) := by
    unfold bt
    rw [if_pos (by omega), Int.toNat_natCast, Int.natCast_emod, Int.natCast_ediv, Int.natCast_pow]
    rfl
  rw [e] at h
  exact h
theorem s_lift_o {w : World} (hT : Tab w) : Calls Tryd.prog 44 [.agg (pcE (Ep.o m2)).toArray].toArray w fun e w' => e = .returned (.agg (fjc (flift (Ep.o m2))).toArray) ∧ Below w.heap.size w w' := s_lift_on hT (Ep.o_on ed)
set_option maxRecDepth 100000 in
set_option maxHeartbeats 4000000 in
theorem s_mult {w : World} (hT : Tab w) (k : Nat) (x y z : Fin m2) : Calls Tryd.prog 46 [.agg (nc ((k : Int))).toArray, .agg (gc (x) ++ gc (y) ++ gc (z)).toArray].toArray w fun e w' => e = .returned (.agg (fjc (fm k ⟨x, y, z⟩ 256).1).toArray) ∧ Below w.heap.size w w' := by
  refine enter (args := [.agg (nc ((k : Int))).toArray, .agg (gc (x) ++ gc (y) ++ gc (z)).toArray]) Tryd.func46 rfl 26 rfl (lk rfl) (fun a h => ?_)
  refine go_region h hm [eN 2 (nc ((k : Int))), eN 3 (gc (x) ++ gc (y) ++ gc (z)), eN 4 (nz ++ nz ++ nz)] (by kernel_rfl) ⟨
    fun L u => u_box u (gd0 rfl) 24 (.tmp 0) rfl 2 rfl rfl rfl _ rfl,
    fun L u => u_box u (gd0 rfl) 59 (.tmp 1) rfl 3 rfl rfl rfl _ rfl,
    fun L u => u_alloc u (gd0 rfl) 59 rfl 4 rfl rfl z59 _ rfl,
    trivial⟩ [(2, .ptr 2 0), (3, .ptr 3 0), (4, .ptr 4 0)] [(2, nc ((k : Int))), (3, gc (x) ++ gc (y) ++ gc (z)), (4, nz ++ nz ++ nz)] ⟨rfl, rfl, rfl, trivial⟩ ⟨rfl, rfl, rfl, trivial⟩ rfl (fun a w h => ?_)
  refine go_region h hm [eS 8 (.val (.agg (gc ((Ep.o m2).x) ++ gc ((Ep.o m2).y) ++ [Value.bool false]).toArray)), eS 9 (.val (.agg (gc ((flift (Ep.o m2)).x) ++ gc ((flift (Ep.o m2)).y) ++ gc ((flift (Ep.o m2)).z)).toArray)), eN 5 (nz ++ nz ++ nz), eM 5 (gc ((flift (Ep.o m2)).x) ++ gc ((flift (Ep.o m2)).y) ++ gc ((flift (Ep.o m2)).z))] (by kernel_rfl) ⟨
    fun L u => u_call u (gd0 rfl) 8 rfl 56 #[] #[] rfl [] rfl (cE56 _) (.agg (gc ((Ep.o m2).x) ++ gc ((Ep.o m2).y) ++ [Value.bool false]).toArray) (fun w hb => s_None),
    fun L u => u_call u (gd0 rfl) 9 rfl 44 #[(.tmp 8)] #[26] rfl [.agg (gc ((Ep.o m2).x) ++ gc ((Ep.o m2).y) ++ [Value.bool false]).toArray] rfl (cE44 _) (.agg (gc ((flift (Ep.o m2)).x) ++ gc ((flift (Ep.o m2)).y) ++ gc ((flift (Ep.o m2)).z)).toArray) (fun w hb => s_lift_o (hT.keep (Bs.kp_of hb))),
    fun L u => u_alloc u (gd0 rfl) 59 rfl 5 rfl rfl z59 _ rfl,
    fun L u => u_store u (gd0 rfl) 59 (.tmp 5) (.tmp 9) rfl rfl rfl (vs := gc ((flift (Ep.o m2)).x) ++ gc ((flift (Ep.o m2)).y) ++ gc ((flift (Ep.o m2)).z)) rfl rfl i59 (lk rfl) rfl _ rfl,
    trivial⟩ [(2, .ptr 2 0), (3, .ptr 3 0), (4, .ptr 4 0), (5, .ptr 5 0)] [(2, nc ((k : Int))), (3, gc (x) ++ gc (y) ++ gc (z)), (4, nz ++ nz ++ nz), (5, gc ((flift (Ep.o m2)).x) ++ gc ((flift (Ep.o m2)).y) ++ gc ((flift (Ep.o m2)).z))] ⟨rfl, rfl, rfl, rfl, trivial⟩ ⟨rfl, rfl, rfl, rfl, trivial⟩ rfl (fun a w h => ?_)
  refine go_region h hm [eS 6 (.val (Value.bool false))] (by kernel_rfl) ⟨
    fun L u => u_move u (gd0 rfl) 6 rfl (.const (.bool false)) (Or.inr rfl) rfl,
    trivial⟩ [(2, .ptr 2 0), (3, .ptr 3 0), (4, .ptr 4 0), (5, .ptr 5 0), (6, .val (Value.bool false))] [(2, nc ((k : Int))), (3, gc (x) ++ gc (y) ++ gc (z)), (4, nz ++ nz ++ nz), (5, gc ((flift (Ep.o m2)).x) ++ gc ((flift (Ep.o m2)).y) ++ gc ((flift (Ep.o m2)).z))] ⟨rfl, rfl, rfl, rfl, rfl, trivial⟩ ⟨rfl, rfl, rfl, rfl, trivial⟩ rfl (fun a w h => ?_)
  refine wp_seq ?_
  refine go_region h hm [eS 7 (.val ((Value.int IntKind.i64 255)))] (by kernel_rfl) ⟨
    fun L u => u_move u (gd0 rfl) 7 rfl (.const (.int .i64 255)) (Or.inr rfl) rfl,
    trivial⟩ [(2, .ptr 2 0), (3, .ptr 3 0), (4, .ptr 4 0), (5, .ptr 5 0), (6, .val (Value.bool false)), (7, .val ((Value.int IntKind.i64 255)))] [(2, nc ((k : Int))), (3, gc (x) ++ gc (y) ++ gc (z)), (4, nz ++ nz ++ nz), (5, gc ((flift (Ep.o m2)).x) ++ gc ((flift (Ep.o m2)).y) ++ gc ((flift (Ep.o m2)).z))] ⟨rfl, rfl, rfl, rfl, rfl, rfl, trivial⟩ ⟨rfl, rfl, rfl, rfl, trivial⟩ rfl (fun a w h => ?_)
  refine wp_block ?_
  refine go_loop (fun (j : Nat) => SS.mk' [(2, .ptr 2 0), (3, .ptr 3 0), (4, .ptr 4 0), (5, .ptr 5 0), (6, .val (Value.bool ((fm k ⟨x, y, z⟩ (j)).2))), (7, .val (Value.int .i64 (255 - ((j : Nat) : Int))))] [(2, nc ((k : Int))), (3, gc (x) ++ gc (y) ++ gc (z)), (4, nz ++ nz ++ nz), (5, gc (((fm k ⟨x, y, z⟩ (j)).1).x) ++ gc (((fm k ⟨x, y, z⟩ (j)).1).y) ++ gc (((fm k ⟨x, y, z⟩ (j)).1).z))]) (fun j => j ≤ 256) (fun j => 256 - j) (i := 0) (h.keep [(2, .ptr 2 0), (3, .ptr 3 0), (4, .ptr 4 0), (5, .ptr 5 0), (6, .val (Value.bool ((fm k ⟨x, y, z⟩ (0)).2))), (7, .val (Value.int .i64 (255 - ((0 : Nat) : Int))))] [(2, nc ((k : Int))), (3, gc (x) ++ gc (y) ++ gc (z)), (4, nz ++ nz ++ nz), (5, gc (((fm k ⟨x, y, z⟩ (0)).1).x) ++ gc (((fm k ⟨x, y, z⟩ (0)).1).y) ++ gc (((fm k ⟨x, y, z⟩ (0)).1).z))] ⟨rfl, rfl, rfl, rfl, rfl, rfl, trivial⟩ ⟨rfl, rfl, rfl, rfl, trivial⟩ rfl) (Nat.zero_le _) (fun j a w hG h => ?_)
  by_cases hs : j < 256
  · skip
    by_cases hg : (fm k ⟨x, y, z⟩ j).2 = true
    · skip
      by_cases hb : k / 2 ^ (255 - j) % 2 = 1
      · skip
        rw [hg] at h
        refine wp_seq ?_
        refine go_region h hm [eS 10 (.val (Value.int .i64 (255 - ((j : Nat) : Int)))), eS 11 (.val (Value.bool true))] (by kernel_rfl) ⟨
          fun L u => u_move u (gd0 rfl) 10 rfl (.tmp 7) (Or.inl rfl) rfl,
          fun L u => u_bin u (gd0 rfl) 11 rfl .geq 3 3 (.tmp 10) (.const (.int .i64 0)) rfl rfl rfl (eqg_int _ _ _ _ _ _ _ _) (Value.bool true) (yes_of (fun w => i_geq _ _ _ _ w) (by omega)),
          trivial⟩ [(2, .ptr 2 0), (3, .ptr 3 0), (4, .ptr 4 0), (5, .ptr 5 0), (6, .val (Value.bool true)), (7, .val (Value.int .i64 (255 - ((j : Nat) : Int)))), (11, .val (Value.bool true))] [(2, nc ((k : Int))), (3, gc (x) ++ gc (y) ++ gc (z)), (4, nz ++ nz ++ nz), (5, gc (((fm k ⟨x, y, z⟩ (j)).1).x) ++ gc (((fm k ⟨x, y, z⟩ (j)).1).y) ++ gc (((fm k ⟨x, y, z⟩ (j)).1).z))] ⟨rfl, rfl, rfl, rfl, rfl, rfl, rfl, trivial⟩ ⟨rfl, rfl, rfl, rfl, trivial⟩ rfl (fun a w h => ?_)
        refine go_cond h true rfl (fun ht => ?_) (fun hf => ?_)
        case refine_2 => cases hf
        refine wp_skip ?_
        refine then_norm ?_
        refine wp_seq ?_
        refine wp_block ?_
        refine wp_seq ?_
        refine go_region h hm [eS 14 (.val (Value.bool true))] (by kernel_rfl) ⟨
          fun L u => u_move u (gd0 rfl) 14 rfl (.tmp 6) (Or.inl rfl) rfl,
          trivial⟩ [(2, .ptr 2 0), (3, .ptr 3 0), (4, .ptr 4 0), (5, .ptr 5 0), (6, .val (Value.bool true)), (7, .val (Value.int .i64 (255 - ((j : Nat) : Int)))), (14, .val (Value.bool true))] [(2, nc ((k : Int))), (3, gc (x) ++ gc (y) ++ gc (z)), (4, nz ++ nz ++ nz), (5, gc (((fm k ⟨x, y, z⟩ (j)).1).x) ++ gc (((fm k ⟨x, y, z⟩ (j)).1).y) ++ gc (((fm k ⟨x, y, z⟩ (j)).1).z))] ⟨rfl, rfl, rfl, rfl, rfl, rfl, rfl, trivial⟩ ⟨rfl, rfl, rfl, rfl, trivial⟩ rfl (fun a w h => ?_)
        refine go_cond h true rfl (fun ht => ?_) (fun hf => ?_)
        case refine_2 => cases hf
        refine go_end h hm [eS 15 (.val (.agg (gc (((fm k ⟨x, y, z⟩ (j)).1).x) ++ gc (((fm k ⟨x, y, z⟩ (j)).1).y) ++ gc (((fm k ⟨x, y, z⟩ (j)).1).z)).toArray)), eS 16 (.val (.agg (gc (((fm k ⟨x, y, z⟩ (j)).1).x) ++ gc (((fm k ⟨x, y, z⟩ (j)).1).y) ++ gc (((fm k ⟨x, y, z⟩ (j)).1).z)).toArray)), eS 17 (.val (.agg (gc ((fadd ⟨((fm k ⟨x, y, z⟩ (j)).1).x, ((fm k ⟨x, y, z⟩ (j)).1).y, ((fm k ⟨x, y, z⟩ (j)).1).z⟩ ⟨((fm k ⟨x, y, z⟩ (j)).1).x, ((fm k ⟨x, y, z⟩ (j)).1).y, ((fm k ⟨x, y, z⟩ (j)).1).z⟩).x) ++ gc ((fadd ⟨((fm k ⟨x, y, z⟩ (j)).1).x, ((fm k ⟨x, y, z⟩ (j)).1).y, ((fm k ⟨x, y, z⟩ (j)).1).z⟩ ⟨((fm k ⟨x, y, z⟩ (j)).1).x, ((fm k ⟨x, y, z⟩ (j)).1).y, ((fm k ⟨x, y, z⟩ (j)).1).z⟩).y) ++ gc ((fadd ⟨((fm k ⟨x, y, z⟩ (j)).1).x, ((fm k ⟨x, y, z⟩ (j)).1).y, ((fm k ⟨x, y, z⟩ (j)).1).z⟩ ⟨((fm k ⟨x, y, z⟩ (j)).1).x, ((fm k ⟨x, y, z⟩ (j)).1).y, ((fm k ⟨x, y, z⟩ (j)).1).z⟩).z)).toArray)), eM 5 (gc ((fadd ⟨((fm k ⟨x, y, z⟩ (j)).1).x, ((fm k ⟨x, y, z⟩ (j)).1).y, ((fm k ⟨x, y, z⟩ (j)).1).z⟩ ⟨((fm k ⟨x, y, z⟩ (j)).1).x, ((fm k ⟨x, y, z⟩ (j)).1).y, ((fm k ⟨x, y, z⟩ (j)).1).z⟩).x) ++ gc ((fadd ⟨((fm k ⟨x, y, z⟩ (j)).1).x, ((fm k ⟨x, y, z⟩ (j)).1).y, ((fm k ⟨x, y, z⟩ (j)).1).z⟩ ⟨((fm k ⟨x, y, z⟩ (j)).1).x, ((fm k ⟨x, y, z⟩ (j)).1).y, ((fm k ⟨x, y, z⟩ (j)).1).z⟩).y) ++ gc ((fadd ⟨((fm k ⟨x, y, z⟩ (j)).1).x, ((fm k ⟨x, y, z⟩ (j)).1).y, ((fm k ⟨x, y, z⟩ (j)).1).z⟩ ⟨((fm k ⟨x, y, z⟩ (j)).1).x, ((fm k ⟨x, y, z⟩ (j)).1).y, ((fm k ⟨x, y, z⟩ (j)).1).z⟩).z))] (by kernel_rfl) ⟨
          fun L u => u_load u (gd0 rfl) 15 rfl 59 (.tmp 5) rfl rfl rfl Tryd.underlying59 rfl i59 (lk rfl) _ rfl,
          fun L u => u_load u (gd0 rfl) 16 rfl 59 (.tmp 5) rfl rfl rfl Tryd.underlying59 rfl i59 (lk rfl) _ rfl,
          fun L u => u_call u (gd0 rfl) 17 rfl 43 #[(.tmp 15), (.tmp 16)] #[59, 59] rfl [.agg (gc (((fm k ⟨x, y, z⟩ (j)).1).x) ++ gc (((fm k ⟨x, y, z⟩ (j)).1).y) ++ gc (((fm k ⟨x, y, z⟩ (j)).1).z)).toArray, .agg (gc (((fm k ⟨x, y, z⟩ (j)).1).x) ++ gc (((fm k ⟨x, y, z⟩ (j)).1).y) ++ gc (((fm k ⟨x, y, z⟩ (j)).1).z)).toArray] rfl (cE43 _) (.agg (gc ((fadd ⟨((fm k ⟨x, y, z⟩ (j)).1).x, ((fm k ⟨x, y, z⟩ (j)).1).y, ((fm k ⟨x, y, z⟩ (j)).1).z⟩ ⟨((fm k ⟨x, y, z⟩ (j)).1).x, ((fm k ⟨x, y, z⟩ (j)).1).y, ((fm k ⟨x, y, z⟩ (j)).1).z⟩).x) ++ gc ((fadd ⟨((fm k ⟨x, y, z⟩ (j)).1).x, ((fm k ⟨x, y, z⟩ (j)).1).y, ((fm k ⟨x, y, z⟩ (j)).1).z⟩ ⟨((fm k ⟨x, y, z⟩ (j)).1).x, ((fm k ⟨x, y, z⟩ (j)).1).y, ((fm k ⟨x, y, z⟩ (j)).1).z⟩).y) ++ gc ((fadd ⟨((fm k ⟨x, y, z⟩ (j)).1).x, ((fm k ⟨x, y, z⟩ (j)).1).y, ((fm k ⟨x, y, z⟩ (j)).1).z⟩ ⟨((fm k ⟨x, y, z⟩ (j)).1).x, ((fm k ⟨x, y, z⟩ (j)).1).y, ((fm k ⟨x, y, z⟩ (j)).1).z⟩).z)).toArray) (fun w hb => s_plus (hT.keep (Bs.kp_of hb)) _ _ _ _ _ _),
          fun L u => u_store u (gd0 rfl) 59 (.tmp 5) (.tmp 17) rfl rfl rfl (vs := gc ((fadd ⟨((fm k ⟨x, y, z⟩ (j)).1).x, ((fm k ⟨x, y, z⟩ (j)).1).y, ((fm k ⟨x, y, z⟩ (j)).1).z⟩ ⟨((fm k ⟨x, y, z⟩ (j)).1).x, ((fm k ⟨x, y, z⟩ (j)).1).y, ((fm k ⟨x, y, z⟩ (j)).1).z⟩).x) ++ gc ((fadd ⟨((fm k ⟨x, y, z⟩ (j)).1).x, ((fm k ⟨x, y, z⟩ (j)).1).y, ((fm k ⟨x, y, z⟩ (j)).1).z⟩ ⟨((fm k ⟨x, y, z⟩ (j)).1).x, ((fm k ⟨x, y, z⟩ (j)).1).y, ((fm k ⟨x, y, z⟩ (j)).1).z⟩).y) ++ gc ((fadd ⟨((fm k ⟨x, y, z⟩ (j)).1).x, ((fm k ⟨x, y, z⟩ (j)).1).y, ((fm k ⟨x, y, z⟩ (j)).1).z⟩ ⟨((fm k ⟨x, y, z⟩ (j)).1).x, ((fm k ⟨x, y, z⟩ (j)).1).y, ((fm k ⟨x, y, z⟩ (j)).1).z⟩).z)) rfl rfl i59 (lk rfl) rfl _ rfl,
          trivial⟩ [(2, .ptr 2 0), (3, .ptr 3 0), (4, .ptr 4 0), (5, .ptr 5 0), (6, .val (Value.bool true)), (7, .val (Value.int .i64 (255 - ((j : Nat) : Int))))] [(2, nc ((k : Int))), (3, gc (x) ++ gc (y) ++ gc (z)), (4, nz ++ nz ++ nz), (5, gc ((fadd ⟨((fm k ⟨x, y, z⟩ (j)).1).x, ((fm k ⟨x, y, z⟩ (j)).1).y, ((fm k ⟨x, y, z⟩ (j)).1).z⟩ ⟨((fm k ⟨x, y, z⟩ (j)).1).x, ((fm k ⟨x, y, z⟩ (j)).1).y, ((fm k ⟨x, y, z⟩ (j)).1).z⟩).x) ++ gc ((fadd ⟨((fm k ⟨x, y, z⟩ (j)).1).x, ((fm k ⟨x, y, z⟩ (j)).1).y, ((fm k ⟨x, y, z⟩ (j)).1).z⟩ ⟨((fm k ⟨x, y, z⟩ (j)).1).x, ((fm k ⟨x, y, z⟩ (j)).1).y, ((fm k ⟨x, y, z⟩ (j)).1).z⟩).y) ++ gc ((fadd ⟨((fm k ⟨x, y, z⟩ (j)).1).x, ((fm k ⟨x, y, z⟩ (j)).1).y, ((fm k ⟨x, y, z⟩ (j)).1).z⟩ ⟨((fm k ⟨x, y, z⟩ (j)).1).x, ((fm k ⟨x, y, z⟩ (j)).1).y, ((fm k ⟨x, y, z⟩ (j)).1).z⟩).z))] ⟨rfl, rfl, rfl, rfl, rfl, rfl, trivial⟩ ⟨rfl, rfl, rfl, rfl, trivial⟩ rfl (fun a w h => ?_)
        refine then_norm ?_
        refine go_region h hm [eS 18 (.val (.agg (nc ((k : Int))).toArray)), eS 19 (.val (Value.int .i64 (255 - ((j : Nat) : Int)))), eS 20 (.val (Value.int .i64 ((k / 2 ^ (255 - j) % 2 : Nat) : Int))), eS 21 (.val (Value.bool true))] (by kernel_rfl) ⟨
          fun L u => u_load u (gd0 rfl) 18 rfl 24 (.tmp 2) rfl rfl rfl Tryd.underlying24 rfl i24 (lk rfl) _ rfl,
          fun L u => u_move u (gd0 rfl) 19 rfl (.tmp 7) (Or.inl rfl) rfl,
          fun L u => u_call u (gd0 rfl) 20 rfl 69 #[(.tmp 18), (.tmp 19)] #[24, 3] rfl [.agg (nc ((k : Int))).toArray, Value.int .i64 (255 - ((j : Nat) : Int))] rfl (cE69 _) (Value.int .i64 ((k / 2 ^ (255 - j) % 2 : Nat) : Int)) (fun w hb => by have := s_bit (w := w) k (255 - j) (by omega); rw [show (((255 - j : Nat)) : Int) = 255 - (j : Int) by omega] at this; exact this),
          fun L u => u_bin u (gd0 rfl) 21 rfl .eql 3 3 (.tmp 20) (.const (.int .i64 1)) rfl rfl rfl (eqg_int _ _ _ _ _ _ _ _) (Value.bool true) (yes_of (fun w => i_eql _ _ _ _ w) (by omega)),
          trivial⟩ [(2, .ptr 2 0), (3, .ptr 3 0), (4, .ptr 4 0), (5, .ptr 5 0), (6, .val (Value.bool true)), (7, .val (Value.int .i64 (255 - ((j : Nat) : Int)))), (21, .val (Value.bool true))] [(2, nc ((k : Int))), (3, gc (x) ++ gc (y) ++ gc (z)), (4, nz ++ nz ++ nz), (5, gc ((fadd ⟨((fm k ⟨x, y, z⟩ (j)).1).x, ((fm k ⟨x, y, z⟩ (j)).1).y, ((fm k ⟨x, y, z⟩ (j)).1).z⟩ ⟨((fm k ⟨x, y, z⟩ (j)).1).x, ((fm k ⟨x, y, z⟩ (j)).1).y, ((fm k ⟨x, y, z⟩ (j)).1).z⟩).x) ++ gc ((fadd ⟨((fm k ⟨x, y, z⟩ (j)).1).x, ((fm k ⟨x, y, z⟩ (j)).1).y, ((fm k ⟨x, y, z⟩ (j)).1).z⟩ ⟨((fm k ⟨x, y, z⟩ (j)).1).x, ((fm k ⟨x, y, z⟩ (j)).1).y, ((fm k ⟨x, y, z⟩ (j)).1).z⟩).y) ++ gc ((fadd ⟨((fm k ⟨x, y, z⟩ (j)).1).x, ((fm k ⟨x, y, z⟩ (j)).1).y, ((fm k ⟨x, y, z⟩ (j)).1).z⟩ ⟨((fm k ⟨x, y, z⟩ (j)).1).x, ((fm k ⟨x, y, z⟩ (j)).1).y, ((fm k ⟨x, y, z⟩ (j)).1).z⟩).z))] ⟨rfl, rfl, rfl, rfl, rfl, rfl, rfl, trivial⟩ ⟨rfl, rfl, rfl, rfl, trivial⟩ rfl (fun a w h => ?_)
        refine go_cond h true rfl (fun ht => ?_) (fun hf => ?_)
        case refine_2 => cases hf
        refine go_region h hm [eS 22 (.val (.agg (gc ((fadd ⟨((fm k ⟨x, y, z⟩ (j)).1).x, ((fm k ⟨x, y, z⟩ (j)).1).y, ((fm k ⟨x, y, z⟩ (j)).1).z⟩ ⟨((fm k ⟨x, y, z⟩ (j)).1).x, ((fm k ⟨x, y, z⟩ (j)).1).y, ((fm k ⟨x, y, z⟩ (j)).1).z⟩).x) ++ gc ((fadd ⟨((fm k ⟨x, y, z⟩ (j)).1).x, ((fm k ⟨x, y, z⟩ (j)).1).y, ((fm k ⟨x, y, z⟩ (j)).1).z⟩ ⟨((fm k ⟨x, y, z⟩ (j)).1).x, ((fm k ⟨x, y, z⟩ (j)).1).y, ((fm k ⟨x, y, z⟩ (j)).1).z⟩).y) ++ gc ((fadd ⟨((fm k ⟨x, y, z⟩ (j)).1).x, ((fm k ⟨x, y, z⟩ (j)).1).y, ((fm k ⟨x, y, z⟩ (j)).1).z⟩ ⟨((fm k ⟨x, y, z⟩ (j)).1).x, ((fm k ⟨x, y, z⟩ (j)).1).y, ((fm k ⟨x, y, z⟩ (j)).1).z⟩).z)).toArray)), eS 23 (.val (.agg (gc (x) ++ gc (y) ++ gc (z)).toArray)), eS 24 (.val (.agg (gc ((fadd ⟨(fadd ⟨((fm k ⟨x, y, z⟩ (j)).1).x, ((fm k ⟨x, y, z⟩ (j)).1).y, ((fm k ⟨x, y, z⟩ (j)).1).z⟩ ⟨((fm k ⟨x, y, z⟩ (j)).1).x, ((fm k ⟨x, y, z⟩ (j)).1).y, ((fm k ⟨x, y, z⟩ (j)).1).z⟩).x, (fadd ⟨((fm k ⟨x, y, z⟩ (j)).1).x, ((fm k ⟨x, y, z⟩ (j)).1).y, ((fm k ⟨x, y, z⟩ (j)).1).z⟩ ⟨((fm k ⟨x, y, z⟩ (j)).1).x, ((fm k ⟨x, y, z⟩ (j)).1).y, ((fm k ⟨x, y, z⟩ (j)).1).z⟩).y, (fadd ⟨((fm k ⟨x, y, z⟩ (j)).1).x, ((fm k ⟨x, y, z⟩ (j)).1).y, ((fm k ⟨x, y, z⟩ (j)).1).z⟩ ⟨((fm k ⟨x, y, z⟩ (j)).1).x, ((fm k ⟨x, y, z⟩ (j)).1).y, ((fm k ⟨x, y, z⟩ (j)).1).z⟩).z⟩ ⟨x, y, z⟩).x) ++ gc ((fadd ⟨(fadd ⟨((fm k ⟨x, y, z⟩ (j)).1).x, ((fm k ⟨x, y, z⟩ (j)).1).y, ((fm k ⟨x, y, z⟩ (j)).1).z⟩ ⟨((fm k ⟨x, y, z⟩ (j)).1).x, ((fm k ⟨x, y, z⟩ (j)).1).y, ((fm k ⟨x, y, z⟩ (j)).1).z⟩).x, (fadd ⟨((fm k ⟨x, y, z⟩ (j)).1).x, ((fm k ⟨x, y, z⟩ (j)).1).y, ((fm k ⟨x, y, z⟩ (j)).1).z⟩ ⟨((fm k ⟨x, y, z⟩ (j)).1).x, ((fm k ⟨x, y, z⟩ (j)).1).y, ((fm k ⟨x, y, z⟩ (j)).1).z⟩).y, (fadd ⟨((fm k ⟨x, y, z⟩ (j)).1).x, ((fm k ⟨x, y, z⟩ (j)).1).y, ((fm k ⟨x, y, z⟩ (j)).1).z⟩ ⟨((fm k ⟨x, y, z⟩ (j)).1).x, ((fm k ⟨x, y, z⟩ (j)).1).y, ((fm k ⟨x, y, z⟩ (j)).1).z⟩).z⟩ ⟨x, y, z⟩).y) ++ gc ((fadd ⟨(fadd ⟨((fm k ⟨x, y, z⟩ (j)).1).x, ((fm k ⟨x, y, z⟩ (j)).1).y, ((fm k ⟨x, y, z⟩ (j)).1).z⟩ ⟨((fm k ⟨x, y, z⟩ (j)).1).x, ((fm k ⟨x, y, z⟩ (j)).1).y, ((fm k ⟨x, y, z⟩ (j)).1).z⟩).x, (fadd ⟨((fm k ⟨x, y, z⟩ (j)).1).x, ((fm k ⟨x, y, z⟩ (j)).1).y, ((fm k ⟨x, y, z⟩ (j)).1).z⟩ ⟨((fm k ⟨x, y, z⟩ (j)).1).x, ((fm k ⟨x, y, z⟩ (j)).1).y, ((fm k ⟨x, y, z⟩ (j)).1).z⟩).y, (fadd ⟨((fm k ⟨x, y, z⟩ (j)).1).x, ((fm k ⟨x, y, z⟩ (j)).1).y, ((fm k ⟨x, y, z⟩ (j)).1).z⟩ ⟨((fm k ⟨x, y, z⟩ (j)).1).x, ((fm k ⟨x, y, z⟩ (j)).1).y, ((fm k ⟨x, y, z⟩ (j)).1).z⟩).z⟩ ⟨x, y, z⟩).z)).toArray)), eM 5 (gc ((fadd ⟨(fadd ⟨((fm k ⟨x, y, z⟩ (j)).1).x, ((fm k ⟨x, y, z⟩ (j)).1).y, ((fm k ⟨x, y, z⟩ (j)).1).z⟩ ⟨((fm k ⟨x, y, z⟩ (j)).1).x, ((fm k ⟨x, y, z⟩ (j)).1).y, ((fm k ⟨x, y, z⟩ (j)).1).z⟩).x, (fadd ⟨((fm k ⟨x, y, z⟩ (j)).1).x, ((fm k ⟨x, y, z⟩ (j)).1).y, ((fm k ⟨x, y, z⟩ (j)).1).z⟩ ⟨((fm k ⟨x, y, z⟩ (j)).1).x, ((fm k ⟨x, y, z⟩ (j)).1).y, ((fm k ⟨x, y, z⟩ (j)).1).z⟩).y, (fadd ⟨((fm k ⟨x, y, z⟩ (j)).1).x, ((fm k ⟨x, y, z⟩ (j)).1).y, ((fm k ⟨x, y, z⟩ (j)).1).z⟩ ⟨((fm k ⟨x, y, z⟩ (j)).1).x, ((fm k ⟨x, y, z⟩ (j)).1).y, ((fm k ⟨x, y, z⟩ (j)).1).z⟩).z⟩ ⟨x, y, z⟩).x) ++ gc ((fadd ⟨(fadd ⟨((fm k ⟨x, y, z⟩ (j)).1).x, ((fm k ⟨x, y, z⟩ (j)).1).y, ((fm k ⟨x, y, z⟩ (j)).1).z⟩ ⟨((fm k ⟨x, y, z⟩ (j)).1).x, ((fm k ⟨x, y, z⟩ (j)).1).y, ((fm k ⟨x, y, z⟩ (j)).1).z⟩).x, (fadd ⟨((fm k ⟨x, y, z⟩ (j)).1).x, ((fm k ⟨x, y, z⟩ (j)).1).y, ((fm k ⟨x, y, z⟩ (j)).1).z⟩ ⟨((fm k ⟨x, y, z⟩ (j)).1).x, ((fm k ⟨x, y, z⟩ (j)).1).y, ((fm k ⟨x, y, z⟩ (j)).1).z⟩).y, (fadd ⟨((fm k ⟨x, y, z⟩ (j)).1).x, ((fm k ⟨x, y, z⟩ (j)).1).y, ((fm k ⟨x, y, z⟩ (j)).1).z⟩ ⟨((fm k ⟨x, y, z⟩ (j)).1).x, ((fm k ⟨x, y, z⟩ (j)).1).y, ((fm k ⟨x, y, z⟩ (j)).1).z⟩).z⟩ ⟨x, y, z⟩).y) ++ gc ((fadd ⟨(fadd ⟨((fm k ⟨x, y, z⟩ (j)).1).x, ((fm k ⟨x, y, z⟩ (j)).1).y, ((fm k ⟨x, y, z⟩ (j)).1).z⟩ ⟨((fm k ⟨x, y, z⟩ (j)).1).x, ((fm k ⟨x, y, z⟩ (j)).1).y, ((fm k ⟨x, y, z⟩ (j)).1).z⟩).x, (fadd ⟨((fm k ⟨x, y, z⟩ (j)).1).x, ((fm k ⟨x, y, z⟩ (j)).1).y, ((fm k ⟨x, y, z⟩ (j)).1).z⟩ ⟨((fm k ⟨x, y, z⟩ (j)).1).x, ((fm k ⟨x, y, z⟩ (j)).1).y, ((fm k ⟨x, y, z⟩ (j)).1).z⟩).y, (fadd ⟨((fm k ⟨x, y, z⟩ (j)).1).x, ((fm k ⟨x, y, z⟩ (j)).1).y, ((fm k ⟨x, y, z⟩ (j)).1).z⟩ ⟨((fm k ⟨x, y, z⟩ (j)).1).x, ((fm k ⟨x, y, z⟩ (j)).1).y, ((fm k ⟨x, y, z⟩ (j)).1).z⟩).z⟩ ⟨x, y, z⟩).z))] (by kernel_rfl) ⟨
          fun L u => u_load u (gd0 rfl) 22 rfl 59 (.tmp 5) rfl rfl rfl Tryd.underlying59 rfl i59 (lk rfl) _ rfl,
          fun L u => u_load u (gd0 rfl) 23 rfl 59 (.tmp 3) rfl rfl rfl Tryd.underlying59 rfl i59 (lk rfl) _ rfl,
          fun L u => u_call u (gd0 rfl) 24 rfl 43 #[(.tmp 22), (.tmp 23)] #[59, 59] rfl [.agg (gc ((fadd ⟨((fm k ⟨x, y, z⟩ (j)).1).x, ((fm k ⟨x, y, z⟩ (j)).1).y, ((fm k ⟨x, y, z⟩ (j)).1).z⟩ ⟨((fm k ⟨x, y, z⟩ (j)).1).x, ((fm k ⟨x, y, z⟩ (j)).1).y, ((fm k ⟨x, y, z⟩ (j)).1).z⟩).x) ++ gc ((fadd ⟨((fm k ⟨x, y, z⟩ (j)).1).x, ((fm k ⟨x, y, z⟩ (j)).1).y, ((fm k ⟨x, y, z⟩ (j)).1).z⟩ ⟨((fm k ⟨x, y, z⟩ (j)).1).x, ((fm k ⟨x, y, z⟩ (j)).1).y, ((fm k ⟨x, y, z⟩ (j)).1).z⟩).y) ++ gc ((fadd ⟨((fm k ⟨x, y, z⟩ (j)).1).x, ((fm k ⟨x, y, z⟩ (j)).1).y, ((fm k ⟨x, y, z⟩ (j)).1).z⟩ ⟨((fm k ⟨x, y, z⟩ (j)).1).x, ((fm k ⟨x, y, z⟩ (j)).1).y, ((fm k ⟨x, y, z⟩ (j)).1).z⟩).z)).toArray, .agg (gc (x) ++ gc (y) ++ gc (z)).toArray] rfl (cE43 _) (.agg (gc ((fadd ⟨(fadd ⟨((fm k ⟨x, y, z⟩ (j)).1).x, ((fm k ⟨x, y, z⟩ (j)).1).y, ((fm k ⟨x, y, z⟩ (j)).1).z⟩ ⟨((fm k ⟨x, y, z⟩ (j)).1).x, ((fm k ⟨x, y, z⟩ (j)).1).y, ((fm k ⟨x, y, z⟩ (j)).1).z⟩).x, (fadd ⟨((fm k ⟨x, y, z⟩ (j)).1).x, ((fm k ⟨x, y, z⟩ (j)).1).y, ((fm k ⟨x, y, z⟩ (j)).1).z⟩ ⟨((fm k ⟨x, y, z⟩ (j)).1).x, ((fm k ⟨x, y, z⟩ (j)).1).y, ((fm k ⟨x, y, z⟩ (j)).1).z⟩).y, (fadd ⟨((fm k ⟨x, y, z⟩ (j)).1).x, ((fm k ⟨x, y, z⟩ (j)).1).y, ((fm k ⟨x, y, z⟩ (j)).1).z⟩ ⟨((fm k ⟨x, y, z⟩ (j)).1).x, ((fm k ⟨x, y, z⟩ (j)).1).y, ((fm k ⟨x, y, z⟩ (j)).1).z⟩).z⟩ ⟨x, y, z⟩).x) ++ gc ((fadd ⟨(fadd ⟨((fm k ⟨x, y, z⟩ (j)).1).x, ((fm k ⟨x, y, z⟩ (j)).1).y, ((fm k ⟨x, y, z⟩ (j)).1).z⟩ ⟨((fm k ⟨x, y, z⟩ (j)).1).x, ((fm k ⟨x, y, z⟩ (j)).1).y, ((fm k ⟨x, y, z⟩ (j)).1).z⟩).x, (fadd ⟨((fm k ⟨x, y, z⟩ (j)).1).x, ((fm k ⟨x, y, z⟩ (j)).1).y, ((fm k ⟨x, y, z⟩ (j)).1).z⟩ ⟨((fm k ⟨x, y, z⟩ (j)).1).x, ((fm k ⟨x, y, z⟩ (j)).1).y, ((fm k ⟨x, y, z⟩ (j)).1).z⟩).y, (fadd ⟨((fm k ⟨x, y, z⟩ (j)).1).x, ((fm k ⟨x, y, z⟩ (j)).1).y, ((fm k ⟨x, y, z⟩ (j)).1).z⟩ ⟨((fm k ⟨x, y, z⟩ (j)).1).x, ((fm k ⟨x, y, z⟩ (j)).1).y, ((fm k ⟨x, y, z⟩ (j)).1).z⟩).z⟩ ⟨x, y, z⟩).y) ++ gc ((fadd ⟨(fadd ⟨((fm k ⟨x, y, z⟩ (j)).1).x, ((fm k ⟨x, y, z⟩ (j)).1).y, ((fm k ⟨x, y, z⟩ (j)).1).z⟩ ⟨((fm k ⟨x, y, z⟩ (j)).1).x, ((fm k ⟨x, y, z⟩ (j)).1).y, ((fm k ⟨x, y, z⟩ (j)).1).z⟩).x, (fadd ⟨((fm k ⟨x, y, z⟩ (j)).1).x, ((fm k ⟨x, y, z⟩ (j)).1).y, ((fm k ⟨x, y, z⟩ (j)).1).z⟩ ⟨((fm k ⟨x, y, z⟩ (j)).1).x, ((fm k ⟨x, y, z⟩ (j)).1).y, ((fm k ⟨x, y, z⟩ (j)).1).z⟩).y, (fadd ⟨((fm k ⟨x, y, z⟩ (j)).1).x, ((fm k ⟨x, y, z⟩ (j)).1).y, ((fm k ⟨x, y, z⟩ (j)).1).z⟩ ⟨((fm k ⟨x, y, z⟩ (j)).1).x, ((fm k ⟨x, y, z⟩ (j)).1).y, ((fm k ⟨x, y, z⟩ (j)).1).z⟩).z⟩ ⟨x, y, z⟩).z)).toArray) (fun w hb => s_plus (hT.keep (Bs.kp_of hb)) _ _ _ _ _ _),
          fun L u => u_store u (gd0 rfl) 59 (.tmp 5) (.tmp 24) rfl rfl rfl (vs := gc ((fadd ⟨(fadd ⟨((fm k ⟨x, y, z⟩ (j)).1).x, ((fm k ⟨x, y, z⟩ (j)).1).y, ((fm k ⟨x, y, z⟩ (j)).1).z⟩ ⟨((fm k ⟨x, y, z⟩ (j)).1).x, ((fm k ⟨x, y, z⟩ (j)).1).y, ((fm k ⟨x, y, z⟩ (j)).1).z⟩).x, (fadd ⟨((fm k ⟨x, y, z⟩ (j)).1).x, ((fm k ⟨x, y, z⟩ (j)).1).y, ((fm k ⟨x, y, z⟩ (j)).1).z⟩ ⟨((fm k ⟨x, y, z⟩ (j)).1).x, ((fm k ⟨x, y, z⟩ (j)).1).y, ((fm k ⟨x, y, z⟩ (j)).1).z⟩).y, (fadd ⟨((fm k ⟨x, y, z⟩ (j)).1).x, ((fm k ⟨x, y, z⟩ (j)).1).y, ((fm k ⟨x, y, z⟩ (j)).1).z⟩ ⟨((fm k ⟨x, y, z⟩ (j)).1).x, ((fm k ⟨x, y, z⟩ (j)).1).y, ((fm k ⟨x, y, z⟩ (j)).1).z⟩).z⟩ ⟨x, y, z⟩).x) ++ gc ((fadd ⟨(fadd ⟨((fm k ⟨x, y, z⟩ (j)).1).x, ((fm k ⟨x, y, z⟩ (j)).1).y, ((fm k ⟨x, y, z⟩ (j)).1).z⟩ ⟨((fm k ⟨x, y, z⟩ (j)).1).x, ((fm k ⟨x, y, z⟩ (j)).1).y, ((fm k ⟨x, y, z⟩ (j)).1).z⟩).x, (fadd ⟨((fm k ⟨x, y, z⟩ (j)).1).x, ((fm k ⟨x, y, z⟩ (j)).1).y, ((fm k ⟨x, y, z⟩ (j)).1).z⟩ ⟨((fm k ⟨x, y, z⟩ (j)).1).x, ((fm k ⟨x, y, z⟩ (j)).1).y, ((fm k ⟨x, y, z⟩ (j)).1).z⟩).y, (fadd ⟨((fm k ⟨x, y, z⟩ (j)).1).x, ((fm k ⟨x, y, z⟩ (j)).1).y, ((fm k ⟨x, y, z⟩ (j)).1).z⟩ ⟨((fm k ⟨x, y, z⟩ (j)).1).x, ((fm k ⟨x, y, z⟩ (j)).1).y, ((fm k ⟨x, y, z⟩ (j)).1).z⟩).z⟩ ⟨x, y, z⟩).y) ++ gc ((fadd ⟨(fadd ⟨((fm k ⟨x, y, z⟩ (j)).1).x, ((fm k ⟨x, y, z⟩ (j)).1).y, ((fm k ⟨x, y, z⟩ (j)).1).z⟩ ⟨((fm k ⟨x, y, z⟩ (j)).1).x, ((fm k ⟨x, y, z⟩ (j)).1).y, ((fm k ⟨x, y, z⟩ (j)).1).z⟩).x, (fadd ⟨((fm k ⟨x, y, z⟩ (j)).1).x, ((fm k ⟨x, y, z⟩ (j)).1).y, ((fm k ⟨x, y, z⟩ (j)).1).z⟩ ⟨((fm k ⟨x, y, z⟩ (j)).1).x, ((fm k ⟨x, y, z⟩ (j)).1).y, ((fm k ⟨x, y, z⟩ (j)).1).z⟩).y, (fadd ⟨((fm k ⟨x, y, z⟩ (j)).1).x, ((fm k ⟨x, y, z⟩ (j)).1).y, ((fm k ⟨x, y, z⟩ (j)).1).z⟩ ⟨((fm k ⟨x, y, z⟩ (j)).1).x, ((fm k ⟨x, y, z⟩ (j)).1).y, ((fm k ⟨x, y, z⟩ (j)).1).z⟩).z⟩ ⟨x, y, z⟩).z)) rfl rfl i59 (lk rfl) rfl _ rfl,
          trivial⟩ [(2, .ptr 2 0), (3, .ptr 3 0), (4, .ptr 4 0), (5, .ptr 5 0), (7, .val (Value.int .i64 (255 - ((j : Nat) : Int))))] [(2, nc ((k : Int))), (3, gc (x) ++ gc (y) ++ gc (z)), (4, nz ++ nz ++ nz), (5, gc ((fadd ⟨(fadd ⟨((fm k ⟨x, y, z⟩ (j)).1).x, ((fm k ⟨x, y, z⟩ (j)).1).y, ((fm k ⟨x, y, z⟩ (j)).1).z⟩ ⟨((fm k ⟨x, y, z⟩ (j)).1).x, ((fm k ⟨x, y, z⟩ (j)).1).y, ((fm k ⟨x, y, z⟩ (j)).1).z⟩).x, (fadd ⟨((fm k ⟨x, y, z⟩ (j)).1).x, ((fm k ⟨x, y, z⟩ (j)).1).y, ((fm k ⟨x, y, z⟩ (j)).1).z⟩ ⟨((fm k ⟨x, y, z⟩ (j)).1).x, ((fm k ⟨x, y, z⟩ (j)).1).y, ((fm k ⟨x, y, z⟩ (j)).1).z⟩).y, (fadd ⟨((fm k ⟨x, y, z⟩ (j)).1).x, ((fm k ⟨x, y, z⟩ (j)).1).y, ((fm k ⟨x, y, z⟩ (j)).1).z⟩ ⟨((fm k ⟨x, y, z⟩ (j)).1).x, ((fm k ⟨x, y, z⟩ (j)).1).y, ((fm k ⟨x, y, z⟩ (j)).1).z⟩).z⟩ ⟨x, y, z⟩).x) ++ gc ((fadd ⟨(fadd ⟨((fm k ⟨x, y, z⟩ (j)).1).x, ((fm k ⟨x, y, z⟩ (j)).1).y, ((fm k ⟨x, y, z⟩ (j)).1).z⟩ ⟨((fm k ⟨x, y, z⟩ (j)).1).x, ((fm k ⟨x, y, z⟩ (j)).1).y, ((fm k ⟨x, y, z⟩ (j)).1).z⟩).x, (fadd ⟨((fm k ⟨x, y, z⟩ (j)).1).x, ((fm k ⟨x, y, z⟩ (j)).1).y, ((fm k ⟨x, y, z⟩ (j)).1).z⟩ ⟨((fm k ⟨x, y, z⟩ (j)).1).x, ((fm k ⟨x, y, z⟩ (j)).1).y, ((fm k ⟨x, y, z⟩ (j)).1).z⟩).y, (fadd ⟨((fm k ⟨x, y, z⟩ (j)).1).x, ((fm k ⟨x, y, z⟩ (j)).1).y, ((fm k ⟨x, y, z⟩ (j)).1).z⟩ ⟨((fm k ⟨x, y, z⟩ (j)).1).x, ((fm k ⟨x, y, z⟩ (j)).1).y, ((fm k ⟨x, y, z⟩ (j)).1).z⟩).z⟩ ⟨x, y, z⟩).y) ++ gc ((fadd ⟨(fadd ⟨((fm k ⟨x, y, z⟩ (j)).1).x, ((fm k ⟨x, y, z⟩ (j)).1).y, ((fm k ⟨x, y, z⟩ (j)).1).z⟩ ⟨((fm k ⟨x, y, z⟩ (j)).1).x, ((fm k ⟨x, y, z⟩ (j)).1).y, ((fm k ⟨x, y, z⟩ (j)).1).z⟩).x, (fadd ⟨((fm k ⟨x, y, z⟩ (j)).1).x, ((fm k ⟨x, y, z⟩ (j)).1).y, ((fm k ⟨x, y, z⟩ (j)).1).z⟩ ⟨((fm k ⟨x, y, z⟩ (j)).1).x, ((fm k ⟨x, y, z⟩ (j)).1).y, ((fm k ⟨x, y, z⟩ (j)).1).z⟩).y, (fadd ⟨((fm k ⟨x, y, z⟩ (j)).1).x, ((fm k ⟨x, y, z⟩ (j)).1).y, ((fm k ⟨x, y, z⟩ (j)).1).z⟩ ⟨((fm k ⟨x, y, z⟩ (j)).1).x, ((fm k ⟨x, y, z⟩ (j)).1).y, ((fm k ⟨x, y, z⟩ (j)).1).z⟩).z⟩ ⟨x, y, z⟩).z))] ⟨rfl, rfl, rfl, rfl, rfl, trivial⟩ ⟨rfl, rfl, rfl, rfl, trivial⟩ rfl (fun a w h => ?_)
        refine go_end h hm [eS 6 (.val (Value.bool true))] (by kernel_rfl) ⟨
          fun L u => u_move u (gd0 rfl) 6 rfl (.const (.bool true)) (Or.inr rfl) rfl,
          trivial⟩ [(2, .ptr 2 0), (3, .ptr 3 0), (4, .ptr 4 0), (5, .ptr 5 0), (6, .val (Value.bool true)), (7, .val (Value.int .i64 (255 - ((j : Nat) : Int))))] [(2, nc ((k : Int))), (3, gc (x) ++ gc (y) ++ gc (z)), (4, nz ++ nz ++ nz), (5, gc ((fadd ⟨(fadd ⟨((fm k ⟨x, y, z⟩ (j)).1).x, ((fm k ⟨x, y, z⟩ (j)).1).y, ((fm k ⟨x, y, z⟩ (j)).1).z⟩ ⟨((fm k ⟨x, y, z⟩ (j)).1).x, ((fm k ⟨x, y, z⟩ (j)).1).y, ((fm k ⟨x, y, z⟩ (j)).1).z⟩).x, (fadd ⟨((fm k ⟨x, y, z⟩ (j)).1).x, ((fm k ⟨x, y, z⟩ (j)).1).y, ((fm k ⟨x, y, z⟩ (j)).1).z⟩ ⟨((fm k ⟨x, y, z⟩ (j)).1).x, ((fm k ⟨x, y, z⟩ (j)).1).y, ((fm k ⟨x, y, z⟩ (j)).1).z⟩).y, (fadd ⟨((fm k ⟨x, y, z⟩ (j)).1).x, ((fm k ⟨x, y, z⟩ (j)).1).y, ((fm k ⟨x, y, z⟩ (j)).1).z⟩ ⟨((fm k ⟨x, y, z⟩ (j)).1).x, ((fm k ⟨x, y, z⟩ (j)).1).y, ((fm k ⟨x, y, z⟩ (j)).1).z⟩).z⟩ ⟨x, y, z⟩).x) ++ gc ((fadd ⟨(fadd ⟨((fm k ⟨x, y, z⟩ (j)).1).x, ((fm k ⟨x, y, z⟩ (j)).1).y, ((fm k ⟨x, y, z⟩ (j)).1).z⟩ ⟨((fm k ⟨x, y, z⟩ (j)).1).x, ((fm k ⟨x, y, z⟩ (j)).1).y, ((fm k ⟨x, y, z⟩ (j)).1).z⟩).x, (fadd ⟨((fm k ⟨x, y, z⟩ (j)).1).x, ((fm k ⟨x, y, z⟩ (j)).1).y, ((fm k ⟨x, y, z⟩ (j)).1).z⟩ ⟨((fm k ⟨x, y, z⟩ (j)).1).x, ((fm k ⟨x, y, z⟩ (j)).1).y, ((fm k ⟨x, y, z⟩ (j)).1).z⟩).y, (fadd ⟨((fm k ⟨x, y, z⟩ (j)).1).x, ((fm k ⟨x, y, z⟩ (j)).1).y, ((fm k ⟨x, y, z⟩ (j)).1).z⟩ ⟨((fm k ⟨x, y, z⟩ (j)).1).x, ((fm k ⟨x, y, z⟩ (j)).1).y, ((fm k ⟨x, y, z⟩ (j)).1).z⟩).z⟩ ⟨x, y, z⟩).y) ++ gc ((fadd ⟨(fadd ⟨((fm k ⟨x, y, z⟩ (j)).1).x, ((fm k ⟨x, y, z⟩ (j)).1).y, ((fm k ⟨x, y, z⟩ (j)).1).z⟩ ⟨((fm k ⟨x, y, z⟩ (j)).1).x, ((fm k ⟨x, y, z⟩ (j)).1).y, ((fm k ⟨x, y, z⟩ (j)).1).z⟩).x, (fadd ⟨((fm k ⟨x, y, z⟩ (j)).1).x, ((fm k ⟨x, y, z⟩ (j)).1).y, ((fm k ⟨x, y, z⟩ (j)).1).z⟩ ⟨((fm k ⟨x, y, z⟩ (j)).1).x, ((fm k ⟨x, y, z⟩ (j)).1).y, ((fm k ⟨x, y, z⟩ (j)).1).z⟩).y, (fadd ⟨((fm k ⟨x, y, z⟩ (j)).1).x, ((fm k ⟨x, y, z⟩ (j)).1).y, ((fm k ⟨x, y, z⟩ (j)).1).z⟩ ⟨((fm k ⟨x, y, z⟩ (j)).1).x, ((fm k ⟨x, y, z⟩ (j)).1).y, ((fm k ⟨x, y, z⟩ (j)).1).z⟩).z⟩ ⟨x, y, z⟩).z))] ⟨rfl, rfl, rfl, rfl, rfl, rfl, trivial⟩ ⟨rfl, rfl, rfl, rfl, trivial⟩ rfl (fun a w h => ?_)
        refine blk_norm ?_
        refine then_norm ?_
        refine go_end h hm [eS 12 (.val (Value.int .i64 (255 - ((j : Nat) : Int)))), eS 13 (.val (Value.int .i64 (255 - ((j + 1 : Nat) : Int)))), eS 7 (.val (Value.int .i64 (255 - ((j + 1 : Nat) : Int))))] (by kernel_rfl) ⟨
          fun L u => u_move u (gd0 rfl) 12 rfl (.tmp 7) (Or.inl rfl) rfl,
          fun L u => u_bin u (gd0 rfl) 13 rfl .sub 3 3 (.tmp 12) (.const (.int .i64 1)) rfl rfl rfl (eqg_int _ _ _ _ _ _ _ _) (Value.int .i64 (255 - ((j + 1 : Nat) : Int))) (fun w => i_sub _ _ _ _ (by omega) (by omega) w),
          fun L u => u_move u (gd0 rfl) 7 rfl (.tmp 13) (Or.inr rfl) rfl,
          trivial⟩ [(2, .ptr 2 0), (3, .ptr 3 0), (4, .ptr 4 0), (5, .ptr 5 0), (6, .val (Value.bool true)), (7, .val (Value.int .i64 (255 - ((j + 1 : Nat) : Int))))] [(2, nc ((k : Int))), (3, gc (x) ++ gc (y) ++ gc (z)), (4, nz ++ nz ++ nz), (5, gc ((fadd ⟨(fadd ⟨((fm k ⟨x, y, z⟩ (j)).1).x, ((fm k ⟨x, y, z⟩ (j)).1).y, ((fm k ⟨x, y, z⟩ (j)).1).z⟩ ⟨((fm k ⟨x, y, z⟩ (j)).1).x, ((fm k ⟨x, y, z⟩ (j)).1).y, ((fm k ⟨x, y, z⟩ (j)).1).z⟩).x, (fadd ⟨((fm k ⟨x, y, z⟩ (j)).1).x, ((fm k ⟨x, y, z⟩ (j)).1).y, ((fm k ⟨x, y, z⟩ (j)).1).z⟩ ⟨((fm k ⟨x, y, z⟩ (j)).1).x, ((fm k ⟨x, y, z⟩ (j)).1).y, ((fm k ⟨x, y, z⟩ (j)).1).z⟩).y, (fadd ⟨((fm k ⟨x, y, z⟩ (j)).1).x, ((fm k ⟨x, y, z⟩ (j)).1).y, ((fm k ⟨x, y, z⟩ (j)).1).z⟩ ⟨((fm k ⟨x, y, z⟩ (j)).1).x, ((fm k ⟨x, y, z⟩ (j)).1).y, ((fm k ⟨x, y, z⟩ (j)).1).z⟩).z⟩ ⟨x, y, z⟩).x) ++ gc ((fadd ⟨(fadd ⟨((fm k ⟨x, y, z⟩ (j)).1).x, ((fm k ⟨x, y, z⟩ (j)).1).y, ((fm k ⟨x, y, z⟩ (j)).1).z⟩ ⟨((fm k ⟨x, y, z⟩ (j)).1).x, ((fm k ⟨x, y, z⟩ (j)).1).y, ((fm k ⟨x, y, z⟩ (j)).1).z⟩).x, (fadd ⟨((fm k ⟨x, y, z⟩ (j)).1).x, ((fm k ⟨x, y, z⟩ (j)).1).y, ((fm k ⟨x, y, z⟩ (j)).1).z⟩ ⟨((fm k ⟨x, y, z⟩ (j)).1).x, ((fm k ⟨x, y, z⟩ (j)).1).y, ((fm k ⟨x, y, z⟩ (j)).1).z⟩).y, (fadd ⟨((fm k ⟨x, y, z⟩ (j)).1).x, ((fm k ⟨x, y, z⟩ (j)).1).y, ((fm k ⟨x, y, z⟩ (j)).1).z⟩ ⟨((fm k ⟨x, y, z⟩ (j)).1).x, ((fm k ⟨x, y, z⟩ (j)).1).y, ((fm k ⟨x, y, z⟩ (j)).1).z⟩).z⟩ ⟨x, y, z⟩).y) ++ gc ((fadd ⟨(fadd ⟨((fm k ⟨x, y, z⟩ (j)).1).x, ((fm k ⟨x, y, z⟩ (j)).1).y, ((fm k ⟨x, y, z⟩ (j)).1).z⟩ ⟨((fm k ⟨x, y, z⟩ (j)).1).x, ((fm k ⟨x, y, z⟩ (j)).1).y, ((fm k ⟨x, y, z⟩ (j)).1).z⟩).x, (fadd ⟨((fm k ⟨x, y, z⟩ (j)).1).x, ((fm k ⟨x, y, z⟩ (j)).1).y, ((fm k ⟨x, y, z⟩ (j)).1).z⟩ ⟨((fm k ⟨x, y, z⟩ (j)).1).x, ((fm k ⟨x, y, z⟩ (j)).1).y, ((fm k ⟨x, y, z⟩ (j)).1).z⟩).y, (fadd ⟨((fm k ⟨x, y, z⟩ (j)).1).x, ((fm k ⟨x, y, z⟩ (j)).1).y, ((fm k ⟨x, y, z⟩ (j)).1).z⟩ ⟨((fm k ⟨x, y, z⟩ (j)).1).x, ((fm k ⟨x, y, z⟩ (j)).1).y, ((fm k ⟨x, y, z⟩ (j)).1).z⟩).z⟩ ⟨x, y, z⟩).z))] ⟨rfl, rfl, rfl, rfl, rfl, rfl, trivial⟩ ⟨rfl, rfl, rfl, rfl, trivial⟩ rfl (fun a w h => ?_)
        refine then_norm ?_
        exact ⟨j + 1, (by omega), (by omega), h.keep [(2, .ptr 2 0), (3, .ptr 3 0), (4, .ptr 4 0), (5, .ptr 5 0), (6, .val (Value.bool ((fm k ⟨x, y, z⟩ (j + 1)).2))), (7, .val (Value.int .i64 (255 - ((j + 1 : Nat) : Int))))] [(2, nc ((k : Int))), (3, gc (x) ++ gc (y) ++ gc (z)), (4, nz ++ nz ++ nz), (5, gc (((fm k ⟨x, y, z⟩ (j + 1)).1).x) ++ gc (((fm k ⟨x, y, z⟩ (j + 1)).1).y) ++ gc (((fm k ⟨x, y, z⟩ (j + 1)).1).z))] ⟨rfl, rfl, rfl, rfl, (by rw [fm_succ, if_pos hb]; rfl), rfl, trivial⟩ ⟨rfl, rfl, rfl, (by rw [fm_succ, if_pos hb, if_pos hg]; rfl), trivial⟩ rfl⟩
      · skip
        rw [hg] at h
        refine wp_seq ?_
        refine go_region h hm [eS 10 (.val (Value.int .i64 (255 - ((j : Nat) : Int)))), eS 11 (.val (Value.bool true))] (by kernel_rfl) ⟨
          fun L u => u_move u (gd0 rfl) 10 rfl (.tmp 7) (Or.inl rfl) rfl,
          fun L u => u_bin u (gd0 rfl) 11 rfl .geq 3 3 (.tmp 10) (.const (.int .i64 0)) rfl rfl rfl (eqg_int _ _ _ _ _ _ _ _) (Value.bool true) (yes_of (fun w => i_geq _ _ _ _ w) (by omega)),
          trivial⟩ [(2, .ptr 2 0), (3, .ptr 3 0), (4, .ptr 4 0), (5, .ptr 5 0), (6, .val (Value.bool true)), (7, .val (Value.int .i64 (255 - ((j : Nat) : Int)))), (11, .val (Value.bool true))] [(2, nc ((k : Int))), (3, gc (x) ++ gc (y) ++ gc (z)), (4, nz ++ nz ++ nz), (5, gc (((fm k ⟨x, y, z⟩ (j)).1).x) ++ gc (((fm k ⟨x, y, z⟩ (j)).1).y) ++ gc (((fm k ⟨x, y, z⟩ (j)).1).z))] ⟨rfl, rfl, rfl, rfl, rfl, rfl, rfl, trivial⟩ ⟨rfl, rfl, rfl, rfl, trivial⟩ rfl (fun a w h => ?_)
        refine go_cond h true rfl (fun ht => ?_) (fun hf => ?_)
        case refine_2 => cases hf
        refine wp_skip ?_
        refine then_norm ?_
        refine wp_seq ?_
        refine wp_block ?_
        refine wp_seq ?_
        refine go_region h hm [eS 14 (.val (Value.bool true))] (by kernel_rfl) ⟨
          fun L u => u_move u (gd0 rfl) 14 rfl (.tmp 6) (Or.inl rfl) rfl,
          trivial⟩ [(2, .ptr 2 0), (3, .ptr 3 0), (4, .ptr 4 0), (5, .ptr 5 0), (6, .val (Value.bool true)), (7, .val (Value.int .i64 (255 - ((j : Nat) : Int)))), (14, .val (Value.bool true))] [(2, nc ((k : Int))), (3, gc (x) ++ gc (y) ++ gc (z)), (4, nz ++ nz ++ nz), (5, gc (((fm k ⟨x, y, z⟩ (j)).1).x) ++ gc (((fm k ⟨x, y, z⟩ (j)).1).y) ++ gc (((fm k ⟨x, y, z⟩ (j)).1).z))] ⟨rfl, rfl, rfl, rfl, rfl, rfl, rfl, trivial⟩ ⟨rfl, rfl, rfl, rfl, trivial⟩ rfl (fun a w h => ?_)
        refine go_cond h true rfl (fun ht => ?_) (fun hf => ?_)
        case refine_2 => cases hf
        refine go_end h hm [eS 15 (.val (.agg (gc (((fm k ⟨x, y, z⟩ (j)).1).x) ++ gc (((fm k ⟨x, y, z⟩ (j)).1).y) ++ gc (((fm k ⟨x, y, z⟩ (j)).1).z)).toArray)), eS 16 (.val (.agg (gc (((fm k ⟨x, y, z⟩ (j)).1).x) ++ gc (((fm k ⟨x, y, z⟩ (j)).1).y) ++ gc (((fm k ⟨x, y, z⟩ (j)).1).z)).toArray)), eS 17 (.val (.agg (gc ((fadd ⟨((fm k ⟨x, y, z⟩ (j)).1).x, ((fm k ⟨x, y, z⟩ (j)).1).y, ((fm k ⟨x, y, z⟩ (j)).1).z⟩ ⟨((fm k ⟨x, y, z⟩ (j)).1).x, ((fm k ⟨x, y, z⟩ (j)).1).y, ((fm k ⟨x, y, z⟩ (j)).1).z⟩).x) ++ gc ((fadd ⟨((fm k ⟨x, y, z⟩ (j)).1).x, ((fm k ⟨x, y, z⟩ (j)).1).y, ((fm k ⟨x, y, z⟩ (j)).1).z⟩ ⟨((fm k ⟨x, y, z⟩ (j)).1).x, ((fm k ⟨x, y, z⟩ (j)).1).y, ((fm k ⟨x, y, z⟩ (j)).1).z⟩).y) ++ gc ((fadd ⟨((fm k ⟨x, y, z⟩ (j)).1).x, ((fm k ⟨x, y, z⟩ (j)).1).y, ((fm k ⟨x, y, z⟩ (j)).1).z⟩ ⟨((fm k ⟨x, y, z⟩ (j)).1).x, ((fm k ⟨x, y, z⟩ (j)).1).y, ((fm k ⟨x, y, z⟩ (j)).1).z⟩).z)).toArray)), eM 5 (gc ((fadd ⟨((fm k ⟨x, y, z⟩ (j)).1).x, ((fm k ⟨x, y, z⟩ (j)).1).y, ((fm k ⟨x, y, z⟩ (j)).1).z⟩ ⟨((fm k ⟨x, y, z⟩ (j)).1).x, ((fm k ⟨x, y, z⟩ (j)).1).y, ((fm k ⟨x, y, z⟩ (j)).1).z⟩).x) ++ gc ((fadd ⟨((fm k ⟨x, y, z⟩ (j)).1).x, ((fm k ⟨x, y, z⟩ (j)).1).y, ((fm k ⟨x, y, z⟩ (j)).1).z⟩ ⟨((fm k ⟨x, y, z⟩ (j)).1).x, ((fm k ⟨x, y, z⟩ (j)).1).y, ((fm k ⟨x, y, z⟩ (j)).1).z⟩).y) ++ gc ((fadd ⟨((fm k ⟨x, y, z⟩ (j)).1).x, ((fm k ⟨x, y, z⟩ (j)).1).y, ((fm k ⟨x, y, z⟩ (j)).1).z⟩ ⟨((fm k ⟨x, y, z⟩ (j)).1).x, ((fm k ⟨x, y, z⟩ (j)).1).y, ((fm k ⟨x, y, z⟩ (j)).1).z⟩).z))] (by kernel_rfl) ⟨
          fun L u => u_load u (gd0 rfl) 15 rfl 59 (.tmp 5) rfl rfl rfl Tryd.underlying59 rfl i59 (lk rfl) _ rfl,
          fun L u => u_load u (gd0 rfl) 16 rfl 59 (.tmp 5) rfl rfl rfl Tryd.underlying59 rfl i59 (lk rfl) _ rfl,
          fun L u => u_call u (gd0 rfl) 17 rfl 43 #[(.tmp 15), (.tmp 16)] #[59, 59] rfl [.agg (gc (((fm k ⟨x, y, z⟩ (j)).1).x) ++ gc (((fm k ⟨x, y, z⟩ (j)).1).y) ++ gc (((fm k ⟨x, y, z⟩ (j)).1).z)).toArray, .agg (gc (((fm k ⟨x, y, z⟩ (j)).1).x) ++ gc (((fm k ⟨x, y, z⟩ (j)).1).y) ++ gc (((fm k ⟨x, y, z⟩ (j)).1).z)).toArray] rfl (cE43 _) (.agg (gc ((fadd ⟨((fm k ⟨x, y, z⟩ (j)).1).x, ((fm k ⟨x, y, z⟩ (j)).1).y, ((fm k ⟨x, y, z⟩ (j)).1).z⟩ ⟨((fm k ⟨x, y, z⟩ (j)).1).x, ((fm k ⟨x, y, z⟩ (j)).1).y, ((fm k ⟨x, y, z⟩ (j)).1).z⟩).x) ++ gc ((fadd ⟨((fm k ⟨x, y, z⟩ (j)).1).x, ((fm k ⟨x, y, z⟩ (j)).1).y, ((fm k ⟨x, y, z⟩ (j)).1).z⟩ ⟨((fm k ⟨x, y, z⟩ (j)).1).x, ((fm k ⟨x, y, z⟩ (j)).1).y, ((fm k ⟨x, y, z⟩ (j)).1).z⟩).y) ++ gc ((fadd ⟨((fm k ⟨x, y, z⟩ (j)).1).x, ((fm k ⟨x, y, z⟩ (j)).1).y, ((fm k ⟨x, y, z⟩ (j)).1).z⟩ ⟨((fm k ⟨x, y, z⟩ (j)).1).x, ((fm k ⟨x, y, z⟩ (j)).1).y, ((fm k ⟨x, y, z⟩ (j)).1).z⟩).z)).toArray) (fun w hb => s_plus (hT.keep (Bs.kp_of hb)) _ _ _ _ _ _),
          fun L u => u_store u (gd0 rfl) 59 (.tmp 5) (.tmp 17) rfl rfl rfl (vs := gc ((fadd ⟨((fm k ⟨x, y, z⟩ (j)).1).x, ((fm k ⟨x, y, z⟩ (j)).1).y, ((fm k ⟨x, y, z⟩ (j)).1).z⟩ ⟨((fm k ⟨x, y, z⟩ (j)).1).x, ((fm k ⟨x, y, z⟩ (j)).1).y, ((fm k ⟨x, y, z⟩ (j)).1).z⟩).x) ++ gc ((fadd ⟨((fm k ⟨x, y, z⟩ (j)).1).x, ((fm k ⟨x, y, z⟩ (j)).1).y, ((fm k ⟨x, y, z⟩ (j)).1).z⟩ ⟨((fm k ⟨x, y, z⟩ (j)).1).x, ((fm k ⟨x, y, z⟩ (j)).1).y, ((fm k ⟨x, y, z⟩ (j)).1).z⟩).y) ++ gc ((fadd ⟨((fm k ⟨x, y, z⟩ (j)).1).x, ((fm k ⟨x, y, z⟩ (j)).1).y, ((fm k ⟨x, y, z⟩ (j)).1).z⟩ ⟨((fm k ⟨x, y, z⟩ (j)).1).x, ((fm k ⟨x, y, z⟩ (j)).1).y, ((fm k ⟨x, y, z⟩ (j)).1).z⟩).z)) rfl rfl i59 (lk rfl) rfl _ rfl,
          trivial⟩ [(2, .ptr 2 0), (3, .ptr 3 0), (4, .ptr 4 0), (5, .ptr 5 0), (6, .val (Value.bool true)), (7, .val (Value.int .i64 (255 - ((j : Nat) : Int))))] [(2, nc ((k : Int))), (3, gc (x) ++ gc (y) ++ gc (z)), (4, nz ++ nz ++ nz), (5, gc ((fadd ⟨((fm k ⟨x, y, z⟩ (j)).1).x, ((fm k ⟨x, y, z⟩ (j)).1).y, ((fm k ⟨x, y, z⟩ (j)).1).z⟩ ⟨((fm k ⟨x, y, z⟩ (j)).1).x, ((fm k ⟨x, y, z⟩ (j)).1).y, ((fm k ⟨x, y, z⟩ (j)).1).z⟩).x) ++ gc ((fadd ⟨((fm k ⟨x, y, z⟩ (j)).1).x, ((fm k ⟨x, y, z⟩ (j)).1).y, ((fm k ⟨x, y, z⟩ (j)).1).z⟩ ⟨((fm k ⟨x, y, z⟩ (j)).1).x, ((fm k ⟨x, y, z⟩ (j)).1).y, ((fm k ⟨x, y, z⟩ (j)).1).z⟩).y) ++ gc ((fadd ⟨((fm k ⟨x, y, z⟩ (j)).1).x, ((fm k ⟨x, y, z⟩ (j)).1).y, ((fm k ⟨x, y, z⟩ (j)).1).z⟩ ⟨((fm k ⟨x, y, z⟩ (j)).1).x, ((fm k ⟨x, y, z⟩ (j)).1).y, ((fm k ⟨x, y, z⟩ (j)).1).z⟩).z))] ⟨rfl, rfl, rfl, rfl, rfl, rfl, trivial⟩ ⟨rfl, rfl, rfl, rfl, trivial⟩ rfl (fun a w h => ?_)
        refine then_norm ?_
        refine go_region h hm [eS 18 (.val (.agg (nc ((k : Int))).toArray)), eS 19 (.val (Value.int .i64 (255 - ((j : Nat) : Int)))), eS 20 (.val (Value.int .i64 ((k / 2 ^ (255 - j) % 2 : Nat) : Int))), eS 21 (.val (Value.bool false))] (by kernel_rfl) ⟨
          fun L u => u_load u (gd0 rfl) 18 rfl 24 (.tmp 2) rfl rfl rfl Tryd.underlying24 rfl i24 (lk rfl) _ rfl,
          fun L u => u_move u (gd0 rfl) 19 rfl (.tmp 7) (Or.inl rfl) rfl,
          fun L u => u_call u (gd0 rfl) 20 rfl 69 #[(.tmp 18), (.tmp 19)] #[24, 3] rfl [.agg (nc ((k : Int))).toArray, Value.int .i64 (255 - ((j : Nat) : Int))] rfl (cE69 _) (Value.int .i64 ((k / 2 ^ (255 - j) % 2 : Nat) : Int)) (fun w hb => by have := s_bit (w := w) k (255 - j) (by omega); rw [show (((255 - j : Nat)) : Int) = 255 - (j : Int) by omega] at this; exact this),
          fun L u => u_bin u (gd0 rfl) 21 rfl .eql 3 3 (.tmp 20) (.const (.int .i64 1)) rfl rfl rfl (eqg_int _ _ _ _ _ _ _ _) (Value.bool false) (no_of (fun w => i_eql _ _ _ _ w) (by omega)),
          trivial⟩ [(2, .ptr 2 0), (3, .ptr 3 0), (4, .ptr 4 0), (5, .ptr 5 0), (6, .val (Value.bool true)), (7, .val (Value.int .i64 (255 - ((j : Nat) : Int)))), (21, .val (Value.bool false))] [(2, nc ((k : Int))), (3, gc (x) ++ gc (y) ++ gc (z)), (4, nz ++ nz ++ nz), (5, gc ((fadd ⟨((fm k ⟨x, y, z⟩ (j)).1).x, ((fm k ⟨x, y, z⟩ (j)).1).y, ((fm k ⟨x, y, z⟩ (j)).1).z⟩ ⟨((fm k ⟨x, y, z⟩ (j)).1).x, ((fm k ⟨x, y, z⟩ (j)).1).y, ((fm k ⟨x, y, z⟩ (j)).1).z⟩).x) ++ gc ((fadd ⟨((fm k ⟨x, y, z⟩ (j)).1).x, ((fm k ⟨x, y, z⟩ (j)).1).y, ((fm k ⟨x, y, z⟩ (j)).1).z⟩ ⟨((fm k ⟨x, y, z⟩ (j)).1).x, ((fm k ⟨x, y, z⟩ (j)).1).y, ((fm k ⟨x, y, z⟩ (j)).1).z⟩).y) ++ gc ((fadd ⟨((fm k ⟨x, y, z⟩ (j)).1).x, ((fm k ⟨x, y, z⟩ (j)).1).y, ((fm k ⟨x, y, z⟩ (j)).1).z⟩ ⟨((fm k ⟨x, y, z⟩ (j)).1).x, ((fm k ⟨x, y, z⟩ (j)).1).y, ((fm k ⟨x, y, z⟩ (j)).1).z⟩).z))] ⟨rfl, rfl, rfl, rfl, rfl, rfl, rfl, trivial⟩ ⟨rfl, rfl, rfl, rfl, trivial⟩ rfl (fun a w h => ?_)
        refine go_cond h false rfl (fun ht => ?_) (fun hf => ?_)
        case refine_1 => cases ht
        refine wp_skip ?_
        refine blk_norm ?_
        refine then_norm ?_
        refine go_end h hm [eS 12 (.val (Value.int .i64 (255 - ((j : Nat) : Int)))), eS 13 (.val (Value.int .i64 (255 - ((j + 1 : Nat) : Int)))), eS 7 (.val (Value.int .i64 (255 - ((j + 1 : Nat) : Int))))] (by kernel_rfl) ⟨
          fun L u => u_move u (gd0 rfl) 12 rfl (.tmp 7) (Or.inl rfl) rfl,
          fun L u => u_bin u (gd0 rfl) 13 rfl .sub 3 3 (.tmp 12) (.const (.int .i64 1)) rfl rfl rfl (eqg_int _ _ _ _ _ _ _ _) (Value.int .i64 (255 - ((j + 1 : Nat) : Int))) (fun w => i_sub _ _ _ _ (by omega) (by omega) w),
          fun L u => u_move u (gd0 rfl) 7 rfl (.tmp 13) (Or.inr rfl) rfl,
          trivial⟩ [(2, .ptr 2 0), (3, .ptr 3 0), (4, .ptr 4 0), (5, .ptr 5 0), (6, .val (Value.bool true)), (7, .val (Value.int .i64 (255 - ((j + 1 : Nat) : Int))))] [(2, nc ((k : Int))), (3, gc (x) ++ gc (y) ++ gc (z)), (4, nz ++ nz ++ nz), (5, gc ((fadd ⟨((fm k ⟨x, y, z⟩ (j)).1).x, ((fm k ⟨x, y, z⟩ (j)).1).y, ((fm k ⟨x, y, z⟩ (j)).1).z⟩ ⟨((fm k ⟨x, y, z⟩ (j)).1).x, ((fm k ⟨x, y, z⟩ (j)).1).y, ((fm k ⟨x, y, z⟩ (j)).1).z⟩).x) ++ gc ((fadd ⟨((fm k ⟨x, y, z⟩ (j)).1).x, ((fm k ⟨x, y, z⟩ (j)).1).y, ((fm k ⟨x, y, z⟩ (j)).1).z⟩ ⟨((fm k ⟨x, y, z⟩ (j)).1).x, ((fm k ⟨x, y, z⟩ (j)).1).y, ((fm k ⟨x, y, z⟩ (j)).1).z⟩).y) ++ gc ((fadd ⟨((fm k ⟨x, y, z⟩ (j)).1).x, ((fm k ⟨x, y, z⟩ (j)).1).y, ((fm k ⟨x, y, z⟩ (j)).1).z⟩ ⟨((fm k ⟨x, y, z⟩ (j)).1).x, ((fm k ⟨x, y, z⟩ (j)).1).y, ((fm k ⟨x, y, z⟩ (j)).1).z⟩).z))] ⟨rfl, rfl, rfl, rfl, rfl, rfl, trivial⟩ ⟨rfl, rfl, rfl, rfl, trivial⟩ rfl (fun a w h => ?_)
        refine then_norm ?_
        exact ⟨j + 1, (by omega), (by omega), h.keep [(2, .ptr 2 0), (3, .ptr 3 0), (4, .ptr 4 0), (5, .ptr 5 0), (6, .val (Value.bool ((fm k ⟨x, y, z⟩ (j + 1)).2))), (7, .val (Value.int .i64 (255 - ((j + 1 : Nat) : Int))))] [(2, nc ((k : Int))), (3, gc (x) ++ gc (y) ++ gc (z)), (4, nz ++ nz ++ nz), (5, gc (((fm k ⟨x, y, z⟩ (j + 1)).1).x) ++ gc (((fm k ⟨x, y, z⟩ (j + 1)).1).y) ++ gc (((fm k ⟨x, y, z⟩ (j + 1)).1).z))] ⟨rfl, rfl, rfl, rfl, (by rw [fm_succ, if_neg hb]; exact congrArg (fun t => some (SV.val (Value.bool t))) hg.symm), rfl, trivial⟩ ⟨rfl, rfl, rfl, (by rw [fm_succ, if_neg hb, if_pos hg]; rfl), trivial⟩ rfl⟩
    · skip
      by_cases hb : k / 2 ^ (255 - j) % 2 = 1
      · skip
        rw [Bool.not_eq_true] at hg
        rw [hg] at h
        refine wp_seq ?_
        refine go_region h hm [eS 10 (.val (Value.int .i64 (255 - ((j : Nat) : Int)))), eS 11 (.val (Value.bool true))] (by kernel_rfl) ⟨
          fun L u => u_move u (gd0 rfl) 10 rfl (.tmp 7) (Or.inl rfl) rfl,
          fun L u => u_bin u (gd0 rfl) 11 rfl .geq 3 3 (.tmp 10) (.const (.int .i64 0)) rfl rfl rfl (eqg_int _ _ _ _ _ _ _ _) (Value.bool true) (yes_of (fun w => i_geq _ _ _ _ w) (by omega)),
          trivial⟩ [(2, .ptr 2 0), (3, .ptr 3 0), (4, .ptr 4 0), (5, .ptr 5 0), (6, .val (Value.bool false)), (7, .val (Value.int .i64 (255 - ((j : Nat) : Int)))), (11, .val (Value.bool true))] [(2, nc ((k : Int))), (3, gc (x) ++ gc (y) ++ gc (z)), (4, nz ++ nz ++ nz), (5, gc (((fm k ⟨x, y, z⟩ (j)).1).x) ++ gc (((fm k ⟨x, y, z⟩ (j)).1).y) ++ gc (((fm k ⟨x, y, z⟩ (j)).1).z))] ⟨rfl, rfl, rfl, rfl, rfl, rfl, rfl, trivial⟩ ⟨rfl, rfl, rfl, rfl, trivial⟩ rfl (fun a w h => ?_)
        refine go_cond h true rfl (fun ht => ?_) (fun hf => ?_)
        case refine_2 => cases hf
        refine wp_skip ?_
        refine then_norm ?_
        refine wp_seq ?_
        refine wp_block ?_
        refine wp_seq ?_
        refine go_region h hm [eS 14 (.val (Value.bool false))] (by kernel_rfl) ⟨
          fun L u => u_move u (gd0 rfl) 14 rfl (.tmp 6) (Or.inl rfl) rfl,
          trivial⟩ [(2, .ptr 2 0), (3, .ptr 3 0), (4, .ptr 4 0), (5, .ptr 5 0), (6, .val (Value.bool false)), (7, .val (Value.int .i64 (255 - ((j : Nat) : Int)))), (14, .val (Value.bool false))] [(2, nc ((k : Int))), (3, gc (x) ++ gc (y) ++ gc (z)), (4, nz ++ nz ++ nz), (5, gc (((fm k ⟨x, y, z⟩ (j)).1).x) ++ gc (((fm k ⟨x, y, z⟩ (j)).1).y) ++ gc (((fm k ⟨x, y, z⟩ (j)).1).z))] ⟨rfl, rfl, rfl, rfl, rfl, rfl, rfl, trivial⟩ ⟨rfl, rfl, rfl, rfl, trivial⟩ rfl (fun a w h => ?_)
        refine go_cond h false rfl (fun ht => ?_) (fun hf => ?_)
        case refine_1 => cases ht
        refine wp_skip ?_
        refine then_norm ?_
        refine go_region h hm [eS 18 (.val (.agg (nc ((k : Int))).toArray)), eS 19 (.val (Value.int .i64 (255 - ((j : Nat) : Int)))), eS 20 (.val (Value.int .i64 ((k / 2 ^ (255 - j) % 2 : Nat) : Int))), eS 21 (.val (Value.bool true))] (by kernel_rfl) ⟨
          fun L u => u_load u (gd0 rfl) 18 rfl 24 (.tmp 2) rfl rfl rfl Tryd.underlying24 rfl i24 (lk rfl) _ rfl,
          fun L u => u_move u (gd0 rfl) 19 rfl (.tmp 7) (Or.inl rfl) rfl,
          fun L u => u_call u (gd0 rfl) 20 rfl 69 #[(.tmp 18), (.tmp 19)] #[24, 3] rfl [.agg (nc ((k : Int))).toArray, Value.int .i64 (255 - ((j : Nat) : Int))] rfl (cE69 _) (Value.int .i64 ((k / 2 ^ (255 - j) % 2 : Nat) : Int)) (fun w hb => by have := s_bit (w := w) k (255 - j) (by omega); rw [show (((255 - j : Nat)) : Int) = 255 - (j : Int) by omega] at this; exact this),
          fun L u => u_bin u (gd0 rfl) 21 rfl .eql 3 3 (.tmp 20) (.const (.int .i64 1)) rfl rfl rfl (eqg_int _ _ _ _ _ _ _ _) (Value.bool true) (yes_of (fun w => i_eql _ _ _ _ w) (by omega)),
          trivial⟩ [(2, .ptr 2 0), (3, .ptr 3 0), (4, .ptr 4 0), (5, .ptr 5 0), (6, .val (Value.bool false)), (7, .val (Value.int .i64 (255 - ((j : Nat) : Int)))), (21, .val (Value.bool true))] [(2, nc ((k : Int))), (3, gc (x) ++ gc (y) ++ gc (z)), (4, nz ++ nz ++ nz), (5, gc (((fm k ⟨x, y, z⟩ (j)).1).x) ++ gc (((fm k ⟨x, y, z⟩ (j)).1).y) ++ gc (((fm k ⟨x, y, z⟩ (j)).1).z))] ⟨rfl, rfl, rfl, rfl, rfl, rfl, rfl, trivial⟩ ⟨rfl, rfl, rfl, rfl, trivial⟩ rfl (fun a w h => ?_)
        refine go_cond h true rfl (fun ht => ?_) (fun hf => ?_)
        case refine_2 => cases hf
        refine go_region h hm [eS 22 (.val (.agg (gc (((fm k ⟨x, y, z⟩ (j)).1).x) ++ gc (((fm k ⟨x, y, z⟩ (j)).1).y) ++ gc (((fm k ⟨x, y, z⟩ (j)).1).z)).toArray)), eS 23 (.val (.agg (gc (x) ++ gc (y) ++ gc (z)).toArray)), eS 24 (.val (.agg (gc ((fadd ⟨((fm k ⟨x, y, z⟩ (j)).1).x, ((fm k ⟨x, y, z⟩ (j)).1).y, ((fm k ⟨x, y, z⟩ (j)).1).z⟩ ⟨x, y, z⟩).x) ++ gc ((fadd ⟨((fm k ⟨x, y, z⟩ (j)).1).x, ((fm k ⟨x, y, z⟩ (j)).1).y, ((fm k ⟨x, y, z⟩ (j)).1).z⟩ ⟨x, y, z⟩).y) ++ gc ((fadd ⟨((fm k ⟨x, y, z⟩ (j)).1).x, ((fm k ⟨x, y, z⟩ (j)).1).y, ((fm k ⟨x, y, z⟩ (j)).1).z⟩ ⟨x, y, z⟩).z)).toArray)), eM 5 (gc ((fadd ⟨((fm k ⟨x, y, z⟩ (j)).1).x, ((fm k ⟨x, y, z⟩ (j)).1).y, ((fm k ⟨x, y, z⟩ (j)).1).z⟩ ⟨x, y, z⟩).x) ++ gc ((fadd ⟨((fm k ⟨x, y, z⟩ (j)).1).x, ((fm k ⟨x, y, z⟩ (j)).1).y, ((fm k ⟨x, y, z⟩ (j)).1).z⟩ ⟨x, y, z⟩).y) ++ gc ((fadd ⟨((fm k ⟨x, y, z⟩ (j)).1).x, ((fm k ⟨x, y, z⟩ (j)).1).y, ((fm k ⟨x, y, z⟩ (j)).1).z⟩ ⟨x, y, z⟩).z))] (by kernel_rfl) ⟨
          fun L u => u_load u (gd0 rfl) 22 rfl 59 (.tmp 5) rfl rfl rfl Tryd.underlying59 rfl i59 (lk rfl) _ rfl,
          fun L u => u_load u (gd0 rfl) 23 rfl 59 (.tmp 3) rfl rfl rfl Tryd.underlying59 rfl i59 (lk rfl) _ rfl,
          fun L u => u_call u (gd0 rfl) 24 rfl 43 #[(.tmp 22), (.tmp 23)] #[59, 59] rfl [.agg (gc (((fm k ⟨x, y, z⟩ (j)).1).x) ++ gc (((fm k ⟨x, y, z⟩ (j)).1).y) ++ gc (((fm k ⟨x, y, z⟩ (j)).1).z)).toArray, .agg (gc (x) ++ gc (y) ++ gc (z)).toArray] rfl (cE43 _) (.agg (gc ((fadd ⟨((fm k ⟨x, y, z⟩ (j)).1).x, ((fm k ⟨x, y, z⟩ (j)).1).y, ((fm k ⟨x, y, z⟩ (j)).1).z⟩ ⟨x, y, z⟩).x) ++ gc ((fadd ⟨((fm k ⟨x, y, z⟩ (j)).1).x, ((fm k ⟨x, y, z⟩ (j)).1).y, ((fm k ⟨x, y, z⟩ (j)).1).z⟩ ⟨x, y, z⟩).y) ++ gc ((fadd ⟨((fm k ⟨x, y, z⟩ (j)).1).x, ((fm k ⟨x, y, z⟩ (j)).1).y, ((fm k ⟨x, y, z⟩ (j)).1).z⟩ ⟨x, y, z⟩).z)).toArray) (fun w hb => s_plus (hT.keep (Bs.kp_of hb)) _ _ _ _ _ _),
          fun L u => u_store u (gd0 rfl) 59 (.tmp 5) (.tmp 24) rfl rfl rfl (vs := gc ((fadd ⟨((fm k ⟨x, y, z⟩ (j)).1).x, ((fm k ⟨x, y, z⟩ (j)).1).y, ((fm k ⟨x, y, z⟩ (j)).1).z⟩ ⟨x, y, z⟩).x) ++ gc ((fadd ⟨((fm k ⟨x, y, z⟩ (j)).1).x, ((fm k ⟨x, y, z⟩ (j)).1).y, ((fm k ⟨x, y, z⟩ (j)).1).z⟩ ⟨x, y, z⟩).y) ++ gc ((fadd ⟨((fm k ⟨x, y, z⟩ (j)).1).x, ((fm k ⟨x, y, z⟩ (j)).1).y, ((fm k ⟨x, y, z⟩ (j)).1).z⟩ ⟨x, y, z⟩).z)) rfl rfl i59 (lk rfl) rfl _ rfl,
          trivial⟩ [(2, .ptr 2 0), (3, .ptr 3 0), (4, .ptr 4 0), (5, .ptr 5 0), (7, .val (Value.int .i64 (255 - ((j : Nat) : Int))))] [(2, nc ((k : Int))), (3, gc (x) ++ gc (y) ++ gc (z)), (4, nz ++ nz ++ nz), (5, gc ((fadd ⟨((fm k ⟨x, y, z⟩ (j)).1).x, ((fm k ⟨x, y, z⟩ (j)).1).y, ((fm k ⟨x, y, z⟩ (j)).1).z⟩ ⟨x, y, z⟩).x) ++ gc ((fadd ⟨((fm k ⟨x, y, z⟩ (j)).1).x, ((fm k ⟨x, y, z⟩ (j)).1).y, ((fm k ⟨x, y, z⟩ (j)).1).z⟩ ⟨x, y, z⟩).y) ++ gc ((fadd ⟨((fm k ⟨x, y, z⟩ (j)).1).x, ((fm k ⟨x, y, z⟩ (j)).1).y, ((fm k ⟨x, y, z⟩ (j)).1).z⟩ ⟨x, y, z⟩).z))] ⟨rfl, rfl, rfl, rfl, rfl, trivial⟩ ⟨rfl, rfl, rfl, rfl, trivial⟩ rfl (fun a w h => ?_)
        refine go_end h hm [eS 6 (.val (Value.bool true))] (by kernel_rfl) ⟨
          fun L u => u_move u (gd0 rfl) 6 rfl (.const (.bool true)) (Or.inr rfl) rfl,
          trivial⟩ [(2, .ptr 2 0), (3, .ptr 3 0), (4, .ptr 4 0), (5, .ptr 5 0), (6, .val (Value.bool true)), (7, .val (Value.int .i64 (255 - ((j : Nat) : Int))))] [(2, nc ((k : Int))), (3, gc (x) ++ gc (y) ++ gc (z)), (4, nz ++ nz ++ nz), (5, gc ((fadd ⟨((fm k ⟨x, y, z⟩ (j)).1).x, ((fm k ⟨x, y, z⟩ (j)).1).y, ((fm k ⟨x, y, z⟩ (j)).1).z⟩ ⟨x, y, z⟩).x) ++ gc ((fadd ⟨((fm k ⟨x, y, z⟩ (j)).1).x, ((fm k ⟨x, y, z⟩ (j)).1).y, ((fm k ⟨x, y, z⟩ (j)).1).z⟩ ⟨x, y, z⟩).y) ++ gc ((fadd ⟨((fm k ⟨x, y, z⟩ (j)).1).x, ((fm k ⟨x, y, z⟩ (j)).1).y, ((fm k ⟨x, y, z⟩ (j)).1).z⟩ ⟨x, y, z⟩).z))] ⟨rfl, rfl, rfl, rfl, rfl, rfl, trivial⟩ ⟨rfl, rfl, rfl, rfl, trivial⟩ rfl (fun a w h => ?_)
        refine blk_norm ?_
        refine then_norm ?_
        refine go_end h hm [eS 12 (.val (Value.int .i64 (255 - ((j : Nat) : Int)))), eS 13 (.val (Value.int .i64 (255 - ((j + 1 : Nat) : Int)))), eS 7 (.val (Value.int .i64 (255 - ((j + 1 : Nat) : Int))))] (by kernel_rfl) ⟨
          fun L u => u_move u (gd0 rfl) 12 rfl (.tmp 7) (Or.inl rfl) rfl,
          fun L u => u_bin u (gd0 rfl) 13 rfl .sub 3 3 (.tmp 12) (.const (.int .i64 1)) rfl rfl rfl (eqg_int _ _ _ _ _ _ _ _) (Value.int .i64 (255 - ((j + 1 : Nat) : Int))) (fun w => i_sub _ _ _ _ (by omega) (by omega) w),
          fun L u => u_move u (gd0 rfl) 7 rfl (.tmp 13) (Or.inr rfl) rfl,
          trivial⟩ [(2, .ptr 2 0), (3, .ptr 3 0), (4, .ptr 4 0), (5, .ptr 5 0), (6, .val (Value.bool true)), (7, .val (Value.int .i64 (255 - ((j + 1 : Nat) : Int))))] [(2, nc ((k : Int))), (3, gc (x) ++ gc (y) ++ gc (z)), (4, nz ++ nz ++ nz), (5, gc ((fadd ⟨((fm k ⟨x, y, z⟩ (j)).1).x, ((fm k ⟨x, y, z⟩ (j)).1).y, ((fm k ⟨x, y, z⟩ (j)).1).z⟩ ⟨x, y, z⟩).x) ++ gc ((fadd ⟨((fm k ⟨x, y, z⟩ (j)).1).x, ((fm k ⟨x, y, z⟩ (j)).1).y, ((fm k ⟨x, y, z⟩ (j)).1).z⟩ ⟨x, y, z⟩).y) ++ gc ((fadd ⟨((fm k ⟨x, y, z⟩ (j)).1).x, ((fm k ⟨x, y, z⟩ (j)).1).y, ((fm k ⟨x, y, z⟩ (j)).1).z⟩ ⟨x, y, z⟩).z))] ⟨rfl, rfl, rfl, rfl, rfl, rfl, trivial⟩ ⟨rfl, rfl, rfl, rfl, trivial⟩ rfl (fun a w h => ?_)
        refine then_norm ?_
        exact ⟨j + 1, (by omega), (by omega), h.keep [(2, .ptr 2 0), (3, .ptr 3 0), (4, .ptr 4 0), (5, .ptr 5 0), (6, .val (Value.bool ((fm k ⟨x, y, z⟩ (j + 1)).2))), (7, .val (Value.int .i64 (255 - ((j + 1 : Nat) : Int))))] [(2, nc ((k : Int))), (3, gc (x) ++ gc (y) ++ gc (z)), (4, nz ++ nz ++ nz), (5, gc (((fm k ⟨x, y, z⟩ (j + 1)).1).x) ++ gc (((fm k ⟨x, y, z⟩ (j + 1)).1).y) ++ gc (((fm k ⟨x, y, z⟩ (j + 1)).1).z))] ⟨rfl, rfl, rfl, rfl, (by rw [fm_succ, if_pos hb]; rfl), rfl, trivial⟩ ⟨rfl, rfl, rfl, (by rw [fm_succ, if_pos hb, if_neg (by rw [hg]; decide)]; rfl), trivial⟩ rfl⟩
      · skip
        rw [Bool.not_eq_true] at hg
        rw [hg] at h
        refine wp_seq ?_
        refine go_region h hm [eS 10 (.val (Value.int .i64 (255 - ((j : Nat) : Int)))), eS 11 (.val (Value.bool true))] (by kernel_rfl) ⟨
          fun L u => u_move u (gd0 rfl) 10 rfl (.tmp 7) (Or.inl rfl) rfl,
          fun L u => u_bin u (gd0 rfl) 11 rfl .geq 3 3 (.tmp 10) (.const (.int .i64 0)) rfl rfl rfl (eqg_int _ _ _ _ _ _ _ _) (Value.bool true) (yes_of (fun w => i_geq _ _ _ _ w) (by omega)),
          trivial⟩ [(2, .ptr 2 0), (3, .ptr 3 0), (4, .ptr 4 0), (5, .ptr 5 0), (6, .val (Value.bool false)), (7, .val (Value.int .i64 (255 - ((j : Nat) : Int)))), (11, .val (Value.bool true))] [(2, nc ((k : Int))), (3, gc (x) ++ gc (y) ++ gc (z)), (4, nz ++ nz ++ nz), (5, gc (((fm k ⟨x, y, z⟩ (j)).1).x) ++ gc (((fm k ⟨x, y, z⟩ (j)).1).y) ++ gc (((fm k ⟨x, y, z⟩ (j)).1).z))] ⟨rfl, rfl, rfl, rfl, rfl, rfl, rfl, trivial⟩ ⟨rfl, rfl, rfl, rfl, trivial⟩ rfl (fun a w h => ?_)
        refine go_cond h true rfl (fun ht => ?_) (fun hf => ?_)
        case refine_2 => cases hf
        refine wp_skip ?_
        refine then_norm ?_
        refine wp_seq ?_
        refine wp_block ?_
        refine wp_seq ?_
        refine go_region h hm [eS 14 (.val (Value.bool false))] (by kernel_rfl) ⟨
          fun L u => u_move u (gd0 rfl) 14 rfl (.tmp 6) (Or.inl rfl) rfl,
          trivial⟩ [(2, .ptr 2 0), (3, .ptr 3 0), (4, .ptr 4 0), (5, .ptr 5 0), (6, .val (Value.bool false)), (7, .val (Value.int .i64 (255 - ((j : Nat) : Int)))), (14, .val (Value.bool false))] [(2, nc ((k : Int))), (3, gc (x) ++ gc (y) ++ gc (z)), (4, nz ++ nz ++ nz), (5, gc (((fm k ⟨x, y, z⟩ (j)).1).x) ++ gc (((fm k ⟨x, y, z⟩ (j)).1).y) ++ gc (((fm k ⟨x, y, z⟩ (j)).1).z))] ⟨rfl, rfl, rfl, rfl, rfl, rfl, rfl, trivial⟩ ⟨rfl, rfl, rfl, rfl, trivial⟩ rfl (fun a w h => ?_)
        refine go_cond h false rfl (fun ht => ?_) (fun hf => ?_)
        case refine_1 => cases ht
        refine wp_skip ?_
        refine then_norm ?_
        refine go_region h hm [eS 18 (.val (.agg (nc ((k : Int))).toArray)), eS 19 (.val (Value.int .i64 (255 - ((j : Nat) : Int)))), eS 20 (.val (Value.int .i64 ((k / 2 ^ (255 - j) % 2 : Nat) : Int))), eS 21 (.val (Value.bool false))] (by kernel_rfl) ⟨
          fun L u => u_load u (gd0 rfl) 18 rfl 24 (.tmp 2) rfl rfl rfl Tryd.underlying24 rfl i24 (lk rfl) _ rfl,
          fun L u => u_move u (gd0 rfl) 19 rfl (.tmp 7) (Or.inl rfl) rfl,
          fun L u => u_call u (gd0 rfl) 20 rfl 69 #[(.tmp 18), (.tmp 19)] #[24, 3] rfl [.agg (nc ((k : Int))).toArray, Value.int .i64 (255 - ((j : Nat) : Int))] rfl (cE69 _) (Value.int .i64 ((k / 2 ^ (255 - j) % 2 : Nat) : Int)) (fun w hb => by have := s_bit (w := w) k (255 - j) (by omega); rw [show (((255 - j : Nat)) : Int) = 255 - (j : Int) by omega] at this; exact this),
          fun L u => u_bin u (gd0 rfl) 21 rfl .eql 3 3 (.tmp 20) (.const (.int .i64 1)) rfl rfl rfl (eqg_int _ _ _ _ _ _ _ _) (Value.bool false) (no_of (fun w => i_eql _ _ _ _ w) (by omega)),
          trivial⟩ [(2, .ptr 2 0), (3, .ptr 3 0), (4, .ptr 4 0), (5, .ptr 5 0), (6, .val (Value.bool false)), (7, .val (Value.int .i64 (255 - ((j : Nat) : Int)))), (21, .val (Value.bool false))] [(2, nc ((k : Int))), (3, gc (x) ++ gc (y) ++ gc (z)), (4, nz ++ nz ++ nz), (5, gc (((fm k ⟨x, y, z⟩ (j)).1).x) ++ gc (((fm k ⟨x, y, z⟩ (j)).1).y) ++ gc (((fm k ⟨x, y, z⟩ (j)).1).z))] ⟨rfl, rfl, rfl, rfl, rfl, rfl, rfl, trivial⟩ ⟨rfl, rfl, rfl, rfl, trivial⟩ rfl (fun a w h => ?_)
        refine go_cond h false rfl (fun ht => ?_) (fun hf => ?_)
        case refine_1 => cases ht
        refine wp_skip ?_
        refine blk_norm ?_
        refine then_norm ?_
        refine go_end h hm [eS 12 (.val (Value.int .i64 (255 - ((j : Nat) : Int)))), eS 13 (.val (Value.int .i64 (255 - ((j + 1 : Nat) : Int)))), eS 7 (.val (Value.int .i64 (255 - ((j + 1 : Nat) : Int))))] (by kernel_rfl) ⟨
          fun L u => u_move u (gd0 rfl) 12 rfl (.tmp 7) (Or.inl rfl) rfl,
          fun L u => u_bin u (gd0 rfl) 13 rfl .sub 3 3 (.tmp 12) (.const (.int .i64 1)) rfl rfl rfl (eqg_int _ _ _ _ _ _ _ _) (Value.int .i64 (255 - ((j + 1 : Nat) : Int))) (fun w => i_sub _ _ _ _ (by omega) (by omega) w),
          fun L u => u_move u (gd0 rfl) 7 rfl (.tmp 13) (Or.inr rfl) rfl,
          trivial⟩ [(2, .ptr 2 0), (3, .ptr 3 0), (4, .ptr 4 0), (5, .ptr 5 0), (6, .val (Value.bool false)), (7, .val (Value.int .i64 (255 - ((j + 1 : Nat) : Int))))] [(2, nc ((k : Int))), (3, gc (x) ++ gc (y) ++ gc (z)), (4, nz ++ nz ++ nz), (5, gc (((fm k ⟨x, y, z⟩ (j)).1).x) ++ gc (((fm k ⟨x, y, z⟩ (j)).1).y) ++ gc (((fm k ⟨x, y, z⟩ (j)).1).z))] ⟨rfl, rfl, rfl, rfl, rfl, rfl, trivial⟩ ⟨rfl, rfl, rfl, rfl, trivial⟩ rfl (fun a w h => ?_)
        refine then_norm ?_
        exact ⟨j + 1, (by omega), (by omega), h.keep [(2, .ptr 2 0), (3, .ptr 3 0), (4, .ptr 4 0), (5, .ptr 5 0), (6, .val (Value.bool ((fm k ⟨x, y, z⟩ (j + 1)).2))), (7, .val (Value.int .i64 (255 - ((j + 1 : Nat) : Int))))] [(2, nc ((k : Int))), (3, gc (x) ++ gc (y) ++ gc (z)), (4, nz ++ nz ++ nz), (5, gc (((fm k ⟨x, y, z⟩ (j + 1)).1).x) ++ gc (((fm k ⟨x, y, z⟩ (j + 1)).1).y) ++ gc (((fm k ⟨x, y, z⟩ (j + 1)).1).z))] ⟨rfl, rfl, rfl, rfl, (by rw [fm_succ, if_neg hb]; exact congrArg (fun t => some (SV.val (Value.bool t))) hg.symm), rfl, trivial⟩ ⟨rfl, rfl, rfl, (by rw [fm_succ, if_neg hb, if_neg (by rw [hg]; decide)]; rfl), trivial⟩ rfl⟩
  · skip
    refine wp_seq ?_
    refine go_region h hm [eS 10 (.val (Value.int .i64 (255 - ((j : Nat) : Int)))), eS 11 (.val (Value.bool false))] (by kernel_rfl) ⟨
      fun L u => u_move u (gd0 rfl) 10 rfl (.tmp 7) (Or.inl rfl) rfl,
      fun L u => u_bin u (gd0 rfl) 11 rfl .geq 3 3 (.tmp 10) (.const (.int .i64 0)) rfl rfl rfl (eqg_int _ _ _ _ _ _ _ _) (Value.bool false) (no_of (fun w => i_geq _ _ _ _ w) (by omega)),
      trivial⟩ [(2, .ptr 2 0), (3, .ptr 3 0), (4, .ptr 4 0), (5, .ptr 5 0), (6, .val (Value.bool ((fm k ⟨x, y, z⟩ (j)).2))), (7, .val (Value.int .i64 (255 - ((j : Nat) : Int)))), (11, .val (Value.bool false))] [(2, nc ((k : Int))), (3, gc (x) ++ gc (y) ++ gc (z)), (4, nz ++ nz ++ nz), (5, gc (((fm k ⟨x, y, z⟩ (j)).1).x) ++ gc (((fm k ⟨x, y, z⟩ (j)).1).y) ++ gc (((fm k ⟨x, y, z⟩ (j)).1).z))] ⟨rfl, rfl, rfl, rfl, rfl, rfl, rfl, trivial⟩ ⟨rfl, rfl, rfl, rfl, trivial⟩ rfl (fun a w h => ?_)
    refine go_cond h false rfl (fun ht => ?_) (fun hf => ?_)
    case refine_1 => cases ht
    refine wp_exit ?_
    refine then_exit ?_
    refine then_exit ?_
    refine blk_exit ?_
    refine then_norm ?_
    refine go_region h hm [eS 25 (.val (.agg (gc (((fm k ⟨x, y, z⟩ (j)).1).x) ++ gc (((fm k ⟨x, y, z⟩ (j)).1).y) ++ gc (((fm k ⟨x, y, z⟩ (j)).1).z)).toArray)), eM 4 (gc (((fm k ⟨x, y, z⟩ (j)).1).x) ++ gc (((fm k ⟨x, y, z⟩ (j)).1).y) ++ gc (((fm k ⟨x, y, z⟩ (j)).1).z))] (by kernel_rfl) ⟨
      fun L u => u_load u (gd0 rfl) 25 rfl 59 (.tmp 5) rfl rfl rfl Tryd.underlying59 rfl i59 (lk rfl) _ rfl,
      fun L u => u_store u (gd0 rfl) 59 (.tmp 4) (.tmp 25) rfl rfl rfl (vs := gc (((fm k ⟨x, y, z⟩ (j)).1).x) ++ gc (((fm k ⟨x, y, z⟩ (j)).1).y) ++ gc (((fm k ⟨x, y, z⟩ (j)).1).z)) rfl rfl i59 (lk rfl) rfl _ rfl,
      trivial⟩ [(4, .ptr 4 0)] [(4, gc (((fm k ⟨x, y, z⟩ (j)).1).x) ++ gc (((fm k ⟨x, y, z⟩ (j)).1).y) ++ gc (((fm k ⟨x, y, z⟩ (j)).1).z))] ⟨rfl, trivial⟩ ⟨rfl, trivial⟩ rfl (fun a w h => ?_)
    refine wp_ret ?_
    refine ret_row h 4 59 rfl (lk rfl) 4 rfl (gc (((fm k ⟨x, y, z⟩ (j)).1).x) ++ gc (((fm k ⟨x, y, z⟩ (j)).1).y) ++ gc (((fm k ⟨x, y, z⟩ (j)).1).z)) rfl _ Tryd.underlying59 rfl i59 ?_
    exact ⟨by rw [show j = 256 by omega]; rfl, h.grows⟩
/-- The point that two numbers and a truth stand for. -/
def rpE (X Y : Int) (t : Bool) : Ep m2 := if t = false ∧ X < md 2 ∧ Y < md 2 ∧ (kc Y : Fin m2) * kc Y - kc X * kc X = 1 + ed * (kc X * kc X * (kc Y * kc Y)) then ⟨kc X, kc Y⟩ else Ep.o m2
theorem rpE_on (X Y : Int) (t : Bool) : (rpE X Y t).on ed := by
  unfold rpE
  split
  · rename_i h; exact h.2.2.2
  · exact Ep.o_on ed
theorem nc_gc {X : Int} (h0 : 0 ≤ X) (h : X < md 2) : nc X = gc (kc X) := by
  rw [gc, kc_val, ← md_m2, Int.emod_eq_of_lt h0 h]
def rc (X Y : Int) (t : Bool) : List Value := nc X ++ nc Y ++ [Value.bool t]
theorem s_lift {w : World} (hT : Tab w) {X Y : Int} (hX : Num X) (hY : Num Y) (t : Bool) : Calls Tryd.prog 44 [.agg (rc X Y t).toArray].toArray w fun e w' => e = .returned (.agg (fjc (flift (rpE X Y t))).toArray) ∧ Below w.heap.size w w' := by
  cases t with
  | true =>
    rw [show rpE X Y true = Ep.o m2 from if_neg (fun h => by cases h.1)]
    exact s_lift_none
  | false =>
    by_cases h1 : X < md 2
    · by_cases h2 : Y < md 2
      · have e1 := nc_gc hX.lo h1
        have e2 := nc_gc hY.lo h2
        rw [rc, e1, e2]
        by_cases h3 : (kc Y : Fin m2) * kc Y - kc X * kc X = 1 + ed * (kc X * kc X * (kc Y * kc Y))
        · rw [show rpE X Y false = ⟨kc X, kc Y⟩ from if_pos ⟨rfl, h1, h2, h3⟩]
          exact s_lift_on hT h3
        · rw [show rpE X Y false = Ep.o m2 from if_neg (fun h => h3 h.2.2.2)]
          exact s_lift_off hT h3
      · rw [show rpE X Y false = Ep.o m2 from if_neg (fun h => h2 h.2.2.1)]
        exact s_lift_y hX (decide_eq_true h1) hY (decide_eq_false h2)
    · rw [show rpE X Y false = Ep.o m2 from if_neg (fun h => h1 h.2.1)]
      exact s_lift_x hX (decide_eq_false h1)
set_option maxRecDepth 100000 in
set_option maxHeartbeats 4000000 in
theorem s_Add0 {w : World} (hT : Tab w) {X Y X2 Y2 : Int} (hX : Num X) (hY : Num Y) (hX2 : Num X2) (hY2 : Num Y2) (t t2 : Bool) : Calls Tryd.prog 13 [.agg (rc X Y t).toArray, .agg (rc X2 Y2 t2).toArray].toArray w fun e w' => e = .returned (.agg (pcE (fdrop (fadd (flift (rpE X Y t)) (flift (rpE X2 Y2 t2))))).toArray) ∧ Below w.heap.size w w' := by
  refine enter (args := [.agg (rc X Y t).toArray, .agg (rc X2 Y2 t2).toArray]) Tryd.func13 rfl 11 rfl (lk rfl) (fun a h => ?_)
  refine go_region h hm [eN 2 (rc X Y t), eN 3 (rc X2 Y2 t2), eN 4 (nz ++ nz ++ [Value.bool false])] (by kernel_rfl) ⟨
    fun L u => u_box u (gd0 rfl) 26 (.tmp 0) rfl 2 rfl rfl rfl _ rfl,
    fun L u => u_box u (gd0 rfl) 26 (.tmp 1) rfl 3 rfl rfl rfl _ rfl,
    fun L u => u_alloc u (gd0 rfl) 26 rfl 4 rfl rfl z26 _ rfl,
    trivial⟩ [(2, .ptr 2 0), (3, .ptr 3 0), (4, .ptr 4 0)] [(2, rc X Y t), (3, rc X2 Y2 t2), (4, nz ++ nz ++ [Value.bool false])] ⟨rfl, rfl, rfl, trivial⟩ ⟨rfl, rfl, rfl, trivial⟩ rfl (fun a w h => ?_)
  refine go_region h hm [eS 5 (.val (.agg (rc X Y t).toArray)), eS 6 (.val (.agg (gc ((flift (rpE X Y t)).x) ++ gc ((flift (rpE X Y t)).y) ++ gc ((flift (rpE X Y t)).z)).toArray)), eS 7 (.val (.agg (rc X2 Y2 t2).toArray)), eS 8 (.val (.agg (gc ((flift (rpE X2 Y2 t2)).x) ++ gc ((flift (rpE X2 Y2 t2)).y) ++ gc ((flift (rpE X2 Y2 t2)).z)).toArray)), eS 9 (.val (.agg (gc ((fadd ⟨(flift (rpE X Y t)).x, (flift (rpE X Y t)).y, (flift (rpE X Y t)).z⟩ ⟨(flift (rpE X2 Y2 t2)).x, (flift (rpE X2 Y2 t2)).y, (flift (rpE X2 Y2 t2)).z⟩).x) ++ gc ((fadd ⟨(flift (rpE X Y t)).x, (flift (rpE X Y t)).y, (flift (rpE X Y t)).z⟩ ⟨(flift (rpE X2 Y2 t2)).x, (flift (rpE X2 Y2 t2)).y, (flift (rpE X2 Y2 t2)).z⟩).y) ++ gc ((fadd ⟨(flift (rpE X Y t)).x, (flift (rpE X Y t)).y, (flift (rpE X Y t)).z⟩ ⟨(flift (rpE X2 Y2 t2)).x, (flift (rpE X2 Y2 t2)).y, (flift (rpE X2 Y2 t2)).z⟩).z)).toArray)), eS 10 (.val (.agg (pcE (fdrop ⟨(fadd ⟨(flift (rpE X Y t)).x, (flift (rpE X Y t)).y, (flift (rpE X Y t)).z⟩ ⟨(flift (rpE X2 Y2 t2)).x, (flift (rpE X2 Y2 t2)).y, (flift (rpE X2 Y2 t2)).z⟩).x, (fadd ⟨(flift (rpE X Y t)).x, (flift (rpE X Y t)).y, (flift (rpE X Y t)).z⟩ ⟨(flift (rpE X2 Y2 t2)).x, (flift (rpE X2 Y2 t2)).y, (flift (rpE X2 Y2 t2)).z⟩).y, (fadd ⟨(flift (rpE X Y t)).x, (flift (rpE X Y t)).y, (flift (rpE X Y t)).z⟩ ⟨(flift (rpE X2 Y2 t2)).x, (flift (rpE X2 Y2 t2)).y, (flift (rpE X2 Y2 t2)).z⟩).z⟩)).toArray)), eM 4 (pcE (fdrop ⟨(fadd ⟨(flift (rpE X Y t)).x, (flift (rpE X Y t)).y, (flift (rpE X Y t)).z⟩ ⟨(flift (rpE X2 Y2 t2)).x, (flift (rpE X2 Y2 t2)).y, (flift (rpE X2 Y2 t2)).z⟩).x, (fadd ⟨(flift (rpE X Y t)).x, (flift (rpE X Y t)).y, (flift (rpE X Y t)).z⟩ ⟨(flift (rpE X2 Y2 t2)).x, (flift (rpE X2 Y2 t2)).y, (flift (rpE X2 Y2 t2)).z⟩).y, (fadd ⟨(flift (rpE X Y t)).x, (flift (rpE X Y t)).y, (flift (rpE X Y t)).z⟩ ⟨(flift (rpE X2 Y2 t2)).x, (flift (rpE X2 Y2 t2)).y, (flift (rpE X2 Y2 t2)).z⟩).z⟩))] (by kernel_rfl) ⟨
    fun L u => u_load u (gd0 rfl) 5 rfl 26 (.tmp 2) rfl rfl rfl Tryd.underlying26 rfl i26 (lk rfl) _ rfl,
    fun L u => u_call u (gd0 rfl) 6 rfl 44 #[(.tmp 5)] #[26] rfl [.agg (rc X Y t).toArray] rfl (cE44 _) (.agg (gc ((flift (rpE X Y t)).x) ++ gc ((flift (rpE X Y t)).y) ++ gc ((flift (rpE X Y t)).z)).toArray) (fun w hb => s_lift (hT.keep (Bs.kp_of hb)) hX hY t),
    fun L u => u_load u (gd0 rfl) 7 rfl 26 (.tmp 3) rfl rfl rfl Tryd.underlying26 rfl i26 (lk rfl) _ rfl,
    fun L u => u_call u (gd0 rfl) 8 rfl 44 #[(.tmp 7)] #[26] rfl [.agg (rc X2 Y2 t2).toArray] rfl (cE44 _) (.agg (gc ((flift (rpE X2 Y2 t2)).x) ++ gc ((flift (rpE X2 Y2 t2)).y) ++ gc ((flift (rpE X2 Y2 t2)).z)).toArray) (fun w hb => s_lift (hT.keep (Bs.kp_of hb)) hX2 hY2 t2),
    fun L u => u_call u (gd0 rfl) 9 rfl 43 #[(.tmp 6), (.tmp 8)] #[59, 59] rfl [.agg (gc ((flift (rpE X Y t)).x) ++ gc ((flift (rpE X Y t)).y) ++ gc ((flift (rpE X Y t)).z)).toArray, .agg (gc ((flift (rpE X2 Y2 t2)).x) ++ gc ((flift (rpE X2 Y2 t2)).y) ++ gc ((flift (rpE X2 Y2 t2)).z)).toArray] rfl (cE43 _) (.agg (gc ((fadd ⟨(flift (rpE X Y t)).x, (flift (rpE X Y t)).y, (flift (rpE X Y t)).z⟩ ⟨(flift (rpE X2 Y2 t2)).x, (flift (rpE X2 Y2 t2)).y, (flift (rpE X2 Y2 t2)).z⟩).x) ++ gc ((fadd ⟨(flift (rpE X Y t)).x, (flift (rpE X Y t)).y, (flift (rpE X Y t)).z⟩ ⟨(flift (rpE X2 Y2 t2)).x, (flift (rpE X2 Y2 t2)).y, (flift (rpE X2 Y2 t2)).z⟩).y) ++ gc ((fadd ⟨(flift (rpE X Y t)).x, (flift (rpE X Y t)).y, (flift (rpE X Y t)).z⟩ ⟨(flift (rpE X2 Y2 t2)).x, (flift (rpE X2 Y2 t2)).y, (flift (rpE X2 Y2 t2)).z⟩).z)).toArray) (fun w hb => s_plus (hT.keep (Bs.kp_of hb)) _ _ _ _ _ _),
    fun L u => u_call u (gd0 rfl) 10 rfl 42 #[(.tmp 9)] #[59] rfl [.agg (gc ((fadd ⟨(flift (rpE X Y t)).x, (flift (rpE X Y t)).y, (flift (rpE X Y t)).z⟩ ⟨(flift (rpE X2 Y2 t2)).x, (flift (rpE X2 Y2 t2)).y, (flift (rpE X2 Y2 t2)).z⟩).x) ++ gc ((fadd ⟨(flift (rpE X Y t)).x, (flift (rpE X Y t)).y, (flift (rpE X Y t)).z⟩ ⟨(flift (rpE X2 Y2 t2)).x, (flift (rpE X2 Y2 t2)).y, (flift (rpE X2 Y2 t2)).z⟩).y) ++ gc ((fadd ⟨(flift (rpE X Y t)).x, (flift (rpE X Y t)).y, (flift (rpE X Y t)).z⟩ ⟨(flift (rpE X2 Y2 t2)).x, (flift (rpE X2 Y2 t2)).y, (flift (rpE X2 Y2 t2)).z⟩).z)).toArray] rfl (cE42 _) (.agg (pcE (fdrop ⟨(fadd ⟨(flift (rpE X Y t)).x, (flift (rpE X Y t)).y, (flift (rpE X Y t)).z⟩ ⟨(flift (rpE X2 Y2 t2)).x, (flift (rpE X2 Y2 t2)).y, (flift (rpE X2 Y2 t2)).z⟩).x, (fadd ⟨(flift (rpE X Y t)).x, (flift (rpE X Y t)).y, (flift (rpE X Y t)).z⟩ ⟨(flift (rpE X2 Y2 t2)).x, (flift (rpE X2 Y2 t2)).y, (flift (rpE X2 Y2 t2)).z⟩).y, (fadd ⟨(flift (rpE X Y t)).x, (flift (rpE X Y t)).y, (flift (rpE X Y t)).z⟩ ⟨(flift (rpE X2 Y2 t2)).x, (flift (rpE X2 Y2 t2)).y, (flift (rpE X2 Y2 t2)).z⟩).z⟩)).toArray) (fun w hb => s_drop (hT.keep (Bs.kp_of hb)) _ _ _),
    fun L u => u_store u (gd0 rfl) 26 (.tmp 4) (.tmp 10) rfl rfl rfl (vs := pcE (fdrop ⟨(fadd ⟨(flift (rpE X Y t)).x, (flift (rpE X Y t)).y, (flift (rpE X Y t)).z⟩ ⟨(flift (rpE X2 Y2 t2)).x, (flift (rpE X2 Y2 t2)).y, (flift (rpE X2 Y2 t2)).z⟩).x, (fadd ⟨(flift (rpE X Y t)).x, (flift (rpE X Y t)).y, (flift (rpE X Y t)).z⟩ ⟨(flift (rpE X2 Y2 t2)).x, (flift (rpE X2 Y2 t2)).y, (flift (rpE X2 Y2 t2)).z⟩).y, (fadd ⟨(flift (rpE X Y t)).x, (flift (rpE X Y t)).y, (flift (rpE X Y t)).z⟩ ⟨(flift (rpE X2 Y2 t2)).x, (flift (rpE X2 Y2 t2)).y, (flift (rpE X2 Y2 t2)).z⟩).z⟩)) rfl rfl i26 (lk rfl) rfl _ rfl,
    trivial⟩ [(4, .ptr 4 0)] [(4, pcE (fdrop ⟨(fadd ⟨(flift (rpE X Y t)).x, (flift (rpE X Y t)).y, (flift (rpE X Y t)).z⟩ ⟨(flift (rpE X2 Y2 t2)).x, (flift (rpE X2 Y2 t2)).y, (flift (rpE X2 Y2 t2)).z⟩).x, (fadd ⟨(flift (rpE X Y t)).x, (flift (rpE X Y t)).y, (flift (rpE X Y t)).z⟩ ⟨(flift (rpE X2 Y2 t2)).x, (flift (rpE X2 Y2 t2)).y, (flift (rpE X2 Y2 t2)).z⟩).y, (fadd ⟨(flift (rpE X Y t)).x, (flift (rpE X Y t)).y, (flift (rpE X Y t)).z⟩ ⟨(flift (rpE X2 Y2 t2)).x, (flift (rpE X2 Y2 t2)).y, (flift (rpE X2 Y2 t2)).z⟩).z⟩))] ⟨rfl, trivial⟩ ⟨rfl, trivial⟩ rfl (fun a w h => ?_)
  refine wp_ret ?_
  refine ret_row h 4 26 rfl (lk rfl) 4 rfl (pcE (fdrop ⟨(fadd ⟨(flift (rpE X Y t)).x, (flift (rpE X Y t)).y, (flift (rpE X Y t)).z⟩ ⟨(flift (rpE X2 Y2 t2)).x, (flift (rpE X2 Y2 t2)).y, (flift (rpE X2 Y2 t2)).z⟩).x, (fadd ⟨(flift (rpE X Y t)).x, (flift (rpE X Y t)).y, (flift (rpE X Y t)).z⟩ ⟨(flift (rpE X2 Y2 t2)).x, (flift (rpE X2 Y2 t2)).y, (flift (rpE X2 Y2 t2)).z⟩).y, (fadd ⟨(flift (rpE X Y t)).x, (flift (rpE X Y t)).y, (flift (rpE X Y t)).z⟩ ⟨(flift (rpE X2 Y2 t2)).x, (flift (rpE X2 Y2 t2)).y, (flift (rpE X2 Y2 t2)).z⟩).z⟩)) rfl _ Tryd.underlying26 rfl i26 ?_
  exact ⟨rfl, h.grows⟩
set_option maxRecDepth 100000 in
set_option maxHeartbeats 4000000 in
theorem s_Mul0 {w : World} (hT : Tab w) (k : Nat) {X Y : Int} (hX : Num X) (hY : Num Y) (t : Bool) : Calls Tryd.prog 15 [.agg (nc ((k : Int))).toArray, .agg (rc X Y t).toArray].toArray w fun e w' => e = .returned (.agg (pcE (fdrop (fm k (flift (rpE X Y t)) 256).1)).toArray) ∧ Below w.heap.size w w' := by
  refine enter (args := [.agg (nc ((k : Int))).toArray, .agg (rc X Y t).toArray]) Tryd.func15 rfl 10 rfl (lk rfl) (fun a h => ?_)
  refine go_region h hm [eN 2 (nc ((k : Int))), eN 3 (rc X Y t), eN 4 (nz ++ nz ++ [Value.bool false])] (by kernel_rfl) ⟨
    fun L u => u_box u (gd0 rfl) 24 (.tmp 0) rfl 2 rfl rfl rfl _ rfl,
    fun L u => u_box u (gd0 rfl) 26 (.tmp 1) rfl 3 rfl rfl rfl _ rfl,
    fun L u => u_alloc u (gd0 rfl) 26 rfl 4 rfl rfl z26 _ rfl,
    trivial⟩ [(2, .ptr 2 0), (3, .ptr 3 0), (4, .ptr 4 0)] [(2, nc ((k : Int))), (3, rc X Y t), (4, nz ++ nz ++ [Value.bool false])] ⟨rfl, rfl, rfl, trivial⟩ ⟨rfl, rfl, rfl, trivial⟩ rfl (fun a w h => ?_)
  refine go_region h hm [eS 5 (.val (.agg (nc ((k : Int))).toArray)), eS 6 (.val (.agg (rc X Y t).toArray)), eS 7 (.val (.agg (gc ((flift (rpE X Y t)).x) ++ gc ((flift (rpE X Y t)).y) ++ gc ((flift (rpE X Y t)).z)).toArray)), eS 8 (.val (.agg (gc (((fm k ⟨(flift (rpE X Y t)).x, (flift (rpE X Y t)).y, (flift (rpE X Y t)).z⟩ 256).1).x) ++ gc (((fm k ⟨(flift (rpE X Y t)).x, (flift (rpE X Y t)).y, (flift (rpE X Y t)).z⟩ 256).1).y) ++ gc (((fm k ⟨(flift (rpE X Y t)).x, (flift (rpE X Y t)).y, (flift (rpE X Y t)).z⟩ 256).1).z)).toArray)), eS 9 (.val (.agg (pcE (fdrop ⟨((fm k ⟨(flift (rpE X Y t)).x, (flift (rpE X Y t)).y, (flift (rpE X Y t)).z⟩ 256).1).x, ((fm k ⟨(flift (rpE X Y t)).x, (flift (rpE X Y t)).y, (flift (rpE X Y t)).z⟩ 256).1).y, ((fm k ⟨(flift (rpE X Y t)).x, (flift (rpE X Y t)).y, (flift (rpE X Y t)).z⟩ 256).1).z⟩)).toArray)), eM 4 (pcE (fdrop ⟨((fm k ⟨(flift (rpE X Y t)).x, (flift (rpE X Y t)).y, (flift (rpE X Y t)).z⟩ 256).1).x, ((fm k ⟨(flift (rpE X Y t)).x, (flift (rpE X Y t)).y, (flift (rpE X Y t)).z⟩ 256).1).y, ((fm k ⟨(flift (rpE X Y t)).x, (flift (rpE X Y t)).y, (flift (rpE X Y t)).z⟩ 256).1).z⟩))] (by kernel_rfl) ⟨
    fun L u => u_load u (gd0 rfl) 5 rfl 24 (.tmp 2) rfl rfl rfl Tryd.underlying24 rfl i24 (lk rfl) _ rfl,
    fun L u => u_load u (gd0 rfl) 6 rfl 26 (.tmp 3) rfl rfl rfl Tryd.underlying26 rfl i26 (lk rfl) _ rfl,
    fun L u => u_call u (gd0 rfl) 7 rfl 44 #[(.tmp 6)] #[26] rfl [.agg (rc X Y t).toArray] rfl (cE44 _) (.agg (gc ((flift (rpE X Y t)).x) ++ gc ((flift (rpE X Y t)).y) ++ gc ((flift (rpE X Y t)).z)).toArray) (fun w hb => s_lift (hT.keep (Bs.kp_of hb)) hX hY t),
    fun L u => u_call u (gd0 rfl) 8 rfl 46 #[(.tmp 5), (.tmp 7)] #[24, 59] rfl [.agg (nc ((k : Int))).toArray, .agg (gc ((flift (rpE X Y t)).x) ++ gc ((flift (rpE X Y t)).y) ++ gc ((flift (rpE X Y t)).z)).toArray] rfl (cE46 _) (.agg (gc (((fm k ⟨(flift (rpE X Y t)).x, (flift (rpE X Y t)).y, (flift (rpE X Y t)).z⟩ 256).1).x) ++ gc (((fm k ⟨(flift (rpE X Y t)).x, (flift (rpE X Y t)).y, (flift (rpE X Y t)).z⟩ 256).1).y) ++ gc (((fm k ⟨(flift (rpE X Y t)).x, (flift (rpE X Y t)).y, (flift (rpE X Y t)).z⟩ 256).1).z)).toArray) (fun w hb => s_mult (hT.keep (Bs.kp_of hb)) _ _ _ _),
    fun L u => u_call u (gd0 rfl) 9 rfl 42 #[(.tmp 8)] #[59] rfl [.agg (gc (((fm k ⟨(flift (rpE X Y t)).x, (flift (rpE X Y t)).y, (flift (rpE X Y t)).z⟩ 256).1).x) ++ gc (((fm k ⟨(flift (rpE X Y t)).x, (flift (rpE X Y t)).y, (flift (rpE X Y t)).z⟩ 256).1).y) ++ gc (((fm k ⟨(flift (rpE X Y t)).x, (flift (rpE X Y t)).y, (flift (rpE X Y t)).z⟩ 256).1).z)).toArray] rfl (cE42 _) (.agg (pcE (fdrop ⟨((fm k ⟨(flift (rpE X Y t)).x, (flift (rpE X Y t)).y, (flift (rpE X Y t)).z⟩ 256).1).x, ((fm k ⟨(flift (rpE X Y t)).x, (flift (rpE X Y t)).y, (flift (rpE X Y t)).z⟩ 256).1).y, ((fm k ⟨(flift (rpE X Y t)).x, (flift (rpE X Y t)).y, (flift (rpE X Y t)).z⟩ 256).1).z⟩)).toArray) (fun w hb => s_drop (hT.keep (Bs.kp_of hb)) _ _ _),
    fun L u => u_store u (gd0 rfl) 26 (.tmp 4) (.tmp 9) rfl rfl rfl (vs := pcE (fdrop ⟨((fm k ⟨(flift (rpE X Y t)).x, (flift (rpE X Y t)).y, (flift (rpE X Y t)).z⟩ 256).1).x, ((fm k ⟨(flift (rpE X Y t)).x, (flift (rpE X Y t)).y, (flift (rpE X Y t)).z⟩ 256).1).y, ((fm k ⟨(flift (rpE X Y t)).x, (flift (rpE X Y t)).y, (flift (rpE X Y t)).z⟩ 256).1).z⟩)) rfl rfl i26 (lk rfl) rfl _ rfl,
    trivial⟩ [(4, .ptr 4 0)] [(4, pcE (fdrop ⟨((fm k ⟨(flift (rpE X Y t)).x, (flift (rpE X Y t)).y, (flift (rpE X Y t)).z⟩ 256).1).x, ((fm k ⟨(flift (rpE X Y t)).x, (flift (rpE X Y t)).y, (flift (rpE X Y t)).z⟩ 256).1).y, ((fm k ⟨(flift (rpE X Y t)).x, (flift (rpE X Y t)).y, (flift (rpE X Y t)).z⟩ 256).1).z⟩))] ⟨rfl, trivial⟩ ⟨rfl, trivial⟩ rfl (fun a w h => ?_)
  refine wp_ret ?_
  refine ret_row h 4 26 rfl (lk rfl) 4 rfl (pcE (fdrop ⟨((fm k ⟨(flift (rpE X Y t)).x, (flift (rpE X Y t)).y, (flift (rpE X Y t)).z⟩ 256).1).x, ((fm k ⟨(flift (rpE X Y t)).x, (flift (rpE X Y t)).y, (flift (rpE X Y t)).z⟩ 256).1).y, ((fm k ⟨(flift (rpE X Y t)).x, (flift (rpE X Y t)).y, (flift (rpE X Y t)).z⟩ 256).1).z⟩)) rfl _ Tryd.underlying26 rfl i26 ?_
  exact ⟨rfl, h.grows⟩
theorem pcE_G : pcE eG = [Value.int .u64 14507833142362363162] ++ [Value.int .u64 7578651490590762930] ++ [Value.int .u64 13881468655802702940] ++ [Value.int .u64 2407515759118799870] ++ [Value.int .u64 7378697629483820632] ++ [Value.int .u64 7378697629483820646] ++ [Value.int .u64 7378697629483820646] ++ [Value.int .u64 7378697629483820646] ++ [Value.bool false] := by kernel_rfl
set_option maxRecDepth 100000 in
set_option maxHeartbeats 4000000 in
theorem s_Base {w : World}  : Calls Tryd.prog 27 [].toArray w fun e w' => e = .returned (.agg (pcE eG).toArray) ∧ Below w.heap.size w w' := by
  refine enter (args := []) Tryd.func27 rfl 4 rfl (lk rfl) (fun a h => ?_)
  refine go_region h hm [eN 0 (nz ++ nz ++ [Value.bool false])] (by kernel_rfl) ⟨
    fun L u => u_alloc u (gd0 rfl) 26 rfl 0 rfl rfl z26 _ rfl,
    trivial⟩ [(0, .ptr 0 0)] [(0, nz ++ nz ++ [Value.bool false])] ⟨rfl, trivial⟩ ⟨rfl, trivial⟩ rfl (fun a w h => ?_)
  refine go_region h hm [eS 1 (.val (.agg ([(Value.int IntKind.u64 14507833142362363162)] ++ [(Value.int IntKind.u64 7578651490590762930)] ++ [(Value.int IntKind.u64 13881468655802702940)] ++ [(Value.int IntKind.u64 2407515759118799870)]).toArray)), eS 2 (.val (.agg ([(Value.int IntKind.u64 7378697629483820632)] ++ [(Value.int IntKind.u64 7378697629483820646)] ++ [(Value.int IntKind.u64 7378697629483820646)] ++ [(Value.int IntKind.u64 7378697629483820646)]).toArray)), eS 3 (.val (.agg ([(Value.int IntKind.u64 14507833142362363162)] ++ [(Value.int IntKind.u64 7578651490590762930)] ++ [(Value.int IntKind.u64 13881468655802702940)] ++ [(Value.int IntKind.u64 2407515759118799870)] ++ [(Value.int IntKind.u64 7378697629483820632)] ++ [(Value.int IntKind.u64 7378697629483820646)] ++ [(Value.int IntKind.u64 7378697629483820646)] ++ [(Value.int IntKind.u64 7378697629483820646)] ++ [Value.bool false]).toArray)), eM 0 ([(Value.int IntKind.u64 14507833142362363162)] ++ [(Value.int IntKind.u64 7578651490590762930)] ++ [(Value.int IntKind.u64 13881468655802702940)] ++ [(Value.int IntKind.u64 2407515759118799870)] ++ [(Value.int IntKind.u64 7378697629483820632)] ++ [(Value.int IntKind.u64 7378697629483820646)] ++ [(Value.int IntKind.u64 7378697629483820646)] ++ [(Value.int IntKind.u64 7378697629483820646)] ++ [Value.bool false])] (by kernel_rfl) ⟨
    fun L u => u_build u (gd0 rfl) 1 rfl 24 #[(0, (.const (.int .u64 14507833142362363162))), (1, (.const (.int .u64 7578651490590762930))), (2, (.const (.int .u64 13881468655802702940))), (3, (.const (.int .u64 2407515759118799870)))] rfl [(0, (Value.int IntKind.u64 14507833142362363162)), (1, (Value.int IntKind.u64 7578651490590762930)), (2, (Value.int IntKind.u64 13881468655802702940)), (3, (Value.int IntKind.u64 2407515759118799870))] rfl ([(Value.int IntKind.u64 14507833142362363162)] ++ [(Value.int IntKind.u64 7578651490590762930)] ++ [(Value.int IntKind.u64 13881468655802702940)] ++ [(Value.int IntKind.u64 2407515759118799870)]) (g_bN4 _ _ _ _),
    fun L u => u_build u (gd0 rfl) 2 rfl 24 #[(0, (.const (.int .u64 7378697629483820632))), (1, (.const (.int .u64 7378697629483820646))), (2, (.const (.int .u64 7378697629483820646))), (3, (.const (.int .u64 7378697629483820646)))] rfl [(0, (Value.int IntKind.u64 7378697629483820632)), (1, (Value.int IntKind.u64 7378697629483820646)), (2, (Value.int IntKind.u64 7378697629483820646)), (3, (Value.int IntKind.u64 7378697629483820646))] rfl ([(Value.int IntKind.u64 7378697629483820632)] ++ [(Value.int IntKind.u64 7378697629483820646)] ++ [(Value.int IntKind.u64 7378697629483820646)] ++ [(Value.int IntKind.u64 7378697629483820646)]) (g_bN4 _ _ _ _),
    fun L u => u_build u (gd0 rfl) 3 rfl 26 #[(0, (.tmp 1)), (1, (.tmp 2))] rfl [(0, .agg ([(Value.int IntKind.u64 14507833142362363162)] ++ [(Value.int IntKind.u64 7578651490590762930)] ++ [(Value.int IntKind.u64 13881468655802702940)] ++ [(Value.int IntKind.u64 2407515759118799870)]).toArray), (1, .agg ([(Value.int IntKind.u64 7378697629483820632)] ++ [(Value.int IntKind.u64 7378697629483820646)] ++ [(Value.int IntKind.u64 7378697629483820646)] ++ [(Value.int IntKind.u64 7378697629483820646)]).toArray)] rfl ([(Value.int IntKind.u64 14507833142362363162)] ++ [(Value.int IntKind.u64 7578651490590762930)] ++ [(Value.int IntKind.u64 13881468655802702940)] ++ [(Value.int IntKind.u64 2407515759118799870)] ++ [(Value.int IntKind.u64 7378697629483820632)] ++ [(Value.int IntKind.u64 7378697629483820646)] ++ [(Value.int IntKind.u64 7378697629483820646)] ++ [(Value.int IntKind.u64 7378697629483820646)] ++ [Value.bool false]) (g_bPc _ _ _ _ _ _ _ _),
    fun L u => u_store u (gd0 rfl) 26 (.tmp 0) (.tmp 3) rfl rfl rfl (vs := [(Value.int IntKind.u64 14507833142362363162)] ++ [(Value.int IntKind.u64 7578651490590762930)] ++ [(Value.int IntKind.u64 13881468655802702940)] ++ [(Value.int IntKind.u64 2407515759118799870)] ++ [(Value.int IntKind.u64 7378697629483820632)] ++ [(Value.int IntKind.u64 7378697629483820646)] ++ [(Value.int IntKind.u64 7378697629483820646)] ++ [(Value.int IntKind.u64 7378697629483820646)] ++ [Value.bool false]) rfl rfl i26 (lk rfl) rfl _ rfl,
    trivial⟩ [(0, .ptr 0 0)] [(0, [(Value.int IntKind.u64 14507833142362363162)] ++ [(Value.int IntKind.u64 7578651490590762930)] ++ [(Value.int IntKind.u64 13881468655802702940)] ++ [(Value.int IntKind.u64 2407515759118799870)] ++ [(Value.int IntKind.u64 7378697629483820632)] ++ [(Value.int IntKind.u64 7378697629483820646)] ++ [(Value.int IntKind.u64 7378697629483820646)] ++ [(Value.int IntKind.u64 7378697629483820646)] ++ [Value.bool false])] ⟨rfl, trivial⟩ ⟨rfl, trivial⟩ rfl (fun a w h => ?_)
  refine wp_ret ?_
  refine ret_row h 0 26 rfl (lk rfl) 0 rfl ([(Value.int IntKind.u64 14507833142362363162)] ++ [(Value.int IntKind.u64 7578651490590762930)] ++ [(Value.int IntKind.u64 13881468655802702940)] ++ [(Value.int IntKind.u64 2407515759118799870)] ++ [(Value.int IntKind.u64 7378697629483820632)] ++ [(Value.int IntKind.u64 7378697629483820646)] ++ [(Value.int IntKind.u64 7378697629483820646)] ++ [(Value.int IntKind.u64 7378697629483820646)] ++ [Value.bool false]) rfl _ Tryd.underlying26 rfl i26 ?_
  exact ⟨by rw [pcE_G], h.grows⟩
theorem s_Add {w : World} (hT : Tab w) {X Y X2 Y2 : Int} (hX : Num X) (hY : Num Y) (hX2 : Num X2) (hY2 : Num Y2) (t t2 : Bool) : Calls Tryd.prog 13 [.agg (rc X Y t).toArray, .agg (rc X2 Y2 t2).toArray].toArray w fun e w' => e = .returned (.agg (pcE (eadd (rpE X Y t) (rpE X2 Y2 t2))).toArray) ∧ Below w.heap.size w w' := by
  have h := s_Add0 hT hX hY hX2 hY2 t t2
  rw [(fadd_ok (fo_lift (rpE_on X Y t)) (fo_lift (rpE_on X2 Y2 t2))).2, fdrop_lift, fdrop_lift] at h
  exact h
theorem s_Mul {w : World} (hT : Tab w) {k : Nat} (hk : k < 2 ^ 256) {X Y : Int} (hX : Num X) (hY : Num Y) (t : Bool) : Calls Tryd.prog 15 [.agg (nc (k : Int)).toArray, .agg (rc X Y t).toArray].toArray w fun e w' => e = .returned (.agg (pcE (mt eadd (Ep.o m2) (rpE X Y t) k)).toArray) ∧ Below w.heap.size w w' := by
  have h := s_Mul0 hT k hX hY t
  rw [fm_all hk (fo_lift (rpE_on X Y t)), fdrop_lift] at h
  exact h
end Go.Proofs.YtolehamdaceikaaDoor
namespace Go.Proofs.YtolehamdaceikaaDoor
open Go.RowKit

/-- Two points are held against each other, number by number. -/
theorem fields26 : Tryd.prog.fieldsOf 26 = #[{ name := "X", type := 24, offset := 0, embedded := false, tag := "", pkgPath := "", byteOffset := 0 }, { name := "Y", type := 24, offset := 4, embedded := false, tag := "", pkgPath := "", byteOffset := 32 }, { name := "None", type := 4, offset := 8, embedded := false, tag := "", pkgPath := "", byteOffset := 64 }] := by kernel_rfl
theorem isAgg24 (w : World) : (isAgg 24).run Tryd.prog w = .ok true w := by
  unfold isAgg
  rw [Sem.run_bind, run_underlying Tryd.underlying24 w]
  rfl
theorem isAgg4 (w : World) : (isAgg 4).run Tryd.prog w = .ok false w := by
  unfold isAgg
  rw [Sem.run_bind, run_underlying Tryd.underlying4 w]
  rfl
theorem size24 (w : World) : (sizeOf 24).run Tryd.prog w = .ok 4 w := by
  have h := i24
  cases hq : Tryd.prog.info? 24 with
  | none => rw [hq] at h; cases h
  | some i =>
    rw [hq] at h
    simp at h
    simp [sizeOf, typeInfo, hq, h]
theorem its_cons (xs ys : Array Value) (j : Nat) (js : List Nat) (x y : Int) (r : Bool) (hx : xs[j]? = some (.int .u64 x)) (hy : ys[j]? = some (.int .u64 y)) (w : World)
    (h : (Op.eqItems 9998 22 1 xs ys js).run Tryd.prog w = .ok r w) : (Op.eqItems 9998 22 1 xs ys (j :: js)).run Tryd.prog w = .ok (x == y && r) w := by
  have he : Tryd.prog.plainKey 22 = true := by kernel_rfl
  simp only [Op.eqItems, Sem.run_bind, Nat.mul_one, run_part_plain w he hx, run_part_plain w he hy, Result.andThen_ok, run_equalIn_int w 9997 22 .u64 .u64 x y Tryd.underlying22]
  cases x == y <;> simp [h]
theorem eq_in {a b : Int} (ha : Num a) (hb : Num b) (w : World) : (Op.equalIn 9999 24 (.agg (nc a).toArray) (.agg (nc b).toArray)).run Tryd.prog w = .ok (decide (a = b)) w := by
  rw [← nc_eq ha hb]
  obtain ⟨i, hi⟩ := Option.isSome_iff_exists.1 (show (Tryd.prog.info? 22).isSome = true by kernel_rfl)
  rw [run_equalIn_array w 9998 _ _ Tryd.underlying24 hi]
  have hc : Tryd.prog.cellsOf 22 = 1 := by kernel_rfl
  have r4 : List.range 4 = [0, 1, 2, 3] := rfl
  rw [hc, r4]
  exact its_cons _ _ 0 _ _ _ _ rfl rfl w (its_cons _ _ 1 _ _ _ _ rfl rfl w (its_cons _ _ 2 _ _ _ _ rfl rfl w (its_cons _ _ 3 _ _ _ _ rfl rfl w rfl)))
theorem eqf_cons {dd : Nat} {xs ys : Array Value} {f : Field} {fs : List Field} {a b : Value} {r s : Bool} {w : World} (hn : f.name ≠ "_") (h1 : (part f.type xs f.offset).run Tryd.prog w = .ok a w) (h2 : (part f.type ys f.offset).run Tryd.prog w = .ok b w) (h3 : (Op.equalIn dd f.type a b).run Tryd.prog w = .ok r w) (h4 : (Op.eqFields dd xs ys fs).run Tryd.prog w = .ok s w) : (Op.eqFields dd xs ys (f :: fs)).run Tryd.prog w = .ok (r && s) w := by
  rw [Op.eqFields, if_pos hn]
  simp only [Sem.run_bind, h1, h2, h3, Result.andThen_ok]
  cases r
  · rfl
  · exact h4
theorem eq_pt {a b c d : Int} (ha : Num a) (hb : Num b) (hc : Num c) (hd : Num d) (s t : Bool) (w : World) : (Op.equalIn 10000 26 (.agg (nc a ++ nc b ++ [Value.bool s]).toArray) (.agg (nc c ++ nc d ++ [Value.bool t]).toArray)).run Tryd.prog w = .ok (decide (a = c ∧ b = d ∧ s = t)) w := by
  have e1 : ∀ w, (part 24 (nc a ++ nc b ++ [Value.bool s]).toArray 0).run Tryd.prog w = .ok (.agg (nc a).toArray) w := fun w => by unfold part; simp only [Sem.run_bind, isAgg24, Result.andThen_ok, if_true, size24, Sem.run_pure]; rfl
  have e2 : ∀ w, (part 24 (nc c ++ nc d ++ [Value.bool t]).toArray 0).run Tryd.prog w = .ok (.agg (nc c).toArray) w := fun w => by unfold part; simp only [Sem.run_bind, isAgg24, Result.andThen_ok, if_true, size24, Sem.run_pure]; rfl
  have e3 : ∀ w, (part 24 (nc a ++ nc b ++ [Value.bool s]).toArray 4).run Tryd.prog w = .ok (.agg (nc b).toArray) w := fun w => by unfold part; simp only [Sem.run_bind, isAgg24, Result.andThen_ok, if_true, size24, Sem.run_pure]; rfl
  have e4 : ∀ w, (part 24 (nc c ++ nc d ++ [Value.bool t]).toArray 4).run Tryd.prog w = .ok (.agg (nc d).toArray) w := fun w => by unfold part; simp only [Sem.run_bind, isAgg24, Result.andThen_ok, if_true, size24, Sem.run_pure]; rfl
  have e5 : ∀ w, (part 4 (nc a ++ nc b ++ [Value.bool s]).toArray 8).run Tryd.prog w = .ok (.bool s) w := fun w => by unfold part; simp only [Sem.run_bind, isAgg4, Result.andThen_ok, Bool.false_eq_true, if_false]; rfl
  have e6 : ∀ w, (part 4 (nc c ++ nc d ++ [Value.bool t]).toArray 8).run Tryd.prog w = .ok (.bool t) w := fun w => by unfold part; simp only [Sem.run_bind, isAgg4, Result.andThen_ok, Bool.false_eq_true, if_false]; rfl
  have hf : Tryd.prog.underlying 26 = some (.struct (Tryd.prog.fieldsOf 26)) := by rw [fields26]; exact Tryd.underlying26
  rw [run_equalIn_struct w 9999 26 _ _ hf Tryd.stoodInHeld26, fields26]
  have hb' := fun w => run_equalIn_bool' (P := Tryd.prog) w 9998 4 s t Tryd.underlying4
  refine Eq.trans (eqf_cons (by decide) (e1 w) (e2 w) (eq_in ha hc w) (eqf_cons (by decide) (e3 w) (e4 w) (eq_in hb hd w) (eqf_cons (by decide) (e5 w) (e6 w) (hb' w) rfl))) ?_
  congr 1
  by_cases h1 : a = c
  · by_cases h2 : b = d
    · subst h1 h2
      cases s <;> cases t <;> simp
    · simp [h2]
  · simp [h1]
/-- Is it formed? -/
def fmdE (X Y : Int) (t : Bool) : Bool := decide (t = false ∧ X < md 2 ∧ Y < md 2 ∧ (kc Y : Fin m2) * kc Y - kc X * kc X = 1 + ed * (kc X * kc X * (kc Y * kc Y)))
theorem s_Formed {w : World} (hT : Tab w) {X Y : Int} (hX : Num X) (hY : Num Y) (t : Bool) : Calls Tryd.prog 11 [.agg (rc X Y t).toArray].toArray w fun e w' => e = .returned (.bool (fmdE X Y t)) ∧ Below w.heap.size w w' := by
  unfold fmdE
  cases t with
  | true =>
    rw [decide_eq_false (fun h => by cases h.1)]
    exact s_formed_none
  | false =>
    by_cases h1 : X < md 2
    · by_cases h2 : Y < md 2
      · have e3 : decide (false = false ∧ X < md 2 ∧ Y < md 2 ∧ (kc Y : Fin m2) * kc Y - kc X * kc X = 1 + ed * (kc X * kc X * (kc Y * kc Y))) = decide ((kc Y : Fin m2) * kc Y - kc X * kc X = 1 + ed * (kc X * kc X * (kc Y * kc Y))) := decide_eq_decide.2 ⟨fun h => h.2.2.2, fun h => ⟨rfl, h1, h2, h⟩⟩
        rw [e3, rc, nc_gc hX.lo h1, nc_gc hY.lo h2]
        exact s_formed_at hT (kc X) (kc Y)
      · rw [decide_eq_false (fun h => h2 h.2.2.1)]
        exact s_formed_y hX (decide_eq_true h1) hY (decide_eq_false h2)
    · rw [decide_eq_false (fun h => h1 h.2.1)]
      exact s_formed_x hX (decide_eq_false h1)
theorem eq_pcE_same (a : Ep m2) (w : World) : (Op.equalIn 10000 26 (.agg (pcE a).toArray) (.agg (pcE a).toArray)).run Tryd.prog w = .ok true w := by
  have h := eq_pt (gin_num a.x) (gin_num a.y) (gin_num a.x) (gin_num a.y) false false w
  rw [decide_eq_true ⟨rfl, rfl, rfl⟩] at h
  exact h
theorem rpE_pc {a : Ep m2} (h : a.on ed) : rpE (a.x.val : Int) (a.y.val : Int) false = a := by
  obtain ⟨x, y⟩ := a
  have hc : y * y - x * x = 1 + ed * (x * x * (y * y)) := h
  have e : rpE (x.val : Int) (y.val : Int) false = ⟨kc (x.val : Int), kc (y.val : Int)⟩ := if_pos ⟨rfl, of_decide_eq_true (gin_lt x), of_decide_eq_true (gin_lt y), by rw [kc_self, kc_self]; exact hc⟩
  rw [kc_self, kc_self] at e
  exact e
theorem fmdE_pc {a : Ep m2} (h : a.on ed) : fmdE (a.x.val : Int) (a.y.val : Int) false = true := by
  obtain ⟨x, y⟩ := a
  have hc : y * y - x * x = 1 + ed * (x * x * (y * y)) := h
  exact decide_eq_true ⟨rfl, of_decide_eq_true (gin_lt x), of_decide_eq_true (gin_lt y), by rw [kc_self, kc_self]; exact hc⟩
theorem fmdE_rp {X Y : Int} {t : Bool} (h : fmdE X Y t = false) : rpE X Y t = Ep.o m2 := if_neg (of_decide_eq_false h)
end Go.Proofs.YtolehamdaceikaaDoor
namespace Go.Proofs.YtolehamdaceikaaDoor

structure X4 : Type where
  x : Fin m2
  y : Fin m2
  z : Fin m2
  t : Fin m2
def xdrop (p : X4) : Ep m2 := ⟨p.x * fiv p.z, p.y * fiv p.z⟩
def xlift (a : Ep m2) : X4 := ⟨a.x, a.y, 1, a.x * a.y⟩
/-- The one formula. -/
def xadd (p q : X4) : X4 :=
  ⟨(p.x * q.y + q.x * p.y) * (p.z * q.z - ed * (p.t * q.t)), (p.z * q.z + ed * (p.t * q.t)) * (p.y * q.y + p.x * q.x),
    (p.z * q.z - ed * (p.t * q.t)) * (p.z * q.z + ed * (p.t * q.t)), (p.x * q.y + q.x * p.y) * (p.y * q.y + p.x * q.x)⟩
/-- Four numbers stand for a point of the curve. -/
structure Xo (p : X4) : Prop where
  z : p.z ≠ 0
  t : p.x * p.y = p.z * p.t
  on : (xdrop p).on ed
def X4.three (p : X4) : P3 (Fin m2) := ⟨p.x, p.y, p.z⟩
theorem xdrop_three (p : X4) : fdrop p.three = xdrop p := rfl
theorem Xo.fo {p : X4} (h : Xo p) : Fo p.three := ⟨h.z, h.on⟩
theorem xdrop_lift (a : Ep m2) : xdrop (xlift a) = a := fdrop_lift a
theorem xo_lift {a : Ep m2} (h : a.on ed) : Xo (xlift a) := ⟨fld2.one, by simp only [xlift]; grobner, by rw [xdrop_lift]; exact h⟩
/-- The same point, at another scale. -/
theorem fdrop_sc {k x y z : Fin m2} (hk : k ≠ 0) (hz : z ≠ 0) : fdrop ⟨k * x, k * y, k * z⟩ = fdrop ⟨x, y, z⟩ := by
  have i1 := fld2.inv _ hz
  have i2 := fld2.inv _ (fld2.ne hk hz)
  simp only [fdrop]
  generalize fiv z = i at *
  generalize fiv (k * z) = j at *
  clear hk hz
  have e : k * j = i := by
    have : k * j * (z * i) = k * z * j * i := by clear i1 i2; grobner
    rw [i1, i2] at this
    rw [show k * j = k * j * 1 by clear i1 i2 this; grobner, this]
    clear i1 i2 this
    grobner
  clear i1 i2
  congr 1
  · rw [show k * x * j = x * (k * j) by clear e; grobner, e]
  · rw [show k * y * j = y * (k * j) by clear e; grobner, e]
theorem xo_sc {k : Fin m2} (hk : k ≠ 0) {p : X4} (h : Xo p) : Xo ⟨k * p.x, k * p.y, k * p.z, k * p.t⟩ ∧ xdrop ⟨k * p.x, k * p.y, k * p.z, k * p.t⟩ = xdrop p := by
  have e : xdrop ⟨k * p.x, k * p.y, k * p.z, k * p.t⟩ = xdrop p := fdrop_sc hk h.z
  refine ⟨⟨fld2.ne hk h.z, ?_, by rw [e]; exact h.on⟩, e⟩
  show k * p.x * (k * p.y) = k * p.z * (k * p.t)
  rw [show k * p.x * (k * p.y) = k * k * (p.x * p.y) by grobner, h.t]
  grobner
theorem xadd_three {p q : X4} (hp : Xo p) (hq : Xo q) : fadd p.three q.three = ⟨p.z * q.z * (p.z * q.z) * (xadd p q).x, p.z * q.z * (p.z * q.z) * (xadd p q).y, p.z * q.z * (p.z * q.z) * (xadd p q).z⟩ := by
  have h1 := hp.t
  have h2 := hq.t
  have e : ed * (p.x * q.x * (p.y * q.y)) = p.z * q.z * (ed * (p.t * q.t)) := by
    rw [show p.x * q.x * (p.y * q.y) = p.x * p.y * (q.x * q.y) by clear h1 h2; grobner, h1, h2]
    clear h1 h2
    grobner
  clear h1 h2
  simp only [fadd, X4.three, xadd, e]
  clear e hp hq
  congr 1 <;> grobner
theorem xadd_ok {p q : X4} (hp : Xo p) (hq : Xo q) : Xo (xadd p q) ∧ xdrop (xadd p q) = eadd (xdrop p) (xdrop q) := by
  have hf := fadd_ok hp.fo hq.fo
  have hc := fld2.ne (fld2.ne hp.z hq.z) (fld2.ne hp.z hq.z)
  rw [xadd_three hp hq] at hf
  have nz : (xadd p q).z ≠ 0 := fun h => hf.1.z (by
    show p.z * q.z * (p.z * q.z) * (xadd p q).z = 0
    rw [h]
    grobner)
  have key : xdrop (xadd p q) = eadd (xdrop p) (xdrop q) := (fdrop_sc hc nz).symm.trans hf.2
  refine ⟨⟨nz, ?_, by rw [key]; exact egr.mem hp.on hq.on⟩, key⟩
  simp only [xadd]
  clear hf hc nz key hp hq
  grobner
/-- A sum of four numbers that is the curve's. -/
structure Sums (A : X4 → X4 → X4) : Prop where
  ok : ∀ {p q : X4}, Xo p → Xo q → Xo (A p q) ∧ xdrop (A p q) = eadd (xdrop p) (xdrop q)
theorem xadd_sums : Sums xadd := ⟨xadd_ok⟩
theorem sums_sc {A : X4 → X4 → X4} {k : Fin m2} (hk : k ≠ 0) (h : ∀ p q, A p q = ⟨k * (xadd p q).x, k * (xadd p q).y, k * (xadd p q).z, k * (xadd p q).t⟩) : Sums A := ⟨fun {p q} hp hq => by
  obtain ⟨h1, h2⟩ := xadd_ok hp hq
  obtain ⟨g1, g2⟩ := xo_sc hk h1
  rw [h]
  exact ⟨g1, g2.trans h2⟩⟩
/-- Multiples, bit by bit from the highest on. -/
def xm (A : X4 → X4 → X4) (k : Nat) (p : X4) : Nat → X4
  | 0 => xlift (Ep.o m2)
  | n + 1 => if k / 2 ^ (255 - n) % 2 = 1 then A (A (xm A k p n) (xm A k p n)) p else A (xm A k p n) (xm A k p n)
theorem xm_mt {A : X4 → X4 → X4} (hA : Sums A) {k : Nat} {p : X4} (hp : Xo p) : ∀ n, n ≤ 256 → Xo (xm A k p n) ∧ xdrop (xm A k p n) = mt eadd (Ep.o m2) (xdrop p) (k / 2 ^ (256 - n) % 2 ^ n)
  | 0, _ => by
    rw [show k / 2 ^ (256 - 0) % 2 ^ 0 = 0 by rw [Nat.pow_zero, Nat.mod_one]]
    exact ⟨xo_lift egr.zero, xdrop_lift _⟩
  | n + 1, hn => by
    obtain ⟨h1, h2⟩ := xm_mt hA (k := k) hp n (by omega)
    have e1 : k / 2 ^ (256 - (n + 1)) % 2 ^ (n + 1) = 2 * (k / 2 ^ (256 - n) % 2 ^ n) + k / 2 ^ (255 - n) % 2 := by
      rw [show 256 - (n + 1) = 255 - n by omega]
      have e2 : k / 2 ^ (256 - n) = k / 2 ^ (255 - n) / 2 := by
        rw [Nat.div_div_eq_div_mul, ← Nat.pow_succ]
        congr 2
        omega
      rw [e2]
      generalize k / 2 ^ (255 - n) = m
      rw [Nat.pow_succ, Nat.mul_comm (2 ^ n) 2, Nat.mod_mul]
      omega
    obtain ⟨g1, g2⟩ := hA.ok h1 h1
    rw [h2, ← mt_two egr hp.on] at g2
    rw [e1]
    by_cases hb : k / 2 ^ (255 - n) % 2 = 1
    · rw [show xm A k p (n + 1) = _ from if_pos hb]
      obtain ⟨f1, f2⟩ := hA.ok g1 hp
      refine ⟨f1, ?_⟩
      rw [f2, g2, hb]
      rfl
    · rw [show xm A k p (n + 1) = _ from if_neg hb]
      refine ⟨g1, ?_⟩
      rw [g2, show k / 2 ^ (255 - n) % 2 = 0 by omega]
      rfl
theorem xm_all {A : X4 → X4 → X4} (hA : Sums A) {k : Nat} (hk : k < 2 ^ 256) {p : X4} (hp : Xo p) : xdrop (xm A k p 256) = mt eadd (Ep.o m2) (xdrop p) k := by
  rw [(xm_mt hA (k := k) hp 256 (Nat.le_refl _)).2, Nat.sub_self, Nat.pow_zero, Nat.div_one, Nat.mod_eq_of_lt hk]
end Go.Proofs.YtolehamdaceikaaDoor
