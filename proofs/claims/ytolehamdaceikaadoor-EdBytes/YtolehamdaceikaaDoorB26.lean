/- What the program's own Encode of layer 9 answers. What the program's own Little answers. What the program's own Decode of layer 9 answers. EdBytes, over what the program's own Encode and Decode answer (e_Enc, e_Dec, e_dec_not: text Q9B; TabX: what only this law has laid, or nothing). How the parameters, and the table of the moduli, are read before the call. How a point of two numbers and a truth is read before the call, and behind it. -/
import Derived.Test.YtolehamdaceikaaDoorB22
import Derived.Test.YtolehamdaceikaaDoorB23
import Derived.Test.YtolehamdaceikaaDoorB25
import Derived.Test.YtolehamdaceikaaDoorB24
import Derived.Test.YtolehamdaceikaaDoorB18
import Derived.Test.YtolehamdaceikaaDoorB15
import Derived.Deep.LoopGhost
import Derived.Deep.DeepCutAuto
import Derived.Deep.RegionWith
import Derived.OwnWalk
import Derived.Test.YtolehamdaceikaaDoorTie
import Derived.Test.YtolehamdaceikaaDoorCards
import Derived.ProofKit
import Derived.LaidMore
import Derived.MakeChecks
import Derived.Lib.LaidTab
import Derived.Stop.LaidErr
import Derived.Laws.IdiomArrays
import Derived.OpenShut
import Derived.Stop.Joined
namespace Go.Proofs.YtolehamdaceikaaDoor
open Go.RowKit

theorem cE61 (vs : List Value) : ∀ w, (callFunc 61 vs.toArray).run Tryd.prog w = .ok (.enter 61 vs.toArray) w := callFunc_enter Tryd.func61 (by kernel_rfl) (by kernel_rfl) _
section
variable {P : Program} {W : Bs} {n : Nat} {ops : Array Oper} {i : Nat} {o : Oper} {L : Nat → Bool} {xs : List OE} {σ : SS}
theorem u_lenQ (u : Up ops i o L) (hg : Gd ops n o (run L 0 xs σ)) (dd : Nat) (hdd : o.dst = some dd) (x : Operand) (t : TypeId) (ho : o.op = .call { callee := .builtin .len, args := #[x], argTypes := #[t] }) {y off m c : Nat} (hx : lookO n ops i o xs σ x = some (.sli y off m c)) {e : TypeId} (hu : P.underlying t = some (.slice e)) : GStep P W n ops o (run L 0 xs σ) ((eS dd (.val (.int .i64 (m : Int)))).app (run L 0 xs σ)) := by
  refine u_any u hg dd hdd _ (fun x c hp => by cases hp) fun β a w hr => ?_
  unfold execOp
  simp [ho, resolve, invoke, builtin, hr.eval (u.ev hx), SV.at, Builtin.len_, goInt, run_underlying hu]
end
theorem e_bit0 {w : World} (k : Nat) : Calls Tryd.prog 52 [.agg (nc (k : Int)).toArray, .int .i64 0].toArray w fun e w' => e = .returned (.int .i64 ((k % 2 : Nat) : Int)) ∧ Below w.heap.size w w' := by
  have h := e_bit (w := w) k 0 (by omega)
  rw [Nat.pow_zero, Nat.div_one] at h
  exact h
set_option maxRecDepth 100000 in
set_option maxHeartbeats 4000000 in
theorem e_odd_t {w : World} {x : Fin m2} (hp : x.val % 2 = 1) : Calls Tryd.prog 55 [.agg (gc (x)).toArray].toArray w fun e w' => e = .returned (.bool true) ∧ Below w.heap.size w w' := by
  refine enter (args := [.agg (gc (x)).toArray]) Tryd.func55 rfl 6 rfl (lk rfl) (fun a h => ?_)
  refine go_region h hm [eN 1 (gc (x)), eS 2 (.val (Value.bool false))] (by kernel_rfl) ⟨
    fun L u => u_box u (gd0 rfl) 24 (.tmp 0) rfl 1 rfl rfl rfl _ rfl,
    fun L u => u_move u (gd0 rfl) 2 rfl (.const (.bool false)) (Or.inr rfl) rfl,
    trivial⟩ [(1, .ptr 1 0)] [(1, gc (x))] ⟨rfl, trivial⟩ ⟨rfl, trivial⟩ rfl (fun a w h => ?_)
  refine go_region h hm [eS 3 (.val (.agg (gc (x)).toArray)), eS 4 (.val (Value.int .i64 ((x.val % 2 : Nat) : Int))), eS 5 (.val (Value.bool true)), eS 2 (.val (Value.bool true))] (by kernel_rfl) ⟨
    fun L u => u_load u (gd0 rfl) 3 rfl 24 (.tmp 1) rfl rfl rfl Tryd.underlying24 rfl i24 (lk rfl) _ rfl,
    fun L u => u_call u (gd0 rfl) 4 rfl 52 #[(.tmp 3), (.const (.int .i64 0))] #[24, 3] rfl [.agg (gc (x)).toArray, (Value.int IntKind.i64 0)] rfl (cE52 _) (Value.int .i64 ((x.val % 2 : Nat) : Int)) (fun w hb => e_bit0 x.val),
    fun L u => u_bin u (gd0 rfl) 5 rfl .eql 3 3 (.tmp 4) (.const (.int .i64 1)) rfl rfl rfl (eqg_int _ _ _ _ _ _ _ _) (Value.bool true) (yes_of (fun w => i_eql _ _ _ _ w) (by omega)),
    fun L u => u_move u (gd0 rfl) 2 rfl (.tmp 5) (Or.inr rfl) rfl,
    trivial⟩ [(2, .val (Value.bool true))] [] ⟨rfl, trivial⟩ trivial rfl (fun a w h => ?_)
  refine wp_ret ?_
  refine ret_slot h 2 rfl (lk rfl) (Value.bool true) rfl ?_
  exact ⟨rfl, h.grows⟩
set_option maxRecDepth 100000 in
set_option maxHeartbeats 4000000 in
theorem e_odd_f {w : World} {x : Fin m2} (hp : x.val % 2 = 0) : Calls Tryd.prog 55 [.agg (gc (x)).toArray].toArray w fun e w' => e = .returned (.bool false) ∧ Below w.heap.size w w' := by
  refine enter (args := [.agg (gc (x)).toArray]) Tryd.func55 rfl 6 rfl (lk rfl) (fun a h => ?_)
  refine go_region h hm [eN 1 (gc (x)), eS 2 (.val (Value.bool false))] (by kernel_rfl) ⟨
    fun L u => u_box u (gd0 rfl) 24 (.tmp 0) rfl 1 rfl rfl rfl _ rfl,
    fun L u => u_move u (gd0 rfl) 2 rfl (.const (.bool false)) (Or.inr rfl) rfl,
    trivial⟩ [(1, .ptr 1 0)] [(1, gc (x))] ⟨rfl, trivial⟩ ⟨rfl, trivial⟩ rfl (fun a w h => ?_)
  refine go_region h hm [eS 3 (.val (.agg (gc (x)).toArray)), eS 4 (.val (Value.int .i64 ((x.val % 2 : Nat) : Int))), eS 5 (.val (Value.bool false)), eS 2 (.val (Value.bool false))] (by kernel_rfl) ⟨
    fun L u => u_load u (gd0 rfl) 3 rfl 24 (.tmp 1) rfl rfl rfl Tryd.underlying24 rfl i24 (lk rfl) _ rfl,
    fun L u => u_call u (gd0 rfl) 4 rfl 52 #[(.tmp 3), (.const (.int .i64 0))] #[24, 3] rfl [.agg (gc (x)).toArray, (Value.int IntKind.i64 0)] rfl (cE52 _) (Value.int .i64 ((x.val % 2 : Nat) : Int)) (fun w hb => e_bit0 x.val),
    fun L u => u_bin u (gd0 rfl) 5 rfl .eql 3 3 (.tmp 4) (.const (.int .i64 1)) rfl rfl rfl (eqg_int _ _ _ _ _ _ _ _) (Value.bool false) (no_of (fun w => i_eql _ _ _ _ w) (by omega)),
    fun L u => u_move u (gd0 rfl) 2 rfl (.tmp 5) (Or.inr rfl) rfl,
    trivial⟩ [(2, .val (Value.bool false))] [] ⟨rfl, trivial⟩ trivial rfl (fun a w h => ?_)
  refine wp_ret ?_
  refine ret_slot h 2 rfl (lk rfl) (Value.bool false) rfl ?_
  exact ⟨rfl, h.grows⟩
theorem ox_even : ((Ep.o m2).x).val % 2 = 0 := by decide +kernel
set_option maxRecDepth 100000 in
set_option maxHeartbeats 4000000 in
theorem e_enc_even {w : World} (hT : Tab w) {x y : Fin m2} (hq : y * y - x * x = 1 + ed * (x * x * (y * y))) (hp : x.val % 2 = 0) : Calls Tryd.prog 24 [.agg (gc (x) ++ gc (y) ++ [Value.bool false]).toArray].toArray w fun e w' => NewC (fun i => Y i (((code ⟨x, y⟩ : Nat)) : Int)) w e w' := by
  refine enter (args := [.agg (gc (x) ++ gc (y) ++ [Value.bool false]).toArray]) Tryd.func24 rfl 23 rfl (lk rfl) (fun a h => ?_)
  refine go_region h hm [eN 1 (gc (x) ++ gc (y) ++ [Value.bool false]), eS 2 (.val ((Value.slice none 0 0)))] (by kernel_rfl) ⟨
    fun L u => u_box u (gd0 rfl) 26 (.tmp 0) rfl 1 rfl rfl rfl _ rfl,
    fun L u => u_move u (gd0 rfl) 2 rfl (.const (.slice none 0 0)) (Or.inr rfl) rfl,
    trivial⟩ [(1, .ptr 1 0)] [(1, gc (x) ++ gc (y) ++ [Value.bool false])] ⟨rfl, trivial⟩ ⟨rfl, trivial⟩ rfl (fun a w h => ?_)
  refine wp_seq ?_
  refine go_region h hm [eS 4 (.val (.agg (gc (x) ++ gc (y) ++ [Value.bool false]).toArray)), eS 5 (.val (Value.bool true)), eS 6 (.val (Value.bool false))] (by kernel_rfl) ⟨
    fun L u => u_load u (gd0 rfl) 4 rfl 26 (.tmp 1) rfl rfl rfl Tryd.underlying26 rfl i26 (lk rfl) _ rfl,
    fun L u => u_call u (gd0 rfl) 5 rfl 10 #[(.tmp 4)] #[26] rfl [.agg (gc (x) ++ gc (y) ++ [Value.bool false]).toArray] rfl (cE10 _) (Value.bool true) (fun w hb => by have f := e_formed_at (hT.keep (Bs.kp_of hb)) x y; rw [decide_eq_true hq] at f; exact f),
    fun L u => u_not u (gd0 rfl) 6 rfl 4 (.tmp 5) rfl rfl _ rfl,
    trivial⟩ [(1, .ptr 1 0), (6, .val (Value.bool false))] [(1, gc (x) ++ gc (y) ++ [Value.bool false])] ⟨rfl, rfl, trivial⟩ ⟨rfl, trivial⟩ rfl (fun a w h => ?_)
  refine go_cond h false rfl (fun ht => ?_) (fun hf => ?_)
  case refine_1 => cases ht
  refine wp_skip ?_
  refine then_norm ?_
  refine go_region h hm [eS 8 (.ptr 1 4), eS 9 (.val (.agg (gc (y)).toArray)), (⟨some (10, ⟨undef, some (10, 0), some (32, 32)⟩), some (10, by32 (fun i => Y i ((((y).val : Nat) : Int))))⟩ : OE), eS 3 (.sli 10 0 32 32)] (by kernel_rfl) ⟨
    fun L u => u_field u (gd0 rfl) 8 rfl 26 (.tmp 1) 1 rfl rfl rfl Tryd.underlying26 rfl i24 _ rfl,
    fun L u => u_load u (gd0 rfl) 9 rfl 24 (.tmp 8) rfl rfl rfl Tryd.underlying24 rfl i24 (lk rfl) _ rfl,
    fun L u => u_callN u (gd0 rfl) 10 rfl rfl 61 #[(.tmp 9)] #[24] rfl [.val (.agg (gc (y)).toArray)] rfl (fun vs w => callFunc_enter Tryd.func61 (by kernel_rfl) (by kernel_rfl) vs w) (some (32, 32)) (by32 (fun i => Y i ((((y).val : Nat) : Int)))) (fun β a w hr => e_PutC ((((y).val : Nat) : Int)) w),
    fun L u => u_copy u (gd0 rfl) 3 rfl (.tmp 10) (Or.inr rfl) rfl (fun x c hp => by cases hp; exact ⟨_, rfl⟩),
    trivial⟩ [(1, .ptr 1 0), (3, .sli 10 0 32 32)] [(1, gc (x) ++ gc (y) ++ [Value.bool false]), (10, by32 (fun i => Y i ((((y).val : Nat) : Int))))] ⟨rfl, rfl, trivial⟩ ⟨rfl, rfl, trivial⟩ rfl (fun a w h => ?_)
  refine wp_seq ?_
  refine go_region h hm [eS 11 (.ptr 1 0), eS 12 (.val (.agg (gc (x)).toArray)), eS 13 (.val (Value.bool false))] (by kernel_rfl) ⟨
    fun L u => u_field u (gd0 rfl) 11 rfl 26 (.tmp 1) 0 rfl rfl rfl Tryd.underlying26 rfl i24 _ rfl,
    fun L u => u_load u (gd0 rfl) 12 rfl 24 (.tmp 11) rfl rfl rfl Tryd.underlying24 rfl i24 (lk rfl) _ rfl,
    fun L u => u_call u (gd0 rfl) 13 rfl 55 #[(.tmp 12)] #[24] rfl [.agg (gc (x)).toArray] rfl (cE55 _) (Value.bool false) (fun w hb => e_odd_f hp),
    trivial⟩ [(3, .sli 10 0 32 32), (13, .val (Value.bool false))] [(10, by32 (fun i => Y i ((((y).val : Nat) : Int))))] ⟨rfl, rfl, trivial⟩ ⟨rfl, trivial⟩ rfl (fun a w h => ?_)
  refine go_cond h false rfl (fun ht => ?_) (fun hf => ?_)
  case refine_1 => cases ht
  refine wp_skip ?_
  refine then_norm ?_
  refine go_region h hm [eS 22 (.sli 10 0 32 32), eS 2 (.sli 10 0 32 32)] (by kernel_rfl) ⟨
    fun L u => u_copy u (gd0 rfl) 22 rfl (.tmp 3) (Or.inl rfl) rfl (fun x c hp => by cases hp; exact ⟨_, rfl⟩),
    fun L u => u_copy u (gd0 rfl) 2 rfl (.tmp 22) (Or.inr rfl) rfl (fun x c hp => by cases hp; exact ⟨_, rfl⟩),
    trivial⟩ [(2, .sli 10 0 32 32)] [(10, by32 (fun i => Y i ((((y).val : Nat) : Int))))] ⟨rfl, trivial⟩ ⟨rfl, trivial⟩ rfl (fun a w h => ?_)
  refine wp_ret ?_
  refine ret_newC (cs := by32 (fun i => Y i ((((y).val : Nat) : Int)))) h 2 rfl (lk rfl) 10 rfl rfl ?_
  refine by32_ext ?_; intro i hi; show Y i _ = Y i _; rw [code_even (a := ⟨x, y⟩) hp]
set_option maxRecDepth 100000 in
set_option maxHeartbeats 4000000 in
theorem e_enc_odd {w : World} (hT : Tab w) {x y : Fin m2} (hq : y * y - x * x = 1 + ed * (x * x * (y * y))) (hp : x.val % 2 = 1) (hb0 : 0 ≤ Y 31 ((y.val : Nat) : Int)) (hb1 : Y 31 ((y.val : Nat) : Int) < 128) : Calls Tryd.prog 24 [.agg (gc (x) ++ gc (y) ++ [Value.bool false]).toArray].toArray w fun e w' => NewC (fun i => Y i (((code ⟨x, y⟩ : Nat)) : Int)) w e w' := by
  refine enter (args := [.agg (gc (x) ++ gc (y) ++ [Value.bool false]).toArray]) Tryd.func24 rfl 23 rfl (lk rfl) (fun a h => ?_)
  refine go_region h hm [eN 1 (gc (x) ++ gc (y) ++ [Value.bool false]), eS 2 (.val ((Value.slice none 0 0)))] (by kernel_rfl) ⟨
    fun L u => u_box u (gd0 rfl) 26 (.tmp 0) rfl 1 rfl rfl rfl _ rfl,
    fun L u => u_move u (gd0 rfl) 2 rfl (.const (.slice none 0 0)) (Or.inr rfl) rfl,
    trivial⟩ [(1, .ptr 1 0)] [(1, gc (x) ++ gc (y) ++ [Value.bool false])] ⟨rfl, trivial⟩ ⟨rfl, trivial⟩ rfl (fun a w h => ?_)
  refine wp_seq ?_
  refine go_region h hm [eS 4 (.val (.agg (gc (x) ++ gc (y) ++ [Value.bool false]).toArray)), eS 5 (.val (Value.bool true)), eS 6 (.val (Value.bool false))] (by kernel_rfl) ⟨
    fun L u => u_load u (gd0 rfl) 4 rfl 26 (.tmp 1) rfl rfl rfl Tryd.underlying26 rfl i26 (lk rfl) _ rfl,
    fun L u => u_call u (gd0 rfl) 5 rfl 10 #[(.tmp 4)] #[26] rfl [.agg (gc (x) ++ gc (y) ++ [Value.bool false]).toArray] rfl (cE10 _) (Value.bool true) (fun w hb => by have f := e_formed_at (hT.keep (Bs.kp_of hb)) x y; rw [decide_eq_true hq] at f; exact f),
    fun L u => u_not u (gd0 rfl) 6 rfl 4 (.tmp 5) rfl rfl _ rfl,
    trivial⟩ [(1, .ptr 1 0), (6, .val (Value.bool false))] [(1, gc (x) ++ gc (y) ++ [Value.bool false])] ⟨rfl, rfl, trivial⟩ ⟨rfl, trivial⟩ rfl (fun a w h => ?_)
  refine go_cond h false rfl (fun ht => ?_) (fun hf => ?_)
  case refine_1 => cases ht
  refine wp_skip ?_
  refine then_norm ?_
  refine go_region h hm [eS 8 (.ptr 1 4), eS 9 (.val (.agg (gc (y)).toArray)), (⟨some (10, ⟨undef, some (10, 0), some (32, 32)⟩), some (10, by32 (fun i => Y i ((((y).val : Nat) : Int))))⟩ : OE), eS 3 (.sli 10 0 32 32)] (by kernel_rfl) ⟨
    fun L u => u_field u (gd0 rfl) 8 rfl 26 (.tmp 1) 1 rfl rfl rfl Tryd.underlying26 rfl i24 _ rfl,
    fun L u => u_load u (gd0 rfl) 9 rfl 24 (.tmp 8) rfl rfl rfl Tryd.underlying24 rfl i24 (lk rfl) _ rfl,
    fun L u => u_callN u (gd0 rfl) 10 rfl rfl 61 #[(.tmp 9)] #[24] rfl [.val (.agg (gc (y)).toArray)] rfl (fun vs w => callFunc_enter Tryd.func61 (by kernel_rfl) (by kernel_rfl) vs w) (some (32, 32)) (by32 (fun i => Y i ((((y).val : Nat) : Int)))) (fun β a w hr => e_PutC ((((y).val : Nat) : Int)) w),
    fun L u => u_copy u (gd0 rfl) 3 rfl (.tmp 10) (Or.inr rfl) rfl (fun x c hp => by cases hp; exact ⟨_, rfl⟩),
    trivial⟩ [(1, .ptr 1 0), (3, .sli 10 0 32 32)] [(1, gc (x) ++ gc (y) ++ [Value.bool false]), (10, by32 (fun i => Y i ((((y).val : Nat) : Int))))] ⟨rfl, rfl, trivial⟩ ⟨rfl, rfl, trivial⟩ rfl (fun a w h => ?_)
  refine wp_seq ?_
  refine go_region h hm [eS 11 (.ptr 1 0), eS 12 (.val (.agg (gc (x)).toArray)), eS 13 (.val (Value.bool true))] (by kernel_rfl) ⟨
    fun L u => u_field u (gd0 rfl) 11 rfl 26 (.tmp 1) 0 rfl rfl rfl Tryd.underlying26 rfl i24 _ rfl,
    fun L u => u_load u (gd0 rfl) 12 rfl 24 (.tmp 11) rfl rfl rfl Tryd.underlying24 rfl i24 (lk rfl) _ rfl,
    fun L u => u_call u (gd0 rfl) 13 rfl 55 #[(.tmp 12)] #[24] rfl [.agg (gc (x)).toArray] rfl (cE55 _) (Value.bool true) (fun w hb => e_odd_t hp),
    trivial⟩ [(3, .sli 10 0 32 32), (13, .val (Value.bool true))] [(10, by32 (fun i => Y i ((((y).val : Nat) : Int))))] ⟨rfl, rfl, trivial⟩ ⟨rfl, trivial⟩ rfl (fun a w h => ?_)
  refine go_cond h true rfl (fun ht => ?_) (fun hf => ?_)
  case refine_2 => cases hf
  refine go_end h hm [eS 14 (.sli 10 0 32 32), eS 15 (.sli 10 0 32 32), eS 16 (.val (Value.int .i64 32)), eS 17 (.val (Value.int .i64 31)), eS 18 (.ptr 10 31), eS 19 (.val (Value.int .u8 ((fun i => Y i ((((y).val : Nat) : Int))) 31))), eS 20 (.val (Value.int .u8 (((fun i => Y i ((((y).val : Nat) : Int))) 31) + 128))), eS 21 (.ptr 10 31), eM 10 (by31 (fun i => Y i ((((y).val : Nat) : Int))) ((((fun i => Y i ((((y).val : Nat) : Int))) 31) + 128)))] (by kernel_rfl) ⟨
    fun L u => u_copy u (gd0 rfl) 14 rfl (.tmp 3) (Or.inl rfl) rfl (fun x c hp => by cases hp; exact ⟨_, rfl⟩),
    fun L u => u_copy u (gd0 rfl) 15 rfl (.tmp 3) (Or.inl rfl) rfl (fun x c hp => by cases hp; exact ⟨_, rfl⟩),
    fun L u => u_lenQ u (gd0 rfl) 16 rfl (.tmp 15) 43 rfl rfl Tryd.underlying43,
    fun L u => u_bin u (gd0 rfl) 17 rfl .sub 3 3 (.tmp 16) (.const (.int .i64 1)) rfl rfl rfl (eqg_int _ _ _ _ _ _ _ _) (Value.int .i64 31) (fun w => i_sub _ _ _ _ (by decide) (by decide) w),
    fun L u => u_atS u (gd0 rfl) 18 rfl 43 (.tmp 14) (.tmp 17) rfl rfl rfl (k := 31) rfl Tryd.underlying43 i5 (by decide) 31 rfl,
    fun L u => u_load1 u (gd0 rfl) 19 rfl 5 (.tmp 18) rfl rfl rfl Tryd.underlying5 rfl _ rfl,
    fun L u => u_bin u (gd0 rfl) 20 rfl .or 5 5 (.tmp 19) (.const (.int .u8 128)) rfl rfl rfl (eqg_int _ _ _ _ _ _ _ _) (Value.int .u8 (((fun i => Y i ((((y).val : Nat) : Int))) 31) + 128)) (fun w => i_orB _ _ _ hb0 hb1 rfl w),
    fun L u => u_atS u (gd0 rfl) 21 rfl 43 (.tmp 14) (.tmp 17) rfl rfl rfl (k := 31) rfl Tryd.underlying43 i5 (by decide) 31 rfl,
    fun L u => u_store1 u (gd0 rfl) 5 (.tmp 21) (.tmp 20) rfl rfl rfl rfl rfl i5 (lk rfl) rfl _ rfl,
    trivial⟩ [(3, .sli 10 0 32 32)] [(10, by31 (fun i => Y i ((((y).val : Nat) : Int))) ((((fun i => Y i ((((y).val : Nat) : Int))) 31) + 128)))] ⟨rfl, trivial⟩ ⟨rfl, trivial⟩ rfl (fun a w h => ?_)
  refine then_norm ?_
  refine go_region h hm [eS 22 (.sli 10 0 32 32), eS 2 (.sli 10 0 32 32)] (by kernel_rfl) ⟨
    fun L u => u_copy u (gd0 rfl) 22 rfl (.tmp 3) (Or.inl rfl) rfl (fun x c hp => by cases hp; exact ⟨_, rfl⟩),
    fun L u => u_copy u (gd0 rfl) 2 rfl (.tmp 22) (Or.inr rfl) rfl (fun x c hp => by cases hp; exact ⟨_, rfl⟩),
    trivial⟩ [(2, .sli 10 0 32 32)] [(10, by31 (fun i => Y i ((((y).val : Nat) : Int))) ((((fun i => Y i ((((y).val : Nat) : Int))) 31) + 128)))] ⟨rfl, trivial⟩ ⟨rfl, trivial⟩ rfl (fun a w h => ?_)
  refine wp_ret ?_
  refine ret_newC (cs := by31 (fun i => Y i ((((y).val : Nat) : Int))) ((((fun i => Y i ((((y).val : Nat) : Int))) 31) + 128))) h 2 rfl (lk rfl) 10 rfl rfl ?_
  refine by31_ext ?_ ?_; (intro i hi; show Y i _ = Y i _; exact (e_on (a := ⟨x, y⟩) i hi).symm); (show Y 31 _ + 128 = Y 31 _; exact (code_top (a := ⟨x, y⟩) hp).symm)
set_option maxRecDepth 100000 in
set_option maxHeartbeats 4000000 in
theorem e_enc_off {w : World} (hT : Tab w) {A B : Int} {t : Bool} (hF : ∀ {w : World}, Tab w → Calls Tryd.prog 10 [.agg (nc A ++ nc B ++ [Value.bool t]).toArray].toArray w fun e w' => e = .returned (.bool false) ∧ Below w.heap.size w w') : Calls Tryd.prog 24 [.agg (nc (A) ++ nc (B) ++ [Value.bool t]).toArray].toArray w fun e w' => NewC (fun i => Y i (((code (Ep.o m2) : Nat)) : Int)) w e w' := by
  refine enter (args := [.agg (nc (A) ++ nc (B) ++ [Value.bool t]).toArray]) Tryd.func24 rfl 23 rfl (lk rfl) (fun a h => ?_)
  refine go_region h hm [eN 1 (nc (A) ++ nc (B) ++ [Value.bool t]), eS 2 (.val ((Value.slice none 0 0)))] (by kernel_rfl) ⟨
    fun L u => u_box u (gd0 rfl) 26 (.tmp 0) rfl 1 rfl rfl rfl _ rfl,
    fun L u => u_move u (gd0 rfl) 2 rfl (.const (.slice none 0 0)) (Or.inr rfl) rfl,
    trivial⟩ [(1, .ptr 1 0)] [(1, nc (A) ++ nc (B) ++ [Value.bool t])] ⟨rfl, trivial⟩ ⟨rfl, trivial⟩ rfl (fun a w h => ?_)
  refine wp_seq ?_
  refine go_region h hm [eS 4 (.val (.agg (nc (A) ++ nc (B) ++ [Value.bool t]).toArray)), eS 5 (.val (Value.bool false)), eS 6 (.val (Value.bool true))] (by kernel_rfl) ⟨
    fun L u => u_load u (gd0 rfl) 4 rfl 26 (.tmp 1) rfl rfl rfl Tryd.underlying26 rfl i26 (lk rfl) _ rfl,
    fun L u => u_call u (gd0 rfl) 5 rfl 10 #[(.tmp 4)] #[26] rfl [.agg (nc (A) ++ nc (B) ++ [Value.bool t]).toArray] rfl (cE10 _) (Value.bool false) (fun w hb => hF (hT.keep (Bs.kp_of hb))),
    fun L u => u_not u (gd0 rfl) 6 rfl 4 (.tmp 5) rfl rfl _ rfl,
    trivial⟩ [(1, .ptr 1 0), (6, .val (Value.bool true))] [(1, nc (A) ++ nc (B) ++ [Value.bool t])] ⟨rfl, rfl, trivial⟩ ⟨rfl, trivial⟩ rfl (fun a w h => ?_)
  refine go_cond h true rfl (fun ht => ?_) (fun hf => ?_)
  case refine_2 => cases hf
  refine go_end h hm [eS 7 (.val (.agg (pcE (Ep.o m2)).toArray)), eM 1 (pcE (Ep.o m2))] (by kernel_rfl) ⟨
    fun L u => u_call u (gd0 rfl) 7 rfl 51 #[] #[] rfl [] rfl (cE51 _) (.agg (pcE (Ep.o m2)).toArray) (fun w hb => e_neutral),
    fun L u => u_store u (gd0 rfl) 26 (.tmp 1) (.tmp 7) rfl rfl rfl (vs := pcE (Ep.o m2)) rfl rfl i26 (lk rfl) rfl _ rfl,
    trivial⟩ [(1, .ptr 1 0)] [(1, pcE (Ep.o m2))] ⟨rfl, trivial⟩ ⟨rfl, trivial⟩ rfl (fun a w h => ?_)
  refine then_norm ?_
  refine go_region h hm [eS 8 (.ptr 1 4), eS 9 (.val (.agg (gc ((Ep.o m2).y)).toArray)), (⟨some (10, ⟨undef, some (10, 0), some (32, 32)⟩), some (10, by32 (fun i => Y i (((((Ep.o m2).y).val : Nat) : Int))))⟩ : OE), eS 3 (.sli 10 0 32 32)] (by kernel_rfl) ⟨
    fun L u => u_field u (gd0 rfl) 8 rfl 26 (.tmp 1) 1 rfl rfl rfl Tryd.underlying26 rfl i24 _ rfl,
    fun L u => u_load u (gd0 rfl) 9 rfl 24 (.tmp 8) rfl rfl rfl Tryd.underlying24 rfl i24 (lk rfl) _ rfl,
    fun L u => u_callN u (gd0 rfl) 10 rfl rfl 61 #[(.tmp 9)] #[24] rfl [.val (.agg (gc ((Ep.o m2).y)).toArray)] rfl (fun vs w => callFunc_enter Tryd.func61 (by kernel_rfl) (by kernel_rfl) vs w) (some (32, 32)) (by32 (fun i => Y i (((((Ep.o m2).y).val : Nat) : Int)))) (fun β a w hr => e_PutC (((((Ep.o m2).y).val : Nat) : Int)) w),
    fun L u => u_copy u (gd0 rfl) 3 rfl (.tmp 10) (Or.inr rfl) rfl (fun x c hp => by cases hp; exact ⟨_, rfl⟩),
    trivial⟩ [(1, .ptr 1 0), (3, .sli 10 0 32 32)] [(1, pcE (Ep.o m2)), (10, by32 (fun i => Y i (((((Ep.o m2).y).val : Nat) : Int))))] ⟨rfl, rfl, trivial⟩ ⟨rfl, rfl, trivial⟩ rfl (fun a w h => ?_)
  refine wp_seq ?_
  refine go_region h hm [eS 11 (.ptr 1 0), eS 12 (.val (.agg (gc ((Ep.o m2).x)).toArray)), eS 13 (.val (Value.bool false))] (by kernel_rfl) ⟨
    fun L u => u_field u (gd0 rfl) 11 rfl 26 (.tmp 1) 0 rfl rfl rfl Tryd.underlying26 rfl i24 _ rfl,
    fun L u => u_load u (gd0 rfl) 12 rfl 24 (.tmp 11) rfl rfl rfl Tryd.underlying24 rfl i24 (lk rfl) _ rfl,
    fun L u => u_call u (gd0 rfl) 13 rfl 55 #[(.tmp 12)] #[24] rfl [.agg (gc ((Ep.o m2).x)).toArray] rfl (cE55 _) (Value.bool false) (fun w hb => e_odd_f (x := (Ep.o m2).x) ox_even),
    trivial⟩ [(3, .sli 10 0 32 32), (13, .val (Value.bool false))] [(10, by32 (fun i => Y i (((((Ep.o m2).y).val : Nat) : Int))))] ⟨rfl, rfl, trivial⟩ ⟨rfl, trivial⟩ rfl (fun a w h => ?_)
  refine go_cond h false rfl (fun ht => ?_) (fun hf => ?_)
  case refine_1 => cases ht
  refine wp_skip ?_
  refine then_norm ?_
  refine go_region h hm [eS 22 (.sli 10 0 32 32), eS 2 (.sli 10 0 32 32)] (by kernel_rfl) ⟨
    fun L u => u_copy u (gd0 rfl) 22 rfl (.tmp 3) (Or.inl rfl) rfl (fun x c hp => by cases hp; exact ⟨_, rfl⟩),
    fun L u => u_copy u (gd0 rfl) 2 rfl (.tmp 22) (Or.inr rfl) rfl (fun x c hp => by cases hp; exact ⟨_, rfl⟩),
    trivial⟩ [(2, .sli 10 0 32 32)] [(10, by32 (fun i => Y i (((((Ep.o m2).y).val : Nat) : Int))))] ⟨rfl, trivial⟩ ⟨rfl, trivial⟩ rfl (fun a w h => ?_)
  refine wp_ret ?_
  refine ret_newC (cs := by32 (fun i => Y i (((((Ep.o m2).y).val : Nat) : Int)))) h 2 rfl (lk rfl) 10 rfl rfl ?_
  refine by32_ext ?_; intro i hi; show Y i _ = Y i _; rw [code_o]; rfl
theorem e_EncC {w : World} (hT : Tab w) {X Y : Int} (hX : Num X) (hY : Num Y) (t : Bool) : Calls Tryd.prog 24 [.agg (rc X Y t).toArray].toArray w fun e w' => NewC (fun i => Go.Proofs.YtolehamdaceikaaDoor.Y i (((code (rpE X Y t) : Nat)) : Int)) w e w' := by
  by_cases h : fmdE X Y t = false
  · rw [fmdE_rp h]
    refine e_enc_off hT (fun hT => ?_)
    have f := e_Formed hT hX hY t
    rw [h] at f
    exact f
  · have h2 : fmdE X Y t = true := by simpa using h
    have hd : t = false ∧ X < md 2 ∧ Y < md 2 ∧ (kc Y : Fin m2) * kc Y - kc X * kc X = 1 + ed * (kc X * kc X * (kc Y * kc Y)) := of_decide_eq_true h2
    rw [show rpE X Y t = ⟨kc X, kc Y⟩ from if_pos hd, hd.1, rc, nc_gc hX.lo hd.2.1, nc_gc hY.lo hd.2.2.1]
    obtain ⟨a, b, _⟩ := Y_top (y := (((kc Y : Fin m2).val : Nat) : Int)) (by omega) (y_int ⟨kc X, kc Y⟩)
    by_cases hp : (kc X : Fin m2).val % 2 = 0
    · exact e_enc_even hT hd.2.2.2 hp
    · exact e_enc_odd hT hd.2.2.2 (by omega) a b
end Go.Proofs.YtolehamdaceikaaDoor
namespace Go.Proofs.YtolehamdaceikaaDoor
open Go.RowKit
attribute [local go_sem ↓] Go.wp_at_zero Go.wp_at_succ

set_option maxRecDepth 100000 in
set_option maxHeartbeats 1000000 in
theorem lift_any (x : Int) (h0 : 0 ≤ x) (h1 : x < 256) (k : Nat) (hk : k < 64) (w : World) :
    Calls Tryd.prog 70 #[.int .u8 x, .int .i64 k] w fun e w' => e = .returned (.int .u64 (x * 256 ^ (k % 8))) ∧ w' = w := by
  rcases rest8 k with hr | hr | hr | hr | hr | hr | hr | hr
  all_goals
    rw [hr]
    have hri : (k : Int) % 8 = ((k % 8 : Nat) : Int) := by omega
    rw [hr] at hri
    clear hr
    go_enter Tryd.func70, Tryd.ntmps70
    go_wp2
    go_ret
    exact ⟨ret_int (by simp), rfl⟩
/-- A row of n words of its own, that may be written. -/
structure RowQ (w : World) (b n : Nat) (g : Nat → Int) : Prop where
  lt : b < w.heap.size
  c : ∀ i, i < n → w.cell? ⟨b, i, none⟩ = some (.int .u64 (g i))
  z : ∀ i, i < n → w.frozen? ⟨b, i, none⟩ = false
theorem RowQ.keep {W w1 : World} {b n : Nat} {g : Nat → Int} (h : RowQ W b n g) (hb : Below W.heap.size W w1) : RowQ w1 b n g :=
  ⟨Nat.lt_of_lt_of_le h.lt hb.size, fun i hi => later hb (h.c i hi), fun i hi => (hb.frozen (p := ⟨b, i, none⟩) h.lt).trans (h.z i hi)⟩
theorem RowQ.congr {w : World} {b n : Nat} {f g : Nat → Int} (h : RowQ w b n f) (e : ∀ i, i < n → f i = g i) : RowQ w b n g :=
  ⟨h.lt, fun i hi => by rw [← e i hi]; exact h.c i hi, h.z⟩
theorem RowQ.store {w : World} {b n : Nat} {f : Nat → Int} (h : RowQ w b n f) (k : Nat) (hk : k < n) (v : Int) : RowQ (w.setCell ⟨b, k, none⟩ (.int .u64 v)) b n (fun i => if i = k then v else f i) := by
  refine ⟨by simpa using h.lt, fun i hi => ?_, fun i hi => by rw [World.frozen?_setCell]; exact h.z i hi⟩
  have hc := h.c i hi
  have hcs := h.c k hk
  by_cases e : i = k
  · subst e; simp [go_sem, hc]
  · simp [go_sem, hc, e]
theorem RowQ.other {w : World} {b n m o : Nat} {f : Nat → Int} {v : Value} (h : RowQ w b n f) (hb : b ≠ m) : RowQ (w.setCell ⟨m, o, none⟩ v) b n f := by
  refine ⟨by simpa using h.lt, fun i hi => ?_, fun i hi => by rw [World.frozen?_setCell]; exact h.z i hi⟩
  have hc := h.c i hi
  simp [go_sem, hc]
theorem RowQ.drew {W : World} {b n : Nat} {g : Nat → Int} (h : RowQ W b n g) : RowQ W.drew b n g := h.keep (Below.refl _ _).drew
theorem RowQ.new4 (W : World) (b : Nat) (hb : b = W.heap.size) : RowQ (W.alloc (.cells #[.int .u64 0, .int .u64 0, .int .u64 0, .int .u64 0] 24)) b 4 (fun _ => 0) := by
  subst hb
  refine ⟨by simp, fun i hi => ?_, fun i hi => by simp [go_sem]⟩
  match i, hi with
  | 0, _ => simp [go_sem]
  | 1, _ => simp [go_sem]
  | 2, _ => simp [go_sem]
  | 3, _ => simp [go_sem]
theorem or_byte {x y : Int} {r : Nat} (hr : r < 8) (hx : 0 ≤ x) (hx2 : x < 256 ^ r) (hy : 0 ≤ y) (hy2 : y < 256) : bits .or .u64 x (y * 256 ^ r) = x + y * 256 ^ r := by
  have e : (256 : Int) ^ r = ((2 ^ (8 * r) : Nat) : Int) := by rw [Nat.pow_mul]; simp
  have h7 : (2 : Nat) ^ (8 * r) ≤ 2 ^ 56 := Nat.pow_le_pow_right (by omega) (by omega)
  rw [e] at hx2 ⊢
  obtain ⟨n, rfl⟩ := Int.eq_ofNat_of_zero_le hx
  obtain ⟨m, rfl⟩ := Int.eq_ofNat_of_zero_le hy
  have hn : n < 2 ^ (8 * r) := by omega
  have hm : m * 2 ^ (8 * r) ≤ 255 * 2 ^ 56 := Nat.mul_le_mul (by omega) h7
  have hmi : (m : Int) * ((2 ^ (8 * r) : Nat) : Int) = ((m * 2 ^ (8 * r) : Nat) : Int) := by simp
  rw [hmi]
  generalize hp : 2 ^ (8 * r) = p at *
  rw [u64_or _ _ (by omega) (by omega) (by omega) (by omega), Int.toNat_natCast, Int.toNat_natCast, Nat.or_comm, Nat.mul_comm, ← hp, ← Nat.two_pow_add_eq_or_of_lt (by omega)]
  omega
/-- The words of which k bytes are there. -/
def G (f : Nat → Int) (k j : Nat) : Int := E f (8 * j) (min 8 (k - 8 * j))
theorem G_zero (f : Nat → Int) (j : Nat) : G f 0 j = 0 := by unfold G; rw [show min 8 (0 - 8 * j) = 0 by omega]; rfl
theorem G_bd {f : Nat → Int} (hf : ∀ i, 0 ≤ f i ∧ f i < 256) (k j : Nat) : 0 ≤ G f k j ∧ G f k j < 18446744073709551616 := by
  have h := E_bd hf (8 * j) (min 8 (k - 8 * j))
  have h8 : (256 : Int) ^ min 8 (k - 8 * j) ≤ 256 ^ 8 := by
    have : (256 : Nat) ^ min 8 (k - 8 * j) ≤ 256 ^ 8 := Nat.pow_le_pow_right (by omega) (by omega)
    have h' := Int.ofNat_le.2 this
    rw [Int.natCast_pow, Int.natCast_pow] at h'
    exact h'
  exact ⟨h.1, Int.lt_of_lt_of_le h.2 (Int.le_trans h8 (by decide))⟩
theorem G_step {f : Nat → Int} (hf : ∀ i, 0 ≤ f i ∧ f i < 256) (k : Nat) : bits .or .u64 (G f k (k / 8)) (f k * 256 ^ (k % 8)) = G f (k + 1) (k / 8) := by
  have h := E_bd hf (8 * (k / 8)) (k % 8)
  unfold G
  rw [show min 8 (k - 8 * (k / 8)) = k % 8 by omega, show min 8 (k + 1 - 8 * (k / 8)) = k % 8 + 1 by omega, or_byte (by omega) h.1 h.2 (hf k).1 (hf k).2]
  simp only [E]
  rw [show 8 * (k / 8) + k % 8 = k by omega]
theorem G_other (f : Nat → Int) {k j : Nat} (h : j ≠ k / 8) : G f k j = G f (k + 1) j := by
  unfold G
  rw [show min 8 (k - 8 * j) = min 8 (k + 1 - 8 * j) by omega]
theorem word_step {g h : Nat → Int} {n q : Nat} {v : Int} (hv : v = h q) (ho : ∀ {i}, i ≠ q → g i = h i) : ∀ i, i < n → (if i = q then v else g i) = h i := by
  intro i _
  split
  · next e => rw [e]; exact hv
  · next e => exact ho e
theorem G_full (f : Nat → Int) {n j : Nat} (h : 8 * j + 8 ≤ n) : G f n j = E f (8 * j) 8 := by
  unfold G
  rw [show min 8 (n - 8 * j) = 8 by omega]
set_option maxRecDepth 100000 in
set_option maxHeartbeats 2000000 in
theorem little_not (v : Option Addr) (n cap : Nat) (h : n ≠ 32) (w : World) :
    Calls Tryd.prog 50 #[.slice v n cap] w fun e w' => e = .returned (.tuple #[.agg #[.int .u64 0, .int .u64 0, .int .u64 0, .int .u64 0], .bool false]) ∧ Below w.heap.size w w' := by
  have hb : ((n : Int) == 32) = false := beq_eq_false_iff_ne.2 (by omega)
  go_enter Tryd.func50, Tryd.ntmps50
  go_wp2
  exact bodyPost_ret (v := .tuple #[.agg #[.int .u64 0, .int .u64 0, .int .u64 0, .int .u64 0], .bool false]) (by simp [results, Tryd.results50, go_sem]) rfl ⟨rfl, by go_grown⟩

set_option maxRecDepth 100000 in
set_option maxHeartbeats 4000000 in
theorem little_any {b o cap : Nat} {f : Nat → Int} (hf : ∀ i, 0 ≤ f i ∧ f i < 256) {w : World} (hD : Rd w b o 32 f) :
    Calls Tryd.prog 50 #[.slice (some ⟨b, o, none⟩) 32 cap] w fun e w' => e = .returned (.tuple #[.agg #[.int .u64 (E f 0 8), .int .u64 (E f 8 8), .int .u64 (E f 16 8), .int .u64 (E f 24 8)], .bool true]) ∧ Below w.heap.size w w' := by
  have HF : Hid (∀ i, 0 ≤ f i ∧ f i < 256) := hf
  have HD : Hid (Rd w b o 32 f) := hD
  clear hf hD
  go_enter Tryd.func50, Tryd.ntmps50
  go_wp2_with fail
  go_loopg [13] 32 (fun g s wr => ∃ k : Nat, g = 32 - k ∧ k ≤ 32 ∧ s = .int .i64 k ∧ RowQ wr (w.heap.size + 1) 4 (G f k) ∧ RowQ wr w.heap.size 4 (fun _ => 0) ∧ Below w.heap.size w wr)
  case atStart => exact ⟨0, rfl, by omega, rfl, (RowQ.new4 _ _ (by simp)).congr (fun i _ => (G_zero _ i).symm), (RowQ.new4 w _ rfl).keep ((Below.refl _ _).alloc (Nat.le_refl _) _), K.alloc (K.alloc (Below.refl _ w) _) _⟩
  case round =>
    obtain ⟨k, rfl, hk, rfl, hR, hZ, hB⟩ := hrel
    by_cases hlt : k < 32
    · have hx := HF.out k
      have hd := (HD.out.keep hB).c k (by omega)
      have HR : Hid (RowQ wr (w.heap.size + 1) 4 (G f k)) := hR
      have HZ : Hid (RowQ wr w.heap.size 4 (fun _ => 0)) := hZ
      have HB : Hid (Below w.heap.size w wr) := hB
      have hrl := hR.lt
      have hq : k / 8 = 0 ∨ k / 8 = 1 ∨ k / 8 = 2 ∨ k / 8 = 3 := by omega
      clear hR hZ hB
      rcases hq with hq | hq | hq | hq
      · have HQ : Hid (k / 8 = 0) := hq
        have hqi : (k : Int) / 8 = 0 := by omega
        have hg := G_bd (f := f) (fun i => HF.out _) k 0
        have hc := HR.out.c 0 (by omega)
        have hz := HR.out.z 0 (by omega)
        clear hq
        go_upto_region 7 with fail
        apply wp_mono (Q := Only _ _)
        · go_region_with (go_at_call 70; with_reducible refine Calls.mono (lift_any (f k) hx.1 hx.2 k (by omega) _) ?_; rintro e w' ⟨rfl, rfl⟩)
          all_goals exact Only.intro _ _
        refine Only.out ?_
        have HG : Hid (bits .or .u64 (G f k 0) ((f k) * 256 ^ (k % 8)) = G f (k + 1) 0) := by have h := G_step (f := f) (fun i => HF.out _) k; rw [HQ.out] at h; exact h
        clear hc hz hd hx hg
        go_wp2_with fail
        go_roundg (32 - (k + 1))
        case measure => omega
        case rel => exact ⟨k + 1, rfl, by omega, by go_num, ((HR.out.store 0 (by omega) _).congr (word_step HG.out (fun e => G_other _ (by rw [HQ.out]; exact e)))).drew, (HZ.out.other (by omega)).drew, K.drew (K.set HB.out (by simp) _)⟩
      · have HQ : Hid (k / 8 = 1) := hq
        have hqi : (k : Int) / 8 = 1 := by omega
        have hg := G_bd (f := f) (fun i => HF.out _) k 1
        have hc := HR.out.c 1 (by omega)
        have hz := HR.out.z 1 (by omega)
        clear hq
        go_upto_region 7 with fail
        apply wp_mono (Q := Only _ _)
        · go_region_with (go_at_call 70; with_reducible refine Calls.mono (lift_any (f k) hx.1 hx.2 k (by omega) _) ?_; rintro e w' ⟨rfl, rfl⟩)
          all_goals exact Only.intro _ _
        refine Only.out ?_
        have HG : Hid (bits .or .u64 (G f k 1) ((f k) * 256 ^ (k % 8)) = G f (k + 1) 1) := by have h := G_step (f := f) (fun i => HF.out _) k; rw [HQ.out] at h; exact h
        clear hc hz hd hx hg
        go_wp2_with fail
        go_roundg (32 - (k + 1))
        case measure => omega
        case rel => exact ⟨k + 1, rfl, by omega, by go_num, ((HR.out.store 1 (by omega) _).congr (word_step HG.out (fun e => G_other _ (by rw [HQ.out]; exact e)))).drew, (HZ.out.other (by omega)).drew, K.drew (K.set HB.out (by simp) _)⟩
      · have HQ : Hid (k / 8 = 2) := hq
        have hqi : (k : Int) / 8 = 2 := by omega
        have hg := G_bd (f := f) (fun i => HF.out _) k 2
        have hc := HR.out.c 2 (by omega)
        have hz := HR.out.z 2 (by omega)
        clear hq
        go_upto_region 7 with fail
        apply wp_mono (Q := Only _ _)
        · go_region_with (go_at_call 70; with_reducible refine Calls.mono (lift_any (f k) hx.1 hx.2 k (by omega) _) ?_; rintro e w' ⟨rfl, rfl⟩)
          all_goals exact Only.intro _ _
        refine Only.out ?_
        have HG : Hid (bits .or .u64 (G f k 2) ((f k) * 256 ^ (k % 8)) = G f (k + 1) 2) := by have h := G_step (f := f) (fun i => HF.out _) k; rw [HQ.out] at h; exact h
        clear hc hz hd hx hg
        go_wp2_with fail
        go_roundg (32 - (k + 1))
        case measure => omega
        case rel => exact ⟨k + 1, rfl, by omega, by go_num, ((HR.out.store 2 (by omega) _).congr (word_step HG.out (fun e => G_other _ (by rw [HQ.out]; exact e)))).drew, (HZ.out.other (by omega)).drew, K.drew (K.set HB.out (by simp) _)⟩
      · have HQ : Hid (k / 8 = 3) := hq
        have hqi : (k : Int) / 8 = 3 := by omega
        have hg := G_bd (f := f) (fun i => HF.out _) k 3
        have hc := HR.out.c 3 (by omega)
        have hz := HR.out.z 3 (by omega)
        clear hq
        go_upto_region 7 with fail
        apply wp_mono (Q := Only _ _)
        · go_region_with (go_at_call 70; with_reducible refine Calls.mono (lift_any (f k) hx.1 hx.2 k (by omega) _) ?_; rintro e w' ⟨rfl, rfl⟩)
          all_goals exact Only.intro _ _
        refine Only.out ?_
        have HG : Hid (bits .or .u64 (G f k 3) ((f k) * 256 ^ (k % 8)) = G f (k + 1) 3) := by have h := G_step (f := f) (fun i => HF.out _) k; rw [HQ.out] at h; exact h
        clear hc hz hd hx hg
        go_wp2_with fail
        go_roundg (32 - (k + 1))
        case measure => omega
        case rel => exact ⟨k + 1, rfl, by omega, by go_num, ((HR.out.store 3 (by omega) _).congr (word_step HG.out (fun e => G_other _ (by rw [HQ.out]; exact e)))).drew, (HZ.out.other (by omega)).drew, K.drew (K.set HB.out (by simp) _)⟩
    · obtain rfl : k = 32 := by omega
      have c0 := hR.c 0 (by omega)
      have c1 := hR.c 1 (by omega)
      have c2 := hR.c 2 (by omega)
      have c3 := hR.c 3 (by omega)
      have z0 := hZ.c 0 (by omega)
      have z1 := hZ.c 1 (by omega)
      have z2 := hZ.c 2 (by omega)
      have z3 := hZ.c 3 (by omega)
      have y0 := hZ.z 0 (by omega)
      have y1 := hZ.z 1 (by omega)
      have y2 := hZ.z 2 (by omega)
      have y3 := hZ.z 3 (by omega)
      have zl := hZ.lt
      have cl := hR.lt
      rw [G_full _ (show 8 * 0 + 8 ≤ 32 by omega)] at c0
      rw [G_full _ (show 8 * 1 + 8 ≤ 32 by omega)] at c1
      rw [G_full _ (show 8 * 2 + 8 ≤ 32 by omega)] at c2
      rw [G_full _ (show 8 * 3 + 8 ≤ 32 by omega)] at c3
      clear hR hZ
      go_wp2_with fail
      exact bodyPost_ret (v := .tuple #[.agg #[.int .u64 (E f 0 8), .int .u64 (E f 8 8), .int .u64 (E f 16 8), .int .u64 (E f 24 8)], .bool true]) (by simp [results, Tryd.results50, go_sem, z0, z1, z2, z3]) rfl ⟨rfl, K.set (K.set (K.set (K.set (hB) (by simp) _) (by simp) _) (by simp) _) (by simp) _⟩
end Go.Proofs.YtolehamdaceikaaDoor
namespace Go.Proofs.YtolehamdaceikaaDoor
open Go.RowKit

theorem cE50 (vs : List Value) : ∀ w, (callFunc 50 vs.toArray).run Tryd.prog w = .ok (.enter 50 vs.toArray) w := callFunc_enter Tryd.func50 (by kernel_rfl) (by kernel_rfl) _
theorem cE53 (vs : List Value) : ∀ w, (callFunc 53 vs.toArray).run Tryd.prog w = .ok (.enter 53 vs.toArray) w := callFunc_enter Tryd.func53 (by kernel_rfl) (by kernel_rfl) _
theorem cE54 (vs : List Value) : ∀ w, (callFunc 54 vs.toArray).run Tryd.prog w = .ok (.enter 54 vs.toArray) w := callFunc_enter Tryd.func54 (by kernel_rfl) (by kernel_rfl) _
theorem nc_ex8 : nc ((ex8 : Nat) : Int) = [Value.int .u64 18446744073709551614] ++ [Value.int .u64 18446744073709551615] ++ [Value.int .u64 18446744073709551615] ++ [Value.int .u64 1152921504606846975] := by kernel_rfl
theorem TabX.im {w : World} (h : TabX w) : w.rangeAt 2 0 (gc im) := by
  rw [gc_im]
  intro j v hj
  match j, hj with
  | 0, hj => cases hj; exact h.cturn0
  | 1, hj => cases hj; exact h.cturn1
  | 2, hj => cases hj; exact h.cturn2
  | 3, hj => cases hj; exact h.cturn3
  | j + 4, hj => cases hj
theorem TabX.ex {w : World} (h : TabX w) : w.rangeAt 1 0 (nc ((ex8 : Nat) : Int)) := by
  rw [nc_ex8]
  intro j v hj
  match j, hj with
  | 0, hj => cases hj; exact h.crootPower0
  | 1, hj => cases hj; exact h.crootPower1
  | 2, hj => cases hj; exact h.crootPower2
  | 3, hj => cases hj; exact h.crootPower3
  | j + 4, hj => cases hj
theorem e_odd {w : World} (x : Fin m2) : Calls Tryd.prog 55 [.agg (gc x).toArray].toArray w fun e w' => e = .returned (.bool (decide (x.val % 2 = 1))) ∧ Below w.heap.size w w' := by
  by_cases h : x.val % 2 = 1
  · rw [decide_eq_true h]; exact e_odd_t h
  · rw [decide_eq_false h]; exact e_odd_f (by omega)
theorem e_Lit {w : World} {b o c : Nat} {f : Nat → Nat} (hlt : ∀ i, f i < 256) (hrd : Rd w b o 32 (fun i => ((f i : Nat) : Int))) {u : Nat} (hu : LN f u) : Calls Tryd.prog 50 [.slice (some ⟨b, o, none⟩) 32 c].toArray w fun e w' => e = .returned (.tuple [.agg (nc (u : Int)).toArray, .bool true].toArray) ∧ Below w.heap.size w w' := by
  have h := little_any (cap := c) (fun i => ⟨by omega, by have := hlt i; omega⟩) hrd
  have e : ∀ o, o + 8 ≤ 32 → E (fun i => ((f i : Nat) : Int)) o 8 = E (fun i => Y i (u : Int)) o 8 := fun o ho => E_congr o 8 (fun i hi => (hu.at_ _ (by omega)).symm)
  have w4 := E_words (u : Int)
  rw [e 0 (by omega), e 8 (by omega), e 16 (by omega), e 24 (by omega), w4.1, w4.2.1, w4.2.2.1, w4.2.2.2] at h
  exact h
theorem low_cells (u : Nat) : [Value.int .u64 (lw 0 (u : Int))] ++ [Value.int .u64 (lw 1 (u : Int))] ++ [Value.int .u64 (lw 2 (u : Int))] ++ [Value.int .u64 (lw 3 (u : Int) % 9223372036854775808)] = nc ((u % 2 ^ 255 : Nat) : Int) := by
  have e0 : L 0 (u : Int) = L 0 ((u % 2 ^ 255 : Nat) : Int) := by rw [L0, L0]; omega
  have e1 : L 1 (u : Int) = L 1 ((u % 2 ^ 255 : Nat) : Int) := by rw [L1, L1]; omega
  have e2 : L 2 (u : Int) = L 2 ((u % 2 ^ 255 : Nat) : Int) := by rw [L2, L2]; omega
  have e3 : L 3 (u : Int) % 9223372036854775808 = L 3 ((u % 2 ^ 255 : Nat) : Int) := by rw [L3, L3]; omega
  show [Value.int .u64 (L 0 (u : Int)), Value.int .u64 (L 1 (u : Int)), Value.int .u64 (L 2 (u : Int)), Value.int .u64 (L 3 (u : Int) % 9223372036854775808)] = _
  rw [e0, e1, e2, e3]
  rfl
theorem top_bit {u : Nat} (h : u < 2 ^ 256) : decide (((u / 2 ^ 255 % 2 : Nat) : Int) = 1) = decide (u / 2 ^ 255 = 1) := decide_eq_decide.2 ⟨fun h => by omega, fun h => by omega⟩
theorem e_bit255 {w : World} (k : Nat) : Calls Tryd.prog 52 [.agg (nc (k : Int)).toArray, .int .i64 255].toArray w fun e w' => e = .returned (.int .i64 ((k / 2 ^ 255 % 2 : Nat) : Int)) ∧ Below w.heap.size w w' := by
  exact e_bit (w := w) k 255 (by decide)
theorem i_andN63 {P : Program} (ty : TypeId) (a c : Int) (h0 : 0 ≤ a) (h1 : a < 18446744073709551616) (hc : c = a % 9223372036854775808) (w : World) : (binOp .andNot ty (.int .u64 a) (.int .u64 9223372036854775808)).run P w = .ok (.int .u64 c) w := by
  have h : (BitVec.ofInt 64 a &&& ~~~ (BitVec.ofInt 64 9223372036854775808)).toNat = a.toNat % 9223372036854775808 := by
    rw [BitVec.toNat_and]
    have e1 : (BitVec.ofInt 64 a).toNat = a.toNat := by
      rw [BitVec.toNat_ofInt]
      congr 1
      rw [Int.emod_eq_of_lt h0 (by simpa using h1)]
    have e2 : (~~~ (BitVec.ofInt 64 9223372036854775808)).toNat = 2 ^ 63 - 1 := by decide +kernel
    rw [e1, e2, Nat.and_two_pow_sub_one_eq_mod]
  have e : (Op.intBits .andNot .u64 a 9223372036854775808).run P w = .ok (.int .u64 c) w := by
    show Result.ok (Value.int .u64 (IntKind.u64.wrap ((BitVec.ofInt 64 a &&& ~~~ (BitVec.ofInt 64 9223372036854775808)).toNat : Int))) w = _
    rw [h]
    have : ((a.toNat % 9223372036854775808 : Nat) : Int) = c := by omega
    rw [this, wrapW (by omega)]
  simpa [binOp] using e
theorem gc_sqU (A : Int) : gc (kc A * kc A) = nc (A * A % md 2) := by
  rw [gc_mul, kc_val, md_m2, ← Int.mul_emod]
theorem d_mulR {w : World} (hT : Tab w) {A : Int} (hA : Num A) : Calls Tryd.prog 65 [.int .i64 2, .agg (nc A).toArray, .agg (nc A).toArray].toArray w fun e w' => e = .returned (.agg (gc (kc A * kc A)).toArray) ∧ Below w.heap.size w w' := by
  rw [gc_sqU]
  exact f_mul (k := 2) ⟨by decide, by decide⟩ hA hA hT
theorem acm {p : Nat} [NeZero p] (a b : Fin p) : a + b = b + a := by grobner
/-- A number whose square it is, if there is one: the program's own way. -/
def rx (a : Fin m2) : Fin m2 := if a ^ ex8 * a ^ ex8 = a then a ^ ex8 else a ^ ex8 * im
theorem g_bPV (x : Fin m2) (V : Int) : Tryd.prog.built 26 [(0, .agg (gc x).toArray), (1, .agg (nc V).toArray)] = some (gc x ++ nc V ++ [Value.bool false]).toArray := by kernel_rfl
theorem as_of {P : Program} {q : BinOp} {ty : TypeId} {x y : Value} {p : Prop} [Decidable p] {s : Bool} (h : ∀ w, (binOp q ty x y).run P w = .ok (.bool (decide p)) w) (hp : decide p = s) : ∀ w, (binOp q ty x y).run P w = .ok (.bool s) w := fun w => by rw [h w, hp]
theorem t_neq {P : Program} (ty : TypeId) (hu : P.underlying ty = some .bool) (a b t : Bool) (ht : (a != b) = t) (w : World) : (binOp .neq ty (.bool a) (.bool b)).run P w = .ok (.bool t) w := by
  have h : (Op.equalIn 10000 ty (.bool a) (.bool b)).run P w = .ok (a == b) w := run_equalIn_bool' (P := P) w 9999 ty a b hu
  simp only [binOp, Op.equal, show Op.maxDepth = 10000 from rfl, Sem.run_bind, h, Result.andThen_ok, Sem.run_pure]
  rw [← ht]
  rfl
set_option maxRecDepth 100000 in
set_option maxHeartbeats 4000000 in
theorem e_mulR {w : World} (hT : Tab w) {A : Int} (hA : Num A) : Calls Tryd.prog 29 [.agg (nc (A)).toArray, .agg (nc (A)).toArray].toArray w fun e w' => e = .returned (.agg (gc (kc A * kc A)).toArray) ∧ Below w.heap.size w w' := by
  refine enter (args := [.agg (nc (A)).toArray, .agg (nc (A)).toArray]) Tryd.func29 rfl 8 rfl (lk rfl) (fun a h => ?_)
  refine go_region h hm [eN 2 (nc (A)), eN 3 (nc (A)), eN 4 (nz)] (by kernel_rfl) ⟨
    fun L u => u_box u (gd0 rfl) 24 (.tmp 0) rfl 2 rfl rfl rfl _ rfl,
    fun L u => u_box u (gd0 rfl) 24 (.tmp 1) rfl 3 rfl rfl rfl _ rfl,
    fun L u => u_alloc u (gd0 rfl) 24 rfl 4 rfl rfl z24 _ rfl,
    trivial⟩ [(2, .ptr 2 0), (3, .ptr 3 0), (4, .ptr 4 0)] [(2, nc (A)), (3, nc (A)), (4, nz)] ⟨rfl, rfl, rfl, trivial⟩ ⟨rfl, rfl, rfl, trivial⟩ rfl (fun a w h => ?_)
  refine go_region h hm [eS 5 (.val (.agg (nc (A)).toArray)), eS 6 (.val (.agg (nc (A)).toArray)), eS 7 (.val (.agg (gc (kc A * kc A)).toArray)), eM 4 (gc (kc A * kc A))] (by kernel_rfl) ⟨
    fun L u => u_load u (gd0 rfl) 5 rfl 24 (.tmp 2) rfl rfl rfl Tryd.underlying24 rfl i24 (lk rfl) _ rfl,
    fun L u => u_load u (gd0 rfl) 6 rfl 24 (.tmp 3) rfl rfl rfl Tryd.underlying24 rfl i24 (lk rfl) _ rfl,
    fun L u => u_call u (gd0 rfl) 7 rfl 65 #[(.const (.int .i64 2)), (.tmp 5), (.tmp 6)] #[3, 24, 24] rfl [(Value.int IntKind.i64 2), .agg (nc (A)).toArray, .agg (nc (A)).toArray] rfl (cE65 _) (.agg (gc (kc A * kc A)).toArray) (fun w hb => d_mulR (hT.keep (Bs.kp_of hb)) hA),
    fun L u => u_store u (gd0 rfl) 24 (.tmp 4) (.tmp 7) rfl rfl rfl (vs := gc (kc A * kc A)) rfl rfl i24 (lk rfl) rfl _ rfl,
    trivial⟩ [(4, .ptr 4 0)] [(4, gc (kc A * kc A))] ⟨rfl, trivial⟩ ⟨rfl, trivial⟩ rfl (fun a w h => ?_)
  refine wp_ret ?_
  refine ret_row h 4 24 rfl (lk rfl) 4 rfl (gc (kc A * kc A)) rfl _ Tryd.underlying24 rfl i24 ?_
  exact ⟨rfl, h.grows⟩
set_option maxRecDepth 100000 in
set_option maxHeartbeats 4000000 in
theorem e_xsq {w : World} (hT : Tab w) {A : Int} (hA : Num A) : Calls Tryd.prog 54 [.agg (nc (A)).toArray].toArray w fun e w' => e = .returned (.agg (gc (xx2 (kc A))).toArray) ∧ Below w.heap.size w w' := by
  obtain ⟨one, hone⟩ : ∃ z : Fin m2, z = 1 := ⟨_, rfl⟩
  have hxx : (kc A * kc A - one) * fiv (one + ed * (kc A * kc A)) = xx2 (kc A) := by rw [hone, acm 1]; rfl
  refine enter (args := [.agg (nc (A)).toArray]) Tryd.func54 rfl 17 rfl (lk rfl) (fun a h => ?_)
  refine go_region h hm [eN 1 (nc (A)), eN 2 (nz)] (by kernel_rfl) ⟨
    fun L u => u_box u (gd0 rfl) 24 (.tmp 0) rfl 1 rfl rfl rfl _ rfl,
    fun L u => u_alloc u (gd0 rfl) 24 rfl 2 rfl rfl z24 _ rfl,
    trivial⟩ [(1, .ptr 1 0), (2, .ptr 2 0)] [(1, nc (A)), (2, nz)] ⟨rfl, rfl, trivial⟩ ⟨rfl, rfl, trivial⟩ rfl (fun a w h => ?_)
  refine go_region h hm [eS 4 (.val (.agg (nc (A)).toArray)), eS 5 (.val (.agg (nc (A)).toArray)), eS 6 (.val (.agg (gc (kc A * kc A)).toArray)), eN 3 (nz), eM 3 (gc (kc A * kc A))] (by kernel_rfl) ⟨
    fun L u => u_load u (gd0 rfl) 4 rfl 24 (.tmp 1) rfl rfl rfl Tryd.underlying24 rfl i24 (lk rfl) _ rfl,
    fun L u => u_load u (gd0 rfl) 5 rfl 24 (.tmp 1) rfl rfl rfl Tryd.underlying24 rfl i24 (lk rfl) _ rfl,
    fun L u => u_call u (gd0 rfl) 6 rfl 29 #[(.tmp 4), (.tmp 5)] #[24, 24] rfl [.agg (nc (A)).toArray, .agg (nc (A)).toArray] rfl (cE29 _) (.agg (gc (kc A * kc A)).toArray) (fun w hb => e_mulR (hT.keep (Bs.kp_of hb)) hA),
    fun L u => u_alloc u (gd0 rfl) 24 rfl 3 rfl rfl z24 _ rfl,
    fun L u => u_store u (gd0 rfl) 24 (.tmp 3) (.tmp 6) rfl rfl rfl (vs := gc (kc A * kc A)) rfl rfl i24 (lk rfl) rfl _ rfl,
    trivial⟩ [(2, .ptr 2 0), (3, .ptr 3 0)] [(2, nz), (3, gc (kc A * kc A))] ⟨rfl, rfl, trivial⟩ ⟨rfl, rfl, trivial⟩ rfl (fun a w h => ?_)
  refine go_region h hm [eS 7 (.val (.agg (gc (kc A * kc A)).toArray)), eS 8 (.val (.agg (gc (one)).toArray)), eS 9 (.val (.agg (gc ((kc A * kc A) - one)).toArray)), eS 10 (.val (.agg (gc (one)).toArray)), eS 11 (.val (.agg (gc (ed)).toArray)), eS 12 (.val (.agg (gc (kc A * kc A)).toArray)), eS 13 (.val (.agg (gc (ed * (kc A * kc A))).toArray)), eS 14 (.val (.agg (gc (one + (ed * (kc A * kc A)))).toArray)), eS 15 (.val (.agg (gc (fiv (one + (ed * (kc A * kc A))))).toArray)), eS 16 (.val (.agg (gc (((kc A * kc A) - one) * (fiv (one + (ed * (kc A * kc A)))))).toArray)), eM 2 (gc (((kc A * kc A) - one) * (fiv (one + (ed * (kc A * kc A))))))] (by kernel_rfl) ⟨
    fun L u => u_load u (gd0 rfl) 7 rfl 24 (.tmp 3) rfl rfl rfl Tryd.underlying24 rfl i24 (lk rfl) _ rfl,
    fun L u => u_call u (gd0 rfl) 8 rfl 32 #[] #[] rfl [] rfl (cE32 _) (.agg (gc (one)).toArray) (fun w hb => e_one hone),
    fun L u => u_call u (gd0 rfl) 9 rfl 30 #[(.tmp 7), (.tmp 8)] #[24, 24] rfl [.agg (gc (kc A * kc A)).toArray, .agg (gc (one)).toArray] rfl (cE30 _) (.agg (gc ((kc A * kc A) - one)).toArray) (fun w hb => e_sub (hT.keep (Bs.kp_of hb)) _ _),
    fun L u => u_call u (gd0 rfl) 10 rfl 32 #[] #[] rfl [] rfl (cE32 _) (.agg (gc (one)).toArray) (fun w hb => e_one hone),
    fun L u => u_loadXR u (gd0 rfl) 11 rfl 24 (.global 0) rfl rfl Tryd.underlying24 rfl (gc (ed)) i24 rfl (hT.ed) rfl,
    fun L u => u_load u (gd0 rfl) 12 rfl 24 (.tmp 3) rfl rfl rfl Tryd.underlying24 rfl i24 (lk rfl) _ rfl,
    fun L u => u_call u (gd0 rfl) 13 rfl 29 #[(.tmp 11), (.tmp 12)] #[24, 24] rfl [.agg (gc (ed)).toArray, .agg (gc (kc A * kc A)).toArray] rfl (cE29 _) (.agg (gc (ed * (kc A * kc A))).toArray) (fun w hb => e_mul (hT.keep (Bs.kp_of hb)) _ _),
    fun L u => u_call u (gd0 rfl) 14 rfl 31 #[(.tmp 10), (.tmp 13)] #[24, 24] rfl [.agg (gc (one)).toArray, .agg (gc (ed * (kc A * kc A))).toArray] rfl (cE31 _) (.agg (gc (one + (ed * (kc A * kc A)))).toArray) (fun w hb => e_add (hT.keep (Bs.kp_of hb)) _ _),
    fun L u => u_call u (gd0 rfl) 15 rfl 58 #[(.const (.int .i64 2)), (.tmp 14)] #[3, 24] rfl [(Value.int IntKind.i64 2), .agg (gc (one + (ed * (kc A * kc A)))).toArray] rfl (cE58 _) (.agg (gc (fiv (one + (ed * (kc A * kc A))))).toArray) (fun w hb => d_inv (hT.keep (Bs.kp_of hb)) _),
    fun L u => u_call u (gd0 rfl) 16 rfl 29 #[(.tmp 9), (.tmp 15)] #[24, 24] rfl [.agg (gc ((kc A * kc A) - one)).toArray, .agg (gc (fiv (one + (ed * (kc A * kc A))))).toArray] rfl (cE29 _) (.agg (gc (((kc A * kc A) - one) * (fiv (one + (ed * (kc A * kc A)))))).toArray) (fun w hb => e_mul (hT.keep (Bs.kp_of hb)) _ _),
    fun L u => u_store u (gd0 rfl) 24 (.tmp 2) (.tmp 16) rfl rfl rfl (vs := gc (((kc A * kc A) - one) * (fiv (one + (ed * (kc A * kc A)))))) rfl rfl i24 (lk rfl) rfl _ rfl,
    trivial⟩ [(2, .ptr 2 0)] [(2, gc (((kc A * kc A) - one) * (fiv (one + (ed * (kc A * kc A))))))] ⟨rfl, trivial⟩ ⟨rfl, trivial⟩ rfl (fun a w h => ?_)
  refine wp_ret ?_
  refine ret_row h 2 24 rfl (lk rfl) 2 rfl (gc (((kc A * kc A) - one) * (fiv (one + (ed * (kc A * kc A)))))) rfl _ Tryd.underlying24 rfl i24 ?_
  exact ⟨by rw [← hxx], h.grows⟩
set_option maxRecDepth 100000 in
set_option maxHeartbeats 4000000 in
theorem e_root_t {w : World} (hT : Tab w) (hx : TabX w) {x r : Fin m2} (hr : x ^ ex8 = r) (hc : r * r = x) : Calls Tryd.prog 53 [.agg (gc (x)).toArray].toArray w fun e w' => e = .returned (.agg (gc (r)).toArray) ∧ Below w.heap.size w w' := by
  refine enter (args := [.agg (gc (x)).toArray]) Tryd.func53 rfl 16 rfl (lk rfl) (fun a h => ?_)
  refine go_region h hm [eN 1 (gc (x)), eN 2 (nz)] (by kernel_rfl) ⟨
    fun L u => u_box u (gd0 rfl) 24 (.tmp 0) rfl 1 rfl rfl rfl _ rfl,
    fun L u => u_alloc u (gd0 rfl) 24 rfl 2 rfl rfl z24 _ rfl,
    trivial⟩ [(1, .ptr 1 0), (2, .ptr 2 0)] [(1, gc (x)), (2, nz)] ⟨rfl, rfl, trivial⟩ ⟨rfl, rfl, trivial⟩ rfl (fun a w h => ?_)
  refine go_region h hm [eS 4 (.val (.agg (gc (x)).toArray)), eS 5 (.val (.agg (nc (((ex8 : Nat) : Int))).toArray)), eS 6 (.val (.agg (gc (r)).toArray)), eN 3 (nz), eM 3 (gc (r))] (by kernel_rfl) ⟨
    fun L u => u_load u (gd0 rfl) 4 rfl 24 (.tmp 1) rfl rfl rfl Tryd.underlying24 rfl i24 (lk rfl) _ rfl,
    fun L u => u_loadXR u (gd0 rfl) 5 rfl 24 (.global 1) rfl rfl Tryd.underlying24 rfl (nc (((ex8 : Nat) : Int))) i24 rfl (hx.ex) rfl,
    fun L u => u_call u (gd0 rfl) 6 rfl 59 #[(.const (.int .i64 2)), (.tmp 4), (.tmp 5)] #[3, 24, 24] rfl [(Value.int IntKind.i64 2), .agg (gc (x)).toArray, .agg (nc (((ex8 : Nat) : Int))).toArray] rfl (cE59 _) (.agg (gc (r)).toArray) (fun w hb => by have g := d_pow (hT.keep (Bs.kp_of hb)) x ex8_num; rw [hr] at g; exact g),
    fun L u => u_alloc u (gd0 rfl) 24 rfl 3 rfl rfl z24 _ rfl,
    fun L u => u_store u (gd0 rfl) 24 (.tmp 3) (.tmp 6) rfl rfl rfl (vs := gc (r)) rfl rfl i24 (lk rfl) rfl _ rfl,
    trivial⟩ [(1, .ptr 1 0), (2, .ptr 2 0), (3, .ptr 3 0)] [(1, gc (x)), (2, nz), (3, gc (r))] ⟨rfl, rfl, rfl, trivial⟩ ⟨rfl, rfl, rfl, trivial⟩ rfl (fun a w h => ?_)
  refine wp_seq ?_
  refine go_region h hm [eS 7 (.val (.agg (gc (r)).toArray)), eS 8 (.val (.agg (gc (r)).toArray)), eS 9 (.val (.agg (gc (r * r)).toArray)), eS 10 (.val (.agg (gc (x)).toArray)), eS 11 (.val (Value.bool true))] (by kernel_rfl) ⟨
    fun L u => u_load u (gd0 rfl) 7 rfl 24 (.tmp 3) rfl rfl rfl Tryd.underlying24 rfl i24 (lk rfl) _ rfl,
    fun L u => u_load u (gd0 rfl) 8 rfl 24 (.tmp 3) rfl rfl rfl Tryd.underlying24 rfl i24 (lk rfl) _ rfl,
    fun L u => u_call u (gd0 rfl) 9 rfl 29 #[(.tmp 7), (.tmp 8)] #[24, 24] rfl [.agg (gc (r)).toArray, .agg (gc (r)).toArray] rfl (cE29 _) (.agg (gc (r * r)).toArray) (fun w hb => e_mul (hT.keep (Bs.kp_of hb)) _ _),
    fun L u => u_load u (gd0 rfl) 10 rfl 24 (.tmp 1) rfl rfl rfl Tryd.underlying24 rfl i24 (lk rfl) _ rfl,
    fun L u => u_eql u (gd0 rfl) 11 rfl 24 24 (.tmp 9) (.tmp 10) rfl rfl rfl Tryd.eqGuardType24 (true) (fun w => eqg_t hc w),
    trivial⟩ [(2, .ptr 2 0), (3, .ptr 3 0), (11, .val (Value.bool true))] [(2, nz), (3, gc (r))] ⟨rfl, rfl, rfl, trivial⟩ ⟨rfl, rfl, trivial⟩ rfl (fun a w h => ?_)
  refine go_cond h true rfl (fun ht => ?_) (fun hf => ?_)
  case refine_2 => cases hf
  refine go_region h hm [eS 12 (.val (.agg (gc (r)).toArray)), eM 2 (gc (r))] (by kernel_rfl) ⟨
    fun L u => u_load u (gd0 rfl) 12 rfl 24 (.tmp 3) rfl rfl rfl Tryd.underlying24 rfl i24 (lk rfl) _ rfl,
    fun L u => u_store u (gd0 rfl) 24 (.tmp 2) (.tmp 12) rfl rfl rfl (vs := gc (r)) rfl rfl i24 (lk rfl) rfl _ rfl,
    trivial⟩ [(2, .ptr 2 0)] [(2, gc (r))] ⟨rfl, trivial⟩ ⟨rfl, trivial⟩ rfl (fun a w h => ?_)
  refine wp_ret ?_
  refine then_ret ?_
  refine ret_row h 2 24 rfl (lk rfl) 2 rfl (gc (r)) rfl _ Tryd.underlying24 rfl i24 ?_
  exact ⟨rfl, h.grows⟩
set_option maxRecDepth 100000 in
set_option maxHeartbeats 4000000 in
theorem e_root_f {w : World} (hT : Tab w) (hx : TabX w) {x r : Fin m2} (hr : x ^ ex8 = r) (hc : ¬ r * r = x) : Calls Tryd.prog 53 [.agg (gc (x)).toArray].toArray w fun e w' => e = .returned (.agg (gc (r * im)).toArray) ∧ Below w.heap.size w w' := by
  refine enter (args := [.agg (gc (x)).toArray]) Tryd.func53 rfl 16 rfl (lk rfl) (fun a h => ?_)
  refine go_region h hm [eN 1 (gc (x)), eN 2 (nz)] (by kernel_rfl) ⟨
    fun L u => u_box u (gd0 rfl) 24 (.tmp 0) rfl 1 rfl rfl rfl _ rfl,
    fun L u => u_alloc u (gd0 rfl) 24 rfl 2 rfl rfl z24 _ rfl,
    trivial⟩ [(1, .ptr 1 0), (2, .ptr 2 0)] [(1, gc (x)), (2, nz)] ⟨rfl, rfl, trivial⟩ ⟨rfl, rfl, trivial⟩ rfl (fun a w h => ?_)
  refine go_region h hm [eS 4 (.val (.agg (gc (x)).toArray)), eS 5 (.val (.agg (nc (((ex8 : Nat) : Int))).toArray)), eS 6 (.val (.agg (gc (r)).toArray)), eN 3 (nz), eM 3 (gc (r))] (by kernel_rfl) ⟨
    fun L u => u_load u (gd0 rfl) 4 rfl 24 (.tmp 1) rfl rfl rfl Tryd.underlying24 rfl i24 (lk rfl) _ rfl,
    fun L u => u_loadXR u (gd0 rfl) 5 rfl 24 (.global 1) rfl rfl Tryd.underlying24 rfl (nc (((ex8 : Nat) : Int))) i24 rfl (hx.ex) rfl,
    fun L u => u_call u (gd0 rfl) 6 rfl 59 #[(.const (.int .i64 2)), (.tmp 4), (.tmp 5)] #[3, 24, 24] rfl [(Value.int IntKind.i64 2), .agg (gc (x)).toArray, .agg (nc (((ex8 : Nat) : Int))).toArray] rfl (cE59 _) (.agg (gc (r)).toArray) (fun w hb => by have g := d_pow (hT.keep (Bs.kp_of hb)) x ex8_num; rw [hr] at g; exact g),
    fun L u => u_alloc u (gd0 rfl) 24 rfl 3 rfl rfl z24 _ rfl,
    fun L u => u_store u (gd0 rfl) 24 (.tmp 3) (.tmp 6) rfl rfl rfl (vs := gc (r)) rfl rfl i24 (lk rfl) rfl _ rfl,
    trivial⟩ [(1, .ptr 1 0), (2, .ptr 2 0), (3, .ptr 3 0)] [(1, gc (x)), (2, nz), (3, gc (r))] ⟨rfl, rfl, rfl, trivial⟩ ⟨rfl, rfl, rfl, trivial⟩ rfl (fun a w h => ?_)
  refine wp_seq ?_
  refine go_region h hm [eS 7 (.val (.agg (gc (r)).toArray)), eS 8 (.val (.agg (gc (r)).toArray)), eS 9 (.val (.agg (gc (r * r)).toArray)), eS 10 (.val (.agg (gc (x)).toArray)), eS 11 (.val (Value.bool false))] (by kernel_rfl) ⟨
    fun L u => u_load u (gd0 rfl) 7 rfl 24 (.tmp 3) rfl rfl rfl Tryd.underlying24 rfl i24 (lk rfl) _ rfl,
    fun L u => u_load u (gd0 rfl) 8 rfl 24 (.tmp 3) rfl rfl rfl Tryd.underlying24 rfl i24 (lk rfl) _ rfl,
    fun L u => u_call u (gd0 rfl) 9 rfl 29 #[(.tmp 7), (.tmp 8)] #[24, 24] rfl [.agg (gc (r)).toArray, .agg (gc (r)).toArray] rfl (cE29 _) (.agg (gc (r * r)).toArray) (fun w hb => e_mul (hT.keep (Bs.kp_of hb)) _ _),
    fun L u => u_load u (gd0 rfl) 10 rfl 24 (.tmp 1) rfl rfl rfl Tryd.underlying24 rfl i24 (lk rfl) _ rfl,
    fun L u => u_eql u (gd0 rfl) 11 rfl 24 24 (.tmp 9) (.tmp 10) rfl rfl rfl Tryd.eqGuardType24 (false) (fun w => eqg_f hc w),
    trivial⟩ [(2, .ptr 2 0), (3, .ptr 3 0), (11, .val (Value.bool false))] [(2, nz), (3, gc (r))] ⟨rfl, rfl, rfl, trivial⟩ ⟨rfl, rfl, trivial⟩ rfl (fun a w h => ?_)
  refine go_cond h false rfl (fun ht => ?_) (fun hf => ?_)
  case refine_1 => cases ht
  refine wp_skip ?_
  refine then_norm ?_
  refine go_region h hm [eS 13 (.val (.agg (gc (r)).toArray)), eS 14 (.val (.agg (gc (im)).toArray)), eS 15 (.val (.agg (gc (r * im)).toArray)), eM 2 (gc (r * im))] (by kernel_rfl) ⟨
    fun L u => u_load u (gd0 rfl) 13 rfl 24 (.tmp 3) rfl rfl rfl Tryd.underlying24 rfl i24 (lk rfl) _ rfl,
    fun L u => u_loadXR u (gd0 rfl) 14 rfl 24 (.global 2) rfl rfl Tryd.underlying24 rfl (gc (im)) i24 rfl (hx.im) rfl,
    fun L u => u_call u (gd0 rfl) 15 rfl 29 #[(.tmp 13), (.tmp 14)] #[24, 24] rfl [.agg (gc (r)).toArray, .agg (gc (im)).toArray] rfl (cE29 _) (.agg (gc (r * im)).toArray) (fun w hb => e_mul (hT.keep (Bs.kp_of hb)) _ _),
    fun L u => u_store u (gd0 rfl) 24 (.tmp 2) (.tmp 15) rfl rfl rfl (vs := gc (r * im)) rfl rfl i24 (lk rfl) rfl _ rfl,
    trivial⟩ [(2, .ptr 2 0)] [(2, gc (r * im))] ⟨rfl, trivial⟩ ⟨rfl, trivial⟩ rfl (fun a w h => ?_)
  refine wp_ret ?_
  refine ret_row h 2 24 rfl (lk rfl) 2 rfl (gc (r * im)) rfl _ Tryd.underlying24 rfl i24 ?_
  exact ⟨rfl, h.grows⟩
theorem e_root {w : World} (hT : Tab w) (hx : TabX w) (x : Fin m2) : Calls Tryd.prog 53 [.agg (gc x).toArray].toArray w fun e w' => e = .returned (.agg (gc (rx x)).toArray) ∧ Below w.heap.size w w' := by
  unfold rx
  by_cases h : x ^ ex8 * x ^ ex8 = x
  · rw [if_pos h]; exact e_root_t hT hx rfl h
  · rw [if_neg h]; exact e_root_f hT hx rfl h
theorem dec_yes {U : Nat} {y x : Fin m2} {s : Bool} (hy : U % 2 ^ 255 = y.val) (hlt : U < 2 ^ 256) (hs : decide (U / 2 ^ 255 = 1) = s) (hF : y * y - x * x = 1 + ed * (x * x * (y * y))) (hd : ¬ (decide (x.val % 2 = 1) != s) = true) : dpt U = ⟨x, y⟩ ∧ dok U = true := by
  refine dpt_some (dec_of (show (⟨x, y⟩ : Ep m2).on ed from hF) ?_)
  have e : decide (x.val % 2 = 1) = decide (U / 2 ^ 255 = 1) := by rw [hs]; simpa using hd
  have e2 := decide_eq_decide.1 e
  have h1 := Nat.mod_add_div U (2 ^ 255)
  unfold code
  show y.val + 2 ^ 255 * (x.val % 2) = U
  omega
theorem dec_no {U : Nat} {y x1 x2 : Fin m2} {s : Bool} (hy : U % 2 ^ 255 = y.val) (hs : decide (U / 2 ^ 255 = 1) = s) (h1 : x1 = if rt y * rt y = xx2 y then rt y else rt y * im) (h2 : x2 = if (decide (x1.val % 2 = 1) != s) = true then 0 - x1 else x1) (hno : ¬ ((y * y - x2 * x2 = 1 + ed * (x2 * x2 * (y * y))) ∧ ¬ (decide (x2.val % 2 = 1) != s) = true)) : dpt U = Ep.o m2 ∧ dok U = false := by
  refine dpt_none (dec_none fun a ha hc => hno ?_)
  have ey : a.y = y := Fin.ext (by rw [← code_mod, hc, hy])
  have ed_ : a.x.val % 2 = U / 2 ^ 255 := by rw [← code_div, hc]
  have es : decide (a.x.val % 2 = 1) = s := by rw [← hs, ed_]
  have hx : x2 = a.x := by
    refine root_told ha (x1 := x1) (s := a.x) (by rw [ey]; exact h1) rfl ?_
    rw [h2]
    have hm1 : x1.val % 2 < 2 := Nat.mod_lt _ (by decide)
    have hm2 : a.x.val % 2 < 2 := Nat.mod_lt _ (by decide)
    by_cases hp : x1.val % 2 = a.x.val % 2
    · rw [if_pos hp, if_neg (by rw [← es, hp]; simp)]
    · rw [if_neg hp, if_pos (by
        rw [← es]
        by_cases q : x1.val % 2 = 1
        · rw [decide_eq_true q, decide_eq_false (by omega)]; rfl
        · rw [decide_eq_false q, decide_eq_true (by omega)]; rfl)]
      clear h1 h2 hp
      generalize x1 = z
      grobner
  rw [hx, ← ey]
  exact ⟨ha, by rw [es]; simp⟩
theorem dec_over {U : Nat} (h : ¬ ((U % 2 ^ 255 : Nat) : Int) < md 2) : dpt U = Ep.o m2 ∧ dok U = false := by
  refine dpt_none (dec_none fun a ha hc => h ?_)
  rw [md_m2, ← hc, code_mod]
  have := a.y.isLt
  omega
theorem dec_yes2 {U : Nat} {V : Int} (hVe : ((U % 2 ^ 255 : Nat) : Int) = V) {x : Fin m2} {s : Bool} (hlt : U < 2 ^ 256) (hs : decide (U / 2 ^ 255 = 1) = s) (hF : fmdE ((x.val : Nat) : Int) V false = true) (hd : ¬ (decide (x.val % 2 = 1) != s) = true) : pcE (dpt U) = gc x ++ nc V ++ [Value.bool false] ∧ dok U = true := by
  obtain ⟨_, _, h2, h3⟩ := of_decide_eq_true hF
  rw [kc_self] at h3
  have h0 : 0 ≤ V := by omega
  have hm := md_m2
  have hy : U % 2 ^ 255 = (kc V : Fin m2).val := by
    have := kc_val (p := m2) V
    rw [Int.emod_eq_of_lt h0 (by omega)] at this
    omega
  have g := dec_yes hy hlt hs h3 hd
  refine ⟨?_, g.2⟩
  rw [g.1, nc_gc h0 h2]
  rfl
theorem dec_no2 {U : Nat} {V : Int} (hVe : ((U % 2 ^ 255 : Nat) : Int) = V) {x1 x2 : Fin m2} {s : Bool} (hs : decide (U / 2 ^ 255 = 1) = s) (h1 : rx (xx2 (kc V)) = x1) (h2 : x2 = if (decide (x1.val % 2 = 1) != s) = true then 0 - x1 else x1) (hno : ¬ (fmdE ((x2.val : Nat) : Int) V false = true ∧ ¬ (decide (x2.val % 2 = 1) != s) = true)) : dpt U = Ep.o m2 ∧ dok U = false := by
  by_cases hV : V < md 2
  · have h0 : 0 ≤ V := by omega
    have hm := md_m2
    have hy : U % 2 ^ 255 = (kc V : Fin m2).val := by
      have := kc_val (p := m2) V
      rw [Int.emod_eq_of_lt h0 (by omega)] at this
      omega
    refine dec_no hy hs (x1 := x1) h1.symm h2 (fun q => hno ⟨decide_eq_true ⟨rfl, of_decide_eq_true (gin_lt x2), hV, ?_⟩, q.2⟩)
    rw [kc_self]
    exact q.1
  · exact dec_over (by rw [hVe]; exact hV)
set_option maxRecDepth 100000 in
set_option maxHeartbeats 4000000 in
theorem e_dec_at {w : World} (hT : Tab w) (hx : TabX w) {b o c : Nat} {f : Nat → Nat} (hlt : ∀ i, f i < 256) (hrd : Rd w b o 32 (fun i => ((f i : Nat) : Int))) {U : Nat} (hu : LN f U) {s : Bool} (hs : decide (((U / 2 ^ 255 % 2 : Nat) : Int) = 1) = s) (hsn : decide (U / 2 ^ 255 = 1) = s) {V : Int} (hVe : ((U % 2 ^ 255 : Nat) : Int) = V) (hVn : Num V) {x1 : Fin m2} (h1 : rx (xx2 (kc V)) = x1) : Calls Tryd.prog 22 [Value.slice (some ⟨b, o, none⟩) (32) (c)].toArray w fun e w' => e = .returned (.tuple [.agg (pcE (dpt U)).toArray, .bool (dok U)].toArray) ∧ Below w.heap.size w w' := by
  refine enter (args := [Value.slice (some ⟨b, o, none⟩) (32) (c)]) Tryd.func22 rfl 48 rfl (lk rfl) (fun a h => ?_)
  refine go_region h hm [eN 2 (nz ++ nz ++ [Value.bool false]), eS 3 (.val (Value.bool false))] (by kernel_rfl) ⟨
    fun L u => u_alloc u (gd0 rfl) 26 rfl 2 rfl rfl z26 _ rfl,
    fun L u => u_move u (gd0 rfl) 3 rfl (.const (.bool false)) (Or.inr rfl) rfl,
    trivial⟩ [(0, .val (Value.slice (some ⟨b, o, none⟩) (32) (c))), (2, .ptr 2 0)] [(2, nz ++ nz ++ [Value.bool false])] ⟨rfl, rfl, trivial⟩ ⟨rfl, trivial⟩ rfl (fun a w h => ?_)
  refine go_region h hm [eS 10 (.val (Value.slice (some ⟨b, o, none⟩) (32) (c))), eS 11 (.val (.tuple [.agg (nc (((U : Nat) : Int))).toArray, Value.bool true].toArray)), eS 9 (.val (.tuple [.agg (nc (((U : Nat) : Int))).toArray, Value.bool true].toArray)), eS 12 (.val (.agg (nc (((U : Nat) : Int))).toArray)), eS 13 (.val (Value.bool true)), eN 4 (nz), eM 4 (nc (((U : Nat) : Int))), eS 5 (.val (Value.bool true))] (by kernel_rfl) ⟨
    fun L u => u_move u (gd0 rfl) 10 rfl (.tmp 0) (Or.inl rfl) rfl,
    fun L u => u_call u (gd0 rfl) 11 rfl 50 #[(.tmp 10)] #[43] rfl [Value.slice (some ⟨b, o, none⟩) (32) (c)] rfl (cE50 _) (.tuple [.agg (nc (((U : Nat) : Int))).toArray, Value.bool true].toArray) (fun w hb => e_Lit hlt (hrd.keep (Bs.kp_of hb)) hu),
    fun L u => u_move u (gd0 rfl) 9 rfl (.tmp 11) (Or.inl rfl) rfl,
    fun L u => u_part u (gd0 rfl) 12 rfl (.tmp 9) 0 rfl (vs := [.agg (nc (((U : Nat) : Int))).toArray, Value.bool true]) rfl _ rfl,
    fun L u => u_part u (gd0 rfl) 13 rfl (.tmp 9) 1 rfl (vs := [.agg (nc (((U : Nat) : Int))).toArray, Value.bool true]) rfl _ rfl,
    fun L u => u_alloc u (gd0 rfl) 24 rfl 4 rfl rfl z24 _ rfl,
    fun L u => u_store u (gd0 rfl) 24 (.tmp 4) (.tmp 12) rfl rfl rfl (vs := nc (((U : Nat) : Int))) rfl rfl i24 (lk rfl) rfl _ rfl,
    fun L u => u_move u (gd0 rfl) 5 rfl (.tmp 13) (Or.inr rfl) rfl,
    trivial⟩ [(2, .ptr 2 0), (4, .ptr 4 0), (5, .val (Value.bool true))] [(2, nz ++ nz ++ [Value.bool false]), (4, nc (((U : Nat) : Int)))] ⟨rfl, rfl, rfl, trivial⟩ ⟨rfl, rfl, trivial⟩ rfl (fun a w h => ?_)
  refine wp_seq ?_
  refine go_region h hm [eS 14 (.val (Value.bool true)), eS 15 (.val (Value.bool false))] (by kernel_rfl) ⟨
    fun L u => u_move u (gd0 rfl) 14 rfl (.tmp 5) (Or.inl rfl) rfl,
    fun L u => u_not u (gd0 rfl) 15 rfl 4 (.tmp 14) rfl rfl _ rfl,
    trivial⟩ [(2, .ptr 2 0), (4, .ptr 4 0), (15, .val (Value.bool false))] [(2, nz ++ nz ++ [Value.bool false]), (4, nc (((U : Nat) : Int)))] ⟨rfl, rfl, rfl, trivial⟩ ⟨rfl, rfl, trivial⟩ rfl (fun a w h => ?_)
  refine go_cond h false rfl (fun ht => ?_) (fun hf => ?_)
  case refine_1 => cases ht
  refine wp_skip ?_
  refine then_norm ?_
  refine go_region h hm [eS 17 (.val (.agg (nc (((U : Nat) : Int))).toArray)), eS 18 (.val (Value.int .i64 ((U / 2 ^ 255 % 2 : Nat) : Int))), eS 19 (.val (Value.bool s)), eS 6 (.val (Value.bool s))] (by kernel_rfl) ⟨
    fun L u => u_load u (gd0 rfl) 17 rfl 24 (.tmp 4) rfl rfl rfl Tryd.underlying24 rfl i24 (lk rfl) _ rfl,
    fun L u => u_call u (gd0 rfl) 18 rfl 52 #[(.tmp 17), (.const (.int .i64 255))] #[24, 3] rfl [.agg (nc (((U : Nat) : Int))).toArray, (Value.int IntKind.i64 255)] rfl (cE52 _) (Value.int .i64 ((U / 2 ^ 255 % 2 : Nat) : Int)) (fun w hb => e_bit255 U),
    fun L u => u_bin u (gd0 rfl) 19 rfl .eql 3 3 (.tmp 18) (.const (.int .i64 1)) rfl rfl rfl (eqg_int _ _ _ _ _ _ _ _) (Value.bool s) (as_of (fun w => i_eql _ _ _ _ w) hs),
    fun L u => u_move u (gd0 rfl) 6 rfl (.tmp 19) (Or.inr rfl) rfl,
    trivial⟩ [(2, .ptr 2 0), (4, .ptr 4 0), (6, .val (Value.bool s))] [(2, nz ++ nz ++ [Value.bool false]), (4, nc (((U : Nat) : Int)))] ⟨rfl, rfl, rfl, trivial⟩ ⟨rfl, rfl, trivial⟩ rfl (fun a w h => ?_)
  refine go_region h hm [eS 20 (.ptr 4 3), eS 21 (.val (Value.int .u64 (lw 3 (((U : Nat) : Int))))), eS 22 (.val (Value.int .u64 (lw 3 ((U : Nat) : Int) % 9223372036854775808))), eS 23 (.ptr 4 3), eM 4 ([Value.int .u64 (lw 0 (((U : Nat) : Int)))] ++ [Value.int .u64 (lw 1 (((U : Nat) : Int)))] ++ [Value.int .u64 (lw 2 (((U : Nat) : Int)))] ++ [Value.int .u64 (lw 3 ((U : Nat) : Int) % 9223372036854775808)])] (by kernel_rfl) ⟨
    fun L u => u_at u (gd0 rfl) 20 rfl 24 (.tmp 4) (.const (.int .i64 3)) rfl rfl rfl (k := 3) rfl Tryd.underlying24 i22 (by decide) 3 rfl,
    fun L u => u_load1 u (gd0 rfl) 21 rfl 22 (.tmp 20) rfl rfl rfl Tryd.underlying22 rfl _ rfl,
    fun L u => u_bin u (gd0 rfl) 22 rfl .andNot 22 22 (.tmp 21) (.const (.int .u64 9223372036854775808)) rfl rfl rfl (eqg_int _ _ _ _ _ _ _ _) (Value.int .u64 (lw 3 ((U : Nat) : Int) % 9223372036854775808)) (fun w => i_andN63 _ _ _ (L_lo 3 _) (L_hi 3 _) rfl w),
    fun L u => u_at u (gd0 rfl) 23 rfl 24 (.tmp 4) (.const (.int .i64 3)) rfl rfl rfl (k := 3) rfl Tryd.underlying24 i22 (by decide) 3 rfl,
    fun L u => u_store1 u (gd0 rfl) 22 (.tmp 23) (.tmp 22) rfl rfl rfl rfl rfl i22 (lk rfl) rfl _ rfl,
    trivial⟩ [(2, .ptr 2 0), (4, .ptr 4 0), (6, .val (Value.bool s))] [(2, nz ++ nz ++ [Value.bool false]), (4, nc (V))] ⟨rfl, rfl, rfl, trivial⟩ ⟨rfl, (congrArg some ((low_cells U).trans (congrArg nc hVe))), trivial⟩ rfl (fun a w h => ?_)
  refine go_region h hm [eS 24 (.val (.agg (nc (V)).toArray)), eS 25 (.val (.agg (gc (xx2 (kc V))).toArray)), eS 26 (.val (.agg (gc (x1)).toArray)), eN 7 (nz), eM 7 (gc (x1))] (by kernel_rfl) ⟨
    fun L u => u_load u (gd0 rfl) 24 rfl 24 (.tmp 4) rfl rfl rfl Tryd.underlying24 rfl i24 (lk rfl) _ rfl,
    fun L u => u_call u (gd0 rfl) 25 rfl 54 #[(.tmp 24)] #[24] rfl [.agg (nc (V)).toArray] rfl (cE54 _) (.agg (gc (xx2 (kc V))).toArray) (fun w hb => e_xsq (hT.keep (Bs.kp_of hb)) hVn),
    fun L u => u_call u (gd0 rfl) 26 rfl 53 #[(.tmp 25)] #[24] rfl [.agg (gc (xx2 (kc V))).toArray] rfl (cE53 _) (.agg (gc (x1)).toArray) (fun w hb => by have g := e_root (hT.keep (Bs.kp_of hb)) (hx.keep (Bs.kp_of hb)) (xx2 (kc V)); rw [h1] at g; exact g),
    fun L u => u_alloc u (gd0 rfl) 24 rfl 7 rfl rfl z24 _ rfl,
    fun L u => u_store u (gd0 rfl) 24 (.tmp 7) (.tmp 26) rfl rfl rfl (vs := gc (x1)) rfl rfl i24 (lk rfl) rfl _ rfl,
    trivial⟩ [(2, .ptr 2 0), (4, .ptr 4 0), (6, .val (Value.bool s)), (7, .ptr 7 0)] [(2, nz ++ nz ++ [Value.bool false]), (4, nc (V)), (7, gc (x1))] ⟨rfl, rfl, rfl, rfl, trivial⟩ ⟨rfl, rfl, rfl, trivial⟩ rfl (fun a w h => ?_)
  refine wp_seq ?_
  by_cases hd1 : (decide (x1.val % 2 = 1) != s) = true
  · skip
    refine go_region h hm [eS 27 (.val (.agg (gc (x1)).toArray)), eS 28 (.val (Value.bool (decide ((x1).val % 2 = 1)))), eS 29 (.val (Value.bool s)), eS 30 (.val (Value.bool true))] (by kernel_rfl) ⟨
      fun L u => u_load u (gd0 rfl) 27 rfl 24 (.tmp 7) rfl rfl rfl Tryd.underlying24 rfl i24 (lk rfl) _ rfl,
      fun L u => u_call u (gd0 rfl) 28 rfl 55 #[(.tmp 27)] #[24] rfl [.agg (gc (x1)).toArray] rfl (cE55 _) (Value.bool (decide ((x1).val % 2 = 1))) (fun w hb => e_odd (x1)),
      fun L u => u_move u (gd0 rfl) 29 rfl (.tmp 6) (Or.inl rfl) rfl,
      fun L u => u_bin u (gd0 rfl) 30 rfl .neq 4 4 (.tmp 28) (.tmp 29) rfl rfl rfl (eqg_bool _ _ _ _ _ _) (Value.bool true) (fun w => t_neq _ Tryd.underlying4 _ _ _ hd1 w),
      trivial⟩ [(2, .ptr 2 0), (4, .ptr 4 0), (6, .val (Value.bool s)), (7, .ptr 7 0), (30, .val (Value.bool true))] [(2, nz ++ nz ++ [Value.bool false]), (4, nc (V)), (7, gc (x1))] ⟨rfl, rfl, rfl, rfl, rfl, trivial⟩ ⟨rfl, rfl, rfl, trivial⟩ rfl (fun a w h => ?_)
    refine go_cond h true rfl (fun ht => ?_) (fun hf => ?_)
    case refine_2 => cases hf
    refine go_end h hm [eS 31 (.val (.agg (nz).toArray)), eS 32 (.val (.agg (gc (x1)).toArray)), eS 33 (.val (.agg (gc (0 - x1)).toArray)), eM 7 (gc (0 - x1))] (by kernel_rfl) ⟨
      fun L u => u_build u (gd0 rfl) 31 rfl 24 #[] rfl [] rfl (nz) (g_bN0),
      fun L u => u_load u (gd0 rfl) 32 rfl 24 (.tmp 7) rfl rfl rfl Tryd.underlying24 rfl i24 (lk rfl) _ rfl,
      fun L u => u_call u (gd0 rfl) 33 rfl 30 #[(.tmp 31), (.tmp 32)] #[24, 24] rfl [.agg (nz).toArray, .agg (gc (x1)).toArray] rfl (cE30 _) (.agg (gc (0 - x1)).toArray) (fun w hb => by have g := e_sub (hT.keep (Bs.kp_of hb)) 0 (x1); rw [← nz_gc] at g; exact g),
      fun L u => u_store u (gd0 rfl) 24 (.tmp 7) (.tmp 33) rfl rfl rfl (vs := gc (0 - x1)) rfl rfl i24 (lk rfl) rfl _ rfl,
      trivial⟩ [(2, .ptr 2 0), (4, .ptr 4 0), (6, .val (Value.bool s)), (7, .ptr 7 0)] [(2, nz ++ nz ++ [Value.bool false]), (4, nc (V)), (7, gc (0 - x1))] ⟨rfl, rfl, rfl, rfl, trivial⟩ ⟨rfl, rfl, rfl, trivial⟩ rfl (fun a w h => ?_)
    refine then_norm ?_
    refine go_region h hm [eS 34 (.val (.agg (gc (0 - x1)).toArray)), eS 35 (.val (.agg (nc (V)).toArray)), eS 36 (.val (.agg (gc (0 - x1) ++ nc (V) ++ [Value.bool false]).toArray)), eN 8 (nz ++ nz ++ [Value.bool false]), eM 8 (gc (0 - x1) ++ nc (V) ++ [Value.bool false])] (by kernel_rfl) ⟨
      fun L u => u_load u (gd0 rfl) 34 rfl 24 (.tmp 7) rfl rfl rfl Tryd.underlying24 rfl i24 (lk rfl) _ rfl,
      fun L u => u_load u (gd0 rfl) 35 rfl 24 (.tmp 4) rfl rfl rfl Tryd.underlying24 rfl i24 (lk rfl) _ rfl,
      fun L u => u_build u (gd0 rfl) 36 rfl 26 #[(0, (.tmp 34)), (1, (.tmp 35))] rfl [(0, .agg (gc (0 - x1)).toArray), (1, .agg (nc (V)).toArray)] rfl (gc (0 - x1) ++ nc (V) ++ [Value.bool false]) (g_bPV _ _),
      fun L u => u_alloc u (gd0 rfl) 26 rfl 8 rfl rfl z26 _ rfl,
      fun L u => u_store u (gd0 rfl) 26 (.tmp 8) (.tmp 36) rfl rfl rfl (vs := gc (0 - x1) ++ nc (V) ++ [Value.bool false]) rfl rfl i26 (lk rfl) rfl _ rfl,
      trivial⟩ [(2, .ptr 2 0), (6, .val (Value.bool s)), (7, .ptr 7 0), (8, .ptr 8 0)] [(2, nz ++ nz ++ [Value.bool false]), (7, gc (0 - x1)), (8, gc (0 - x1) ++ nc (V) ++ [Value.bool false])] ⟨rfl, rfl, rfl, rfl, trivial⟩ ⟨rfl, rfl, rfl, trivial⟩ rfl (fun a w h => ?_)
    refine wp_seq ?_
    by_cases hF : fmdE (((0 - x1).val : Nat) : Int) V false = true
    · skip
      by_cases hd2 : (decide ((0 - x1).val % 2 = 1) != s) = true
      · skip
        refine go_region h hm [eS 37 (.val (.agg (gc (0 - x1) ++ nc (V) ++ [Value.bool false]).toArray)), eS 38 (.val (Value.bool true)), eS 39 (.val (Value.bool false)), eS 40 (.val (Value.bool false)), eS 41 (.val (.agg (gc (0 - x1)).toArray)), eS 42 (.val (Value.bool (decide ((0 - x1).val % 2 = 1)))), eS 43 (.val (Value.bool s)), eS 44 (.val (Value.bool true)), eS 45 (.val (Value.bool true))] (by kernel_rfl) ⟨
          fun L u => u_load u (gd0 rfl) 37 rfl 26 (.tmp 8) rfl rfl rfl Tryd.underlying26 rfl i26 (lk rfl) _ rfl,
          fun L u => u_call u (gd0 rfl) 38 rfl 10 #[(.tmp 37)] #[26] rfl [.agg (gc (0 - x1) ++ nc (V) ++ [Value.bool false]).toArray] rfl (cE10 _) (Value.bool true) (fun w hb => by have f := e_Formed (hT.keep (Bs.kp_of hb)) (gin_num (0 - x1)) hVn false; rw [hF] at f; exact f),
          fun L u => u_not u (gd0 rfl) 39 rfl 4 (.tmp 38) rfl rfl _ rfl,
          fun L u => u_move u (gd0 rfl) 40 rfl (.tmp 39) (Or.inl rfl) rfl,
          fun L u => u_load u (gd1 u 3 false rfl 40 rfl (lk rfl) rfl) 41 rfl 24 (.tmp 7) rfl rfl rfl Tryd.underlying24 rfl i24 (lk rfl) _ rfl,
          fun L u => u_call u (gd1 u 3 false rfl 40 rfl (lk rfl) rfl) 42 rfl 55 #[(.tmp 41)] #[24] rfl [.agg (gc (0 - x1)).toArray] rfl (cE55 _) (Value.bool (decide ((0 - x1).val % 2 = 1))) (fun w hb => e_odd (0 - x1)),
          fun L u => u_move u (gd1 u 3 false rfl 40 rfl (lk rfl) rfl) 43 rfl (.tmp 6) (Or.inl rfl) rfl,
          fun L u => u_bin u (gd1 u 3 false rfl 40 rfl (lk rfl) rfl) 44 rfl .neq 4 4 (.tmp 42) (.tmp 43) rfl rfl rfl (eqg_bool _ _ _ _ _ _) (Value.bool true) (fun w => t_neq _ Tryd.underlying4 _ _ _ hd2 w),
          fun L u => u_pick u (gd0 rfl) 45 rfl (.tmp 40) (.const (.bool true)) (.tmp 44) rfl rfl rfl rfl _ rfl,
          trivial⟩ [(2, .ptr 2 0), (8, .ptr 8 0), (45, .val (Value.bool true))] [(2, nz ++ nz ++ [Value.bool false]), (8, gc (0 - x1) ++ nc (V) ++ [Value.bool false])] ⟨rfl, rfl, rfl, trivial⟩ ⟨rfl, rfl, trivial⟩ rfl (fun a w h => ?_)
        refine go_cond h true rfl (fun ht => ?_) (fun hf => ?_)
        case refine_2 => cases hf
        refine go_region h hm [eS 46 (.val (.agg (pcE (Ep.o m2)).toArray)), eM 2 (pcE (Ep.o m2)), eS 3 (.val (Value.bool false))] (by kernel_rfl) ⟨
          fun L u => u_call u (gd0 rfl) 46 rfl 51 #[] #[] rfl [] rfl (cE51 _) (.agg (pcE (Ep.o m2)).toArray) (fun w hb => e_neutral),
          fun L u => u_store u (gd0 rfl) 26 (.tmp 2) (.tmp 46) rfl rfl rfl (vs := pcE (Ep.o m2)) rfl rfl i26 (lk rfl) rfl _ rfl,
          fun L u => u_move u (gd0 rfl) 3 rfl (.const (.bool false)) (Or.inr rfl) rfl,
          trivial⟩ [(2, .ptr 2 0), (3, .val (Value.bool false))] [(2, pcE (Ep.o m2))] ⟨rfl, rfl, trivial⟩ ⟨rfl, trivial⟩ rfl (fun a w h => ?_)
        refine wp_ret ?_
        refine then_ret ?_
        refine ret_two h _ _ rfl (ans_row (cs := pcE (Ep.o m2)) 2 (lk rfl) 26 rfl rfl Tryd.underlying26 rfl i26) (ans_tmp (v := Value.bool false) 3 (lk rfl) rfl) ?_
        exact ⟨by rw [(dec_no2 hVe hsn h1 (if_pos hd1).symm (fun q => q.2 hd2)).1, (dec_no2 hVe hsn h1 (if_pos hd1).symm (fun q => q.2 hd2)).2], h.grows⟩
      · skip
        refine go_region h hm [eS 37 (.val (.agg (gc (0 - x1) ++ nc (V) ++ [Value.bool false]).toArray)), eS 38 (.val (Value.bool true)), eS 39 (.val (Value.bool false)), eS 40 (.val (Value.bool false)), eS 41 (.val (.agg (gc (0 - x1)).toArray)), eS 42 (.val (Value.bool (decide ((0 - x1).val % 2 = 1)))), eS 43 (.val (Value.bool s)), eS 44 (.val (Value.bool false)), eS 45 (.val (Value.bool false))] (by kernel_rfl) ⟨
          fun L u => u_load u (gd0 rfl) 37 rfl 26 (.tmp 8) rfl rfl rfl Tryd.underlying26 rfl i26 (lk rfl) _ rfl,
          fun L u => u_call u (gd0 rfl) 38 rfl 10 #[(.tmp 37)] #[26] rfl [.agg (gc (0 - x1) ++ nc (V) ++ [Value.bool false]).toArray] rfl (cE10 _) (Value.bool true) (fun w hb => by have f := e_Formed (hT.keep (Bs.kp_of hb)) (gin_num (0 - x1)) hVn false; rw [hF] at f; exact f),
          fun L u => u_not u (gd0 rfl) 39 rfl 4 (.tmp 38) rfl rfl _ rfl,
          fun L u => u_move u (gd0 rfl) 40 rfl (.tmp 39) (Or.inl rfl) rfl,
          fun L u => u_load u (gd1 u 3 false rfl 40 rfl (lk rfl) rfl) 41 rfl 24 (.tmp 7) rfl rfl rfl Tryd.underlying24 rfl i24 (lk rfl) _ rfl,
          fun L u => u_call u (gd1 u 3 false rfl 40 rfl (lk rfl) rfl) 42 rfl 55 #[(.tmp 41)] #[24] rfl [.agg (gc (0 - x1)).toArray] rfl (cE55 _) (Value.bool (decide ((0 - x1).val % 2 = 1))) (fun w hb => e_odd (0 - x1)),
          fun L u => u_move u (gd1 u 3 false rfl 40 rfl (lk rfl) rfl) 43 rfl (.tmp 6) (Or.inl rfl) rfl,
          fun L u => u_bin u (gd1 u 3 false rfl 40 rfl (lk rfl) rfl) 44 rfl .neq 4 4 (.tmp 42) (.tmp 43) rfl rfl rfl (eqg_bool _ _ _ _ _ _) (Value.bool false) (fun w => t_neq _ Tryd.underlying4 _ _ _ (by simpa using hd2) w),
          fun L u => u_pick u (gd0 rfl) 45 rfl (.tmp 40) (.const (.bool true)) (.tmp 44) rfl rfl rfl rfl _ rfl,
          trivial⟩ [(2, .ptr 2 0), (8, .ptr 8 0), (45, .val (Value.bool false))] [(2, nz ++ nz ++ [Value.bool false]), (8, gc (0 - x1) ++ nc (V) ++ [Value.bool false])] ⟨rfl, rfl, rfl, trivial⟩ ⟨rfl, rfl, trivial⟩ rfl (fun a w h => ?_)
        refine go_cond h false rfl (fun ht => ?_) (fun hf => ?_)
        case refine_1 => cases ht
        refine wp_skip ?_
        refine then_norm ?_
        refine go_region h hm [eS 47 (.val (.agg (gc (0 - x1) ++ nc (V) ++ [Value.bool false]).toArray)), eM 2 (gc (0 - x1) ++ nc (V) ++ [Value.bool false]), eS 3 (.val (Value.bool true))] (by kernel_rfl) ⟨
          fun L u => u_load u (gd0 rfl) 47 rfl 26 (.tmp 8) rfl rfl rfl Tryd.underlying26 rfl i26 (lk rfl) _ rfl,
          fun L u => u_store u (gd0 rfl) 26 (.tmp 2) (.tmp 47) rfl rfl rfl (vs := gc (0 - x1) ++ nc (V) ++ [Value.bool false]) rfl rfl i26 (lk rfl) rfl _ rfl,
          fun L u => u_move u (gd0 rfl) 3 rfl (.const (.bool true)) (Or.inr rfl) rfl,
          trivial⟩ [(2, .ptr 2 0), (3, .val (Value.bool true))] [(2, gc (0 - x1) ++ nc (V) ++ [Value.bool false])] ⟨rfl, rfl, trivial⟩ ⟨rfl, trivial⟩ rfl (fun a w h => ?_)
        refine wp_ret ?_
        refine ret_two h _ _ rfl (ans_row (cs := gc (0 - x1) ++ nc (V) ++ [Value.bool false]) 2 (lk rfl) 26 rfl rfl Tryd.underlying26 rfl i26) (ans_tmp (v := Value.bool true) 3 (lk rfl) rfl) ?_
        exact ⟨by rw [(dec_yes2 hVe hu.lt hsn hF hd2).1, (dec_yes2 hVe hu.lt hsn hF hd2).2], h.grows⟩
    · skip
      refine go_region h hm [eS 37 (.val (.agg (gc (0 - x1) ++ nc (V) ++ [Value.bool false]).toArray)), eS 38 (.val (Value.bool false)), eS 39 (.val (Value.bool true)), eS 40 (.val (Value.bool true)), eS 41 (.val undef), eS 42 (.val undef), eS 43 (.val undef), eS 44 (.val undef), eS 45 (.val (Value.bool true))] (by kernel_rfl) ⟨
        fun L u => u_load u (gd0 rfl) 37 rfl 26 (.tmp 8) rfl rfl rfl Tryd.underlying26 rfl i26 (lk rfl) _ rfl,
        fun L u => u_call u (gd0 rfl) 38 rfl 10 #[(.tmp 37)] #[26] rfl [.agg (gc (0 - x1) ++ nc (V) ++ [Value.bool false]).toArray] rfl (cE10 _) (Value.bool false) (fun w hb => by have f := e_Formed (hT.keep (Bs.kp_of hb)) (gin_num (0 - x1)) hVn false; rw [Bool.eq_false_iff.2 hF] at f; exact f),
        fun L u => u_not u (gd0 rfl) 39 rfl 4 (.tmp 38) rfl rfl _ rfl,
        fun L u => u_move u (gd0 rfl) 40 rfl (.tmp 39) (Or.inl rfl) rfl,
        fun L u => u_no u 3 false rfl 40 rfl (lk rfl) rfl 41 rfl,
        fun L u => u_no u 3 false rfl 40 rfl (lk rfl) rfl 42 rfl,
        fun L u => u_no u 3 false rfl 40 rfl (lk rfl) rfl 43 rfl,
        fun L u => u_no u 3 false rfl 40 rfl (lk rfl) rfl 44 rfl,
        fun L u => u_pick u (gd0 rfl) 45 rfl (.tmp 40) (.const (.bool true)) (.tmp 44) rfl rfl rfl rfl _ rfl,
        trivial⟩ [(2, .ptr 2 0), (8, .ptr 8 0), (45, .val (Value.bool true))] [(2, nz ++ nz ++ [Value.bool false]), (8, gc (0 - x1) ++ nc (V) ++ [Value.bool false])] ⟨rfl, rfl, rfl, trivial⟩ ⟨rfl, rfl, trivial⟩ rfl (fun a w h => ?_)
      refine go_cond h true rfl (fun ht => ?_) (fun hf => ?_)
      case refine_2 => cases hf
      refine go_region h hm [eS 46 (.val (.agg (pcE (Ep.o m2)).toArray)), eM 2 (pcE (Ep.o m2)), eS 3 (.val (Value.bool false))] (by kernel_rfl) ⟨
        fun L u => u_call u (gd0 rfl) 46 rfl 51 #[] #[] rfl [] rfl (cE51 _) (.agg (pcE (Ep.o m2)).toArray) (fun w hb => e_neutral),
        fun L u => u_store u (gd0 rfl) 26 (.tmp 2) (.tmp 46) rfl rfl rfl (vs := pcE (Ep.o m2)) rfl rfl i26 (lk rfl) rfl _ rfl,
        fun L u => u_move u (gd0 rfl) 3 rfl (.const (.bool false)) (Or.inr rfl) rfl,
        trivial⟩ [(2, .ptr 2 0), (3, .val (Value.bool false))] [(2, pcE (Ep.o m2))] ⟨rfl, rfl, trivial⟩ ⟨rfl, trivial⟩ rfl (fun a w h => ?_)
      refine wp_ret ?_
      refine then_ret ?_
      refine ret_two h _ _ rfl (ans_row (cs := pcE (Ep.o m2)) 2 (lk rfl) 26 rfl rfl Tryd.underlying26 rfl i26) (ans_tmp (v := Value.bool false) 3 (lk rfl) rfl) ?_
      exact ⟨by rw [(dec_no2 hVe hsn h1 (if_pos hd1).symm (fun q => hF q.1)).1, (dec_no2 hVe hsn h1 (if_pos hd1).symm (fun q => hF q.1)).2], h.grows⟩
  · skip
    refine go_region h hm [eS 27 (.val (.agg (gc (x1)).toArray)), eS 28 (.val (Value.bool (decide ((x1).val % 2 = 1)))), eS 29 (.val (Value.bool s)), eS 30 (.val (Value.bool false))] (by kernel_rfl) ⟨
      fun L u => u_load u (gd0 rfl) 27 rfl 24 (.tmp 7) rfl rfl rfl Tryd.underlying24 rfl i24 (lk rfl) _ rfl,
      fun L u => u_call u (gd0 rfl) 28 rfl 55 #[(.tmp 27)] #[24] rfl [.agg (gc (x1)).toArray] rfl (cE55 _) (Value.bool (decide ((x1).val % 2 = 1))) (fun w hb => e_odd (x1)),
      fun L u => u_move u (gd0 rfl) 29 rfl (.tmp 6) (Or.inl rfl) rfl,
      fun L u => u_bin u (gd0 rfl) 30 rfl .neq 4 4 (.tmp 28) (.tmp 29) rfl rfl rfl (eqg_bool _ _ _ _ _ _) (Value.bool false) (fun w => t_neq _ Tryd.underlying4 _ _ _ (by simpa using hd1) w),
      trivial⟩ [(2, .ptr 2 0), (4, .ptr 4 0), (6, .val (Value.bool s)), (7, .ptr 7 0), (30, .val (Value.bool false))] [(2, nz ++ nz ++ [Value.bool false]), (4, nc (V)), (7, gc (x1))] ⟨rfl, rfl, rfl, rfl, rfl, trivial⟩ ⟨rfl, rfl, rfl, trivial⟩ rfl (fun a w h => ?_)
    refine go_cond h false rfl (fun ht => ?_) (fun hf => ?_)
    case refine_1 => cases ht
    refine wp_skip ?_
    refine then_norm ?_
    refine go_region h hm [eS 34 (.val (.agg (gc (x1)).toArray)), eS 35 (.val (.agg (nc (V)).toArray)), eS 36 (.val (.agg (gc (x1) ++ nc (V) ++ [Value.bool false]).toArray)), eN 8 (nz ++ nz ++ [Value.bool false]), eM 8 (gc (x1) ++ nc (V) ++ [Value.bool false])] (by kernel_rfl) ⟨
      fun L u => u_load u (gd0 rfl) 34 rfl 24 (.tmp 7) rfl rfl rfl Tryd.underlying24 rfl i24 (lk rfl) _ rfl,
      fun L u => u_load u (gd0 rfl) 35 rfl 24 (.tmp 4) rfl rfl rfl Tryd.underlying24 rfl i24 (lk rfl) _ rfl,
      fun L u => u_build u (gd0 rfl) 36 rfl 26 #[(0, (.tmp 34)), (1, (.tmp 35))] rfl [(0, .agg (gc (x1)).toArray), (1, .agg (nc (V)).toArray)] rfl (gc (x1) ++ nc (V) ++ [Value.bool false]) (g_bPV _ _),
      fun L u => u_alloc u (gd0 rfl) 26 rfl 8 rfl rfl z26 _ rfl,
      fun L u => u_store u (gd0 rfl) 26 (.tmp 8) (.tmp 36) rfl rfl rfl (vs := gc (x1) ++ nc (V) ++ [Value.bool false]) rfl rfl i26 (lk rfl) rfl _ rfl,
      trivial⟩ [(2, .ptr 2 0), (6, .val (Value.bool s)), (7, .ptr 7 0), (8, .ptr 8 0)] [(2, nz ++ nz ++ [Value.bool false]), (7, gc (x1)), (8, gc (x1) ++ nc (V) ++ [Value.bool false])] ⟨rfl, rfl, rfl, rfl, trivial⟩ ⟨rfl, rfl, rfl, trivial⟩ rfl (fun a w h => ?_)
    refine wp_seq ?_
    by_cases hF : fmdE (((x1).val : Nat) : Int) V false = true
    · skip
      by_cases hd2 : (decide ((x1).val % 2 = 1) != s) = true
      · skip
        refine go_region h hm [eS 37 (.val (.agg (gc (x1) ++ nc (V) ++ [Value.bool false]).toArray)), eS 38 (.val (Value.bool true)), eS 39 (.val (Value.bool false)), eS 40 (.val (Value.bool false)), eS 41 (.val (.agg (gc (x1)).toArray)), eS 42 (.val (Value.bool (decide ((x1).val % 2 = 1)))), eS 43 (.val (Value.bool s)), eS 44 (.val (Value.bool true)), eS 45 (.val (Value.bool true))] (by kernel_rfl) ⟨
          fun L u => u_load u (gd0 rfl) 37 rfl 26 (.tmp 8) rfl rfl rfl Tryd.underlying26 rfl i26 (lk rfl) _ rfl,
          fun L u => u_call u (gd0 rfl) 38 rfl 10 #[(.tmp 37)] #[26] rfl [.agg (gc (x1) ++ nc (V) ++ [Value.bool false]).toArray] rfl (cE10 _) (Value.bool true) (fun w hb => by have f := e_Formed (hT.keep (Bs.kp_of hb)) (gin_num (x1)) hVn false; rw [hF] at f; exact f),
          fun L u => u_not u (gd0 rfl) 39 rfl 4 (.tmp 38) rfl rfl _ rfl,
          fun L u => u_move u (gd0 rfl) 40 rfl (.tmp 39) (Or.inl rfl) rfl,
          fun L u => u_load u (gd1 u 3 false rfl 40 rfl (lk rfl) rfl) 41 rfl 24 (.tmp 7) rfl rfl rfl Tryd.underlying24 rfl i24 (lk rfl) _ rfl,
          fun L u => u_call u (gd1 u 3 false rfl 40 rfl (lk rfl) rfl) 42 rfl 55 #[(.tmp 41)] #[24] rfl [.agg (gc (x1)).toArray] rfl (cE55 _) (Value.bool (decide ((x1).val % 2 = 1))) (fun w hb => e_odd (x1)),
          fun L u => u_move u (gd1 u 3 false rfl 40 rfl (lk rfl) rfl) 43 rfl (.tmp 6) (Or.inl rfl) rfl,
          fun L u => u_bin u (gd1 u 3 false rfl 40 rfl (lk rfl) rfl) 44 rfl .neq 4 4 (.tmp 42) (.tmp 43) rfl rfl rfl (eqg_bool _ _ _ _ _ _) (Value.bool true) (fun w => t_neq _ Tryd.underlying4 _ _ _ hd2 w),
          fun L u => u_pick u (gd0 rfl) 45 rfl (.tmp 40) (.const (.bool true)) (.tmp 44) rfl rfl rfl rfl _ rfl,
          trivial⟩ [(2, .ptr 2 0), (8, .ptr 8 0), (45, .val (Value.bool true))] [(2, nz ++ nz ++ [Value.bool false]), (8, gc (x1) ++ nc (V) ++ [Value.bool false])] ⟨rfl, rfl, rfl, trivial⟩ ⟨rfl, rfl, trivial⟩ rfl (fun a w h => ?_)
        refine go_cond h true rfl (fun ht => ?_) (fun hf => ?_)
        case refine_2 => cases hf
        refine go_region h hm [eS 46 (.val (.agg (pcE (Ep.o m2)).toArray)), eM 2 (pcE (Ep.o m2)), eS 3 (.val (Value.bool false))] (by kernel_rfl) ⟨
          fun L u => u_call u (gd0 rfl) 46 rfl 51 #[] #[] rfl [] rfl (cE51 _) (.agg (pcE (Ep.o m2)).toArray) (fun w hb => e_neutral),
          fun L u => u_store u (gd0 rfl) 26 (.tmp 2) (.tmp 46) rfl rfl rfl (vs := pcE (Ep.o m2)) rfl rfl i26 (lk rfl) rfl _ rfl,
          fun L u => u_move u (gd0 rfl) 3 rfl (.const (.bool false)) (Or.inr rfl) rfl,
          trivial⟩ [(2, .ptr 2 0), (3, .val (Value.bool false))] [(2, pcE (Ep.o m2))] ⟨rfl, rfl, trivial⟩ ⟨rfl, trivial⟩ rfl (fun a w h => ?_)
        refine wp_ret ?_
        refine then_ret ?_
        refine ret_two h _ _ rfl (ans_row (cs := pcE (Ep.o m2)) 2 (lk rfl) 26 rfl rfl Tryd.underlying26 rfl i26) (ans_tmp (v := Value.bool false) 3 (lk rfl) rfl) ?_
        exact ⟨by rw [(dec_no2 hVe hsn h1 (if_neg hd1).symm (fun q => q.2 hd2)).1, (dec_no2 hVe hsn h1 (if_neg hd1).symm (fun q => q.2 hd2)).2], h.grows⟩
      · skip
        refine go_region h hm [eS 37 (.val (.agg (gc (x1) ++ nc (V) ++ [Value.bool false]).toArray)), eS 38 (.val (Value.bool true)), eS 39 (.val (Value.bool false)), eS 40 (.val (Value.bool false)), eS 41 (.val (.agg (gc (x1)).toArray)), eS 42 (.val (Value.bool (decide ((x1).val % 2 = 1)))), eS 43 (.val (Value.bool s)), eS 44 (.val (Value.bool false)), eS 45 (.val (Value.bool false))] (by kernel_rfl) ⟨
          fun L u => u_load u (gd0 rfl) 37 rfl 26 (.tmp 8) rfl rfl rfl Tryd.underlying26 rfl i26 (lk rfl) _ rfl,
          fun L u => u_call u (gd0 rfl) 38 rfl 10 #[(.tmp 37)] #[26] rfl [.agg (gc (x1) ++ nc (V) ++ [Value.bool false]).toArray] rfl (cE10 _) (Value.bool true) (fun w hb => by have f := e_Formed (hT.keep (Bs.kp_of hb)) (gin_num (x1)) hVn false; rw [hF] at f; exact f),
          fun L u => u_not u (gd0 rfl) 39 rfl 4 (.tmp 38) rfl rfl _ rfl,
          fun L u => u_move u (gd0 rfl) 40 rfl (.tmp 39) (Or.inl rfl) rfl,
          fun L u => u_load u (gd1 u 3 false rfl 40 rfl (lk rfl) rfl) 41 rfl 24 (.tmp 7) rfl rfl rfl Tryd.underlying24 rfl i24 (lk rfl) _ rfl,
          fun L u => u_call u (gd1 u 3 false rfl 40 rfl (lk rfl) rfl) 42 rfl 55 #[(.tmp 41)] #[24] rfl [.agg (gc (x1)).toArray] rfl (cE55 _) (Value.bool (decide ((x1).val % 2 = 1))) (fun w hb => e_odd (x1)),
          fun L u => u_move u (gd1 u 3 false rfl 40 rfl (lk rfl) rfl) 43 rfl (.tmp 6) (Or.inl rfl) rfl,
          fun L u => u_bin u (gd1 u 3 false rfl 40 rfl (lk rfl) rfl) 44 rfl .neq 4 4 (.tmp 42) (.tmp 43) rfl rfl rfl (eqg_bool _ _ _ _ _ _) (Value.bool false) (fun w => t_neq _ Tryd.underlying4 _ _ _ (by simpa using hd2) w),
          fun L u => u_pick u (gd0 rfl) 45 rfl (.tmp 40) (.const (.bool true)) (.tmp 44) rfl rfl rfl rfl _ rfl,
          trivial⟩ [(2, .ptr 2 0), (8, .ptr 8 0), (45, .val (Value.bool false))] [(2, nz ++ nz ++ [Value.bool false]), (8, gc (x1) ++ nc (V) ++ [Value.bool false])] ⟨rfl, rfl, rfl, trivial⟩ ⟨rfl, rfl, trivial⟩ rfl (fun a w h => ?_)
        refine go_cond h false rfl (fun ht => ?_) (fun hf => ?_)
        case refine_1 => cases ht
        refine wp_skip ?_
        refine then_norm ?_
        refine go_region h hm [eS 47 (.val (.agg (gc (x1) ++ nc (V) ++ [Value.bool false]).toArray)), eM 2 (gc (x1) ++ nc (V) ++ [Value.bool false]), eS 3 (.val (Value.bool true))] (by kernel_rfl) ⟨
          fun L u => u_load u (gd0 rfl) 47 rfl 26 (.tmp 8) rfl rfl rfl Tryd.underlying26 rfl i26 (lk rfl) _ rfl,
          fun L u => u_store u (gd0 rfl) 26 (.tmp 2) (.tmp 47) rfl rfl rfl (vs := gc (x1) ++ nc (V) ++ [Value.bool false]) rfl rfl i26 (lk rfl) rfl _ rfl,
          fun L u => u_move u (gd0 rfl) 3 rfl (.const (.bool true)) (Or.inr rfl) rfl,
          trivial⟩ [(2, .ptr 2 0), (3, .val (Value.bool true))] [(2, gc (x1) ++ nc (V) ++ [Value.bool false])] ⟨rfl, rfl, trivial⟩ ⟨rfl, trivial⟩ rfl (fun a w h => ?_)
        refine wp_ret ?_
        refine ret_two h _ _ rfl (ans_row (cs := gc (x1) ++ nc (V) ++ [Value.bool false]) 2 (lk rfl) 26 rfl rfl Tryd.underlying26 rfl i26) (ans_tmp (v := Value.bool true) 3 (lk rfl) rfl) ?_
        exact ⟨by rw [(dec_yes2 hVe hu.lt hsn hF hd2).1, (dec_yes2 hVe hu.lt hsn hF hd2).2], h.grows⟩
    · skip
      refine go_region h hm [eS 37 (.val (.agg (gc (x1) ++ nc (V) ++ [Value.bool false]).toArray)), eS 38 (.val (Value.bool false)), eS 39 (.val (Value.bool true)), eS 40 (.val (Value.bool true)), eS 41 (.val undef), eS 42 (.val undef), eS 43 (.val undef), eS 44 (.val undef), eS 45 (.val (Value.bool true))] (by kernel_rfl) ⟨
        fun L u => u_load u (gd0 rfl) 37 rfl 26 (.tmp 8) rfl rfl rfl Tryd.underlying26 rfl i26 (lk rfl) _ rfl,
        fun L u => u_call u (gd0 rfl) 38 rfl 10 #[(.tmp 37)] #[26] rfl [.agg (gc (x1) ++ nc (V) ++ [Value.bool false]).toArray] rfl (cE10 _) (Value.bool false) (fun w hb => by have f := e_Formed (hT.keep (Bs.kp_of hb)) (gin_num (x1)) hVn false; rw [Bool.eq_false_iff.2 hF] at f; exact f),
        fun L u => u_not u (gd0 rfl) 39 rfl 4 (.tmp 38) rfl rfl _ rfl,
        fun L u => u_move u (gd0 rfl) 40 rfl (.tmp 39) (Or.inl rfl) rfl,
        fun L u => u_no u 3 false rfl 40 rfl (lk rfl) rfl 41 rfl,
        fun L u => u_no u 3 false rfl 40 rfl (lk rfl) rfl 42 rfl,
        fun L u => u_no u 3 false rfl 40 rfl (lk rfl) rfl 43 rfl,
        fun L u => u_no u 3 false rfl 40 rfl (lk rfl) rfl 44 rfl,
        fun L u => u_pick u (gd0 rfl) 45 rfl (.tmp 40) (.const (.bool true)) (.tmp 44) rfl rfl rfl rfl _ rfl,
        trivial⟩ [(2, .ptr 2 0), (8, .ptr 8 0), (45, .val (Value.bool true))] [(2, nz ++ nz ++ [Value.bool false]), (8, gc (x1) ++ nc (V) ++ [Value.bool false])] ⟨rfl, rfl, rfl, trivial⟩ ⟨rfl, rfl, trivial⟩ rfl (fun a w h => ?_)
      refine go_cond h true rfl (fun ht => ?_) (fun hf => ?_)
      case refine_2 => cases hf
      refine go_region h hm [eS 46 (.val (.agg (pcE (Ep.o m2)).toArray)), eM 2 (pcE (Ep.o m2)), eS 3 (.val (Value.bool false))] (by kernel_rfl) ⟨
        fun L u => u_call u (gd0 rfl) 46 rfl 51 #[] #[] rfl [] rfl (cE51 _) (.agg (pcE (Ep.o m2)).toArray) (fun w hb => e_neutral),
        fun L u => u_store u (gd0 rfl) 26 (.tmp 2) (.tmp 46) rfl rfl rfl (vs := pcE (Ep.o m2)) rfl rfl i26 (lk rfl) rfl _ rfl,
        fun L u => u_move u (gd0 rfl) 3 rfl (.const (.bool false)) (Or.inr rfl) rfl,
        trivial⟩ [(2, .ptr 2 0), (3, .val (Value.bool false))] [(2, pcE (Ep.o m2))] ⟨rfl, rfl, trivial⟩ ⟨rfl, trivial⟩ rfl (fun a w h => ?_)
      refine wp_ret ?_
      refine then_ret ?_
      refine ret_two h _ _ rfl (ans_row (cs := pcE (Ep.o m2)) 2 (lk rfl) 26 rfl rfl Tryd.underlying26 rfl i26) (ans_tmp (v := Value.bool false) 3 (lk rfl) rfl) ?_
      exact ⟨by rw [(dec_no2 hVe hsn h1 (if_neg hd1).symm (fun q => hF q.1)).1, (dec_no2 hVe hsn h1 (if_neg hd1).symm (fun q => hF q.1)).2], h.grows⟩
theorem e_Dec {w : World} (hT : Tab w) (hx : TabX w) {A : Option Addr} {c : Nat} {f : Nat → Nat} (hba : BA w A 32 f) (_hc : 32 ≤ c) {u : Nat} (hu : LN f u) : Calls Tryd.prog 22 [.slice A 32 c].toArray w fun e w' => e = .returned (.tuple [.agg (pcE (dpt u)).toArray, .bool (dok u)].toArray) ∧ Below w.heap.size w w' := by
  rcases hba.at_ with h0 | ⟨b, o, rfl, hr⟩
  · omega
  have hV0 : u % 2 ^ 255 < 2 ^ 255 := Nat.mod_lt _ (by decide)
  exact e_dec_at hT hx hba.lt hr hu (top_bit hu.lt) rfl rfl (num_nat (by omega)) rfl
set_option maxRecDepth 100000 in
set_option maxHeartbeats 4000000 in
theorem e_dec_not {w : World} {A : Option Addr} {n c : Nat} (hn : n ≠ 32) : Calls Tryd.prog 22 [Value.slice (A) (n) (c)].toArray w fun e w' => e = .returned (.tuple [.agg (pcE (Ep.o m2)).toArray, .bool false].toArray) ∧ Below w.heap.size w w' := by
  refine enter (args := [Value.slice (A) (n) (c)]) Tryd.func22 rfl 48 rfl (lk rfl) (fun a h => ?_)
  refine go_region h hm [eN 2 (nz ++ nz ++ [Value.bool false]), eS 3 (.val (Value.bool false))] (by kernel_rfl) ⟨
    fun L u => u_alloc u (gd0 rfl) 26 rfl 2 rfl rfl z26 _ rfl,
    fun L u => u_move u (gd0 rfl) 3 rfl (.const (.bool false)) (Or.inr rfl) rfl,
    trivial⟩ [(0, .val (Value.slice (A) (n) (c))), (2, .ptr 2 0)] [(2, nz ++ nz ++ [Value.bool false])] ⟨rfl, rfl, trivial⟩ ⟨rfl, trivial⟩ rfl (fun a w h => ?_)
  refine go_region h hm [eS 10 (.val (Value.slice (A) (n) (c))), eS 11 (.val (.tuple [.agg (nz).toArray, Value.bool false].toArray)), eS 9 (.val (.tuple [.agg (nz).toArray, Value.bool false].toArray)), eS 12 (.val (.agg (nz).toArray)), eS 13 (.val (Value.bool false)), eN 4 (nz), eM 4 (nz), eS 5 (.val (Value.bool false))] (by kernel_rfl) ⟨
    fun L u => u_move u (gd0 rfl) 10 rfl (.tmp 0) (Or.inl rfl) rfl,
    fun L u => u_call u (gd0 rfl) 11 rfl 50 #[(.tmp 10)] #[43] rfl [Value.slice (A) (n) (c)] rfl (cE50 _) (.tuple [.agg (nz).toArray, Value.bool false].toArray) (fun w hb => little_not A n c hn _),
    fun L u => u_move u (gd0 rfl) 9 rfl (.tmp 11) (Or.inl rfl) rfl,
    fun L u => u_part u (gd0 rfl) 12 rfl (.tmp 9) 0 rfl (vs := [.agg (nz).toArray, Value.bool false]) rfl _ rfl,
    fun L u => u_part u (gd0 rfl) 13 rfl (.tmp 9) 1 rfl (vs := [.agg (nz).toArray, Value.bool false]) rfl _ rfl,
    fun L u => u_alloc u (gd0 rfl) 24 rfl 4 rfl rfl z24 _ rfl,
    fun L u => u_store u (gd0 rfl) 24 (.tmp 4) (.tmp 12) rfl rfl rfl (vs := nz) rfl rfl i24 (lk rfl) rfl _ rfl,
    fun L u => u_move u (gd0 rfl) 5 rfl (.tmp 13) (Or.inr rfl) rfl,
    trivial⟩ [(2, .ptr 2 0), (4, .ptr 4 0), (5, .val (Value.bool false))] [(2, nz ++ nz ++ [Value.bool false]), (4, nz)] ⟨rfl, rfl, rfl, trivial⟩ ⟨rfl, rfl, trivial⟩ rfl (fun a w h => ?_)
  refine wp_seq ?_
  refine go_region h hm [eS 14 (.val (Value.bool false)), eS 15 (.val (Value.bool true))] (by kernel_rfl) ⟨
    fun L u => u_move u (gd0 rfl) 14 rfl (.tmp 5) (Or.inl rfl) rfl,
    fun L u => u_not u (gd0 rfl) 15 rfl 4 (.tmp 14) rfl rfl _ rfl,
    trivial⟩ [(2, .ptr 2 0), (4, .ptr 4 0), (15, .val (Value.bool true))] [(2, nz ++ nz ++ [Value.bool false]), (4, nz)] ⟨rfl, rfl, rfl, trivial⟩ ⟨rfl, rfl, trivial⟩ rfl (fun a w h => ?_)
  refine go_cond h true rfl (fun ht => ?_) (fun hf => ?_)
  case refine_2 => cases hf
  refine go_region h hm [eS 16 (.val (.agg (pcE (Ep.o m2)).toArray)), eM 2 (pcE (Ep.o m2)), eS 3 (.val (Value.bool false))] (by kernel_rfl) ⟨
    fun L u => u_call u (gd0 rfl) 16 rfl 51 #[] #[] rfl [] rfl (cE51 _) (.agg (pcE (Ep.o m2)).toArray) (fun w hb => e_neutral),
    fun L u => u_store u (gd0 rfl) 26 (.tmp 2) (.tmp 16) rfl rfl rfl (vs := pcE (Ep.o m2)) rfl rfl i26 (lk rfl) rfl _ rfl,
    fun L u => u_move u (gd0 rfl) 3 rfl (.const (.bool false)) (Or.inr rfl) rfl,
    trivial⟩ [(2, .ptr 2 0), (3, .val (Value.bool false))] [(2, pcE (Ep.o m2))] ⟨rfl, rfl, trivial⟩ ⟨rfl, trivial⟩ rfl (fun a w h => ?_)
  refine wp_ret ?_
  refine then_ret ?_
  refine ret_two h _ _ rfl (ans_row (cs := pcE (Ep.o m2)) 2 (lk rfl) 26 rfl rfl Tryd.underlying26 rfl i26) (ans_tmp (v := Value.bool false) 3 (lk rfl) rfl) ?_
  exact ⟨rfl, h.grows⟩
theorem e_Enc {w : World} (hT : Tab w) {X Y : Int} (hX : Num X) (hY : Num Y) (t : Bool) : Calls Tryd.prog 24 [.agg (rc X Y t).toArray].toArray w fun e w' => New32 (fun i => Go.Proofs.YtolehamdaceikaaDoor.Y i (((code (rpE X Y t) : Nat)) : Int)) w e w' := Calls.mono (e_EncC hT hX hY t) (fun _ _ h => h.new)
end Go.Proofs.YtolehamdaceikaaDoor
namespace Go.Proofs.YtolehamdaceikaaDoor
open Go.RowKit

/-- The bytes of a number. -/
def ebB (u : Nat) (i : Nat) : Nat := (Y i (u : Int)).toNat
theorem ebB_int (u i : Nat) : ((ebB u i : Nat) : Int) = Y i (u : Int) := Int.toNat_of_nonneg (Y_lo _ _)
theorem ebB_lt (u i : Nat) : ebB u i < 256 := by
  have h1 := ebB_int u i
  have h2 := Y_hi i (u : Int)
  omega
theorem ln_eb {u : Nat} (h : u < 2 ^ 256) : LN (ebB u) u := ⟨h, fun i _ => (ebB_int u i).symm⟩
theorem new_made {u : Nat} {w w' : World} {e : Ending} (h : New32 (fun i => Y i (u : Int)) w e w') {f : Nat → Nat} (hf : ∀ i, f i < 256) (hq : ∀ i, i < 32 → Y i (u : Int) = ((f i : Nat) : Int)) : ∃ r, e = .returned r ∧ Made 32 f r w w' ∧ Below w.heap.size w w' := by
  obtain ⟨b, c, rfl, hc, h1, _, h3, _, hb⟩ := h
  exact ⟨_, rfl, ⟨b, c, rfl, h1, ⟨hf, Or.inr ⟨b, 0, rfl, (rd_by h3).congr hq⟩⟩, hc⟩, hb⟩
set_option maxRecDepth 100000 in
theorem edBytes_rc {w0 : World} (hT : Tab w0) (hTX : TabX w0) {X Y : Int} (hX : Num X) (hY : Num Y) (t : Bool) {A : Option Addr} {n c : Nat} {f : Nat → Nat} (hba : BA w0 A n f) (hnc : n ≤ c) : Calls Tryd.prog 8 [.agg (rc X Y t).toArray, .slice A n c].toArray w0 fun e w' => e = .returned (.bool true) ∧ Below w0.heap.size w0 w' := by
  by_cases hn : n ≤ 100
  · have KT : ∀ {w}, (Bs.of w0).kp w → Tab w := fun hk => hT.keep (Bs.kp_of hk)
    have KX : ∀ {w}, (Bs.of w0).kp w → TabX w := fun hk => hTX.keep (Bs.kp_of hk)
    have CE1 : ∀ w, (Bs.of w0).kp w → Calls Tryd.prog 24 [.agg (rc X Y t).toArray].toArray w fun e w' => ∃ r, e = .returned r ∧ Made 32 (ebB (code (rpE X Y t))) r w w' ∧ Below w.heap.size w w' := fun w hk => Calls.mono (e_Enc (KT hk) hX hY t) (fun _ _ h => new_made h (ebB_lt _) (fun i _ => (ebB_int _ i).symm))
    have CE2 : ∀ w, (Bs.of w0).kp w → Calls Tryd.prog 26 [.agg (rc X Y t).toArray].toArray w fun e w' => ∃ r, e = .returned r ∧ Made 32 (ebB (code (rpE X Y t))) r w w' ∧ Below w.heap.size w w' := fun w hk => Calls.mono (s_Encode (KT hk) hX hY t) (fun _ _ h => new_made h (ebB_lt _) (fun i _ => (ebB_int _ i).symm))
    have CD3 : ∀ w g d, (Bs.of w0).kp w → BA w (some ⟨g, 0, none⟩) 32 (ebB (code (rpE X Y t))) → 32 ≤ d → Calls Tryd.prog 22 [.slice (some ⟨g, 0, none⟩) 32 d].toArray w fun e w' => e = .returned (.tuple [.agg (pcE (rpE X Y t)).toArray, .bool true].toArray) ∧ Below w.heap.size w w' := fun w g d hk hb hd => by
      have h := e_Dec (KT hk) (KX hk) hb hd (ln_eb (code_lt (rpE X Y t)))
      obtain ⟨e1, e2⟩ := dpt_some (dec_code (rpE_on X Y t))
      rw [e1, e2] at h
      exact h
    -- what is decoded
    obtain ⟨D, ok, CD1, CD2, CE3⟩ : ∃ (D : Ep m2) (ok : Bool), (∀ w, (Bs.of w0).kp w → Calls Tryd.prog 22 [.slice A n c].toArray w fun e w' => e = .returned (.tuple [.agg (pcE D).toArray, .bool ok].toArray) ∧ Below w.heap.size w w') ∧ (∀ w, (Bs.of w0).kp w → Calls Tryd.prog 23 [.slice A n c].toArray w fun e w' => e = .returned (.tuple [.agg (pcE D).toArray, .bool ok].toArray) ∧ Below w.heap.size w w') ∧ (ok = true → ∀ w, (Bs.of w0).kp w → Calls Tryd.prog 24 [.agg (pcE D).toArray].toArray w fun e w' => ∃ r, e = .returned r ∧ Made n f r w w' ∧ Below w.heap.size w w') := by
      by_cases h32 : n = 32
      · subst h32
        obtain ⟨u, hu⟩ := ln_is hba.lt
        refine ⟨dpt u, dok u, fun w hk => e_Dec (KT hk) (KX hk) (hba.keep (Bs.kp_of hk)) hnc hu, fun w hk => s_Dec (KT hk) (hba.keep (Bs.kp_of hk)) hu, fun hok w hk => ?_⟩
        have hD : code (dpt u) = u := by
          cases hd : dec u with
          | none => rw [(dpt_none hd).2] at hok; cases hok
          | some a => rw [(dpt_some hd).1]; exact (dec_is hd).2
        have h := e_Enc (KT hk) (gin_num (dpt u).x) (gin_num (dpt u).y) false
        rw [rpE_pc (dpt_on u)] at h
        exact Calls.mono h (fun _ _ q => new_made q hba.lt (hu.back hD))
      · exact ⟨Ep.o m2, false, fun w _ => e_dec_not (w := w) h32, fun w _ => s_dec_not (w := w) h32, fun h => by cases h⟩
    by_cases hf : fmdE X Y t = true
    · have hd := of_decide_eq_true hf
      have er : rpE X Y t = ⟨kc X, kc Y⟩ := if_pos hd
      have ec : rc X Y t = pcE (rpE X Y t) := by
        rw [er, hd.1, rc, nc_gc hX.lo hd.2.1, nc_gc hY.lo hd.2.2.1]
        rfl
      have HFM : ∀ {w : World}, Tab w → Calls Tryd.prog 11 [.agg (pcE (rpE X Y t)).toArray].toArray w fun e w' => e = .returned (.bool true) ∧ Below w.heap.size w w' := fun hT => by
        have h := s_Formed hT hX hY t
        rw [hf, ec] at h
        exact h
      rw [ec] at CE1 CE2
      rw [ec]
      cases ok with
      | true => exact ebytes_true_true hT HFM hba hn D CD1 CD2 CE1 CE2 CD3 (CE3 rfl)
      | false => exact ebytes_false_true hT HFM hn D CD1 CD2 CE1 CE2 CD3
    · have hf0 : fmdE X Y t = false := by simpa using hf
      have HFM : ∀ {w : World}, Tab w → Calls Tryd.prog 11 [.agg (rc X Y t).toArray].toArray w fun e w' => e = .returned (.bool false) ∧ Below w.heap.size w w' := fun hT => by
        have h := s_Formed hT hX hY t
        rw [hf0] at h
        exact h
      rw [fmdE_rp hf0] at CD3 CE1 CE2
      cases ok with
      | true => exact ebytes_true_false hT HFM hba hn D CD1 CD2 CE1 CE2 CD3 (CE3 rfl)
      | false => exact ebytes_false_false hT HFM hn D CD1 CD2 CE1 CE2 CD3
  · exact ebytes_long hT (X := X) (Y := Y) t (by omega)
theorem edBytes_walk {w0 : World} (hT : Tab w0) (hTX : TabX w0) {X Y : Int} (hX : Num X) (hY : Num Y) (t : Bool) {A : Option Addr} {n c : Nat} {f : Nat → Nat} (hba : BA w0 A n f) (hnc : n ≤ c) (_hcm : c ≤ maxLen) : Calls Tryd.prog 8 #[.agg #[.int .u64 (L 0 X), .int .u64 (L 1 X), .int .u64 (L 2 X), .int .u64 (L 3 X), .int .u64 (L 0 Y), .int .u64 (L 1 Y), .int .u64 (L 2 Y), .int .u64 (L 3 Y), .bool t], .slice A n c] w0 fun e w' => e = .returned (.bool true) ∧ Below w0.heap.size w0 w' := edBytes_rc hT hTX hX hY t hba hnc
end Go.Proofs.YtolehamdaceikaaDoor
namespace Go.Proofs.YtolehamdaceikaaDoor
open Go.ChangeShapes Go.WideShapes Go.ChangeAt Go.RowKit

theorem own : ownKnob Tryd.prog.godebug = none := by kernel_rfl
theorem cellsU64 : Tryd.prog.cellsOf 22 = 1 := by kernel_rfl
theorem cellsNat : Tryd.prog.cellsOf 24 = 4 := by kernel_rfl
theorem word_of_wf {x : Int} (h : (Lit.int .u64 x).wf = true) : 0 ≤ x ∧ x < 18446744073709551616 := by
  simp [Lit.wf, IntKind.min, IntKind.max, IntKind.signed, IntKind.bits] at h
  exact ⟨by omega, by omega⟩
theorem wf_of_word {x : Int} (h : 0 ≤ x ∧ x < 18446744073709551616) : (Lit.int .u64 x).wf = true := by
  simp [Lit.wf, IntKind.min, IntKind.max, IntKind.signed, IntKind.bits]
  omega
theorem list4 {α : Type} (l : List α) (h : (⟨l⟩ : Array α).size = 4) : ∃ a b c d, l = [a, b, c, d] := by
  match l, h with
  | [a, b, c, d], _ => exact ⟨a, b, c, d, rfl⟩

/-- A parameter of four words is the words of one number. -/
theorem open_nat {H : Type} {enc : TypeId × Value → H} {W : World} {base : Nat} {v : Value} {d : DataW H} {p : List MemPlace}
    (hv : Value.okWide Tryd.prog W .any base 24 v) (h : DataW.Trod enc Tryd.prog W 0 (fun _ => true) true 24 v d p) :
    ∃ a, Num a ∧ v = .agg #[.int .u64 (L 0 a), .int .u64 (L 1 a), .int .u64 (L 2 a), .int .u64 (L 3 a)] ∧ d = DataW.agg [.lit (.int .u64 (L 0 a)), .lit (.int .u64 (L 1 a)), .lit (.int .u64 (L 2 a)), .lit (.int .u64 (L 3 a))] ∧ p = [] := by
  obtain ⟨cs, rfl, hsz, _⟩ : ∃ cs, v = .agg cs ∧ cs.size = Tryd.prog.cellsOf 24 ∧ Row.okWide Tryd.prog W .any base 24 cs := by
    simpa [Value.okWide, Tryd.underlying24] using hv
  rw [cellsNat] at hsz
  obtain ⟨l⟩ := cs
  obtain ⟨c0, c1, c2, c3, rfl⟩ := list4 l hsz
  obtain ⟨fuel, hf⟩ := h
  obtain ⟨y0, y1, y2, y3, m, hx, hy0, hy1, hy2, hy3⟩ := trod_array4 Tryd.underlying24 cellsU64 hf
  obtain ⟨x0, e0, rfl, w0⟩ := DataW.trod_int Tryd.underlying22 hy0
  obtain ⟨x1, e1, rfl, w1⟩ := DataW.trod_int Tryd.underlying22 hy1
  obtain ⟨x2, e2, rfl, w2⟩ := DataW.trod_int Tryd.underlying22 hy2
  obtain ⟨x3, e3, rfl, w3⟩ := DataW.trod_int Tryd.underlying22 hy3
  simp at e0 e1 e2 e3
  subst e0 e1 e2 e3
  simp only [Prod.mk.injEq] at hx
  obtain ⟨rfl, rfl⟩ := hx
  obtain ⟨a, ha, rfl, rfl, rfl, rfl⟩ := num_of x0 x1 x2 x3 (word_of_wf w0) (word_of_wf w1) (word_of_wf w2) (word_of_wf w3)
  exact ⟨a, ha, rfl, rfl, rfl⟩
theorem shut_nat {H : Type} {enc : TypeId × Value → H} (W : World) (sp : Nat → Bool) (a : Int) :
    DataW.Trod enc Tryd.prog W 0 sp true 24 (.agg #[.int .u64 (L 0 a), .int .u64 (L 1 a), .int .u64 (L 2 a), .int .u64 (L 3 a)]) (DataW.agg [.lit (.int .u64 (L 0 a)), .lit (.int .u64 (L 1 a)), .lit (.int .u64 (L 2 a)), .lit (.int .u64 (L 3 a))]) [] := by
  have w0 := wf_of_word ⟨L_lo 0 a, L_hi 0 a⟩
  have w1 := wf_of_word ⟨L_lo 1 a, L_hi 1 a⟩
  have w2 := wf_of_word ⟨L_lo 2 a, L_hi 2 a⟩
  have w3 := wf_of_word ⟨L_lo 3 a, L_hi 3 a⟩
  exact ⟨2, by simp [DataW.trod, Value.cells, Tryd.underlying24, Tryd.underlying22, cellsNat, cellsU64, w0, w1, w2, w3, show List.range 4 = [0, 1, 2, 3] from rfl]⟩

theorem u8_of_wf {x : Int} (h : (Lit.int .u8 x).wf = true) : 0 ≤ x ∧ x ≤ 255 := by
  simp [Lit.wf, IntKind.min, IntKind.max, IntKind.signed, IntKind.bits] at h
  exact ⟨by omega, by omega⟩
theorem gMod : Tryd.prog.globalNamed "chronicle/field.moduli" = some 3 := by kernel_rfl
theorem tMod : (Tryd.prog.globals[3]?).map (·.type) = some 81 := by kernel_rfl
theorem cellsModuli : Tryd.prog.cellsOf 81 = 16 := by kernel_rfl
theorem cellsMod : Tryd.prog.cellsOf 75 = 4 := by kernel_rfl
theorem list16 {α : Type} (l : List α) (h : l.length = 16) : ∃ x0 x1 x2 x3 x4 x5 x6 x7 x8 x9 x10 x11 x12 x13 x14 x15, l = [x0, x1, x2, x3, x4, x5, x6, x7, x8, x9, x10, x11, x12, x13, x14, x15] := by
  match l, h with
  | [x0, x1, x2, x3, x4, x5, x6, x7, x8, x9, x10, x11, x12, x13, x14, x15], _ => exact ⟨x0, x1, x2, x3, x4, x5, x6, x7, x8, x9, x10, x11, x12, x13, x14, x15, rfl⟩
def laid1 : List (String × DataW Unit) := [("chronicle/field.moduli", Rows.laid_chronicle_field_moduli), ("chronicle/ed.curveD", Rows.laid_chronicle_ed_curveD)]
def laidX : List (String × DataW Unit) := [("chronicle/field.moduli", Rows.laid_chronicle_field_moduli), ("chronicle/ed.curveD", Rows.laid_chronicle_ed_curveD), ("chronicle/ed.rootPower", Rows.laid_chronicle_ed_rootPower), ("chronicle/ed.turn", Rows.laid_chronicle_ed_turn)]
theorem cells_of_table {H : Type} {enc : TypeId × Value → H} {W : World} {sp : Nat → Bool} {held : Bool} {fuel : Nat} {l : List Value} {p : List MemPlace}
    (h : DataW.trod enc Tryd.prog W 0 sp held fuel 81 l = some (Rows.laid_chronicle_field_moduli, p)) : l = [.int .u64 18446744073709551615, .int .u64 4294967295, .int .u64 0, .int .u64 18446744069414584321, .int .u64 17562291160714782033, .int .u64 13611842547513532036, .int .u64 18446744073709551615, .int .u64 18446744069414584320, .int .u64 18446744073709551597, .int .u64 18446744073709551615, .int .u64 18446744073709551615, .int .u64 9223372036854775807, .int .u64 6346243789798364141, .int .u64 1503914060200516822, .int .u64 0, .int .u64 1152921504606846976] := by
  cases fuel with
  | zero => simp [DataW.trod] at h
  | succ fuel =>
    simp only [DataW.trod, Tryd.underlying81, cellsModuli, cellsMod] at h
    split at h
    · rename_i hl
      obtain ⟨x0, x1, x2, x3, x4, x5, x6, x7, x8, x9, x10, x11, x12, x13, x14, x15, rfl⟩ := list16 l (by simpa using hl)
      rw [show List.range 4 = [0, 1, 2, 3] from rfl] at h
      simp only [Option.map_eq_some_iff, List.mapM_cons, List.mapM_nil, Option.bind_eq_bind, Option.bind_eq_some_iff, Option.pure_def, Option.some.injEq] at h
      obtain ⟨ys, ⟨y0, h0, _, ⟨y1, h1, _, ⟨y2, h2, _, ⟨y3, h3, _, rfl, rfl⟩, rfl⟩, rfl⟩, rfl⟩, hx⟩ := h
      obtain ⟨d0, p0⟩ := y0
      obtain ⟨d1, p1⟩ := y1
      obtain ⟨d2, p2⟩ := y2
      obtain ⟨d3, p3⟩ := y3
      simp only [Rows.laid_chronicle_field_moduli, List.map_cons, List.map_nil, Prod.mk.injEq, DataW.agg.injEq, List.cons.injEq, and_true] at hx
      obtain ⟨⟨e0, e1, e2, e3⟩, _⟩ := hx
      subst e0 e1 e2 e3
      have g0 := Lib.cells_of_tab (k := .u64) (zs := [18446744073709551615, 4294967295, 0, 18446744069414584321]) Tryd.underlying75 Tryd.underlying22 cellsU64 cellsMod h0
      have g1 := Lib.cells_of_tab (k := .u64) (zs := [17562291160714782033, 13611842547513532036, 18446744073709551615, 18446744069414584320]) Tryd.underlying75 Tryd.underlying22 cellsU64 cellsMod h1
      have g2 := Lib.cells_of_tab (k := .u64) (zs := [18446744073709551597, 18446744073709551615, 18446744073709551615, 9223372036854775807]) Tryd.underlying75 Tryd.underlying22 cellsU64 cellsMod h2
      have g3 := Lib.cells_of_tab (k := .u64) (zs := [6346243789798364141, 1503914060200516822, 0, 1152921504606846976]) Tryd.underlying75 Tryd.underlying22 cellsU64 cellsMod h3
      simp at g0 g1 g2 g3
      simp [g0, g1, g2, g3]
    · cases h
theorem g_curveD : Tryd.prog.globalNamed "chronicle/ed.curveD" = some 0 := by kernel_rfl
theorem t_curveD : (Tryd.prog.globals[0]?).map (·.type) = some 24 := by kernel_rfl
theorem g_rootPower : Tryd.prog.globalNamed "chronicle/ed.rootPower" = some 1 := by kernel_rfl
theorem t_rootPower : (Tryd.prog.globals[1]?).map (·.type) = some 24 := by kernel_rfl
theorem g_turn : Tryd.prog.globalNamed "chronicle/ed.turn" = some 2 := by kernel_rfl
theorem t_turn : (Tryd.prog.globals[2]?).map (·.type) = some 24 := by kernel_rfl
theorem tab_of_laid {W : World} (h : laidMetH Tryd.prog laid1 W) : Tab W := by
  rw [MakeChecks.laidMetH_plain _ _ _ (by kernel_rfl)] at h
  have hcurveD : Lib.TabIs Tryd.prog W "chronicle/ed.curveD" .u64 [8496970652267935907, 31536524315187371, 10144147576115030168, 5909686906226998899] := Lib.tabIs_of_head (rest := []) g_curveD t_curveD Tryd.underlying24 Tryd.underlying22 cellsU64 cellsNat h.tail
  obtain ⟨ps, ⟨g, t, cs, fuel, p, q, hg, ht, hvar, hd, _, _⟩, _⟩ := h
  obtain rfl := Option.some.inj (gMod.symm.trans hg)
  obtain rfl := Option.some.inj (tMod.symm.trans ht)
  have hcs := cells_of_table hd
  obtain ⟨l⟩ := cs
  simp only at hcs
  subst hcs
  exact ⟨World.var?_cell hg hvar 0, World.var?_cell hg hvar 1, World.var?_cell hg hvar 2, World.var?_cell hg hvar 3, World.var?_cell hg hvar 4, World.var?_cell hg hvar 5, World.var?_cell hg hvar 6, World.var?_cell hg hvar 7, World.var?_cell hg hvar 8, World.var?_cell hg hvar 9, World.var?_cell hg hvar 10, World.var?_cell hg hvar 11, World.var?_cell hg hvar 12, World.var?_cell hg hvar 13, World.var?_cell hg hvar 14, World.var?_cell hg hvar 15, hcurveD.cell g_curveD 0 (by decide), hcurveD.cell g_curveD 1 (by decide), hcurveD.cell g_curveD 2 (by decide), hcurveD.cell g_curveD 3 (by decide)⟩
theorem tab_of_laidX {W : World} (h : laidMetH Tryd.prog laidX W) : Tab W := by
  rw [MakeChecks.laidMetH_plain _ _ _ (by kernel_rfl)] at h
  have hcurveD : Lib.TabIs Tryd.prog W "chronicle/ed.curveD" .u64 [8496970652267935907, 31536524315187371, 10144147576115030168, 5909686906226998899] := Lib.tabIs_of_head (rest := [("chronicle/ed.rootPower", Rows.laid_chronicle_ed_rootPower), ("chronicle/ed.turn", Rows.laid_chronicle_ed_turn)]) g_curveD t_curveD Tryd.underlying24 Tryd.underlying22 cellsU64 cellsNat h.tail
  obtain ⟨ps, ⟨g, t, cs, fuel, p, q, hg, ht, hvar, hd, _, _⟩, _⟩ := h
  obtain rfl := Option.some.inj (gMod.symm.trans hg)
  obtain rfl := Option.some.inj (tMod.symm.trans ht)
  have hcs := cells_of_table hd
  obtain ⟨l⟩ := cs
  simp only at hcs
  subst hcs
  exact ⟨World.var?_cell hg hvar 0, World.var?_cell hg hvar 1, World.var?_cell hg hvar 2, World.var?_cell hg hvar 3, World.var?_cell hg hvar 4, World.var?_cell hg hvar 5, World.var?_cell hg hvar 6, World.var?_cell hg hvar 7, World.var?_cell hg hvar 8, World.var?_cell hg hvar 9, World.var?_cell hg hvar 10, World.var?_cell hg hvar 11, World.var?_cell hg hvar 12, World.var?_cell hg hvar 13, World.var?_cell hg hvar 14, World.var?_cell hg hvar 15, hcurveD.cell g_curveD 0 (by decide), hcurveD.cell g_curveD 1 (by decide), hcurveD.cell g_curveD 2 (by decide), hcurveD.cell g_curveD 3 (by decide)⟩
theorem tabX_of_laid {W : World} (h : laidMetH Tryd.prog laidX W) : TabX W := by
  rw [MakeChecks.laidMetH_plain _ _ _ (by kernel_rfl)] at h
  have hrootPower : Lib.TabIs Tryd.prog W "chronicle/ed.rootPower" .u64 [18446744073709551614, 18446744073709551615, 18446744073709551615, 1152921504606846975] := Lib.tabIs_of_head (rest := [("chronicle/ed.turn", Rows.laid_chronicle_ed_turn)]) g_rootPower t_rootPower Tryd.underlying24 Tryd.underlying22 cellsU64 cellsNat h.tail.tail
  have hturn : Lib.TabIs Tryd.prog W "chronicle/ed.turn" .u64 [14190309331451158704, 3405592160176694392, 3120150775007532967, 3135389899092516619] := Lib.tabIs_of_head (rest := []) g_turn t_turn Tryd.underlying24 Tryd.underlying22 cellsU64 cellsNat h.tail.tail.tail
  exact ⟨hrootPower.cell g_rootPower 0 (by decide), hrootPower.cell g_rootPower 1 (by decide), hrootPower.cell g_rootPower 2 (by decide), hrootPower.cell g_rootPower 3 (by decide), hturn.cell g_turn 0 (by decide), hturn.cell g_turn 1 (by decide), hturn.cell g_turn 2 (by decide), hturn.cell g_turn 3 (by decide)⟩
/-- The door's own heap meets the condition. -/
theorem door_met (os : Os) (args : Array Value) : laidMetH Tryd.prog laid1 ((World.doorLaid Tryd.prog 200 os).forCall (fun _ _ => 0) ⟨#[], args, []⟩).memory :=
  laidMetH_of_parts3 (fuel := 8) (laidMet_of_run' 8 (by kernel_rfl) (by kernel_rfl)) (by kernel_rfl) (by kernel_rfl)
theorem door_metX (os : Os) (args : Array Value) : laidMetH Tryd.prog laidX ((World.doorLaid Tryd.prog 200 os).forCall (fun _ _ => 0) ⟨#[], args, []⟩).memory :=
  laidMetH_of_parts3 (fuel := 8) (laidMet_of_run' 8 (by kernel_rfl) (by kernel_rfl)) (by kernel_rfl) (by kernel_rfl)
end Go.Proofs.YtolehamdaceikaaDoor
namespace Go.Proofs.YtolehamdaceikaaDoor
open Go.ChangeShapes Go.WideShapes Go.ChangeAt Go.RowKit

theorem cellsPt : Tryd.prog.cellsOf 26 = 9 := by kernel_rfl
theorem cellsBool : Tryd.prog.cellsOf 4 = 1 := by kernel_rfl
theorem list9 {α : Type} (l : List α) (h : (⟨l⟩ : Array α).size = 9) : ∃ x0 x1 x2 x3 x4 x5 x6 x7 x8, l = [x0, x1, x2, x3, x4, x5, x6, x7, x8] := by
  match l, h with
  | [x0, x1, x2, x3, x4, x5, x6, x7, x8], _ => exact ⟨x0, x1, x2, x3, x4, x5, x6, x7, x8, rfl⟩
theorem open_cells {H : Type} {enc : TypeId × Value → H} {W : World} {sp : Nat → Bool} {held : Bool} {fuel : Nat} {c0 c1 c2 c3 : Value} {y : DataW H × List MemPlace}
    (hf : DataW.trod enc Tryd.prog W 0 sp held fuel 24 [c0, c1, c2, c3] = some y) :
    ∃ a, Num a ∧ c0 = .int .u64 (L 0 a) ∧ c1 = .int .u64 (L 1 a) ∧ c2 = .int .u64 (L 2 a) ∧ c3 = .int .u64 (L 3 a) ∧ y = (DataW.agg [.lit (.int .u64 (L 0 a)), .lit (.int .u64 (L 1 a)), .lit (.int .u64 (L 2 a)), .lit (.int .u64 (L 3 a))], []) := by
  obtain ⟨y0, y1, y2, y3, m, hx, hy0, hy1, hy2, hy3⟩ := trod_array4 Tryd.underlying24 cellsU64 hf
  obtain ⟨x0, e0, rfl, w0⟩ := DataW.trod_int Tryd.underlying22 hy0
  obtain ⟨x1, e1, rfl, w1⟩ := DataW.trod_int Tryd.underlying22 hy1
  obtain ⟨x2, e2, rfl, w2⟩ := DataW.trod_int Tryd.underlying22 hy2
  obtain ⟨x3, e3, rfl, w3⟩ := DataW.trod_int Tryd.underlying22 hy3
  simp at e0 e1 e2 e3
  subst e0 e1 e2 e3
  obtain ⟨a, ha, rfl, rfl, rfl, rfl⟩ := num_of x0 x1 x2 x3 (word_of_wf w0) (word_of_wf w1) (word_of_wf w2) (word_of_wf w3)
  exact ⟨a, ha, rfl, rfl, rfl, rfl, by simpa using hx⟩
/-- A point, as data. -/
def ptD {H : Type} (a b : Int) (t : Bool) : DataW H := DataW.agg [DataW.agg [.lit (.int .u64 (L 0 a)), .lit (.int .u64 (L 1 a)), .lit (.int .u64 (L 2 a)), .lit (.int .u64 (L 3 a))], DataW.agg [.lit (.int .u64 (L 0 b)), .lit (.int .u64 (L 1 b)), .lit (.int .u64 (L 2 b)), .lit (.int .u64 (L 3 b))], .lit (.bool t)]
theorem open_point {H : Type} {enc : TypeId × Value → H} {W : World} {base : Nat} {v : Value} {d : DataW H} {p : List MemPlace}
    (hv : Value.okWide Tryd.prog W .any base 26 v) (h : DataW.Trod enc Tryd.prog W 0 (fun _ => true) true 26 v d p) :
    ∃ a b t, Num a ∧ Num b ∧ v = .agg #[.int .u64 (L 0 a), .int .u64 (L 1 a), .int .u64 (L 2 a), .int .u64 (L 3 a), .int .u64 (L 0 b), .int .u64 (L 1 b), .int .u64 (L 2 b), .int .u64 (L 3 b), .bool t] ∧ d = ptD a b t ∧ p = [] := by
  obtain ⟨cs, rfl, hsz, _⟩ : ∃ cs, v = .agg cs ∧ cs.size = Tryd.prog.cellsOf 26 ∧ Row.okWide Tryd.prog W .any base 26 cs := by
    simpa [Value.okWide, Tryd.underlying26] using hv
  rw [cellsPt] at hsz
  obtain ⟨l⟩ := cs
  obtain ⟨x0, x1, x2, x3, x4, x5, x6, x7, x8, rfl⟩ := list9 l hsz
  obtain ⟨fuel, hf⟩ := h
  cases fuel with
  | zero => simp [DataW.trod] at hf
  | succ fuel =>
    simp only [DataW.trod, Value.cells, Tryd.underlying26, cellsPt] at hf
    split at hf
    · simp only [Option.map_eq_some_iff, List.mapM_cons, List.mapM_nil, Option.bind_eq_bind, Option.bind_eq_some_iff, Option.pure_def, Option.some.injEq] at hf
      obtain ⟨ys, ⟨y0, h0, _, ⟨y1, h1, _, ⟨y2, h2, _, rfl, rfl⟩, rfl⟩, rfl⟩, hx⟩ := hf
      obtain ⟨a, ha, rfl, rfl, rfl, rfl, rfl⟩ := open_cells (c0 := x0) (c1 := x1) (c2 := x2) (c3 := x3) h0
      obtain ⟨b, hb, rfl, rfl, rfl, rfl, rfl⟩ := open_cells (c0 := x4) (c1 := x5) (c2 := x6) (c3 := x7) h1
      obtain ⟨t, e, rfl⟩ := DataW.trod_bool Tryd.underlying4 h2
      simp [cellsBool] at e
      subst e
      simp at hx
      obtain ⟨rfl, rfl⟩ := hx
      exact ⟨a, b, t, ha, hb, rfl, rfl, rfl⟩
    · cases hf
theorem shut_point {H : Type} {enc : TypeId × Value → H} (W : World) (sp : Nat → Bool) (a b : Int) (t : Bool) :
    DataW.Trod enc Tryd.prog W 0 sp true 26 (.agg #[.int .u64 (L 0 a), .int .u64 (L 1 a), .int .u64 (L 2 a), .int .u64 (L 3 a), .int .u64 (L 0 b), .int .u64 (L 1 b), .int .u64 (L 2 b), .int .u64 (L 3 b), .bool t]) (ptD a b t) [] := by
  have wa0 := wf_of_word ⟨L_lo 0 a, L_hi 0 a⟩
  have wa1 := wf_of_word ⟨L_lo 1 a, L_hi 1 a⟩
  have wa2 := wf_of_word ⟨L_lo 2 a, L_hi 2 a⟩
  have wa3 := wf_of_word ⟨L_lo 3 a, L_hi 3 a⟩
  have wb0 := wf_of_word ⟨L_lo 0 b, L_hi 0 b⟩
  have wb1 := wf_of_word ⟨L_lo 1 b, L_hi 1 b⟩
  have wb2 := wf_of_word ⟨L_lo 2 b, L_hi 2 b⟩
  have wb3 := wf_of_word ⟨L_lo 3 b, L_hi 3 b⟩
  exact ⟨3, by simp [ptD, DataW.trod, Value.cells, Tryd.underlying26, Tryd.underlying24, Tryd.underlying22, Tryd.underlying4, cellsPt, cellsNat, cellsU64, cellsBool, wa0, wa1, wa2, wa3, wb0, wb1, wb2, wb3, show List.range 4 = [0, 1, 2, 3] from rfl]⟩
end Go.Proofs.YtolehamdaceikaaDoor
