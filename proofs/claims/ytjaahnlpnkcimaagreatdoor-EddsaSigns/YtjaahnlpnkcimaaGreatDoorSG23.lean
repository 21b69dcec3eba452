/- Multiples on the second curve, as the document reckons them; its sum and its multiple are the curve's. Points of the second curve held against each other, and what else the document's own answers. Square roots modulo the second prime, and the points of the second curve by their bytes. The bytes of the number that a point's bytes are. Numbers and their bytes, there and back. What the document's own Encode of layer 9 answers. What the document's own Half answers. Two lists of bytes are the same. What the document's own Same answers, of all lists of bytes. What the document's own Add answers, for all numbers: the same as limb.Add. -/
import Derived.Test.YtjaahnlpnkcimaaGreatDoorSG22
import Derived.Test.YtjaahnlpnkcimaaGreatDoorSG20
import Derived.Test.YtjaahnlpnkcimaaGreatDoorSG04
import Derived.Test.YtjaahnlpnkcimaaGreatDoorSG02
import Derived.Test.YtjaahnlpnkcimaaGreatDoorSG06
import Derived.Deep.LoopGhost
import Derived.Deep.DeepCutAuto
set_option maxRecDepth 100000
set_option maxHeartbeats 4000000
namespace Go.Proofs.YtjaahnlpnkcimaaGreatDoor
set_option maxRecDepth 100000
open Go.RowKit
theorem s_bit {w:World} (k i:Nat) (hi:i<256):Calls Tryz.prog 85 [.agg (nc (k:Int)).toArray,.int .i64 (i:Int)].toArray w fun e w'=>e=.returned (.int .i64 ((k / 2 ^ i % 2:Nat):Int))∧Below w.heap.size w w':=by
 have h:=ref_bit_any (k:Int) (i:Int) w
 have e:bt (k:Int) (i:Int)=((k / 2 ^ i % 2:Nat):Int):=by
  unfold bt
  rw [if_pos (by omega),Int.toNat_natCast,Int.natCast_emod,Int.natCast_ediv,Int.natCast_pow]
  rfl
 rw [e] at h
 exact h
theorem s_lift_o {w:World} (hT:Tab w):Calls Tryz.prog 42 [.agg (pcE (Ep.o m2)).toArray].toArray w fun e w'=>e=.returned (.agg (fjc (flift (Ep.o m2))).toArray)∧Below w.heap.size w w':=s_lift_on hT (Ep.o_on ed)
theorem s_mult {w:World} (hT:Tab w) (k:Nat) (x y z:Fin m2):Calls Tryz.prog 41 [.agg (nc ((k:Int))).toArray,.agg (gc (x)++gc (y)++gc (z)).toArray].toArray w fun e w'=>e=.returned (.agg (fjc (fm k ⟨x,y,z⟩ 256).1).toArray)∧Below w.heap.size w w':=by
 refine enter (args:=[.agg (nc ((k:Int))).toArray,.agg (gc (x)++gc (y)++gc (z)).toArray]) Tryz.func41 rfl 26 rfl (lk rfl) (fun a h=>?_)
 refine aX h [] [eN 2 _,eN 3 _,eN 4 _] ⟨rfl,rfl,rfl,T0⟩ [(2,.ptr 2 0),(3,.ptr 3 0),(4,.ptr 4 0)] [(2,nc ((k:Int))),(3,gc (x)++gc (y)++gc (z)),(4,nz++nz++nz)] (fun a w h=>?_)
 refine aX h [0,1] [eS 8 _,eS 9 _,eN 5 _,eM 5 _] ⟨fun L u=>u_call u (gd0 rfl) _ rfl _ _ _ rfl [] rfl (cE39 _) _ (fun w hb=>s_None),fun L u=>u_call u (gd0 rfl) _ rfl _ _ _ rfl [_] rfl (cE42 _) _ (fun w hb=>s_lift_o (hT.keep (Bs.kp_of hb))),rfl,rfl,T0⟩ [(2,_),(3,_),(4,_),(5,.ptr 5 0)] [(2,_),(3,_),(4,_),(5,gc ((flift (Ep.o m2)).x)++gc ((flift (Ep.o m2)).y)++gc ((flift (Ep.o m2)).z))] (fun a w h=>?_)
 refine aX h [] [eS 6 _] ⟨rfl,T0⟩ [(2,_),(3,_),(4,_),(5,_),(6,.val (Value.bool false))] [(2,_),(3,_),(4,_),(5,_)] (fun a w h=>?_)
 refine wp_seq ?_
 refine aX h [] [eS 7 _] ⟨rfl,T0⟩ [(2,_),(3,_),(4,_),(5,_),(6,_),(7,.val ((Value.int IntKind.i64 255)))] [(2,_),(3,_),(4,_),(5,_)] (fun a w h=>?_)
 refine wp_block ?_
 refine go_loop (fun (j:Nat)=>SS.mk' [(2,.ptr 2 0),(3,.ptr 3 0),(4,.ptr 4 0),(5,.ptr 5 0),(6,.val (Value.bool ((fm k ⟨x,y,z⟩ (j)).2))),(7,.val (Value.int .i64 (255-((j:Nat):Int))))] [(2,nc ((k:Int))),(3,gc (x)++gc (y)++gc (z)),(4,nz++nz++nz),(5,gc (((fm k ⟨x,y,z⟩ (j)).1).x)++gc (((fm k ⟨x,y,z⟩ (j)).1).y)++gc (((fm k ⟨x,y,z⟩ (j)).1).z))]) (fun j=>j≤256) (fun j=>256-j) (i:=0) (h.keep [(2,.ptr 2 0),(3,.ptr 3 0),(4,.ptr 4 0),(5,.ptr 5 0),(6,.val (Value.bool ((fm k ⟨x,y,z⟩ (0)).2))),(7,.val (Value.int .i64 (255-((0:Nat):Int))))] [(2,nc ((k:Int))),(3,gc (x)++gc (y)++gc (z)),(4,nz++nz++nz),(5,gc (((fm k ⟨x,y,z⟩ (0)).1).x)++gc (((fm k ⟨x,y,z⟩ (0)).1).y)++gc (((fm k ⟨x,y,z⟩ (0)).1).z))] ⟨rfl,rfl,rfl,rfl,rfl,rfl,T0⟩ ⟨rfl,rfl,rfl,rfl,T0⟩ rfl) (Nat.zero_le _) (fun j a w hG h=>?_)
 by_cases hs:j<256
 ·skip
  by_cases hg:(fm k ⟨x,y,z⟩ j).2=true
  ·skip
   by_cases hb:k / 2 ^ (255-j) % 2=1
   ·skip
    rw [hg] at h
    refine wp_seq ?_
    refine aX h [1] [eS 10 _,eS 11 (.val (Value.bool true))] ⟨rfl,fun L u=>u_bin u (gd0 rfl) _ rfl _ _ _ _ _ rfl rfl rfl (eqg_int _ _ _ _ _ _ _ _) _ (yes_of (fun w=>i_geq _ _ _ _ w) (by omega)),T0⟩ [(2,_),(3,_),(4,_),(5,_),(6,_),(7,_),(11,.val (Value.bool true))] [(2,_),(3,_),(4,_),(5,_)] (fun a w h=>?_)
    refine go_cond h true rfl (fun ht=>?_) (fun hf=>?_)
    case refine_2=>cases hf
    refine wp_skip ?_
    refine then_norm ?_
    refine wp_seq ?_
    refine wp_block ?_
    refine wp_seq ?_
    refine aX h [] [eS 14 _] ⟨rfl,T0⟩ [(2,_),(3,_),(4,_),(5,_),(6,_),(7,_),(14,.val (Value.bool true))] [(2,_),(3,_),(4,_),(5,_)] (fun a w h=>?_)
    refine go_cond h true rfl (fun ht=>?_) (fun hf=>?_)
    case refine_2=>cases hf
    refine aE h [2] [eS 15 _,eS 16 _,eS 17 _,eM 5 _] ⟨rfl,rfl,fun L u=>u_call u (gd0 rfl) _ rfl _ _ _ rfl [_,_] rfl (cE78 _) _ (fun w hb=>s_plus (hT.keep (Bs.kp_of hb)) _ _ _ _ _ _),rfl,T0⟩ [(2,_),(3,_),(4,_),(5,_),(6,_),(7,_)] [(2,_),(3,_),(4,_),(5,gc ((fadd ⟨((fm k ⟨x,y,z⟩ (j)).1).x,((fm k ⟨x,y,z⟩ (j)).1).y,((fm k ⟨x,y,z⟩ (j)).1).z⟩ ⟨((fm k ⟨x,y,z⟩ (j)).1).x,((fm k ⟨x,y,z⟩ (j)).1).y,((fm k ⟨x,y,z⟩ (j)).1).z⟩).x)++gc ((fadd ⟨((fm k ⟨x,y,z⟩ (j)).1).x,((fm k ⟨x,y,z⟩ (j)).1).y,((fm k ⟨x,y,z⟩ (j)).1).z⟩ ⟨((fm k ⟨x,y,z⟩ (j)).1).x,((fm k ⟨x,y,z⟩ (j)).1).y,((fm k ⟨x,y,z⟩ (j)).1).z⟩).y)++gc ((fadd ⟨((fm k ⟨x,y,z⟩ (j)).1).x,((fm k ⟨x,y,z⟩ (j)).1).y,((fm k ⟨x,y,z⟩ (j)).1).z⟩ ⟨((fm k ⟨x,y,z⟩ (j)).1).x,((fm k ⟨x,y,z⟩ (j)).1).y,((fm k ⟨x,y,z⟩ (j)).1).z⟩).z))] (fun a w h=>?_)
    refine then_norm ?_
    refine aX h [2,3] [eS 18 _,eS 19 _,eS 20 (.val (Value.int .i64 ((k / 2 ^ (255-j) % 2:Nat):Int))),eS 21 (.val (Value.bool true))] ⟨rfl,rfl,fun L u=>u_call u (gd0 rfl) _ rfl _ _ _ rfl [_,_] rfl (cE85 _) (Value.int .i64 ((k / 2 ^ (255-j) % 2:Nat):Int)) (fun w hb=>by have:=s_bit (w:=w) k (255-j) (by omega);rw [show (((255-j:Nat)):Int)=255-(j:Int) by omega] at this;exact this),fun L u=>u_bin u (gd0 rfl) _ rfl _ _ _ _ _ rfl rfl rfl (eqg_int _ _ _ _ _ _ _ _) _ (yes_of (fun w=>i_eql _ _ _ _ w) (by omega)),T0⟩ [(2,_),(3,_),(4,_),(5,_),(6,_),(7,_),(21,.val (Value.bool true))] [(2,_),(3,_),(4,_),(5,_)] (fun a w h=>?_)
    refine go_cond h true rfl (fun ht=>?_) (fun hf=>?_)
    case refine_2=>cases hf
    refine aX h [2] [eS 22 _,eS 23 _,eS 24 _,eM 5 _] ⟨rfl,rfl,fun L u=>u_call u (gd0 rfl) _ rfl _ _ _ rfl [_,_] rfl (cE78 _) _ (fun w hb=>s_plus (hT.keep (Bs.kp_of hb)) _ _ _ _ _ _),rfl,T0⟩ [(2,_),(3,_),(4,_),(5,_),(7,_)] [(2,_),(3,_),(4,_),(5,gc ((fadd ⟨(fadd ⟨((fm k ⟨x,y,z⟩ (j)).1).x,((fm k ⟨x,y,z⟩ (j)).1).y,((fm k ⟨x,y,z⟩ (j)).1).z⟩ ⟨((fm k ⟨x,y,z⟩ (j)).1).x,((fm k ⟨x,y,z⟩ (j)).1).y,((fm k ⟨x,y,z⟩ (j)).1).z⟩).x,(fadd ⟨((fm k ⟨x,y,z⟩ (j)).1).x,((fm k ⟨x,y,z⟩ (j)).1).y,((fm k ⟨x,y,z⟩ (j)).1).z⟩ ⟨((fm k ⟨x,y,z⟩ (j)).1).x,((fm k ⟨x,y,z⟩ (j)).1).y,((fm k ⟨x,y,z⟩ (j)).1).z⟩).y,(fadd ⟨((fm k ⟨x,y,z⟩ (j)).1).x,((fm k ⟨x,y,z⟩ (j)).1).y,((fm k ⟨x,y,z⟩ (j)).1).z⟩ ⟨((fm k ⟨x,y,z⟩ (j)).1).x,((fm k ⟨x,y,z⟩ (j)).1).y,((fm k ⟨x,y,z⟩ (j)).1).z⟩).z⟩ ⟨x,y,z⟩).x)++gc ((fadd ⟨(fadd ⟨((fm k ⟨x,y,z⟩ (j)).1).x,((fm k ⟨x,y,z⟩ (j)).1).y,((fm k ⟨x,y,z⟩ (j)).1).z⟩ ⟨((fm k ⟨x,y,z⟩ (j)).1).x,((fm k ⟨x,y,z⟩ (j)).1).y,((fm k ⟨x,y,z⟩ (j)).1).z⟩).x,(fadd ⟨((fm k ⟨x,y,z⟩ (j)).1).x,((fm k ⟨x,y,z⟩ (j)).1).y,((fm k ⟨x,y,z⟩ (j)).1).z⟩ ⟨((fm k ⟨x,y,z⟩ (j)).1).x,((fm k ⟨x,y,z⟩ (j)).1).y,((fm k ⟨x,y,z⟩ (j)).1).z⟩).y,(fadd ⟨((fm k ⟨x,y,z⟩ (j)).1).x,((fm k ⟨x,y,z⟩ (j)).1).y,((fm k ⟨x,y,z⟩ (j)).1).z⟩ ⟨((fm k ⟨x,y,z⟩ (j)).1).x,((fm k ⟨x,y,z⟩ (j)).1).y,((fm k ⟨x,y,z⟩ (j)).1).z⟩).z⟩ ⟨x,y,z⟩).y)++gc ((fadd ⟨(fadd ⟨((fm k ⟨x,y,z⟩ (j)).1).x,((fm k ⟨x,y,z⟩ (j)).1).y,((fm k ⟨x,y,z⟩ (j)).1).z⟩ ⟨((fm k ⟨x,y,z⟩ (j)).1).x,((fm k ⟨x,y,z⟩ (j)).1).y,((fm k ⟨x,y,z⟩ (j)).1).z⟩).x,(fadd ⟨((fm k ⟨x,y,z⟩ (j)).1).x,((fm k ⟨x,y,z⟩ (j)).1).y,((fm k ⟨x,y,z⟩ (j)).1).z⟩ ⟨((fm k ⟨x,y,z⟩ (j)).1).x,((fm k ⟨x,y,z⟩ (j)).1).y,((fm k ⟨x,y,z⟩ (j)).1).z⟩).y,(fadd ⟨((fm k ⟨x,y,z⟩ (j)).1).x,((fm k ⟨x,y,z⟩ (j)).1).y,((fm k ⟨x,y,z⟩ (j)).1).z⟩ ⟨((fm k ⟨x,y,z⟩ (j)).1).x,((fm k ⟨x,y,z⟩ (j)).1).y,((fm k ⟨x,y,z⟩ (j)).1).z⟩).z⟩ ⟨x,y,z⟩).z))] (fun a w h=>?_)
    refine aE h [] [eS 6 _] ⟨rfl,T0⟩ [(2,_),(3,_),(4,_),(5,_),(6,.val (Value.bool true)),(7,_)] [(2,_),(3,_),(4,_),(5,_)] (fun a w h=>?_)
    refine blk_norm ?_
    refine then_norm ?_
    refine aE h [1] [eS 12 _,eS 13 (.val (Value.int .i64 (255-((j+1:Nat):Int)))),eS 7 _] ⟨rfl,fun L u=>u_bin u (gd0 rfl) _ rfl _ _ _ _ _ rfl rfl rfl (eqg_int _ _ _ _ _ _ _ _) _ (fun w=>i_sub _ _ _ _ (by omega) (by omega) w),rfl,T0⟩ [(2,_),(3,_),(4,_),(5,_),(6,_),(7,.val (Value.int .i64 (255-((j+1:Nat):Int))))] [(2,_),(3,_),(4,_),(5,_)] (fun a w h=>?_)
    refine then_norm ?_
    exact ⟨j+1,(by omega),(by omega),h.keep [(2,.ptr 2 0),(3,.ptr 3 0),(4,.ptr 4 0),(5,.ptr 5 0),(6,.val (Value.bool ((fm k ⟨x,y,z⟩ (j+1)).2))),(7,.val (Value.int .i64 (255-((j+1:Nat):Int))))] [(2,nc ((k:Int))),(3,gc (x)++gc (y)++gc (z)),(4,nz++nz++nz),(5,gc (((fm k ⟨x,y,z⟩ (j+1)).1).x)++gc (((fm k ⟨x,y,z⟩ (j+1)).1).y)++gc (((fm k ⟨x,y,z⟩ (j+1)).1).z))] ⟨rfl,rfl,rfl,rfl,(by rw [fm_succ,if_pos hb];rfl),rfl,trivial⟩ ⟨rfl,rfl,rfl,(by rw [fm_succ,if_pos hb,if_pos hg];rfl),trivial⟩ rfl⟩
   ·skip
    rw [hg] at h
    refine wp_seq ?_
    refine aX h [1] [eS 10 _,eS 11 (.val (Value.bool true))] ⟨rfl,fun L u=>u_bin u (gd0 rfl) _ rfl _ _ _ _ _ rfl rfl rfl (eqg_int _ _ _ _ _ _ _ _) _ (yes_of (fun w=>i_geq _ _ _ _ w) (by omega)),T0⟩ [(2,_),(3,_),(4,_),(5,_),(6,_),(7,_),(11,.val (Value.bool true))] [(2,_),(3,_),(4,_),(5,_)] (fun a w h=>?_)
    refine go_cond h true rfl (fun ht=>?_) (fun hf=>?_)
    case refine_2=>cases hf
    refine wp_skip ?_
    refine then_norm ?_
    refine wp_seq ?_
    refine wp_block ?_
    refine wp_seq ?_
    refine aX h [] [eS 14 _] ⟨rfl,T0⟩ [(2,_),(3,_),(4,_),(5,_),(6,_),(7,_),(14,.val (Value.bool true))] [(2,_),(3,_),(4,_),(5,_)] (fun a w h=>?_)
    refine go_cond h true rfl (fun ht=>?_) (fun hf=>?_)
    case refine_2=>cases hf
    refine aE h [2] [eS 15 _,eS 16 _,eS 17 _,eM 5 _] ⟨rfl,rfl,fun L u=>u_call u (gd0 rfl) _ rfl _ _ _ rfl [_,_] rfl (cE78 _) _ (fun w hb=>s_plus (hT.keep (Bs.kp_of hb)) _ _ _ _ _ _),rfl,T0⟩ [(2,_),(3,_),(4,_),(5,_),(6,_),(7,_)] [(2,_),(3,_),(4,_),(5,gc ((fadd ⟨((fm k ⟨x,y,z⟩ (j)).1).x,((fm k ⟨x,y,z⟩ (j)).1).y,((fm k ⟨x,y,z⟩ (j)).1).z⟩ ⟨((fm k ⟨x,y,z⟩ (j)).1).x,((fm k ⟨x,y,z⟩ (j)).1).y,((fm k ⟨x,y,z⟩ (j)).1).z⟩).x)++gc ((fadd ⟨((fm k ⟨x,y,z⟩ (j)).1).x,((fm k ⟨x,y,z⟩ (j)).1).y,((fm k ⟨x,y,z⟩ (j)).1).z⟩ ⟨((fm k ⟨x,y,z⟩ (j)).1).x,((fm k ⟨x,y,z⟩ (j)).1).y,((fm k ⟨x,y,z⟩ (j)).1).z⟩).y)++gc ((fadd ⟨((fm k ⟨x,y,z⟩ (j)).1).x,((fm k ⟨x,y,z⟩ (j)).1).y,((fm k ⟨x,y,z⟩ (j)).1).z⟩ ⟨((fm k ⟨x,y,z⟩ (j)).1).x,((fm k ⟨x,y,z⟩ (j)).1).y,((fm k ⟨x,y,z⟩ (j)).1).z⟩).z))] (fun a w h=>?_)
    refine then_norm ?_
    refine aX h [2,3] [eS 18 _,eS 19 _,eS 20 (.val (Value.int .i64 ((k / 2 ^ (255-j) % 2:Nat):Int))),eS 21 (.val (Value.bool false))] ⟨rfl,rfl,fun L u=>u_call u (gd0 rfl) _ rfl _ _ _ rfl [_,_] rfl (cE85 _) (Value.int .i64 ((k / 2 ^ (255-j) % 2:Nat):Int)) (fun w hb=>by have:=s_bit (w:=w) k (255-j) (by omega);rw [show (((255-j:Nat)):Int)=255-(j:Int) by omega] at this;exact this),fun L u=>u_bin u (gd0 rfl) _ rfl _ _ _ _ _ rfl rfl rfl (eqg_int _ _ _ _ _ _ _ _) _ (no_of (fun w=>i_eql _ _ _ _ w) (by omega)),T0⟩ [(2,_),(3,_),(4,_),(5,_),(6,_),(7,_),(21,.val (Value.bool false))] [(2,_),(3,_),(4,_),(5,_)] (fun a w h=>?_)
    refine go_cond h false rfl (fun ht=>?_) (fun hf=>?_)
    case refine_1=>cases ht
    refine wp_skip ?_
    refine blk_norm ?_
    refine then_norm ?_
    refine aE h [1] [eS 12 _,eS 13 (.val (Value.int .i64 (255-((j+1:Nat):Int)))),eS 7 _] ⟨rfl,fun L u=>u_bin u (gd0 rfl) _ rfl _ _ _ _ _ rfl rfl rfl (eqg_int _ _ _ _ _ _ _ _) _ (fun w=>i_sub _ _ _ _ (by omega) (by omega) w),rfl,T0⟩ [(2,_),(3,_),(4,_),(5,_),(6,_),(7,.val (Value.int .i64 (255-((j+1:Nat):Int))))] [(2,_),(3,_),(4,_),(5,_)] (fun a w h=>?_)
    refine then_norm ?_
    exact ⟨j+1,(by omega),(by omega),h.keep [(2,.ptr 2 0),(3,.ptr 3 0),(4,.ptr 4 0),(5,.ptr 5 0),(6,.val (Value.bool ((fm k ⟨x,y,z⟩ (j+1)).2))),(7,.val (Value.int .i64 (255-((j+1:Nat):Int))))] [(2,nc ((k:Int))),(3,gc (x)++gc (y)++gc (z)),(4,nz++nz++nz),(5,gc (((fm k ⟨x,y,z⟩ (j+1)).1).x)++gc (((fm k ⟨x,y,z⟩ (j+1)).1).y)++gc (((fm k ⟨x,y,z⟩ (j+1)).1).z))] ⟨rfl,rfl,rfl,rfl,(by rw [fm_succ,if_neg hb];exact congrArg (fun t=>some (SV.val (Value.bool t))) hg.symm),rfl,trivial⟩ ⟨rfl,rfl,rfl,(by rw [fm_succ,if_neg hb,if_pos hg];rfl),trivial⟩ rfl⟩
  ·skip
   by_cases hb:k / 2 ^ (255-j) % 2=1
   ·skip
    rw [Bool.not_eq_true] at hg
    rw [hg] at h
    refine wp_seq ?_
    refine aX h [1] [eS 10 _,eS 11 (.val (Value.bool true))] ⟨rfl,fun L u=>u_bin u (gd0 rfl) _ rfl _ _ _ _ _ rfl rfl rfl (eqg_int _ _ _ _ _ _ _ _) _ (yes_of (fun w=>i_geq _ _ _ _ w) (by omega)),T0⟩ [(2,_),(3,_),(4,_),(5,_),(6,_),(7,_),(11,.val (Value.bool true))] [(2,_),(3,_),(4,_),(5,_)] (fun a w h=>?_)
    refine go_cond h true rfl (fun ht=>?_) (fun hf=>?_)
    case refine_2=>cases hf
    refine wp_skip ?_
    refine then_norm ?_
    refine wp_seq ?_
    refine wp_block ?_
    refine wp_seq ?_
    refine aX h [] [eS 14 _] ⟨rfl,T0⟩ [(2,_),(3,_),(4,_),(5,_),(6,_),(7,_),(14,.val (Value.bool false))] [(2,_),(3,_),(4,_),(5,_)] (fun a w h=>?_)
    refine go_cond h false rfl (fun ht=>?_) (fun hf=>?_)
    case refine_1=>cases ht
    refine wp_skip ?_
    refine then_norm ?_
    refine aX h [2,3] [eS 18 _,eS 19 _,eS 20 (.val (Value.int .i64 ((k / 2 ^ (255-j) % 2:Nat):Int))),eS 21 (.val (Value.bool true))] ⟨rfl,rfl,fun L u=>u_call u (gd0 rfl) _ rfl _ _ _ rfl [_,_] rfl (cE85 _) (Value.int .i64 ((k / 2 ^ (255-j) % 2:Nat):Int)) (fun w hb=>by have:=s_bit (w:=w) k (255-j) (by omega);rw [show (((255-j:Nat)):Int)=255-(j:Int) by omega] at this;exact this),fun L u=>u_bin u (gd0 rfl) _ rfl _ _ _ _ _ rfl rfl rfl (eqg_int _ _ _ _ _ _ _ _) _ (yes_of (fun w=>i_eql _ _ _ _ w) (by omega)),T0⟩ [(2,_),(3,_),(4,_),(5,_),(6,_),(7,_),(21,.val (Value.bool true))] [(2,_),(3,_),(4,_),(5,_)] (fun a w h=>?_)
    refine go_cond h true rfl (fun ht=>?_) (fun hf=>?_)
    case refine_2=>cases hf
    refine aX h [2] [eS 22 _,eS 23 _,eS 24 _,eM 5 _] ⟨rfl,rfl,fun L u=>u_call u (gd0 rfl) _ rfl _ _ _ rfl [_,_] rfl (cE78 _) _ (fun w hb=>s_plus (hT.keep (Bs.kp_of hb)) _ _ _ _ _ _),rfl,T0⟩ [(2,_),(3,_),(4,_),(5,_),(7,_)] [(2,_),(3,_),(4,_),(5,gc ((fadd ⟨((fm k ⟨x,y,z⟩ (j)).1).x,((fm k ⟨x,y,z⟩ (j)).1).y,((fm k ⟨x,y,z⟩ (j)).1).z⟩ ⟨x,y,z⟩).x)++gc ((fadd ⟨((fm k ⟨x,y,z⟩ (j)).1).x,((fm k ⟨x,y,z⟩ (j)).1).y,((fm k ⟨x,y,z⟩ (j)).1).z⟩ ⟨x,y,z⟩).y)++gc ((fadd ⟨((fm k ⟨x,y,z⟩ (j)).1).x,((fm k ⟨x,y,z⟩ (j)).1).y,((fm k ⟨x,y,z⟩ (j)).1).z⟩ ⟨x,y,z⟩).z))] (fun a w h=>?_)
    refine aE h [] [eS 6 _] ⟨rfl,T0⟩ [(2,_),(3,_),(4,_),(5,_),(6,.val (Value.bool true)),(7,_)] [(2,_),(3,_),(4,_),(5,_)] (fun a w h=>?_)
    refine blk_norm ?_
    refine then_norm ?_
    refine aE h [1] [eS 12 _,eS 13 (.val (Value.int .i64 (255-((j+1:Nat):Int)))),eS 7 _] ⟨rfl,fun L u=>u_bin u (gd0 rfl) _ rfl _ _ _ _ _ rfl rfl rfl (eqg_int _ _ _ _ _ _ _ _) _ (fun w=>i_sub _ _ _ _ (by omega) (by omega) w),rfl,T0⟩ [(2,_),(3,_),(4,_),(5,_),(6,_),(7,.val (Value.int .i64 (255-((j+1:Nat):Int))))] [(2,_),(3,_),(4,_),(5,_)] (fun a w h=>?_)
    refine then_norm ?_
    exact ⟨j+1,(by omega),(by omega),h.keep [(2,.ptr 2 0),(3,.ptr 3 0),(4,.ptr 4 0),(5,.ptr 5 0),(6,.val (Value.bool ((fm k ⟨x,y,z⟩ (j+1)).2))),(7,.val (Value.int .i64 (255-((j+1:Nat):Int))))] [(2,nc ((k:Int))),(3,gc (x)++gc (y)++gc (z)),(4,nz++nz++nz),(5,gc (((fm k ⟨x,y,z⟩ (j+1)).1).x)++gc (((fm k ⟨x,y,z⟩ (j+1)).1).y)++gc (((fm k ⟨x,y,z⟩ (j+1)).1).z))] ⟨rfl,rfl,rfl,rfl,(by rw [fm_succ,if_pos hb];rfl),rfl,trivial⟩ ⟨rfl,rfl,rfl,(by rw [fm_succ,if_pos hb,if_neg (by rw [hg];decide)];rfl),trivial⟩ rfl⟩
   ·skip
    rw [Bool.not_eq_true] at hg
    rw [hg] at h
    refine wp_seq ?_
    refine aX h [1] [eS 10 _,eS 11 (.val (Value.bool true))] ⟨rfl,fun L u=>u_bin u (gd0 rfl) _ rfl _ _ _ _ _ rfl rfl rfl (eqg_int _ _ _ _ _ _ _ _) _ (yes_of (fun w=>i_geq _ _ _ _ w) (by omega)),T0⟩ [(2,_),(3,_),(4,_),(5,_),(6,_),(7,_),(11,.val (Value.bool true))] [(2,_),(3,_),(4,_),(5,_)] (fun a w h=>?_)
    refine go_cond h true rfl (fun ht=>?_) (fun hf=>?_)
    case refine_2=>cases hf
    refine wp_skip ?_
    refine then_norm ?_
    refine wp_seq ?_
    refine wp_block ?_
    refine wp_seq ?_
    refine aX h [] [eS 14 _] ⟨rfl,T0⟩ [(2,_),(3,_),(4,_),(5,_),(6,_),(7,_),(14,.val (Value.bool false))] [(2,_),(3,_),(4,_),(5,_)] (fun a w h=>?_)
    refine go_cond h false rfl (fun ht=>?_) (fun hf=>?_)
    case refine_1=>cases ht
    refine wp_skip ?_
    refine then_norm ?_
    refine aX h [2,3] [eS 18 _,eS 19 _,eS 20 (.val (Value.int .i64 ((k / 2 ^ (255-j) % 2:Nat):Int))),eS 21 (.val (Value.bool false))] ⟨rfl,rfl,fun L u=>u_call u (gd0 rfl) _ rfl _ _ _ rfl [_,_] rfl (cE85 _) (Value.int .i64 ((k / 2 ^ (255-j) % 2:Nat):Int)) (fun w hb=>by have:=s_bit (w:=w) k (255-j) (by omega);rw [show (((255-j:Nat)):Int)=255-(j:Int) by omega] at this;exact this),fun L u=>u_bin u (gd0 rfl) _ rfl _ _ _ _ _ rfl rfl rfl (eqg_int _ _ _ _ _ _ _ _) _ (no_of (fun w=>i_eql _ _ _ _ w) (by omega)),T0⟩ [(2,_),(3,_),(4,_),(5,_),(6,_),(7,_),(21,.val (Value.bool false))] [(2,_),(3,_),(4,_),(5,_)] (fun a w h=>?_)
    refine go_cond h false rfl (fun ht=>?_) (fun hf=>?_)
    case refine_1=>cases ht
    refine wp_skip ?_
    refine blk_norm ?_
    refine then_norm ?_
    refine aE h [1] [eS 12 _,eS 13 (.val (Value.int .i64 (255-((j+1:Nat):Int)))),eS 7 _] ⟨rfl,fun L u=>u_bin u (gd0 rfl) _ rfl _ _ _ _ _ rfl rfl rfl (eqg_int _ _ _ _ _ _ _ _) _ (fun w=>i_sub _ _ _ _ (by omega) (by omega) w),rfl,T0⟩ [(2,_),(3,_),(4,_),(5,_),(6,_),(7,.val (Value.int .i64 (255-((j+1:Nat):Int))))] [(2,_),(3,_),(4,_),(5,_)] (fun a w h=>?_)
    refine then_norm ?_
    exact ⟨j+1,(by omega),(by omega),h.keep [(2,.ptr 2 0),(3,.ptr 3 0),(4,.ptr 4 0),(5,.ptr 5 0),(6,.val (Value.bool ((fm k ⟨x,y,z⟩ (j+1)).2))),(7,.val (Value.int .i64 (255-((j+1:Nat):Int))))] [(2,nc ((k:Int))),(3,gc (x)++gc (y)++gc (z)),(4,nz++nz++nz),(5,gc (((fm k ⟨x,y,z⟩ (j+1)).1).x)++gc (((fm k ⟨x,y,z⟩ (j+1)).1).y)++gc (((fm k ⟨x,y,z⟩ (j+1)).1).z))] ⟨rfl,rfl,rfl,rfl,(by rw [fm_succ,if_neg hb];exact congrArg (fun t=>some (SV.val (Value.bool t))) hg.symm),rfl,trivial⟩ ⟨rfl,rfl,rfl,(by rw [fm_succ,if_neg hb,if_neg (by rw [hg];decide)];rfl),trivial⟩ rfl⟩
 ·skip
  refine wp_seq ?_
  refine aX h [1] [eS 10 _,eS 11 (.val (Value.bool false))] ⟨rfl,fun L u=>u_bin u (gd0 rfl) _ rfl _ _ _ _ _ rfl rfl rfl (eqg_int _ _ _ _ _ _ _ _) _ (no_of (fun w=>i_geq _ _ _ _ w) (by omega)),T0⟩ [(2,_),(3,_),(4,_),(5,_),(6,_),(7,_),(11,.val (Value.bool false))] [(2,_),(3,_),(4,_),(5,_)] (fun a w h=>?_)
  refine go_cond h false rfl (fun ht=>?_) (fun hf=>?_)
  case refine_1=>cases ht
  refine wp_exit ?_
  refine then_exit ?_
  refine then_exit ?_
  refine blk_exit ?_
  refine then_norm ?_
  refine aX h [] [eS 25 _,eM 4 _] ⟨rfl,rfl,T0⟩ [(4,_)] [(4,gc (((fm k ⟨x,y,z⟩ (j)).1).x)++gc (((fm k ⟨x,y,z⟩ (j)).1).y)++gc (((fm k ⟨x,y,z⟩ (j)).1).z))] (fun a w h=>?_)
  refine wp_ret ?_
  refine ret_row h 4 58 rfl (lk rfl) 4 rfl (gc (((fm k ⟨x,y,z⟩ (j)).1).x)++gc (((fm k ⟨x,y,z⟩ (j)).1).y)++gc (((fm k ⟨x,y,z⟩ (j)).1).z)) rfl _ Tryz.underlying58 rfl i58 ?_
  exact ⟨by rw [show j=256 by omega];rfl,h.grows⟩
def rpE (X Y:Int) (t:Bool):Ep m2:=if t=false∧X<md 2∧Y<md 2∧(kc Y:Fin m2)*kc Y-kc X*kc X=1+ed*(kc X*kc X*(kc Y*kc Y)) then ⟨kc X,kc Y⟩ else Ep.o m2
theorem rpE_on (X Y:Int) (t:Bool):(rpE X Y t).on ed:=by
 unfold rpE
 split
 ·rename_i h;exact h.2.2.2
 ·exact Ep.o_on ed
theorem nc_gc {X:Int} (h0:0≤X) (h:X<md 2):nc X=gc (kc X):=by
 rw [gc,kc_val,← md_m2,Int.emod_eq_of_lt h0 h]
def rc (X Y:Int) (t:Bool):List Value:=nc X++nc Y++[Value.bool t]
theorem s_lift {w:World} (hT:Tab w) {X Y:Int} (hX:Num X) (hY:Num Y) (t:Bool):Calls Tryz.prog 42 [.agg (rc X Y t).toArray].toArray w fun e w'=>e=.returned (.agg (fjc (flift (rpE X Y t))).toArray)∧Below w.heap.size w w':=by
 cases t with
 | true =>
  rw [show rpE X Y true=Ep.o m2 from if_neg (fun h=>by cases h.1)]
  exact s_lift_none
 | false =>
  by_cases h1:X<md 2
  ·by_cases h2:Y<md 2
   ·have e1:=nc_gc hX.lo h1
    have e2:=nc_gc hY.lo h2
    rw [rc,e1,e2]
    by_cases h3:(kc Y:Fin m2)*kc Y-kc X*kc X=1+ed*(kc X*kc X*(kc Y*kc Y))
    ·rw [show rpE X Y false=⟨kc X,kc Y⟩ from if_pos ⟨rfl,h1,h2,h3⟩]
     exact s_lift_on hT h3
    ·rw [show rpE X Y false=Ep.o m2 from if_neg (fun h=>h3 h.2.2.2)]
     exact s_lift_off hT h3
   ·rw [show rpE X Y false=Ep.o m2 from if_neg (fun h=>h2 h.2.2.1)]
    exact s_lift_y hX (decide_eq_true h1) hY (decide_eq_false h2)
  ·rw [show rpE X Y false=Ep.o m2 from if_neg (fun h=>h1 h.2.1)]
   exact s_lift_x hX (decide_eq_false h1)
theorem s_Mul0 {w:World} (hT:Tab w) (k:Nat) {X Y:Int} (hX:Num X) (hY:Num Y) (t:Bool):Calls Tryz.prog 17 [.agg (nc ((k:Int))).toArray,.agg (rc X Y t).toArray].toArray w fun e w'=>e=.returned (.agg (pcE (fdrop (fm k (flift (rpE X Y t)) 256).1)).toArray)∧Below w.heap.size w w':=by
 refine enter (args:=[.agg (nc ((k:Int))).toArray,.agg (rc X Y t).toArray]) Tryz.func17 rfl 10 rfl (lk rfl) (fun a h=>?_)
 refine aX h [] [eN 2 _,eN 3 _,eN 4 _] ⟨rfl,rfl,rfl,T0⟩ [(2,.ptr 2 0),(3,.ptr 3 0),(4,.ptr 4 0)] [(2,nc ((k:Int))),(3,rc X Y t),(4,nz++nz++[Value.bool false])] (fun a w h=>?_)
 refine aX h [2,3,4] [eS 5 _,eS 6 _,eS 7 _,eS 8 _,eS 9 _,eM 4 _] ⟨rfl,rfl,fun L u=>u_call u (gd0 rfl) _ rfl _ _ _ rfl [_] rfl (cE42 _) _ (fun w hb=>s_lift (hT.keep (Bs.kp_of hb)) hX hY t),fun L u=>u_call u (gd0 rfl) _ rfl _ _ _ rfl [_,_] rfl (cE41 _) _ (fun w hb=>s_mult (hT.keep (Bs.kp_of hb)) _ _ _ _),fun L u=>u_call u (gd0 rfl) _ rfl _ _ _ rfl [_] rfl (cE40 _) _ (fun w hb=>s_drop (hT.keep (Bs.kp_of hb)) _ _ _),rfl,T0⟩ [(4,_)] [(4,pcE (fdrop ⟨((fm k ⟨(flift (rpE X Y t)).x,(flift (rpE X Y t)).y,(flift (rpE X Y t)).z⟩ 256).1).x,((fm k ⟨(flift (rpE X Y t)).x,(flift (rpE X Y t)).y,(flift (rpE X Y t)).z⟩ 256).1).y,((fm k ⟨(flift (rpE X Y t)).x,(flift (rpE X Y t)).y,(flift (rpE X Y t)).z⟩ 256).1).z⟩))] (fun a w h=>?_)
 refine wp_ret ?_
 refine ret_row h 4 40 rfl (lk rfl) 4 rfl (pcE (fdrop ⟨((fm k ⟨(flift (rpE X Y t)).x,(flift (rpE X Y t)).y,(flift (rpE X Y t)).z⟩ 256).1).x,((fm k ⟨(flift (rpE X Y t)).x,(flift (rpE X Y t)).y,(flift (rpE X Y t)).z⟩ 256).1).y,((fm k ⟨(flift (rpE X Y t)).x,(flift (rpE X Y t)).y,(flift (rpE X Y t)).z⟩ 256).1).z⟩)) rfl _ Tryz.underlying40 rfl i40 ?_
 exact ⟨rfl,h.grows⟩
theorem pcE_G:pcE eG=[Value.int .u64 14507833142362363162]++[Value.int .u64 7578651490590762930]++[Value.int .u64 13881468655802702940]++[Value.int .u64 2407515759118799870]++[Value.int .u64 7378697629483820632]++[Value.int .u64 7378697629483820646]++[Value.int .u64 7378697629483820646]++[Value.int .u64 7378697629483820646]++[Value.bool false]:=by kernel_rfl
theorem s_Base {w:World} :Calls Tryz.prog 18 [].toArray w fun e w'=>e=.returned (.agg (pcE eG).toArray)∧Below w.heap.size w w':=by
 refine enter (args:=[]) Tryz.func18 rfl 4 rfl (lk rfl) (fun a h=>?_)
 refine aX h [] [eN 0 _] ⟨rfl,T0⟩ [(0,.ptr 0 0)] [(0,nz++nz++[Value.bool false])] (fun a w h=>?_)
 refine aX h [0,1,2] [eS 1 (.val (.agg ([(Value.int IntKind.u64 14507833142362363162)]++[(Value.int IntKind.u64 7578651490590762930)]++[(Value.int IntKind.u64 13881468655802702940)]++[(Value.int IntKind.u64 2407515759118799870)]).toArray)),eS 2 (.val (.agg ([(Value.int IntKind.u64 7378697629483820632)]++[(Value.int IntKind.u64 7378697629483820646)]++[(Value.int IntKind.u64 7378697629483820646)]++[(Value.int IntKind.u64 7378697629483820646)]).toArray)),eS 3 (.val (.agg ([(Value.int IntKind.u64 14507833142362363162)]++[(Value.int IntKind.u64 7578651490590762930)]++[(Value.int IntKind.u64 13881468655802702940)]++[(Value.int IntKind.u64 2407515759118799870)]++[(Value.int IntKind.u64 7378697629483820632)]++[(Value.int IntKind.u64 7378697629483820646)]++[(Value.int IntKind.u64 7378697629483820646)]++[(Value.int IntKind.u64 7378697629483820646)]++[Value.bool false]).toArray)),eM 0 _] ⟨fun L u=>u_build u (gd0 rfl) 1 rfl 34 #[(0,(.const (.int .u64 14507833142362363162))),(1,(.const (.int .u64 7578651490590762930))),(2,(.const (.int .u64 13881468655802702940))),(3,(.const (.int .u64 2407515759118799870)))] rfl [(0,(Value.int IntKind.u64 14507833142362363162)),(1,(Value.int IntKind.u64 7578651490590762930)),(2,(Value.int IntKind.u64 13881468655802702940)),(3,(Value.int IntKind.u64 2407515759118799870))] rfl ([(Value.int IntKind.u64 14507833142362363162)]++[(Value.int IntKind.u64 7578651490590762930)]++[(Value.int IntKind.u64 13881468655802702940)]++[(Value.int IntKind.u64 2407515759118799870)]) (g_bN4 _ _ _ _),fun L u=>u_build u (gd0 rfl) 2 rfl 34 #[(0,(.const (.int .u64 7378697629483820632))),(1,(.const (.int .u64 7378697629483820646))),(2,(.const (.int .u64 7378697629483820646))),(3,(.const (.int .u64 7378697629483820646)))] rfl [(0,(Value.int IntKind.u64 7378697629483820632)),(1,(Value.int IntKind.u64 7378697629483820646)),(2,(Value.int IntKind.u64 7378697629483820646)),(3,(Value.int IntKind.u64 7378697629483820646))] rfl ([(Value.int IntKind.u64 7378697629483820632)]++[(Value.int IntKind.u64 7378697629483820646)]++[(Value.int IntKind.u64 7378697629483820646)]++[(Value.int IntKind.u64 7378697629483820646)]) (g_bN4 _ _ _ _),fun L u=>u_build u (gd0 rfl) 3 rfl 40 #[(0,(.tmp 1)),(1,(.tmp 2))] rfl [(0,.agg ([(Value.int IntKind.u64 14507833142362363162)]++[(Value.int IntKind.u64 7578651490590762930)]++[(Value.int IntKind.u64 13881468655802702940)]++[(Value.int IntKind.u64 2407515759118799870)]).toArray),(1,.agg ([(Value.int IntKind.u64 7378697629483820632)]++[(Value.int IntKind.u64 7378697629483820646)]++[(Value.int IntKind.u64 7378697629483820646)]++[(Value.int IntKind.u64 7378697629483820646)]).toArray)] rfl ([(Value.int IntKind.u64 14507833142362363162)]++[(Value.int IntKind.u64 7578651490590762930)]++[(Value.int IntKind.u64 13881468655802702940)]++[(Value.int IntKind.u64 2407515759118799870)]++[(Value.int IntKind.u64 7378697629483820632)]++[(Value.int IntKind.u64 7378697629483820646)]++[(Value.int IntKind.u64 7378697629483820646)]++[(Value.int IntKind.u64 7378697629483820646)]++[Value.bool false]) (g_bPc _ _ _ _ _ _ _ _),rfl,T0⟩ [(0,_)] [(0,[(Value.int IntKind.u64 14507833142362363162)]++[(Value.int IntKind.u64 7578651490590762930)]++[(Value.int IntKind.u64 13881468655802702940)]++[(Value.int IntKind.u64 2407515759118799870)]++[(Value.int IntKind.u64 7378697629483820632)]++[(Value.int IntKind.u64 7378697629483820646)]++[(Value.int IntKind.u64 7378697629483820646)]++[(Value.int IntKind.u64 7378697629483820646)]++[Value.bool false])] (fun a w h=>?_)
 refine wp_ret ?_
 refine ret_row h 0 40 rfl (lk rfl) 0 rfl ([(Value.int IntKind.u64 14507833142362363162)]++[(Value.int IntKind.u64 7578651490590762930)]++[(Value.int IntKind.u64 13881468655802702940)]++[(Value.int IntKind.u64 2407515759118799870)]++[(Value.int IntKind.u64 7378697629483820632)]++[(Value.int IntKind.u64 7378697629483820646)]++[(Value.int IntKind.u64 7378697629483820646)]++[(Value.int IntKind.u64 7378697629483820646)]++[Value.bool false]) rfl _ Tryz.underlying40 rfl i40 ?_
 exact ⟨by rw [pcE_G],h.grows⟩
theorem s_Mul {w:World} (hT:Tab w) {k:Nat} (hk:k<2 ^ 256) {X Y:Int} (hX:Num X) (hY:Num Y) (t:Bool):Calls Tryz.prog 17 [.agg (nc (k:Int)).toArray,.agg (rc X Y t).toArray].toArray w fun e w'=>e=.returned (.agg (pcE (mt eadd (Ep.o m2) (rpE X Y t) k)).toArray)∧Below w.heap.size w w':=by
 have h:=s_Mul0 hT k hX hY t
 rw [fm_all hk (fo_lift (rpE_on X Y t)),fdrop_lift] at h
 exact h
end Go.Proofs.YtjaahnlpnkcimaaGreatDoor
namespace Go.Proofs.YtjaahnlpnkcimaaGreatDoor
set_option maxRecDepth 100000
open Go.RowKit
def fmdE (X Y:Int) (t:Bool):Bool:=decide (t=false∧X<md 2∧Y<md 2∧(kc Y:Fin m2)*kc Y-kc X*kc X=1+ed*(kc X*kc X*(kc Y*kc Y)))
theorem rpE_pc {a:Ep m2} (h:a.on ed):rpE (a.x.val:Int) (a.y.val:Int) false=a:=by
 obtain ⟨x,y⟩:=a
 have hc:y*y-x*x=1+ed*(x*x*(y*y)):=h
 have e:rpE (x.val:Int) (y.val:Int) false=⟨kc (x.val:Int),kc (y.val:Int)⟩:=if_pos ⟨rfl,of_decide_eq_true (gin_lt x),of_decide_eq_true (gin_lt y),by rw [kc_self,kc_self];exact hc⟩
 rw [kc_self,kc_self] at e
 exact e
theorem fmdE_rp {X Y:Int} {t:Bool} (h:fmdE X Y t=false):rpE X Y t=Ep.o m2:=if_neg (of_decide_eq_false h)
end Go.Proofs.YtjaahnlpnkcimaaGreatDoor
namespace Go.Proofs.YtjaahnlpnkcimaaGreatDoor
set_option maxRecDepth 100000
def imN:Nat:=19681161376707505956807079304988542015446066515923890162744021073123829784752
def im:Fin m2:=kc (imN:Int)
def ex8:Nat:=7237005577332262213973186563042994240829374041602535252466099000494570602494
def code (a:Ep m2):Nat:=a.y.val+2 ^ 255*(a.x.val % 2)
theorem y_lt (a:Ep m2):a.y.val<2 ^ 255:=by
 have:=a.y.isLt
 unfold m2 q2 at this
 omega
end Go.Proofs.YtjaahnlpnkcimaaGreatDoor
namespace Go.Proofs.YtjaahnlpnkcimaaGreatDoor
set_option maxRecDepth 100000
open Go.RowKit
theorem Y_add (y t:Int) (i:Nat):Y i (y+256 ^ (i+1)*t)=Y i y:=by
 unfold Y
 rw [Int.pow_succ,Int.mul_assoc,Int.add_mul_ediv_left _ _ (Int.ne_of_gt (Int.pow_pos (by omega))),Int.add_mul_emod_self_left]
theorem top_pow {i:Nat} (hi:i<31):(2:Int) ^ 255=256 ^ (i+1)*2 ^ (255-8*(i+1)):=by
 rw [show (256:Int)=2 ^ 8 from rfl,← Int.pow_mul,← Int.pow_add,show 8*(i+1)+(255-8*(i+1))=255 by omega]
theorem Y_low (y s:Int) {i:Nat} (hi:i<31):Y i (y+2 ^ 255*s)=Y i y:=by
 rw [top_pow hi,Int.mul_assoc,Y_add]
theorem Y_top {y:Int} (h0:0≤y) (h:y<2 ^ 255):0≤Y 31 y∧Y 31 y<128∧Y 31 y=y / 256 ^ 31:=by
 unfold Y
 have e:(2:Int) ^ 255=256 ^ 31*128:=by decide +kernel
 have h1:0≤y / 256 ^ 31:=Int.ediv_nonneg h0 (by decide +kernel)
 have h2:y / 256 ^ 31<128:=Int.ediv_lt_of_lt_mul (by decide +kernel) (by rw [Int.mul_comm,← e];exact h)
 omega
theorem Y_high {y s:Int} (h0:0≤y) (h:y<2 ^ 255) (hs:s=0∨s=1):Y 31 (y+2 ^ 255*s)=Y 31 y+128*s:=by
 obtain ⟨a,b,c⟩:=Y_top h0 h
 rw [c] at a b
 rw [c]
 unfold Y
 rw [show (2:Int) ^ 255=256 ^ 31*128 by decide +kernel,Int.mul_assoc,Int.add_mul_ediv_left _ _ (by decide +kernel)]
 omega
theorem lw_lo (i:Nat) (x:Int):0≤lw i x:=L_lo i x
theorem L0_odd (x:Int):lw 0 x % 2=x % 2:=by
 show L 0 x % 2=x % 2
 rw [L0]
 omega
theorem code_int (a:Ep m2):((code a:Nat):Int)=(a.y.val:Int)+2 ^ 255*((a.x.val % 2:Nat):Int):=by
 unfold code
 rw [Int.natCast_add,Int.natCast_mul,Int.natCast_pow]
 rfl
theorem y_int (a:Ep m2):(a.y.val:Int)<2 ^ 255:=by
 have:=y_lt a
 rw [show (2:Int) ^ 255=((2 ^ 255:Nat):Int) from rfl]
 omega
theorem code_even {a:Ep m2} (h:a.x.val % 2=0):code a=a.y.val:=by unfold code;rw [h];rfl
theorem code_o:code (Ep.o m2)=1:=by decide +kernel
theorem e_on {a:Ep m2} (i:Nat) (hi:i<31):Y i ((code a:Nat):Int)=Y i (a.y.val:Int):=by rw [code_int,Y_low _ _ hi]
theorem code_top {a:Ep m2} (h:a.x.val % 2=1):Y 31 ((code a:Nat):Int)=Y 31 (a.y.val:Int)+128:=by
 rw [code_int,Y_high (by omega) (y_int a) (Or.inr (by rw [h];rfl)),h]
 rfl
end Go.Proofs.YtjaahnlpnkcimaaGreatDoor
namespace Go.Proofs.YtjaahnlpnkcimaaGreatDoor
set_option maxRecDepth 100000
open Go.RowKit
theorem E_words (a:Int):E (fun i=>Y i a) 0 8=L 0 a∧E (fun i=>Y i a) 8 8=L 1 a∧E (fun i=>Y i a) 16 8=L 2 a∧E (fun i=>Y i a) 24 8=L 3 a :=
 ⟨E_word a 0,E_word a 1,E_word a 2,E_word a 3⟩
end Go.Proofs.YtjaahnlpnkcimaaGreatDoor
namespace Go.Proofs.YtjaahnlpnkcimaaGreatDoor
set_option maxRecDepth 100000
open Go.RowKit
theorem i5:(Tryz.prog.info? 5).map (·.size)=some 1:=by kernel_rfl
end Go.Proofs.YtjaahnlpnkcimaaGreatDoor
namespace Go.Proofs.YtjaahnlpnkcimaaGreatDoor
set_option maxRecDepth 100000
open Go.RowKit
attribute [local go_sem ↓] Go.wp_at_zero Go.wp_at_succ
end Go.Proofs.YtjaahnlpnkcimaaGreatDoor
namespace Go.Proofs.YtjaahnlpnkcimaaGreatDoor
set_option maxRecDepth 100000
def sameB (f g:Nat→Int) (n:Nat):Bool:=decide (∀ i,i<n→f i=g i)
theorem same_no {f g:Nat→Int} {n k:Nat} (h:k<n) (hne:f k≠g k):sameB f g n=false:=by
 unfold sameB
 rw [decide_eq_false_iff_not]
 exact fun hh=>hne (hh k h)
theorem same_yes {f g:Nat→Int} {n:Nat} (h:∀ i,i<n→f i=g i):sameB f g n=true:=decide_eq_true h
end Go.Proofs.YtjaahnlpnkcimaaGreatDoor
namespace Go.Proofs.YtjaahnlpnkcimaaGreatDoor
set_option maxRecDepth 100000
open Go.RowKit
attribute [local go_sem ↓] Go.wp_at_zero Go.wp_at_succ
theorem same_len (a1 a2:Option Addr) (n1 n2 c1 c2:Nat) (h:n1≠n2) (w:World) :
  Calls Tryz.prog 7 #[.slice a1 n1 c1,.slice a2 n2 c2] w fun e w'=>e=.returned (.bool false)∧w'=w:=by
 have hb:((n1:Int) == (n2:Int))=false:=beq_eq_false_iff_ne.2 (by omega)
 go_enter Tryz.func7,Tryz.ntmps7
 go_wp2_with fail
 go_ret
 exact ⟨rfl,rfl⟩
theorem same_none (a1 a2:Option Addr) (c1 c2:Nat) (w:World) :
  Calls Tryz.prog 7 #[.slice a1 0 c1,.slice a2 0 c2] w fun e w'=>e=.returned (.bool true)∧w'=w:=by
 go_enter Tryz.func7,Tryz.ntmps7
 go_wp2_with fail
 refine wp_loop_rounds 1 ?_
 rw [rounds_succ]
 go_wp2_with fail
 go_ret
 exact ⟨rfl,rfl⟩
theorem same_any {b o c b2 o2 c2 n:Nat} {f g:Nat→Int} (hn:n≤1000000) {w:World} (h1:Rd w b o n f) (h2:Rd w b2 o2 n g) :
  Calls Tryz.prog 7 #[.slice (some ⟨b,o,none⟩) n c,.slice (some ⟨b2,o2,none⟩) n c2] w fun e w'=>e=.returned (.bool (sameB f g n))∧Below w.heap.size w w':=by
 have H1:Hid (Rd w b o n f):=h1
 have H2:Hid (Rd w b2 o2 n g):=h2
 clear h1 h2
 go_enter Tryz.func7,Tryz.ntmps7
 go_wp2_with fail
 go_loopg [5] n (fun gh s wr=>∃ k:Nat,gh=n-k∧k≤n∧s=.int .i64 k∧(∀ i,i<k→f i=g i)∧Below w.heap.size w wr)
 case atStart=>exact ⟨0,rfl,by omega,rfl,fun i h=>by omega,Below.refl _ _⟩
 case round =>
  obtain ⟨k,rfl,hk,rfl,hall,hB⟩:=hrel
  have HA:Hid (∀ i,i<k→f i=g i):=hall
  have HB:Hid (Below w.heap.size w wr):=hB
  by_cases hlt:k<n
  ·have hc1:=(H1.out.keep hB).c k hlt
   have hc2:=(H2.out.keep hB).c k hlt
   clear hB hall
   by_cases he:f k=g k
   ·have HS:Hid (∀ i,i<k+1→f i=g i):=fun i hi=>by
     by_cases e:i=k
     ·rw [e];exact he
     ·exact HA.out i (by omega)
    rw [← he] at hc2
    clear he
    go_upto_region 6 with fail
    go_quiet (fail)
    go_wp2_with fail
    go_roundg (n-(k+1))
    case measure=>omega
    case rel=>exact ⟨k+1,rfl,by omega,by go_num,HS.out,K.drewN HB.out _⟩
   ·have hb:(f k == g k)=false:=beq_eq_false_iff_ne.2 he
    have HS:Hid (sameB f g n=false):=same_no hlt he
    clear he
    go_upto_region 6 with fail
    go_quiet (fail)
    go_wp2_with fail
    go_ret
    exact ⟨ret_bool HS.out.symm,K.drewN HB.out _⟩
  ·obtain rfl:k=n:=by omega
   clear hall hB
   go_wp2_with fail
   go_ret
   exact ⟨ret_bool (same_yes HA.out).symm,HB.out⟩
end Go.Proofs.YtjaahnlpnkcimaaGreatDoor
namespace Go.Proofs.YtjaahnlpnkcimaaGreatDoor
set_option maxRecDepth 100000
open Go.RowKit
attribute [local go_sem ↓] Go.wp_at_zero Go.wp_at_succ
end Go.Proofs.YtjaahnlpnkcimaaGreatDoor
