/- Multiples on the second curve, as the document reckons them; its sum and its multiple are the curve's. Points of the second curve held against each other, and what else the document's own answers. Square roots modulo the second prime, and the points of the second curve by their bytes. The bytes of the number that a point's bytes are. Numbers and their bytes, there and back. What the document's own Encode of layer 9 answers. What the document's own Half answers. Two lists of bytes are the same. What the document's own Same answers, of all lists of bytes. What the document's own Add answers, for all numbers: the same as limb.Add. -/
import Derived.Test.YtjaahnlpnkcimaaGreatDoorVR22
import Derived.Test.YtjaahnlpnkcimaaGreatDoorVR20
import Derived.Test.YtjaahnlpnkcimaaGreatDoorVR04
import Derived.Test.YtjaahnlpnkcimaaGreatDoorVR02
import Derived.Test.YtjaahnlpnkcimaaGreatDoorVR06
import Derived.Deep.LoopGhost
import Derived.Deep.DeepCutAuto
set_option maxRecDepth 100000
set_option maxHeartbeats 4000000
namespace Go.Proofs.YtjaahnlpnkcimaaGreatDoor
set_option maxRecDepth 100000
open Go.RowKit
theorem s_bit {w:World} (k i:Nat) (hi:i<256):Calls Tryz.prog 85 [.agg (nc (k:Int)).toArray,.int .i64 (i:Int)].toArray w fun e w'=>e=.returned (.int .i64 ((k / 2 ^ i % 2:Nat):Int))∧Below w.heap.size w w':=by
 have h:=ref_bit_any (k:Int) (i:Int) w
 have e:bt (k:Int) (i:Int)=((k / 2 ^ i % 2:Nat):Int):=by
  unfold bt
  rw [if_pos (by omega),Int.toNat_natCast,Int.natCast_emod,Int.natCast_ediv,Int.natCast_pow]
  rfl
 rw [e] at h
 exact h
theorem s_lift_o {w:World} (hT:Tab w):Calls Tryz.prog 42 [.agg (pcE (Ep.o m2)).toArray].toArray w fun e w'=>e=.returned (.agg (fjc (flift (Ep.o m2))).toArray)∧Below w.heap.size w w':=s_lift_on hT (Ep.o_on ed)
theorem s_mult {w:World} (hT:Tab w) (k:Nat) (x y z:Fin m2):Calls Tryz.prog 41 [.agg (nc ((k:Int))).toArray,.agg (gc (x)++gc (y)++gc (z)).toArray].toArray w fun e w'=>e=.returned (.agg (fjc (fm k ⟨x,y,z⟩ 256).1).toArray)∧Below w.heap.size w w':=by
 refine enter (args:=[.agg (nc ((k:Int))).toArray,.agg (gc (x)++gc (y)++gc (z)).toArray]) Tryz.func41 rfl 26 rfl (lk rfl) (fun a h=>?_)
 refine aX h [] [eN 2 _,eN 3 _,eN 4 _] ⟨rfl,rfl,rfl,T0⟩ [(2,.ptr 2 0),(3,.ptr 3 0),(4,.ptr 4 0)] [(2,nc ((k:Int))),(3,gc (x)++gc (y)++gc (z)),(4,nz++nz++nz)] (fun a w h=>?_)
 refine aX h [0,1] [eS 8 _,eS 9 _,eN 5 _,eM 5 _] ⟨fun L u=>u_call u (gd0 rfl) _ rfl _ _ _ rfl [] rfl (cE39 _) _ (fun w hb=>s_None),fun L u=>u_call u (gd0 rfl) _ rfl _ _ _ rfl [_] rfl (cE42 _) _ (fun w hb=>s_lift_o (hT.keep (Bs.kp_of hb))),rfl,rfl,T0⟩ [(2,_),(3,_),(4,_),(5,.ptr 5 0)] [(2,_),(3,_),(4,_),(5,gc ((flift (Ep.o m2)).x)++gc ((flift (Ep.o m2)).y)++gc ((flift (Ep.o m2)).z))] (fun a w h=>?_)
 refine aX h [] [eS 6 _] ⟨rfl,T0⟩ [(2,_),(3,_),(4,_),(5,_),(6,.val (Value.bool false))] [(2,_),(3,_),(4,_),(5,_)] (fun a w h=>?_)
 refine wp_seq ?_
 refine aX h [] [eS 7 _] ⟨rfl,T0⟩ [(2,_),(3,_),(4,_),(5,_),(6,_),(7,.val ((Value.int IntKind.i64 255)))] [(2,_),(3,_),(4,_),(5,_)] (fun a w h=>?_)
 refine wp_block ?_
 refine go_loop (fun (j:Nat)=>SS.mk' [(2,.ptr 2 0),(3,.ptr 3 0),(4,.ptr 4 0),(5,.ptr 5 0),(6,.val (Value.bool ((fm k ⟨x,y,z⟩ (j)).2))),(7,.val (Value.int .i64 (255-((j:Nat):Int))))] [(2,nc ((k:Int))),(3,gc (x)++gc (y)++gc (z)),(4,nz++nz++nz),(5,gc (((fm k ⟨x,y,z⟩ (j)).1).x)++gc (((fm k ⟨x,y,z⟩ (j)).1).y)++gc (((fm k ⟨x,y,z⟩ (j)).1).z))]) (fun j=>j≤256) (fun j=>256-j) (i:=0) (h.keep [(2,.ptr 2 0),(3,.ptr 3 0),(4,.ptr 4 0),(5,.ptr 5 0),(6,.val (Value.bool ((fm k ⟨x,y,z⟩ (0)).2))),(7,.val (Value.int .i64 (255-((0:Nat):Int))))] [(2,nc ((k:Int))),(3,gc (x)++gc (y)++gc (z)),(4,nz++nz++nz),(5,gc (((fm k ⟨x,y,z⟩ (0)).1).x)++gc (((fm k ⟨x,y,z⟩ (0)).1).y)++gc (((fm k ⟨x,y,z⟩ (0)).1).z))] ⟨rfl,rfl,rfl,rfl,rfl,rfl,T0⟩ ⟨rfl,rfl,rfl,rfl,T0⟩ rfl) (Nat.zero_le _) (fun j a w hG h=>?_)
 by_cases hs:j<256
 ·skip
  by_cases hg:(fm k ⟨x,y,z⟩ j).2=true
  ·skip
   by_cases hb:k / 2 ^ (255-j) % 2=1
   ·skip
    rw [hg] at h
    refine wp_seq ?_
    refine aX h [1] [eS 10 _,eS 11 (.val (Value.bool true))] ⟨rfl,fun L u=>u_bin u (gd0 rfl) _ rfl _ _ _ _ _ rfl rfl rfl (eqg_int _ _ _ _ _ _ _ _) _ (yes_of (fun w=>i_geq _ _ _ _ w) (by omega)),T0⟩ [(2,_),(3,_),(4,_),(5,_),(6,_),(7,_),(11,.val (Value.bool true))] [(2,_),(3,_),(4,_),(5,_)] (fun a w h=>?_)
    refine go_cond h true rfl (fun ht=>?_) (fun hf=>?_)
    case refine_2=>cases hf
    refine wp_skip ?_
    refine then_norm ?_
    refine wp_seq ?_
    refine wp_block ?_
    refine wp_seq ?_
    refine aX h [] [eS 14 _] ⟨rfl,T0⟩ [(2,_),(3,_),(4,_),(5,_),(6,_),(7,_),(14,.val (Value.bool true))] [(2,_),(3,_),(4,_),(5,_)] (fun a w h=>?_)
    refine go_cond h true rfl (fun ht=>?_) (fun hf=>?_)
    case refine_2=>cases hf
    refine aE h [2] [eS 15 _,eS 16 _,eS 17 _,eM 5 _] ⟨rfl,rfl,fun L u=>u_call u (gd0 rfl) _ rfl _ _ _ rfl [_,_] rfl (cE78 _) _ (fun w hb=>s_plus (hT.keep (Bs.kp_of hb)) _ _ _ _ _ _),rfl,T0⟩ [(2,_),(3,_),(4,_),(5,_),(6,_),(7,_)] [(2,_),(3,_),(4,_),(5,gc ((fadd ⟨((fm k ⟨x,y,z⟩ (j)).1).x,((fm k ⟨x,y,z⟩ (j)).1).y,((fm k ⟨x,y,z⟩ (j)).1).z⟩ ⟨((fm k ⟨x,y,z⟩ (j)).1).x,((fm k ⟨x,y,z⟩ (j)).1).y,((fm k ⟨x,y,z⟩ (j)).1).z⟩).x)++gc ((fadd ⟨((fm k ⟨x,y,z⟩ (j)).1).x,((fm k ⟨x,y,z⟩ (j)).1).y,((fm k ⟨x,y,z⟩ (j)).1).z⟩ ⟨((fm k ⟨x,y,z⟩ (j)).1).x,((fm k ⟨x,y,z⟩ (j)).1).y,((fm k ⟨x,y,z⟩ (j)).1).z⟩).y)++gc ((fadd ⟨((fm k ⟨x,y,z⟩ (j)).1).x,((fm k ⟨x,y,z⟩ (j)).1).y,((fm k ⟨x,y,z⟩ (j)).1).z⟩ ⟨((fm k ⟨x,y,z⟩ (j)).1).x,((fm k ⟨x,y,z⟩ (j)).1).y,((fm k ⟨x,y,z⟩ (j)).1).z⟩).z))] (fun a w h=>?_)
    refine then_norm ?_
    refine aX h [2,3] [eS 18 _,eS 19 _,eS 20 (.val (Value.int .i64 ((k / 2 ^ (255-j) % 2:Nat):Int))),eS 21 (.val (Value.bool true))] ⟨rfl,rfl,fun L u=>u_call u (gd0 rfl) _ rfl _ _ _ rfl [_,_] rfl (cE85 _) (Value.int .i64 ((k / 2 ^ (255-j) % 2:Nat):Int)) (fun w hb=>by have:=s_bit (w:=w) k (255-j) (by omega);rw [show (((255-j:Nat)):Int)=255-(j:Int) by omega] at this;exact this),fun L u=>u_bin u (gd0 rfl) _ rfl _ _ _ _ _ rfl rfl rfl (eqg_int _ _ _ _ _ _ _ _) _ (yes_of (fun w=>i_eql _ _ _ _ w) (by omega)),T0⟩ [(2,_),(3,_),(4,_),(5,_),(6,_),(7,_),(21,.val (Value.bool true))] [(2,_),(3,_),(4,_),(5,_)] (fun a w h=>?_)
    refine go_cond h true rfl (fun ht=>?_) (fun hf=>?_)
    case refine_2=>cases hf
    refine aX h [2] [eS 22 _,eS 23 _,eS 24 _,eM 5 _] ⟨rfl,rfl,fun L u=>u_call u (gd0 rfl) _ rfl _ _ _ rfl [_,_] rfl (cE78 _) _ (fun w hb=>s_plus (hT.keep (Bs.kp_of hb)) _ _ _ _ _ _),rfl,T0⟩ [(2,_),(3,_),(4,_),(5,_),(7,_)] [(2,_),(3,_),(4,_),(5,gc ((fadd ⟨(fadd ⟨((fm k ⟨x,y,z⟩ (j)).1).x,((fm k ⟨x,y,z⟩ (j)).1).y,((fm k ⟨x,y,z⟩ (j)).1).z⟩ ⟨((fm k ⟨x,y,z⟩ (j)).1).x,((fm k ⟨x,y,z⟩ (j)).1).y,((fm k ⟨x,y,z⟩ (j)).1).z⟩).x,(fadd ⟨((fm k ⟨x,y,z⟩ (j)).1).x,((fm k ⟨x,y,z⟩ (j)).1).y,((fm k ⟨x,y,z⟩ (j)).1).z⟩ ⟨((fm k ⟨x,y,z⟩ (j)).1).x,((fm k ⟨x,y,z⟩ (j)).1).y,((fm k ⟨x,y,z⟩ (j)).1).z⟩).y,(fadd ⟨((fm k ⟨x,y,z⟩ (j)).1).x,((fm k ⟨x,y,z⟩ (j)).1).y,((fm k ⟨x,y,z⟩ (j)).1).z⟩ ⟨((fm k ⟨x,y,z⟩ (j)).1).x,((fm k ⟨x,y,z⟩ (j)).1).y,((fm k ⟨x,y,z⟩ (j)).1).z⟩).z⟩ ⟨x,y,z⟩).x)++gc ((fadd ⟨(fadd ⟨((fm k ⟨x,y,z⟩ (j)).1).x,((fm k ⟨x,y,z⟩ (j)).1).y,((fm k ⟨x,y,z⟩ (j)).1).z⟩ ⟨((fm k ⟨x,y,z⟩ (j)).1).x,((fm k ⟨x,y,z⟩ (j)).1).y,((fm k ⟨x,y,z⟩ (j)).1).z⟩).x,(fadd ⟨((fm k ⟨x,y,z⟩ (j)).1).x,((fm k ⟨x,y,z⟩ (j)).1).y,((fm k ⟨x,y,z⟩ (j)).1).z⟩ ⟨((fm k ⟨x,y,z⟩ (j)).1).x,((fm k ⟨x,y,z⟩ (j)).1).y,((fm k ⟨x,y,z⟩ (j)).1).z⟩).y,(fadd ⟨((fm k ⟨x,y,z⟩ (j)).1).x,((fm k ⟨x,y,z⟩ (j)).1).y,((fm k ⟨x,y,z⟩ (j)).1).z⟩ ⟨((fm k ⟨x,y,z⟩ (j)).1).x,((fm k ⟨x,y,z⟩ (j)).1).y,((fm k ⟨x,y,z⟩ (j)).1).z⟩).z⟩ ⟨x,y,z⟩).y)++gc ((fadd ⟨(fadd ⟨((fm k ⟨x,y,z⟩ (j)).1).x,((fm k ⟨x,y,z⟩ (j)).1).y,((fm k ⟨x,y,z⟩ (j)).1).z⟩ ⟨((fm k ⟨x,y,z⟩ (j)).1).x,((fm k ⟨x,y,z⟩ (j)).1).y,((fm k ⟨x,y,z⟩ (j)).1).z⟩).x,(fadd ⟨((fm k ⟨x,y,z⟩ (j)).1).x,((fm k ⟨x,y,z⟩ (j)).1).y,((fm k ⟨x,y,z⟩ (j)).1).z⟩ ⟨((fm k ⟨x,y,z⟩ (j)).1).x,((fm k ⟨x,y,z⟩ (j)).1).y,((fm k ⟨x,y,z⟩ (j)).1).z⟩).y,(fadd ⟨((fm k ⟨x,y,z⟩ (j)).1).x,((fm k ⟨x,y,z⟩ (j)).1).y,((fm k ⟨x,y,z⟩ (j)).1).z⟩ ⟨((fm k ⟨x,y,z⟩ (j)).1).x,((fm k ⟨x,y,z⟩ (j)).1).y,((fm k ⟨x,y,z⟩ (j)).1).z⟩).z⟩ ⟨x,y,z⟩).z))] (fun a w h=>?_)
    refine aE h [] [eS 6 _] ⟨rfl,T0⟩ [(2,_),(3,_),(4,_),(5,_),(6,.val (Value.bool true)),(7,_)] [(2,_),(3,_),(4,_),(5,_)] (fun a w h=>?_)
    refine blk_norm ?_
    refine then_norm ?_
    refine aE h [1] [eS 12 _,eS 13 (.val (Value.int .i64 (255-((j+1:Nat):Int)))),eS 7 _] ⟨rfl,fun L u=>u_bin u (gd0 rfl) _ rfl _ _ _ _ _ rfl rfl rfl (eqg_int _ _ _ _ _ _ _ _) _ (fun w=>i_sub _ _ _ _ (by omega) (by omega) w),rfl,T0⟩ [(2,_),(3,_),(4,_),(5,_),(6,_),(7,.val (Value.int .i64 (255-((j+1:Nat):Int))))] [(2,_),(3,_),(4,_),(5,_)] (fun a w h=>?_)
    refine then_norm ?_
    exact ⟨j+1,(by omega),(by omega),h.keep [(2,.ptr 2 0),(3,.ptr 3 0),(4,.ptr 4 0),(5,.ptr 5 0),(6,.val (Value.bool ((fm k ⟨x,y,z⟩ (j+1)).2))),(7,.val (Value.int .i64 (255-((j+1:Nat):Int))))] [(2,nc ((k:Int))),(3,gc (x)++gc (y)++gc (z)),(4,nz++nz++nz),(5,gc (((fm k ⟨x,y,z⟩ (j+1)).1).x)++gc (((fm k ⟨x,y,z⟩ (j+1)).1).y)++gc (((fm k ⟨x,y,z⟩ (j+1)).1).z))] ⟨rfl,rfl,rfl,rfl,(by rw [fm_succ,if_pos hb];rfl),rfl,trivial⟩ ⟨rfl,rfl,rfl,(by rw [fm_succ,if_pos hb,if_pos hg];rfl),trivial⟩ rfl⟩
   ·skip
    rw [hg] at h
    refine wp_seq ?_
    refine aX h [1] [eS 10 _,eS 11 (.val (Value.bool true))] ⟨rfl,fun L u=>u_bin u (gd0 rfl) _ rfl _ _ _ _ _ rfl rfl rfl (eqg_int _ _ _ _ _ _ _ _) _ (yes_of (fun w=>i_geq _ _ _ _ w) (by omega)),T0⟩ [(2,_),(3,_),(4,_),(5,_),(6,_),(7,_),(11,.val (Value.bool true))] [(2,_),(3,_),(4,_),(5,_)] (fun a w h=>?_)
    refine go_cond h true rfl (fun ht=>?_) (fun hf=>?_)
    case refine_2=>cases hf
    refine wp_skip ?_
    refine then_norm ?_
    refine wp_seq ?_
    refine wp_block ?_
    refine wp_seq ?_
    refine aX h [] [eS 14 _] ⟨rfl,T0⟩ [(2,_),(3,_),(4,_),(5,_),(6,_),(7,_),(14,.val (Value.bool true))] [(2,_),(3,_),(4,_),(5,_)] (fun a w h=>?_)
    refine go_cond h true rfl (fun ht=>?_) (fun hf=>?_)
    case refine_2=>cases hf
    refine aE h [2] [eS 15 _,eS 16 _,eS 17 _,eM 5 _] ⟨rfl,rfl,fun L u=>u_call u (gd0 rfl) _ rfl _ _ _ rfl [_,_] rfl (cE78 _) _ (fun w hb=>s_plus (hT.keep (Bs.kp_of hb)) _ _ _ _ _ _),rfl,T0⟩ [(2,_),(3,_),(4,_),(5,_),(6,_),(7,_)] [(2,_),(3,_),(4,_),(5,gc ((fadd ⟨((fm k ⟨x,y,z⟩ (j)).1).x,((fm k ⟨x,y,z⟩ (j)).1).y,((fm k ⟨x,y,z⟩ (j)).1).z⟩ ⟨((fm k ⟨x,y,z⟩ (j)).1).x,((fm k ⟨x,y,z⟩ (j)).1).y,((fm k ⟨x,y,z⟩ (j)).1).z⟩).x)++gc ((fadd ⟨((fm k ⟨x,y,z⟩ (j)).1).x,((fm k ⟨x,y,z⟩ (j)).1).y,((fm k ⟨x,y,z⟩ (j)).1).z⟩ ⟨((fm k ⟨x,y,z⟩ (j)).1).x,((fm k ⟨x,y,z⟩ (j)).1).y,((fm k ⟨x,y,z⟩ (j)).1).z⟩).y)++gc ((fadd ⟨((fm k ⟨x,y,z⟩ (j)).1).x,((fm k ⟨x,y,z⟩ (j)).1).y,((fm k ⟨x,y,z⟩ (j)).1).z⟩ ⟨((fm k ⟨x,y,z⟩ (j)).1).x,((fm k ⟨x,y,z⟩ (j)).1).y,((fm k ⟨x,y,z⟩ (j)).1).z⟩).z))] (fun a w h=>?_)
    refine then_norm ?_
    refine aX h [2,3] [eS 18 _,eS 19 _,eS 20 (.val (Value.int .i64 ((k / 2 ^ (255-j) % 2:Nat):Int))),eS 21 (.val (Value.bool false))] ⟨rfl,rfl,fun L u=>u_call u (gd0 rfl) _ rfl _ _ _ rfl [_,_] rfl (cE85 _) (Value.int .i64 ((k / 2 ^ (255-j) % 2:Nat):Int)) (fun w hb=>by have:=s_bit (w:=w) k (255-j) (by omega);rw [show (((255-j:Nat)):Int)=255-(j:Int) by omega] at this;exact this),fun L u=>u_bin u (gd0 rfl) _ rfl _ _ _ _ _ rfl rfl rfl (eqg_int _ _ _ _ _ _ _ _) _ (no_of (fun w=>i_eql _ _ _ _ w) (by omega)),T0⟩ [(2,_),(3,_),(4,_),(5,_),(6,_),(7,_),(21,.val (Value.bool false))] [(2,_),(3,_),(4,_),(5,_)] (fun a w h=>?_)
    refine go_cond h false rfl (fun ht=>?_) (fun hf=>?_)
    case refine_1=>cases ht
    refine wp_skip ?_
    refine blk_norm ?_
    refine then_norm ?_
    refine aE h [1] [eS 12 _,eS 13 (.val (Value.int .i64 (255-((j+1:Nat):Int)))),eS 7 _] ⟨rfl,fun L u=>u_bin u (gd0 rfl) _ rfl _ _ _ _ _ rfl rfl rfl (eqg_int _ _ _ _ _ _ _ _) _ (fun w=>i_sub _ _ _ _ (by omega) (by omega) w),rfl,T0⟩ [(2,_),(3,_),(4,_),(5,_),(6,_),(7,.val (Value.int .i64 (255-((j+1:Nat):Int))))] [(2,_),(3,_),(4,_),(5,_)] (fun a w h=>?_)
    refine then_norm ?_
    exact ⟨j+1,(by omega),(by omega),h.keep [(2,.ptr 2 0),(3,.ptr 3 0),(4,.ptr 4 0),(5,.ptr 5 0),(6,.val (Value.bool ((fm k ⟨x,y,z⟩ (j+1)).2))),(7,.val (Value.int .i64 (255-((j+1:Nat):Int))))] [(2,nc ((k:Int))),(3,gc (x)++gc (y)++gc (z)),(4,nz++nz++nz),(5,gc (((fm k ⟨x,y,z⟩ (j+1)).1).x)++gc (((fm k ⟨x,y,z⟩ (j+1)).1).y)++gc (((fm k ⟨x,y,z⟩ (j+1)).1).z))] ⟨rfl,rfl,rfl,rfl,(by rw [fm_succ,if_neg hb];exact congrArg (fun t=>some (SV.val (Value.bool t))) hg.symm),rfl,trivial⟩ ⟨rfl,rfl,rfl,(by rw [fm_succ,if_neg hb,if_pos hg];rfl),trivial⟩ rfl⟩
  ·skip
   by_cases hb:k / 2 ^ (255-j) % 2=1
   ·skip
    rw [Bool.not_eq_true] at hg
    rw [hg] at h
    refine wp_seq ?_
    refine aX h [1] [eS 10 _,eS 11 (.val (Value.bool true))] ⟨rfl,fun L u=>u_bin u (gd0 rfl) _ rfl _ _ _ _ _ rfl rfl rfl (eqg_int _ _ _ _ _ _ _ _) _ (yes_of (fun w=>i_geq _ _ _ _ w) (by omega)),T0⟩ [(2,_),(3,_),(4,_),(5,_),(6,_),(7,_),(11,.val (Value.bool true))] [(2,_),(3,_),(4,_),(5,_)] (fun a w h=>?_)
    refine go_cond h true rfl (fun ht=>?_) (fun hf=>?_)
    case refine_2=>cases hf
    refine wp_skip ?_
    refine then_norm ?_
    refine wp_seq ?_
    refine wp_block ?_
    refine wp_seq ?_
    refine aX h [] [eS 14 _] ⟨rfl,T0⟩ [(2,_),(3,_),(4,_),(5,_),(6,_),(7,_),(14,.val (Value.bool false))] [(2,_),(3,_),(4,_),(5,_)] (fun a w h=>?_)
    refine go_cond h false rfl (fun ht=>?_) (fun hf=>?_)
    case refine_1=>cases ht
    refine wp_skip ?_
    refine then_norm ?_
    refine aX h [2,3] [eS 18 _,eS 19 _,eS 20 (.val (Value.int .i64 ((k / 2 ^ (255-j) % 2:Nat):Int))),eS 21 (.val (Value.bool true))] ⟨rfl,rfl,fun L u=>u_call u (gd0 rfl) _ rfl _ _ _ rfl [_,_] rfl (cE85 _) (Value.int .i64 ((k / 2 ^ (255-j) % 2:Nat):Int)) (fun w hb=>by have:=s_bit (w:=w) k (255-j) (by omega);rw [show (((255-j:Nat)):Int)=255-(j:Int) by omega] at this;exact this),fun L u=>u_bin u (gd0 rfl) _ rfl _ _ _ _ _ rfl rfl rfl (eqg_int _ _ _ _ _ _ _ _) _ (yes_of (fun w=>i_eql _ _ _ _ w) (by omega)),T0⟩ [(2,_),(3,_),(4,_),(5,_),(6,_),(7,_),(21,.val (Value.bool true))] [(2,_),(3,_),(4,_),(5,_)] (fun a w h=>?_)
    refine go_cond h true rfl (fun ht=>?_) (fun hf=>?_)
    case refine_2=>cases hf
    refine aX h [2] [eS 22 _,eS 23 _,eS 24 _,eM 5 _] ⟨rfl,rfl,fun L u=>u_call u (gd0 rfl) _ rfl _ _ _ rfl [_,_] rfl (cE78 _) _ (fun w hb=>s_plus (hT.keep (Bs.kp_of hb)) _ _ _ _ _ _),rfl,T0⟩ [(2,_),(3,_),(4,_),(5,_),(7,_)] [(2,_),(3,_),(4,_),(5,gc ((fadd ⟨((fm k ⟨x,y,z⟩ (j)).1).x,((fm k ⟨x,y,z⟩ (j)).1).y,((fm k ⟨x,y,z⟩ (j)).1).z⟩ ⟨x,y,z⟩).x)++gc ((fadd ⟨((fm k ⟨x,y,z⟩ (j)).1).x,((fm k ⟨x,y,z⟩ (j)).1).y,((fm k ⟨x,y,z⟩ (j)).1).z⟩ ⟨x,y,z⟩).y)++gc ((fadd ⟨((fm k ⟨x,y,z⟩ (j)).1).x,((fm k ⟨x,y,z⟩ (j)).1).y,((fm k ⟨x,y,z⟩ (j)).1).z⟩ ⟨x,y,z⟩).z))] (fun a w h=>?_)
    refine aE h [] [eS 6 _] ⟨rfl,T0⟩ [(2,_),(3,_),(4,_),(5,_),(6,.val (Value.bool true)),(7,_)] [(2,_),(3,_),(4,_),(5,_)] (fun a w h=>?_)
    refine blk_norm ?_
    refine then_norm ?_
    refine aE h [1] [eS 12 _,eS 13 (.val (Value.int .i64 (255-((j+1:Nat):Int)))),eS 7 _] ⟨rfl,fun L u=>u_bin u (gd0 rfl) _ rfl _ _ _ _ _ rfl rfl rfl (eqg_int _ _ _ _ _ _ _ _) _ (fun w=>i_sub _ _ _ _ (by omega) (by omega) w),rfl,T0⟩ [(2,_),(3,_),(4,_),(5,_),(6,_),(7,.val (Value.int .i64 (255-((j+1:Nat):Int))))] [(2,_),(3,_),(4,_),(5,_)] (fun a w h=>?_)
    refine then_norm ?_
    exact ⟨j+1,(by omega),(by omega),h.keep [(2,.ptr 2 0),(3,.ptr 3 0),(4,.ptr 4 0),(5,.ptr 5 0),(6,.val (Value.bool ((fm k ⟨x,y,z⟩ (j+1)).2))),(7,.val (Value.int .i64 (255-((j+1:Nat):Int))))] [(2,nc ((k:Int))),(3,gc (x)++gc (y)++gc (z)),(4,nz++nz++nz),(5,gc (((fm k ⟨x,y,z⟩ (j+1)).1).x)++gc (((fm k ⟨x,y,z⟩ (j+1)).1).y)++gc (((fm k ⟨x,y,z⟩ (j+1)).1).z))] ⟨rfl,rfl,rfl,rfl,(by rw [fm_succ,if_pos hb];rfl),rfl,trivial⟩ ⟨rfl,rfl,rfl,(by rw [fm_succ,if_pos hb,if_neg (by rw [hg];decide)];rfl),trivial⟩ rfl⟩
   ·skip
    rw [Bool.not_eq_true] at hg
    rw [hg] at h
    refine wp_seq ?_
    refine aX h [1] [eS 10 _,eS 11 (.val (Value.bool true))] ⟨rfl,fun L u=>u_bin u (gd0 rfl) _ rfl _ _ _ _ _ rfl rfl rfl (eqg_int _ _ _ _ _ _ _ _) _ (yes_of (fun w=>i_geq _ _ _ _ w) (by omega)),T0⟩ [(2,_),(3,_),(4,_),(5,_),(6,_),(7,_),(11,.val (Value.bool true))] [(2,_),(3,_),(4,_),(5,_)] (fun a w h=>?_)
    refine go_cond h true rfl (fun ht=>?_) (fun hf=>?_)
    case refine_2=>cases hf
    refine wp_skip ?_
    refine then_norm ?_
    refine wp_seq ?_
    refine wp_block ?_
    refine wp_seq ?_
    refine aX h [] [eS 14 _] ⟨rfl,T0⟩ [(2,_),(3,_),(4,_),(5,_),(6,_),(7,_),(14,.val (Value.bool false))] [(2,_),(3,_),(4,_),(5,_)] (fun a w h=>?_)
    refine go_cond h false rfl (fun ht=>?_) (fun hf=>?_)
    case refine_1=>cases ht
    refine wp_skip ?_
    refine then_norm ?_
    refine aX h [2,3] [eS 18 _,eS 19 _,eS 20 (.val (Value.int .i64 ((k / 2 ^ (255-j) % 2:Nat):Int))),eS 21 (.val (Value.bool false))] ⟨rfl,rfl,fun L u=>u_call u (gd0 rfl) _ rfl _ _ _ rfl [_,_] rfl (cE85 _) (Value.int .i64 ((k / 2 ^ (255-j) % 2:Nat):Int)) (fun w hb=>by have:=s_bit (w:=w) k (255-j) (by omega);rw [show (((255-j:Nat)):Int)=255-(j:Int) by omega] at this;exact this),fun L u=>u_bin u (gd0 rfl) _ rfl _ _ _ _ _ rfl rfl rfl (eqg_int _ _ _ _ _ _ _ _) _ (no_of (fun w=>i_eql _ _ _ _ w) (by omega)),T0⟩ [(2,_),(3,_),(4,_),(5,_),(6,_),(7,_),(21,.val (Value.bool false))] [(2,_),(3,_),(4,_),(5,_)] (fun a w h=>?_)
    refine go_cond h false rfl (fun ht=>?_) (fun hf=>?_)
    case refine_1=>cases ht
    refine wp_skip ?_
    refine blk_norm ?_
    refine then_norm ?_
    refine aE h [1] [eS 12 _,eS 13 (.val (Value.int .i64 (255-((j+1:Nat):Int)))),eS 7 _] ⟨rfl,fun L u=>u_bin u (gd0 rfl) _ rfl _ _ _ _ _ rfl rfl rfl (eqg_int _ _ _ _ _ _ _ _) _ (fun w=>i_sub _ _ _ _ (by omega) (by omega) w),rfl,T0⟩ [(2,_),(3,_),(4,_),(5,_),(6,_),(7,.val (Value.int .i64 (255-((j+1:Nat):Int))))] [(2,_),(3,_),(4,_),(5,_)] (fun a w h=>?_)
    refine then_norm ?_
    exact ⟨j+1,(by omega),(by omega),h.keep [(2,.ptr 2 0),(3,.ptr 3 0),(4,.ptr 4 0),(5,.ptr 5 0),(6,.val (Value.bool ((fm k ⟨x,y,z⟩ (j+1)).2))),(7,.val (Value.int .i64 (255-((j+1:Nat):Int))))] [(2,nc ((k:Int))),(3,gc (x)++gc (y)++gc (z)),(4,nz++nz++nz),(5,gc (((fm k ⟨x,y,z⟩ (j+1)).1).x)++gc (((fm k ⟨x,y,z⟩ (j+1)).1).y)++gc (((fm k ⟨x,y,z⟩ (j+1)).1).z))] ⟨rfl,rfl,rfl,rfl,(by rw [fm_succ,if_neg hb];exact congrArg (fun t=>some (SV.val (Value.bool t))) hg.symm),rfl,trivial⟩ ⟨rfl,rfl,rfl,(by rw [fm_succ,if_neg hb,if_neg (by rw [hg];decide)];rfl),trivial⟩ rfl⟩
 ·skip
  refine wp_seq ?_
  refine aX h [1] [eS 10 _,eS 11 (.val (Value.bool false))] ⟨rfl,fun L u=>u_bin u (gd0 rfl) _ rfl _ _ _ _ _ rfl rfl rfl (eqg_int _ _ _ _ _ _ _ _) _ (no_of (fun w=>i_geq _ _ _ _ w) (by omega)),T0⟩ [(2,_),(3,_),(4,_),(5,_),(6,_),(7,_),(11,.val (Value.bool false))] [(2,_),(3,_),(4,_),(5,_)] (fun a w h=>?_)
  refine go_cond h false rfl (fun ht=>?_) (fun hf=>?_)
  case refine_1=>cases ht
  refine wp_exit ?_
  refine then_exit ?_
  refine then_exit ?_
  refine blk_exit ?_
  refine then_norm ?_
  refine aX h [] [eS 25 _,eM 4 _] ⟨rfl,rfl,T0⟩ [(4,_)] [(4,gc (((fm k ⟨x,y,z⟩ (j)).1).x)++gc (((fm k ⟨x,y,z⟩ (j)).1).y)++gc (((fm k ⟨x,y,z⟩ (j)).1).z))] (fun a w h=>?_)
  refine wp_ret ?_
  refine ret_row h 4 58 rfl (lk rfl) 4 rfl (gc (((fm k ⟨x,y,z⟩ (j)).1).x)++gc (((fm k ⟨x,y,z⟩ (j)).1).y)++gc (((fm k ⟨x,y,z⟩ (j)).1).z)) rfl _ Tryz.underlying58 rfl i58 ?_
  exact ⟨by rw [show j=256 by omega];rfl,h.grows⟩
def rpE (X Y:Int) (t:Bool):Ep m2:=if t=false∧X<md 2∧Y<md 2∧(kc Y:Fin m2)*kc Y-kc X*kc X=1+ed*(kc X*kc X*(kc Y*kc Y)) then ⟨kc X,kc Y⟩ else Ep.o m2
theorem rpE_on (X Y:Int) (t:Bool):(rpE X Y t).on ed:=by
 unfold rpE
 split
 ·rename_i h;exact h.2.2.2
 ·exact Ep.o_on ed
theorem nc_gc {X:Int} (h0:0≤X) (h:X<md 2):nc X=gc (kc X):=by
 rw [gc,kc_val,← md_m2,Int.emod_eq_of_lt h0 h]
def rc (X Y:Int) (t:Bool):List Value:=nc X++nc Y++[Value.bool t]
theorem s_lift {w:World} (hT:Tab w) {X Y:Int} (hX:Num X) (hY:Num Y) (t:Bool):Calls Tryz.prog 42 [.agg (rc X Y t).toArray].toArray w fun e w'=>e=.returned (.agg (fjc (flift (rpE X Y t))).toArray)∧Below w.heap.size w w':=by
 cases t with
 | true =>
  rw [show rpE X Y true=Ep.o m2 from if_neg (fun h=>by cases h.1)]
  exact s_lift_none
 | false =>
  by_cases h1:X<md 2
  ·by_cases h2:Y<md 2
   ·have e1:=nc_gc hX.lo h1
    have e2:=nc_gc hY.lo h2
    rw [rc,e1,e2]
    by_cases h3:(kc Y:Fin m2)*kc Y-kc X*kc X=1+ed*(kc X*kc X*(kc Y*kc Y))
    ·rw [show rpE X Y false=⟨kc X,kc Y⟩ from if_pos ⟨rfl,h1,h2,h3⟩]
     exact s_lift_on hT h3
    ·rw [show rpE X Y false=Ep.o m2 from if_neg (fun h=>h3 h.2.2.2)]
     exact s_lift_off hT h3
   ·rw [show rpE X Y false=Ep.o m2 from if_neg (fun h=>h2 h.2.2.1)]
    exact s_lift_y hX (decide_eq_true h1) hY (decide_eq_false h2)
  ·rw [show rpE X Y false=Ep.o m2 from if_neg (fun h=>h1 h.2.1)]
   exact s_lift_x hX (decide_eq_false h1)
theorem s_Add0 {w:World} (hT:Tab w) {X Y X2 Y2:Int} (hX:Num X) (hY:Num Y) (hX2:Num X2) (hY2:Num Y2) (t t2:Bool):Calls Tryz.prog 34 [.agg (rc X Y t).toArray,.agg (rc X2 Y2 t2).toArray].toArray w fun e w'=>e=.returned (.agg (pcE (fdrop (fadd (flift (rpE X Y t)) (flift (rpE X2 Y2 t2))))).toArray)∧Below w.heap.size w w':=by
 refine enter (args:=[.agg (rc X Y t).toArray,.agg (rc X2 Y2 t2).toArray]) Tryz.func34 rfl 11 rfl (lk rfl) (fun a h=>?_)
 refine aX h [] [eN 2 _,eN 3 _,eN 4 _] ⟨rfl,rfl,rfl,T0⟩ [(2,.ptr 2 0),(3,.ptr 3 0),(4,.ptr 4 0)] [(2,rc X Y t),(3,rc X2 Y2 t2),(4,nz++nz++[Value.bool false])] (fun a w h=>?_)
 refine aX h [1,3,4,5] [eS 5 _,eS 6 _,eS 7 _,eS 8 _,eS 9 _,eS 10 _,eM 4 _] ⟨rfl,fun L u=>u_call u (gd0 rfl) _ rfl _ _ _ rfl [_] rfl (cE42 _) _ (fun w hb=>s_lift (hT.keep (Bs.kp_of hb)) hX hY t),rfl,fun L u=>u_call u (gd0 rfl) _ rfl _ _ _ rfl [_] rfl (cE42 _) _ (fun w hb=>s_lift (hT.keep (Bs.kp_of hb)) hX2 hY2 t2),fun L u=>u_call u (gd0 rfl) _ rfl _ _ _ rfl [_,_] rfl (cE78 _) _ (fun w hb=>s_plus (hT.keep (Bs.kp_of hb)) _ _ _ _ _ _),fun L u=>u_call u (gd0 rfl) _ rfl _ _ _ rfl [_] rfl (cE40 _) _ (fun w hb=>s_drop (hT.keep (Bs.kp_of hb)) _ _ _),rfl,T0⟩ [(4,_)] [(4,pcE (fdrop ⟨(fadd ⟨(flift (rpE X Y t)).x,(flift (rpE X Y t)).y,(flift (rpE X Y t)).z⟩ ⟨(flift (rpE X2 Y2 t2)).x,(flift (rpE X2 Y2 t2)).y,(flift (rpE X2 Y2 t2)).z⟩).x,(fadd ⟨(flift (rpE X Y t)).x,(flift (rpE X Y t)).y,(flift (rpE X Y t)).z⟩ ⟨(flift (rpE X2 Y2 t2)).x,(flift (rpE X2 Y2 t2)).y,(flift (rpE X2 Y2 t2)).z⟩).y,(fadd ⟨(flift (rpE X Y t)).x,(flift (rpE X Y t)).y,(flift (rpE X Y t)).z⟩ ⟨(flift (rpE X2 Y2 t2)).x,(flift (rpE X2 Y2 t2)).y,(flift (rpE X2 Y2 t2)).z⟩).z⟩))] (fun a w h=>?_)
 refine wp_ret ?_
 refine ret_row h 4 40 rfl (lk rfl) 4 rfl (pcE (fdrop ⟨(fadd ⟨(flift (rpE X Y t)).x,(flift (rpE X Y t)).y,(flift (rpE X Y t)).z⟩ ⟨(flift (rpE X2 Y2 t2)).x,(flift (rpE X2 Y2 t2)).y,(flift (rpE X2 Y2 t2)).z⟩).x,(fadd ⟨(flift (rpE X Y t)).x,(flift (rpE X Y t)).y,(flift (rpE X Y t)).z⟩ ⟨(flift (rpE X2 Y2 t2)).x,(flift (rpE X2 Y2 t2)).y,(flift (rpE X2 Y2 t2)).z⟩).y,(fadd ⟨(flift (rpE X Y t)).x,(flift (rpE X Y t)).y,(flift (rpE X Y t)).z⟩ ⟨(flift (rpE X2 Y2 t2)).x,(flift (rpE X2 Y2 t2)).y,(flift (rpE X2 Y2 t2)).z⟩).z⟩)) rfl _ Tryz.underlying40 rfl i40 ?_
 exact ⟨rfl,h.grows⟩
theorem s_Mul0 {w:World} (hT:Tab w) (k:Nat) {X Y:Int} (hX:Num X) (hY:Num Y) (t:Bool):Calls Tryz.prog 17 [.agg (nc ((k:Int))).toArray,.agg (rc X Y t).toArray].toArray w fun e w'=>e=.returned (.agg (pcE (fdrop (fm k (flift (rpE X Y t)) 256).1)).toArray)∧Below w.heap.size w w':=by
 refine enter (args:=[.agg (nc ((k:Int))).toArray,.agg (rc X Y t).toArray]) Tryz.func17 rfl 10 rfl (lk rfl) (fun a h=>?_)
 refine aX h [] [eN 2 _,eN 3 _,eN 4 _] ⟨rfl,rfl,rfl,T0⟩ [(2,.ptr 2 0),(3,.ptr 3 0),(4,.ptr 4 0)] [(2,nc ((k:Int))),(3,rc X Y t),(4,nz++nz++[Value.bool false])] (fun a w h=>?_)
 refine aX h [2,3,4] [eS 5 _,eS 6 _,eS 7 _,eS 8 _,eS 9 _,eM 4 _] ⟨rfl,rfl,fun L u=>u_call u (gd0 rfl) _ rfl _ _ _ rfl [_] rfl (cE42 _) _ (fun w hb=>s_lift (hT.keep (Bs.kp_of hb)) hX hY t),fun L u=>u_call u (gd0 rfl) _ rfl _ _ _ rfl [_,_] rfl (cE41 _) _ (fun w hb=>s_mult (hT.keep (Bs.kp_of hb)) _ _ _ _),fun L u=>u_call u (gd0 rfl) _ rfl _ _ _ rfl [_] rfl (cE40 _) _ (fun w hb=>s_drop (hT.keep (Bs.kp_of hb)) _ _ _),rfl,T0⟩ [(4,_)] [(4,pcE (fdrop ⟨((fm k ⟨(flift (rpE X Y t)).x,(flift (rpE X Y t)).y,(flift (rpE X Y t)).z⟩ 256).1).x,((fm k ⟨(flift (rpE X Y t)).x,(flift (rpE X Y t)).y,(flift (rpE X Y t)).z⟩ 256).1).y,((fm k ⟨(flift (rpE X Y t)).x,(flift (rpE X Y t)).y,(flift (rpE X Y t)).z⟩ 256).1).z⟩))] (fun a w h=>?_)
 refine wp_ret ?_
 refine ret_row h 4 40 rfl (lk rfl) 4 rfl (pcE (fdrop ⟨((fm k ⟨(flift (rpE X Y t)).x,(flift (rpE X Y t)).y,(flift (rpE X Y t)).z⟩ 256).1).x,((fm k ⟨(flift (rpE X Y t)).x,(flift (rpE X Y t)).y,(flift (rpE X Y t)).z⟩ 256).1).y,((fm k ⟨(flift (rpE X Y t)).x,(flift (rpE X Y t)).y,(flift (rpE X Y t)).z⟩ 256).1).z⟩)) rfl _ Tryz.underlying40 rfl i40 ?_
 exact ⟨rfl,h.grows⟩
theorem pcE_G:pcE eG=[Value.int .u64 14507833142362363162]++[Value.int .u64 7578651490590762930]++[Value.int .u64 13881468655802702940]++[Value.int .u64 2407515759118799870]++[Value.int .u64 7378697629483820632]++[Value.int .u64 7378697629483820646]++[Value.int .u64 7378697629483820646]++[Value.int .u64 7378697629483820646]++[Value.bool false]:=by kernel_rfl
theorem s_Base {w:World} :Calls Tryz.prog 18 [].toArray w fun e w'=>e=.returned (.agg (pcE eG).toArray)∧Below w.heap.size w w':=by
 refine enter (args:=[]) Tryz.func18 rfl 4 rfl (lk rfl) (fun a h=>?_)
 refine aX h [] [eN 0 _] ⟨rfl,T0⟩ [(0,.ptr 0 0)] [(0,nz++nz++[Value.bool false])] (fun a w h=>?_)
 refine aX h [0,1,2] [eS 1 (.val (.agg ([(Value.int IntKind.u64 14507833142362363162)]++[(Value.int IntKind.u64 7578651490590762930)]++[(Value.int IntKind.u64 13881468655802702940)]++[(Value.int IntKind.u64 2407515759118799870)]).toArray)),eS 2 (.val (.agg ([(Value.int IntKind.u64 7378697629483820632)]++[(Value.int IntKind.u64 7378697629483820646)]++[(Value.int IntKind.u64 7378697629483820646)]++[(Value.int IntKind.u64 7378697629483820646)]).toArray)),eS 3 (.val (.agg ([(Value.int IntKind.u64 14507833142362363162)]++[(Value.int IntKind.u64 7578651490590762930)]++[(Value.int IntKind.u64 13881468655802702940)]++[(Value.int IntKind.u64 2407515759118799870)]++[(Value.int IntKind.u64 7378697629483820632)]++[(Value.int IntKind.u64 7378697629483820646)]++[(Value.int IntKind.u64 7378697629483820646)]++[(Value.int IntKind.u64 7378697629483820646)]++[Value.bool false]).toArray)),eM 0 _] ⟨fun L u=>u_build u (gd0 rfl) 1 rfl 34 #[(0,(.const (.int .u64 14507833142362363162))),(1,(.const (.int .u64 7578651490590762930))),(2,(.const (.int .u64 13881468655802702940))),(3,(.const (.int .u64 2407515759118799870)))] rfl [(0,(Value.int IntKind.u64 14507833142362363162)),(1,(Value.int IntKind.u64 7578651490590762930)),(2,(Value.int IntKind.u64 13881468655802702940)),(3,(Value.int IntKind.u64 2407515759118799870))] rfl ([(Value.int IntKind.u64 14507833142362363162)]++[(Value.int IntKind.u64 7578651490590762930)]++[(Value.int IntKind.u64 13881468655802702940)]++[(Value.int IntKind.u64 2407515759118799870)]) (g_bN4 _ _ _ _),fun L u=>u_build u (gd0 rfl) 2 rfl 34 #[(0,(.const (.int .u64 7378697629483820632))),(1,(.const (.int .u64 7378697629483820646))),(2,(.const (.int .u64 7378697629483820646))),(3,(.const (.int .u64 7378697629483820646)))] rfl [(0,(Value.int IntKind.u64 7378697629483820632)),(1,(Value.int IntKind.u64 7378697629483820646)),(2,(Value.int IntKind.u64 7378697629483820646)),(3,(Value.int IntKind.u64 7378697629483820646))] rfl ([(Value.int IntKind.u64 7378697629483820632)]++[(Value.int IntKind.u64 7378697629483820646)]++[(Value.int IntKind.u64 7378697629483820646)]++[(Value.int IntKind.u64 7378697629483820646)]) (g_bN4 _ _ _ _),fun L u=>u_build u (gd0 rfl) 3 rfl 40 #[(0,(.tmp 1)),(1,(.tmp 2))] rfl [(0,.agg ([(Value.int IntKind.u64 14507833142362363162)]++[(Value.int IntKind.u64 7578651490590762930)]++[(Value.int IntKind.u64 13881468655802702940)]++[(Value.int IntKind.u64 2407515759118799870)]).toArray),(1,.agg ([(Value.int IntKind.u64 7378697629483820632)]++[(Value.int IntKind.u64 7378697629483820646)]++[(Value.int IntKind.u64 7378697629483820646)]++[(Value.int IntKind.u64 7378697629483820646)]).toArray)] rfl ([(Value.int IntKind.u64 14507833142362363162)]++[(Value.int IntKind.u64 7578651490590762930)]++[(Value.int IntKind.u64 13881468655802702940)]++[(Value.int IntKind.u64 2407515759118799870)]++[(Value.int IntKind.u64 7378697629483820632)]++[(Value.int IntKind.u64 7378697629483820646)]++[(Value.int IntKind.u64 7378697629483820646)]++[(Value.int IntKind.u64 7378697629483820646)]++[Value.bool false]) (g_bPc _ _ _ _ _ _ _ _),rfl,T0⟩ [(0,_)] [(0,[(Value.int IntKind.u64 14507833142362363162)]++[(Value.int IntKind.u64 7578651490590762930)]++[(Value.int IntKind.u64 13881468655802702940)]++[(Value.int IntKind.u64 2407515759118799870)]++[(Value.int IntKind.u64 7378697629483820632)]++[(Value.int IntKind.u64 7378697629483820646)]++[(Value.int IntKind.u64 7378697629483820646)]++[(Value.int IntKind.u64 7378697629483820646)]++[Value.bool false])] (fun a w h=>?_)
 refine wp_ret ?_
 refine ret_row h 0 40 rfl (lk rfl) 0 rfl ([(Value.int IntKind.u64 14507833142362363162)]++[(Value.int IntKind.u64 7578651490590762930)]++[(Value.int IntKind.u64 13881468655802702940)]++[(Value.int IntKind.u64 2407515759118799870)]++[(Value.int IntKind.u64 7378697629483820632)]++[(Value.int IntKind.u64 7378697629483820646)]++[(Value.int IntKind.u64 7378697629483820646)]++[(Value.int IntKind.u64 7378697629483820646)]++[Value.bool false]) rfl _ Tryz.underlying40 rfl i40 ?_
 exact ⟨by rw [pcE_G],h.grows⟩
theorem s_Add {w:World} (hT:Tab w) {X Y X2 Y2:Int} (hX:Num X) (hY:Num Y) (hX2:Num X2) (hY2:Num Y2) (t t2:Bool):Calls Tryz.prog 34 [.agg (rc X Y t).toArray,.agg (rc X2 Y2 t2).toArray].toArray w fun e w'=>e=.returned (.agg (pcE (eadd (rpE X Y t) (rpE X2 Y2 t2))).toArray)∧Below w.heap.size w w':=by
 have h:=s_Add0 hT hX hY hX2 hY2 t t2
 rw [(fadd_ok (fo_lift (rpE_on X Y t)) (fo_lift (rpE_on X2 Y2 t2))).2,fdrop_lift,fdrop_lift] at h
 exact h
theorem s_Mul {w:World} (hT:Tab w) {k:Nat} (hk:k<2 ^ 256) {X Y:Int} (hX:Num X) (hY:Num Y) (t:Bool):Calls Tryz.prog 17 [.agg (nc (k:Int)).toArray,.agg (rc X Y t).toArray].toArray w fun e w'=>e=.returned (.agg (pcE (mt eadd (Ep.o m2) (rpE X Y t) k)).toArray)∧Below w.heap.size w w':=by
 have h:=s_Mul0 hT k hX hY t
 rw [fm_all hk (fo_lift (rpE_on X Y t)),fdrop_lift] at h
 exact h
end Go.Proofs.YtjaahnlpnkcimaaGreatDoor
namespace Go.Proofs.YtjaahnlpnkcimaaGreatDoor
set_option maxRecDepth 100000
open Go.RowKit
theorem fields40 : Tryz.prog.fieldsOf 40 = #[{ name := "X", type := 34, offset := 0, embedded := false, tag := "", pkgPath := "", byteOffset := 0 }, { name := "Y", type := 34, offset := 4, embedded := false, tag := "", pkgPath := "", byteOffset := 32 }, { name := "None", type := 4, offset := 8, embedded := false, tag := "", pkgPath := "", byteOffset := 64 }] := by kernel_rfl
theorem isAgg34 (w:World):(isAgg 34).run Tryz.prog w=.ok true w:=by
 unfold isAgg
 rw [Sem.run_bind,run_underlying Tryz.underlying34 w]
 rfl
theorem isAgg4 (w:World):(isAgg 4).run Tryz.prog w=.ok false w:=by
 unfold isAgg
 rw [Sem.run_bind,run_underlying Tryz.underlying4 w]
 rfl
theorem size34 (w:World):(sizeOf 34).run Tryz.prog w=.ok 4 w:=by
 have h:=i34
 cases hq:Tryz.prog.info? 34 with
 | none=>rw [hq] at h;cases h
 | some i =>
  rw [hq] at h
  simp at h
  simp [sizeOf,typeInfo,hq,h]
theorem its_cons (xs ys:Array Value) (j:Nat) (js:List Nat) (x y:Int) (r:Bool) (hx:xs[j]?=some (.int .u64 x)) (hy:ys[j]?=some (.int .u64 y)) (w:World)
  (h:(Op.eqItems 9998 32 1 xs ys js).run Tryz.prog w=.ok r w):(Op.eqItems 9998 32 1 xs ys (j :: js)).run Tryz.prog w=.ok (x == y && r) w:=by
 have he:Tryz.prog.plainKey 32=true:=by kernel_rfl
 simp only [Op.eqItems,Sem.run_bind,Nat.mul_one,run_part_plain w he hx,run_part_plain w he hy,Result.andThen_ok,run_equalIn_int w 9997 32 .u64 .u64 x y Tryz.underlying32]
 cases x == y <;> simp [h]
theorem eq_in {a b:Int} (ha:Num a) (hb:Num b) (w:World):(Op.equalIn 9999 34 (.agg (nc a).toArray) (.agg (nc b).toArray)).run Tryz.prog w=.ok (decide (a=b)) w:=by
 rw [← nc_eq ha hb]
 obtain ⟨i,hi⟩:=Option.isSome_iff_exists.1 (show (Tryz.prog.info? 32).isSome=true by kernel_rfl)
 rw [run_equalIn_array w 9998 _ _ Tryz.underlying34 hi]
 have hc:Tryz.prog.cellsOf 32=1:=by kernel_rfl
 have r4:List.range 4=[0,1,2,3]:=rfl
 rw [hc,r4]
 exact its_cons _ _ 0 _ _ _ _ rfl rfl w (its_cons _ _ 1 _ _ _ _ rfl rfl w (its_cons _ _ 2 _ _ _ _ rfl rfl w (its_cons _ _ 3 _ _ _ _ rfl rfl w rfl)))
theorem eqf_cons {dd : Nat} {xs ys : Array Value} {f : Field} {fs : List Field} {a b : Value} {r s : Bool} {w : World} (hn : f.name ≠ "_") (h1 : (part f.type xs f.offset).run Tryz.prog w = .ok a w) (h2 : (part f.type ys f.offset).run Tryz.prog w = .ok b w) (h3 : (Op.equalIn dd f.type a b).run Tryz.prog w = .ok r w) (h4 : (Op.eqFields dd xs ys fs).run Tryz.prog w = .ok s w) : (Op.eqFields dd xs ys (f :: fs)).run Tryz.prog w = .ok (r && s) w := by
 rw [Op.eqFields,if_pos hn]
 simp only [Sem.run_bind,h1,h2,h3,Result.andThen_ok]
 cases r
 ·rfl
 ·exact h4
theorem eq_pt {a b c d:Int} (ha:Num a) (hb:Num b) (hc:Num c) (hd:Num d) (s t:Bool) (w:World):(Op.equalIn 10000 40 (.agg (nc a++nc b++[Value.bool s]).toArray) (.agg (nc c++nc d++[Value.bool t]).toArray)).run Tryz.prog w=.ok (decide (a=c∧b=d∧s=t)) w:=by
 have e1:∀ w,(part 34 (nc a++nc b++[Value.bool s]).toArray 0).run Tryz.prog w=.ok (.agg (nc a).toArray) w:=fun w=>by unfold part;simp only [Sem.run_bind,isAgg34,Result.andThen_ok,if_true,size34,Sem.run_pure];rfl
 have e2:∀ w,(part 34 (nc c++nc d++[Value.bool t]).toArray 0).run Tryz.prog w=.ok (.agg (nc c).toArray) w:=fun w=>by unfold part;simp only [Sem.run_bind,isAgg34,Result.andThen_ok,if_true,size34,Sem.run_pure];rfl
 have e3:∀ w,(part 34 (nc a++nc b++[Value.bool s]).toArray 4).run Tryz.prog w=.ok (.agg (nc b).toArray) w:=fun w=>by unfold part;simp only [Sem.run_bind,isAgg34,Result.andThen_ok,if_true,size34,Sem.run_pure];rfl
 have e4:∀ w,(part 34 (nc c++nc d++[Value.bool t]).toArray 4).run Tryz.prog w=.ok (.agg (nc d).toArray) w:=fun w=>by unfold part;simp only [Sem.run_bind,isAgg34,Result.andThen_ok,if_true,size34,Sem.run_pure];rfl
 have e5:∀ w,(part 4 (nc a++nc b++[Value.bool s]).toArray 8).run Tryz.prog w=.ok (.bool s) w:=fun w=>by unfold part;simp only [Sem.run_bind,isAgg4,Result.andThen_ok,Bool.false_eq_true,if_false];rfl
 have e6:∀ w,(part 4 (nc c++nc d++[Value.bool t]).toArray 8).run Tryz.prog w=.ok (.bool t) w:=fun w=>by unfold part;simp only [Sem.run_bind,isAgg4,Result.andThen_ok,Bool.false_eq_true,if_false];rfl
 have hf:Tryz.prog.underlying 40=some (.struct (Tryz.prog.fieldsOf 40)):=by rw [fields40];exact Tryz.underlying40
 rw [run_equalIn_struct w 9999 40 _ _ hf Tryz.stoodInHeld40,fields40]
 have hb':=fun w=>run_equalIn_bool' (P:=Tryz.prog) w 9998 4 s t Tryz.underlying4
 refine Eq.trans (eqf_cons (by decide) (e1 w) (e2 w) (eq_in ha hc w) (eqf_cons (by decide) (e3 w) (e4 w) (eq_in hb hd w) (eqf_cons (by decide) (e5 w) (e6 w) (hb' w) rfl))) ?_
 congr 1
 by_cases h1:a=c
 ·by_cases h2:b=d
  ·subst h1 h2
   cases s <;> cases t <;> simp
  ·simp [h2]
 ·simp [h1]
def fmdE (X Y:Int) (t:Bool):Bool:=decide (t=false∧X<md 2∧Y<md 2∧(kc Y:Fin m2)*kc Y-kc X*kc X=1+ed*(kc X*kc X*(kc Y*kc Y)))
theorem rpE_pc {a:Ep m2} (h:a.on ed):rpE (a.x.val:Int) (a.y.val:Int) false=a:=by
 obtain ⟨x,y⟩:=a
 have hc:y*y-x*x=1+ed*(x*x*(y*y)):=h
 have e:rpE (x.val:Int) (y.val:Int) false=⟨kc (x.val:Int),kc (y.val:Int)⟩:=if_pos ⟨rfl,of_decide_eq_true (gin_lt x),of_decide_eq_true (gin_lt y),by rw [kc_self,kc_self];exact hc⟩
 rw [kc_self,kc_self] at e
 exact e
theorem fmdE_rp {X Y:Int} {t:Bool} (h:fmdE X Y t=false):rpE X Y t=Ep.o m2:=if_neg (of_decide_eq_false h)
end Go.Proofs.YtjaahnlpnkcimaaGreatDoor
namespace Go.Proofs.YtjaahnlpnkcimaaGreatDoor
set_option maxRecDepth 100000
def imN:Nat:=19681161376707505956807079304988542015446066515923890162744021073123829784752
def im:Fin m2:=kc (imN:Int)
theorem im_sq:im*im=- 1:=by
 rw [im,← kc_mul]
 exact neg_kc (by decide +kernel) rfl
def xx2 (y:Fin m2):Fin m2:=(y*y-1)*fiv (ed*(y*y)+1)
def ex8:Nat:=7237005577332262213973186563042994240829374041602535252466099000494570602494
theorem ex8_4:2*(2*ex8)=(m2-1) / 2+2:=by decide +kernel
theorem ex8_pos:ex8=7237005577332262213973186563042994240829374041602535252466099000494570602493+1:=by decide +kernel
def rt (y:Fin m2):Fin m2:=xx2 y ^ ex8
theorem nil_den {p:Nat} [NeZero p] (d:Fin p) (h:d*(0*0)+1=0):(1:Fin p)=0:=by grobner
theorem den_ne (y:Fin m2):ed*(y*y)+1≠0:=by
 intro h
 by_cases hy:y=0
 ·have h1:=fld2.one
  subst hy
  exact h1 (nil_den ed h)
 ·refine ns_frac ek2 (u:=im) (v:=y) hy ?_
  have:=im_sq
  clear hy
  grobner
theorem on_xx {a:Ep m2} (h:a.on ed):a.x*a.x=xx2 a.y:=by
 have h1:=fld2.inv _ (den_ne a.y)
 unfold Ep.on at h
 unfold xx2
 generalize fiv (ed*(a.y*a.y)+1)=v at *
 generalize a.x=x at *
 generalize a.y=y at *
 generalize ed=d at *
 grobner
theorem sq_two {x y:Fin m2} (h:x*x=y*y):y=x∨y=- x:=by
 have e:(y-x)*(y+x)=0:=by grobner
 rcases fld2.dom e with e | e
 ·exact Or.inl (by clear h;grobner)
 ·exact Or.inr (by clear h;grobner)
theorem pow_nil {n:Nat}:(0:Fin m2) ^ (n+1)=0:=by
 have:(0:Fin m2) ^ (n+1)=0 ^ n*0:=by grobner
 rw [this]
 generalize (0:Fin m2) ^ n=z
 grobner
theorem pow_two_more (x:Fin m2) (n:Nat):x ^ (n+2)=x ^ n*(x*x):=by grobner
theorem pow_mul_self (x:Fin m2) (n:Nat):x ^ n*x ^ n=x ^ (2*n):=by
 rw [← pow_sq]
 have h:∀ n:Nat,x ^ n*x ^ n=(x*x) ^ n:=fun n=>by
  induction n with
  | zero=>grobner
  | succ n ih =>
   have a1:x ^ (n+1)*x ^ (n+1)=x ^ n*x ^ n*(x*x):=by clear ih;grobner
   have a2:(x*x) ^ (n+1)=(x*x) ^ n*(x*x):=by clear ih a1;grobner
   rw [a1,a2,ih]
 exact h n
theorem rt_sq (x:Fin m2):(x*x) ^ ex8*(x*x) ^ ex8=x*x∨(x*x) ^ ex8*(x*x) ^ ex8=- (x*x):=by
 by_cases hx:x=0
 ·subst hx
  left
  rw [show (0:Fin m2)*0=0 from nil_sq,ex8_pos,pow_nil]
  exact nil_sq
 ·have h1:(x*x) ^ ex8*(x*x) ^ ex8=x ^ ((m2-1) / 2)*(x*x):=by
   rw [pow_sq,pow_mul_self,ex8_4,pow_two_more]
  have h2:x ^ ((m2-1) / 2)*x ^ ((m2-1) / 2)=1:=by
   rw [pow_mul_self,show 2*((m2-1) / 2)=m2-1 by unfold m2 q2;omega]
   exact fermat_fin m2_full hx
  rw [h1]
  clear h1
  generalize x ^ ((m2-1) / 2)=u at *
  rcases sq_two (x:=1) (y:=u) (by grobner) with rfl | rfl
  ·left;grobner
  ·right;grobner
theorem rt_ok {a:Ep m2} (h:a.on ed):(rt a.y*rt a.y=xx2 a.y∧(a.x=rt a.y∨a.x=- rt a.y))∨(rt a.y*rt a.y=- xx2 a.y∧(a.x=rt a.y*im∨a.x=- (rt a.y*im))):=by
 have e:=on_xx h
 have r:=rt_sq a.x
 rw [e] at r
 rcases r with r | r
 ·exact Or.inl ⟨r,sq_two (show rt a.y*rt a.y=a.x*a.x by rw [e];exact r)⟩
 ·refine Or.inr ⟨r,sq_two ?_⟩
  rw [e]
  have r2:rt a.y*rt a.y=- xx2 a.y:=r
  have i2:=im_sq
  clear r e h
  generalize rt a.y=x at *
  generalize xx2 a.y=z at *
  grobner
theorem neg_val {x:Fin m2} (h:x≠0):(- x).val=m2-x.val:=by
 have h0:x.val≠0:=fun e=>h (Fin.ext (by rw [e];rfl))
 have h1:=x.isLt
 rw [Fin.val_neg,if_neg h]
theorem par_neg {x:Fin m2} (h:x≠0):(- x).val % 2≠x.val % 2:=by
 rw [neg_val h]
 have h1:=x.isLt
 unfold m2 q2 at *
 omega
theorem par_one {x y:Fin m2} (h:y=x∨y=- x) (e:y.val % 2=x.val % 2):y=x:=by
 rcases h with h | h
 ·exact h
 ·by_cases h0:x=0
  ·rw [h,h0];decide +kernel
  ·exact absurd (h ▸ e) (par_neg h0)
theorem par_other {x y:Fin m2} (h:y=x∨y=- x) (e:y.val % 2≠x.val % 2):y=- x:=by
 rcases h with h | h
 ·exact absurd (by rw [h]) e
 ·exact h
def code (a:Ep m2):Nat:=a.y.val+2 ^ 255*(a.x.val % 2)
theorem y_lt (a:Ep m2):a.y.val<2 ^ 255:=by
 have:=a.y.isLt
 unfold m2 q2 at this
 omega
theorem code_mod (a:Ep m2):code a % 2 ^ 255=a.y.val:=by
 have:=y_lt a
 unfold code
 rw [Nat.add_mul_mod_self_left,Nat.mod_eq_of_lt this]
theorem code_div (a:Ep m2):code a / 2 ^ 255=a.x.val % 2:=by
 have:=y_lt a
 unfold code
 rw [Nat.add_mul_div_left _ _ (by decide),Nat.div_eq_of_lt this,Nat.zero_add]
theorem code_lt (a:Ep m2):code a<2 ^ 256:=by
 have:=y_lt a
 have:a.x.val % 2<2:=Nat.mod_lt _ (by decide)
 unfold code
 omega
theorem code_inj {a b:Ep m2} (ha:a.on ed) (hb:b.on ed) (h:code a=code b):a=b:=by
 have e1:a.y=b.y:=Fin.ext (by rw [← code_mod,← code_mod,h])
 have e2:a.x.val % 2=b.x.val % 2:=by rw [← code_div,← code_div,h]
 have e3:a.x=b.x:=par_one (sq_two (by rw [on_xx ha,on_xx hb,e1])) e2
 cases a;cases b;cases e1;cases e3;rfl
def tr (y:Fin m2):Nat→Fin m2
 | 0=>rt y
 | 1=>rt y*im
 | 2=>0-rt y
 | _+3=>0-rt y*im
def goodB (U:Nat) (y:Fin m2) (i:Nat):Bool:=decide (y*y-tr y i*tr y i=1+ed*(tr y i*tr y i*(y*y))) && decide (code ⟨tr y i,y⟩=U)
theorem goodB_iff {U:Nat} {y:Fin m2} {i:Nat}:goodB U y i=true ↔ (⟨tr y i,y⟩:Ep m2).on ed∧code ⟨tr y i,y⟩=U:=by
 unfold goodB Ep.on
 rw [Bool.and_eq_true,decide_eq_true_eq,decide_eq_true_eq]
def dec (U:Nat):Option (Ep m2):=if U % 2 ^ 255<m2 then ((List.range 4).find? (goodB U (kc ((U % 2 ^ 255:Nat):Int)))).map fun i=>⟨tr (kc ((U % 2 ^ 255:Nat):Int)) i,kc ((U % 2 ^ 255:Nat):Int)⟩ else none
theorem dec_is {U:Nat} {a:Ep m2} (h:dec U=some a):a.on ed∧code a=U:=by
 unfold dec at h
 split at h
 ·rw [Option.map_eq_some_iff] at h
  obtain ⟨i,hi,rfl⟩:=h
  exact goodB_iff.1 (List.find?_some hi)
 ·cases h
theorem tr_ok {a:Ep m2} (h:a.on ed):∃ i,i<4∧tr a.y i=a.x:=by
 rcases rt_ok h with ⟨_,e | e⟩ | ⟨_,e | e⟩
 ·exact ⟨0,by decide,e.symm⟩
 ·exact ⟨2,by decide,by rw [e];show 0-rt a.y=_;generalize rt a.y=x;grobner⟩
 ·exact ⟨1,by decide,e.symm⟩
 ·exact ⟨3,by decide,by rw [e];show 0-rt a.y*im=_;generalize rt a.y*im=x;grobner⟩
theorem y_of_code {U:Nat} {a:Ep m2} (h:code a=U):U % 2 ^ 255<m2∧(kc ((U % 2 ^ 255:Nat):Int):Fin m2)=a.y:=by
 rw [← h,code_mod]
 exact ⟨a.y.isLt,kc_self _⟩
theorem dec_of {U:Nat} {a:Ep m2} (ha:a.on ed) (hc:code a=U):dec U=some a:=by
 obtain ⟨hy,e⟩:=y_of_code hc
 obtain ⟨i,hi,et⟩:=tr_ok ha
 have hg:goodB U a.y i=true:=goodB_iff.2 (by rw [et];exact ⟨ha,hc⟩)
 cases hd:dec U with
 | some b=>rw [code_inj (dec_is hd).1 ha ((dec_is hd).2.trans hc.symm)]
 | none =>
  unfold dec at hd
  rw [if_pos hy,e,Option.map_eq_none_iff,List.find?_eq_none] at hd
  exact absurd hg (hd i (List.mem_range.2 hi))
theorem dec_none {U:Nat} (h:∀ a:Ep m2,a.on ed→code a≠U):dec U=none:=by
 cases hd:dec U with
 | none=>rfl
 | some b=>exact absurd (dec_is hd).2 (h b (dec_is hd).1)
def dpt (U:Nat):Ep m2:=(dec U).getD (Ep.o m2)
def dok (U:Nat):Bool:=(dec U).isSome
theorem dpt_some {U:Nat} {a:Ep m2} (h:dec U=some a):dpt U=a∧dok U=true:=by unfold dpt dok;rw [h];exact ⟨rfl,rfl⟩
theorem dpt_none {U:Nat} (h:dec U=none):dpt U=Ep.o m2∧dok U=false:=by unfold dpt dok;rw [h];exact ⟨rfl,rfl⟩
theorem dpt_on (U:Nat):(dpt U).on ed:=by
 cases h:dec U with
 | none=>rw [(dpt_none h).1];exact Ep.o_on _
 | some a=>rw [(dpt_some h).1];exact (dec_is h).1
theorem root_told {a:Ep m2} (ha:a.on ed) {s x1 x2:Fin m2} (h1:x1=if rt a.y*rt a.y=xx2 a.y then rt a.y else rt a.y*im) (_:s=a.x) (h2:x2=if x1.val % 2=a.x.val % 2 then x1 else-x1):x2=a.x:=by
 have h3:a.x=x1∨a.x=- x1:=by
  rcases rt_ok ha with ⟨e,h⟩ | ⟨e,h⟩
  ·rw [if_pos e] at h1
   rw [h1];exact h
  ·by_cases e2:rt a.y*rt a.y=xx2 a.y
   ·rw [if_pos e2] at h1
    have e3:=on_xx ha
    rw [h1]
    exact sq_two (by rw [e2,e3])
   ·rw [if_neg e2] at h1
    rw [h1];exact h
 by_cases hp:x1.val % 2=a.x.val % 2
 ·rw [if_pos hp] at h2
  rw [h2];exact (par_one h3 hp.symm).symm
 ·rw [if_neg hp] at h2
  rw [h2];exact (par_other h3 (fun e=>hp e.symm)).symm
end Go.Proofs.YtjaahnlpnkcimaaGreatDoor
namespace Go.Proofs.YtjaahnlpnkcimaaGreatDoor
set_option maxRecDepth 100000
open Go.RowKit
theorem Y_add (y t:Int) (i:Nat):Y i (y+256 ^ (i+1)*t)=Y i y:=by
 unfold Y
 rw [Int.pow_succ,Int.mul_assoc,Int.add_mul_ediv_left _ _ (Int.ne_of_gt (Int.pow_pos (by omega))),Int.add_mul_emod_self_left]
theorem top_pow {i:Nat} (hi:i<31):(2:Int) ^ 255=256 ^ (i+1)*2 ^ (255-8*(i+1)):=by
 rw [show (256:Int)=2 ^ 8 from rfl,← Int.pow_mul,← Int.pow_add,show 8*(i+1)+(255-8*(i+1))=255 by omega]
theorem Y_low (y s:Int) {i:Nat} (hi:i<31):Y i (y+2 ^ 255*s)=Y i y:=by
 rw [top_pow hi,Int.mul_assoc,Y_add]
theorem Y_top {y:Int} (h0:0≤y) (h:y<2 ^ 255):0≤Y 31 y∧Y 31 y<128∧Y 31 y=y / 256 ^ 31:=by
 unfold Y
 have e:(2:Int) ^ 255=256 ^ 31*128:=by decide +kernel
 have h1:0≤y / 256 ^ 31:=Int.ediv_nonneg h0 (by decide +kernel)
 have h2:y / 256 ^ 31<128:=Int.ediv_lt_of_lt_mul (by decide +kernel) (by rw [Int.mul_comm,← e];exact h)
 omega
theorem Y_high {y s:Int} (h0:0≤y) (h:y<2 ^ 255) (hs:s=0∨s=1):Y 31 (y+2 ^ 255*s)=Y 31 y+128*s:=by
 obtain ⟨a,b,c⟩:=Y_top h0 h
 rw [c] at a b
 rw [c]
 unfold Y
 rw [show (2:Int) ^ 255=256 ^ 31*128 by decide +kernel,Int.mul_assoc,Int.add_mul_ediv_left _ _ (by decide +kernel)]
 omega
theorem lw_lo (i:Nat) (x:Int):0≤lw i x:=L_lo i x
theorem L0_odd (x:Int):lw 0 x % 2=x % 2:=by
 show L 0 x % 2=x % 2
 rw [L0]
 omega
theorem code_int (a:Ep m2):((code a:Nat):Int)=(a.y.val:Int)+2 ^ 255*((a.x.val % 2:Nat):Int):=by
 unfold code
 rw [Int.natCast_add,Int.natCast_mul,Int.natCast_pow]
 rfl
theorem y_int (a:Ep m2):(a.y.val:Int)<2 ^ 255:=by
 have:=y_lt a
 rw [show (2:Int) ^ 255=((2 ^ 255:Nat):Int) from rfl]
 omega
theorem code_even {a:Ep m2} (h:a.x.val % 2=0):code a=a.y.val:=by unfold code;rw [h];rfl
theorem code_o:code (Ep.o m2)=1:=by decide +kernel
theorem e_on {a:Ep m2} (i:Nat) (hi:i<31):Y i ((code a:Nat):Int)=Y i (a.y.val:Int):=by rw [code_int,Y_low _ _ hi]
theorem code_top {a:Ep m2} (h:a.x.val % 2=1):Y 31 ((code a:Nat):Int)=Y 31 (a.y.val:Int)+128:=by
 rw [code_int,Y_high (by omega) (y_int a) (Or.inr (by rw [h];rfl)),h]
 rfl
end Go.Proofs.YtjaahnlpnkcimaaGreatDoor
namespace Go.Proofs.YtjaahnlpnkcimaaGreatDoor
set_option maxRecDepth 100000
open Go.RowKit
theorem E_words (a:Int):E (fun i=>Y i a) 0 8=L 0 a∧E (fun i=>Y i a) 8 8=L 1 a∧E (fun i=>Y i a) 16 8=L 2 a∧E (fun i=>Y i a) 24 8=L 3 a :=
 ⟨E_word a 0,E_word a 1,E_word a 2,E_word a 3⟩
end Go.Proofs.YtjaahnlpnkcimaaGreatDoor
namespace Go.Proofs.YtjaahnlpnkcimaaGreatDoor
set_option maxRecDepth 100000
open Go.RowKit
theorem i5:(Tryz.prog.info? 5).map (·.size)=some 1:=by kernel_rfl
theorem cE24 (vs:List Value):∀ w,(callFunc 24 vs.toArray).run Tryz.prog w=.ok (.enter 24 vs.toArray) w:=callFunc_enter Tryz.func24 (by kernel_rfl) (by kernel_rfl) _
theorem cE16 (vs:List Value):∀ w,(callFunc 16 vs.toArray).run Tryz.prog w=.ok (.enter 16 vs.toArray) w:=callFunc_enter Tryz.func16 (by kernel_rfl) (by kernel_rfl) _
theorem cE74 (vs:List Value):∀ w,(callFunc 74 vs.toArray).run Tryz.prog w=.ok (.enter 74 vs.toArray) w:=callFunc_enter Tryz.func74 (by kernel_rfl) (by kernel_rfl) _
theorem cE96 (vs:List Value):∀ w,(callFunc 96 vs.toArray).run Tryz.prog w=.ok (.enter 96 vs.toArray) w:=callFunc_enter Tryz.func96 (by kernel_rfl) (by kernel_rfl) _
theorem cE97 (vs:List Value):∀ w,(callFunc 97 vs.toArray).run Tryz.prog w=.ok (.enter 97 vs.toArray) w:=callFunc_enter Tryz.func97 (by kernel_rfl) (by kernel_rfl) _
theorem cE62 (vs:List Value):∀ w,(callFunc 62 vs.toArray).run Tryz.prog w=.ok (.enter 62 vs.toArray) w:=callFunc_enter Tryz.func62 (by kernel_rfl) (by kernel_rfl) _
theorem cE73 (vs:List Value):∀ w,(callFunc 73 vs.toArray).run Tryz.prog w=.ok (.enter 73 vs.toArray) w:=callFunc_enter Tryz.func73 (by kernel_rfl) (by kernel_rfl) _
theorem s_enc_even {w:World} (hT:Tab w) {x y:Fin m2} (hq:y*y-x*x=1+ed*(x*x*(y*y))) (hp:lw 0 ((x.val:Nat):Int) % 2=0) (h2:x.val % 2=0):Calls Tryz.prog 16 [.agg (gc (x)++gc (y)++[Value.bool false]).toArray].toArray w fun e w'=>New32 (fun i=>Y i (((code ⟨x,y⟩:Nat)):Int)) w e w':=by
 refine enter (args:=[.agg (gc (x)++gc (y)++[Value.bool false]).toArray]) Tryz.func16 rfl 22 rfl (lk rfl) (fun a h=>?_)
 refine aX h [] [eN 1 _,eS 2 _] ⟨rfl,rfl,T0⟩ [(1,.ptr 1 0)] [(1,gc (x)++gc (y)++[Value.bool false])] (fun a w h=>?_)
 refine wp_seq ?_
 refine aX h [1] [eS 4 _,eS 5 (.val (Value.bool true)),eS 6 _] ⟨rfl,fun L u=>u_call u (gd0 rfl) _ rfl _ _ _ rfl [_] rfl (cE38 _) (Value.bool true) (fun w hb=>by have f:=s_formed_at (hT.keep (Bs.kp_of hb)) x y;rw [decide_eq_true hq] at f;exact f),rfl,T0⟩ [(1,_),(6,.val (Value.bool false))] [(1,_)] (fun a w h=>?_)
 refine go_cond h false rfl (fun ht=>?_) (fun hf=>?_)
 case refine_1=>cases ht
 refine wp_skip ?_
 refine then_norm ?_
 refine wp_seq ?_
 refine sq_begin [0,1,2,3] rfl ?_
 refine sq_step h (i:=0) rfl (u_field (xs:=[]) (up_seq (i:=0) (by kernel_rfl) rfl) (gd0 rfl) 8 rfl 40 (.tmp 1) 1 rfl rfl rfl Tryz.underlying40 rfl i34 _ rfl) (fun a w h=>?_)
 refine sq_step h (i:=1) rfl (u_load (xs:=[]) (up_seq (i:=1) (by kernel_rfl) rfl) (gd0 rfl) 9 rfl 34 (.tmp 8) rfl rfl rfl Tryz.underlying34 rfl i34 (lk rfl) _ rfl) (fun a w h=>?_)
 refine sq_callN h (i:=2) rfl (gq0 rfl) 10 rfl rfl 24 #[(.tmp 9)] #[34] rfl [.agg (gc (y)).toArray] rfl (cE24 _) 32 (by32 (fun i=>Y i ((((y).val:Nat):Int)))) (fun hb=>refPutLittle_any ((((y).val:Nat):Int)) w) (fun c10 a w hc10 h=>?_)
 replace h:=h.keep [(1,.ptr 1 0),(6,.val (Value.bool false)),(8,.ptr 1 4),(9,.val (.agg (gc (y)).toArray)),(10,.sli 10 0 32 c10)] [(1,gc (x)++gc (y)++[Value.bool false]),(10,by32 (fun i=>Y i ((((y).val:Nat):Int))))] ⟨rfl,rfl,rfl,rfl,rfl,trivial⟩ ⟨rfl,rfl,trivial⟩ rfl
 refine sq_step h (i:=3) rfl (u_copy (xs:=[]) (up_seq (i:=3) (by kernel_rfl) rfl) (gd0 rfl) 3 rfl (.tmp 10) (Or.inr rfl) rfl (fun x c hp=>by cases hp;exact ⟨_,rfl⟩)) (fun a w h=>?_)
 replace h:=h.keep [(1,.ptr 1 0),(3,.sli 10 0 32 c10)] [(1,gc (x)++gc (y)++[Value.bool false]),(10,by32 (fun i=>Y i ((((y).val:Nat):Int))))] ⟨rfl,rfl,trivial⟩ ⟨rfl,rfl,trivial⟩ rfl
 refine sq_end ?_
 refine then_norm ?_
 refine wp_seq ?_
 refine aX h [3,4] [eS 11 _,eS 12 _,eS 13 _,eS 14 (.val (Value.int .u64 ((lw 0 (((x).val:Nat):Int)) % 2))),eS 15 (.val (Value.bool false))] ⟨rfl,rfl,rfl,fun L u=>u_bin u (gd0 rfl) _ rfl _ _ _ _ _ rfl rfl rfl (eqg_int _ _ _ _ _ _ _ _) _ (fun w=>i_rem _ _ _ _ _ (lw_lo _ _) (by decide) rfl w),fun L u=>u_bin u (gd0 rfl) _ rfl _ _ _ _ _ rfl rfl rfl (eqg_int _ _ _ _ _ _ _ _) _ (no_of (fun w=>i_eql _ _ _ _ w) (by rw [hp];decide)),T0⟩ [(3,_),(15,.val (Value.bool false))] [(10,_)] (fun a w h=>?_)
 refine go_cond h false rfl (fun ht=>?_) (fun hf=>?_)
 case refine_1=>cases ht
 refine wp_skip ?_
 refine then_norm ?_
 refine aX h [] [eS 21 _,eS 2 _] ⟨rfl,rfl,T0⟩ [(2,.sli 10 0 32 c10)] [(10,_)] (fun a w h=>?_)
 refine wp_ret ?_
 refine ret_new32 (cs:=by32 (fun i=>Y i ((((y).val:Nat):Int)))) h 2 rfl (lk rfl) 10 c10 rfl hc10 rfl ?_
 refine by32_ext ?_;intro i hi;show Y i _=Y i _;rw [code_even (a:=⟨x,y⟩) h2]
theorem s_enc_odd {w:World} (hT:Tab w) {x y:Fin m2} (hq:y*y-x*x=1+ed*(x*x*(y*y))) (hp:lw 0 ((x.val:Nat):Int) % 2=1) (h2:x.val % 2=1) (hbd:0≤Y 31 ((y.val:Nat):Int)+128∧Y 31 ((y.val:Nat):Int)+128<256):Calls Tryz.prog 16 [.agg (gc (x)++gc (y)++[Value.bool false]).toArray].toArray w fun e w'=>New32 (fun i=>Y i (((code ⟨x,y⟩:Nat)):Int)) w e w':=by
 refine enter (args:=[.agg (gc (x)++gc (y)++[Value.bool false]).toArray]) Tryz.func16 rfl 22 rfl (lk rfl) (fun a h=>?_)
 refine aX h [] [eN 1 _,eS 2 _] ⟨rfl,rfl,T0⟩ [(1,.ptr 1 0)] [(1,gc (x)++gc (y)++[Value.bool false])] (fun a w h=>?_)
 refine wp_seq ?_
 refine aX h [1] [eS 4 _,eS 5 (.val (Value.bool true)),eS 6 _] ⟨rfl,fun L u=>u_call u (gd0 rfl) _ rfl _ _ _ rfl [_] rfl (cE38 _) (Value.bool true) (fun w hb=>by have f:=s_formed_at (hT.keep (Bs.kp_of hb)) x y;rw [decide_eq_true hq] at f;exact f),rfl,T0⟩ [(1,_),(6,.val (Value.bool false))] [(1,_)] (fun a w h=>?_)
 refine go_cond h false rfl (fun ht=>?_) (fun hf=>?_)
 case refine_1=>cases ht
 refine wp_skip ?_
 refine then_norm ?_
 refine wp_seq ?_
 refine sq_begin [0,1,2,3] rfl ?_
 refine sq_step h (i:=0) rfl (u_field (xs:=[]) (up_seq (i:=0) (by kernel_rfl) rfl) (gd0 rfl) 8 rfl 40 (.tmp 1) 1 rfl rfl rfl Tryz.underlying40 rfl i34 _ rfl) (fun a w h=>?_)
 refine sq_step h (i:=1) rfl (u_load (xs:=[]) (up_seq (i:=1) (by kernel_rfl) rfl) (gd0 rfl) 9 rfl 34 (.tmp 8) rfl rfl rfl Tryz.underlying34 rfl i34 (lk rfl) _ rfl) (fun a w h=>?_)
 refine sq_callN h (i:=2) rfl (gq0 rfl) 10 rfl rfl 24 #[(.tmp 9)] #[34] rfl [.agg (gc (y)).toArray] rfl (cE24 _) 32 (by32 (fun i=>Y i ((((y).val:Nat):Int)))) (fun hb=>refPutLittle_any ((((y).val:Nat):Int)) w) (fun c10 a w hc10 h=>?_)
 replace h:=h.keep [(1,.ptr 1 0),(6,.val (Value.bool false)),(8,.ptr 1 4),(9,.val (.agg (gc (y)).toArray)),(10,.sli 10 0 32 c10)] [(1,gc (x)++gc (y)++[Value.bool false]),(10,by32 (fun i=>Y i ((((y).val:Nat):Int))))] ⟨rfl,rfl,rfl,rfl,rfl,trivial⟩ ⟨rfl,rfl,trivial⟩ rfl
 refine sq_step h (i:=3) rfl (u_copy (xs:=[]) (up_seq (i:=3) (by kernel_rfl) rfl) (gd0 rfl) 3 rfl (.tmp 10) (Or.inr rfl) rfl (fun x c hp=>by cases hp;exact ⟨_,rfl⟩)) (fun a w h=>?_)
 replace h:=h.keep [(1,.ptr 1 0),(3,.sli 10 0 32 c10)] [(1,gc (x)++gc (y)++[Value.bool false]),(10,by32 (fun i=>Y i ((((y).val:Nat):Int))))] ⟨rfl,rfl,trivial⟩ ⟨rfl,rfl,trivial⟩ rfl
 refine sq_end ?_
 refine then_norm ?_
 refine wp_seq ?_
 refine aX h [3,4] [eS 11 _,eS 12 _,eS 13 _,eS 14 (.val (Value.int .u64 ((lw 0 (((x).val:Nat):Int)) % 2))),eS 15 (.val (Value.bool true))] ⟨rfl,rfl,rfl,fun L u=>u_bin u (gd0 rfl) _ rfl _ _ _ _ _ rfl rfl rfl (eqg_int _ _ _ _ _ _ _ _) _ (fun w=>i_rem _ _ _ _ _ (lw_lo _ _) (by decide) rfl w),fun L u=>u_bin u (gd0 rfl) _ rfl _ _ _ _ _ rfl rfl rfl (eqg_int _ _ _ _ _ _ _ _) _ (yes_of (fun w=>i_eql _ _ _ _ w) hp),T0⟩ [(3,_),(15,.val (Value.bool true))] [(10,_)] (fun a w h=>?_)
 refine go_cond h true rfl (fun ht=>?_) (fun hf=>?_)
 case refine_2=>cases hf
 refine aE h [1,3,4] [eS 16 _,eS 17 (.ptr 10 31),eS 18 _,eS 19 (.val (Value.int .u8 (((fun i=>Y i ((((y).val:Nat):Int))) 31)+128))),eS 20 (.ptr 10 31),eM 10 _] ⟨rfl,fun L u=>u_atS u (gd0 rfl) 17 rfl 24 (.tmp 16) (.const (.int .i64 31)) rfl rfl rfl (k:=31) rfl Tryz.underlying24 i5 (by decide) 31 rfl,rfl,fun L u=>u_bin u (gd0 rfl) _ rfl _ _ _ _ _ rfl rfl rfl (eqg_int _ _ _ _ _ _ _ _) _ (fun w=>i_addB _ _ _ _ rfl hbd w),fun L u=>u_atS u (gd0 rfl) 20 rfl 24 (.tmp 16) (.const (.int .i64 31)) rfl rfl rfl (k:=31) rfl Tryz.underlying24 i5 (by decide) 31 rfl,rfl,T0⟩ [(3,_)] [(10,by31 (fun i=>Y i ((((y).val:Nat):Int))) ((((fun i=>Y i ((((y).val:Nat):Int))) 31)+128)))] (fun a w h=>?_)
 refine then_norm ?_
 refine aX h [] [eS 21 _,eS 2 _] ⟨rfl,rfl,T0⟩ [(2,.sli 10 0 32 c10)] [(10,_)] (fun a w h=>?_)
 refine wp_ret ?_
 refine ret_new32 (cs:=by31 (fun i=>Y i ((((y).val:Nat):Int))) ((((fun i=>Y i ((((y).val:Nat):Int))) 31)+128))) h 2 rfl (lk rfl) 10 c10 rfl hc10 rfl ?_
 refine by31_ext ?_ ?_;(intro i hi;show Y i _=Y i _;rw [code_int,Y_low _ _ hi]);(show Y 31 _+128=Y 31 _;rw [code_int,Y_high (by omega) (y_int ⟨x,y⟩) (Or.inr (by rw [h2];rfl)),h2];rfl)
theorem s_enc_on {w:World} (hT:Tab w) {x y:Fin m2} (hq:y*y-x*x=1+ed*(x*x*(y*y))):Calls Tryz.prog 16 [.agg (gc (x)++gc (y)++[Value.bool false]).toArray].toArray w fun e w'=>New32 (fun i=>Go.Proofs.YtjaahnlpnkcimaaGreatDoor.Y i (((code ⟨x,y⟩:Nat)):Int)) w e w':=by
 have hp:=L0_odd ((x.val:Nat):Int)
 obtain ⟨a,b,_⟩:=Y_top (y:=((y.val:Nat):Int)) (by omega) (y_int ⟨x,y⟩)
 by_cases h2:x.val % 2=0
 ·exact s_enc_even hT hq (by rw [hp];omega) h2
 ·exact s_enc_odd hT hq (by rw [hp];omega) (by omega) (by omega)
end Go.Proofs.YtjaahnlpnkcimaaGreatDoor
namespace Go.Proofs.YtjaahnlpnkcimaaGreatDoor
set_option maxRecDepth 100000
open Go.RowKit
attribute [local go_sem ↓] Go.wp_at_zero Go.wp_at_succ
theorem ref_half0_0 (a:Int) (h:L 1 a % 2=0):L 0 a / 2=L 0 (a / 2):=by
 rw [L1] at h
 rw [L0,L0]
 omega
theorem ref_half0_1 (a:Int) (h:L 1 a % 2=1):IntKind.u64.wrap (L 0 a / 2+9223372036854775808)=L 0 (a / 2):=by
 rw [L1] at h
 rw [IntKind.wrap_u64,L0,L0]
 omega
theorem ref_half1_0 (a:Int) (h:L 2 a % 2=0):L 1 a / 2=L 1 (a / 2):=by
 rw [L2] at h
 rw [L1,L1]
 omega
theorem ref_half1_1 (a:Int) (h:L 2 a % 2=1):IntKind.u64.wrap (L 1 a / 2+9223372036854775808)=L 1 (a / 2):=by
 rw [L2] at h
 rw [IntKind.wrap_u64,L1,L1]
 omega
theorem ref_half2_0 (a:Int) (h:L 3 a % 2=0):L 2 a / 2=L 2 (a / 2):=by
 rw [L3] at h
 rw [L2,L2]
 omega
theorem ref_half2_1 (a:Int) (h:L 3 a % 2=1):IntKind.u64.wrap (L 2 a / 2+9223372036854775808)=L 2 (a / 2):=by
 rw [L3] at h
 rw [IntKind.wrap_u64,L2,L2]
 omega
theorem ref_half3 {a:Int} (h:Num a):L 3 a / 2=L 3 (a / 2):=by
 obtain ⟨h1,h2⟩:=h
 unfold M at h2
 rw [L3,L3]
 omega
theorem ref_half_any {a:Int} (h:Num a) (w:World) :
  Calls Tryz.prog 97 #[.agg #[.int .u64 (L 0 a),.int .u64 (L 1 a),.int .u64 (L 2 a),.int .u64 (L 3 a)]] w fun e w'=>e=.returned (.agg #[.int .u64 (L 0 (a / 2)),.int .u64 (L 1 (a / 2)),.int .u64 (L 2 (a / 2)),.int .u64 (L 3 (a / 2))])∧Below w.heap.size w w':=by
 have l0:=L_lo 0 a
 have l1:=L_lo 1 a
 have l2:=L_lo 2 a
 have l3:=L_lo 3 a
 have m0:=L_hi 0 a
 have m1:=L_hi 1 a
 have m2:=L_hi 2 a
 have m3:=L_hi 3 a
 have q3:=ref_half3 h
 have p1:L 1 a % 2=0∨L 1 a % 2=1:=by omega
 have p2:L 2 a % 2=0∨L 2 a % 2=1:=by omega
 have p3:L 3 a % 2=0∨L 3 a % 2=1:=by omega
 rcases p1 with p1 | p1
 ·have q0:=ref_half0_0 a p1
  rcases p2 with p2 | p2
  ·have q1:=ref_half1_0 a p2
   rcases p3 with p3 | p3
   ·have q2:=ref_half2_0 a p3
    go_enter Tryz.func97,Tryz.ntmps97
    go_wp2
    refine wp_loop_rounds 5 ?_
    rw [rounds_succ]
    go_wp2
    rw [rounds_succ]
    go_wp2
    rw [rounds_succ]
    go_wp2
    rw [rounds_succ]
    go_wp2
    rw [rounds_succ]
    go_wp2
    go_returns
    refine ⟨rfl,?_⟩
    repeat' (first | (with_reducible exact Below.refl _ _) | (with_reducible refine K.drewN ?_ _) | (with_reducible refine K.drew ?_) | (with_reducible refine K.alloc ?_ _) | (with_reducible refine K.set ?_ ?_ _) | (simp;done) | (simp;omega))
   ·have q2:=ref_half2_1 a p3
    go_enter Tryz.func97,Tryz.ntmps97
    go_wp2
    refine wp_loop_rounds 5 ?_
    rw [rounds_succ]
    go_wp2
    rw [rounds_succ]
    go_wp2
    rw [rounds_succ]
    go_wp2
    rw [rounds_succ]
    go_wp2
    rw [rounds_succ]
    go_wp2
    go_returns
    refine ⟨rfl,?_⟩
    repeat' (first | (with_reducible exact Below.refl _ _) | (with_reducible refine K.drewN ?_ _) | (with_reducible refine K.drew ?_) | (with_reducible refine K.alloc ?_ _) | (with_reducible refine K.set ?_ ?_ _) | (simp;done) | (simp;omega))
  ·have q1:=ref_half1_1 a p2
   rcases p3 with p3 | p3
   ·have q2:=ref_half2_0 a p3
    go_enter Tryz.func97,Tryz.ntmps97
    go_wp2
    refine wp_loop_rounds 5 ?_
    rw [rounds_succ]
    go_wp2
    rw [rounds_succ]
    go_wp2
    rw [rounds_succ]
    go_wp2
    rw [rounds_succ]
    go_wp2
    rw [rounds_succ]
    go_wp2
    go_returns
    refine ⟨rfl,?_⟩
    repeat' (first | (with_reducible exact Below.refl _ _) | (with_reducible refine K.drewN ?_ _) | (with_reducible refine K.drew ?_) | (with_reducible refine K.alloc ?_ _) | (with_reducible refine K.set ?_ ?_ _) | (simp;done) | (simp;omega))
   ·have q2:=ref_half2_1 a p3
    go_enter Tryz.func97,Tryz.ntmps97
    go_wp2
    refine wp_loop_rounds 5 ?_
    rw [rounds_succ]
    go_wp2
    rw [rounds_succ]
    go_wp2
    rw [rounds_succ]
    go_wp2
    rw [rounds_succ]
    go_wp2
    rw [rounds_succ]
    go_wp2
    go_returns
    refine ⟨rfl,?_⟩
    repeat' (first | (with_reducible exact Below.refl _ _) | (with_reducible refine K.drewN ?_ _) | (with_reducible refine K.drew ?_) | (with_reducible refine K.alloc ?_ _) | (with_reducible refine K.set ?_ ?_ _) | (simp;done) | (simp;omega))
 ·have q0:=ref_half0_1 a p1
  rcases p2 with p2 | p2
  ·have q1:=ref_half1_0 a p2
   rcases p3 with p3 | p3
   ·have q2:=ref_half2_0 a p3
    go_enter Tryz.func97,Tryz.ntmps97
    go_wp2
    refine wp_loop_rounds 5 ?_
    rw [rounds_succ]
    go_wp2
    rw [rounds_succ]
    go_wp2
    rw [rounds_succ]
    go_wp2
    rw [rounds_succ]
    go_wp2
    rw [rounds_succ]
    go_wp2
    go_returns
    refine ⟨rfl,?_⟩
    repeat' (first | (with_reducible exact Below.refl _ _) | (with_reducible refine K.drewN ?_ _) | (with_reducible refine K.drew ?_) | (with_reducible refine K.alloc ?_ _) | (with_reducible refine K.set ?_ ?_ _) | (simp;done) | (simp;omega))
   ·have q2:=ref_half2_1 a p3
    go_enter Tryz.func97,Tryz.ntmps97
    go_wp2
    refine wp_loop_rounds 5 ?_
    rw [rounds_succ]
    go_wp2
    rw [rounds_succ]
    go_wp2
    rw [rounds_succ]
    go_wp2
    rw [rounds_succ]
    go_wp2
    rw [rounds_succ]
    go_wp2
    go_returns
    refine ⟨rfl,?_⟩
    repeat' (first | (with_reducible exact Below.refl _ _) | (with_reducible refine K.drewN ?_ _) | (with_reducible refine K.drew ?_) | (with_reducible refine K.alloc ?_ _) | (with_reducible refine K.set ?_ ?_ _) | (simp;done) | (simp;omega))
  ·have q1:=ref_half1_1 a p2
   rcases p3 with p3 | p3
   ·have q2:=ref_half2_0 a p3
    go_enter Tryz.func97,Tryz.ntmps97
    go_wp2
    refine wp_loop_rounds 5 ?_
    rw [rounds_succ]
    go_wp2
    rw [rounds_succ]
    go_wp2
    rw [rounds_succ]
    go_wp2
    rw [rounds_succ]
    go_wp2
    rw [rounds_succ]
    go_wp2
    go_returns
    refine ⟨rfl,?_⟩
    repeat' (first | (with_reducible exact Below.refl _ _) | (with_reducible refine K.drewN ?_ _) | (with_reducible refine K.drew ?_) | (with_reducible refine K.alloc ?_ _) | (with_reducible refine K.set ?_ ?_ _) | (simp;done) | (simp;omega))
   ·have q2:=ref_half2_1 a p3
    go_enter Tryz.func97,Tryz.ntmps97
    go_wp2
    refine wp_loop_rounds 5 ?_
    rw [rounds_succ]
    go_wp2
    rw [rounds_succ]
    go_wp2
    rw [rounds_succ]
    go_wp2
    rw [rounds_succ]
    go_wp2
    rw [rounds_succ]
    go_wp2
    go_returns
    refine ⟨rfl,?_⟩
    repeat' (first | (with_reducible exact Below.refl _ _) | (with_reducible refine K.drewN ?_ _) | (with_reducible refine K.drew ?_) | (with_reducible refine K.alloc ?_ _) | (with_reducible refine K.set ?_ ?_ _) | (simp;done) | (simp;omega))
end Go.Proofs.YtjaahnlpnkcimaaGreatDoor
namespace Go.Proofs.YtjaahnlpnkcimaaGreatDoor
set_option maxRecDepth 100000
def sameB (f g:Nat→Int) (n:Nat):Bool:=decide (∀ i,i<n→f i=g i)
theorem same_no {f g:Nat→Int} {n k:Nat} (h:k<n) (hne:f k≠g k):sameB f g n=false:=by
 unfold sameB
 rw [decide_eq_false_iff_not]
 exact fun hh=>hne (hh k h)
theorem same_yes {f g:Nat→Int} {n:Nat} (h:∀ i,i<n→f i=g i):sameB f g n=true:=decide_eq_true h
end Go.Proofs.YtjaahnlpnkcimaaGreatDoor
namespace Go.Proofs.YtjaahnlpnkcimaaGreatDoor
set_option maxRecDepth 100000
open Go.RowKit
attribute [local go_sem ↓] Go.wp_at_zero Go.wp_at_succ
theorem same_any {b o c b2 o2 c2 n:Nat} {f g:Nat→Int} (hn:n≤1000000) {w:World} (h1:Rd w b o n f) (h2:Rd w b2 o2 n g) :
  Calls Tryz.prog 7 #[.slice (some ⟨b,o,none⟩) n c,.slice (some ⟨b2,o2,none⟩) n c2] w fun e w'=>e=.returned (.bool (sameB f g n))∧Below w.heap.size w w':=by
 have H1:Hid (Rd w b o n f):=h1
 have H2:Hid (Rd w b2 o2 n g):=h2
 clear h1 h2
 go_enter Tryz.func7,Tryz.ntmps7
 go_wp2_with fail
 go_loopg [5] n (fun gh s wr=>∃ k:Nat,gh=n-k∧k≤n∧s=.int .i64 k∧(∀ i,i<k→f i=g i)∧Below w.heap.size w wr)
 case atStart=>exact ⟨0,rfl,by omega,rfl,fun i h=>by omega,Below.refl _ _⟩
 case round =>
  obtain ⟨k,rfl,hk,rfl,hall,hB⟩:=hrel
  have HA:Hid (∀ i,i<k→f i=g i):=hall
  have HB:Hid (Below w.heap.size w wr):=hB
  by_cases hlt:k<n
  ·have hc1:=(H1.out.keep hB).c k hlt
   have hc2:=(H2.out.keep hB).c k hlt
   clear hB hall
   by_cases he:f k=g k
   ·have HS:Hid (∀ i,i<k+1→f i=g i):=fun i hi=>by
     by_cases e:i=k
     ·rw [e];exact he
     ·exact HA.out i (by omega)
    rw [← he] at hc2
    clear he
    go_upto_region 6 with fail
    go_quiet (fail)
    go_wp2_with fail
    go_roundg (n-(k+1))
    case measure=>omega
    case rel=>exact ⟨k+1,rfl,by omega,by go_num,HS.out,K.drewN HB.out _⟩
   ·have hb:(f k == g k)=false:=beq_eq_false_iff_ne.2 he
    have HS:Hid (sameB f g n=false):=same_no hlt he
    clear he
    go_upto_region 6 with fail
    go_quiet (fail)
    go_wp2_with fail
    go_ret
    exact ⟨ret_bool HS.out.symm,K.drewN HB.out _⟩
  ·obtain rfl:k=n:=by omega
   clear hall hB
   go_wp2_with fail
   go_ret
   exact ⟨ret_bool (same_yes HA.out).symm,HB.out⟩
end Go.Proofs.YtjaahnlpnkcimaaGreatDoor
namespace Go.Proofs.YtjaahnlpnkcimaaGreatDoor
set_option maxRecDepth 100000
open Go.RowKit
attribute [local go_sem ↓] Go.wp_at_zero Go.wp_at_succ
def cb (a b:Int) (k:Nat):Bool:=C a b k == 1
theorem cb_zero (a b:Int):cb a b 0=false:=by unfold cb;rw [C_zero];rfl
theorem ref_add_0 (a b:Int) (k:Nat) (h:cb a b k=false):IntKind.u64.wrap (L k a+L k b)=L k (a+b):=by
 have c1:=C_lo a b k
 have c2:=C_hi a b k
 have hc:C a b k=0:=by unfold cb at h;simp at h;omega
 have e:=add_word a b k
 rw [hc,Int.add_zero] at e
 rw [IntKind.wrap_u64,e]
theorem ref_add_1 (a b:Int) (k:Nat) (h:cb a b k=true):IntKind.u64.wrap (IntKind.u64.wrap (L k a+L k b)+1)=L k (a+b):=by
 have hc:C a b k=1:=by unfold cb at h;simpa using h
 have e:=add_word a b k
 rw [hc] at e
 rw [IntKind.wrap_u64,IntKind.wrap_u64,← e]
 omega
theorem ref_add_o0 (a b:Int) (k:Nat) (h:cb a b k=false):decide (L k (a+b)<L k a)=cb a b (k+1):=by
 have c1:=C_lo a b k
 have c2:=C_hi a b k
 have hc:C a b k=0:=by unfold cb at h;simp at h;omega
 have e:=add_word a b k
 have f:=add_carry a b k
 have a1:=L_lo k a
 have a2:=L_hi k a
 have b1:=L_lo k b
 have b2:=L_hi k b
 rw [hc] at e f
 unfold cb
 rw [← f,← e,Bool.eq_iff_iff]
 simp only [decide_eq_true_eq,beq_iff_eq]
 omega
theorem ref_add_o1 (a b:Int) (k:Nat) (h:cb a b k=true):(decide (IntKind.u64.wrap (L k a+L k b)<L k a) || (L k (a+b) == 0))=cb a b (k+1):=by
 have hc:C a b k=1:=by unfold cb at h;simpa using h
 have e:=add_word a b k
 have f:=add_carry a b k
 have a1:=L_lo k a
 have a2:=L_hi k a
 have b1:=L_lo k b
 have b2:=L_hi k b
 rw [hc] at e f
 unfold cb
 rw [← f,← e,IntKind.wrap_u64,Bool.eq_iff_iff]
 simp only [decide_eq_true_eq,beq_iff_eq,Bool.or_eq_true]
 omega
theorem ref_add_walk (a b:Int) (w:World) :
  Calls Tryz.prog 96 #[.agg #[.int .u64 (L 0 a),.int .u64 (L 1 a),.int .u64 (L 2 a),.int .u64 (L 3 a)],.agg #[.int .u64 (L 0 b),.int .u64 (L 1 b),.int .u64 (L 2 b),.int .u64 (L 3 b)]] w fun e w' =>
   e=.returned (.tuple #[.agg #[.int .u64 (L 0 (a+b)),.int .u64 (L 1 (a+b)),.int .u64 (L 2 (a+b)),.int .u64 (L 3 (a+b))],.bool (cb a b 4)])∧Below w.heap.size w w':=by
 go_enter Tryz.func96,Tryz.ntmps96
 go_wp2
 go_loopw [7,8] (fun s7 s8 w'=>(s8=.int .i64 0∧s7=.bool false∧∃ n,w'=((((w.alloc (.cells #[.int .u64 (L 0 a),.int .u64 (L 1 a),.int .u64 (L 2 a),.int .u64 (L 3 a)] 34)).alloc (.cells #[.int .u64 (L 0 b),.int .u64 (L 1 b),.int .u64 (L 2 b),.int .u64 (L 3 b)] 34)).alloc (.cells #[.int .u64 0,.int .u64 0,.int .u64 0,.int .u64 0] 34)).alloc (.cells #[.int .u64 0,.int .u64 0,.int .u64 0,.int .u64 0] 34)).drewN n)∨(s8=.int .i64 1∧s7=.bool (cb a b 1)∧∃ n,w'=((((w.alloc (.cells #[.int .u64 (L 0 a),.int .u64 (L 1 a),.int .u64 (L 2 a),.int .u64 (L 3 a)] 34)).alloc (.cells #[.int .u64 (L 0 b),.int .u64 (L 1 b),.int .u64 (L 2 b),.int .u64 (L 3 b)] 34)).alloc (.cells #[.int .u64 0,.int .u64 0,.int .u64 0,.int .u64 0] 34)).alloc (.cells #[.int .u64 (L 0 (a+b)),.int .u64 0,.int .u64 0,.int .u64 0] 34)).drewN n)∨(s8=.int .i64 2∧s7=.bool (cb a b 2)∧∃ n,w'=((((w.alloc (.cells #[.int .u64 (L 0 a),.int .u64 (L 1 a),.int .u64 (L 2 a),.int .u64 (L 3 a)] 34)).alloc (.cells #[.int .u64 (L 0 b),.int .u64 (L 1 b),.int .u64 (L 2 b),.int .u64 (L 3 b)] 34)).alloc (.cells #[.int .u64 0,.int .u64 0,.int .u64 0,.int .u64 0] 34)).alloc (.cells #[.int .u64 (L 0 (a+b)),.int .u64 (L 1 (a+b)),.int .u64 0,.int .u64 0] 34)).drewN n)∨(s8=.int .i64 3∧s7=.bool (cb a b 3)∧∃ n,w'=((((w.alloc (.cells #[.int .u64 (L 0 a),.int .u64 (L 1 a),.int .u64 (L 2 a),.int .u64 (L 3 a)] 34)).alloc (.cells #[.int .u64 (L 0 b),.int .u64 (L 1 b),.int .u64 (L 2 b),.int .u64 (L 3 b)] 34)).alloc (.cells #[.int .u64 0,.int .u64 0,.int .u64 0,.int .u64 0] 34)).alloc (.cells #[.int .u64 (L 0 (a+b)),.int .u64 (L 1 (a+b)),.int .u64 (L 2 (a+b)),.int .u64 0] 34)).drewN n)∨(s8=.int .i64 4∧s7=.bool (cb a b 4)∧∃ n,w'=((((w.alloc (.cells #[.int .u64 (L 0 a),.int .u64 (L 1 a),.int .u64 (L 2 a),.int .u64 (L 3 a)] 34)).alloc (.cells #[.int .u64 (L 0 b),.int .u64 (L 1 b),.int .u64 (L 2 b),.int .u64 (L 3 b)] 34)).alloc (.cells #[.int .u64 0,.int .u64 0,.int .u64 0,.int .u64 0] 34)).alloc (.cells #[.int .u64 (L 0 (a+b)),.int .u64 (L 1 (a+b)),.int .u64 (L 2 (a+b)),.int .u64 (L 3 (a+b))] 34)).drewN n)) (fun _ s8 _=>4-(intOf s8).toNat)
 case atStart=>exact Or.inl ⟨rfl,rfl,0,rfl⟩
 case round =>
  rcases hrel with ⟨rfl,rfl,n,rfl⟩ | ⟨rfl,rfl,n,rfl⟩ | ⟨rfl,rfl,n,rfl⟩ | ⟨rfl,rfl,n,rfl⟩ | ⟨rfl,rfl,n,rfl⟩
  ·have q1:=ref_add_0 a b 0 (cb_zero a b)
   have q2:decide (L 0 (a+b)<L 0 a)=cb a b 1:=ref_add_o0 a b 0 (cb_zero a b)
   go_wp2
   go_quiet (fail)
   go_wp2
   exact ⟨Or.inr (Or.inl ⟨rfl,(by first | rfl | exact congrArg Value.bool q3.symm),n+nq,set_out (by simp) _ _ _ _ _⟩),by simp [intOf]⟩
  ·cases hcb:cb a b 1
   ·have q1:=ref_add_0 a b 1 hcb
    have q2:decide (L 1 (a+b)<L 1 a)=cb a b 2:=ref_add_o0 a b 1 hcb
    go_wp2
    go_quiet (fail)
    go_wp2
    exact ⟨Or.inr (Or.inr (Or.inl ⟨rfl,(by first | rfl | exact congrArg Value.bool q3.symm),n+nq,set_out (by simp) _ _ _ _ _⟩)),by simp [intOf]⟩
   ·have q1:=ref_add_1 a b 1 hcb
    have q2:=ref_add_o1 a b 1 hcb
    by_cases o:IntKind.u64.wrap (L 1 a+L 1 b)<L 1 a
    ·have q3:cb a b 2=true:=by rw [← q2];simp [o]
     clear q2
     go_wp2
     go_quiet (fail)
     go_wp2
     exact ⟨Or.inr (Or.inr (Or.inl ⟨rfl,(by first | rfl | exact congrArg Value.bool q3.symm),n+nq,set_out (by simp) _ _ _ _ _⟩)),by simp [intOf]⟩
    ·have o2:decide (IntKind.u64.wrap (L 1 a+L 1 b)<L 1 a)=false:=by simpa using o
     have q3:(L 1 (a+b) == 0)=cb a b 2:=by rw [o2,Bool.false_or] at q2;exact q2
     clear q2
     go_wp2
     go_quiet (fail)
     go_wp2
     exact ⟨Or.inr (Or.inr (Or.inl ⟨rfl,(by first | rfl | exact congrArg Value.bool q3.symm),n+nq,set_out (by simp) _ _ _ _ _⟩)),by simp [intOf]⟩
  ·cases hcb:cb a b 2
   ·have q1:=ref_add_0 a b 2 hcb
    have q2:decide (L 2 (a+b)<L 2 a)=cb a b 3:=ref_add_o0 a b 2 hcb
    go_wp2
    go_quiet (fail)
    go_wp2
    exact ⟨Or.inr (Or.inr (Or.inr (Or.inl ⟨rfl,(by first | rfl | exact congrArg Value.bool q3.symm),n+nq,set_out (by simp) _ _ _ _ _⟩))),by simp [intOf]⟩
   ·have q1:=ref_add_1 a b 2 hcb
    have q2:=ref_add_o1 a b 2 hcb
    by_cases o:IntKind.u64.wrap (L 2 a+L 2 b)<L 2 a
    ·have q3:cb a b 3=true:=by rw [← q2];simp [o]
     clear q2
     go_wp2
     go_quiet (fail)
     go_wp2
     exact ⟨Or.inr (Or.inr (Or.inr (Or.inl ⟨rfl,(by first | rfl | exact congrArg Value.bool q3.symm),n+nq,set_out (by simp) _ _ _ _ _⟩))),by simp [intOf]⟩
    ·have o2:decide (IntKind.u64.wrap (L 2 a+L 2 b)<L 2 a)=false:=by simpa using o
     have q3:(L 2 (a+b) == 0)=cb a b 3:=by rw [o2,Bool.false_or] at q2;exact q2
     clear q2
     go_wp2
     go_quiet (fail)
     go_wp2
     exact ⟨Or.inr (Or.inr (Or.inr (Or.inl ⟨rfl,(by first | rfl | exact congrArg Value.bool q3.symm),n+nq,set_out (by simp) _ _ _ _ _⟩))),by simp [intOf]⟩
  ·cases hcb:cb a b 3
   ·have q1:=ref_add_0 a b 3 hcb
    have q2:decide (L 3 (a+b)<L 3 a)=cb a b 4:=ref_add_o0 a b 3 hcb
    go_wp2
    go_quiet (fail)
    go_wp2
    exact ⟨Or.inr (Or.inr (Or.inr (Or.inr (⟨rfl,(by first | rfl | exact congrArg Value.bool q3.symm),n+nq,set_out (by simp) _ _ _ _ _⟩)))),by simp [intOf]⟩
   ·have q1:=ref_add_1 a b 3 hcb
    have q2:=ref_add_o1 a b 3 hcb
    by_cases o:IntKind.u64.wrap (L 3 a+L 3 b)<L 3 a
    ·have q3:cb a b 4=true:=by rw [← q2];simp [o]
     clear q2
     go_wp2
     go_quiet (fail)
     go_wp2
     exact ⟨Or.inr (Or.inr (Or.inr (Or.inr (⟨rfl,(by first | rfl | exact congrArg Value.bool q3.symm),n+nq,set_out (by simp) _ _ _ _ _⟩)))),by simp [intOf]⟩
    ·have o2:decide (IntKind.u64.wrap (L 3 a+L 3 b)<L 3 a)=false:=by simpa using o
     have q3:(L 3 (a+b) == 0)=cb a b 4:=by rw [o2,Bool.false_or] at q2;exact q2
     clear q2
     go_wp2
     go_quiet (fail)
     go_wp2
     exact ⟨Or.inr (Or.inr (Or.inr (Or.inr (⟨rfl,(by first | rfl | exact congrArg Value.bool q3.symm),n+nq,set_out (by simp) _ _ _ _ _⟩)))),by simp [intOf]⟩
  ·go_wp2
   go_returns
   refine ⟨rfl,?_⟩
   repeat' (first | (with_reducible exact Below.refl _ _) | (with_reducible refine K.drewN ?_ _) | (with_reducible refine K.drew ?_) | (with_reducible refine K.alloc ?_ _) | (with_reducible refine K.set ?_ ?_ _) | (simp;done) | (simp;omega))
end Go.Proofs.YtjaahnlpnkcimaaGreatDoor
