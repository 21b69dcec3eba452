/- What the program's own fewest, integer and Encode of layer 10 answer. What the program's own readers of layer 10 answer, and where they panic. What the program's own value of layer 10, and slices.Equal, answer. What the program's own number of layer 10 answers, and where it panics. -/
import Derived.Test.YtmigakanbeckpaaGreatDoorRm26
import Derived.Test.YtmigakanbeckpaaGreatDoorRm03
set_option maxRecDepth 100000
set_option maxHeartbeats 4000000
namespace Go.Proofs.YtmigakanbeckpaaGreatDoor.De
set_option maxRecDepth 100000
open Go.RowKit
theorem be_drop (A m k:Nat) (hk:k≤m):(be A m).drop k=be A (m-k):=by
 apply List.ext_getElem?
 intro i
 rw [List.getElem?_drop]
 rcases Nat.lt_or_ge (k+i) m with h | h
 ·rw [be_at A m (k+i) h,be_at A (m-k) i (by omega),show m-1-(k+i)=m-k-1-i by omega]
 ·rw [List.getElem?_eq_none (by rw [be_len];exact h),List.getElem?_eq_none (by rw [be_len];omega)]
theorem few_33 {A:Nat} (hA:A<2 ^ 256):[0]++be A 32=be A 33:=by
 have e:(2:Nat) ^ 256=256 ^ 32:=by decide
 rw [e] at hA
 have h:=be_head A 32 hA
 rw [List.singleton_append]
 exact h.symm
theorem few_lt (A:Nat):∀ x ∈ ([0]++be A 32),x<256:=lt_app (fun x hx=>by rw [List.mem_singleton.1 hx];decide) (be_lt A 32)
theorem few_at {A i:Nat} (hA:A<2 ^ 256) (hi:i≤32):([0]++be A 32).getD i 0=A / 256 ^ (32-i) % 256:=by
 rw [few_33 hA,be_getD A (by omega),show 33-1-i=32-i by omega]
theorem few_end {A k:Nat} (hA:A<2 ^ 256) (hk:k≤32) (hG:∀ i,i<k→([0]++be A 32).getD i 0=0∧([0]++be A 32).getD (i+1) 0<128) (he:k=32∨([0]++be A 32).getD k 0≠0∨128≤([0]++be A 32).getD (k+1) 0):msz A=33-k:=by
 have pos:∀ n,0<256 ^ n:=fun n=>Nat.pow_pos (by decide)
 have low:∀ j,j≤k→A<128*256 ^ (32-j):=by
  intro j
  induction j with
  | zero=>intro _;exact Nat.lt_of_lt_of_le hA (by decide)
  | succ j ih =>
   intro hj
   have h1:=ih (by omega)
   obtain ⟨g1,g2⟩:=hG j (by omega)
   rw [few_at hA (by omega)] at g1
   rw [few_at hA (by omega)] at g2
   have d1:A / 256 ^ (32-j)<128:=Nat.div_lt_of_lt_mul (by rw [Nat.mul_comm];exact h1)
   have z1:A / 256 ^ (32-j)=0:=by rw [Nat.mod_eq_of_lt (Nat.lt_trans d1 (by decide))] at g1;exact g1
   have l1:A<256 ^ (32-j):=by
    rcases Nat.lt_or_ge A (256 ^ (32-j)) with q | q
    ·exact q
    ·have:=Nat.div_pos q (pos _);omega
   have e:256 ^ (32-j)=256 ^ (32-(j+1))*256:=by rw [← Nat.pow_succ,show (32-(j+1)).succ=32-j by omega]
   have d2:A / 256 ^ (32-(j+1))<256:=Nat.div_lt_of_lt_mul (by rw [← e];exact l1)
   rw [Nat.mod_eq_of_lt d2] at g2
   rcases Nat.lt_or_ge A (128*256 ^ (32-(j+1))) with q | q
   ·exact q
   ·have:=(Nat.le_div_iff_mul_le (pos (32-(j+1)))).2 q;omega
 refine msz_of hA (by rw [show 33-k-1=32-k by omega];exact low k (Nat.le_refl _)) ?_ (by omega)
 by_cases h32:k=32
 ·left;omega
 ·right
  have e:256 ^ (32-k)=256 ^ (31-k)*256:=by rw [← Nat.pow_succ,show (31-k).succ=32-k by omega]
  rw [show 33-k-2=31-k by omega]
  rcases he with he | he | he
  ·omega
  ·rw [few_at hA (by omega)] at he
   have h1:1≤A / 256 ^ (32-k):=Nat.pos_of_ne_zero (fun z=>he (by rw [z]))
   have h2:=(Nat.le_div_iff_mul_le (pos (32-k))).1 h1
   omega
  ·rw [few_at hA (by omega),show 32-(k+1)=31-k by omega] at he
   have h1:128≤A / 256 ^ (31-k):=Nat.le_trans he (Nat.mod_le _ _)
   exact (Nat.le_div_iff_mul_le (pos (31-k))).1 h1
theorem few_tail {A k:Nat} (hk:k<33):Vr (rdPd (33-k) (([0]++be A 32).drop k)) (fun v=>tailV (1) (id v)) (33-(k+1)) (([0]++be A 32).drop (k+1)):=by
 have h:=vr_tail (vr_rd (n:=33-k) (l:=([0]++be A 32).drop k)) 1 (by omega)
 rw [List.drop_drop] at h
 exact h
theorem few_byte (l:List Nat) (k j:Nat):(l.drop k).getD j 0=l.getD (k+j) 0:=by
 rw [List.getD_eq_getElem?_getD,List.getElem?_drop,← List.getD_eq_getElem?_getD]
theorem few_any {A:Nat} (hA:A<2 ^ 256) (w:World):Calls Tryz.prog 138 [.agg (nc (A:Int)).toArray].toArray w fun e w'=>∃ v Fp,e=.returned v∧(rdPd (msz A) (be A (msz A))).p v Fp w'∧(∀ b,Fp b=true→w.heap.size≤b∧b<w'.heap.size)∧Below w.heap.size w w':=by
 refine enter (args:=[.agg (nc (((A:Nat):Int))).toArray]) Tryz.func138 rfl 27 rfl (lk rfl) (fun a h=>?_)
 refine aX h [] [eN 1 _,eS 2 _] ⟨rfl,rfl,T0⟩ [(1,.ptr 1 0)] [(1,nc (((A:Nat):Int)))] (fun a w h=>?_)
 refine aXQ h [0,2,3,4,5] [eQ 4 (rowPd 5 1 (1) (cells8 ([0]))),eS 5 _,eQ 6 (rdPd (32) (be A 32)),eB 7 (twoPd (1) ([0]) (32) (be A 32)) 4 6,eQ 8 (rowPd 5 1 (1+(32)) (cells8 ([0]++(be A 32)))),eS 3 (.unk 8 id)] ⟨fun L u=>u_litQ u (gd0 rfl) 4 rfl rfl 1 #[(0,(.const (.int .u8 0)))] rfl [(0,(Value.int IntKind.u8 0))] rfl (cells8 [0]) (by decide) rfl (by kernel_rfl),rfl,fun L u=>u_callQ u (gd0 rfl) 6 rfl rfl 52 #[(.tmp 5)] #[24] rfl [.val (.agg (nc (((A:Nat):Int))).toArray)] rfl (fun vs w=>callFunc_enter Tryz.func52 (by kernel_rfl) (by kernel_rfl) vs w) (rdPd (32) (be A 32)) (fun β a w hr=>putBig_rd A _),fun L u=>u_two u (gd0 rfl) 7 rfl rfl (.tmp 4) (.tmp 6) rfl rfl rfl rfl rfl rfl rfl rfl (vr_row (l:=[0]) (lt_lit (l:=[0]) (by simp))) vr_rd,fun L u=>u_callQ u (gd0 rfl) 8 rfl rfl 120 #[(.tmp 7)] #[103] rfl [.unk 7 id] rfl (fun vs w=>callFunc_enter Tryz.func120 (by kernel_rfl) (by kernel_rfl) vs w) (rowPd 5 1 (1+(32)) (cells8 ([0]++(be A 32)))) (fun β a w hr=>con_two (by omega) (by omega) (hr.thing (x:=7) (p:=twoPd (1) ([0]) (32) (be A 32)) (u.q rfl))),fun L u=>u_copyQ u (gd0 rfl) 3 rfl (.tmp 8) (Or.inr rfl) rfl rfl,T0⟩ [(3,.unk 8 id)] [] [(8,rowPd 5 1 (1+(32)) (cells8 ([0]++(be A 32))))] (fun a w h=>?_)
 refine wp_seq ?_
 refine wp_block ?_
 replace h:=h.reseat 8 8 3 (lk rfl) rfl (Or.inl rfl) rfl (m:=33-0) (l:=([0]++be A 32).drop 0) (vr_row (l:=([0]++be A 32)) (few_lt A)) [] trivial rfl
 replace h:=h.keepQ [(3,.unk 8 id)] [] [(8,rdPd (33-0) (([0]++be A 32).drop 0))] ⟨rfl,trivial⟩ trivial ⟨rfl,trivial⟩ rfl
 refine go_loop (fun (k:Nat)=>SS.mkQ [(3,.unk 8 id)] [] [(8,rdPd (33-k) (([0]++be A 32).drop k))]) (fun k=>k≤32∧∀ i,i<k→([0]++be A 32).getD i 0=0∧([0]++be A 32).getD (i+1) 0<128) (fun k=>32-k) (i:=0) (h.keepQ [(3,.unk 8 id)] [] [(8,rdPd (33-(0)) (([0]++be A 32).drop (0)))] ⟨rfl,T0⟩ T0 ⟨rfl,T0⟩ rfl) ⟨by omega,fun i hi=>by omega⟩ (fun k a w hG h=>?_)
 by_cases hs:k<32
 ·skip
  by_cases hz:([0]++be A 32).getD k 0=0
  ·skip
   by_cases hb:([0]++be A 32).getD (k+1) 0<128
   ·skip
    refine wp_seq ?_
    refine aXQ h [0,1,2,4,5,6,7,10,11,12,13] [eS 9 (.unk 8 id),eS 10 (.val (Value.int .i64 ((33-k:Nat):Int))),eS 11 (.val (Value.bool true)),eS 12 _,eS 13 (.unk 8 id),eS 14 (.unk 8 (fun v=>elemV (0) (id v))),eS 15 (.val (Value.int .u8 ((([0]++be A 32).getD (k) 0:Nat):Int))),eS 16 (.val (Value.bool true)),eS 17 _,eS 18 _,eS 19 (.unk 8 id),eS 20 (.unk 8 (fun v=>elemV (1) (id v))),eS 21 (.val (Value.int .u8 ((([0]++be A 32).getD (k+1) 0:Nat):Int))),eS 22 (.val (Value.bool true)),eS 23 _] ⟨fun L u=>u_copyQ u (gd0 rfl) 9 rfl (.tmp 3) (Or.inl rfl) rfl rfl,fun L u=>q_len u (gd0 rfl) 10 rfl (.tmp 9) rfl rfl rfl vw_rd,fun L u=>u_bin u (gd0 rfl) _ rfl _ _ _ _ _ rfl rfl rfl (eqg_int _ _ _ _ _ _ _ _) _ (yes_of (fun w=>i_gtr _ _ _ _ w) (by omega)),rfl,fun L u=>u_copyQ u (gd1 u 3 true rfl 12 rfl (lk rfl) rfl) 13 rfl (.tmp 3) (Or.inl rfl) rfl rfl,fun L u=>q_at u (gd1 u 3 true rfl 12 rfl (lk rfl) rfl) 14 rfl (.tmp 13) (.const (.int .i64 0)) rfl rfl rfl vw_rd (0) rfl (by omega),fun L u=>q_load u (gd1 u 3 true rfl 12 rfl (lk rfl) rfl) 15 rfl (.tmp 14) rfl rfl rfl vw_rd (by omega) (([0]++be A 32).getD (k) 0) (few_byte _ k 0),fun L u=>u_bin u (gd1 u 3 true rfl 12 rfl (lk rfl) rfl) _ rfl _ _ _ _ _ rfl rfl rfl (eqg_int _ _ _ _ _ _ _ _) _ (yes_of (fun w=>i_eql _ _ _ _ w) (by omega)),rfl,rfl,fun L u=>u_copyQ u (gd1 u 9 true rfl 18 rfl (lk rfl) rfl) 19 rfl (.tmp 3) (Or.inl rfl) rfl rfl,fun L u=>q_at u (gd1 u 9 true rfl 18 rfl (lk rfl) rfl) 20 rfl (.tmp 19) (.const (.int .i64 1)) rfl rfl rfl vw_rd (1) rfl (by omega),fun L u=>q_load u (gd1 u 9 true rfl 18 rfl (lk rfl) rfl) 21 rfl (.tmp 20) rfl rfl rfl vw_rd (by omega) (([0]++be A 32).getD (k+1) 0) (few_byte _ k 1),fun L u=>u_bin u (gd1 u 9 true rfl 18 rfl (lk rfl) rfl) _ rfl _ _ _ _ _ rfl rfl rfl (eqg_int _ _ _ _ _ _ _ _) _ (yes_of (fun w=>i_lss _ _ _ _ w) (by omega)),rfl,T0⟩ [(3,_),(23,.val (Value.bool true))] [] [(8,rdPd (33-k) (([0]++be A 32).drop k))] (fun a w h=>?_)
    refine go_cond h true rfl (fun ht=>?_) (fun hf=>?_)
    case refine_2=>cases hf
    refine wp_skip ?_
    refine then_norm ?_
    refine wp_block ?_
    refine aEQ h [0,1,2] [eS 24 (.unk 8 id),eS 25 (.unk 8 (fun v=>tailV (1) (id v))),eS 3 (.unk 8 (fun v=>tailV (1) (id v)))] ⟨fun L u=>u_copyQ u (gd0 rfl) 24 rfl (.tmp 3) (Or.inl rfl) rfl rfl,fun L u=>q_tail u (gd0 rfl) 25 rfl (.tmp 24) (.const (.int .i64 1)) rfl rfl rfl vw_rd (1) rfl (by omega),fun L u=>u_copyQ u (gd0 rfl) 3 rfl (.tmp 25) (Or.inr rfl) rfl rfl,T0⟩ [(3,.unk 8 (fun v=>tailV (1) (id v)))] [] [(8,rdPd (33-k) (([0]++be A 32).drop k))] (fun a w h=>?_)
    replace h:=h.reseat 8 8 3 (lk rfl) rfl (Or.inl rfl) rfl (m:=33-(k+1)) (l:=([0]++be A 32).drop (k+1)) (few_tail (by omega)) [] trivial rfl
    replace h:=h.keepQ [(3,.unk 8 id)] [] [(8,rdPd (33-(k+1)) (([0]++be A 32).drop (k+1)))] ⟨rfl,trivial⟩ trivial ⟨rfl,trivial⟩ rfl
    refine blk_norm ?_
    refine then_norm ?_
    exact ⟨k+1,⟨by omega,fun i hi=>by rcases Nat.lt_or_ge i k with h1 | h1;exact hG.2 i h1;rw [show i=k by omega];exact ⟨hz,hb⟩⟩,(by omega),h.keepQ [(3,.unk 8 id)] [] [(8,rdPd (33-(k+1)) (([0]++be A 32).drop (k+1)))] ⟨rfl,trivial⟩ trivial ⟨rfl,trivial⟩ rfl⟩
   ·skip
    refine wp_seq ?_
    refine aXQ h [0,1,2,4,5,6,7,10,11,12,13] [eS 9 (.unk 8 id),eS 10 (.val (Value.int .i64 ((33-k:Nat):Int))),eS 11 (.val (Value.bool true)),eS 12 _,eS 13 (.unk 8 id),eS 14 (.unk 8 (fun v=>elemV (0) (id v))),eS 15 (.val (Value.int .u8 ((([0]++be A 32).getD (k) 0:Nat):Int))),eS 16 (.val (Value.bool true)),eS 17 _,eS 18 _,eS 19 (.unk 8 id),eS 20 (.unk 8 (fun v=>elemV (1) (id v))),eS 21 (.val (Value.int .u8 ((([0]++be A 32).getD (k+1) 0:Nat):Int))),eS 22 (.val (Value.bool false)),eS 23 _] ⟨fun L u=>u_copyQ u (gd0 rfl) 9 rfl (.tmp 3) (Or.inl rfl) rfl rfl,fun L u=>q_len u (gd0 rfl) 10 rfl (.tmp 9) rfl rfl rfl vw_rd,fun L u=>u_bin u (gd0 rfl) _ rfl _ _ _ _ _ rfl rfl rfl (eqg_int _ _ _ _ _ _ _ _) _ (yes_of (fun w=>i_gtr _ _ _ _ w) (by omega)),rfl,fun L u=>u_copyQ u (gd1 u 3 true rfl 12 rfl (lk rfl) rfl) 13 rfl (.tmp 3) (Or.inl rfl) rfl rfl,fun L u=>q_at u (gd1 u 3 true rfl 12 rfl (lk rfl) rfl) 14 rfl (.tmp 13) (.const (.int .i64 0)) rfl rfl rfl vw_rd (0) rfl (by omega),fun L u=>q_load u (gd1 u 3 true rfl 12 rfl (lk rfl) rfl) 15 rfl (.tmp 14) rfl rfl rfl vw_rd (by omega) (([0]++be A 32).getD (k) 0) (few_byte _ k 0),fun L u=>u_bin u (gd1 u 3 true rfl 12 rfl (lk rfl) rfl) _ rfl _ _ _ _ _ rfl rfl rfl (eqg_int _ _ _ _ _ _ _ _) _ (yes_of (fun w=>i_eql _ _ _ _ w) (by omega)),rfl,rfl,fun L u=>u_copyQ u (gd1 u 9 true rfl 18 rfl (lk rfl) rfl) 19 rfl (.tmp 3) (Or.inl rfl) rfl rfl,fun L u=>q_at u (gd1 u 9 true rfl 18 rfl (lk rfl) rfl) 20 rfl (.tmp 19) (.const (.int .i64 1)) rfl rfl rfl vw_rd (1) rfl (by omega),fun L u=>q_load u (gd1 u 9 true rfl 18 rfl (lk rfl) rfl) 21 rfl (.tmp 20) rfl rfl rfl vw_rd (by omega) (([0]++be A 32).getD (k+1) 0) (few_byte _ k 1),fun L u=>u_bin u (gd1 u 9 true rfl 18 rfl (lk rfl) rfl) _ rfl _ _ _ _ _ rfl rfl rfl (eqg_int _ _ _ _ _ _ _ _) _ (no_of (fun w=>i_lss _ _ _ _ w) (by omega)),rfl,T0⟩ [(3,_),(23,.val (Value.bool false))] [] [(8,rdPd (33-k) (([0]++be A 32).drop k))] (fun a w h=>?_)
    refine go_cond h false rfl (fun ht=>?_) (fun hf=>?_)
    case refine_1=>cases ht
    refine wp_exit ?_
    refine then_exit ?_
    refine then_exit ?_
    refine blk_exit ?_
    refine then_norm ?_
    refine aXQ h [0,1] [eS 26 (.unk 8 id),eS 2 (.unk 8 id)] ⟨fun L u=>u_copyQ u (gd0 rfl) 26 rfl (.tmp 3) (Or.inl rfl) rfl rfl,fun L u=>u_copyQ u (gd0 rfl) 2 rfl (.tmp 26) (Or.inr rfl) rfl rfl,T0⟩ [(2,.unk 8 id)] [] [(8,rdPd (33-k) (([0]++be A 32).drop k))] (fun a w h=>?_)
    refine wp_ret ?_
    refine ret_thing h 2 rfl (lk rfl) 8 id rfl rfl (fun v F hp hF=>?_)
    exact ⟨v,F,rfl,by replace hp:(rdPd (33-k) (([0]++be A 32).drop k)).p v F w:=hp;have e:=few_end hA hG.1 hG.2 (Or.inr (Or.inr (by omega)));rw [few_33 hA,be_drop A 33 k (by omega),← e] at hp;exact hp,hF,h.grows⟩
  ·skip
   by_cases hb:([0]++be A 32).getD (k+1) 0<128
   ·skip
    refine wp_seq ?_
    refine aXQ h [0,1,2,4,5,6,7] [eS 9 (.unk 8 id),eS 10 (.val (Value.int .i64 ((33-k:Nat):Int))),eS 11 (.val (Value.bool true)),eS 12 _,eS 13 (.unk 8 id),eS 14 (.unk 8 (fun v=>elemV (0) (id v))),eS 15 (.val (Value.int .u8 ((([0]++be A 32).getD (k) 0:Nat):Int))),eS 16 (.val (Value.bool false)),eS 17 _,eS 18 _,eS 19 _,eS 20 _,eS 21 _,eS 22 _,eS 23 _] ⟨fun L u=>u_copyQ u (gd0 rfl) 9 rfl (.tmp 3) (Or.inl rfl) rfl rfl,fun L u=>q_len u (gd0 rfl) 10 rfl (.tmp 9) rfl rfl rfl vw_rd,fun L u=>u_bin u (gd0 rfl) _ rfl _ _ _ _ _ rfl rfl rfl (eqg_int _ _ _ _ _ _ _ _) _ (yes_of (fun w=>i_gtr _ _ _ _ w) (by omega)),rfl,fun L u=>u_copyQ u (gd1 u 3 true rfl 12 rfl (lk rfl) rfl) 13 rfl (.tmp 3) (Or.inl rfl) rfl rfl,fun L u=>q_at u (gd1 u 3 true rfl 12 rfl (lk rfl) rfl) 14 rfl (.tmp 13) (.const (.int .i64 0)) rfl rfl rfl vw_rd (0) rfl (by omega),fun L u=>q_load u (gd1 u 3 true rfl 12 rfl (lk rfl) rfl) 15 rfl (.tmp 14) rfl rfl rfl vw_rd (by omega) (([0]++be A 32).getD (k) 0) (few_byte _ k 0),fun L u=>u_bin u (gd1 u 3 true rfl 12 rfl (lk rfl) rfl) _ rfl _ _ _ _ _ rfl rfl rfl (eqg_int _ _ _ _ _ _ _ _) _ (no_of (fun w=>i_eql _ _ _ _ w) (by omega)),rfl,rfl,rfl,rfl,rfl,rfl,rfl,T0⟩ [(3,_),(23,.val (Value.bool false))] [] [(8,rdPd (33-k) (([0]++be A 32).drop k))] (fun a w h=>?_)
    refine go_cond h false rfl (fun ht=>?_) (fun hf=>?_)
    case refine_1=>cases ht
    refine wp_exit ?_
    refine then_exit ?_
    refine then_exit ?_
    refine blk_exit ?_
    refine then_norm ?_
    refine aXQ h [0,1] [eS 26 (.unk 8 id),eS 2 (.unk 8 id)] ⟨fun L u=>u_copyQ u (gd0 rfl) 26 rfl (.tmp 3) (Or.inl rfl) rfl rfl,fun L u=>u_copyQ u (gd0 rfl) 2 rfl (.tmp 26) (Or.inr rfl) rfl rfl,T0⟩ [(2,.unk 8 id)] [] [(8,rdPd (33-k) (([0]++be A 32).drop k))] (fun a w h=>?_)
    refine wp_ret ?_
    refine ret_thing h 2 rfl (lk rfl) 8 id rfl rfl (fun v F hp hF=>?_)
    exact ⟨v,F,rfl,by replace hp:(rdPd (33-k) (([0]++be A 32).drop k)).p v F w:=hp;have e:=few_end hA hG.1 hG.2 (Or.inr (Or.inl hz));rw [few_33 hA,be_drop A 33 k (by omega),← e] at hp;exact hp,hF,h.grows⟩
   ·skip
    refine wp_seq ?_
    refine aXQ h [0,1,2,4,5,6,7] [eS 9 (.unk 8 id),eS 10 (.val (Value.int .i64 ((33-k:Nat):Int))),eS 11 (.val (Value.bool true)),eS 12 _,eS 13 (.unk 8 id),eS 14 (.unk 8 (fun v=>elemV (0) (id v))),eS 15 (.val (Value.int .u8 ((([0]++be A 32).getD (k) 0:Nat):Int))),eS 16 (.val (Value.bool false)),eS 17 _,eS 18 _,eS 19 _,eS 20 _,eS 21 _,eS 22 _,eS 23 _] ⟨fun L u=>u_copyQ u (gd0 rfl) 9 rfl (.tmp 3) (Or.inl rfl) rfl rfl,fun L u=>q_len u (gd0 rfl) 10 rfl (.tmp 9) rfl rfl rfl vw_rd,fun L u=>u_bin u (gd0 rfl) _ rfl _ _ _ _ _ rfl rfl rfl (eqg_int _ _ _ _ _ _ _ _) _ (yes_of (fun w=>i_gtr _ _ _ _ w) (by omega)),rfl,fun L u=>u_copyQ u (gd1 u 3 true rfl 12 rfl (lk rfl) rfl) 13 rfl (.tmp 3) (Or.inl rfl) rfl rfl,fun L u=>q_at u (gd1 u 3 true rfl 12 rfl (lk rfl) rfl) 14 rfl (.tmp 13) (.const (.int .i64 0)) rfl rfl rfl vw_rd (0) rfl (by omega),fun L u=>q_load u (gd1 u 3 true rfl 12 rfl (lk rfl) rfl) 15 rfl (.tmp 14) rfl rfl rfl vw_rd (by omega) (([0]++be A 32).getD (k) 0) (few_byte _ k 0),fun L u=>u_bin u (gd1 u 3 true rfl 12 rfl (lk rfl) rfl) _ rfl _ _ _ _ _ rfl rfl rfl (eqg_int _ _ _ _ _ _ _ _) _ (no_of (fun w=>i_eql _ _ _ _ w) (by omega)),rfl,rfl,rfl,rfl,rfl,rfl,rfl,T0⟩ [(3,_),(23,.val (Value.bool false))] [] [(8,rdPd (33-k) (([0]++be A 32).drop k))] (fun a w h=>?_)
    refine go_cond h false rfl (fun ht=>?_) (fun hf=>?_)
    case refine_1=>cases ht
    refine wp_exit ?_
    refine then_exit ?_
    refine then_exit ?_
    refine blk_exit ?_
    refine then_norm ?_
    refine aXQ h [0,1] [eS 26 (.unk 8 id),eS 2 (.unk 8 id)] ⟨fun L u=>u_copyQ u (gd0 rfl) 26 rfl (.tmp 3) (Or.inl rfl) rfl rfl,fun L u=>u_copyQ u (gd0 rfl) 2 rfl (.tmp 26) (Or.inr rfl) rfl rfl,T0⟩ [(2,.unk 8 id)] [] [(8,rdPd (33-k) (([0]++be A 32).drop k))] (fun a w h=>?_)
    refine wp_ret ?_
    refine ret_thing h 2 rfl (lk rfl) 8 id rfl rfl (fun v F hp hF=>?_)
    exact ⟨v,F,rfl,by replace hp:(rdPd (33-k) (([0]++be A 32).drop k)).p v F w:=hp;have e:=few_end hA hG.1 hG.2 (Or.inr (Or.inl hz));rw [few_33 hA,be_drop A 33 k (by omega),← e] at hp;exact hp,hF,h.grows⟩
 ·skip
  refine wp_seq ?_
  refine aXQ h [0,1,2] [eS 9 (.unk 8 id),eS 10 (.val (Value.int .i64 ((33-k:Nat):Int))),eS 11 (.val (Value.bool false)),eS 12 _,eS 13 _,eS 14 _,eS 15 _,eS 16 _,eS 17 _,eS 18 _,eS 19 _,eS 20 _,eS 21 _,eS 22 _,eS 23 _] ⟨fun L u=>u_copyQ u (gd0 rfl) 9 rfl (.tmp 3) (Or.inl rfl) rfl rfl,fun L u=>q_len u (gd0 rfl) 10 rfl (.tmp 9) rfl rfl rfl vw_rd,fun L u=>u_bin u (gd0 rfl) _ rfl _ _ _ _ _ rfl rfl rfl (eqg_int _ _ _ _ _ _ _ _) _ (no_of (fun w=>i_gtr _ _ _ _ w) (by omega)),rfl,rfl,rfl,rfl,rfl,rfl,rfl,rfl,rfl,rfl,rfl,rfl,T0⟩ [(3,_),(23,.val (Value.bool false))] [] [(8,rdPd (33-k) (([0]++be A 32).drop k))] (fun a w h=>?_)
  refine go_cond h false rfl (fun ht=>?_) (fun hf=>?_)
  case refine_1=>cases ht
  refine wp_exit ?_
  refine then_exit ?_
  refine then_exit ?_
  refine blk_exit ?_
  refine then_norm ?_
  refine aXQ h [0,1] [eS 26 (.unk 8 id),eS 2 (.unk 8 id)] ⟨fun L u=>u_copyQ u (gd0 rfl) 26 rfl (.tmp 3) (Or.inl rfl) rfl rfl,fun L u=>u_copyQ u (gd0 rfl) 2 rfl (.tmp 26) (Or.inr rfl) rfl rfl,T0⟩ [(2,.unk 8 id)] [] [(8,rdPd (33-k) (([0]++be A 32).drop k))] (fun a w h=>?_)
  refine wp_ret ?_
  refine ret_thing h 2 rfl (lk rfl) 8 id rfl rfl (fun v F hp hF=>?_)
  exact ⟨v,F,rfl,by replace hp:(rdPd (33-k) (([0]++be A 32).drop k)).p v F w:=hp;have e:=few_end hA hG.1 hG.2 (Or.inl (by omega));rw [few_33 hA,be_drop A 33 k (by omega),← e] at hp;exact hp,hF,h.grows⟩
theorem e_int {A:Nat} (hA:A<2 ^ 256) (w:World):Calls Tryz.prog 121 [.agg (nc (A:Int)).toArray].toArray w fun e w'=>∃ v,e=.returned v∧w'.ownsRow w.heap.size 5 1 v (msz A+2) (cells8 (dI A))∧Below w.heap.size w w':=by
 have hmA:=msz_spec hA
 refine enter (args:=[.agg (nc (((A:Nat):Int))).toArray]) Tryz.func121 rfl 13 rfl (lk rfl) (fun a h=>?_)
 refine aX h [] [eN 1 _,eS 2 _] ⟨rfl,rfl,T0⟩ [(1,.ptr 1 0)] [(1,nc (((A:Nat):Int)))] (fun a w h=>?_)
 refine aXQ h [1,2] [eS 4 _,eQ 5 (rdPd (msz A) (be A (msz A))),eS 3 (.unk 5 id)] ⟨rfl,fun L u=>u_callQ u (gd0 rfl) 5 rfl rfl 138 #[(.tmp 4)] #[24] rfl [.val (.agg (nc (((A:Nat):Int))).toArray)] rfl (fun vs w=>callFunc_enter Tryz.func138 (by kernel_rfl) (by kernel_rfl) vs w) (rdPd (msz A) (be A (msz A))) (fun β a w hr=>few_any hA _),fun L u=>u_copyQ u (gd0 rfl) 3 rfl (.tmp 5) (Or.inr rfl) rfl rfl,T0⟩ [(3,.unk 5 id)] [] [(5,rdPd (msz A) (be A (msz A)))] (fun a w h=>?_)
 refine wp_seq ?_
 refine sq_begin [0,1,2,3,4,5,6,7] rfl ?_
 refine sq_step h (i:=0) rfl (u_copyQ (xs:=[]) (up_seq (i:=0) (by kernel_rfl) rfl) (gd0 rfl) 6 rfl (.tmp 3) (Or.inl rfl) rfl rfl) (fun a w h=>?_)
 refine sq_step h (i:=1) rfl (q_len (xs:=[]) (up_seq (i:=1) (by kernel_rfl) rfl) (gd0 rfl) 7 rfl (.tmp 6) rfl rfl rfl vw_rd) (fun a w h=>?_)
 refine sq_step h (i:=2) rfl (u_conv (xs:=[]) (up_seq (i:=2) (by kernel_rfl) rfl) (gd0 rfl) 8 rfl 3 5 (.tmp 7) rfl rfl (Value.int .u8 ((msz A:Nat):Int)) (fun w=>c_u8 _ ⟨by omega,by omega⟩ w)) (fun a w h=>?_)
 refine sq_step h (i:=3) rfl (u_litQ (xs:=[]) (up_seq (i:=3) (by kernel_rfl) rfl) (gd0 rfl) 9 rfl rfl 2 #[(0,(.const (.int .u8 2))),(1,(.tmp 8))] rfl [(0,(Value.int IntKind.u8 2)),(1,Value.int .u8 ((msz A:Nat):Int))] rfl (cells8 [2,msz A]) (by decide) rfl (by kernel_rfl)) (fun a w h=>?_)
 refine sq_step h (i:=4) rfl (u_copyQ (xs:=[]) (up_seq (i:=4) (by kernel_rfl) rfl) (gd0 rfl) 10 rfl (.tmp 3) (Or.inl rfl) rfl rfl) (fun a w h=>?_)
 refine sq_step h (i:=5) rfl (u_two (xs:=[]) (up_seq (i:=5) (by kernel_rfl) rfl) (gd0 rfl) 11 rfl rfl (.tmp 9) (.tmp 10) rfl rfl rfl rfl rfl rfl rfl rfl (vr_row (l:=[2,msz A]) (lt_lit (l:=[2,msz A]) (by intro x hx;simp at hx;omega))) vr_rd) (fun a w h=>?_)
 refine sq_step h (i:=6) rfl (u_callQ (xs:=[]) (up_seq (i:=6) (by kernel_rfl) rfl) (gd0 rfl) 12 rfl rfl 120 #[(.tmp 11)] #[103] rfl [.unk 11 id] rfl (fun vs w=>callFunc_enter Tryz.func120 (by kernel_rfl) (by kernel_rfl) vs w) (rowPd 5 1 (2+(msz A)) (cells8 ([2,msz A]++(be A (msz A))))) (fun β a w hr=>con_two (by omega) (by omega) (hr.thing (x:=11) (p:=twoPd (2) ([2,msz A]) (msz A) (be A (msz A))) rfl))) (fun a w h=>?_)
 refine sq_step h (i:=7) rfl (u_copyQ (xs:=[]) (up_seq (i:=7) (by kernel_rfl) rfl) (gd0 rfl) 2 rfl (.tmp 12) (Or.inr rfl) rfl rfl) (fun a w h=>?_)
 replace h:=h.keepQ [(2,.unk 12 id)] [] [(12,rowPd 5 1 (2+(msz A)) (cells8 ([2,msz A]++(be A (msz A)))))] ⟨rfl,trivial⟩ trivial ⟨rfl,trivial⟩ rfl
 refine sq_end ?_
 refine then_norm ?_
 refine wp_ret ?_
 refine ret_thing h 2 rfl (lk rfl) 12 id rfl rfl (fun v F hp hF=>?_)
 exact ⟨v,rfl,by have q:=row_back hp hF;rw [show 2+(msz A)=msz A+2 by omega] at q;exact q,h.grows⟩
theorem e_Enc {A B:Nat} (hA:A<2 ^ 256) (hB:B<2 ^ 256) (w:World):Calls Tryz.prog 80 [.agg (nc (A:Int)).toArray,.agg (nc (B:Int)).toArray].toArray w fun e w'=>∃ v,e=.returned v∧w'.ownsRow w.heap.size 5 1 v (msz A+msz B+6) (cells8 (dE A B))∧Below w.heap.size w w':=by
 have hmA:=msz_spec hA
 have hmB:=msz_spec hB
 refine enter (args:=[.agg (nc (((A:Nat):Int))).toArray,.agg (nc (((B:Nat):Int))).toArray]) Tryz.func80 rfl 19 rfl (lk rfl) (fun a h=>?_)
 refine aX h [] [eN 2 _,eN 3 _,eS 4 _] ⟨rfl,rfl,rfl,T0⟩ [(2,.ptr 2 0),(3,.ptr 3 0)] [(2,nc (((A:Nat):Int))),(3,nc (((B:Nat):Int)))] (fun a w h=>?_)
 refine aXQ h [1,3,4,5,6] [eS 6 _,eQ 7 (rowPd 5 1 (msz A+2) (cells8 (dI A))),eS 8 _,eQ 9 (rowPd 5 1 (msz B+2) (cells8 (dI B))),eB 10 (twoPd (msz A+2) (dI A) (msz B+2) (dI B)) 7 9,eQ 11 (rowPd 5 1 (msz A+2+(msz B+2)) (cells8 (dI A++(dI B)))),eS 5 (.unk 11 id)] ⟨rfl,fun L u=>u_callQ u (gd0 rfl) 7 rfl rfl 121 #[(.tmp 6)] #[24] rfl [.val (.agg (nc (((A:Nat):Int))).toArray)] rfl (fun vs w=>callFunc_enter Tryz.func121 (by kernel_rfl) (by kernel_rfl) vs w) (rowPd 5 1 (msz A+2) (cells8 (dI A))) (fun β a w hr=>thing_of (e_int hA _)),rfl,fun L u=>u_callQ u (gd0 rfl) 9 rfl rfl 121 #[(.tmp 8)] #[24] rfl [.val (.agg (nc (((B:Nat):Int))).toArray)] rfl (fun vs w=>callFunc_enter Tryz.func121 (by kernel_rfl) (by kernel_rfl) vs w) (rowPd 5 1 (msz B+2) (cells8 (dI B))) (fun β a w hr=>thing_of (e_int hB _)),fun L u=>u_two u (gd0 rfl) 10 rfl rfl (.tmp 7) (.tmp 9) rfl rfl rfl rfl rfl rfl rfl rfl (vr_row (l:=dI A) (dI_lt hA)) (vr_row (l:=dI B) (dI_lt hB)),fun L u=>u_callQ u (gd0 rfl) 11 rfl rfl 120 #[(.tmp 10)] #[103] rfl [.unk 10 id] rfl (fun vs w=>callFunc_enter Tryz.func120 (by kernel_rfl) (by kernel_rfl) vs w) (rowPd 5 1 (msz A+2+(msz B+2)) (cells8 (dI A++(dI B)))) (fun β a w hr=>con_two (by omega) (by omega) (hr.thing (x:=10) (p:=twoPd (msz A+2) (dI A) (msz B+2) (dI B)) (u.q rfl))),fun L u=>u_copyQ u (gd0 rfl) 5 rfl (.tmp 11) (Or.inr rfl) rfl rfl,T0⟩ [(5,.unk 11 id)] [] [(11,rowPd 5 1 (msz A+2+(msz B+2)) (cells8 (dI A++(dI B))))] (fun a w h=>?_)
 refine wp_seq ?_
 refine sq_begin [0,1,2,3,4,5,6,7] rfl ?_
 refine sq_step h (i:=0) rfl (u_copyQ (xs:=[]) (up_seq (i:=0) (by kernel_rfl) rfl) (gd0 rfl) 12 rfl (.tmp 5) (Or.inl rfl) rfl rfl) (fun a w h=>?_)
 refine sq_step h (i:=1) rfl (q_len (xs:=[]) (up_seq (i:=1) (by kernel_rfl) rfl) (gd0 rfl) 13 rfl (.tmp 12) rfl rfl rfl (vw_row (l:=dI A++(dI B)) (lt_app (dI_lt hA) (dI_lt hB)))) (fun a w h=>?_)
 refine sq_step h (i:=2) rfl (u_conv (xs:=[]) (up_seq (i:=2) (by kernel_rfl) rfl) (gd0 rfl) 14 rfl 3 5 (.tmp 13) rfl rfl (Value.int .u8 ((msz A+2+(msz B+2):Nat):Int)) (fun w=>c_u8 _ ⟨by omega,by omega⟩ w)) (fun a w h=>?_)
 refine sq_step h (i:=3) rfl (u_litQ (xs:=[]) (up_seq (i:=3) (by kernel_rfl) rfl) (gd0 rfl) 15 rfl rfl 2 #[(0,(.const (.int .u8 48))),(1,(.tmp 14))] rfl [(0,(Value.int IntKind.u8 48)),(1,Value.int .u8 ((msz A+2+(msz B+2):Nat):Int))] rfl (cells8 [48,msz A+2+(msz B+2)]) (by decide) rfl (by kernel_rfl)) (fun a w h=>?_)
 refine sq_step h (i:=4) rfl (u_copyQ (xs:=[]) (up_seq (i:=4) (by kernel_rfl) rfl) (gd0 rfl) 16 rfl (.tmp 5) (Or.inl rfl) rfl rfl) (fun a w h=>?_)
 refine sq_step h (i:=5) rfl (u_two (xs:=[]) (up_seq (i:=5) (by kernel_rfl) rfl) (gd0 rfl) 17 rfl rfl (.tmp 15) (.tmp 16) rfl rfl rfl rfl rfl rfl rfl rfl (vr_row (l:=[48,msz A+2+(msz B+2)]) (lt_lit (l:=[48,msz A+2+(msz B+2)]) (by intro x hx;simp at hx;omega))) (vr_row (l:=dI A++(dI B)) (lt_app (dI_lt hA) (dI_lt hB)))) (fun a w h=>?_)
 refine sq_step h (i:=6) rfl (u_callQ (xs:=[]) (up_seq (i:=6) (by kernel_rfl) rfl) (gd0 rfl) 18 rfl rfl 120 #[(.tmp 17)] #[103] rfl [.unk 17 id] rfl (fun vs w=>callFunc_enter Tryz.func120 (by kernel_rfl) (by kernel_rfl) vs w) (rowPd 5 1 (2+(msz A+2+(msz B+2))) (cells8 ([48,msz A+2+(msz B+2)]++(dI A++(dI B))))) (fun β a w hr=>con_two (by omega) (by omega) (hr.thing (x:=17) (p:=twoPd (2) ([48,msz A+2+(msz B+2)]) (msz A+2+(msz B+2)) (dI A++(dI B))) rfl))) (fun a w h=>?_)
 refine sq_step h (i:=7) rfl (u_copyQ (xs:=[]) (up_seq (i:=7) (by kernel_rfl) rfl) (gd0 rfl) 4 rfl (.tmp 18) (Or.inr rfl) rfl rfl) (fun a w h=>?_)
 replace h:=h.keepQ [(4,.unk 18 id)] [] [(18,rowPd 5 1 (2+(msz A+2+(msz B+2))) (cells8 ([48,msz A+2+(msz B+2)]++(dI A++(dI B)))))] ⟨rfl,trivial⟩ trivial ⟨rfl,trivial⟩ rfl
 refine sq_end ?_
 refine then_norm ?_
 refine wp_ret ?_
 refine ret_thing h 4 rfl (lk rfl) 18 id rfl rfl (fun v F hp hF=>?_)
 exact ⟨v,rfl,by have q:=row_back hp hF;rw [show [48,msz A+2+(msz B+2)]++(dI A++(dI B))=dE A B by simp [dE,dI_len],show 2+(msz A+2+(msz B+2))=msz A+msz B+6 by omega] at q;exact q,h.grows⟩
end Go.Proofs.YtmigakanbeckpaaGreatDoor.De
namespace Go.Proofs.YtmigakanbeckpaaGreatDoor.De
set_option maxRecDepth 100000
open Go.RowKit
structure Tab (w:World):Prop where
 c:∃ t v,w.cell? ⟨3,0,none⟩=some (.iface t v)
theorem Tab.keep {w w1:World} (h:Tab w) (hb:Below w.heap.size w w1):Tab w1:=by
 obtain ⟨t,v,hc⟩:=h.c
 exact ⟨t,v,later hb hc⟩
structure Env (w:World) (b:Nat) (z:Option Addr) (n c:Nat) (f:Nat→Nat):Prop where
 nc:n≤c
 ba:∀ w',w.grownBy w' (some b)→BA w' z n f
 tb:∀ w',w.grownBy w' (some b)→Tab w'
theorem Env.later {w w1:World} {b n c:Nat} {z:Option Addr} {f:Nat→Nat} (h:Env w b z n c f) (hw:w.grownBy w1 (some b)):Env w1 b z n c f:=⟨h.nc,fun w' h'=>h.ba w' (grown_trans hw h'),fun w' h'=>h.tb w' (grown_trans hw h')⟩
theorem Env.cut {w:World} {b n c:Nat} {z:Option Addr} {f:Nat→Nat} (h:Env w b z n c f) (k:Nat) {z1:Option Addr} (hz:cutA z c k=z1) {n1 c1:Nat} (hn:n=n1+k) (hc:c=c1+k) {g:Nat→Nat} (hg:∀ i,g i=f (k+i)):Env w b z1 n1 c1 g:=by
 refine ⟨by have:=h.nc;omega,fun w' h'=>?_,h.tb⟩
 have e:=(h.ba w' h').cut c k n1 (by omega) h.nc
 rw [hz,show (fun i=>f (k+i))=g from funext fun i=>(hg i).symm] at e
 exact e
theorem env_of {w0 w:World} {b n c:Nat} {z:Option Addr} {f:Nat→Nat} (hba:BA w0 z n f) (hT:Tab w0) (hnc:n≤c) (hk:(Bs.of w0).kp w) (ho:(Bs.of w0).w.heap.size≤b∨(Bs.of w0).X b=true):Env w b z n c f:=by
 have hb:w0.heap.size≤b:=ho.resolve_right (fun e=>by cases e)
 have key:∀ w',w.grownBy w' (some b)→Below w0.heap.size w0 w':=fun w' h'=>Bs.kp_of (grown_kp hk (Or.inl hb) h')
 exact ⟨hnc,fun w' h'=>hba.keep (key w' h'),fun w' h'=>hT.keep (key w' h')⟩
theorem _root_.Go.Proofs.YtmigakanbeckpaaGreatDoor.BA.cellAt {w:World} {d o n:Nat} {f:Nat→Nat} (h:BA w (some ⟨d,o,none⟩) n f) {i:Nat} (hi:i<n):w.cell? ⟨d,o+i,none⟩=some (.int .u8 ((f i:Nat):Int)):=by
 rcases h.at_ with h0 | ⟨b,q,e,hr⟩
 ·omega
 ·cases e
  exact hr.c i hi
theorem cutA0 (d o c:Nat):cutA (some ⟨d,o,none⟩) c 0=some ⟨d,o,none⟩:=by
 unfold cutA
 split
 ·rfl
 ·rw [Option.map_some,Addr.add_mid];rfl
theorem cE112 (vs:List Value):∀ w,(callFunc 112 vs.toArray).run Tryz.prog w=.ok (.enter 112 vs.toArray) w:=callFunc_enter Tryz.func112 (by kernel_rfl) (by kernel_rfl) _
theorem cE136 (vs:List Value):∀ w,(callFunc 136 vs.toArray).run Tryz.prog w=.ok (.enter 136 vs.toArray) w:=callFunc_enter Tryz.func136 (by kernel_rfl) (by kernel_rfl) _
theorem cE72 (vs:List Value):∀ w,(callFunc 72 vs.toArray).run Tryz.prog w=.ok (.enter 72 vs.toArray) w:=callFunc_enter Tryz.func72 (by kernel_rfl) (by kernel_rfl) _
theorem ins_t {w:World} :Calls Tryz.prog 112 [Value.bool true].toArray w fun e w'=>e=.returned (.tuple #[])∧Below w.heap.size w w':=by
 refine enter (args:=[Value.bool true]) Tryz.func112 rfl 5 rfl (lk rfl) (fun a h=>?_)
 refine aX h [] [eS 2 _,eS 3 _] ⟨rfl,rfl,T0⟩ [(3,.val (Value.bool false))] [] (fun a w h=>?_)
 refine go_cond h false rfl (fun ht=>?_) (fun hf=>?_)
 case refine_1=>cases ht
 refine wp_skip ?_
 refine end_none h rfl ?_
 exact ⟨rfl,h.grows⟩
theorem take_ok {w:World} {b n c k n1 c1:Nat} {z z0 z1:Option Addr} (_hnc:n≤c) (h0:cutA z c 0=z0) (h1:cutA z c k=z1) (hn:n=n1+k) (hc:c=c1+k) (h3:w.rangeAt b 0 [Value.slice (z) (n) (c)]) (h4:w.there b 0 [Value.slice (z) (n) (c)].length) (hl:b<w.heap.size):Calls Tryz.prog 135 [Value.pointer (some ⟨b,0,none⟩),Value.int .i64 ((k:Nat):Int)].toArray w fun e w'=>e=.returned (Value.slice (z0) (k) (c))∧w.grownBy w' (some b)∧w'.rangeAt b 0 [Value.slice (z1) (n1) (c1)]∧w'.there b 0 [Value.slice (z1) (n1) (c1)].length:=by
 refine enterB (X:=fun k=>Nat.beq k b) (args:=[Value.pointer (some ⟨b,0,none⟩),Value.int .i64 ((k:Nat):Int)]) Tryz.func135 rfl 30 rfl (lk rfl) (fun a h=>?_)
 replace h:=h.keepQ [(0,.val (Value.pointer (some ⟨b,0,none⟩))),(1,.val (Value.int .i64 ((k:Nat):Int)))] [] [] ⟨rfl,rfl,trivial⟩ trivial trivial rfl
 replace h:=h.gift 0 b [Value.slice (z) (n) (c)] rfl (fun _=>rfl) (Nat.beq_refl b) hl h3 h4 (fun y p hy=>by cases hy)
 replace h:=h.keepQ [(0,.val (Value.pointer (some ⟨b,0,none⟩))),(1,.val (Value.int .i64 ((k:Nat):Int)))] [] [(0,varPd b ([Value.slice (z) (n) (c)]))] ⟨rfl,rfl,trivial⟩ trivial ⟨rfl,trivial⟩ rfl
 refine aXQ h [] [eS 4 _] ⟨rfl,T0⟩ [(0,_),(1,_)] [] [(0,varPd b ([Value.slice (z) (n) (c)]))] (fun a w h=>?_)
 refine wp_seq ?_
 refine sq_begin [0,1,2,3,4,5,6,7] rfl ?_
 refine sq_step h (i:=0) rfl (u_move (xs:=[]) (up_seq (i:=0) (by kernel_rfl) rfl) (gd0 rfl) 6 rfl (.tmp 1) (Or.inl rfl) rfl) (fun a w h=>?_)
 refine sq_step h (i:=1) rfl (u_move (xs:=[]) (up_seq (i:=1) (by kernel_rfl) rfl) (gd0 rfl) 7 rfl (.tmp 0) (Or.inl rfl) rfl) (fun a w h=>?_)
 refine sq_step h (i:=2) rfl (u_nilV (xs:=[]) (up_seq (i:=2) (by kernel_rfl) rfl) (gd0 rfl) 8 rfl (.tmp 7) rfl rfl) (fun a w h=>?_)
 refine sq_step h (i:=3) rfl (u_fieldV (xs:=[]) (up_seq (i:=3) (by kernel_rfl) rfl) (gd0 rfl) 9 rfl 121 (.tmp 8) 0 rfl rfl Tryz.underlying121 rfl i25 0 rfl) (fun a w h=>?_)
 refine sq_step h (i:=4) rfl (u_loadF1 (xs:=[]) (up_seq (i:=4) (by kernel_rfl) rfl) (gd0 rfl) 10 rfl 25 (.tmp 9) rfl rfl 0 rfl Tryz.underlying25 rfl (Value.slice (z) (n) (c)) rfl) (fun a w h=>?_)
 refine sq_step h (i:=5) rfl (u_lenV (xs:=[]) (up_seq (i:=5) (by kernel_rfl) rfl) (gd0 rfl) 11 rfl (.tmp 10) 25 rfl rfl Tryz.underlying25) (fun a w h=>?_)
 refine sq_step h (i:=6) rfl (u_bin (xs:=[]) (up_seq (i:=6) (by kernel_rfl) rfl) (gd0 rfl) _ rfl _ _ _ _ _ rfl rfl rfl (eqg_int _ _ _ _ _ _ _ _) _ (yes_of (fun w=>i_leq _ _ _ _ w) (by omega))) (fun a w h=>?_)
 refine sq_step h (i:=7) rfl (u_call (xs:=[]) (up_seq (i:=7) (by kernel_rfl) rfl) (gd0 rfl) _ rfl _ _ _ rfl [_] rfl (cE112 _) _ (fun w hb=>ins_t)) (fun a w h=>?_)
 replace h:=h.keepQ [(0,.val (Value.pointer (some ⟨b,0,none⟩))),(1,.val (Value.int .i64 ((k:Nat):Int)))] [] [(0,varPd b ([Value.slice (z) (n) (c)]))] ⟨rfl,rfl,trivial⟩ trivial ⟨rfl,trivial⟩ rfl
 refine sq_end ?_
 refine then_norm ?_
 refine aXQ h [1,2,3,5] [eS 14 _,eS 15 (.val (Value.pointer (some ⟨b,0,none⟩))),eS 16 (.val (Value.pointer (some ⟨b,0,none⟩))),eS 17 (.val (Value.slice (z) (n) (c))),eS 18 _,eS 19 (.val (Value.slice (z0) (k) (c))),eS 5 _] ⟨rfl,fun L u=>u_nilV u (gd0 rfl) 15 rfl (.tmp 14) rfl rfl,fun L u=>u_fieldV u (gd0 rfl) 16 rfl 121 (.tmp 15) 0 rfl rfl Tryz.underlying121 rfl i25 0 rfl,fun L u=>u_loadF1 u (gd0 rfl) 17 rfl 25 (.tmp 16) rfl rfl 0 rfl Tryz.underlying25 rfl (Value.slice (z) (n) (c)) rfl,rfl,fun L u=>u_partH u (gd0 rfl) 19 rfl 25 (.tmp 17) (.tmp 18) rfl rfl rfl (Value.slice (z0) (k) (c)) (fun w=>by have g:=run_toS (a:=z) (n:=n) (c:=c) (m:=k) (by omega) w;rw [h0] at g;exact g),rfl,T0⟩ [(0,_),(1,_),(5,.val (Value.slice (z0) (k) (c)))] [] [(0,varPd b ([Value.slice (z) (n) (c)]))] (fun a w h=>?_)
 refine aXQ h [2,3,4,6,7,8,9] [eS 20 _,eS 21 _,eS 22 (.val (Value.pointer (some ⟨b,0,none⟩))),eS 23 (.val (Value.pointer (some ⟨b,0,none⟩))),eS 24 (.val (Value.slice (z) (n) (c))),eS 25 _,eS 26 (.val (Value.slice (z1) (n1) (c1))),eS 27 (.val (Value.pointer (some ⟨b,0,none⟩))),eS 28 (.val (Value.pointer (some ⟨b,0,none⟩))),eV 0 (varPd b ([Value.slice (z1) (n1) (c1)]))] ⟨rfl,rfl,fun L u=>u_nilV u (gd0 rfl) 22 rfl (.tmp 21) rfl rfl,fun L u=>u_fieldV u (gd0 rfl) 23 rfl 121 (.tmp 22) 0 rfl rfl Tryz.underlying121 rfl i25 0 rfl,fun L u=>u_loadF1 u (gd0 rfl) 24 rfl 25 (.tmp 23) rfl rfl 0 rfl Tryz.underlying25 rfl (Value.slice (z) (n) (c)) rfl,rfl,fun L u=>u_partT u (gd0 rfl) 26 rfl 25 (.tmp 24) (.tmp 25) rfl rfl rfl (Value.slice (z1) (n1) (c1)) (fun w=>by have g:=run_fromS (a:=z) (n:=n) (c:=c) (k:=k) (by omega) w;rw [h1,show n-k=n1 by omega,show c-k=c1 by omega] at g;exact g),fun L u=>u_nilV u (gd0 rfl) 27 rfl (.tmp 20) rfl rfl,fun L u=>u_fieldV u (gd0 rfl) 28 rfl 121 (.tmp 27) 0 rfl rfl Tryz.underlying121 rfl i25 0 rfl,fun L u=>u_storeF1 u (gd0 rfl) 25 (.tmp 28) (.tmp 26) rfl rfl rfl 0 rfl rfl i25 (lk rfl) rfl _ rfl,T0⟩ [(5,_)] [] [(0,varPd b ([Value.slice (z1) (n1) (c1)]))] (fun a w h=>?_)
 refine aXQ h [] [eS 29 _,eS 4 _] ⟨rfl,rfl,T0⟩ [(4,.val (Value.slice (z0) (k) (c)))] [] [(0,varPd b ([Value.slice (z1) (n1) (c1)]))] (fun a w h=>?_)
 refine wp_ret ?_
 refine ret_slot h 4 rfl (lk rfl) (Value.slice (z0) (k) (c)) rfl ?_
 exact ⟨rfl,h.wrote (x:=0) rfl⟩
theorem next_at {w:World} {b n c d o:Nat} {f:Nat→Nat} (hE:Env w b (some ⟨d,o,none⟩) n c f) {z1:Option Addr} {n1 c1:Nat} (hz1:cutA (some ⟨d,o,none⟩) c 1=z1) (hn1:n=n1+1) (hc1:c=c1+1) (h3:w.rangeAt b 0 [Value.slice (some ⟨d,o,none⟩) (n) (c)]) (h4:w.there b 0 [Value.slice (some ⟨d,o,none⟩) (n) (c)].length) (hl:b<w.heap.size):Calls Tryz.prog 111 [Value.pointer (some ⟨b,0,none⟩)].toArray w fun e w'=>e=.returned (Value.int .i64 ((f 0:Nat):Int))∧w.grownBy w' (some b)∧w'.rangeAt b 0 [Value.slice (z1) (n1) (c1)]∧w'.there b 0 [Value.slice (z1) (n1) (c1)].length:=by
 refine enterB (X:=fun k=>Nat.beq k b) (args:=[Value.pointer (some ⟨b,0,none⟩)]) Tryz.func111 rfl 8 rfl (lk rfl) (fun a h=>?_)
 replace h:=h.keepQ [(0,.val (Value.pointer (some ⟨b,0,none⟩)))] [] [] ⟨rfl,trivial⟩ trivial trivial rfl
 replace h:=h.gift 0 b [Value.slice (some ⟨d,o,none⟩) (n) (c)] rfl (fun _=>rfl) (Nat.beq_refl b) hl h3 h4 (fun y p hy=>by cases hy)
 replace h:=h.keepQ [(0,.val (Value.pointer (some ⟨b,0,none⟩)))] [] [(0,varPd b ([Value.slice (some ⟨d,o,none⟩) (n) (c)]))] ⟨rfl,trivial⟩ trivial ⟨rfl,trivial⟩ rfl
 refine aXQ h [] [eS 2 _] ⟨rfl,T0⟩ [(0,_)] [] [(0,varPd b ([Value.slice (some ⟨d,o,none⟩) (n) (c)]))] (fun a w h=>?_)
 refine aXQ h [1,2,3,4] [eS 3 _,eT 4 (.val (Value.slice (some ⟨d,o,none⟩) (1) (c))) 0 (varPd b ([Value.slice (z1) (n1) (c1)])),eS 5 (.val (Value.pointer (some ⟨d,o+0,none⟩))),eS 6 (.val (Value.int .u8 ((f 0:Nat):Int))),eS 7 (.val (Value.int .i64 ((f 0:Nat):Int))),eS 2 _] ⟨rfl,fun L u=>u_callW u (gd0 rfl) 4 rfl 135 #[(.tmp 3),(.const (.int .i64 1))] #[138,3] rfl [Value.pointer (some ⟨b,0,none⟩),(Value.int IntKind.i64 1)] rfl (fun vs w=>callFunc_enter Tryz.func135 (by kernel_rfl) (by kernel_rfl) vs w) 0 rfl (Value.slice (some ⟨d,o,none⟩) (1) (c)) ([Value.slice (z1) (n1) (c1)]) (fun w hk ho h3 h4 hl=>take_ok (k:=1) hE.nc (cutA0 d o c) hz1 hn1 hc1 h3 h4 hl),fun L u=>u_atX u (gd0 rfl) 5 rfl 25 (.tmp 4) (.const (.int .i64 0)) rfl rfl (k:=0) rfl Tryz.underlying25 i5 (by omega) (o+0) rfl,fun L u=>u_loadK u (gd0 rfl) 6 rfl 5 (.tmp 5) rfl rfl Tryz.underlying5 rfl (Value.int .u8 ((f 0:Nat):Int)) (fun w hk=>(hE.ba w (Kp.grown hk)).cellAt (i:=0) (by omega)),fun L u=>u_conv u (gd0 rfl) 7 rfl 5 3 (.tmp 6) rfl rfl (Value.int .i64 ((f 0:Nat):Int)) (fun w=>c_int _ ⟨by omega,by have:=(hE.ba _ (grown_refl _ _)).lt 0;omega⟩ w),rfl,T0⟩ [(2,.val (Value.int .i64 ((f 0:Nat):Int)))] [] [(0,varPd b ([Value.slice (z1) (n1) (c1)]))] (fun a w h=>?_)
 refine wp_ret ?_
 refine ret_slot h 2 rfl (lk rfl) (Value.int .i64 ((f 0:Nat):Int)) rfl ?_
 exact ⟨rfl,h.wrote (x:=0) rfl⟩
theorem next_ok {w:World} {b n c:Nat} {z:Option Addr} {f:Nat→Nat} (hE:Env w b z n c f) {z1:Option Addr} {n1 c1:Nat} (hz1:cutA z c 1=z1) (hn1:n=n1+1) (hc1:c=c1+1) (h3:w.rangeAt b 0 [Value.slice (z) (n) (c)]) (h4:w.there b 0 [Value.slice (z) (n) (c)].length) (hl:b<w.heap.size):Calls Tryz.prog 111 [Value.pointer (some ⟨b,0,none⟩)].toArray w fun e w'=>e=.returned (Value.int .i64 ((f 0:Nat):Int))∧w.grownBy w' (some b)∧w'.rangeAt b 0 [Value.slice (z1) (n1) (c1)]∧w'.there b 0 [Value.slice (z1) (n1) (c1)].length:=by
 rcases (hE.ba w (grown_refl _ _)).at_ with h0 | ⟨d,o,rfl,_⟩
 ·omega
 ·exact next_at hE hz1 hn1 hc1 h3 h4 hl
theorem exp_ok {w:World} {b n c:Nat} {z:Option Addr} {f:Nat→Nat} (hE:Env w b z n c f) {z1:Option Addr} {n1 c1:Nat} (hz1:cutA z c 1=z1) (hn1:n=n1+1) (hc1:c=c1+1) {mk:Nat} (hf:f 0=mk) (h3:w.rangeAt b 0 [Value.slice (z) (n) (c)]) (h4:w.there b 0 [Value.slice (z) (n) (c)].length) (hl:b<w.heap.size):Calls Tryz.prog 110 [Value.pointer (some ⟨b,0,none⟩),Value.int .i64 ((mk:Nat):Int)].toArray w fun e w'=>e=.returned (Value.tuple #[])∧w.grownBy w' (some b)∧w'.rangeAt b 0 [Value.slice (z1) (n1) (c1)]∧w'.there b 0 [Value.slice (z1) (n1) (c1)].length:=by
 refine enterB (X:=fun k=>Nat.beq k b) (args:=[Value.pointer (some ⟨b,0,none⟩),Value.int .i64 ((mk:Nat):Int)]) Tryz.func110 rfl 9 rfl (lk rfl) (fun a h=>?_)
 replace h:=h.keepQ [(0,.val (Value.pointer (some ⟨b,0,none⟩))),(1,.val (Value.int .i64 ((mk:Nat):Int)))] [] [] ⟨rfl,rfl,trivial⟩ trivial trivial rfl
 replace h:=h.gift 0 b [Value.slice (z) (n) (c)] rfl (fun _=>rfl) (Nat.beq_refl b) hl h3 h4 (fun y p hy=>by cases hy)
 replace h:=h.keepQ [(0,.val (Value.pointer (some ⟨b,0,none⟩))),(1,.val (Value.int .i64 ((mk:Nat):Int)))] [] [(0,varPd b ([Value.slice (z) (n) (c)]))] ⟨rfl,rfl,trivial⟩ trivial ⟨rfl,trivial⟩ rfl
 refine sq_begin [0,1,2,3,4] rfl ?_
 refine sq_step h (i:=0) rfl (u_move (xs:=[]) (up_seq (i:=0) (by kernel_rfl) rfl) (gd0 rfl) 4 rfl (.tmp 0) (Or.inl rfl) rfl) (fun a w h=>?_)
 refine sq_step h (i:=1) rfl (u_callW (xs:=[]) (up_seq (i:=1) (by kernel_rfl) rfl) (gd0 rfl) 5 rfl 111 #[(.tmp 4)] #[138] rfl [Value.pointer (some ⟨b,0,none⟩)] rfl (fun vs w=>callFunc_enter Tryz.func111 (by kernel_rfl) (by kernel_rfl) vs w) 0 rfl (Value.int .i64 ((f 0:Nat):Int)) ([Value.slice (z1) (n1) (c1)]) (fun w hk ho h3 h4 hl=>next_ok (hE.later (Kp.grown hk)) hz1 hn1 hc1 h3 h4 hl)) (fun a w h=>?_)
 refine sq_step h (i:=2) rfl (u_move (xs:=[]) (up_seq (i:=2) (by kernel_rfl) rfl) (gd0 rfl) 6 rfl (.tmp 1) (Or.inl rfl) rfl) (fun a w h=>?_)
 refine sq_step h (i:=3) rfl (u_bin (xs:=[]) (up_seq (i:=3) (by kernel_rfl) rfl) (gd0 rfl) _ rfl _ _ _ _ _ rfl rfl rfl (eqg_int _ _ _ _ _ _ _ _) _ (yes_of (fun w=>i_eql _ _ _ _ w) (by omega))) (fun a w h=>?_)
 refine sq_step h (i:=4) rfl (u_call (xs:=[]) (up_seq (i:=4) (by kernel_rfl) rfl) (gd0 rfl) _ rfl _ _ _ rfl [_] rfl (cE112 _) _ (fun w hb=>ins_t)) (fun a w h=>?_)
 replace h:=h.keepQ [] [] [(0,varPd b ([Value.slice (z1) (n1) (c1)]))] trivial trivial ⟨rfl,trivial⟩ rfl
 refine sq_end ?_
 refine end_none h rfl ?_
 exact ⟨rfl,h.wrote (x:=0) rfl⟩
end Go.Proofs.YtmigakanbeckpaaGreatDoor.De
namespace Go.Proofs.YtmigakanbeckpaaGreatDoor.De
set_option maxRecDepth 100000
open Go.RowKit
theorem val_cells {m:Nat} (hm:m≤32) (f:Nat→Nat):cells8 (List.replicate (32-m) 0++fl f m)=splice (cells8 (List.replicate 32 0)) (if 32=32-m then 0 else 32-m) (cells8 (fl f m)):=by
 have hl:(cells8 (fl f m)).length=m:=by rw [cells8_len,fl_len]
 have hc:∀ k,(cells8 (List.replicate 32 0)).take k=cells8 ((List.replicate 32 0).take k):=fun k=>by simp [cells8]
 by_cases h0:m=0
 ·subst h0
  simp [splice,fl,cells8]
 ·unfold splice
  rw [if_neg (by omega),hl,hc,List.take_replicate,show min (32-m) 32=32-m by omega,List.drop_of_length_le (by rw [cells8_len,List.length_replicate];omega),List.append_nil]
  simp [cells8]
theorem val_lt {f:Nat→Nat} (hf:∀ i,f i<256) (k m:Nat):∀ x ∈ List.replicate k 0++fl f m,x<256:=lt_app (fun x hx=>by rw [(List.mem_replicate.1 hx).2];decide) (fl_lt hf m)
theorem cells_ba {w:World} {b n:Nat} {l:List Nat} (hl:∀ x ∈ l,x<256) (hn:l.length=n) (h:w.rangeAt b 0 (cells8 l)):BA w (some ⟨b,0,none⟩) n (fun i=>l.getD i 0):=by
 refine ⟨fun i=>?_,Or.inr ⟨b,0,rfl,⟨fun i hi=>?_⟩⟩⟩
 ·show l.getD i 0<256
  rw [List.getD_eq_getElem?_getD]
  cases hi:l[i]? with
  | none=>simp
  | some x=>simpa using hl x (List.mem_of_getElem? hi)
 ·exact h i _ (cells8_at l i (by omega))
theorem val_num {n m:Nat} {f g:Nat→Nat} (hf:∀ i,f i<256) (hm:n-(n-32)=m) (hg:∀ i,g i=f (n-32+i)):num (List.replicate (32-m) 0++fl g m)=num (fl f n) % 2 ^ 256:=by
 rw [num_app,num_zeros,Nat.zero_mul,Nat.zero_add]
 have e:fl g m=(fl f n).drop (n-32):=by
  rw [fl_tail (by omega),hm,show g=fun i=>f (n-32+i) from funext hg]
 rw [e]
 by_cases h:32≤n
 ·have:=num_last (fl_lt hf n) (by rw [fl_len];exact h)
  rw [fl_len] at this
  exact this
 ·rw [show n-32=0 by omega,List.drop_zero,Nat.mod_eq_of_lt]
  have h1:=num_lt (fl_lt hf n)
  rw [fl_len] at h1
  have h2:(256:Nat) ^ n≤256 ^ 32:=Nat.pow_le_pow_right (by decide) (by omega)
  have h3:(2:Nat) ^ 256=256 ^ 32:=by decide
  omega
theorem val_at {w:World} {n c m cl U:Nat} {l:List Nat} {z zl:Option Addr} {g:Nat→Nat} (hmm:n-(n-32)=m) (hll:l=List.replicate (32-m) 0++fl g m) (hlen:l.length=32) (hlt:∀ x ∈ l,x<256) (hU:num l=U) (hzl:cutA z c (n-32)=zl) (hcl:c-(n-32)=cl) (hbl:∀ w1,Below w.heap.size w w1→BA w1 zl m g) (hn:n≤1000):Calls Tryz.prog 136 [Value.slice (z) (n) (c)].toArray w fun e w'=>e=.returned (.agg (nc ((U:Nat):Int)).toArray)∧Below w.heap.size w w':=by
 refine enter (args:=[Value.slice (z) (n) (c)]) Tryz.func136 rfl 25 rfl (lk rfl) (fun a h=>?_)
 refine aX h [] [eN 2 _] ⟨rfl,T0⟩ [(0,.val (Value.slice (z) (n) (c))),(2,.ptr 2 0)] [(2,nz)] (fun a w h=>?_)
 refine aX h [] [eN 3 _] ⟨rfl,T0⟩ [(0,_),(2,_),(3,.ptr 3 0)] [(2,_),(3,cells8 (List.replicate 32 0))] (fun a w h=>?_)
 refine aX h [2,3,4,5] [eS 7 _,eS 8 _,eS 9 (.val (Value.int .i64 ((n:Nat):Int))),eS 10 (.val (Value.int .i64 (((n:Nat):Int)-32))),eS 11 (.val (Value.int .i64 (((n-32:Nat):Int)))),eS 12 (.val (Value.slice (zl) (m) (cl))),eS 4 _] ⟨rfl,rfl,fun L u=>u_lenV u (gd0 rfl) 9 rfl (.tmp 8) 25 rfl rfl Tryz.underlying25,fun L u=>u_bin u (gd0 rfl) _ rfl _ _ _ _ _ rfl rfl rfl (eqg_int _ _ _ _ _ _ _ _) _ (fun w=>i_sub _ _ _ _ rfl ⟨by omega,by omega⟩ w),fun L u=>u_max u (gd0 rfl) 11 rfl (.const (.int .i64 0)) (.tmp 10) #[3,3] rfl rfl rfl (((n-32:Nat):Int)) (by split <;> omega),fun L u=>u_partT u (gd0 rfl) 12 rfl 25 (.tmp 7) (.tmp 11) rfl rfl rfl (Value.slice (zl) (m) (cl)) (fun w=>by have q:=run_fromS (a:=z) (n:=n) (c:=c) (k:=n-32) (by omega) w;rw [hzl,hmm,hcl] at q;exact q),rfl,T0⟩ [(2,_),(3,_),(4,.val (Value.slice (zl) (m) (cl)))] [(2,_),(3,_)] (fun a w h=>?_)
 refine aX h [1,2,3,5] [eS 13 _,eS 14 (.val (Value.int .i64 ((m:Nat):Int))),eS 15 (.val (Value.int .i64 ((32-m:Nat):Int))),eS 16 (.sli 3 (if 32=32-m then 0 else 32-m) (32-(32-m)) (32-(32-m))),eS 17 _,(⟨some (18,.val (Value.int .i64 ((m:Nat):Int))),some (3,cells8 l),none,none,none⟩:OE)] ⟨rfl,fun L u=>u_lenV u (gd0 rfl) 14 rfl (.tmp 13) 25 rfl rfl Tryz.underlying25,fun L u=>u_bin u (gd0 rfl) _ rfl _ _ _ _ _ rfl rfl rfl (eqg_int _ _ _ _ _ _ _ _) _ (fun w=>i_sub _ _ _ _ (by omega) ⟨by omega,by omega⟩ w),fun L u=>u_sliceT u (gd0 rfl) 16 rfl 59 (.tmp 3) (.tmp 15) rfl rfl rfl Tryz.underlying59 i5 (off:=32-m) rfl (by omega) (if 32=32-m then 0 else 32-m) rfl,rfl,fun L u=>u_cpy u (gd0 rfl) 18 rfl (.tmp 16) (.tmp 17) rfl rfl rfl rfl (fun w hk=>hbl w (Bs.kp_of hk)) (by omega) (by show (if 32=32-m then 0 else 32-m)+m≤(cells8 (List.replicate 32 0)).length;rw [cells8_len,List.length_replicate];split <;> omega) (cells8 l) (by rw [hll];exact val_cells (by omega) g),T0⟩ [(2,_),(3,_)] [(2,_),(3,cells8 l)] (fun a w h=>?_)
 refine aX h [0,1] [eS 20 (.sli 3 0 32 32),eS 21 (.val (.tuple [Value.agg (nc (((U:Nat):Int))).toArray,Value.bool true].toArray)),eS 19 _,eS 22 _,eS 23 _,eN 5 _,eM 5 _,eS 6 _] ⟨fun L u=>u_slice u (gd0 rfl) 20 rfl 59 (.tmp 3) rfl rfl rfl Tryz.underlying59 i5,fun L u=>u_callR u (gd0 rfl) 21 rfl 70 #[(.tmp 20)] #[25] rfl [.sli 3 0 32 32] rfl (fun vs w=>callFunc_enter Tryz.func70 (by kernel_rfl) (by kernel_rfl) vs w) (.tuple [.agg (nc (((U:Nat):Int))).toArray,Value.bool true].toArray) (fun β a w hr=>by obtain ⟨_,_,c3,_⟩:=hr.va 3 (cells8 l) (u.m rfl);have q:=big_num (c:=32) (l:=l) hlen hlt (cells_ba hlt hlen c3);rw [hU] at q;exact q),rfl,rfl,rfl,rfl,rfl,rfl,T0⟩ [(2,_),(5,.ptr 5 0)] [(2,_),(5,nc (((U:Nat):Int)))] (fun a w h=>?_)
 refine aX h [] [eS 24 _,eM 2 _] ⟨rfl,rfl,T0⟩ [(2,_)] [(2,nc (((U:Nat):Int)))] (fun a w h=>?_)
 refine wp_ret ?_
 refine ret_row h 2 24 rfl (lk rfl) 2 rfl (nc (((U:Nat):Int))) rfl _ Tryz.underlying24 rfl i24 ?_
 exact ⟨rfl,h.grows⟩
theorem val_any {w:World} {n c:Nat} {z:Option Addr} {f:Nat→Nat} (hba:BA w z n f) (hnc:n≤c) (hn:n≤1000):Calls Tryz.prog 136 [Value.slice (z) (n) (c)].toArray w fun e w'=>e=.returned (.agg (nc ((num (fl f n) % 2 ^ 256:Nat):Int)).toArray)∧Below w.heap.size w w' :=
 val_at (g:=fun i=>f (n-32+i)) rfl rfl (by rw [List.length_append,List.length_replicate,fl_len];omega) (val_lt (fun i=>hba.lt _) _ _) (val_num hba.lt rfl (fun _=>rfl)) rfl rfl (fun w1 hb=>(hba.keep hb).cut c (n-32) (n-(n-32)) (by omega) hnc) hn
theorem eq_len {w:World} {n1 n2 c1 c2:Nat} {z1 z2:Option Addr} (hn:n1≠n2):Calls Tryz.prog 137 [Value.slice (z1) (n1) (c1),Value.slice (z2) (n2) (c2)].toArray w fun e w'=>e=.returned (.bool false)∧Below w.heap.size w w':=by
 refine enter (args:=[Value.slice (z1) (n1) (c1),Value.slice (z2) (n2) (c2)]) Tryz.func137 rfl 26 rfl (lk rfl) (fun a h=>?_)
 refine aX h [] [eS 4 _] ⟨rfl,T0⟩ [(0,.val (Value.slice (z1) (n1) (c1))),(1,.val (Value.slice (z2) (n2) (c2)))] [] (fun a w h=>?_)
 refine wp_seq ?_
 refine aX h [1,3,4] [eS 6 _,eS 7 (.val (Value.int .i64 ((n1:Nat):Int))),eS 8 _,eS 9 (.val (Value.int .i64 ((n2:Nat):Int))),eS 10 (.val (Value.bool true))] ⟨rfl,fun L u=>u_lenV u (gd0 rfl) 7 rfl (.tmp 6) 25 rfl rfl Tryz.underlying25,rfl,fun L u=>u_lenV u (gd0 rfl) 9 rfl (.tmp 8) 25 rfl rfl Tryz.underlying25,fun L u=>u_bin u (gd0 rfl) _ rfl _ _ _ _ _ rfl rfl rfl (eqg_int _ _ _ _ _ _ _ _) _ (yes_of (fun w=>i_neq _ _ _ _ w) (by omega)),T0⟩ [(0,_),(1,_),(10,.val (Value.bool true))] [] (fun a w h=>?_)
 refine go_cond h true rfl (fun ht=>?_) (fun hf=>?_)
 case refine_2=>cases hf
 refine aX h [] [eS 4 _] ⟨rfl,T0⟩ [(4,.val (Value.bool false))] [] (fun a w h=>?_)
 refine wp_ret ?_
 refine then_ret ?_
 refine ret_slot h 4 rfl (lk rfl) (Value.bool false) rfl ?_
 exact ⟨rfl,h.grows⟩
theorem eq_nil {w:World} {c1 c2:Nat} {z1 z2:Option Addr}:Calls Tryz.prog 137 [Value.slice (z1) (0) (c1),Value.slice (z2) (0) (c2)].toArray w fun e w'=>e=.returned (.bool true)∧Below w.heap.size w w':=by
 refine enter (args:=[Value.slice (z1) (0) (c1),Value.slice (z2) (0) (c2)]) Tryz.func137 rfl 26 rfl (lk rfl) (fun a h=>?_)
 refine aX h [] [eS 4 _] ⟨rfl,T0⟩ [(0,.val (Value.slice (z1) (0) (c1))),(1,.val (Value.slice (z2) (0) (c2)))] [] (fun a w h=>?_)
 refine wp_seq ?_
 refine aX h [1,3,4] [eS 6 _,eS 7 (.val (Value.int .i64 ((0:Nat):Int))),eS 8 _,eS 9 (.val (Value.int .i64 ((0:Nat):Int))),eS 10 (.val (Value.bool false))] ⟨rfl,fun L u=>u_lenV u (gd0 rfl) 7 rfl (.tmp 6) 25 rfl rfl Tryz.underlying25,rfl,fun L u=>u_lenV u (gd0 rfl) 9 rfl (.tmp 8) 25 rfl rfl Tryz.underlying25,fun L u=>u_bin u (gd0 rfl) _ rfl _ _ _ _ _ rfl rfl rfl (eqg_int _ _ _ _ _ _ _ _) _ (no_of (fun w=>i_neq _ _ _ _ w) (by omega)),T0⟩ [(0,_),(1,_),(10,.val (Value.bool false))] [] (fun a w h=>?_)
 refine go_cond h false rfl (fun ht=>?_) (fun hf=>?_)
 case refine_1=>cases ht
 refine wp_skip ?_
 refine then_norm ?_
 refine wp_seq ?_
 refine aX h [1] [eS 11 _,eS 12 (.val (Value.int .i64 ((0:Nat):Int))),eS 13 _] ⟨rfl,fun L u=>u_lenV u (gd0 rfl) 12 rfl (.tmp 11) 25 rfl rfl Tryz.underlying25,rfl,T0⟩ [(0,_),(1,_),(12,.val (Value.int .i64 ((0:Nat):Int))),(13,.val ((Value.int IntKind.i64 0)))] [] (fun a w h=>?_)
 refine wp_block ?_
 refine wp_loop_rounds 1 ?_
 rw [rounds_succ]
 refine aX h [0] [eS 14 (.val (Value.bool false))] ⟨fun L u=>u_bin u (gd0 rfl) _ rfl _ _ _ _ _ rfl rfl rfl (eqg_int _ _ _ _ _ _ _ _) _ (no_of (fun w=>i_lss _ _ _ _ w) (by omega)),T0⟩ [(0,_),(1,_),(12,_),(13,_),(14,.val (Value.bool false))] [] (fun a w h=>?_)
 refine wp_seq ?_
 refine go_cond h false rfl (fun ht=>?_) (fun hf=>?_)
 case refine_1=>cases ht
 refine wp_exit ?_
 refine then_exit ?_
 refine then_exit ?_
 refine blk_exit ?_
 refine then_norm ?_
 refine aX h [] [eS 4 _] ⟨rfl,T0⟩ [(4,.val (Value.bool true))] [] (fun a w h=>?_)
 refine wp_ret ?_
 refine ret_slot h 4 rfl (lk rfl) (Value.bool true) rfl ?_
 exact ⟨rfl,h.grows⟩
theorem fl_same {f g:Nat→Nat} {n:Nat} (h:∀ i,i<n→f i=g i):fl f n=fl g n:=by
 apply List.ext_getElem?
 intro i
 rcases Nat.lt_or_ge i n with hi | hi
 ·rw [fl_at f hi,fl_at g hi,h i hi]
 ·rw [List.getElem?_eq_none (by rw [fl_len];exact hi),List.getElem?_eq_none (by rw [fl_len];exact hi)]
theorem fl_told {f g:Nat→Nat} {n i:Nat} (h:fl f n=fl g n) (hi:i<n):f i=g i:=by
 have e:=congrArg (fun l=>l[i]?) h
 simp only [fl_at f hi,fl_at g hi,Option.some.injEq] at e
 exact e
theorem eq_at {w:World} {n c1 c2 b1 o1 b2 o2:Nat} {f g:Nat→Nat} (ha:BA w (some ⟨b1,o1,none⟩) n f) (hb:BA w (some ⟨b2,o2,none⟩) n g) (hn:n≤1000000):Calls Tryz.prog 137 [Value.slice (some ⟨b1,o1,none⟩) (n) (c1),Value.slice (some ⟨b2,o2,none⟩) (n) (c2)].toArray w fun e w'=>e=.returned (.bool (decide (fl f n=fl g n)))∧Below w.heap.size w w':=by
 refine enter (args:=[Value.slice (some ⟨b1,o1,none⟩) (n) (c1),Value.slice (some ⟨b2,o2,none⟩) (n) (c2)]) Tryz.func137 rfl 26 rfl (lk rfl) (fun a h=>?_)
 refine aX h [] [eS 4 _] ⟨rfl,T0⟩ [(0,.val (Value.slice (some ⟨b1,o1,none⟩) (n) (c1))),(1,.val (Value.slice (some ⟨b2,o2,none⟩) (n) (c2)))] [] (fun a w h=>?_)
 refine wp_seq ?_
 refine aX h [1,3,4] [eS 6 _,eS 7 (.val (Value.int .i64 ((n:Nat):Int))),eS 8 _,eS 9 (.val (Value.int .i64 ((n:Nat):Int))),eS 10 (.val (Value.bool false))] ⟨rfl,fun L u=>u_lenV u (gd0 rfl) 7 rfl (.tmp 6) 25 rfl rfl Tryz.underlying25,rfl,fun L u=>u_lenV u (gd0 rfl) 9 rfl (.tmp 8) 25 rfl rfl Tryz.underlying25,fun L u=>u_bin u (gd0 rfl) _ rfl _ _ _ _ _ rfl rfl rfl (eqg_int _ _ _ _ _ _ _ _) _ (no_of (fun w=>i_neq _ _ _ _ w) (by omega)),T0⟩ [(0,_),(1,_),(10,.val (Value.bool false))] [] (fun a w h=>?_)
 refine go_cond h false rfl (fun ht=>?_) (fun hf=>?_)
 case refine_1=>cases ht
 refine wp_skip ?_
 refine then_norm ?_
 refine wp_seq ?_
 refine aX h [1] [eS 11 _,eS 12 (.val (Value.int .i64 ((n:Nat):Int))),eS 13 _] ⟨rfl,fun L u=>u_lenV u (gd0 rfl) 12 rfl (.tmp 11) 25 rfl rfl Tryz.underlying25,rfl,T0⟩ [(0,_),(1,_),(12,.val (Value.int .i64 ((n:Nat):Int))),(13,.val ((Value.int IntKind.i64 0)))] [] (fun a w h=>?_)
 refine wp_block ?_
 refine go_loop (fun (k:Nat)=>SS.mk' [(0,.val (Value.slice (some ⟨b1,o1,none⟩) (n) (c1))),(1,.val (Value.slice (some ⟨b2,o2,none⟩) (n) (c2))),(12,.val (Value.int .i64 ((n:Nat):Int))),(13,.val (Value.int .i64 ((k:Nat):Int)))] []) (fun k=>k≤n∧∀ i,i<k→f i=g i) (fun k=>n-k) (i:=0) (h.keep [(0,.val (Value.slice (some ⟨b1,o1,none⟩) (n) (c1))),(1,.val (Value.slice (some ⟨b2,o2,none⟩) (n) (c2))),(12,.val (Value.int .i64 ((n:Nat):Int))),(13,.val (Value.int .i64 ((0:Nat):Int)))] [] ⟨rfl,rfl,rfl,rfl,T0⟩ T0 rfl) ⟨by omega,fun i hi=>by omega⟩ (fun k a w hG h=>?_)
 by_cases hs:k<n
 ·skip
  by_cases hz:f k=g k
  ·skip
   refine aX h [0] [eS 14 (.val (Value.bool true))] ⟨fun L u=>u_bin u (gd0 rfl) _ rfl _ _ _ _ _ rfl rfl rfl (eqg_int _ _ _ _ _ _ _ _) _ (yes_of (fun w=>i_lss _ _ _ _ w) (by omega)),T0⟩ [(0,_),(1,_),(12,_),(13,_),(14,.val (Value.bool true))] [] (fun a w h=>?_)
   refine wp_seq ?_
   refine go_cond h true rfl (fun ht=>?_) (fun hf=>?_)
   case refine_2=>cases hf
   refine wp_skip ?_
   refine then_norm ?_
   refine wp_seq ?_
   refine wp_block ?_
   refine aX h [] [eS 15 _,eS 5 _] ⟨rfl,rfl,T0⟩ [(0,_),(1,_),(5,.val (Value.int .i64 ((k:Nat):Int))),(12,_),(13,_)] [] (fun a w h=>?_)
   refine aX h [2,3,6,7,8] [eS 16 _,eS 17 _,eS 18 (.val (Value.pointer (some ⟨b1,o1+(k),none⟩))),eS 19 (.val (Value.int .u8 ((f k:Nat):Int))),eS 20 _,eS 21 _,eS 22 (.val (Value.pointer (some ⟨b2,o2+(k),none⟩))),eS 23 (.val (Value.int .u8 ((g k:Nat):Int))),eS 24 (.val (Value.bool false))] ⟨rfl,rfl,fun L u=>u_atX u (gd0 rfl) 18 rfl 25 (.tmp 16) (.tmp 17) rfl rfl (k:=k) rfl Tryz.underlying25 i5 (by omega) (o1+(k)) (by omega),fun L u=>u_loadX u (gd0 rfl) 19 rfl 5 (.tmp 18) rfl rfl Tryz.underlying5 rfl (Value.int .u8 ((f k:Nat):Int)) (ha.cellAt hs) rfl,rfl,rfl,fun L u=>u_atX u (gd0 rfl) 22 rfl 25 (.tmp 20) (.tmp 21) rfl rfl (k:=k) rfl Tryz.underlying25 i5 (by omega) (o2+(k)) (by omega),fun L u=>u_loadX u (gd0 rfl) 23 rfl 5 (.tmp 22) rfl rfl Tryz.underlying5 rfl (Value.int .u8 ((g k:Nat):Int)) (hb.cellAt hs) rfl,fun L u=>u_bin u (gd0 rfl) _ rfl _ _ _ _ _ rfl rfl rfl (eqg_int _ _ _ _ _ _ _ _) _ (no_of (fun w=>i_neq _ _ _ _ w) (by omega)),T0⟩ [(0,_),(1,_),(12,_),(13,_),(24,.val (Value.bool false))] [] (fun a w h=>?_)
   refine go_cond h false rfl (fun ht=>?_) (fun hf=>?_)
   case refine_1=>cases ht
   refine wp_skip ?_
   refine blk_norm ?_
   refine then_norm ?_
   refine aE h [0] [eS 25 (.val (Value.int .i64 ((k+1:Nat):Int))),eS 13 _] ⟨fun L u=>u_bin u (gd0 rfl) _ rfl _ _ _ _ _ rfl rfl rfl (eqg_int _ _ _ _ _ _ _ _) _ (fun w=>i_add _ _ _ _ (by omega) ⟨by omega,by omega⟩ w),rfl,T0⟩ [(0,_),(1,_),(12,_),(13,.val (Value.int .i64 ((k+1:Nat):Int)))] [] (fun a w h=>?_)
   refine then_norm ?_
   exact ⟨k+1,⟨by omega,fun i hi=>by rcases Nat.lt_or_ge i k with h1 | h1;exact hG.2 i h1;rw [show i=k by omega];exact hz⟩,(by omega),h.keep [(0,.val (Value.slice (some ⟨b1,o1,none⟩) (n) (c1))),(1,.val (Value.slice (some ⟨b2,o2,none⟩) (n) (c2))),(12,.val (Value.int .i64 ((n:Nat):Int))),(13,.val (Value.int .i64 ((k+1:Nat):Int)))] [] ⟨rfl,rfl,rfl,rfl,trivial⟩ trivial rfl⟩
  ·skip
   refine aX h [0] [eS 14 (.val (Value.bool true))] ⟨fun L u=>u_bin u (gd0 rfl) _ rfl _ _ _ _ _ rfl rfl rfl (eqg_int _ _ _ _ _ _ _ _) _ (yes_of (fun w=>i_lss _ _ _ _ w) (by omega)),T0⟩ [(0,_),(1,_),(12,_),(13,_),(14,.val (Value.bool true))] [] (fun a w h=>?_)
   refine wp_seq ?_
   refine go_cond h true rfl (fun ht=>?_) (fun hf=>?_)
   case refine_2=>cases hf
   refine wp_skip ?_
   refine then_norm ?_
   refine wp_seq ?_
   refine wp_block ?_
   refine aX h [] [eS 15 _,eS 5 _] ⟨rfl,rfl,T0⟩ [(0,_),(1,_),(5,.val (Value.int .i64 ((k:Nat):Int))),(12,_),(13,_)] [] (fun a w h=>?_)
   refine aX h [2,3,6,7,8] [eS 16 _,eS 17 _,eS 18 (.val (Value.pointer (some ⟨b1,o1+(k),none⟩))),eS 19 (.val (Value.int .u8 ((f k:Nat):Int))),eS 20 _,eS 21 _,eS 22 (.val (Value.pointer (some ⟨b2,o2+(k),none⟩))),eS 23 (.val (Value.int .u8 ((g k:Nat):Int))),eS 24 (.val (Value.bool true))] ⟨rfl,rfl,fun L u=>u_atX u (gd0 rfl) 18 rfl 25 (.tmp 16) (.tmp 17) rfl rfl (k:=k) rfl Tryz.underlying25 i5 (by omega) (o1+(k)) (by omega),fun L u=>u_loadX u (gd0 rfl) 19 rfl 5 (.tmp 18) rfl rfl Tryz.underlying5 rfl (Value.int .u8 ((f k:Nat):Int)) (ha.cellAt hs) rfl,rfl,rfl,fun L u=>u_atX u (gd0 rfl) 22 rfl 25 (.tmp 20) (.tmp 21) rfl rfl (k:=k) rfl Tryz.underlying25 i5 (by omega) (o2+(k)) (by omega),fun L u=>u_loadX u (gd0 rfl) 23 rfl 5 (.tmp 22) rfl rfl Tryz.underlying5 rfl (Value.int .u8 ((g k:Nat):Int)) (hb.cellAt hs) rfl,fun L u=>u_bin u (gd0 rfl) _ rfl _ _ _ _ _ rfl rfl rfl (eqg_int _ _ _ _ _ _ _ _) _ (yes_of (fun w=>i_neq _ _ _ _ w) (by omega)),T0⟩ [(0,_),(1,_),(12,_),(13,_),(24,.val (Value.bool true))] [] (fun a w h=>?_)
   refine go_cond h true rfl (fun ht=>?_) (fun hf=>?_)
   case refine_2=>cases hf
   refine aX h [] [eS 4 _] ⟨rfl,T0⟩ [(4,.val (Value.bool false))] [] (fun a w h=>?_)
   refine wp_ret ?_
   refine blk_ret ?_
   refine then_ret ?_
   refine then_ret ?_
   refine blk_ret ?_
   refine then_ret ?_
   refine ret_slot h 4 rfl (lk rfl) (Value.bool false) rfl ?_
   exact ⟨by rw [decide_eq_false (fun e=>hz (fl_told e hs))],h.grows⟩
 ·skip
  refine aX h [0] [eS 14 (.val (Value.bool false))] ⟨fun L u=>u_bin u (gd0 rfl) _ rfl _ _ _ _ _ rfl rfl rfl (eqg_int _ _ _ _ _ _ _ _) _ (no_of (fun w=>i_lss _ _ _ _ w) (by omega)),T0⟩ [(0,_),(1,_),(12,_),(13,_),(14,.val (Value.bool false))] [] (fun a w h=>?_)
  refine wp_seq ?_
  refine go_cond h false rfl (fun ht=>?_) (fun hf=>?_)
  case refine_1=>cases ht
  refine wp_exit ?_
  refine then_exit ?_
  refine then_exit ?_
  refine blk_exit ?_
  refine then_norm ?_
  refine aX h [] [eS 4 _] ⟨rfl,T0⟩ [(4,.val (Value.bool true))] [] (fun a w h=>?_)
  refine wp_ret ?_
  refine ret_slot h 4 rfl (lk rfl) (Value.bool true) rfl ?_
  exact ⟨by rw [decide_eq_true (fl_same (fun i hi=>hG.2 i (by omega)))],h.grows⟩
theorem eq_any {w:World} {n1 n2 c1 c2:Nat} {z1 z2:Option Addr} {f g:Nat→Nat} (ha:BA w z1 n1 f) (hb:BA w z2 n2 g) (hn:n1≤1000000):Calls Tryz.prog 137 [.slice z1 n1 c1,.slice z2 n2 c2].toArray w fun e w'=>e=.returned (.bool (decide (fl f n1=fl g n2)))∧Below w.heap.size w w':=by
 by_cases h:n1=n2
 ·subst h
  rcases ha.at_ with h0 | ⟨b1,o1,rfl,_⟩
  ·subst h0
   exact eq_nil
  ·rcases hb.at_ with h0 | ⟨b2,o2,rfl,_⟩
   ·subst h0
    exact eq_nil
   ·exact eq_at ha hb hn
 ·rw [decide_eq_false (fun e=>h (by have:=congrArg List.length e;rw [fl_len,fl_len] at this;exact this))]
  exact eq_len h
end Go.Proofs.YtmigakanbeckpaaGreatDoor.De
namespace Go.Proofs.YtmigakanbeckpaaGreatDoor.De
set_option maxRecDepth 100000
open Go.RowKit
theorem num_at {w:World} {b n c:Nat} {z:Option Addr} {f:Nat→Nat} (hE:Env w b z n c f) (hn:n≤1000) {n1 c1:Nat} {z1:Option Addr} (hz1:cutA z c 1=z1) (hn1:n=n1+1) (hc1:c=c1+1) {f1:Nat→Nat} (hf1:∀ i,f1 i=f (1+i)) (h2:f 0=2) {n2 c2 m:Nat} {z2 zb:Option Addr} (hz2:cutA z1 c1 1=z2) (hn2:n1=n2+1) (hc2:c1=c2+1) {f2:Nat→Nat} (hf2:∀ i,f2 i=f1 (1+i)) (hfm:f1 0=m) {n3 c3 V:Nat} {z3:Option Addr} (hzb:cutA z2 c2 0=zb) (hz3:cutA z2 c2 m=z3) (hn3:n2=n3+m) (hc3:c2=c3+m) (hV:num (fl f2 m) % 2 ^ 256=V) (hV2:V<2 ^ 256) (hQ:fl f2 m=be V (msz V)) (h3:w.rangeAt b 0 [Value.slice (z) (n) (c)]) (h4:w.there b 0 [Value.slice (z) (n) (c)].length) (hl:b<w.heap.size):Calls Tryz.prog 113 [Value.pointer (some ⟨b,0,none⟩)].toArray w fun e w'=>e=.returned (.agg (nc ((V:Nat):Int)).toArray)∧w.grownBy w' (some b)∧w'.rangeAt b 0 [Value.slice (z3) (n3) (c3)]∧w'.there b 0 [Value.slice (z3) (n3) (c3)].length:=by
 have hE1:Env w b z1 n1 c1 f1:=hE.cut 1 hz1 hn1 hc1 hf1
 have hE2:Env w b z2 n2 c2 f2:=hE1.cut 1 hz2 hn2 hc2 hf2
 have hBb:∀ w',w.grownBy w' (some b)→BA w' zb m f2:=fun w' h'=>by
  have e:=(hE2.ba w' h').cut c2 0 m (by omega) hE2.nc
  rw [hzb,show (fun i=>f2 (0+i))=f2 from funext fun i=>by rw [Nat.zero_add]] at e
  exact e
 refine enterB (X:=fun k=>Nat.beq k b) (args:=[Value.pointer (some ⟨b,0,none⟩)]) Tryz.func113 rfl 19 rfl (lk rfl) (fun a h=>?_)
 replace h:=h.keepQ [(0,.val (Value.pointer (some ⟨b,0,none⟩)))] [] [] ⟨rfl,trivial⟩ trivial trivial rfl
 replace h:=h.gift 0 b [Value.slice (z) (n) (c)] rfl (fun _=>rfl) (Nat.beq_refl b) hl h3 h4 (fun y p hy=>by cases hy)
 replace h:=h.keepQ [(0,.val (Value.pointer (some ⟨b,0,none⟩)))] [] [(0,varPd b ([Value.slice (z) (n) (c)]))] ⟨rfl,trivial⟩ trivial ⟨rfl,trivial⟩ rfl
 refine aXQ h [] [eN 2 _] ⟨rfl,T0⟩ [(0,_),(2,.ptr 2 0)] [(2,nz)] [(0,varPd b ([Value.slice (z) (n) (c)]))] (fun a w h=>?_)
 refine aXQ h [1] [eS 5 _,eT 6 (.val (Value.tuple #[])) 0 (varPd b ([Value.slice (z1) (n1) (c1)]))] ⟨rfl,fun L u=>u_callW u (gd0 rfl) 6 rfl 110 #[(.tmp 5),(.const (.int .i64 2))] #[138,3] rfl [Value.pointer (some ⟨b,0,none⟩),(Value.int IntKind.i64 2)] rfl (fun vs w=>callFunc_enter Tryz.func110 (by kernel_rfl) (by kernel_rfl) vs w) 0 rfl (Value.tuple #[]) ([Value.slice (z1) (n1) (c1)]) (fun w hk ho h3 h4 hl=>exp_ok (mk:=2) (hE.later (Kp.grown hk)) hz1 hn1 hc1 h2 h3 h4 hl),T0⟩ [(0,_),(2,_)] [(2,_)] [(0,varPd b ([Value.slice (z1) (n1) (c1)]))] (fun a w h=>?_)
 refine aXQ h [2,3] [eS 7 _,eS 8 _,eT 9 (.val (Value.int .i64 ((m:Nat):Int))) 0 (varPd b ([Value.slice (z2) (n2) (c2)])),eT 10 (.val (Value.slice (zb) (m) (c2))) 0 (varPd b ([Value.slice (z3) (n3) (c3)])),eS 3 _] ⟨rfl,rfl,fun L u=>u_callW u (gd0 rfl) 9 rfl 111 #[(.tmp 8)] #[138] rfl [Value.pointer (some ⟨b,0,none⟩)] rfl (fun vs w=>callFunc_enter Tryz.func111 (by kernel_rfl) (by kernel_rfl) vs w) 0 rfl (Value.int .i64 ((m:Nat):Int)) ([Value.slice (z2) (n2) (c2)]) (fun w hk ho h3 h4 hl=>by have q:=next_ok (hE1.later (Kp.grown hk)) hz2 hn2 hc2 h3 h4 hl;rw [hfm] at q;exact q),fun L u=>u_callW u (gd0 rfl) 10 rfl 135 #[(.tmp 7),(.tmp 9)] #[138,3] rfl [Value.pointer (some ⟨b,0,none⟩),Value.int .i64 ((m:Nat):Int)] rfl (fun vs w=>callFunc_enter Tryz.func135 (by kernel_rfl) (by kernel_rfl) vs w) 0 rfl (Value.slice (zb) (m) (c2)) ([Value.slice (z3) (n3) (c3)]) (fun w hk ho h3 h4 hl=>take_ok hE2.nc hzb hz3 hn3 hc3 h3 h4 hl),rfl,T0⟩ [(2,_),(3,.val (Value.slice (zb) (m) (c2)))] [(2,_)] [(0,varPd b ([Value.slice (z3) (n3) (c3)]))] (fun a w h=>?_)
 refine aXQ h [1] [eS 11 _,eS 12 (.val (.agg (nc (((V:Nat):Int))).toArray)),eN 4 _,eM 4 _] ⟨rfl,fun L u=>u_call u (gd0 rfl) _ rfl _ _ _ rfl [_] rfl (cE136 _) (.agg (nc (((V:Nat):Int))).toArray) (fun w hb=>by have q:=val_any (c:=c2) (hBb w (Kp.grown hb)) (by omega) (by omega);rw [hV] at q;exact q),rfl,rfl,T0⟩ [(2,_),(3,_),(4,.ptr 4 0)] [(2,_),(4,nc (((V:Nat):Int)))] [(0,varPd b ([Value.slice (z3) (n3) (c3)]))] (fun a w h=>?_)
 refine wp_seq ?_
 refine sq_begin [0,1,2,3,4] rfl ?_
 refine sq_step h (i:=0) rfl (u_move (xs:=[]) (up_seq (i:=0) (by kernel_rfl) rfl) (gd0 rfl) 13 rfl (.tmp 3) (Or.inl rfl) rfl) (fun a w h=>?_)
 refine sq_step h (i:=1) rfl (u_load (xs:=[]) (up_seq (i:=1) (by kernel_rfl) rfl) (gd0 rfl) 14 rfl 24 (.tmp 4) rfl rfl rfl Tryz.underlying24 rfl i24 (lk rfl) _ rfl) (fun a w h=>?_)
 refine sq_step h (i:=2) rfl (u_callQ (xs:=[]) (up_seq (i:=2) (by kernel_rfl) rfl) (gd0 rfl) 15 rfl rfl 138 #[(.tmp 14)] #[24] rfl [.val (.agg (nc (((V:Nat):Int))).toArray)] rfl (fun vs w=>callFunc_enter Tryz.func138 (by kernel_rfl) (by kernel_rfl) vs w) (rdPd (msz V) (be V (msz V))) (fun β a w hr=>few_any hV2 _)) (fun a w h=>?_)
 refine sq_step h (i:=3) rfl (u_callR (xs:=[]) (up_seq (i:=3) (by kernel_rfl) rfl) (gd0 rfl) 16 rfl 137 #[(.tmp 13),(.tmp 15)] #[25,25] rfl [.val (Value.slice (zb) (m) (c2)),.unk 15 id] rfl (fun vs w=>callFunc_enter Tryz.func137 (by kernel_rfl) (by kernel_rfl) vs w) (Value.bool true) (fun β a w hr=>by obtain ⟨z',c',hv,_,hlen,hb2,_⟩:=hr.thing (x:=15) (p:=rdPd (msz V) (be V (msz V))) rfl;have q:=eq_any (c1:=c2) (c2:=c') (hBb w (Kp.grown hr.bl)) hb2 (by omega);rw [fl_getD hlen,decide_eq_true hQ,← hv] at q;exact q)) (fun a w h=>?_)
 refine sq_step h (i:=4) rfl (u_call (xs:=[]) (up_seq (i:=4) (by kernel_rfl) rfl) (gd0 rfl) _ rfl _ _ _ rfl [_] rfl (cE112 _) _ (fun w hb=>ins_t)) (fun a w h=>?_)
 replace h:=h.keepQ [(2,.ptr 2 0),(4,.ptr 4 0)] [(2,nz),(4,nc (((V:Nat):Int)))] [(0,varPd b ([Value.slice (z3) (n3) (c3)]))] ⟨rfl,rfl,trivial⟩ ⟨rfl,rfl,trivial⟩ ⟨rfl,trivial⟩ rfl
 refine sq_end ?_
 refine then_norm ?_
 refine aXQ h [] [eS 18 _,eM 2 _] ⟨rfl,rfl,T0⟩ [(2,_)] [(2,nc (((V:Nat):Int)))] [(0,varPd b ([Value.slice (z3) (n3) (c3)]))] (fun a w h=>?_)
 refine wp_ret ?_
 refine ret_row h 2 24 rfl (lk rfl) 2 rfl (nc (((V:Nat):Int))) rfl _ Tryz.underlying24 rfl i24 ?_
 exact ⟨rfl,h.wrote (x:=0) rfl⟩
def nV (f:Nat→Nat):Nat:=num (fl (fun i=>f (2+i)) (f 1)) % 2 ^ 256
def NumOk (f:Nat→Nat) (n:Nat):Prop:=2≤n∧f 0=2∧2+f 1≤n∧fl (fun i=>f (2+i)) (f 1)=be (nV f) (msz (nV f))
theorem nV_lt (f:Nat→Nat):nV f<2 ^ 256:=Nat.mod_lt _ (Nat.pow_pos (by decide))
theorem num_ok {w:World} {b n c:Nat} {z:Option Addr} {f:Nat→Nat} (hE:Env w b z n c f) (hn:n≤1000) (h:NumOk f n) {z3:Option Addr} {n3 c3:Nat} (hz:cutA (cutA (cutA z c 1) (c-1) 1) (c-2) (f 1)=z3) (hn3:n=n3+(2+f 1)) (hc3:c=c3+(2+f 1)) (h3:w.rangeAt b 0 [Value.slice (z) (n) (c)]) (h4:w.there b 0 [Value.slice (z) (n) (c)].length) (hl:b<w.heap.size):Calls Tryz.prog 113 [Value.pointer (some ⟨b,0,none⟩)].toArray w fun e w'=>e=.returned (.agg (nc ((nV f:Nat):Int)).toArray)∧w.grownBy w' (some b)∧w'.rangeAt b 0 [Value.slice (z3) (n3) (c3)]∧w'.there b 0 [Value.slice (z3) (n3) (c3)].length :=
 num_at (n1:=n-1) (c1:=c-1) (f1:=fun i=>f (1+i)) (n2:=n-2) (c2:=c-2) (f2:=fun i=>f (2+i)) (m:=f 1) hE hn rfl (by omega) (by omega) (fun _=>rfl) h.2.1 rfl (by omega) (by omega) (fun i=>by show f (2+i)=f (1+(1+i));rw [show 1+(1+i)=2+i by omega]) rfl rfl hz (by omega) (by omega) rfl (nV_lt f) h.2.2.2 h3 h4 hl
theorem env_num {w:World} {b n c:Nat} {z:Option Addr} {f:Nat→Nat} (hE:Env w b z n c f) {z3:Option Addr} {n3 c3:Nat} (hz:cutA (cutA (cutA z c 1) (c-1) 1) (c-2) (f 1)=z3) (hn3:n=n3+(2+f 1)) (hc3:c=c3+(2+f 1)) {g:Nat→Nat} (hg:∀ i,g i=f (2+f 1+i)):Env w b z3 n3 c3 g:=by
 have e1:=hE.cut 1 (n1:=n-1) (c1:=c-1) (g:=fun i=>f (1+i)) rfl (by omega) (by omega) (fun _=>rfl)
 have e2:=e1.cut 1 (n1:=n-2) (c1:=c-2) (g:=fun i=>f (2+i)) rfl (by omega) (by omega) (fun i=>by show f (2+i)=f (1+(1+i));rw [show 1+(1+i)=2+i by omega])
 exact e2.cut (f 1) hz (by omega) (by omega) (fun i=>by rw [hg];show f (2+f 1+i)=f (2+(f 1+i));rw [Nat.add_assoc])
end Go.Proofs.YtmigakanbeckpaaGreatDoor.De
