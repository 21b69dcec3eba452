/- The four moduli are primes, by records of their powers. The second curve's own numbers: its points are a group, and the modulus 3 times the base point is the neutral one. Points of three numbers, X / Z and Y / Z, as the document reckons with them: they are the points of the second curve. What field.Modulus, Reduce, Fold and Mul answer. -/
import Derived.Test.YtjaahnlpnkcimaaDoorRG18
import Derived.Test.YtjaahnlpnkcimaaDoorRG17
set_option maxHeartbeats 2000000
namespace Go.Proofs.YtjaahnlpnkcimaaDoor
set_option maxRecDepth 100000
theorem prm2:Prm 2:=prm_small (by decide +kernel)
theorem prm3:Prm 3:=prm_small (by decide +kernel)
theorem prm5:Prm 5:=prm_small (by decide +kernel)
theorem prm17:Prm 17:=prm_small (by decide +kernel)
theorem full65537:Full 65537:=by
 refine lucas_rec 3 [2,2,2,2,2,2,2,2,2,2,2,2,2,2,2,2] (by decide +kernel) (fun q hq=>?_)
 simp only [List.mem_cons,List.not_mem_nil,or_false] at hq
 rcases hq with rfl | rfl | rfl | rfl | rfl | rfl | rfl | rfl | rfl | rfl | rfl | rfl | rfl | rfl | rfl | rfl
 ·exact prm2
 ·exact prm2
 ·exact prm2
 ·exact prm2
 ·exact prm2
 ·exact prm2
 ·exact prm2
 ·exact prm2
 ·exact prm2
 ·exact prm2
 ·exact prm2
 ·exact prm2
 ·exact prm2
 ·exact prm2
 ·exact prm2
 ·exact prm2
theorem prm7:Prm 7:=prm_small (by decide +kernel)
theorem prm107:Prm 107:=prm_small (by decide +kernel)
theorem prm131:Prm 131:=prm_small (by decide +kernel)
theorem prm43:Prm 43:=prm_small (by decide +kernel)
theorem prm19:Prm 19:=prm_small (by decide +kernel)
theorem prm31:Prm 31:=prm_small (by decide +kernel)
theorem prm97:Prm 97:=prm_small (by decide +kernel)
theorem prm127:Prm 127:=prm_small (by decide +kernel)
theorem prm479:Prm 479:=prm_small (by decide +kernel)
theorem full32573:Full 32573:=by
 refine lucas_rec 2 [2,2,17,479] (by decide +kernel) (fun q hq=>?_)
 simp only [List.mem_cons,List.not_mem_nil,or_false] at hq
 rcases hq with rfl | rfl | rfl | rfl
 ·exact prm2
 ·exact prm2
 ·exact prm17
 ·exact prm479
theorem prm32573:Prm 32573:=full32573.prm
theorem full65147:Full 65147:=by
 refine lucas_rec 2 [2,32573] (by decide +kernel) (fun q hq=>?_)
 simp only [List.mem_cons,List.not_mem_nil,or_false] at hq
 rcases hq with rfl | rfl
 ·exact prm2
 ·exact prm32573
theorem prm65147:Prm 65147:=full65147.prm
theorem prm353:Prm 353:=prm_small (by decide +kernel)
theorem prm59:Prm 59:=prm_small (by decide +kernel)
theorem prm487:Prm 487:=prm_small (by decide +kernel)
theorem full57467:Full 57467:=by
 refine lucas_rec 2 [2,59,487] (by decide +kernel) (fun q hq=>?_)
 simp only [List.mem_cons,List.not_mem_nil,or_false] at hq
 rcases hq with rfl | rfl | rfl
 ·exact prm2
 ·exact prm59
 ·exact prm487
theorem prm57467:Prm 57467:=full57467.prm
theorem full132049:Full 132049:=by
 refine lucas_rec 26 [2,2,2,2,3,3,7,131] (by decide +kernel) (fun q hq=>?_)
 simp only [List.mem_cons,List.not_mem_nil,or_false] at hq
 rcases hq with rfl | rfl | rfl | rfl | rfl | rfl | rfl | rfl
 ·exact prm2
 ·exact prm2
 ·exact prm2
 ·exact prm2
 ·exact prm3
 ·exact prm3
 ·exact prm7
 ·exact prm131
theorem prm132049:Prm 132049:=full132049.prm
theorem prm3727:Prm 3727:=prm_small (by decide +kernel)
theorem full1923133:Full 1923133:=by
 refine lucas_rec 2 [2,2,3,43,3727] (by decide +kernel) (fun q hq=>?_)
 simp only [List.mem_cons,List.not_mem_nil,or_false] at hq
 rcases hq with rfl | rfl | rfl | rfl | rfl
 ·exact prm2
 ·exact prm2
 ·exact prm3
 ·exact prm43
 ·exact prm3727
theorem prm1923133:Prm 1923133:=full1923133.prm
theorem prm223:Prm 223:=prm_small (by decide +kernel)
theorem prm4153:Prm 4153:=prm_small (by decide +kernel)
theorem prm1723:Prm 1723:=prm_small (by decide +kernel)
theorem full430751:Full 430751:=by
 refine lucas_rec 17 [2,5,5,5,1723] (by decide +kernel) (fun q hq=>?_)
 simp only [List.mem_cons,List.not_mem_nil,or_false] at hq
 rcases hq with rfl | rfl | rfl | rfl | rfl
 ·exact prm2
 ·exact prm5
 ·exact prm5
 ·exact prm5
 ·exact prm1723
theorem prm430751:Prm 430751:=full430751.prm
theorem full31757755568855353:Full 31757755568855353:=by
 refine lucas_rec 10 [2,2,2,3,31,107,223,4153,430751] (by decide +kernel) (fun q hq=>?_)
 simp only [List.mem_cons,List.not_mem_nil,or_false] at hq
 rcases hq with rfl | rfl | rfl | rfl | rfl | rfl | rfl | rfl | rfl
 ·exact prm2
 ·exact prm2
 ·exact prm2
 ·exact prm3
 ·exact prm31
 ·exact prm107
 ·exact prm223
 ·exact prm4153
 ·exact prm430751
theorem prm31757755568855353:Prm 31757755568855353:=full31757755568855353.prm
theorem prm83:Prm 83:=prm_small (by decide +kernel)
theorem full9463:Full 9463:=by
 refine lucas_rec 3 [2,3,19,83] (by decide +kernel) (fun q hq=>?_)
 simp only [List.mem_cons,List.not_mem_nil,or_false] at hq
 rcases hq with rfl | rfl | rfl | rfl
 ·exact prm2
 ·exact prm3
 ·exact prm19
 ·exact prm83
theorem prm9463:Prm 9463:=full9463.prm
theorem full37853:Full 37853:=by
 refine lucas_rec 2 [2,2,9463] (by decide +kernel) (fun q hq=>?_)
 simp only [List.mem_cons,List.not_mem_nil,or_false] at hq
 rcases hq with rfl | rfl | rfl
 ·exact prm2
 ·exact prm2
 ·exact prm9463
theorem prm37853:Prm 37853:=full37853.prm
theorem full75707:Full 75707:=by
 refine lucas_rec 2 [2,37853] (by decide +kernel) (fun q hq=>?_)
 simp only [List.mem_cons,List.not_mem_nil,or_false] at hq
 rcases hq with rfl | rfl
 ·exact prm2
 ·exact prm37853
theorem prm75707:Prm 75707:=full75707.prm
theorem prm13:Prm 13:=prm_small (by decide +kernel)
theorem prm2437:Prm 2437:=prm_small (by decide +kernel)
theorem prm419:Prm 419:=prm_small (by decide +kernel)
theorem full569003:Full 569003:=by
 refine lucas_rec 2 [2,7,97,419] (by decide +kernel) (fun q hq=>?_)
 simp only [List.mem_cons,List.not_mem_nil,or_false] at hq
 rcases hq with rfl | rfl | rfl | rfl
 ·exact prm2
 ·exact prm7
 ·exact prm97
 ·exact prm419
theorem prm569003:Prm 569003:=full569003.prm
theorem full2773320623:Full 2773320623:=by
 refine lucas_rec 5 [2,2437,569003] (by decide +kernel) (fun q hq=>?_)
 simp only [List.mem_cons,List.not_mem_nil,or_false] at hq
 rcases hq with rfl | rfl | rfl
 ·exact prm2
 ·exact prm2437
 ·exact prm569003
theorem prm2773320623:Prm 2773320623:=full2773320623.prm
theorem full72106336199:Full 72106336199:=by
 refine lucas_rec 7 [2,13,2773320623] (by decide +kernel) (fun q hq=>?_)
 simp only [List.mem_cons,List.not_mem_nil,or_false] at hq
 rcases hq with rfl | rfl | rfl
 ·exact prm2
 ·exact prm13
 ·exact prm2773320623
theorem prm72106336199:Prm 72106336199:=full72106336199.prm
theorem prm47:Prm 47:=prm_small (by decide +kernel)
theorem prm103:Prm 103:=prm_small (by decide +kernel)
theorem prm991:Prm 991:=prm_small (by decide +kernel)
theorem full8574133:Full 8574133:=by
 refine lucas_rec 2 [2,2,3,7,103,991] (by decide +kernel) (fun q hq=>?_)
 simp only [List.mem_cons,List.not_mem_nil,or_false] at hq
 rcases hq with rfl | rfl | rfl | rfl | rfl | rfl
 ·exact prm2
 ·exact prm2
 ·exact prm3
 ·exact prm7
 ·exact prm103
 ·exact prm991
theorem prm8574133:Prm 8574133:=full8574133.prm
theorem full1919519569386763:Full 1919519569386763:=by
 refine lucas_rec 2 [2,3,7,19,47,47,127,8574133] (by decide +kernel) (fun q hq=>?_)
 simp only [List.mem_cons,List.not_mem_nil,or_false] at hq
 rcases hq with rfl | rfl | rfl | rfl | rfl | rfl | rfl | rfl
 ·exact prm2
 ·exact prm3
 ·exact prm7
 ·exact prm19
 ·exact prm47
 ·exact prm47
 ·exact prm127
 ·exact prm8574133
theorem prm1919519569386763:Prm 1919519569386763:=full1919519569386763.prm
theorem full75445702479781427272750846543864801:Full 75445702479781427272750846543864801:=by
 refine lucas_rec 7 [2,2,2,2,2,3,3,5,5,75707,72106336199,1919519569386763] (by decide +kernel) (fun q hq=>?_)
 simp only [List.mem_cons,List.not_mem_nil,or_false] at hq
 rcases hq with rfl | rfl | rfl | rfl | rfl | rfl | rfl | rfl | rfl | rfl | rfl | rfl
 ·exact prm2
 ·exact prm2
 ·exact prm2
 ·exact prm2
 ·exact prm2
 ·exact prm3
 ·exact prm3
 ·exact prm5
 ·exact prm5
 ·exact prm75707
 ·exact prm72106336199
 ·exact prm1919519569386763
theorem prm75445702479781427272750846543864801:Prm 75445702479781427272750846543864801:=full75445702479781427272750846543864801.prm
theorem full74058212732561358302231226437062788676166966415465897661863160754340907:Full 74058212732561358302231226437062788676166966415465897661863160754340907:=by
 refine lucas_rec 2 [2,3,353,57467,132049,1923133,31757755568855353,75445702479781427272750846543864801] (by decide +kernel) (fun q hq=>?_)
 simp only [List.mem_cons,List.not_mem_nil,or_false] at hq
 rcases hq with rfl | rfl | rfl | rfl | rfl | rfl | rfl | rfl
 ·exact prm2
 ·exact prm3
 ·exact prm353
 ·exact prm57467
 ·exact prm132049
 ·exact prm1923133
 ·exact prm31757755568855353
 ·exact prm75445702479781427272750846543864801
theorem prm74058212732561358302231226437062788676166966415465897661863160754340907:Prm 74058212732561358302231226437062788676166966415465897661863160754340907:=full74058212732561358302231226437062788676166966415465897661863160754340907.prm
theorem full57896044618658097711785492504343953926634992332820282019728792003956564819949:Full 57896044618658097711785492504343953926634992332820282019728792003956564819949:=by
 refine lucas_rec 2 [2,2,3,65147,74058212732561358302231226437062788676166966415465897661863160754340907] (by decide +kernel) (fun q hq=>?_)
 simp only [List.mem_cons,List.not_mem_nil,or_false] at hq
 rcases hq with rfl | rfl | rfl | rfl | rfl
 ·exact prm2
 ·exact prm2
 ·exact prm3
 ·exact prm65147
 ·exact prm74058212732561358302231226437062788676166966415465897661863160754340907
def mod2:Nat:=57896044618658097711785492504343953926634992332820282019728792003956564819949
theorem mod2_full:Full mod2:=full57896044618658097711785492504343953926634992332820282019728792003956564819949
def mod3:Nat:=7237005577332262213973186563042994240857116359379907606001950938285454250989
end Go.Proofs.YtjaahnlpnkcimaaDoor
namespace Go.Proofs.YtjaahnlpnkcimaaDoor
set_option maxRecDepth 100000
def q2:Nat:=57896044618658097711785492504343953926634992332820282019728792003956564819948
abbrev m2:Nat:=q2+1
theorem m2_full:Full m2:=mod2_full
theorem fld2:Fld m2 fiv:=by
 obtain ⟨h1,h2,h3⟩:=fld_of m2_full (by unfold m2 q2;omega)
 exact ⟨h1,h2,h3⟩
def edN:Nat:=37095705934669439343138083508754565189542113879843219016388785533085940283555
def ed:Fin m2:=kc (edN:Int)
theorem val_kc2 {p:Nat} [NeZero p] {n:Nat} (h:n<p):(kc (n:Int):Fin p).val=n:=by
 have:=kc_val (p:=p) n
 rw [Int.emod_eq_of_lt (by omega) (by omega)] at this
 omega
theorem neg_kc {p:Nat} [NeZero p] {a:Int} {n:Fin p} (h:(a+1) % p=0) (e:n=kc a):n=- 1:=by
 have:=kc_nil.2 h
 rw [kc_add,kc_one,← e] at this
 clear h e
 grobner
theorem ek_im:∃ i:Fin m2,i*i=- 1:=by
 refine ⟨kc ((19681161376707505956807079304988542015446066515923890162744021073123829784752:Nat):Int),?_⟩
 rw [← kc_mul]
 exact neg_kc (by decide +kernel) rfl
theorem euler_ok:(pm 256 edN ((m2-1) / 2) m2 == 1)=false:=by decide +kernel
theorem pow_sq {p:Nat} [NeZero p] (v:Fin p):∀ m:Nat,(v*v) ^ m=v ^ (2*m)
 | 0=>by grobner
 | m+1=>by
  have i2:=pow_sq v m
  have a1:(v*v) ^ (m+1)=(v*v) ^ m*(v*v):=by clear i2;grobner
  have a2:v ^ (2*(m+1))=v ^ (2*m)*(v*v):=by clear i2 a1;grobner
  rw [a1,a2,i2]
theorem nil_sq {p:Nat} [NeZero p]:(0:Fin p)*0=0:=by grobner
theorem ek_ns (s:Fin m2):s*s≠ed:=by
 intro e
 have hs:s≠0:=by
  rintro rfl
  rw [nil_sq] at e
  have h1:ed.val=edN:=val_kc2 (by decide +kernel)
  rw [← e] at h1
  exact absurd h1 (by decide +kernel)
 have f:=fermat_fin m2_full hs
 have e2:ed ^ ((m2-1) / 2)=1:=by
  rw [← e,pow_sq,show 2*((m2-1) / 2)=m2-1 by unfold m2 q2;omega,f]
 rw [ed,← kc_pow,← kc_one] at e2
 have e3:=kc_inj e2
 have e4:edN ^ ((m2-1) / 2) % m2=1:=by
  have:((edN ^ ((m2-1) / 2) % m2:Nat):Int)=1:=by
   rw [Int.natCast_emod,Int.natCast_pow,e3]
   rfl
  omega
 have e5:=euler_ok
 rw [pm_eq 256 edN ((m2-1) / 2) m2 (by unfold m2 q2;decide),e4] at e5
 exact absurd e5 (by decide)
theorem ek2:Ek m2 fiv ed:=⟨fld2,ek_im,ek_ns⟩
def eadd:Ep m2→Ep m2→Ep m2:=Ep.add fiv ed
theorem egr:Gr (Ep.on ed) eadd (Ep.o m2) where
 mem:=fun ha hb=>Ep.add_on ek2 ha hb
 zero:=Ep.o_on ed
 comm:=Ep.add_comm fiv ed
 ass:=fun ha hb hc=>Ep.add_assoc ek2 ha hb hc
 add_o:=fun _=>Ep.add_o fld2 ed _
/-! The modulus 3 times the base point, reckoned by the kernel. -/
def P4.frc {β:Type} (P:P4 Nat) (k:P4 Nat→β):β:=frcN P.x fun x=>frcN P.z fun z=>frcN P.y fun y=>frcN P.t fun t=>k ⟨x,z,y,t⟩
theorem P4.frc_eq {β:Type} (P:P4 Nat) (k:P4 Nat→β):P.frc k=k P:=by simp only [P4.frc,frcN_eq]
def mulE (p d:Nat):Nat→P4 Nat→P4 Nat→Nat→P4 Nat
 | 0,_,acc,_=>acc
 | k+1,t,acc,e=>(ef (natOp p) d t t).frc fun t2=>if e % 2=1 then (ef (natOp p) d acc t).frc fun acc=>mulE p d k t2 acc (e / 2) else mulE p d k t2 acc (e / 2)
def Se (a:Ep m2) (N:P4 Nat):Prop:=∃ P:P4 (Fin m2),Dn P∧em fiv P=a∧Rq Rn P N
theorem se_add {a c:Ep m2} {N M:P4 Nat} (ha:a.on ed) (hc:c.on ed) (h1:Se a N) (h2:Se c M):Se (eadd a c) (ef (natOp m2) (ed.val) N M):=by
 obtain ⟨P,p1,rfl,p3⟩:=h1
 obtain ⟨Q,q1,rfl,q3⟩:=h2
 have k:=em_ea ek2 p1 q1 ha hc
 exact ⟨ea ed P Q,k.1,k.2,ef_par (par_nat m2) (d:=ed) (d':=ed.val) rfl p3 q3⟩
theorem se_mul:∀ (k:Nat) {a c:Ep m2} {N M:P4 Nat} (e:Nat),a.on ed→c.on ed→e<2 ^ k→Se a N→Se c M→Se (eadd c (mt eadd (Ep.o m2) a e)) (mulE m2 ed.val k N M e)
 | 0,a,c,N,M,e,ha,hc,he,hN,hM=>by
  have:e=0:=by simpa using he
  subst this
  show Se (eadd c (Ep.o m2)) M
  rw [egr.add_o hc]
  exact hM
 | k+1,a,c,N,M,e,ha,hc,he,hN,hM=>by
  have h2:e / 2<2 ^ k:=by rw [Nat.pow_succ] at he;omega
  have hd:=se_add ha ha hN hN
  have od:=egr.mem ha ha
  have e2:mt eadd (Ep.o m2) (eadd a a) (e / 2)=mt eadd (Ep.o m2) a (2*(e / 2)):=by
   rw [mt_mul egr ha]
   congr 1
   show eadd a a=eadd (eadd (Ep.o m2) a) a
   rw [egr.comm (Ep.o m2) a,egr.add_o ha]
  unfold mulE
  simp only [P4.frc_eq]
  split
  ·have ih:=se_mul k (e / 2) od (egr.mem hc ha) h2 hd (se_add hc ha hM hN)
   rw [e2,egr.ass hc ha (mt_on egr ha _),egr.comm a] at ih
   have e3:eadd (mt eadd (Ep.o m2) a (2*(e / 2))) a=mt eadd (Ep.o m2) a e:=by
    show mt eadd (Ep.o m2) a (2*(e / 2)+1)=_
    congr 1
    omega
   rw [e3] at ih
   exact ih
  ·have ih:=se_mul k (e / 2) od hc h2 hd hM
   rw [e2] at ih
   rw [show 2*(e / 2)=e by omega] at ih
   exact ih
def exN:Nat:=15112221349535400772501151409588531511454012693041857206046113283949847762202
def eyN:Nat:=46316835694926478169428394003475163141307993866256225615783033603165251855960
def eG:Ep m2:=⟨kc (exN:Int),kc (eyN:Int)⟩
theorem eG_on:eG.on ed:=by
 show kc (eyN:Int)*kc (eyN:Int)-kc (exN:Int)*kc (exN:Int)=1+ed*(kc (exN:Int)*kc (exN:Int)*(kc (eyN:Int)*kc (eyN:Int)))
 rw [← kc_one,ed,← kc_mul,← kc_mul,← kc_mul,← kc_mul,← kc_sub,← kc_add]
 exact kc_eq (by decide +kernel)
theorem one_val2:(1:Fin m2).val=1:=by
 rw [← kc_one]
 exact val_kc2 (n:=1) (by decide +kernel)
theorem se_o:Se (Ep.o m2) ⟨0,1,1,1⟩:=⟨(Ep.o m2).lift,⟨fld2.one,fld2.one⟩,em_lift fld2 _,⟨rfl,one_val2,one_val2,one_val2⟩⟩
theorem se_G:Se eG ⟨exN,1,eyN,1⟩:=⟨eG.lift,⟨fld2.one,fld2.one⟩,em_lift fld2 _,⟨val_kc2 (by decide +kernel),one_val2,val_kc2 (by decide +kernel),one_val2⟩⟩
def P4.isO (P:P4 Nat):Bool:=P.x == 0 && P.y == P.t
theorem eorder_ok:(mulE m2 edN 256 ⟨exN,1,eyN,1⟩ ⟨0,1,1,1⟩ mod3).isO=true:=by decide +kernel
theorem nil_mul {p:Nat} [NeZero p] (a:Fin p):0*a=0:=by grobner
theorem eG_order:mt eadd (Ep.o m2) eG mod3=Ep.o m2:=by
 have hs:=se_mul 256 mod3 eG_on (c:=Ep.o m2) (Ep.o_on ed) (by unfold mod3;decide) se_G se_o
 have hb:ed.val=edN:=val_kc2 (by decide +kernel)
 rw [hb] at hs
 have hz:=eorder_ok
 generalize mulE m2 edN 256 ⟨exN,1,eyN,1⟩ ⟨0,1,1,1⟩ mod3=N at hs hz
 obtain ⟨P,p1,p2,p3⟩:=hs
 simp only [P4.isO,Bool.and_eq_true,beq_iff_eq] at hz
 have z0:P.x=0:=Fin.ext (by
  show P.x.val=0
  rw [← hz.1]
  exact p3.x)
 have z1:P.y=P.t:=Fin.ext (by
  have h1:P.y.val=N.y:=p3.y
  have h2:P.t.val=N.t:=p3.t
  omega)
 rw [egr.comm,egr.add_o (mt_on egr eG_on _)] at p2
 rw [← p2,em,z0,z1,fld2.inv _ p1.t,nil_mul]
 rfl
end Go.Proofs.YtjaahnlpnkcimaaDoor
namespace Go.Proofs.YtjaahnlpnkcimaaDoor
set_option maxRecDepth 100000
def fadd (p q:P3 (Fin m2)):P3 (Fin m2) :=
 let c:=p.z*q.z
 let cc:=c*c
 let xx:=p.x*q.x
 let yy:=p.y*q.y
 let e:=ed*(xx*yy)
 let cross:=p.x*q.y+q.x*p.y
 ⟨c*cross*(cc-e),c*(yy+xx)*(cc+e),(cc-e)*(cc+e)⟩
def fdrop (p:P3 (Fin m2)):Ep m2:=⟨p.x*fiv p.z,p.y*fiv p.z⟩
def flift (a:Ep m2):P3 (Fin m2):=⟨a.x,a.y,1⟩
structure Fo (p:P3 (Fin m2)):Prop where
 z:p.z≠0
 on:(fdrop p).on ed
theorem fiv2_one:fiv (1:Fin m2)=1:=iv_one fld2
theorem fdrop_lift (a:Ep m2):fdrop (flift a)=a:=by
 obtain ⟨x,y⟩:=a
 simp only [fdrop,flift,fiv2_one]
 congr 1
 ·grobner
 ·grobner
theorem fo_own {p:P3 (Fin m2)} (h:p.z≠0):p.x=(fdrop p).x*p.z∧p.y=(fdrop p).y*p.z:=by
 have h1:=fld2.inv _ h
 simp only [fdrop]
 generalize fiv p.z=i at h1
 constructor
 ·rw [show p.x*i*p.z=p.x*(p.z*i) by clear h1;grobner,h1]
  clear h1
  grobner
 ·rw [show p.y*i*p.z=p.y*(p.z*i) by clear h1;grobner,h1]
  clear h1
  grobner
theorem fadd_ok {p q:P3 (Fin m2)} (hp:Fo p) (hq:Fo q):Fo (fadd p q)∧fdrop (fadd p q)=eadd (fdrop p) (fdrop q):=by
 obtain ⟨ox1,oy1⟩:=fo_own hp.z
 obtain ⟨ox2,oy2⟩:=fo_own hq.z
 have d1:=den_add ek2 hp.on hq.on
 have d2:=den_sub ek2 hp.on hq.on
 have i1:=fld2.inv _ d1
 have i2:=fld2.inv _ d2
 have hc:=fld2.ne (fld2.ne hp.z hq.z) (fld2.ne hp.z hq.z)
 have el:p.z*q.z*(p.z*q.z)-ed*(p.x*q.x*(p.y*q.y))=p.z*q.z*(p.z*q.z)*(1-(fdrop p).t ed (fdrop q)):=by
  rw [ox1,ox2,oy1,oy2]
  simp only [Ep.t]
  generalize fdrop p=a
  generalize fdrop q=b
  clear i1 i2 hc d1 d2 ox1 ox2 oy1 oy2
  grobner
 have em:p.z*q.z*(p.z*q.z)+ed*(p.x*q.x*(p.y*q.y))=p.z*q.z*(p.z*q.z)*(1+(fdrop p).t ed (fdrop q)):=by
  rw [ox1,ox2,oy1,oy2]
  simp only [Ep.t]
  generalize fdrop p=a
  generalize fdrop q=b
  clear i1 i2 hc d1 d2 ox1 ox2 oy1 oy2 el
  grobner
 have hz:(fadd p q).z=(p.z*q.z*(p.z*q.z)*(1-(fdrop p).t ed (fdrop q)))*(p.z*q.z*(p.z*q.z)*(1+(fdrop p).t ed (fdrop q))):=by
  show (p.z*q.z*(p.z*q.z)-ed*(p.x*q.x*(p.y*q.y)))*(p.z*q.z*(p.z*q.z)+ed*(p.x*q.x*(p.y*q.y)))=_
  rw [el,em]
 have nz:(fadd p q).z≠0:=by
  rw [hz]
  exact fld2.ne (fld2.ne hc d2) (fld2.ne hc d1)
 have key:fdrop (fadd p q)=eadd (fdrop p) (fdrop q):=by
  have iz:=fld2.inv _ nz
  have hx:(fadd p q).x=p.z*q.z*(p.x*q.y+q.x*p.y)*(p.z*q.z*(p.z*q.z)*(1-(fdrop p).t ed (fdrop q))):=by
   show p.z*q.z*(p.x*q.y+q.x*p.y)*(p.z*q.z*(p.z*q.z)-ed*(p.x*q.x*(p.y*q.y)))=_
   rw [el]
  have hy:(fadd p q).y=p.z*q.z*(p.y*q.y+p.x*q.x)*(p.z*q.z*(p.z*q.z)*(1+(fdrop p).t ed (fdrop q))):=by
   show p.z*q.z*(p.y*q.y+p.x*q.x)*(p.z*q.z*(p.z*q.z)+ed*(p.x*q.x*(p.y*q.y)))=_
   rw [em]
  have cx:p.x*q.y+q.x*p.y=((fdrop p).x*(fdrop q).y+(fdrop q).x*(fdrop p).y)*(p.z*q.z):=by
   conv=>lhs;rw [ox1,ox2,oy1,oy2]
   generalize fdrop p=a
   generalize fdrop q=b
   clear i1 i2 hc d1 d2 ox1 ox2 oy1 oy2 el em hz nz iz hx hy
   grobner
  have cy:p.y*q.y+p.x*q.x=((fdrop p).y*(fdrop q).y+(fdrop p).x*(fdrop q).x)*(p.z*q.z):=by
   conv=>lhs;rw [ox1,ox2,oy1,oy2]
   generalize fdrop p=a
   generalize fdrop q=b
   clear i1 i2 hc d1 d2 ox1 ox2 oy1 oy2 el em hz nz iz hx hy cx
   grobner
  rw [hz] at iz
  rw [fdrop,hx,hy,cx,cy,hz]
  simp only [eadd,Ep.add]
  generalize (fdrop p).t ed (fdrop q)=t at *
  generalize fiv (p.z*q.z*(p.z*q.z)*(1-t)*(p.z*q.z*(p.z*q.z)*(1+t)))=iz' at *
  generalize (fdrop p).x*(fdrop q).y+(fdrop q).x*(fdrop p).y=A at *
  generalize (fdrop p).y*(fdrop q).y+(fdrop p).x*(fdrop q).x=B at *
  generalize fiv (1+t)=j1 at *
  generalize fiv (1-t)=j2 at *
  generalize p.z*q.z=c at *
  clear hp hq ox1 ox2 oy1 oy2 el em hz nz hx hy cx cy hc
  congr 1
  ·have e1:c*(A*c)*(c*c*(1-t))*iz'=A*j1*(c*c*(1-t)*(c*c*(1+t))*iz'):=by
    rw [show A*j1*(c*c*(1-t)*(c*c*(1+t))*iz')=A*((1+t)*j1)*(c*c*(1-t)*(c*c)*iz') by clear i1 i2 iz;grobner,i1]
    clear i1 i2 iz
    grobner
   rw [e1,iz]
   clear e1 i1 i2 iz
   grobner
  ·have e1:c*(B*c)*(c*c*(1+t))*iz'=B*j2*(c*c*(1-t)*(c*c*(1+t))*iz'):=by
    rw [show B*j2*(c*c*(1-t)*(c*c*(1+t))*iz')=B*((1-t)*j2)*(c*c*(c*c*(1+t))*iz') by clear i1 i2 iz;grobner,i2]
    clear i1 i2 iz
    grobner
   rw [e1,iz]
   clear e1 i1 i2 iz
   grobner
 exact ⟨⟨nz,by rw [key];exact egr.mem hp.on hq.on⟩,key⟩
def fm (k:Nat) (p:P3 (Fin m2)):Nat→P3 (Fin m2) × Bool
 | 0=>(flift (Ep.o m2),false)
 | n+1 =>
  let d:=if (fm k p n).2=true then fadd (fm k p n).1 (fm k p n).1 else (fm k p n).1
  if k / 2 ^ (255-n) % 2=1 then (fadd d p,true) else (d,(fm k p n).2)
end Go.Proofs.YtjaahnlpnkcimaaDoor
namespace Go.Proofs.YtjaahnlpnkcimaaDoor
set_option maxRecDepth 100000
open Go.RowKit
attribute [local go_sem ↓] Go.wp_at_zero Go.wp_at_succ
theorem f_mul {k a b:Int} (hkk:0≤k∧k≤3) (ha:Num a) (hb:Num b) {w:World} (hT:Tab w):Calls Tryd.prog 21 #[.int .i64 k,.agg #[.int .u64 (L 0 a),.int .u64 (L 1 a),.int .u64 (L 2 a),.int .u64 (L 3 a)],.agg #[.int .u64 (L 0 b),.int .u64 (L 1 b),.int .u64 (L 2 b),.int .u64 (L 3 b)]] w fun e w'=>e=.returned (.agg #[.int .u64 (L 0 ((a*b) % md k)),.int .u64 (L 1 ((a*b) % md k)),.int .u64 (L 2 ((a*b) % md k)),.int .u64 (L 3 ((a*b) % md k))])∧Below w.heap.size w w':=by
 go_enter Tryd.func21,Tryd.ntmps21
 go_wp2
 have hR:=(ArrW.new ((w.alloc (.cells #[.int .u64 (L 0 a),.int .u64 (L 1 a),.int .u64 (L 2 a),.int .u64 (L 3 a)] 33)).alloc (.cells #[.int .u64 (L 0 b),.int .u64 (L 1 b),.int .u64 (L 2 b),.int .u64 (L 3 b)] 33)) (w.heap.size+1+1) (by simp) 33 0 0 0 0).keep (Below.refl _ _).drew
 go_region_held3 (fun w'=>Below w.heap.size w w'∧w'.cell? ⟨w.heap.size,0,none⟩=some (.int .u64 (L 0 a))∧w'.cell? ⟨w.heap.size,1,none⟩=some (.int .u64 (L 1 a))∧w'.cell? ⟨w.heap.size,2,none⟩=some (.int .u64 (L 2 a))∧w'.cell? ⟨w.heap.size,3,none⟩=some (.int .u64 (L 3 a))∧w'.cell? ⟨w.heap.size+1,0,none⟩=some (.int .u64 (L 0 b))∧w'.cell? ⟨w.heap.size+1,1,none⟩=some (.int .u64 (L 1 b))∧w'.cell? ⟨w.heap.size+1,2,none⟩=some (.int .u64 (L 2 b))∧w'.cell? ⟨w.heap.size+1,3,none⟩=some (.int .u64 (L 3 b)))
  ((go_split_ands;(repeat' apply And.intro) <;> first | (with_reducible assumption) | (with_reducible exact later hk (by assumption)) | (with_reducible exact K.call (by assumption) hk) | (with_reducible exact later_a (by assumption)) | (with_reducible exact later_ad (by assumption)) | (with_reducible exact set4_other (by omega) _ _ _ _ (by assumption)) | (with_reducible exact K.set4 (by assumption) (by omega) _ _ _ _) | (simp [go_sem];done) | (repeat' (first | (with_reducible assumption) | (with_reducible exact Below.refl _ _) | (with_reducible refine K.drewN ?_ _) | (with_reducible refine K.drew ?_) | (with_reducible refine K.alloc ?_ _)))))
  (first
   | (go_at_call 45;with_reducible refine Calls.mono (modOf_any k (hT.keep (by go_split_ands;assumption))) ?_;rintro e w' ⟨rfl,hk⟩;have hR:=hR.keep hk;have ⟨kr,kr0,kr1,kr2,kr3,kf0,kf1,kf2,kf3⟩:=hR)
   | (go_at_call 50;with_reducible refine Calls.mono (prod_any hkk ha hb _) ?_;rintro e w' ⟨rfl,hk⟩;have hR:=hR.keep hk;have ⟨kr,kr0,kr1,kr2,kr3,kf0,kf1,kf2,kf3⟩:=hR))
 have hH:=‹Below _ _ _∧_›
 go_wp2
 exact bodyPost_ret (v:=.agg #[.int .u64 (L 0 ((a*b) % md k)),.int .u64 (L 1 ((a*b) % md k)),.int .u64 (L 2 ((a*b) % md k)),.int .u64 (L 3 ((a*b) % md k))]) (by simp [results,Tryd.results21,go_sem,kr0,kr1,kr2,kr3]) rfl ⟨rfl,hH.1⟩
end Go.Proofs.YtjaahnlpnkcimaaDoor
