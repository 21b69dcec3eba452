/- The four moduli are primes, by records of their powers. The first curve's own numbers: its points are a group, and n times the base point is the neutral one. The moduli by their numbers, and plain facts on what is left of a number. What math/bits.LeadingZeros64 and Div64 answer at the greatest words of the moduli. -/
import Derived.Test.YtmigakanbeckpaaGreatDoorRm04
import Derived.Test.YtmigakanbeckpaaGreatDoorRm02
import Derived.Laws.MathBits
set_option maxRecDepth 100000
set_option maxHeartbeats 1000000
namespace Go.Proofs.YtmigakanbeckpaaGreatDoor
set_option maxRecDepth 100000
theorem prm2:Prm 2:=prm_small (by decide +kernel)
theorem prm3:Prm 3:=prm_small (by decide +kernel)
theorem prm5:Prm 5:=prm_small (by decide +kernel)
theorem prm17:Prm 17:=prm_small (by decide +kernel)
theorem prm257:Prm 257:=prm_small (by decide +kernel)
theorem prm641:Prm 641:=prm_small (by decide +kernel)
theorem prm1531:Prm 1531:=prm_small (by decide +kernel)
theorem full65537:Full 65537:=by
 refine lucas_rec 3 [2,2,2,2,2,2,2,2,2,2,2,2,2,2,2,2] (by decide +kernel) (fun q hq=>?_)
 simp only [List.mem_cons,List.not_mem_nil,or_false] at hq
 rcases hq with rfl | rfl | rfl | rfl | rfl | rfl | rfl | rfl | rfl | rfl | rfl | rfl | rfl | rfl | rfl | rfl
 ·exact prm2
 ·exact prm2
 ·exact prm2
 ·exact prm2
 ·exact prm2
 ·exact prm2
 ·exact prm2
 ·exact prm2
 ·exact prm2
 ·exact prm2
 ·exact prm2
 ·exact prm2
 ·exact prm2
 ·exact prm2
 ·exact prm2
 ·exact prm2
theorem prm65537:Prm 65537:=full65537.prm
theorem prm7:Prm 7:=prm_small (by decide +kernel)
theorem prm53:Prm 53:=prm_small (by decide +kernel)
theorem prm661:Prm 661:=prm_small (by decide +kernel)
theorem full490463:Full 490463:=by
 refine lucas_rec 14 [2,7,53,661] (by decide +kernel) (fun q hq=>?_)
 simp only [List.mem_cons,List.not_mem_nil,or_false] at hq
 rcases hq with rfl | rfl | rfl | rfl
 ·exact prm2
 ·exact prm7
 ·exact prm53
 ·exact prm661
theorem prm490463:Prm 490463:=full490463.prm
theorem prm727:Prm 727:=prm_small (by decide +kernel)
theorem full17449:Full 17449:=by
 refine lucas_rec 14 [2,2,2,3,727] (by decide +kernel) (fun q hq=>?_)
 simp only [List.mem_cons,List.not_mem_nil,or_false] at hq
 rcases hq with rfl | rfl | rfl | rfl | rfl
 ·exact prm2
 ·exact prm2
 ·exact prm2
 ·exact prm3
 ·exact prm727
theorem prm17449:Prm 17449:=full17449.prm
theorem full6700417:Full 6700417:=by
 refine lucas_rec 5 [2,2,2,2,2,2,2,3,17449] (by decide +kernel) (fun q hq=>?_)
 simp only [List.mem_cons,List.not_mem_nil,or_false] at hq
 rcases hq with rfl | rfl | rfl | rfl | rfl | rfl | rfl | rfl | rfl
 ·exact prm2
 ·exact prm2
 ·exact prm2
 ·exact prm2
 ·exact prm2
 ·exact prm2
 ·exact prm2
 ·exact prm3
 ·exact prm17449
theorem prm6700417:Prm 6700417:=full6700417.prm
theorem prm2411:Prm 2411:=prm_small (by decide +kernel)
theorem prm11:Prm 11:=prm_small (by decide +kernel)
theorem prm23:Prm 23:=prm_small (by decide +kernel)
theorem prm107:Prm 107:=prm_small (by decide +kernel)
theorem prm3769:Prm 3769:=prm_small (by decide +kernel)
theorem full204061199:Full 204061199:=by
 refine lucas_rec 11 [2,11,23,107,3769] (by decide +kernel) (fun q hq=>?_)
 simp only [List.mem_cons,List.not_mem_nil,or_false] at hq
 rcases hq with rfl | rfl | rfl | rfl | rfl
 ·exact prm2
 ·exact prm11
 ·exact prm23
 ·exact prm107
 ·exact prm3769
theorem prm204061199:Prm 204061199:=full204061199.prm
theorem full34282281433:Full 34282281433:=by
 refine lucas_rec 17 [2,2,2,3,7,204061199] (by decide +kernel) (fun q hq=>?_)
 simp only [List.mem_cons,List.not_mem_nil,or_false] at hq
 rcases hq with rfl | rfl | rfl | rfl | rfl | rfl
 ·exact prm2
 ·exact prm2
 ·exact prm2
 ·exact prm3
 ·exact prm7
 ·exact prm204061199
theorem prm34282281433:Prm 34282281433:=full34282281433.prm
theorem prm173:Prm 173:=prm_small (by decide +kernel)
theorem prm197:Prm 197:=prm_small (by decide +kernel)
theorem prm3677:Prm 3677:=prm_small (by decide +kernel)
theorem full66417393611:Full 66417393611:=by
 refine lucas_rec 6 [2,5,53,173,197,3677] (by decide +kernel) (fun q hq=>?_)
 simp only [List.mem_cons,List.not_mem_nil,or_false] at hq
 rcases hq with rfl | rfl | rfl | rfl | rfl | rfl
 ·exact prm2
 ·exact prm5
 ·exact prm53
 ·exact prm173
 ·exact prm197
 ·exact prm3677
theorem prm66417393611:Prm 66417393611:=full66417393611.prm
theorem full11290956913871:Full 11290956913871:=by
 refine lucas_rec 13 [2,5,17,66417393611] (by decide +kernel) (fun q hq=>?_)
 simp only [List.mem_cons,List.not_mem_nil,or_false] at hq
 rcases hq with rfl | rfl | rfl | rfl
 ·exact prm2
 ·exact prm5
 ·exact prm17
 ·exact prm66417393611
theorem prm11290956913871:Prm 11290956913871:=full11290956913871.prm
theorem prm757:Prm 757:=prm_small (by decide +kernel)
theorem full18169:Full 18169:=by
 refine lucas_rec 11 [2,2,2,3,757] (by decide +kernel) (fun q hq=>?_)
 simp only [List.mem_cons,List.not_mem_nil,or_false] at hq
 rcases hq with rfl | rfl | rfl | rfl | rfl
 ·exact prm2
 ·exact prm2
 ·exact prm2
 ·exact prm3
 ·exact prm757
theorem prm18169:Prm 18169:=full18169.prm
theorem prm4349:Prm 4349:=prm_small (by decide +kernel)
theorem full78283:Full 78283:=by
 refine lucas_rec 3 [2,3,3,4349] (by decide +kernel) (fun q hq=>?_)
 simp only [List.mem_cons,List.not_mem_nil,or_false] at hq
 rcases hq with rfl | rfl | rfl | rfl
 ·exact prm2
 ·exact prm3
 ·exact prm3
 ·exact prm4349
theorem prm78283:Prm 78283:=full78283.prm
theorem prm313:Prm 313:=prm_small (by decide +kernel)
theorem full704251:Full 704251:=by
 refine lucas_rec 2 [2,3,3,5,5,5,313] (by decide +kernel) (fun q hq=>?_)
 simp only [List.mem_cons,List.not_mem_nil,or_false] at hq
 rcases hq with rfl | rfl | rfl | rfl | rfl | rfl | rfl
 ·exact prm2
 ·exact prm3
 ·exact prm3
 ·exact prm5
 ·exact prm5
 ·exact prm5
 ·exact prm313
theorem prm704251:Prm 704251:=full704251.prm
theorem full46076956964474543:Full 46076956964474543:=by
 refine lucas_rec 5 [2,23,18169,78283,704251] (by decide +kernel) (fun q hq=>?_)
 simp only [List.mem_cons,List.not_mem_nil,or_false] at hq
 rcases hq with rfl | rfl | rfl | rfl | rfl
 ·exact prm2
 ·exact prm23
 ·exact prm18169
 ·exact prm78283
 ·exact prm704251
theorem prm46076956964474543:Prm 46076956964474543:=full46076956964474543.prm
theorem full774023187263532362759620327192479577272145303:Full 774023187263532362759620327192479577272145303:=by
 refine lucas_rec 3 [2,3,3,2411,34282281433,11290956913871,46076956964474543] (by decide +kernel) (fun q hq=>?_)
 simp only [List.mem_cons,List.not_mem_nil,or_false] at hq
 rcases hq with rfl | rfl | rfl | rfl | rfl | rfl | rfl
 ·exact prm2
 ·exact prm3
 ·exact prm3
 ·exact prm2411
 ·exact prm34282281433
 ·exact prm11290956913871
 ·exact prm46076956964474543
theorem prm774023187263532362759620327192479577272145303:Prm 774023187263532362759620327192479577272145303:=full774023187263532362759620327192479577272145303.prm
theorem full835945042244614951780389953367877943453916927241:Full 835945042244614951780389953367877943453916927241:=by
 refine lucas_rec 11 [2,2,2,3,3,3,5,774023187263532362759620327192479577272145303] (by decide +kernel) (fun q hq=>?_)
 simp only [List.mem_cons,List.not_mem_nil,or_false] at hq
 rcases hq with rfl | rfl | rfl | rfl | rfl | rfl | rfl | rfl
 ·exact prm2
 ·exact prm2
 ·exact prm2
 ·exact prm3
 ·exact prm3
 ·exact prm3
 ·exact prm5
 ·exact prm774023187263532362759620327192479577272145303
theorem prm835945042244614951780389953367877943453916927241:Prm 835945042244614951780389953367877943453916927241:=full835945042244614951780389953367877943453916927241.prm
theorem full115792089210356248762697446949407573530086143415290314195533631308867097853951:Full 115792089210356248762697446949407573530086143415290314195533631308867097853951:=by
 refine lucas_rec 6 [2,3,5,5,17,257,641,1531,65537,490463,6700417,835945042244614951780389953367877943453916927241] (by decide +kernel) (fun q hq=>?_)
 simp only [List.mem_cons,List.not_mem_nil,or_false] at hq
 rcases hq with rfl | rfl | rfl | rfl | rfl | rfl | rfl | rfl | rfl | rfl | rfl | rfl
 ·exact prm2
 ·exact prm3
 ·exact prm5
 ·exact prm5
 ·exact prm17
 ·exact prm257
 ·exact prm641
 ·exact prm1531
 ·exact prm65537
 ·exact prm490463
 ·exact prm6700417
 ·exact prm835945042244614951780389953367877943453916927241
theorem prm71:Prm 71:=prm_small (by decide +kernel)
theorem prm131:Prm 131:=prm_small (by decide +kernel)
theorem prm373:Prm 373:=prm_small (by decide +kernel)
theorem prm3407:Prm 3407:=prm_small (by decide +kernel)
theorem prm37:Prm 37:=prm_small (by decide +kernel)
theorem prm43:Prm 43:=prm_small (by decide +kernel)
theorem full9547:Full 9547:=by
 refine lucas_rec 2 [2,3,37,43] (by decide +kernel) (fun q hq=>?_)
 simp only [List.mem_cons,List.not_mem_nil,or_false] at hq
 rcases hq with rfl | rfl | rfl | rfl
 ·exact prm2
 ·exact prm3
 ·exact prm37
 ·exact prm43
theorem prm9547:Prm 9547:=full9547.prm
theorem full38189:Full 38189:=by
 refine lucas_rec 2 [2,2,9547] (by decide +kernel) (fun q hq=>?_)
 simp only [List.mem_cons,List.not_mem_nil,or_false] at hq
 rcases hq with rfl | rfl | rfl
 ·exact prm2
 ·exact prm2
 ·exact prm9547
theorem prm38189:Prm 38189:=full38189.prm
theorem prm229:Prm 229:=prm_small (by decide +kernel)
theorem prm1201:Prm 1201:=prm_small (by decide +kernel)
theorem full9350987:Full 9350987:=by
 refine lucas_rec 2 [2,17,229,1201] (by decide +kernel) (fun q hq=>?_)
 simp only [List.mem_cons,List.not_mem_nil,or_false] at hq
 rcases hq with rfl | rfl | rfl | rfl
 ·exact prm2
 ·exact prm17
 ·exact prm229
 ·exact prm1201
theorem prm9350987:Prm 9350987:=full9350987.prm
theorem full187019741:Full 187019741:=by
 refine lucas_rec 2 [2,2,5,9350987] (by decide +kernel) (fun q hq=>?_)
 simp only [List.mem_cons,List.not_mem_nil,or_false] at hq
 rcases hq with rfl | rfl | rfl | rfl
 ·exact prm2
 ·exact prm2
 ·exact prm5
 ·exact prm9350987
theorem prm187019741:Prm 187019741:=full187019741.prm
theorem prm29:Prm 29:=prm_small (by decide +kernel)
theorem prm311:Prm 311:=prm_small (by decide +kernel)
theorem full311245691:Full 311245691:=by
 refine lucas_rec 2 [2,5,7,17,29,29,311] (by decide +kernel) (fun q hq=>?_)
 simp only [List.mem_cons,List.not_mem_nil,or_false] at hq
 rcases hq with rfl | rfl | rfl | rfl | rfl | rfl | rfl
 ·exact prm2
 ·exact prm5
 ·exact prm7
 ·exact prm17
 ·exact prm29
 ·exact prm29
 ·exact prm311
theorem prm311245691:Prm 311245691:=full311245691.prm
theorem full622491383:Full 622491383:=by
 refine lucas_rec 5 [2,311245691] (by decide +kernel) (fun q hq=>?_)
 simp only [List.mem_cons,List.not_mem_nil,or_false] at hq
 rcases hq with rfl | rfl
 ·exact prm2
 ·exact prm311245691
theorem prm622491383:Prm 622491383:=full622491383.prm
theorem prm263:Prm 263:=prm_small (by decide +kernel)
theorem full126241:Full 126241:=by
 refine lucas_rec 7 [2,2,2,2,2,3,5,263] (by decide +kernel) (fun q hq=>?_)
 simp only [List.mem_cons,List.not_mem_nil,or_false] at hq
 rcases hq with rfl | rfl | rfl | rfl | rfl | rfl | rfl | rfl
 ·exact prm2
 ·exact prm2
 ·exact prm2
 ·exact prm2
 ·exact prm2
 ·exact prm3
 ·exact prm5
 ·exact prm263
theorem prm126241:Prm 126241:=full126241.prm
theorem prm19:Prm 19:=prm_small (by decide +kernel)
theorem prm31:Prm 31:=prm_small (by decide +kernel)
theorem prm337:Prm 337:=prm_small (by decide +kernel)
theorem full104471:Full 104471:=by
 refine lucas_rec 11 [2,5,31,337] (by decide +kernel) (fun q hq=>?_)
 simp only [List.mem_cons,List.not_mem_nil,or_false] at hq
 rcases hq with rfl | rfl | rfl | rfl
 ·exact prm2
 ·exact prm5
 ·exact prm31
 ·exact prm337
theorem prm104471:Prm 104471:=full104471.prm
theorem full3969899:Full 3969899:=by
 refine lucas_rec 2 [2,19,104471] (by decide +kernel) (fun q hq=>?_)
 simp only [List.mem_cons,List.not_mem_nil,or_false] at hq
 rcases hq with rfl | rfl | rfl
 ·exact prm2
 ·exact prm19
 ·exact prm104471
theorem prm3969899:Prm 3969899:=full3969899.prm
theorem full1002328039319:Full 1002328039319:=by
 refine lucas_rec 19 [2,126241,3969899] (by decide +kernel) (fun q hq=>?_)
 simp only [List.mem_cons,List.not_mem_nil,or_false] at hq
 rcases hq with rfl | rfl | rfl
 ·exact prm2
 ·exact prm126241
 ·exact prm3969899
theorem prm1002328039319:Prm 1002328039319:=full1002328039319.prm
theorem prm1297:Prm 1297:=prm_small (by decide +kernel)
theorem prm97:Prm 97:=prm_small (by decide +kernel)
theorem full16879:Full 16879:=by
 refine lucas_rec 3 [2,3,29,97] (by decide +kernel) (fun q hq=>?_)
 simp only [List.mem_cons,List.not_mem_nil,or_false] at hq
 rcases hq with rfl | rfl | rfl | rfl
 ·exact prm2
 ·exact prm3
 ·exact prm29
 ·exact prm97
theorem prm16879:Prm 16879:=full16879.prm
theorem prm127:Prm 127:=prm_small (by decide +kernel)
theorem prm3023:Prm 3023:=prm_small (by decide +kernel)
theorem prm41:Prm 41:=prm_small (by decide +kernel)
theorem full155317:Full 155317:=by
 refine lucas_rec 5 [2,2,3,7,43,43] (by decide +kernel) (fun q hq=>?_)
 simp only [List.mem_cons,List.not_mem_nil,or_false] at hq
 rcases hq with rfl | rfl | rfl | rfl | rfl | rfl
 ·exact prm2
 ·exact prm2
 ·exact prm3
 ·exact prm7
 ·exact prm43
 ·exact prm43
theorem prm155317:Prm 155317:=full155317.prm
theorem full191039911:Full 191039911:=by
 refine lucas_rec 3 [2,3,5,41,155317] (by decide +kernel) (fun q hq=>?_)
 simp only [List.mem_cons,List.not_mem_nil,or_false] at hq
 rcases hq with rfl | rfl | rfl | rfl | rfl
 ·exact prm2
 ·exact prm3
 ·exact prm5
 ·exact prm41
 ·exact prm155317
theorem prm191039911:Prm 191039911:=full191039911.prm
theorem full208150935158385979:Full 208150935158385979:=by
 refine lucas_rec 2 [2,3,11,43,127,3023,191039911] (by decide +kernel) (fun q hq=>?_)
 simp only [List.mem_cons,List.not_mem_nil,or_false] at hq
 rcases hq with rfl | rfl | rfl | rfl | rfl | rfl | rfl
 ·exact prm2
 ·exact prm3
 ·exact prm11
 ·exact prm43
 ·exact prm127
 ·exact prm3023
 ·exact prm191039911
theorem prm208150935158385979:Prm 208150935158385979:=full208150935158385979.prm
theorem full2624747550333869278416773953:Full 2624747550333869278416773953:=by
 refine lucas_rec 7 [2,2,2,2,2,2,3,3,1297,16879,208150935158385979] (by decide +kernel) (fun q hq=>?_)
 simp only [List.mem_cons,List.not_mem_nil,or_false] at hq
 rcases hq with rfl | rfl | rfl | rfl | rfl | rfl | rfl | rfl | rfl | rfl | rfl
 ·exact prm2
 ·exact prm2
 ·exact prm2
 ·exact prm2
 ·exact prm2
 ·exact prm2
 ·exact prm3
 ·exact prm3
 ·exact prm1297
 ·exact prm16879
 ·exact prm208150935158385979
theorem prm2624747550333869278416773953:Prm 2624747550333869278416773953:=full2624747550333869278416773953.prm
theorem full115792089210356248762697446949407573529996955224135760342422259061068512044369:Full 115792089210356248762697446949407573529996955224135760342422259061068512044369:=by
 refine lucas_rec 7 [2,2,2,2,3,71,131,373,3407,17449,38189,187019741,622491383,1002328039319,2624747550333869278416773953] (by decide +kernel) (fun q hq=>?_)
 simp only [List.mem_cons,List.not_mem_nil,or_false] at hq
 rcases hq with rfl | rfl | rfl | rfl | rfl | rfl | rfl | rfl | rfl | rfl | rfl | rfl | rfl | rfl | rfl
 ·exact prm2
 ·exact prm2
 ·exact prm2
 ·exact prm2
 ·exact prm3
 ·exact prm71
 ·exact prm131
 ·exact prm373
 ·exact prm3407
 ·exact prm17449
 ·exact prm38189
 ·exact prm187019741
 ·exact prm622491383
 ·exact prm1002328039319
 ·exact prm2624747550333869278416773953
def mod0:Nat:=115792089210356248762697446949407573530086143415290314195533631308867097853951
theorem mod0_full:Full mod0:=full115792089210356248762697446949407573530086143415290314195533631308867097853951
def mod1:Nat:=115792089210356248762697446949407573529996955224135760342422259061068512044369
theorem mod1_full:Full mod1:=full115792089210356248762697446949407573529996955224135760342422259061068512044369
#print axioms mod0_full
end Go.Proofs.YtmigakanbeckpaaGreatDoor
namespace Go.Proofs.YtmigakanbeckpaaGreatDoor
set_option maxRecDepth 100000
def q0:Nat:=115792089210356248762697446949407573530086143415290314195533631308867097853950
abbrev m0:Nat:=q0+1
theorem m0_full:Full m0:=mod0_full
theorem fld0:Fld m0 fiv:=by
 obtain ⟨h1,h2,h3⟩:=fld_of m0_full (by unfold m0 q0;omega)
 exact ⟨h1,h2,h3⟩
def wbN:Nat:=41058363725152142129326129780047268409114441015993725554835256314039467401291
def wb:Fin m0:=kc (wbN:Int)
/-! No X has the Y 0: the powers of such an X, as c0 + c1 X + c2 X X. -/
structure T3:Type where
 a:Nat
 b:Nat
 c:Nat
def T3.mk' (a b c:Nat):T3:=frcN a fun a=>frcN b fun b=>frcN c fun c=>⟨a,b,c⟩
theorem T3.mk'_eq (a b c:Nat):T3.mk' a b c=⟨a,b,c⟩:=by simp only [T3.mk',frcN_eq]
def mul3 (p n:Nat) (s t:T3):T3:=T3.mk' ((s.a*t.a+n*(s.b*t.c+s.c*t.b)) % p) ((s.a*t.b+s.b*t.a+3*(s.b*t.c+s.c*t.b)+n*(s.c*t.c)) % p) ((s.a*t.c+s.b*t.b+s.c*t.a+3*(s.c*t.c)) % p)
def pow3 (p n:Nat):Nat→T3→Nat→T3
 | 0,_,_=>⟨1,0,0⟩
 | k+1,t,e=>if e % 2=1 then mul3 p n t (pow3 p n k (mul3 p n t t) (e / 2)) else pow3 p n k (mul3 p n t t) (e / 2)
def ev3 {p:Nat} [NeZero p] (x:Fin p) (t:T3):Fin p:=kc (t.a:Int)+kc (t.b:Int)*x+kc (t.c:Int)*(x*x)
theorem kc_mod {p:Nat} [NeZero p] (n:Nat):(kc ((n % p:Nat):Int):Fin p)=kc (n:Int):=kc_eq (by rw [Int.natCast_emod,Int.emod_emod_of_dvd _ (Int.dvd_refl _)])
theorem ev3_mul {p:Nat} [NeZero p] {n:Nat} {x b:Fin p} (hn:kc (n:Int)=- b) (hx:x*x*x-3*x+b=0) (s t:T3):ev3 x (mul3 p n s t)=ev3 x s*ev3 x t:=by
 have h3:(kc ((3:Nat):Int):Fin p)=3:=kc_ofNat 3
 simp only [mul3,T3.mk'_eq,ev3,kc_mod,Int.natCast_add,Int.natCast_mul,kc_add,kc_mul,hn,h3]
 generalize (kc (s.a:Int):Fin p)=s0
 generalize (kc (s.b:Int):Fin p)=s1
 generalize (kc (s.c:Int):Fin p)=s2
 generalize (kc (t.a:Int):Fin p)=t0
 generalize (kc (t.b:Int):Fin p)=t1
 generalize (kc (t.c:Int):Fin p)=t2
 clear hn h3
 have e:(s0+s1*x+s2*(x*x))*(t0+t1*x+t2*(x*x))=(s0*t0+- b*(s1*t2+s2*t1))+(s0*t1+s1*t0+3*(s1*t2+s2*t1)+- b*(s2*t2))*x+(s0*t2+s1*t1+s2*t0+3*(s2*t2))*(x*x)+(s1*t2+s2*t1+s2*t2*x)*(x*x*x-3*x+b):=by clear hx;grobner
 rw [e,hx]
 clear e hx
 grobner
theorem ev3_pow {p:Nat} [NeZero p] {n:Nat} {x b:Fin p} (hn:kc (n:Int)=- b) (hx:x*x*x-3*x+b=0):∀ (k:Nat) (t:T3) (e:Nat),e<2 ^ k→ev3 x (pow3 p n k t e)=ev3 x t ^ e
 | 0,t,e,h=>by
  have:e=0:=by simpa using h
  subst this
  have h1:(kc ((1:Nat):Int):Fin p)=1:=kc_ofNat 1
  have h0:(kc ((0:Nat):Int):Fin p)=0:=kc_ofNat 0
  simp only [pow3,ev3,h1,h0]
  clear h1 h0 hn hx
  grobner
 | k+1,t,e,h=>by
  have ih:=ev3_pow hn hx k (mul3 p n t t) (e / 2) (by rw [Nat.pow_succ] at h;omega)
  rw [ev3_mul hn hx] at ih
  have e1:∀ (v:Fin p) (m:Nat),(v*v) ^ m=v ^ (2*m):=by
   intro v m
   induction m with
   | zero=>clear hn hx ih;grobner
   | succ m i2 =>
    have a1:(v*v) ^ (m+1)=(v*v) ^ m*(v*v):=by clear hn hx ih i2;grobner
    have a2:v ^ (2*(m+1))=v ^ (2*m)*(v*v):=by clear hn hx ih i2 a1;grobner
    rw [a1,a2,i2]
  rw [e1] at ih
  unfold pow3
  split
  ·rw [ev3_mul hn hx,ih]
   have a1:∀ (v:Fin p) (m:Nat),v*v ^ m=v ^ (m+1):=by intro v m;clear hn hx ih e1;grobner
   rw [a1]
   congr 1
   omega
  ·rw [ih]
   congr 1
   omega
theorem ev3_one {p:Nat} [NeZero p] (x:Fin p):ev3 x ⟨1,0,0⟩=1:=by
 have h1:(kc ((1:Nat):Int):Fin p)=1:=kc_ofNat 1
 have h0:(kc ((0:Nat):Int):Fin p)=0:=kc_ofNat 0
 simp only [ev3,h1,h0]
 clear h1 h0
 grobner
theorem mul_nil {p:Nat} [NeZero p] (x:Fin p):x*0=0:=by grobner
def gN:T3:=pow3 m0 (m0-wbN) 256 ⟨0,1,0⟩ m0
def vN:T3:=⟨76626890310466861426869089647039036757962535851890885406097439786770458211455,74462945259064871768191128030512052509059297803194871526163573358218695456204,34768139465301476436978405170953382516735956999154666452188405812258086013549⟩
def T3.less (t:T3):T3:=T3.mk' t.a (t.b+m0-1) t.c
def T3.isOne (t:T3):Bool:=t.a == 1 && t.b == 0 && t.c == 0
theorem bez_ok:(mul3 m0 (m0-wbN) vN gN.less).isOne=true:=by decide +kernel
theorem root0 (x:Fin m0):x*x*x-3*x+wb≠0:=by
 intro hx
 have hn:(kc ((m0-wbN:Nat):Int):Fin m0)=- wb:=by
  have e:((m0-wbN:Nat):Int)=(m0:Int)-(wbN:Int):=by unfold m0 q0 wbN;omega
  have e2:(kc (m0:Int):Fin m0)=0:=kc_nil.2 (Int.emod_self)
  rw [e,kc_sub,e2]
  show 0-wb=- wb
  clear hx e e2
  grobner
 have e1:=ev3_pow hn hx 256 ⟨0,1,0⟩ m0 (by unfold m0 q0;decide)
 have ex:ev3 x ⟨0,1,0⟩=x:=by
  have h1:(kc ((1:Nat):Int):Fin m0)=1:=kc_ofNat 1
  have h0:(kc ((0:Nat):Int):Fin m0)=0:=kc_ofNat 0
  simp only [ev3,h1,h0]
  clear h1 h0 hn hx e1
  grobner
 have e2:x ^ m0=x:=by
  by_cases h0:x=0
  ·subst h0
   have:∀ n:Nat,(0:Fin m0) ^ (n+1)=0:=by intro n;clear hn hx e1 ex;grobner
   have:=this (m0-1)
   rw [show m0-1+1=m0 by unfold m0 q0;omega] at this
   exact this
  ·have f:=fermat_fin m0_full h0
   have a1:∀ m:Nat,x*x ^ m=x ^ (m+1):=by intro m;clear hn hx e1 ex f;grobner
   have a2:=a1 (m0-1)
   rw [f,show m0-1+1=m0 by unfold m0 q0;omega] at a2
   rw [← a2]
   clear hn hx e1 ex f a1 a2
   grobner
 rw [ex,e2] at e1
 have e3:ev3 x gN.less=0:=by
  have a1:ev3 x gN.less=ev3 x gN-x:=by
   have b1:((gN.b+m0-1:Nat):Int)=(gN.b:Int)+(m0:Int)-1:=by unfold m0 q0;omega
   have b2:(kc (m0:Int):Fin m0)=0:=kc_nil.2 (Int.emod_self)
   simp only [T3.less,T3.mk'_eq,ev3,b1,kc_sub,kc_add,b2,kc_one]
   clear hn hx e1 ex e2 b1 b2
   grobner
  rw [a1]
  have a2:ev3 x gN=x:=e1
  rw [a2]
  clear hn hx e1 ex e2 a1 a2
  grobner
 have e4:=ev3_mul hn hx vN gN.less
 have e5:=bez_ok
 generalize mul3 m0 (m0-wbN) vN gN.less=m at e4 e5
 obtain ⟨m0,m1,m2⟩:=m
 simp only [T3.isOne,Bool.and_eq_true,beq_iff_eq] at e5
 obtain ⟨⟨r0,r1⟩,r2⟩:=e5
 subst r0 r1 r2
 rw [e3] at e4
 rw [ev3_one,mul_nil] at e4
 exact fld0.one e4
theorem wk0:Wk m0 fiv wb:=⟨fld0,root0⟩
def wplus:Wp m0→Wp m0→Wp m0:=Wp.add fiv wb
theorem wgr:Gr (Wp.on wb) wplus Wp.o where
 mem:=fun ha hb=>Wp.add_on wk0 ha hb
 zero:=trivial
 comm:=Wp.add_comm fiv wb
 ass:=fun ha hb hc=>Wp.add_assoc wk0 ha hb hc
 add_o:=fun ha=>Wp.add_o wk0 ha
/-! n times the base point, reckoned by the kernel. -/
def P3.frc {β:Type} (P:P3 Nat) (k:P3 Nat→β):β:=frcN P.x fun x=>frcN P.y fun y=>frcN P.z fun z=>k ⟨x,y,z⟩
theorem P3.frc_eq {β:Type} (P:P3 Nat) (k:P3 Nat→β):P.frc k=k P:=by simp only [P3.frc,frcN_eq]
def mulN (p b:Nat):Nat→P3 Nat→P3 Nat→Nat→P3 Nat
 | 0,_,acc,_=>acc
 | k+1,t,acc,e=>(wf (natOp p) b t t).frc fun t2=>if e % 2=1 then (wf (natOp p) b acc t).frc fun acc=>mulN p b k t2 acc (e / 2) else mulN p b k t2 acc (e / 2)
def StW (a:Wp m0) (N:P3 Nat):Prop:=∃ P:P3 (Fin m0),On wb P∧nm fiv P=a∧Rp3 Rn P N
theorem stw_add {a c:Wp m0} {N M:P3 Nat} (h1:StW a N) (h2:StW c M):StW (wplus a c) (wf (natOp m0) (wb.val) N M):=by
 obtain ⟨P,p1,rfl,p3⟩:=h1
 obtain ⟨Q,q1,rfl,q3⟩:=h2
 exact ⟨wa wb P Q,on_wa wk0 p1 q1,nm_wa wk0 p1 q1,wf_par (par_nat m0) (b:=wb) (b':=wb.val) rfl p3 q3⟩
theorem stw_mul:∀ (k:Nat) {a c:Wp m0} {N M:P3 Nat} (e:Nat),a.on wb→c.on wb→e<2 ^ k→StW a N→StW c M→StW (wplus c (mt wplus Wp.o a e)) (mulN m0 wb.val k N M e)
 | 0,a,c,N,M,e,ha,hc,he,hN,hM=>by
  have:e=0:=by simpa using he
  subst this
  show StW (wplus c Wp.o) M
  rw [wgr.add_o hc]
  exact hM
 | k+1,a,c,N,M,e,ha,hc,he,hN,hM=>by
  have h2:e / 2<2 ^ k:=by rw [Nat.pow_succ] at he;omega
  have hd:=stw_add hN hN
  have od:=wgr.mem ha ha
  have e2:mt wplus Wp.o (wplus a a) (e / 2)=mt wplus Wp.o a (2*(e / 2)):=by
   rw [mt_mul wgr ha]
   congr 1
   show wplus a a=wplus (wplus Wp.o a) a
   rw [wgr.comm Wp.o a,wgr.add_o ha]
  unfold mulN
  simp only [P3.frc_eq]
  split
  ·have ih:=stw_mul k (e / 2) od (wgr.mem hc ha) h2 hd (stw_add hM hN)
   rw [e2,wgr.ass hc ha (mt_on wgr ha _),wgr.comm a] at ih
   have e3:wplus (mt wplus Wp.o a (2*(e / 2))) a=mt wplus Wp.o a e:=by
    show mt wplus Wp.o a (2*(e / 2)+1)=_
    congr 1
    omega
   rw [e3] at ih
   exact ih
  ·have ih:=stw_mul k (e / 2) od hc h2 hd hM
   rw [e2] at ih
   rw [show 2*(e / 2)=e by omega] at ih
   exact ih
def gxN:Nat:=48439561293906451759052585252797914202762949526041747995844080717082404635286
def gyN:Nat:=36134250956749795798585127919587881956611106672985015071877198253568414405109
def wG:Wp m0:=Wp.pt (kc (gxN:Int)) (kc (gyN:Int))
theorem wG_on:wG.on wb:=by
 show kc (gyN:Int)*kc (gyN:Int)=kc (gxN:Int)*kc (gxN:Int)*kc (gxN:Int)-3*kc (gxN:Int)+wb
 have h3:(kc ((3:Nat):Int):Fin m0)=3:=kc_ofNat 3
 rw [← h3,wb,← kc_mul,← kc_mul,← kc_mul,← kc_mul,← kc_sub,← kc_add]
 exact kc_eq (by decide +kernel)
theorem st_o:StW Wp.o ⟨0,1,0⟩:=⟨Wp.lift (p:=m0) Wp.o,on_lift wk0 trivial,nm_lift fld0 _,⟨rfl,by
 show (1:Fin m0).val=1
 rw [← kc_one]
 have:=kc_val (p:=m0) 1
 rw [Int.emod_eq_of_lt (by omega) (by unfold m0 q0;omega)] at this
 omega,rfl⟩⟩
theorem val_kc {p:Nat} [NeZero p] {n:Nat} (h:n<p):(kc (n:Int):Fin p).val=n:=by
 have:=kc_val (p:=p) n
 rw [Int.emod_eq_of_lt (by omega) (by omega)] at this
 omega
theorem st_G:StW wG ⟨gxN,gyN,1⟩:=⟨wG.lift,on_lift wk0 wG_on,nm_lift fld0 _,⟨val_kc (by decide +kernel),val_kc (by decide +kernel),by
 show (1:Fin m0).val=1
 rw [← kc_one]
 exact val_kc (n:=1) (by decide +kernel)⟩⟩
theorem order_ok:((mulN m0 wbN 256 ⟨gxN,gyN,1⟩ ⟨0,1,0⟩ mod1).z == 0)=true:=by decide +kernel
theorem wG_order:mt wplus Wp.o wG mod1=Wp.o:=by
 have hs:=stw_mul 256 mod1 wG_on (c:=Wp.o) trivial (by unfold mod1;decide) st_G st_o
 have hb:wb.val=wbN:=val_kc (by decide +kernel)
 rw [hb] at hs
 have hz:=order_ok
 generalize mulN m0 wbN 256 ⟨gxN,gyN,1⟩ ⟨0,1,0⟩ mod1=N at hs hz
 obtain ⟨P,p1,p2,p3⟩:=hs
 have z0:P.z=0:=Fin.ext (by
  have:=p3.z
  have hz':N.z=0:=by simpa using hz
  show P.z.val=0
  rw [← hz']
  exact this)
 rw [wgr.comm,wgr.add_o (mt_on wgr wG_on _)] at p2
 rw [← p2,nm,if_pos z0]
end Go.Proofs.YtmigakanbeckpaaGreatDoor
namespace Go.Proofs.YtmigakanbeckpaaGreatDoor
set_option maxRecDepth 100000
def md (k:Int):Int:=if k=0 then 115792089210356248762697446949407573530086143415290314195533631308867097853951 else if k=1 then 115792089210356248762697446949407573529996955224135760342422259061068512044369 else if k=2 then 57896044618658097711785492504343953926634992332820282019728792003956564819949 else if k=3 then 7237005577332262213973186563042994240857116359379907606001950938285454250989 else 0
theorem md_num (k:Int):Num (md k):=by
 unfold md
 (repeat' split) <;> exact ⟨by omega,by unfold M;omega⟩
theorem mod_low {s m:Int} (h0:0≤s) (h:s<m):s % m=s:=Int.emod_eq_of_lt h0 h
theorem mod_once {s m:Int} (h0:m≤s) (h:s<m+m):s % m=s-m:=by
 have e:s % m=(s-m) % m:=by rw [Int.sub_emod_right]
 rw [e];exact Int.emod_eq_of_lt (by omega) (by omega)
theorem md_0_0:L 0 (md 0)=18446744073709551615:=by decide
theorem md_0_1:L 1 (md 0)=4294967295:=by decide
theorem md_0_2:L 2 (md 0)=0:=by decide
theorem md_0_3:L 3 (md 0)=18446744069414584321:=by decide
theorem md_1_0:L 0 (md 1)=17562291160714782033:=by decide
theorem md_1_1:L 1 (md 1)=13611842547513532036:=by decide
theorem md_1_2:L 2 (md 1)=18446744073709551615:=by decide
theorem md_1_3:L 3 (md 1)=18446744069414584320:=by decide
theorem md_2_0:L 0 (md 2)=18446744073709551597:=by decide
theorem md_2_1:L 1 (md 2)=18446744073709551615:=by decide
theorem md_2_2:L 2 (md 2)=18446744073709551615:=by decide
theorem md_2_3:L 3 (md 2)=9223372036854775807:=by decide
theorem md_3_0:L 0 (md 3)=6346243789798364141:=by decide
theorem md_3_1:L 1 (md 3)=1503914060200516822:=by decide
theorem md_3_2:L 2 (md 3)=0:=by decide
theorem md_3_3:L 3 (md 3)=1152921504606846976:=by decide
theorem md_none {k:Int} (h:k<0∨3<k):md k=0:=by unfold md;(repeat' split) <;> omega
theorem L_zero (i:Nat):L i 0=0:=by simp [L]
theorem md_cases {k:Int} (h:0≤k∧k≤3):k=0∨k=1∨k=2∨k=3:=by omega
theorem md_pos {k:Int} (h:0≤k∧k≤3):0<md k:=by
 rcases md_cases h with rfl | rfl | rfl | rfl <;> decide
theorem md_odd {k:Int} (h:0≤k∧k≤3):(L 0 (md k) == 0)=false:=by
 rcases md_cases h with rfl | rfl | rfl | rfl <;> decide
end Go.Proofs.YtmigakanbeckpaaGreatDoor
namespace Go.Proofs.YtmigakanbeckpaaGreatDoor
set_option maxRecDepth 100000
open Go.RowKit
attribute [local go_sem ↓] Go.wp_at_zero Go.wp_at_succ
theorem lead_0 (w:World):Calls Tryz.prog 160 #[.int .u64 18446744069414584321] w fun e w'=>e=.returned (.int .i64 0)∧w'=w:=by
 go_enter Tryz.func160,Tryz.ntmps160
 go_wp2
 go_ret
 exact ⟨by kernel_rfl,rfl⟩
theorem lead_1 (w:World):Calls Tryz.prog 160 #[.int .u64 18446744069414584320] w fun e w'=>e=.returned (.int .i64 0)∧w'=w:=by
 go_enter Tryz.func160,Tryz.ntmps160
 go_wp2
 go_ret
 exact ⟨by kernel_rfl,rfl⟩
theorem lead_2 (w:World):Calls Tryz.prog 160 #[.int .u64 9223372036854775807] w fun e w'=>e=.returned (.int .i64 1)∧w'=w:=by
 go_enter Tryz.func160,Tryz.ntmps160
 go_wp2
 go_ret
 exact ⟨by kernel_rfl,rfl⟩
theorem lead_3 (w:World):Calls Tryz.prog 160 #[.int .u64 1152921504606846976] w fun e w'=>e=.returned (.int .i64 3)∧w'=w:=by
 go_enter Tryz.func160,Tryz.ntmps160
 go_wp2
 go_ret
 exact ⟨by kernel_rfl,rfl⟩
theorem or_apart (x d:Int) (s:Nat) (hx:0≤x) (hd:0≤d) (hd2:d<2 ^ s) (h:x*2 ^ s+d<18446744073709551616):bits .or .u64 (x*2 ^ s) d=x*2 ^ s+d:=by
 obtain ⟨x,rfl⟩:=Int.eq_ofNat_of_zero_le hx
 obtain ⟨d,rfl⟩:=Int.eq_ofNat_of_zero_le hd
 have hd3:d<2 ^ s:=by exact_mod_cast hd2
 have e:((x:Int)*2 ^ s)=((x*2 ^ s:Nat):Int):=by simp
 rw [e] at h ⊢
 have h3:x*2 ^ s+d<18446744073709551616:=by omega
 rw [u64_or_nat _ _ (by omega) (by omega),Nat.mul_comm,← Nat.two_pow_add_eq_or_of_lt hd3]
 simp
theorem or_nothing (x:Int) (hx:0≤x) (h:x<18446744073709551616):bits .or .u64 x 0=x:=by
 obtain ⟨x,rfl⟩:=Int.eq_ofNat_of_zero_le hx
 have:=u64_or_nat x 0 (by omega) (by omega)
 rwa [Nat.or_zero] at this
theorem tdiv_pos {u y:Int} (hu:0≤u):u.tdiv y=u / y:=Int.tdiv_eq_ediv_of_nonneg hu
end Go.Proofs.YtmigakanbeckpaaGreatDoor
