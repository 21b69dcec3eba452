/- What limb.Mul answers, for all numbers: the eight words of the product. -/
import Derived.Test.YtjaahnlpnkcimaaDoorAB10
import Derived.Test.YtjaahnlpnkcimaaDoorAB14
import Derived.LoopN
set_option maxRecDepth 100000
set_option maxHeartbeats 8000000
namespace Go.Proofs.YtjaahnlpnkcimaaDoor
open Go.RowKit
structure Word (x:Int):Prop where
 lo:0≤x
 hi:x<18446744073709551616
def m_z:List Value:=[Value.int .u64 0]++[Value.int .u64 0]++[Value.int .u64 0]++[Value.int .u64 0]++[Value.int .u64 0]++[Value.int .u64 0]++[Value.int .u64 0]++[Value.int .u64 0]
def m_r (a b c d:Int):List Value:=[Value.int .u64 a]++[Value.int .u64 b]++[Value.int .u64 c]++[Value.int .u64 d]
theorem Word.hiW {x y c d:Int} (hx:Word x) (hy:Word y) (hc:Word c) (hd:Word d):Word (hiW x y c d) :=
 ⟨hiW_lo _ _ _ _ hx.lo hy.lo hc.lo hd.lo,hiW_hi _ _ _ _ hx.lo hx.hi hy.lo hy.hi hc.hi hd.hi⟩
theorem Word.loW (x y c d:Int):Word (loW x y c d):=⟨loW_lo _ _ _ _,loW_hi _ _ _ _⟩
theorem Word.zero:Word 0:=⟨by omega,by omega⟩
theorem mulAdd_told {x y c d:Int} (hx:Word x) (hy:Word y) (hc:Word c) (hd:Word d) (w:World) :
  Calls Tryd.prog 86 #[.int .u64 x,.int .u64 y,.int .u64 c,.int .u64 d] w fun e w'=>e=.returned (.tuple #[.int .u64 (hiW x y c d),.int .u64 (loW x y c d)])∧w'=w :=
 mulAdd_any x y c d hx.lo hx.hi hy.lo hy.hi hc.lo hc.hi hd.lo hd.hi w
theorem m_hm:Tryd.prog.follows .mixedOrders=true:=by kernel_rfl
theorem m_i63:(Tryd.prog.info? 63).map (·.size)=some 8:=by kernel_rfl
theorem m_cE86 (vs:List Value):∀ w,(callFunc 86 vs.toArray).run Tryd.prog w=.ok (.enter 86 vs.toArray) w:=callFunc_enter Tryd.func86 (by kernel_rfl) (by kernel_rfl) _
theorem mul_walk (a0 a1 a2 a3 b0 b1 b2 b3:Int) (ha0:Word a0) (ha1:Word a1) (ha2:Word a2) (ha3:Word a3) (hb0:Word b0) (hb1:Word b1) (hb2:Word b2) (hb3:Word b3) (w:World) :
  Calls Tryd.prog 77 #[.agg #[.int .u64 a0,.int .u64 a1,.int .u64 a2,.int .u64 a3],.agg #[.int .u64 b0,.int .u64 b1,.int .u64 b2,.int .u64 b3]] w fun e w' =>
   ∃ p0 p1 p2 p3 p4 p5 p6 p7:Int,Word p0∧Word p1∧Word p2∧Word p3∧Word p4∧Word p5∧Word p6∧Word p7∧(p0+18446744073709551616*p1+340282366920938463463374607431768211456*p2+6277101735386680763835789423207666416102355444464034512896*p3+115792089237316195423570985008687907853269984665640564039457584007913129639936*p4+2135987035920910082395021706169552114602704522356652769947041607822219725780640550022962086936576*p5+39402006196394479212279040100143613805079739270465446667948293404245721771497210611414266254884915640806627990306816*p6+726838724295606890549323807888004534353641360687318060281490199180639288113397923326191050713763565560762521606266177933534601628614656*p7=(a0+18446744073709551616*a1+340282366920938463463374607431768211456*a2+6277101735386680763835789423207666416102355444464034512896*a3)*(b0+18446744073709551616*b1+340282366920938463463374607431768211456*b2+6277101735386680763835789423207666416102355444464034512896*b3))∧e=.returned (.agg #[.int .u64 p0,.int .u64 p1,.int .u64 p2,.int .u64 p3,.int .u64 p4,.int .u64 p5,.int .u64 p6,.int .u64 p7])∧Below w.heap.size w w':=by
 obtain ⟨h00,eh00⟩:∃ v,v=hiW a0 b0 0 0:=⟨_,rfl⟩
 obtain ⟨l00,el00⟩:∃ v,v=loW a0 b0 0 0:=⟨_,rfl⟩
 have Wh00:Word h00:=by rw [eh00];exact Word.hiW ha0 hb0 Word.zero Word.zero
 have Wl00:Word l00:=by rw [el00];exact Word.loW a0 b0 0 0
 have e00:h00*18446744073709551616+l00=a0*b0+0+0:=by rw [eh00,el00];exact hilo a0 b0 0 0
 have C00:Hid (∀ w:World,Calls Tryd.prog 86 [.int .u64 a0,.int .u64 b0,.int .u64 0,.int .u64 0].toArray w fun e w'=>e=.returned (.tuple [.int .u64 h00,.int .u64 l00].toArray)∧Below w.heap.size w w'):=fun w=>Calls.mono (mulAdd_told ha0 hb0 Word.zero Word.zero w) (fun e w' ⟨he,hw⟩=>⟨by rw [he,eh00,el00],by rw [hw];exact Below.refl _ _⟩)
 clear eh00 el00
 obtain ⟨h01,eh01⟩:∃ v,v=hiW a0 b1 0 h00:=⟨_,rfl⟩
 obtain ⟨l01,el01⟩:∃ v,v=loW a0 b1 0 h00:=⟨_,rfl⟩
 have Wh01:Word h01:=by rw [eh01];exact Word.hiW ha0 hb1 Word.zero Wh00
 have Wl01:Word l01:=by rw [el01];exact Word.loW a0 b1 0 h00
 have e01:h01*18446744073709551616+l01=a0*b1+0+h00:=by rw [eh01,el01];exact hilo a0 b1 0 h00
 have C01:Hid (∀ w:World,Calls Tryd.prog 86 [.int .u64 a0,.int .u64 b1,.int .u64 0,.int .u64 h00].toArray w fun e w'=>e=.returned (.tuple [.int .u64 h01,.int .u64 l01].toArray)∧Below w.heap.size w w'):=fun w=>Calls.mono (mulAdd_told ha0 hb1 Word.zero Wh00 w) (fun e w' ⟨he,hw⟩=>⟨by rw [he,eh01,el01],by rw [hw];exact Below.refl _ _⟩)
 clear eh01 el01
 obtain ⟨h02,eh02⟩:∃ v,v=hiW a0 b2 0 h01:=⟨_,rfl⟩
 obtain ⟨l02,el02⟩:∃ v,v=loW a0 b2 0 h01:=⟨_,rfl⟩
 have Wh02:Word h02:=by rw [eh02];exact Word.hiW ha0 hb2 Word.zero Wh01
 have Wl02:Word l02:=by rw [el02];exact Word.loW a0 b2 0 h01
 have e02:h02*18446744073709551616+l02=a0*b2+0+h01:=by rw [eh02,el02];exact hilo a0 b2 0 h01
 have C02:Hid (∀ w:World,Calls Tryd.prog 86 [.int .u64 a0,.int .u64 b2,.int .u64 0,.int .u64 h01].toArray w fun e w'=>e=.returned (.tuple [.int .u64 h02,.int .u64 l02].toArray)∧Below w.heap.size w w'):=fun w=>Calls.mono (mulAdd_told ha0 hb2 Word.zero Wh01 w) (fun e w' ⟨he,hw⟩=>⟨by rw [he,eh02,el02],by rw [hw];exact Below.refl _ _⟩)
 clear eh02 el02
 obtain ⟨h03,eh03⟩:∃ v,v=hiW a0 b3 0 h02:=⟨_,rfl⟩
 obtain ⟨l03,el03⟩:∃ v,v=loW a0 b3 0 h02:=⟨_,rfl⟩
 have Wh03:Word h03:=by rw [eh03];exact Word.hiW ha0 hb3 Word.zero Wh02
 have Wl03:Word l03:=by rw [el03];exact Word.loW a0 b3 0 h02
 have e03:h03*18446744073709551616+l03=a0*b3+0+h02:=by rw [eh03,el03];exact hilo a0 b3 0 h02
 have C03:Hid (∀ w:World,Calls Tryd.prog 86 [.int .u64 a0,.int .u64 b3,.int .u64 0,.int .u64 h02].toArray w fun e w'=>e=.returned (.tuple [.int .u64 h03,.int .u64 l03].toArray)∧Below w.heap.size w w'):=fun w=>Calls.mono (mulAdd_told ha0 hb3 Word.zero Wh02 w) (fun e w' ⟨he,hw⟩=>⟨by rw [he,eh03,el03],by rw [hw];exact Below.refl _ _⟩)
 clear eh03 el03
 obtain ⟨h10,eh10⟩:∃ v,v=hiW a1 b0 l01 0:=⟨_,rfl⟩
 obtain ⟨l10,el10⟩:∃ v,v=loW a1 b0 l01 0:=⟨_,rfl⟩
 have Wh10:Word h10:=by rw [eh10];exact Word.hiW ha1 hb0 Wl01 Word.zero
 have Wl10:Word l10:=by rw [el10];exact Word.loW a1 b0 l01 0
 have e10:h10*18446744073709551616+l10=a1*b0+l01+0:=by rw [eh10,el10];exact hilo a1 b0 l01 0
 have C10:Hid (∀ w:World,Calls Tryd.prog 86 [.int .u64 a1,.int .u64 b0,.int .u64 l01,.int .u64 0].toArray w fun e w'=>e=.returned (.tuple [.int .u64 h10,.int .u64 l10].toArray)∧Below w.heap.size w w'):=fun w=>Calls.mono (mulAdd_told ha1 hb0 Wl01 Word.zero w) (fun e w' ⟨he,hw⟩=>⟨by rw [he,eh10,el10],by rw [hw];exact Below.refl _ _⟩)
 clear eh10 el10
 obtain ⟨h11,eh11⟩:∃ v,v=hiW a1 b1 l02 h10:=⟨_,rfl⟩
 obtain ⟨l11,el11⟩:∃ v,v=loW a1 b1 l02 h10:=⟨_,rfl⟩
 have Wh11:Word h11:=by rw [eh11];exact Word.hiW ha1 hb1 Wl02 Wh10
 have Wl11:Word l11:=by rw [el11];exact Word.loW a1 b1 l02 h10
 have e11:h11*18446744073709551616+l11=a1*b1+l02+h10:=by rw [eh11,el11];exact hilo a1 b1 l02 h10
 have C11:Hid (∀ w:World,Calls Tryd.prog 86 [.int .u64 a1,.int .u64 b1,.int .u64 l02,.int .u64 h10].toArray w fun e w'=>e=.returned (.tuple [.int .u64 h11,.int .u64 l11].toArray)∧Below w.heap.size w w'):=fun w=>Calls.mono (mulAdd_told ha1 hb1 Wl02 Wh10 w) (fun e w' ⟨he,hw⟩=>⟨by rw [he,eh11,el11],by rw [hw];exact Below.refl _ _⟩)
 clear eh11 el11
 obtain ⟨h12,eh12⟩:∃ v,v=hiW a1 b2 l03 h11:=⟨_,rfl⟩
 obtain ⟨l12,el12⟩:∃ v,v=loW a1 b2 l03 h11:=⟨_,rfl⟩
 have Wh12:Word h12:=by rw [eh12];exact Word.hiW ha1 hb2 Wl03 Wh11
 have Wl12:Word l12:=by rw [el12];exact Word.loW a1 b2 l03 h11
 have e12:h12*18446744073709551616+l12=a1*b2+l03+h11:=by rw [eh12,el12];exact hilo a1 b2 l03 h11
 have C12:Hid (∀ w:World,Calls Tryd.prog 86 [.int .u64 a1,.int .u64 b2,.int .u64 l03,.int .u64 h11].toArray w fun e w'=>e=.returned (.tuple [.int .u64 h12,.int .u64 l12].toArray)∧Below w.heap.size w w'):=fun w=>Calls.mono (mulAdd_told ha1 hb2 Wl03 Wh11 w) (fun e w' ⟨he,hw⟩=>⟨by rw [he,eh12,el12],by rw [hw];exact Below.refl _ _⟩)
 clear eh12 el12
 obtain ⟨h13,eh13⟩:∃ v,v=hiW a1 b3 h03 h12:=⟨_,rfl⟩
 obtain ⟨l13,el13⟩:∃ v,v=loW a1 b3 h03 h12:=⟨_,rfl⟩
 have Wh13:Word h13:=by rw [eh13];exact Word.hiW ha1 hb3 Wh03 Wh12
 have Wl13:Word l13:=by rw [el13];exact Word.loW a1 b3 h03 h12
 have e13:h13*18446744073709551616+l13=a1*b3+h03+h12:=by rw [eh13,el13];exact hilo a1 b3 h03 h12
 have C13:Hid (∀ w:World,Calls Tryd.prog 86 [.int .u64 a1,.int .u64 b3,.int .u64 h03,.int .u64 h12].toArray w fun e w'=>e=.returned (.tuple [.int .u64 h13,.int .u64 l13].toArray)∧Below w.heap.size w w'):=fun w=>Calls.mono (mulAdd_told ha1 hb3 Wh03 Wh12 w) (fun e w' ⟨he,hw⟩=>⟨by rw [he,eh13,el13],by rw [hw];exact Below.refl _ _⟩)
 clear eh13 el13
 obtain ⟨h20,eh20⟩:∃ v,v=hiW a2 b0 l11 0:=⟨_,rfl⟩
 obtain ⟨l20,el20⟩:∃ v,v=loW a2 b0 l11 0:=⟨_,rfl⟩
 have Wh20:Word h20:=by rw [eh20];exact Word.hiW ha2 hb0 Wl11 Word.zero
 have Wl20:Word l20:=by rw [el20];exact Word.loW a2 b0 l11 0
 have e20:h20*18446744073709551616+l20=a2*b0+l11+0:=by rw [eh20,el20];exact hilo a2 b0 l11 0
 have C20:Hid (∀ w:World,Calls Tryd.prog 86 [.int .u64 a2,.int .u64 b0,.int .u64 l11,.int .u64 0].toArray w fun e w'=>e=.returned (.tuple [.int .u64 h20,.int .u64 l20].toArray)∧Below w.heap.size w w'):=fun w=>Calls.mono (mulAdd_told ha2 hb0 Wl11 Word.zero w) (fun e w' ⟨he,hw⟩=>⟨by rw [he,eh20,el20],by rw [hw];exact Below.refl _ _⟩)
 clear eh20 el20
 obtain ⟨h21,eh21⟩:∃ v,v=hiW a2 b1 l12 h20:=⟨_,rfl⟩
 obtain ⟨l21,el21⟩:∃ v,v=loW a2 b1 l12 h20:=⟨_,rfl⟩
 have Wh21:Word h21:=by rw [eh21];exact Word.hiW ha2 hb1 Wl12 Wh20
 have Wl21:Word l21:=by rw [el21];exact Word.loW a2 b1 l12 h20
 have e21:h21*18446744073709551616+l21=a2*b1+l12+h20:=by rw [eh21,el21];exact hilo a2 b1 l12 h20
 have C21:Hid (∀ w:World,Calls Tryd.prog 86 [.int .u64 a2,.int .u64 b1,.int .u64 l12,.int .u64 h20].toArray w fun e w'=>e=.returned (.tuple [.int .u64 h21,.int .u64 l21].toArray)∧Below w.heap.size w w'):=fun w=>Calls.mono (mulAdd_told ha2 hb1 Wl12 Wh20 w) (fun e w' ⟨he,hw⟩=>⟨by rw [he,eh21,el21],by rw [hw];exact Below.refl _ _⟩)
 clear eh21 el21
 obtain ⟨h22,eh22⟩:∃ v,v=hiW a2 b2 l13 h21:=⟨_,rfl⟩
 obtain ⟨l22,el22⟩:∃ v,v=loW a2 b2 l13 h21:=⟨_,rfl⟩
 have Wh22:Word h22:=by rw [eh22];exact Word.hiW ha2 hb2 Wl13 Wh21
 have Wl22:Word l22:=by rw [el22];exact Word.loW a2 b2 l13 h21
 have e22:h22*18446744073709551616+l22=a2*b2+l13+h21:=by rw [eh22,el22];exact hilo a2 b2 l13 h21
 have C22:Hid (∀ w:World,Calls Tryd.prog 86 [.int .u64 a2,.int .u64 b2,.int .u64 l13,.int .u64 h21].toArray w fun e w'=>e=.returned (.tuple [.int .u64 h22,.int .u64 l22].toArray)∧Below w.heap.size w w'):=fun w=>Calls.mono (mulAdd_told ha2 hb2 Wl13 Wh21 w) (fun e w' ⟨he,hw⟩=>⟨by rw [he,eh22,el22],by rw [hw];exact Below.refl _ _⟩)
 clear eh22 el22
 obtain ⟨h23,eh23⟩:∃ v,v=hiW a2 b3 h13 h22:=⟨_,rfl⟩
 obtain ⟨l23,el23⟩:∃ v,v=loW a2 b3 h13 h22:=⟨_,rfl⟩
 have Wh23:Word h23:=by rw [eh23];exact Word.hiW ha2 hb3 Wh13 Wh22
 have Wl23:Word l23:=by rw [el23];exact Word.loW a2 b3 h13 h22
 have e23:h23*18446744073709551616+l23=a2*b3+h13+h22:=by rw [eh23,el23];exact hilo a2 b3 h13 h22
 have C23:Hid (∀ w:World,Calls Tryd.prog 86 [.int .u64 a2,.int .u64 b3,.int .u64 h13,.int .u64 h22].toArray w fun e w'=>e=.returned (.tuple [.int .u64 h23,.int .u64 l23].toArray)∧Below w.heap.size w w'):=fun w=>Calls.mono (mulAdd_told ha2 hb3 Wh13 Wh22 w) (fun e w' ⟨he,hw⟩=>⟨by rw [he,eh23,el23],by rw [hw];exact Below.refl _ _⟩)
 clear eh23 el23
 obtain ⟨h30,eh30⟩:∃ v,v=hiW a3 b0 l21 0:=⟨_,rfl⟩
 obtain ⟨l30,el30⟩:∃ v,v=loW a3 b0 l21 0:=⟨_,rfl⟩
 have Wh30:Word h30:=by rw [eh30];exact Word.hiW ha3 hb0 Wl21 Word.zero
 have Wl30:Word l30:=by rw [el30];exact Word.loW a3 b0 l21 0
 have e30:h30*18446744073709551616+l30=a3*b0+l21+0:=by rw [eh30,el30];exact hilo a3 b0 l21 0
 have C30:Hid (∀ w:World,Calls Tryd.prog 86 [.int .u64 a3,.int .u64 b0,.int .u64 l21,.int .u64 0].toArray w fun e w'=>e=.returned (.tuple [.int .u64 h30,.int .u64 l30].toArray)∧Below w.heap.size w w'):=fun w=>Calls.mono (mulAdd_told ha3 hb0 Wl21 Word.zero w) (fun e w' ⟨he,hw⟩=>⟨by rw [he,eh30,el30],by rw [hw];exact Below.refl _ _⟩)
 clear eh30 el30
 obtain ⟨h31,eh31⟩:∃ v,v=hiW a3 b1 l22 h30:=⟨_,rfl⟩
 obtain ⟨l31,el31⟩:∃ v,v=loW a3 b1 l22 h30:=⟨_,rfl⟩
 have Wh31:Word h31:=by rw [eh31];exact Word.hiW ha3 hb1 Wl22 Wh30
 have Wl31:Word l31:=by rw [el31];exact Word.loW a3 b1 l22 h30
 have e31:h31*18446744073709551616+l31=a3*b1+l22+h30:=by rw [eh31,el31];exact hilo a3 b1 l22 h30
 have C31:Hid (∀ w:World,Calls Tryd.prog 86 [.int .u64 a3,.int .u64 b1,.int .u64 l22,.int .u64 h30].toArray w fun e w'=>e=.returned (.tuple [.int .u64 h31,.int .u64 l31].toArray)∧Below w.heap.size w w'):=fun w=>Calls.mono (mulAdd_told ha3 hb1 Wl22 Wh30 w) (fun e w' ⟨he,hw⟩=>⟨by rw [he,eh31,el31],by rw [hw];exact Below.refl _ _⟩)
 clear eh31 el31
 obtain ⟨h32,eh32⟩:∃ v,v=hiW a3 b2 l23 h31:=⟨_,rfl⟩
 obtain ⟨l32,el32⟩:∃ v,v=loW a3 b2 l23 h31:=⟨_,rfl⟩
 have Wh32:Word h32:=by rw [eh32];exact Word.hiW ha3 hb2 Wl23 Wh31
 have Wl32:Word l32:=by rw [el32];exact Word.loW a3 b2 l23 h31
 have e32:h32*18446744073709551616+l32=a3*b2+l23+h31:=by rw [eh32,el32];exact hilo a3 b2 l23 h31
 have C32:Hid (∀ w:World,Calls Tryd.prog 86 [.int .u64 a3,.int .u64 b2,.int .u64 l23,.int .u64 h31].toArray w fun e w'=>e=.returned (.tuple [.int .u64 h32,.int .u64 l32].toArray)∧Below w.heap.size w w'):=fun w=>Calls.mono (mulAdd_told ha3 hb2 Wl23 Wh31 w) (fun e w' ⟨he,hw⟩=>⟨by rw [he,eh32,el32],by rw [hw];exact Below.refl _ _⟩)
 clear eh32 el32
 obtain ⟨h33,eh33⟩:∃ v,v=hiW a3 b3 h23 h32:=⟨_,rfl⟩
 obtain ⟨l33,el33⟩:∃ v,v=loW a3 b3 h23 h32:=⟨_,rfl⟩
 have Wh33:Word h33:=by rw [eh33];exact Word.hiW ha3 hb3 Wh23 Wh32
 have Wl33:Word l33:=by rw [el33];exact Word.loW a3 b3 h23 h32
 have e33:h33*18446744073709551616+l33=a3*b3+h23+h32:=by rw [eh33,el33];exact hilo a3 b3 h23 h32
 have C33:Hid (∀ w:World,Calls Tryd.prog 86 [.int .u64 a3,.int .u64 b3,.int .u64 h23,.int .u64 h32].toArray w fun e w'=>e=.returned (.tuple [.int .u64 h33,.int .u64 l33].toArray)∧Below w.heap.size w w'):=fun w=>Calls.mono (mulAdd_told ha3 hb3 Wh23 Wh32 w) (fun e w' ⟨he,hw⟩=>⟨by rw [he,eh33,el33],by rw [hw];exact Below.refl _ _⟩)
 clear eh33 el33
 refine enter (args:=[.agg (m_r a0 a1 a2 a3).toArray,.agg (m_r b0 b1 b2 b3).toArray]) Tryd.func77 rfl 42 rfl (lk rfl) (fun a h=>?_)
 refine aX h [] [eN 2 _,eN 3 _,eN 4 _] ⟨rfl,rfl,rfl,T0⟩ [(2,.ptr 2 0),(3,.ptr 3 0),(4,.ptr 4 0)] [(2,m_r a0 a1 a2 a3),(3,m_r b0 b1 b2 b3),(4,m_z)] (fun a w h=>?_)
 refine aX h [] [eN 5 _] ⟨rfl,T0⟩ [(2,_),(3,_),(4,_),(5,.ptr 5 0)] [(2,_),(3,_),(4,_),(5,m_z)] (fun a w h=>?_)
 refine wp_seq ?_
 refine aX h [] [eS 9 _] ⟨rfl,T0⟩ [(2,_),(3,_),(4,_),(5,_),(9,.val ((Value.int IntKind.i64 0)))] [(2,_),(3,_),(4,_),(5,_)] (fun a w h=>?_)
 refine wp_block ?_
 refine wp_loop_rounds 5 ?_
 rw [rounds_succ]
 refine aX h [0] [eS 10 (.val (Value.bool true))] ⟨fun L u=>u_bin u (gd0 rfl) _ rfl _ _ _ _ _ rfl rfl rfl (eqg_int _ _ _ _ _ _ _ _) _ (yes_of (fun w=>i_lss _ _ _ _ w) (by decide)),T0⟩ [(2,_),(3,_),(4,_),(5,_),(9,_),(10,.val (Value.bool true))] [(2,_),(3,_),(4,_),(5,_)] (fun a w h=>?_)
 refine wp_seq ?_
 refine go_cond h true rfl (fun ht=>?_) (fun hf=>?_)
 case refine_2=>cases hf
 refine wp_skip ?_
 refine then_norm ?_
 refine wp_seq ?_
 refine wp_block ?_
 refine aX h [] [eS 11 _,eS 6 _] ⟨rfl,rfl,T0⟩ [(2,_),(3,_),(4,_),(5,_),(6,.val ((Value.int IntKind.i64 0))),(9,_)] [(2,_),(3,_),(4,_),(5,_)] (fun a w h=>?_)
 refine aX h [] [eS 7 _] ⟨rfl,T0⟩ [(2,_),(3,_),(4,_),(5,_),(6,_),(7,.val ((Value.int IntKind.u64 0))),(9,_)] [(2,_),(3,_),(4,_),(5,_)] (fun a w h=>?_)
 refine wp_seq ?_
 refine aX h [] [eS 12 _] ⟨rfl,T0⟩ [(2,_),(3,_),(4,_),(5,_),(6,_),(7,_),(9,_),(12,.val ((Value.int IntKind.i64 0)))] [(2,_),(3,_),(4,_),(5,_)] (fun a w h=>?_)
 refine wp_block ?_
 refine wp_loop_rounds 5 ?_
 rw [rounds_succ]
 refine aX h [0] [eS 13 (.val (Value.bool true))] ⟨fun L u=>u_bin u (gd0 rfl) _ rfl _ _ _ _ _ rfl rfl rfl (eqg_int _ _ _ _ _ _ _ _) _ (yes_of (fun w=>i_lss _ _ _ _ w) (by decide)),T0⟩ [(2,_),(3,_),(4,_),(5,_),(6,_),(7,_),(9,_),(12,_),(13,.val (Value.bool true))] [(2,_),(3,_),(4,_),(5,_)] (fun a w h=>?_)
 refine wp_seq ?_
 refine go_cond h true rfl (fun ht=>?_) (fun hf=>?_)
 case refine_2=>cases hf
 refine wp_skip ?_
 refine then_norm ?_
 refine wp_seq ?_
 refine wp_block ?_
 refine aX h [] [eS 14 _,eS 8 _] ⟨rfl,rfl,T0⟩ [(2,_),(3,_),(4,_),(5,_),(6,_),(7,_),(8,.val ((Value.int IntKind.i64 0))),(9,_),(12,_)] [(2,_),(3,_),(4,_),(5,_)] (fun a w h=>?_)
 refine aE h [2,11,15] [eS 16 _,eS 17 _,eS 18 (.val (Value.int .i64 0)),eS 19 _,eS 20 _,eS 21 _,eS 22 _,eS 23 _,eS 24 _,eS 25 _,eS 26 _,eS 27 (.val (Value.int .i64 0)),eS 28 _,eS 29 _,eS 30 _,eS 31 _,eS 15 _,eS 32 _,eS 33 _,eS 7 _,eS 34 _,eM 5 _] ⟨rfl,rfl,fun L u=>u_bin u (gd0 rfl) _ rfl _ _ _ _ _ rfl rfl rfl (eqg_int _ _ _ _ _ _ _ _) _ (fun w=>i_add _ _ _ _ (by decide) (by decide) w),rfl,rfl,rfl,rfl,rfl,rfl,rfl,rfl,fun L u=>u_bin u (gd0 rfl) _ rfl _ _ _ _ _ rfl rfl rfl (eqg_int _ _ _ _ _ _ _ _) _ (fun w=>i_add _ _ _ _ (by decide) (by decide) w),rfl,rfl,rfl,fun L u=>u_call u (gd0 rfl) _ rfl _ _ _ rfl [_,_,_,_] rfl (m_cE86 _) _ (fun w hb=>C00.out w),rfl,rfl,rfl,rfl,rfl,rfl,T0⟩ [(2,_),(3,_),(4,_),(5,_),(6,_),(7,.val (Value.int .u64 h00)),(9,_),(12,_)] [(2,_),(3,_),(4,_),(5,[Value.int .u64 l00]++[Value.int .u64 0]++[Value.int .u64 0]++[Value.int .u64 0]++[Value.int .u64 0]++[Value.int .u64 0]++[Value.int .u64 0]++[Value.int .u64 0])] (fun a w h=>?_)
 refine blk_norm ?_
 refine then_norm ?_
 refine aE h [0] [eS 35 (.val (Value.int .i64 1)),eS 12 _] ⟨fun L u=>u_bin u (gd0 rfl) _ rfl _ _ _ _ _ rfl rfl rfl (eqg_int _ _ _ _ _ _ _ _) _ (fun w=>i_add _ _ _ _ (by decide) (by decide) w),rfl,T0⟩ [(2,_),(3,_),(4,_),(5,_),(6,_),(7,_),(9,_),(12,.val (Value.int .i64 1))] [(2,_),(3,_),(4,_),(5,_)] (fun a w h=>?_)
 refine then_norm ?_
 rw [rounds_succ]
 refine aX h [0] [eS 13 (.val (Value.bool true))] ⟨fun L u=>u_bin u (gd0 rfl) _ rfl _ _ _ _ _ rfl rfl rfl (eqg_int _ _ _ _ _ _ _ _) _ (yes_of (fun w=>i_lss _ _ _ _ w) (by decide)),T0⟩ [(2,_),(3,_),(4,_),(5,_),(6,_),(7,_),(9,_),(12,_),(13,.val (Value.bool true))] [(2,_),(3,_),(4,_),(5,_)] (fun a w h=>?_)
 refine wp_seq ?_
 refine go_cond h true rfl (fun ht=>?_) (fun hf=>?_)
 case refine_2=>cases hf
 refine wp_skip ?_
 refine then_norm ?_
 refine wp_seq ?_
 refine wp_block ?_
 refine aX h [] [eS 14 _,eS 8 _] ⟨rfl,rfl,T0⟩ [(2,_),(3,_),(4,_),(5,_),(6,_),(7,_),(8,.val (Value.int .i64 1)),(9,_),(12,_)] [(2,_),(3,_),(4,_),(5,_)] (fun a w h=>?_)
 refine aE h [2,11,15] [eS 16 _,eS 17 _,eS 18 (.val (Value.int .i64 1)),eS 19 _,eS 20 _,eS 21 _,eS 22 _,eS 23 _,eS 24 _,eS 25 _,eS 26 _,eS 27 (.val (Value.int .i64 1)),eS 28 _,eS 29 _,eS 30 _,eS 31 _,eS 15 _,eS 32 _,eS 33 _,eS 7 _,eS 34 _,eM 5 _] ⟨rfl,rfl,fun L u=>u_bin u (gd0 rfl) _ rfl _ _ _ _ _ rfl rfl rfl (eqg_int _ _ _ _ _ _ _ _) _ (fun w=>i_add _ _ _ _ (by decide) (by decide) w),rfl,rfl,rfl,rfl,rfl,rfl,rfl,rfl,fun L u=>u_bin u (gd0 rfl) _ rfl _ _ _ _ _ rfl rfl rfl (eqg_int _ _ _ _ _ _ _ _) _ (fun w=>i_add _ _ _ _ (by decide) (by decide) w),rfl,rfl,rfl,fun L u=>u_call u (gd0 rfl) _ rfl _ _ _ rfl [_,_,_,_] rfl (m_cE86 _) _ (fun w hb=>C01.out w),rfl,rfl,rfl,rfl,rfl,rfl,T0⟩ [(2,_),(3,_),(4,_),(5,_),(6,_),(7,.val (Value.int .u64 h01)),(9,_),(12,_)] [(2,_),(3,_),(4,_),(5,[Value.int .u64 l00]++[Value.int .u64 l01]++[Value.int .u64 0]++[Value.int .u64 0]++[Value.int .u64 0]++[Value.int .u64 0]++[Value.int .u64 0]++[Value.int .u64 0])] (fun a w h=>?_)
 refine blk_norm ?_
 refine then_norm ?_
 refine aE h [0] [eS 35 (.val (Value.int .i64 2)),eS 12 _] ⟨fun L u=>u_bin u (gd0 rfl) _ rfl _ _ _ _ _ rfl rfl rfl (eqg_int _ _ _ _ _ _ _ _) _ (fun w=>i_add _ _ _ _ (by decide) (by decide) w),rfl,T0⟩ [(2,_),(3,_),(4,_),(5,_),(6,_),(7,_),(9,_),(12,.val (Value.int .i64 2))] [(2,_),(3,_),(4,_),(5,_)] (fun a w h=>?_)
 refine then_norm ?_
 rw [rounds_succ]
 refine aX h [0] [eS 13 (.val (Value.bool true))] ⟨fun L u=>u_bin u (gd0 rfl) _ rfl _ _ _ _ _ rfl rfl rfl (eqg_int _ _ _ _ _ _ _ _) _ (yes_of (fun w=>i_lss _ _ _ _ w) (by decide)),T0⟩ [(2,_),(3,_),(4,_),(5,_),(6,_),(7,_),(9,_),(12,_),(13,.val (Value.bool true))] [(2,_),(3,_),(4,_),(5,_)] (fun a w h=>?_)
 refine wp_seq ?_
 refine go_cond h true rfl (fun ht=>?_) (fun hf=>?_)
 case refine_2=>cases hf
 refine wp_skip ?_
 refine then_norm ?_
 refine wp_seq ?_
 refine wp_block ?_
 refine aX h [] [eS 14 _,eS 8 _] ⟨rfl,rfl,T0⟩ [(2,_),(3,_),(4,_),(5,_),(6,_),(7,_),(8,.val (Value.int .i64 2)),(9,_),(12,_)] [(2,_),(3,_),(4,_),(5,_)] (fun a w h=>?_)
 refine aE h [2,11,15] [eS 16 _,eS 17 _,eS 18 (.val (Value.int .i64 2)),eS 19 _,eS 20 _,eS 21 _,eS 22 _,eS 23 _,eS 24 _,eS 25 _,eS 26 _,eS 27 (.val (Value.int .i64 2)),eS 28 _,eS 29 _,eS 30 _,eS 31 _,eS 15 _,eS 32 _,eS 33 _,eS 7 _,eS 34 _,eM 5 _] ⟨rfl,rfl,fun L u=>u_bin u (gd0 rfl) _ rfl _ _ _ _ _ rfl rfl rfl (eqg_int _ _ _ _ _ _ _ _) _ (fun w=>i_add _ _ _ _ (by decide) (by decide) w),rfl,rfl,rfl,rfl,rfl,rfl,rfl,rfl,fun L u=>u_bin u (gd0 rfl) _ rfl _ _ _ _ _ rfl rfl rfl (eqg_int _ _ _ _ _ _ _ _) _ (fun w=>i_add _ _ _ _ (by decide) (by decide) w),rfl,rfl,rfl,fun L u=>u_call u (gd0 rfl) _ rfl _ _ _ rfl [_,_,_,_] rfl (m_cE86 _) _ (fun w hb=>C02.out w),rfl,rfl,rfl,rfl,rfl,rfl,T0⟩ [(2,_),(3,_),(4,_),(5,_),(6,_),(7,.val (Value.int .u64 h02)),(9,_),(12,_)] [(2,_),(3,_),(4,_),(5,[Value.int .u64 l00]++[Value.int .u64 l01]++[Value.int .u64 l02]++[Value.int .u64 0]++[Value.int .u64 0]++[Value.int .u64 0]++[Value.int .u64 0]++[Value.int .u64 0])] (fun a w h=>?_)
 refine blk_norm ?_
 refine then_norm ?_
 refine aE h [0] [eS 35 (.val (Value.int .i64 3)),eS 12 _] ⟨fun L u=>u_bin u (gd0 rfl) _ rfl _ _ _ _ _ rfl rfl rfl (eqg_int _ _ _ _ _ _ _ _) _ (fun w=>i_add _ _ _ _ (by decide) (by decide) w),rfl,T0⟩ [(2,_),(3,_),(4,_),(5,_),(6,_),(7,_),(9,_),(12,.val (Value.int .i64 3))] [(2,_),(3,_),(4,_),(5,_)] (fun a w h=>?_)
 refine then_norm ?_
 rw [rounds_succ]
 refine aX h [0] [eS 13 (.val (Value.bool true))] ⟨fun L u=>u_bin u (gd0 rfl) _ rfl _ _ _ _ _ rfl rfl rfl (eqg_int _ _ _ _ _ _ _ _) _ (yes_of (fun w=>i_lss _ _ _ _ w) (by decide)),T0⟩ [(2,_),(3,_),(4,_),(5,_),(6,_),(7,_),(9,_),(12,_),(13,.val (Value.bool true))] [(2,_),(3,_),(4,_),(5,_)] (fun a w h=>?_)
 refine wp_seq ?_
 refine go_cond h true rfl (fun ht=>?_) (fun hf=>?_)
 case refine_2=>cases hf
 refine wp_skip ?_
 refine then_norm ?_
 refine wp_seq ?_
 refine wp_block ?_
 refine aX h [] [eS 14 _,eS 8 _] ⟨rfl,rfl,T0⟩ [(2,_),(3,_),(4,_),(5,_),(6,_),(7,_),(8,.val (Value.int .i64 3)),(9,_),(12,_)] [(2,_),(3,_),(4,_),(5,_)] (fun a w h=>?_)
 refine aE h [2,11,15] [eS 16 _,eS 17 _,eS 18 (.val (Value.int .i64 3)),eS 19 _,eS 20 _,eS 21 _,eS 22 _,eS 23 _,eS 24 _,eS 25 _,eS 26 _,eS 27 (.val (Value.int .i64 3)),eS 28 _,eS 29 _,eS 30 _,eS 31 _,eS 15 _,eS 32 _,eS 33 _,eS 7 _,eS 34 _,eM 5 _] ⟨rfl,rfl,fun L u=>u_bin u (gd0 rfl) _ rfl _ _ _ _ _ rfl rfl rfl (eqg_int _ _ _ _ _ _ _ _) _ (fun w=>i_add _ _ _ _ (by decide) (by decide) w),rfl,rfl,rfl,rfl,rfl,rfl,rfl,rfl,fun L u=>u_bin u (gd0 rfl) _ rfl _ _ _ _ _ rfl rfl rfl (eqg_int _ _ _ _ _ _ _ _) _ (fun w=>i_add _ _ _ _ (by decide) (by decide) w),rfl,rfl,rfl,fun L u=>u_call u (gd0 rfl) _ rfl _ _ _ rfl [_,_,_,_] rfl (m_cE86 _) _ (fun w hb=>C03.out w),rfl,rfl,rfl,rfl,rfl,rfl,T0⟩ [(2,_),(3,_),(4,_),(5,_),(6,_),(7,.val (Value.int .u64 h03)),(9,_),(12,_)] [(2,_),(3,_),(4,_),(5,[Value.int .u64 l00]++[Value.int .u64 l01]++[Value.int .u64 l02]++[Value.int .u64 l03]++[Value.int .u64 0]++[Value.int .u64 0]++[Value.int .u64 0]++[Value.int .u64 0])] (fun a w h=>?_)
 refine blk_norm ?_
 refine then_norm ?_
 refine aE h [0] [eS 35 (.val (Value.int .i64 4)),eS 12 _] ⟨fun L u=>u_bin u (gd0 rfl) _ rfl _ _ _ _ _ rfl rfl rfl (eqg_int _ _ _ _ _ _ _ _) _ (fun w=>i_add _ _ _ _ (by decide) (by decide) w),rfl,T0⟩ [(2,_),(3,_),(4,_),(5,_),(6,_),(7,_),(9,_),(12,.val (Value.int .i64 4))] [(2,_),(3,_),(4,_),(5,_)] (fun a w h=>?_)
 refine then_norm ?_
 rw [rounds_succ]
 refine aX h [0] [eS 13 (.val (Value.bool false))] ⟨fun L u=>u_bin u (gd0 rfl) _ rfl _ _ _ _ _ rfl rfl rfl (eqg_int _ _ _ _ _ _ _ _) _ (no_of (fun w=>i_lss _ _ _ _ w) (by decide)),T0⟩ [(2,_),(3,_),(4,_),(5,_),(6,_),(7,_),(9,_),(12,_),(13,.val (Value.bool false))] [(2,_),(3,_),(4,_),(5,_)] (fun a w h=>?_)
 refine wp_seq ?_
 refine go_cond h false rfl (fun ht=>?_) (fun hf=>?_)
 case refine_1=>cases ht
 refine wp_exit ?_
 refine then_exit ?_
 refine then_exit ?_
 refine blk_exit ?_
 refine then_norm ?_
 refine aE h [1] [eS 36 _,eS 37 (.val (Value.int .i64 4)),eS 38 _,eS 39 _,eM 5 _] ⟨rfl,fun L u=>u_bin u (gd0 rfl) _ rfl _ _ _ _ _ rfl rfl rfl (eqg_int _ _ _ _ _ _ _ _) _ (fun w=>i_add _ _ _ _ (by decide) (by decide) w),rfl,rfl,rfl,T0⟩ [(2,_),(3,_),(4,_),(5,_),(9,_)] [(2,_),(3,_),(4,_),(5,[Value.int .u64 l00]++[Value.int .u64 l01]++[Value.int .u64 l02]++[Value.int .u64 l03]++[Value.int .u64 h03]++[Value.int .u64 0]++[Value.int .u64 0]++[Value.int .u64 0])] (fun a w h=>?_)
 refine blk_norm ?_
 refine then_norm ?_
 refine aE h [0] [eS 40 (.val (Value.int .i64 1)),eS 9 _] ⟨fun L u=>u_bin u (gd0 rfl) _ rfl _ _ _ _ _ rfl rfl rfl (eqg_int _ _ _ _ _ _ _ _) _ (fun w=>i_add _ _ _ _ (by decide) (by decide) w),rfl,T0⟩ [(2,_),(3,_),(4,_),(5,_),(9,.val (Value.int .i64 1))] [(2,_),(3,_),(4,_),(5,_)] (fun a w h=>?_)
 refine then_norm ?_
 rw [rounds_succ]
 refine aX h [0] [eS 10 (.val (Value.bool true))] ⟨fun L u=>u_bin u (gd0 rfl) _ rfl _ _ _ _ _ rfl rfl rfl (eqg_int _ _ _ _ _ _ _ _) _ (yes_of (fun w=>i_lss _ _ _ _ w) (by decide)),T0⟩ [(2,_),(3,_),(4,_),(5,_),(9,_),(10,.val (Value.bool true))] [(2,_),(3,_),(4,_),(5,_)] (fun a w h=>?_)
 refine wp_seq ?_
 refine go_cond h true rfl (fun ht=>?_) (fun hf=>?_)
 case refine_2=>cases hf
 refine wp_skip ?_
 refine then_norm ?_
 refine wp_seq ?_
 refine wp_block ?_
 refine aX h [] [eS 11 _,eS 6 _] ⟨rfl,rfl,T0⟩ [(2,_),(3,_),(4,_),(5,_),(6,.val (Value.int .i64 1)),(9,_)] [(2,_),(3,_),(4,_),(5,_)] (fun a w h=>?_)
 refine aX h [] [eS 7 _] ⟨rfl,T0⟩ [(2,_),(3,_),(4,_),(5,_),(6,_),(7,.val ((Value.int IntKind.u64 0))),(9,_)] [(2,_),(3,_),(4,_),(5,_)] (fun a w h=>?_)
 refine wp_seq ?_
 refine aX h [] [eS 12 _] ⟨rfl,T0⟩ [(2,_),(3,_),(4,_),(5,_),(6,_),(7,_),(9,_),(12,.val ((Value.int IntKind.i64 0)))] [(2,_),(3,_),(4,_),(5,_)] (fun a w h=>?_)
 refine wp_block ?_
 refine wp_loop_rounds 5 ?_
 rw [rounds_succ]
 refine aX h [0] [eS 13 (.val (Value.bool true))] ⟨fun L u=>u_bin u (gd0 rfl) _ rfl _ _ _ _ _ rfl rfl rfl (eqg_int _ _ _ _ _ _ _ _) _ (yes_of (fun w=>i_lss _ _ _ _ w) (by decide)),T0⟩ [(2,_),(3,_),(4,_),(5,_),(6,_),(7,_),(9,_),(12,_),(13,.val (Value.bool true))] [(2,_),(3,_),(4,_),(5,_)] (fun a w h=>?_)
 refine wp_seq ?_
 refine go_cond h true rfl (fun ht=>?_) (fun hf=>?_)
 case refine_2=>cases hf
 refine wp_skip ?_
 refine then_norm ?_
 refine wp_seq ?_
 refine wp_block ?_
 refine aX h [] [eS 14 _,eS 8 _] ⟨rfl,rfl,T0⟩ [(2,_),(3,_),(4,_),(5,_),(6,_),(7,_),(8,.val ((Value.int IntKind.i64 0))),(9,_),(12,_)] [(2,_),(3,_),(4,_),(5,_)] (fun a w h=>?_)
 refine aE h [2,11,15] [eS 16 _,eS 17 _,eS 18 (.val (Value.int .i64 1)),eS 19 _,eS 20 _,eS 21 _,eS 22 _,eS 23 _,eS 24 _,eS 25 _,eS 26 _,eS 27 (.val (Value.int .i64 1)),eS 28 _,eS 29 _,eS 30 _,eS 31 _,eS 15 _,eS 32 _,eS 33 _,eS 7 _,eS 34 _,eM 5 _] ⟨rfl,rfl,fun L u=>u_bin u (gd0 rfl) _ rfl _ _ _ _ _ rfl rfl rfl (eqg_int _ _ _ _ _ _ _ _) _ (fun w=>i_add _ _ _ _ (by decide) (by decide) w),rfl,rfl,rfl,rfl,rfl,rfl,rfl,rfl,fun L u=>u_bin u (gd0 rfl) _ rfl _ _ _ _ _ rfl rfl rfl (eqg_int _ _ _ _ _ _ _ _) _ (fun w=>i_add _ _ _ _ (by decide) (by decide) w),rfl,rfl,rfl,fun L u=>u_call u (gd0 rfl) _ rfl _ _ _ rfl [_,_,_,_] rfl (m_cE86 _) _ (fun w hb=>C10.out w),rfl,rfl,rfl,rfl,rfl,rfl,T0⟩ [(2,_),(3,_),(4,_),(5,_),(6,_),(7,.val (Value.int .u64 h10)),(9,_),(12,_)] [(2,_),(3,_),(4,_),(5,[Value.int .u64 l00]++[Value.int .u64 l10]++[Value.int .u64 l02]++[Value.int .u64 l03]++[Value.int .u64 h03]++[Value.int .u64 0]++[Value.int .u64 0]++[Value.int .u64 0])] (fun a w h=>?_)
 refine blk_norm ?_
 refine then_norm ?_
 refine aE h [0] [eS 35 (.val (Value.int .i64 1)),eS 12 _] ⟨fun L u=>u_bin u (gd0 rfl) _ rfl _ _ _ _ _ rfl rfl rfl (eqg_int _ _ _ _ _ _ _ _) _ (fun w=>i_add _ _ _ _ (by decide) (by decide) w),rfl,T0⟩ [(2,_),(3,_),(4,_),(5,_),(6,_),(7,_),(9,_),(12,.val (Value.int .i64 1))] [(2,_),(3,_),(4,_),(5,_)] (fun a w h=>?_)
 refine then_norm ?_
 rw [rounds_succ]
 refine aX h [0] [eS 13 (.val (Value.bool true))] ⟨fun L u=>u_bin u (gd0 rfl) _ rfl _ _ _ _ _ rfl rfl rfl (eqg_int _ _ _ _ _ _ _ _) _ (yes_of (fun w=>i_lss _ _ _ _ w) (by decide)),T0⟩ [(2,_),(3,_),(4,_),(5,_),(6,_),(7,_),(9,_),(12,_),(13,.val (Value.bool true))] [(2,_),(3,_),(4,_),(5,_)] (fun a w h=>?_)
 refine wp_seq ?_
 refine go_cond h true rfl (fun ht=>?_) (fun hf=>?_)
 case refine_2=>cases hf
 refine wp_skip ?_
 refine then_norm ?_
 refine wp_seq ?_
 refine wp_block ?_
 refine aX h [] [eS 14 _,eS 8 _] ⟨rfl,rfl,T0⟩ [(2,_),(3,_),(4,_),(5,_),(6,_),(7,_),(8,.val (Value.int .i64 1)),(9,_),(12,_)] [(2,_),(3,_),(4,_),(5,_)] (fun a w h=>?_)
 refine aE h [2,11,15] [eS 16 _,eS 17 _,eS 18 (.val (Value.int .i64 2)),eS 19 _,eS 20 _,eS 21 _,eS 22 _,eS 23 _,eS 24 _,eS 25 _,eS 26 _,eS 27 (.val (Value.int .i64 2)),eS 28 _,eS 29 _,eS 30 _,eS 31 _,eS 15 _,eS 32 _,eS 33 _,eS 7 _,eS 34 _,eM 5 _] ⟨rfl,rfl,fun L u=>u_bin u (gd0 rfl) _ rfl _ _ _ _ _ rfl rfl rfl (eqg_int _ _ _ _ _ _ _ _) _ (fun w=>i_add _ _ _ _ (by decide) (by decide) w),rfl,rfl,rfl,rfl,rfl,rfl,rfl,rfl,fun L u=>u_bin u (gd0 rfl) _ rfl _ _ _ _ _ rfl rfl rfl (eqg_int _ _ _ _ _ _ _ _) _ (fun w=>i_add _ _ _ _ (by decide) (by decide) w),rfl,rfl,rfl,fun L u=>u_call u (gd0 rfl) _ rfl _ _ _ rfl [_,_,_,_] rfl (m_cE86 _) _ (fun w hb=>C11.out w),rfl,rfl,rfl,rfl,rfl,rfl,T0⟩ [(2,_),(3,_),(4,_),(5,_),(6,_),(7,.val (Value.int .u64 h11)),(9,_),(12,_)] [(2,_),(3,_),(4,_),(5,[Value.int .u64 l00]++[Value.int .u64 l10]++[Value.int .u64 l11]++[Value.int .u64 l03]++[Value.int .u64 h03]++[Value.int .u64 0]++[Value.int .u64 0]++[Value.int .u64 0])] (fun a w h=>?_)
 refine blk_norm ?_
 refine then_norm ?_
 refine aE h [0] [eS 35 (.val (Value.int .i64 2)),eS 12 _] ⟨fun L u=>u_bin u (gd0 rfl) _ rfl _ _ _ _ _ rfl rfl rfl (eqg_int _ _ _ _ _ _ _ _) _ (fun w=>i_add _ _ _ _ (by decide) (by decide) w),rfl,T0⟩ [(2,_),(3,_),(4,_),(5,_),(6,_),(7,_),(9,_),(12,.val (Value.int .i64 2))] [(2,_),(3,_),(4,_),(5,_)] (fun a w h=>?_)
 refine then_norm ?_
 rw [rounds_succ]
 refine aX h [0] [eS 13 (.val (Value.bool true))] ⟨fun L u=>u_bin u (gd0 rfl) _ rfl _ _ _ _ _ rfl rfl rfl (eqg_int _ _ _ _ _ _ _ _) _ (yes_of (fun w=>i_lss _ _ _ _ w) (by decide)),T0⟩ [(2,_),(3,_),(4,_),(5,_),(6,_),(7,_),(9,_),(12,_),(13,.val (Value.bool true))] [(2,_),(3,_),(4,_),(5,_)] (fun a w h=>?_)
 refine wp_seq ?_
 refine go_cond h true rfl (fun ht=>?_) (fun hf=>?_)
 case refine_2=>cases hf
 refine wp_skip ?_
 refine then_norm ?_
 refine wp_seq ?_
 refine wp_block ?_
 refine aX h [] [eS 14 _,eS 8 _] ⟨rfl,rfl,T0⟩ [(2,_),(3,_),(4,_),(5,_),(6,_),(7,_),(8,.val (Value.int .i64 2)),(9,_),(12,_)] [(2,_),(3,_),(4,_),(5,_)] (fun a w h=>?_)
 refine aE h [2,11,15] [eS 16 _,eS 17 _,eS 18 (.val (Value.int .i64 3)),eS 19 _,eS 20 _,eS 21 _,eS 22 _,eS 23 _,eS 24 _,eS 25 _,eS 26 _,eS 27 (.val (Value.int .i64 3)),eS 28 _,eS 29 _,eS 30 _,eS 31 _,eS 15 _,eS 32 _,eS 33 _,eS 7 _,eS 34 _,eM 5 _] ⟨rfl,rfl,fun L u=>u_bin u (gd0 rfl) _ rfl _ _ _ _ _ rfl rfl rfl (eqg_int _ _ _ _ _ _ _ _) _ (fun w=>i_add _ _ _ _ (by decide) (by decide) w),rfl,rfl,rfl,rfl,rfl,rfl,rfl,rfl,fun L u=>u_bin u (gd0 rfl) _ rfl _ _ _ _ _ rfl rfl rfl (eqg_int _ _ _ _ _ _ _ _) _ (fun w=>i_add _ _ _ _ (by decide) (by decide) w),rfl,rfl,rfl,fun L u=>u_call u (gd0 rfl) _ rfl _ _ _ rfl [_,_,_,_] rfl (m_cE86 _) _ (fun w hb=>C12.out w),rfl,rfl,rfl,rfl,rfl,rfl,T0⟩ [(2,_),(3,_),(4,_),(5,_),(6,_),(7,.val (Value.int .u64 h12)),(9,_),(12,_)] [(2,_),(3,_),(4,_),(5,[Value.int .u64 l00]++[Value.int .u64 l10]++[Value.int .u64 l11]++[Value.int .u64 l12]++[Value.int .u64 h03]++[Value.int .u64 0]++[Value.int .u64 0]++[Value.int .u64 0])] (fun a w h=>?_)
 refine blk_norm ?_
 refine then_norm ?_
 refine aE h [0] [eS 35 (.val (Value.int .i64 3)),eS 12 _] ⟨fun L u=>u_bin u (gd0 rfl) _ rfl _ _ _ _ _ rfl rfl rfl (eqg_int _ _ _ _ _ _ _ _) _ (fun w=>i_add _ _ _ _ (by decide) (by decide) w),rfl,T0⟩ [(2,_),(3,_),(4,_),(5,_),(6,_),(7,_),(9,_),(12,.val (Value.int .i64 3))] [(2,_),(3,_),(4,_),(5,_)] (fun a w h=>?_)
 refine then_norm ?_
 rw [rounds_succ]
 refine aX h [0] [eS 13 (.val (Value.bool true))] ⟨fun L u=>u_bin u (gd0 rfl) _ rfl _ _ _ _ _ rfl rfl rfl (eqg_int _ _ _ _ _ _ _ _) _ (yes_of (fun w=>i_lss _ _ _ _ w) (by decide)),T0⟩ [(2,_),(3,_),(4,_),(5,_),(6,_),(7,_),(9,_),(12,_),(13,.val (Value.bool true))] [(2,_),(3,_),(4,_),(5,_)] (fun a w h=>?_)
 refine wp_seq ?_
 refine go_cond h true rfl (fun ht=>?_) (fun hf=>?_)
 case refine_2=>cases hf
 refine wp_skip ?_
 refine then_norm ?_
 refine wp_seq ?_
 refine wp_block ?_
 refine aX h [] [eS 14 _,eS 8 _] ⟨rfl,rfl,T0⟩ [(2,_),(3,_),(4,_),(5,_),(6,_),(7,_),(8,.val (Value.int .i64 3)),(9,_),(12,_)] [(2,_),(3,_),(4,_),(5,_)] (fun a w h=>?_)
 refine aE h [2,11,15] [eS 16 _,eS 17 _,eS 18 (.val (Value.int .i64 4)),eS 19 _,eS 20 _,eS 21 _,eS 22 _,eS 23 _,eS 24 _,eS 25 _,eS 26 _,eS 27 (.val (Value.int .i64 4)),eS 28 _,eS 29 _,eS 30 _,eS 31 _,eS 15 _,eS 32 _,eS 33 _,eS 7 _,eS 34 _,eM 5 _] ⟨rfl,rfl,fun L u=>u_bin u (gd0 rfl) _ rfl _ _ _ _ _ rfl rfl rfl (eqg_int _ _ _ _ _ _ _ _) _ (fun w=>i_add _ _ _ _ (by decide) (by decide) w),rfl,rfl,rfl,rfl,rfl,rfl,rfl,rfl,fun L u=>u_bin u (gd0 rfl) _ rfl _ _ _ _ _ rfl rfl rfl (eqg_int _ _ _ _ _ _ _ _) _ (fun w=>i_add _ _ _ _ (by decide) (by decide) w),rfl,rfl,rfl,fun L u=>u_call u (gd0 rfl) _ rfl _ _ _ rfl [_,_,_,_] rfl (m_cE86 _) _ (fun w hb=>C13.out w),rfl,rfl,rfl,rfl,rfl,rfl,T0⟩ [(2,_),(3,_),(4,_),(5,_),(6,_),(7,.val (Value.int .u64 h13)),(9,_),(12,_)] [(2,_),(3,_),(4,_),(5,[Value.int .u64 l00]++[Value.int .u64 l10]++[Value.int .u64 l11]++[Value.int .u64 l12]++[Value.int .u64 l13]++[Value.int .u64 0]++[Value.int .u64 0]++[Value.int .u64 0])] (fun a w h=>?_)
 refine blk_norm ?_
 refine then_norm ?_
 refine aE h [0] [eS 35 (.val (Value.int .i64 4)),eS 12 _] ⟨fun L u=>u_bin u (gd0 rfl) _ rfl _ _ _ _ _ rfl rfl rfl (eqg_int _ _ _ _ _ _ _ _) _ (fun w=>i_add _ _ _ _ (by decide) (by decide) w),rfl,T0⟩ [(2,_),(3,_),(4,_),(5,_),(6,_),(7,_),(9,_),(12,.val (Value.int .i64 4))] [(2,_),(3,_),(4,_),(5,_)] (fun a w h=>?_)
 refine then_norm ?_
 rw [rounds_succ]
 refine aX h [0] [eS 13 (.val (Value.bool false))] ⟨fun L u=>u_bin u (gd0 rfl) _ rfl _ _ _ _ _ rfl rfl rfl (eqg_int _ _ _ _ _ _ _ _) _ (no_of (fun w=>i_lss _ _ _ _ w) (by decide)),T0⟩ [(2,_),(3,_),(4,_),(5,_),(6,_),(7,_),(9,_),(12,_),(13,.val (Value.bool false))] [(2,_),(3,_),(4,_),(5,_)] (fun a w h=>?_)
 refine wp_seq ?_
 refine go_cond h false rfl (fun ht=>?_) (fun hf=>?_)
 case refine_1=>cases ht
 refine wp_exit ?_
 refine then_exit ?_
 refine then_exit ?_
 refine blk_exit ?_
 refine then_norm ?_
 refine aE h [1] [eS 36 _,eS 37 (.val (Value.int .i64 5)),eS 38 _,eS 39 _,eM 5 _] ⟨rfl,fun L u=>u_bin u (gd0 rfl) _ rfl _ _ _ _ _ rfl rfl rfl (eqg_int _ _ _ _ _ _ _ _) _ (fun w=>i_add _ _ _ _ (by decide) (by decide) w),rfl,rfl,rfl,T0⟩ [(2,_),(3,_),(4,_),(5,_),(9,_)] [(2,_),(3,_),(4,_),(5,[Value.int .u64 l00]++[Value.int .u64 l10]++[Value.int .u64 l11]++[Value.int .u64 l12]++[Value.int .u64 l13]++[Value.int .u64 h13]++[Value.int .u64 0]++[Value.int .u64 0])] (fun a w h=>?_)
 refine blk_norm ?_
 refine then_norm ?_
 refine aE h [0] [eS 40 (.val (Value.int .i64 2)),eS 9 _] ⟨fun L u=>u_bin u (gd0 rfl) _ rfl _ _ _ _ _ rfl rfl rfl (eqg_int _ _ _ _ _ _ _ _) _ (fun w=>i_add _ _ _ _ (by decide) (by decide) w),rfl,T0⟩ [(2,_),(3,_),(4,_),(5,_),(9,.val (Value.int .i64 2))] [(2,_),(3,_),(4,_),(5,_)] (fun a w h=>?_)
 refine then_norm ?_
 rw [rounds_succ]
 refine aX h [0] [eS 10 (.val (Value.bool true))] ⟨fun L u=>u_bin u (gd0 rfl) _ rfl _ _ _ _ _ rfl rfl rfl (eqg_int _ _ _ _ _ _ _ _) _ (yes_of (fun w=>i_lss _ _ _ _ w) (by decide)),T0⟩ [(2,_),(3,_),(4,_),(5,_),(9,_),(10,.val (Value.bool true))] [(2,_),(3,_),(4,_),(5,_)] (fun a w h=>?_)
 refine wp_seq ?_
 refine go_cond h true rfl (fun ht=>?_) (fun hf=>?_)
 case refine_2=>cases hf
 refine wp_skip ?_
 refine then_norm ?_
 refine wp_seq ?_
 refine wp_block ?_
 refine aX h [] [eS 11 _,eS 6 _] ⟨rfl,rfl,T0⟩ [(2,_),(3,_),(4,_),(5,_),(6,.val (Value.int .i64 2)),(9,_)] [(2,_),(3,_),(4,_),(5,_)] (fun a w h=>?_)
 refine aX h [] [eS 7 _] ⟨rfl,T0⟩ [(2,_),(3,_),(4,_),(5,_),(6,_),(7,.val ((Value.int IntKind.u64 0))),(9,_)] [(2,_),(3,_),(4,_),(5,_)] (fun a w h=>?_)
 refine wp_seq ?_
 refine aX h [] [eS 12 _] ⟨rfl,T0⟩ [(2,_),(3,_),(4,_),(5,_),(6,_),(7,_),(9,_),(12,.val ((Value.int IntKind.i64 0)))] [(2,_),(3,_),(4,_),(5,_)] (fun a w h=>?_)
 refine wp_block ?_
 refine wp_loop_rounds 5 ?_
 rw [rounds_succ]
 refine aX h [0] [eS 13 (.val (Value.bool true))] ⟨fun L u=>u_bin u (gd0 rfl) _ rfl _ _ _ _ _ rfl rfl rfl (eqg_int _ _ _ _ _ _ _ _) _ (yes_of (fun w=>i_lss _ _ _ _ w) (by decide)),T0⟩ [(2,_),(3,_),(4,_),(5,_),(6,_),(7,_),(9,_),(12,_),(13,.val (Value.bool true))] [(2,_),(3,_),(4,_),(5,_)] (fun a w h=>?_)
 refine wp_seq ?_
 refine go_cond h true rfl (fun ht=>?_) (fun hf=>?_)
 case refine_2=>cases hf
 refine wp_skip ?_
 refine then_norm ?_
 refine wp_seq ?_
 refine wp_block ?_
 refine aX h [] [eS 14 _,eS 8 _] ⟨rfl,rfl,T0⟩ [(2,_),(3,_),(4,_),(5,_),(6,_),(7,_),(8,.val ((Value.int IntKind.i64 0))),(9,_),(12,_)] [(2,_),(3,_),(4,_),(5,_)] (fun a w h=>?_)
 refine aE h [2,11,15] [eS 16 _,eS 17 _,eS 18 (.val (Value.int .i64 2)),eS 19 _,eS 20 _,eS 21 _,eS 22 _,eS 23 _,eS 24 _,eS 25 _,eS 26 _,eS 27 (.val (Value.int .i64 2)),eS 28 _,eS 29 _,eS 30 _,eS 31 _,eS 15 _,eS 32 _,eS 33 _,eS 7 _,eS 34 _,eM 5 _] ⟨rfl,rfl,fun L u=>u_bin u (gd0 rfl) _ rfl _ _ _ _ _ rfl rfl rfl (eqg_int _ _ _ _ _ _ _ _) _ (fun w=>i_add _ _ _ _ (by decide) (by decide) w),rfl,rfl,rfl,rfl,rfl,rfl,rfl,rfl,fun L u=>u_bin u (gd0 rfl) _ rfl _ _ _ _ _ rfl rfl rfl (eqg_int _ _ _ _ _ _ _ _) _ (fun w=>i_add _ _ _ _ (by decide) (by decide) w),rfl,rfl,rfl,fun L u=>u_call u (gd0 rfl) _ rfl _ _ _ rfl [_,_,_,_] rfl (m_cE86 _) _ (fun w hb=>C20.out w),rfl,rfl,rfl,rfl,rfl,rfl,T0⟩ [(2,_),(3,_),(4,_),(5,_),(6,_),(7,.val (Value.int .u64 h20)),(9,_),(12,_)] [(2,_),(3,_),(4,_),(5,[Value.int .u64 l00]++[Value.int .u64 l10]++[Value.int .u64 l20]++[Value.int .u64 l12]++[Value.int .u64 l13]++[Value.int .u64 h13]++[Value.int .u64 0]++[Value.int .u64 0])] (fun a w h=>?_)
 refine blk_norm ?_
 refine then_norm ?_
 refine aE h [0] [eS 35 (.val (Value.int .i64 1)),eS 12 _] ⟨fun L u=>u_bin u (gd0 rfl) _ rfl _ _ _ _ _ rfl rfl rfl (eqg_int _ _ _ _ _ _ _ _) _ (fun w=>i_add _ _ _ _ (by decide) (by decide) w),rfl,T0⟩ [(2,_),(3,_),(4,_),(5,_),(6,_),(7,_),(9,_),(12,.val (Value.int .i64 1))] [(2,_),(3,_),(4,_),(5,_)] (fun a w h=>?_)
 refine then_norm ?_
 rw [rounds_succ]
 refine aX h [0] [eS 13 (.val (Value.bool true))] ⟨fun L u=>u_bin u (gd0 rfl) _ rfl _ _ _ _ _ rfl rfl rfl (eqg_int _ _ _ _ _ _ _ _) _ (yes_of (fun w=>i_lss _ _ _ _ w) (by decide)),T0⟩ [(2,_),(3,_),(4,_),(5,_),(6,_),(7,_),(9,_),(12,_),(13,.val (Value.bool true))] [(2,_),(3,_),(4,_),(5,_)] (fun a w h=>?_)
 refine wp_seq ?_
 refine go_cond h true rfl (fun ht=>?_) (fun hf=>?_)
 case refine_2=>cases hf
 refine wp_skip ?_
 refine then_norm ?_
 refine wp_seq ?_
 refine wp_block ?_
 refine aX h [] [eS 14 _,eS 8 _] ⟨rfl,rfl,T0⟩ [(2,_),(3,_),(4,_),(5,_),(6,_),(7,_),(8,.val (Value.int .i64 1)),(9,_),(12,_)] [(2,_),(3,_),(4,_),(5,_)] (fun a w h=>?_)
 refine aE h [2,11,15] [eS 16 _,eS 17 _,eS 18 (.val (Value.int .i64 3)),eS 19 _,eS 20 _,eS 21 _,eS 22 _,eS 23 _,eS 24 _,eS 25 _,eS 26 _,eS 27 (.val (Value.int .i64 3)),eS 28 _,eS 29 _,eS 30 _,eS 31 _,eS 15 _,eS 32 _,eS 33 _,eS 7 _,eS 34 _,eM 5 _] ⟨rfl,rfl,fun L u=>u_bin u (gd0 rfl) _ rfl _ _ _ _ _ rfl rfl rfl (eqg_int _ _ _ _ _ _ _ _) _ (fun w=>i_add _ _ _ _ (by decide) (by decide) w),rfl,rfl,rfl,rfl,rfl,rfl,rfl,rfl,fun L u=>u_bin u (gd0 rfl) _ rfl _ _ _ _ _ rfl rfl rfl (eqg_int _ _ _ _ _ _ _ _) _ (fun w=>i_add _ _ _ _ (by decide) (by decide) w),rfl,rfl,rfl,fun L u=>u_call u (gd0 rfl) _ rfl _ _ _ rfl [_,_,_,_] rfl (m_cE86 _) _ (fun w hb=>C21.out w),rfl,rfl,rfl,rfl,rfl,rfl,T0⟩ [(2,_),(3,_),(4,_),(5,_),(6,_),(7,.val (Value.int .u64 h21)),(9,_),(12,_)] [(2,_),(3,_),(4,_),(5,[Value.int .u64 l00]++[Value.int .u64 l10]++[Value.int .u64 l20]++[Value.int .u64 l21]++[Value.int .u64 l13]++[Value.int .u64 h13]++[Value.int .u64 0]++[Value.int .u64 0])] (fun a w h=>?_)
 refine blk_norm ?_
 refine then_norm ?_
 refine aE h [0] [eS 35 (.val (Value.int .i64 2)),eS 12 _] ⟨fun L u=>u_bin u (gd0 rfl) _ rfl _ _ _ _ _ rfl rfl rfl (eqg_int _ _ _ _ _ _ _ _) _ (fun w=>i_add _ _ _ _ (by decide) (by decide) w),rfl,T0⟩ [(2,_),(3,_),(4,_),(5,_),(6,_),(7,_),(9,_),(12,.val (Value.int .i64 2))] [(2,_),(3,_),(4,_),(5,_)] (fun a w h=>?_)
 refine then_norm ?_
 rw [rounds_succ]
 refine aX h [0] [eS 13 (.val (Value.bool true))] ⟨fun L u=>u_bin u (gd0 rfl) _ rfl _ _ _ _ _ rfl rfl rfl (eqg_int _ _ _ _ _ _ _ _) _ (yes_of (fun w=>i_lss _ _ _ _ w) (by decide)),T0⟩ [(2,_),(3,_),(4,_),(5,_),(6,_),(7,_),(9,_),(12,_),(13,.val (Value.bool true))] [(2,_),(3,_),(4,_),(5,_)] (fun a w h=>?_)
 refine wp_seq ?_
 refine go_cond h true rfl (fun ht=>?_) (fun hf=>?_)
 case refine_2=>cases hf
 refine wp_skip ?_
 refine then_norm ?_
 refine wp_seq ?_
 refine wp_block ?_
 refine aX h [] [eS 14 _,eS 8 _] ⟨rfl,rfl,T0⟩ [(2,_),(3,_),(4,_),(5,_),(6,_),(7,_),(8,.val (Value.int .i64 2)),(9,_),(12,_)] [(2,_),(3,_),(4,_),(5,_)] (fun a w h=>?_)
 refine aE h [2,11,15] [eS 16 _,eS 17 _,eS 18 (.val (Value.int .i64 4)),eS 19 _,eS 20 _,eS 21 _,eS 22 _,eS 23 _,eS 24 _,eS 25 _,eS 26 _,eS 27 (.val (Value.int .i64 4)),eS 28 _,eS 29 _,eS 30 _,eS 31 _,eS 15 _,eS 32 _,eS 33 _,eS 7 _,eS 34 _,eM 5 _] ⟨rfl,rfl,fun L u=>u_bin u (gd0 rfl) _ rfl _ _ _ _ _ rfl rfl rfl (eqg_int _ _ _ _ _ _ _ _) _ (fun w=>i_add _ _ _ _ (by decide) (by decide) w),rfl,rfl,rfl,rfl,rfl,rfl,rfl,rfl,fun L u=>u_bin u (gd0 rfl) _ rfl _ _ _ _ _ rfl rfl rfl (eqg_int _ _ _ _ _ _ _ _) _ (fun w=>i_add _ _ _ _ (by decide) (by decide) w),rfl,rfl,rfl,fun L u=>u_call u (gd0 rfl) _ rfl _ _ _ rfl [_,_,_,_] rfl (m_cE86 _) _ (fun w hb=>C22.out w),rfl,rfl,rfl,rfl,rfl,rfl,T0⟩ [(2,_),(3,_),(4,_),(5,_),(6,_),(7,.val (Value.int .u64 h22)),(9,_),(12,_)] [(2,_),(3,_),(4,_),(5,[Value.int .u64 l00]++[Value.int .u64 l10]++[Value.int .u64 l20]++[Value.int .u64 l21]++[Value.int .u64 l22]++[Value.int .u64 h13]++[Value.int .u64 0]++[Value.int .u64 0])] (fun a w h=>?_)
 refine blk_norm ?_
 refine then_norm ?_
 refine aE h [0] [eS 35 (.val (Value.int .i64 3)),eS 12 _] ⟨fun L u=>u_bin u (gd0 rfl) _ rfl _ _ _ _ _ rfl rfl rfl (eqg_int _ _ _ _ _ _ _ _) _ (fun w=>i_add _ _ _ _ (by decide) (by decide) w),rfl,T0⟩ [(2,_),(3,_),(4,_),(5,_),(6,_),(7,_),(9,_),(12,.val (Value.int .i64 3))] [(2,_),(3,_),(4,_),(5,_)] (fun a w h=>?_)
 refine then_norm ?_
 rw [rounds_succ]
 refine aX h [0] [eS 13 (.val (Value.bool true))] ⟨fun L u=>u_bin u (gd0 rfl) _ rfl _ _ _ _ _ rfl rfl rfl (eqg_int _ _ _ _ _ _ _ _) _ (yes_of (fun w=>i_lss _ _ _ _ w) (by decide)),T0⟩ [(2,_),(3,_),(4,_),(5,_),(6,_),(7,_),(9,_),(12,_),(13,.val (Value.bool true))] [(2,_),(3,_),(4,_),(5,_)] (fun a w h=>?_)
 refine wp_seq ?_
 refine go_cond h true rfl (fun ht=>?_) (fun hf=>?_)
 case refine_2=>cases hf
 refine wp_skip ?_
 refine then_norm ?_
 refine wp_seq ?_
 refine wp_block ?_
 refine aX h [] [eS 14 _,eS 8 _] ⟨rfl,rfl,T0⟩ [(2,_),(3,_),(4,_),(5,_),(6,_),(7,_),(8,.val (Value.int .i64 3)),(9,_),(12,_)] [(2,_),(3,_),(4,_),(5,_)] (fun a w h=>?_)
 refine aE h [2,11,15] [eS 16 _,eS 17 _,eS 18 (.val (Value.int .i64 5)),eS 19 _,eS 20 _,eS 21 _,eS 22 _,eS 23 _,eS 24 _,eS 25 _,eS 26 _,eS 27 (.val (Value.int .i64 5)),eS 28 _,eS 29 _,eS 30 _,eS 31 _,eS 15 _,eS 32 _,eS 33 _,eS 7 _,eS 34 _,eM 5 _] ⟨rfl,rfl,fun L u=>u_bin u (gd0 rfl) _ rfl _ _ _ _ _ rfl rfl rfl (eqg_int _ _ _ _ _ _ _ _) _ (fun w=>i_add _ _ _ _ (by decide) (by decide) w),rfl,rfl,rfl,rfl,rfl,rfl,rfl,rfl,fun L u=>u_bin u (gd0 rfl) _ rfl _ _ _ _ _ rfl rfl rfl (eqg_int _ _ _ _ _ _ _ _) _ (fun w=>i_add _ _ _ _ (by decide) (by decide) w),rfl,rfl,rfl,fun L u=>u_call u (gd0 rfl) _ rfl _ _ _ rfl [_,_,_,_] rfl (m_cE86 _) _ (fun w hb=>C23.out w),rfl,rfl,rfl,rfl,rfl,rfl,T0⟩ [(2,_),(3,_),(4,_),(5,_),(6,_),(7,.val (Value.int .u64 h23)),(9,_),(12,_)] [(2,_),(3,_),(4,_),(5,[Value.int .u64 l00]++[Value.int .u64 l10]++[Value.int .u64 l20]++[Value.int .u64 l21]++[Value.int .u64 l22]++[Value.int .u64 l23]++[Value.int .u64 0]++[Value.int .u64 0])] (fun a w h=>?_)
 refine blk_norm ?_
 refine then_norm ?_
 refine aE h [0] [eS 35 (.val (Value.int .i64 4)),eS 12 _] ⟨fun L u=>u_bin u (gd0 rfl) _ rfl _ _ _ _ _ rfl rfl rfl (eqg_int _ _ _ _ _ _ _ _) _ (fun w=>i_add _ _ _ _ (by decide) (by decide) w),rfl,T0⟩ [(2,_),(3,_),(4,_),(5,_),(6,_),(7,_),(9,_),(12,.val (Value.int .i64 4))] [(2,_),(3,_),(4,_),(5,_)] (fun a w h=>?_)
 refine then_norm ?_
 rw [rounds_succ]
 refine aX h [0] [eS 13 (.val (Value.bool false))] ⟨fun L u=>u_bin u (gd0 rfl) _ rfl _ _ _ _ _ rfl rfl rfl (eqg_int _ _ _ _ _ _ _ _) _ (no_of (fun w=>i_lss _ _ _ _ w) (by decide)),T0⟩ [(2,_),(3,_),(4,_),(5,_),(6,_),(7,_),(9,_),(12,_),(13,.val (Value.bool false))] [(2,_),(3,_),(4,_),(5,_)] (fun a w h=>?_)
 refine wp_seq ?_
 refine go_cond h false rfl (fun ht=>?_) (fun hf=>?_)
 case refine_1=>cases ht
 refine wp_exit ?_
 refine then_exit ?_
 refine then_exit ?_
 refine blk_exit ?_
 refine then_norm ?_
 refine aE h [1] [eS 36 _,eS 37 (.val (Value.int .i64 6)),eS 38 _,eS 39 _,eM 5 _] ⟨rfl,fun L u=>u_bin u (gd0 rfl) _ rfl _ _ _ _ _ rfl rfl rfl (eqg_int _ _ _ _ _ _ _ _) _ (fun w=>i_add _ _ _ _ (by decide) (by decide) w),rfl,rfl,rfl,T0⟩ [(2,_),(3,_),(4,_),(5,_),(9,_)] [(2,_),(3,_),(4,_),(5,[Value.int .u64 l00]++[Value.int .u64 l10]++[Value.int .u64 l20]++[Value.int .u64 l21]++[Value.int .u64 l22]++[Value.int .u64 l23]++[Value.int .u64 h23]++[Value.int .u64 0])] (fun a w h=>?_)
 refine blk_norm ?_
 refine then_norm ?_
 refine aE h [0] [eS 40 (.val (Value.int .i64 3)),eS 9 _] ⟨fun L u=>u_bin u (gd0 rfl) _ rfl _ _ _ _ _ rfl rfl rfl (eqg_int _ _ _ _ _ _ _ _) _ (fun w=>i_add _ _ _ _ (by decide) (by decide) w),rfl,T0⟩ [(2,_),(3,_),(4,_),(5,_),(9,.val (Value.int .i64 3))] [(2,_),(3,_),(4,_),(5,_)] (fun a w h=>?_)
 refine then_norm ?_
 rw [rounds_succ]
 refine aX h [0] [eS 10 (.val (Value.bool true))] ⟨fun L u=>u_bin u (gd0 rfl) _ rfl _ _ _ _ _ rfl rfl rfl (eqg_int _ _ _ _ _ _ _ _) _ (yes_of (fun w=>i_lss _ _ _ _ w) (by decide)),T0⟩ [(2,_),(3,_),(4,_),(5,_),(9,_),(10,.val (Value.bool true))] [(2,_),(3,_),(4,_),(5,_)] (fun a w h=>?_)
 refine wp_seq ?_
 refine go_cond h true rfl (fun ht=>?_) (fun hf=>?_)
 case refine_2=>cases hf
 refine wp_skip ?_
 refine then_norm ?_
 refine wp_seq ?_
 refine wp_block ?_
 refine aX h [] [eS 11 _,eS 6 _] ⟨rfl,rfl,T0⟩ [(2,_),(3,_),(4,_),(5,_),(6,.val (Value.int .i64 3)),(9,_)] [(2,_),(3,_),(4,_),(5,_)] (fun a w h=>?_)
 refine aX h [] [eS 7 _] ⟨rfl,T0⟩ [(2,_),(3,_),(4,_),(5,_),(6,_),(7,.val ((Value.int IntKind.u64 0))),(9,_)] [(2,_),(3,_),(4,_),(5,_)] (fun a w h=>?_)
 refine wp_seq ?_
 refine aX h [] [eS 12 _] ⟨rfl,T0⟩ [(2,_),(3,_),(4,_),(5,_),(6,_),(7,_),(9,_),(12,.val ((Value.int IntKind.i64 0)))] [(2,_),(3,_),(4,_),(5,_)] (fun a w h=>?_)
 refine wp_block ?_
 refine wp_loop_rounds 5 ?_
 rw [rounds_succ]
 refine aX h [0] [eS 13 (.val (Value.bool true))] ⟨fun L u=>u_bin u (gd0 rfl) _ rfl _ _ _ _ _ rfl rfl rfl (eqg_int _ _ _ _ _ _ _ _) _ (yes_of (fun w=>i_lss _ _ _ _ w) (by decide)),T0⟩ [(2,_),(3,_),(4,_),(5,_),(6,_),(7,_),(9,_),(12,_),(13,.val (Value.bool true))] [(2,_),(3,_),(4,_),(5,_)] (fun a w h=>?_)
 refine wp_seq ?_
 refine go_cond h true rfl (fun ht=>?_) (fun hf=>?_)
 case refine_2=>cases hf
 refine wp_skip ?_
 refine then_norm ?_
 refine wp_seq ?_
 refine wp_block ?_
 refine aX h [] [eS 14 _,eS 8 _] ⟨rfl,rfl,T0⟩ [(2,_),(3,_),(4,_),(5,_),(6,_),(7,_),(8,.val ((Value.int IntKind.i64 0))),(9,_),(12,_)] [(2,_),(3,_),(4,_),(5,_)] (fun a w h=>?_)
 refine aE h [2,11,15] [eS 16 _,eS 17 _,eS 18 (.val (Value.int .i64 3)),eS 19 _,eS 20 _,eS 21 _,eS 22 _,eS 23 _,eS 24 _,eS 25 _,eS 26 _,eS 27 (.val (Value.int .i64 3)),eS 28 _,eS 29 _,eS 30 _,eS 31 _,eS 15 _,eS 32 _,eS 33 _,eS 7 _,eS 34 _,eM 5 _] ⟨rfl,rfl,fun L u=>u_bin u (gd0 rfl) _ rfl _ _ _ _ _ rfl rfl rfl (eqg_int _ _ _ _ _ _ _ _) _ (fun w=>i_add _ _ _ _ (by decide) (by decide) w),rfl,rfl,rfl,rfl,rfl,rfl,rfl,rfl,fun L u=>u_bin u (gd0 rfl) _ rfl _ _ _ _ _ rfl rfl rfl (eqg_int _ _ _ _ _ _ _ _) _ (fun w=>i_add _ _ _ _ (by decide) (by decide) w),rfl,rfl,rfl,fun L u=>u_call u (gd0 rfl) _ rfl _ _ _ rfl [_,_,_,_] rfl (m_cE86 _) _ (fun w hb=>C30.out w),rfl,rfl,rfl,rfl,rfl,rfl,T0⟩ [(2,_),(3,_),(4,_),(5,_),(6,_),(7,.val (Value.int .u64 h30)),(9,_),(12,_)] [(2,_),(3,_),(4,_),(5,[Value.int .u64 l00]++[Value.int .u64 l10]++[Value.int .u64 l20]++[Value.int .u64 l30]++[Value.int .u64 l22]++[Value.int .u64 l23]++[Value.int .u64 h23]++[Value.int .u64 0])] (fun a w h=>?_)
 refine blk_norm ?_
 refine then_norm ?_
 refine aE h [0] [eS 35 (.val (Value.int .i64 1)),eS 12 _] ⟨fun L u=>u_bin u (gd0 rfl) _ rfl _ _ _ _ _ rfl rfl rfl (eqg_int _ _ _ _ _ _ _ _) _ (fun w=>i_add _ _ _ _ (by decide) (by decide) w),rfl,T0⟩ [(2,_),(3,_),(4,_),(5,_),(6,_),(7,_),(9,_),(12,.val (Value.int .i64 1))] [(2,_),(3,_),(4,_),(5,_)] (fun a w h=>?_)
 refine then_norm ?_
 rw [rounds_succ]
 refine aX h [0] [eS 13 (.val (Value.bool true))] ⟨fun L u=>u_bin u (gd0 rfl) _ rfl _ _ _ _ _ rfl rfl rfl (eqg_int _ _ _ _ _ _ _ _) _ (yes_of (fun w=>i_lss _ _ _ _ w) (by decide)),T0⟩ [(2,_),(3,_),(4,_),(5,_),(6,_),(7,_),(9,_),(12,_),(13,.val (Value.bool true))] [(2,_),(3,_),(4,_),(5,_)] (fun a w h=>?_)
 refine wp_seq ?_
 refine go_cond h true rfl (fun ht=>?_) (fun hf=>?_)
 case refine_2=>cases hf
 refine wp_skip ?_
 refine then_norm ?_
 refine wp_seq ?_
 refine wp_block ?_
 refine aX h [] [eS 14 _,eS 8 _] ⟨rfl,rfl,T0⟩ [(2,_),(3,_),(4,_),(5,_),(6,_),(7,_),(8,.val (Value.int .i64 1)),(9,_),(12,_)] [(2,_),(3,_),(4,_),(5,_)] (fun a w h=>?_)
 refine aE h [2,11,15] [eS 16 _,eS 17 _,eS 18 (.val (Value.int .i64 4)),eS 19 _,eS 20 _,eS 21 _,eS 22 _,eS 23 _,eS 24 _,eS 25 _,eS 26 _,eS 27 (.val (Value.int .i64 4)),eS 28 _,eS 29 _,eS 30 _,eS 31 _,eS 15 _,eS 32 _,eS 33 _,eS 7 _,eS 34 _,eM 5 _] ⟨rfl,rfl,fun L u=>u_bin u (gd0 rfl) _ rfl _ _ _ _ _ rfl rfl rfl (eqg_int _ _ _ _ _ _ _ _) _ (fun w=>i_add _ _ _ _ (by decide) (by decide) w),rfl,rfl,rfl,rfl,rfl,rfl,rfl,rfl,fun L u=>u_bin u (gd0 rfl) _ rfl _ _ _ _ _ rfl rfl rfl (eqg_int _ _ _ _ _ _ _ _) _ (fun w=>i_add _ _ _ _ (by decide) (by decide) w),rfl,rfl,rfl,fun L u=>u_call u (gd0 rfl) _ rfl _ _ _ rfl [_,_,_,_] rfl (m_cE86 _) _ (fun w hb=>C31.out w),rfl,rfl,rfl,rfl,rfl,rfl,T0⟩ [(2,_),(3,_),(4,_),(5,_),(6,_),(7,.val (Value.int .u64 h31)),(9,_),(12,_)] [(2,_),(3,_),(4,_),(5,[Value.int .u64 l00]++[Value.int .u64 l10]++[Value.int .u64 l20]++[Value.int .u64 l30]++[Value.int .u64 l31]++[Value.int .u64 l23]++[Value.int .u64 h23]++[Value.int .u64 0])] (fun a w h=>?_)
 refine blk_norm ?_
 refine then_norm ?_
 refine aE h [0] [eS 35 (.val (Value.int .i64 2)),eS 12 _] ⟨fun L u=>u_bin u (gd0 rfl) _ rfl _ _ _ _ _ rfl rfl rfl (eqg_int _ _ _ _ _ _ _ _) _ (fun w=>i_add _ _ _ _ (by decide) (by decide) w),rfl,T0⟩ [(2,_),(3,_),(4,_),(5,_),(6,_),(7,_),(9,_),(12,.val (Value.int .i64 2))] [(2,_),(3,_),(4,_),(5,_)] (fun a w h=>?_)
 refine then_norm ?_
 rw [rounds_succ]
 refine aX h [0] [eS 13 (.val (Value.bool true))] ⟨fun L u=>u_bin u (gd0 rfl) _ rfl _ _ _ _ _ rfl rfl rfl (eqg_int _ _ _ _ _ _ _ _) _ (yes_of (fun w=>i_lss _ _ _ _ w) (by decide)),T0⟩ [(2,_),(3,_),(4,_),(5,_),(6,_),(7,_),(9,_),(12,_),(13,.val (Value.bool true))] [(2,_),(3,_),(4,_),(5,_)] (fun a w h=>?_)
 refine wp_seq ?_
 refine go_cond h true rfl (fun ht=>?_) (fun hf=>?_)
 case refine_2=>cases hf
 refine wp_skip ?_
 refine then_norm ?_
 refine wp_seq ?_
 refine wp_block ?_
 refine aX h [] [eS 14 _,eS 8 _] ⟨rfl,rfl,T0⟩ [(2,_),(3,_),(4,_),(5,_),(6,_),(7,_),(8,.val (Value.int .i64 2)),(9,_),(12,_)] [(2,_),(3,_),(4,_),(5,_)] (fun a w h=>?_)
 refine aE h [2,11,15] [eS 16 _,eS 17 _,eS 18 (.val (Value.int .i64 5)),eS 19 _,eS 20 _,eS 21 _,eS 22 _,eS 23 _,eS 24 _,eS 25 _,eS 26 _,eS 27 (.val (Value.int .i64 5)),eS 28 _,eS 29 _,eS 30 _,eS 31 _,eS 15 _,eS 32 _,eS 33 _,eS 7 _,eS 34 _,eM 5 _] ⟨rfl,rfl,fun L u=>u_bin u (gd0 rfl) _ rfl _ _ _ _ _ rfl rfl rfl (eqg_int _ _ _ _ _ _ _ _) _ (fun w=>i_add _ _ _ _ (by decide) (by decide) w),rfl,rfl,rfl,rfl,rfl,rfl,rfl,rfl,fun L u=>u_bin u (gd0 rfl) _ rfl _ _ _ _ _ rfl rfl rfl (eqg_int _ _ _ _ _ _ _ _) _ (fun w=>i_add _ _ _ _ (by decide) (by decide) w),rfl,rfl,rfl,fun L u=>u_call u (gd0 rfl) _ rfl _ _ _ rfl [_,_,_,_] rfl (m_cE86 _) _ (fun w hb=>C32.out w),rfl,rfl,rfl,rfl,rfl,rfl,T0⟩ [(2,_),(3,_),(4,_),(5,_),(6,_),(7,.val (Value.int .u64 h32)),(9,_),(12,_)] [(2,_),(3,_),(4,_),(5,[Value.int .u64 l00]++[Value.int .u64 l10]++[Value.int .u64 l20]++[Value.int .u64 l30]++[Value.int .u64 l31]++[Value.int .u64 l32]++[Value.int .u64 h23]++[Value.int .u64 0])] (fun a w h=>?_)
 refine blk_norm ?_
 refine then_norm ?_
 refine aE h [0] [eS 35 (.val (Value.int .i64 3)),eS 12 _] ⟨fun L u=>u_bin u (gd0 rfl) _ rfl _ _ _ _ _ rfl rfl rfl (eqg_int _ _ _ _ _ _ _ _) _ (fun w=>i_add _ _ _ _ (by decide) (by decide) w),rfl,T0⟩ [(2,_),(3,_),(4,_),(5,_),(6,_),(7,_),(9,_),(12,.val (Value.int .i64 3))] [(2,_),(3,_),(4,_),(5,_)] (fun a w h=>?_)
 refine then_norm ?_
 rw [rounds_succ]
 refine aX h [0] [eS 13 (.val (Value.bool true))] ⟨fun L u=>u_bin u (gd0 rfl) _ rfl _ _ _ _ _ rfl rfl rfl (eqg_int _ _ _ _ _ _ _ _) _ (yes_of (fun w=>i_lss _ _ _ _ w) (by decide)),T0⟩ [(2,_),(3,_),(4,_),(5,_),(6,_),(7,_),(9,_),(12,_),(13,.val (Value.bool true))] [(2,_),(3,_),(4,_),(5,_)] (fun a w h=>?_)
 refine wp_seq ?_
 refine go_cond h true rfl (fun ht=>?_) (fun hf=>?_)
 case refine_2=>cases hf
 refine wp_skip ?_
 refine then_norm ?_
 refine wp_seq ?_
 refine wp_block ?_
 refine aX h [] [eS 14 _,eS 8 _] ⟨rfl,rfl,T0⟩ [(2,_),(3,_),(4,_),(5,_),(6,_),(7,_),(8,.val (Value.int .i64 3)),(9,_),(12,_)] [(2,_),(3,_),(4,_),(5,_)] (fun a w h=>?_)
 refine aE h [2,11,15] [eS 16 _,eS 17 _,eS 18 (.val (Value.int .i64 6)),eS 19 _,eS 20 _,eS 21 _,eS 22 _,eS 23 _,eS 24 _,eS 25 _,eS 26 _,eS 27 (.val (Value.int .i64 6)),eS 28 _,eS 29 _,eS 30 _,eS 31 _,eS 15 _,eS 32 _,eS 33 _,eS 7 _,eS 34 _,eM 5 _] ⟨rfl,rfl,fun L u=>u_bin u (gd0 rfl) _ rfl _ _ _ _ _ rfl rfl rfl (eqg_int _ _ _ _ _ _ _ _) _ (fun w=>i_add _ _ _ _ (by decide) (by decide) w),rfl,rfl,rfl,rfl,rfl,rfl,rfl,rfl,fun L u=>u_bin u (gd0 rfl) _ rfl _ _ _ _ _ rfl rfl rfl (eqg_int _ _ _ _ _ _ _ _) _ (fun w=>i_add _ _ _ _ (by decide) (by decide) w),rfl,rfl,rfl,fun L u=>u_call u (gd0 rfl) _ rfl _ _ _ rfl [_,_,_,_] rfl (m_cE86 _) _ (fun w hb=>C33.out w),rfl,rfl,rfl,rfl,rfl,rfl,T0⟩ [(2,_),(3,_),(4,_),(5,_),(6,_),(7,.val (Value.int .u64 h33)),(9,_),(12,_)] [(2,_),(3,_),(4,_),(5,[Value.int .u64 l00]++[Value.int .u64 l10]++[Value.int .u64 l20]++[Value.int .u64 l30]++[Value.int .u64 l31]++[Value.int .u64 l32]++[Value.int .u64 l33]++[Value.int .u64 0])] (fun a w h=>?_)
 refine blk_norm ?_
 refine then_norm ?_
 refine aE h [0] [eS 35 (.val (Value.int .i64 4)),eS 12 _] ⟨fun L u=>u_bin u (gd0 rfl) _ rfl _ _ _ _ _ rfl rfl rfl (eqg_int _ _ _ _ _ _ _ _) _ (fun w=>i_add _ _ _ _ (by decide) (by decide) w),rfl,T0⟩ [(2,_),(3,_),(4,_),(5,_),(6,_),(7,_),(9,_),(12,.val (Value.int .i64 4))] [(2,_),(3,_),(4,_),(5,_)] (fun a w h=>?_)
 refine then_norm ?_
 rw [rounds_succ]
 refine aX h [0] [eS 13 (.val (Value.bool false))] ⟨fun L u=>u_bin u (gd0 rfl) _ rfl _ _ _ _ _ rfl rfl rfl (eqg_int _ _ _ _ _ _ _ _) _ (no_of (fun w=>i_lss _ _ _ _ w) (by decide)),T0⟩ [(2,_),(3,_),(4,_),(5,_),(6,_),(7,_),(9,_),(12,_),(13,.val (Value.bool false))] [(2,_),(3,_),(4,_),(5,_)] (fun a w h=>?_)
 refine wp_seq ?_
 refine go_cond h false rfl (fun ht=>?_) (fun hf=>?_)
 case refine_1=>cases ht
 refine wp_exit ?_
 refine then_exit ?_
 refine then_exit ?_
 refine blk_exit ?_
 refine then_norm ?_
 refine aE h [1] [eS 36 _,eS 37 (.val (Value.int .i64 7)),eS 38 _,eS 39 _,eM 5 _] ⟨rfl,fun L u=>u_bin u (gd0 rfl) _ rfl _ _ _ _ _ rfl rfl rfl (eqg_int _ _ _ _ _ _ _ _) _ (fun w=>i_add _ _ _ _ (by decide) (by decide) w),rfl,rfl,rfl,T0⟩ [(2,_),(3,_),(4,_),(5,_),(9,_)] [(2,_),(3,_),(4,_),(5,[Value.int .u64 l00]++[Value.int .u64 l10]++[Value.int .u64 l20]++[Value.int .u64 l30]++[Value.int .u64 l31]++[Value.int .u64 l32]++[Value.int .u64 l33]++[Value.int .u64 h33])] (fun a w h=>?_)
 refine blk_norm ?_
 refine then_norm ?_
 refine aE h [0] [eS 40 (.val (Value.int .i64 4)),eS 9 _] ⟨fun L u=>u_bin u (gd0 rfl) _ rfl _ _ _ _ _ rfl rfl rfl (eqg_int _ _ _ _ _ _ _ _) _ (fun w=>i_add _ _ _ _ (by decide) (by decide) w),rfl,T0⟩ [(2,_),(3,_),(4,_),(5,_),(9,.val (Value.int .i64 4))] [(2,_),(3,_),(4,_),(5,_)] (fun a w h=>?_)
 refine then_norm ?_
 rw [rounds_succ]
 refine aX h [0] [eS 10 (.val (Value.bool false))] ⟨fun L u=>u_bin u (gd0 rfl) _ rfl _ _ _ _ _ rfl rfl rfl (eqg_int _ _ _ _ _ _ _ _) _ (no_of (fun w=>i_lss _ _ _ _ w) (by decide)),T0⟩ [(2,_),(3,_),(4,_),(5,_),(9,_),(10,.val (Value.bool false))] [(2,_),(3,_),(4,_),(5,_)] (fun a w h=>?_)
 refine wp_seq ?_
 refine go_cond h false rfl (fun ht=>?_) (fun hf=>?_)
 case refine_1=>cases ht
 refine wp_exit ?_
 refine then_exit ?_
 refine then_exit ?_
 refine blk_exit ?_
 refine then_norm ?_
 refine aX h [] [eS 41 _,eM 4 _] ⟨rfl,rfl,T0⟩ [(4,_)] [(4,[Value.int .u64 l00]++[Value.int .u64 l10]++[Value.int .u64 l20]++[Value.int .u64 l30]++[Value.int .u64 l31]++[Value.int .u64 l32]++[Value.int .u64 l33]++[Value.int .u64 h33])] (fun a w h=>?_)
 refine wp_ret ?_
 refine ret_row h 4 63 rfl (lk rfl) 4 rfl ([Value.int .u64 l00]++[Value.int .u64 l10]++[Value.int .u64 l20]++[Value.int .u64 l30]++[Value.int .u64 l31]++[Value.int .u64 l32]++[Value.int .u64 l33]++[Value.int .u64 h33]) rfl _ Tryd.underlying63 rfl m_i63 ?_
 exact ⟨l00,l10,l20,l30,l31,l32,l33,h33,Wl00,Wl10,Wl20,Wl30,Wl31,Wl32,Wl33,Wh33,mul_val e00 e01 e02 e03 e10 e11 e12 e13 e20 e21 e22 e23 e30 e31 e32 e33,rfl,h.grows⟩
end Go.Proofs.YtjaahnlpnkcimaaDoor
