/- How the parameters, and the listed variables, are read before the call. -/
import Derived.Test.YtmigakanbeckpaaGreatDoorV32
import Derived.Test.YtmigakanbeckpaaGreatDoorV28
import Derived.Test.YtmigakanbeckpaaGreatDoorTie
import Derived.Test.YtmigakanbeckpaaGreatDoorCards
import Derived.ProofKit
import Derived.LaidMore
import Derived.MakeChecks
import Derived.Lib.LaidTab
import Derived.Stop.LaidErr
import Derived.Laws.IdiomArrays
import Derived.OpenShut
import Derived.Carry
import Derived.ChangeMaps5
import Derived.Stop.Joined
namespace Go.Proofs.YtmigakanbeckpaaGreatDoor
set_option maxRecDepth 100000
open Go.ChangeShapes Go.WideShapes Go.ChangeAt Go.RowKit
theorem own:ownKnob Tryz.prog.godebug=none:=by kernel_rfl
theorem cellsU64:Tryz.prog.cellsOf 22=1:=by kernel_rfl
theorem cellsNat:Tryz.prog.cellsOf 24=4:=by kernel_rfl
theorem Tryz.laidOut:laidOutB Tryz.prog=true:=by kernel_rfl
theorem cellsU8:Tryz.prog.cellsOf 5=1:=by kernel_rfl
theorem open_bytes {H:Type} {enc:TypeId × Value→H} {W:World} {base:Nat} {v:Value} {d:DataW H} {p:List MemPlace}
  (hv:Value.okWide Tryz.prog W .any base 25 v) (h:DataW.Trod enc Tryz.prog W 0 (fun _=>true) true 25 v d p) :
  ∃ a n c f,v=.slice a n c∧BA W a n f∧n≤c∧c≤maxLen:=by
 obtain ⟨a0,len,cap,rfl⟩:=okWide_slice Tryz.underlying25 hv
 obtain ⟨fuel,hf⟩:=h
 rcases open_ints Tryz.underlying25 Tryz.underlying5 cellsU8 hf with ⟨hcs,hx⟩ | ⟨a,len',cap',zs,hcs,_,hl,hm,hz,hx,hcell,hwz⟩
 ·simp [Value.cells] at hcs
  obtain ⟨rfl,rfl,rfl⟩:=hcs
  exact ⟨none,0,0,fun _=>0,rfl,⟨fun _=>by omega,Or.inl rfl⟩,by omega,by unfold maxLen;omega⟩
 ·simp [Value.cells] at hcs
  obtain ⟨rfl,rfl,rfl⟩:=hcs
  simp only [if_true] at hz
  have hr:∀ i,0≤zs.getD i 0∧zs.getD i 0<256:=fun i=>by
   have h:=range_u8 hwz i
   simp only [List.getD_eq_getElem?_getD]
   omega
  refine ⟨some a,len,cap,fun i=>(zs.getD i 0).toNat,rfl,⟨fun i=>by have:=hr i;omega,?_⟩,hl,hm⟩
  by_cases h0:len=0
  ·exact Or.inl h0
  ·obtain ⟨b,off,rfl,hc⟩:=ints_at hcell (by omega)
   exact Or.inr ⟨b,off,rfl,⟨fun i hi=>by
    have:=hr i
    rw [hc i (by omega),Int.toNat_of_nonneg this.1]⟩⟩
theorem gMod : Tryz.prog.globalNamed "chronicle/field.moduli" = some 1 := by kernel_rfl
theorem tMod:(Tryz.prog.globals[1]?).map (·.type)=some 129:=by kernel_rfl
theorem gB : Tryz.prog.globalNamed "chronicle/p256.curveB" = some 0 := by kernel_rfl
theorem tB:(Tryz.prog.globals[0]?).map (·.type)=some 24:=by kernel_rfl
theorem gFirst : Tryz.prog.globalNamed "chronicle/sha256.first" = some 2 := by kernel_rfl
theorem tFirst:(Tryz.prog.globals[2]?).map (·.type)=some 111:=by kernel_rfl
theorem gK : Tryz.prog.globalNamed "chronicle/sha256.constants" = some 4 := by kernel_rfl
theorem tK:(Tryz.prog.globals[4]?).map (·.type)=some 151:=by kernel_rfl
theorem gErr : Tryz.prog.globalNamed "chronicle/der.errByte" = some 3 := by kernel_rfl
theorem tErr:(Tryz.prog.globals[3]?).map (·.type)=some 141:=by kernel_rfl
theorem cellsModuli:Tryz.prog.cellsOf 129=16:=by kernel_rfl
theorem cellsMod:Tryz.prog.cellsOf 107=4:=by kernel_rfl
theorem cellsU32:Tryz.prog.cellsOf 109=1:=by kernel_rfl
theorem cellsSt:Tryz.prog.cellsOf 111=8:=by kernel_rfl
theorem cellsW64:Tryz.prog.cellsOf 151=64:=by kernel_rfl
theorem list16 {α:Type} (l:List α) (h:l.length=16):∃ x0 x1 x2 x3 x4 x5 x6 x7 x8 x9 x10 x11 x12 x13 x14 x15,l=[x0,x1,x2,x3,x4,x5,x6,x7,x8,x9,x10,x11,x12,x13,x14,x15]:=by
 match l,h with
 | [x0,x1,x2,x3,x4,x5,x6,x7,x8,x9,x10,x11,x12,x13,x14,x15],_=>exact ⟨x0,x1,x2,x3,x4,x5,x6,x7,x8,x9,x10,x11,x12,x13,x14,x15,rfl⟩
theorem cells_of_table {H:Type} {enc:TypeId × Value→H} {W:World} {sp:Nat→Bool} {held:Bool} {fuel:Nat} {l:List Value} {p:List MemPlace}
  (h:DataW.trod enc Tryz.prog W 0 sp held fuel 129 l=some (Rows.laid_chronicle_field_moduli,p)):l=[.int .u64 18446744073709551615,.int .u64 4294967295,.int .u64 0,.int .u64 18446744069414584321,.int .u64 17562291160714782033,.int .u64 13611842547513532036,.int .u64 18446744073709551615,.int .u64 18446744069414584320,.int .u64 18446744073709551597,.int .u64 18446744073709551615,.int .u64 18446744073709551615,.int .u64 9223372036854775807,.int .u64 6346243789798364141,.int .u64 1503914060200516822,.int .u64 0,.int .u64 1152921504606846976]:=by
 cases fuel with
 | zero=>simp [DataW.trod] at h
 | succ fuel =>
  simp only [DataW.trod,Tryz.underlying129,cellsModuli,cellsMod] at h
  split at h
  ·rename_i hl
   obtain ⟨x0,x1,x2,x3,x4,x5,x6,x7,x8,x9,x10,x11,x12,x13,x14,x15,rfl⟩:=list16 l (by simpa using hl)
   rw [show List.range 4=[0,1,2,3] from rfl] at h
   simp only [Option.map_eq_some_iff,List.mapM_cons,List.mapM_nil,Option.bind_eq_bind,Option.bind_eq_some_iff,Option.pure_def,Option.some.injEq] at h
   obtain ⟨ys,⟨y0,h0,_,⟨y1,h1,_,⟨y2,h2,_,⟨y3,h3,_,rfl,rfl⟩,rfl⟩,rfl⟩,rfl⟩,hx⟩:=h
   obtain ⟨d0,p0⟩:=y0
   obtain ⟨d1,p1⟩:=y1
   obtain ⟨d2,p2⟩:=y2
   obtain ⟨d3,p3⟩:=y3
   simp only [Rows.laid_chronicle_field_moduli,List.map_cons,List.map_nil,Prod.mk.injEq,DataW.agg.injEq,List.cons.injEq,and_true] at hx
   obtain ⟨⟨e0,e1,e2,e3⟩,_⟩:=hx
   subst e0 e1 e2 e3
   have g0:=Lib.cells_of_tab (k:=.u64) (zs:=[18446744073709551615,4294967295,0,18446744069414584321]) Tryz.underlying107 Tryz.underlying22 cellsU64 cellsMod h0
   have g1:=Lib.cells_of_tab (k:=.u64) (zs:=[17562291160714782033,13611842547513532036,18446744073709551615,18446744069414584320]) Tryz.underlying107 Tryz.underlying22 cellsU64 cellsMod h1
   have g2:=Lib.cells_of_tab (k:=.u64) (zs:=[18446744073709551597,18446744073709551615,18446744073709551615,9223372036854775807]) Tryz.underlying107 Tryz.underlying22 cellsU64 cellsMod h2
   have g3:=Lib.cells_of_tab (k:=.u64) (zs:=[6346243789798364141,1503914060200516822,0,1152921504606846976]) Tryz.underlying107 Tryz.underlying22 cellsU64 cellsMod h3
   simp at g0 g1 g2 g3
   simp [g0,g1,g2,g3]
  ·cases h
theorem first_at:∀ i,i<8→([1779033703,3144134277,1013904242,2773480762,1359893119,2600822924,528734635,1541459225]:List Int).getD i 0=Sh.wn (Sh.start.w i):=by decide +kernel
theorem k_at:∀ i,i<64→([1116352408,1899447441,3049323471,3921009573,961987163,1508970993,2453635748,2870763221,3624381080,310598401,607225278,1426881987,1925078388,2162078206,2614888103,3248222580,3835390401,4022224774,264347078,604807628,770255983,1249150122,1555081692,1996064986,2554220882,2821834349,2952996808,3210313671,3336571891,3584528711,113926993,338241895,666307205,773529912,1294757372,1396182291,1695183700,1986661051,2177026350,2456956037,2730485921,2820302411,3259730800,3345764771,3516065817,3600352804,4094571909,275423344,430227734,506948616,659060556,883997877,958139571,1322822218,1537002063,1747873779,1955562222,2024104815,2227730452,2361852424,2428436474,2756734187,3204031479,3329325298]:List Int).getD i 0=Sh.wn (Sh.kW i):=by decide +kernel
theorem cellsSErr:Tryz.prog.cellsOf 179=1:=by kernel_rfl
theorem cellsStr:Tryz.prog.cellsOf 9=1:=by kernel_rfl
theorem star : "*" ++ "errors.errorString" = "*errors.errorString" := by decide
theorem rowErr (u : TypeId) (h : Tryz.prog.typeName? 3 u = some "*errors.errorString") : u = 163 :=
 typeName_ptr_named (nm := "errors.errorString") (by rw [star]; kernel_rfl) (by kernel_rfl) (by decide) u (by rw [star]; exact h)
def laid1 : List (String × DataW Unit) := [("chronicle/sha256.first", Rows.laid_chronicle_sha256_first), ("chronicle/sha256.constants", Rows.laid_chronicle_sha256_constants), ("chronicle/field.moduli", Rows.laid_chronicle_field_moduli), ("chronicle/p256.curveB", Rows.laid_chronicle_p256_curveB), ("chronicle/der.errByte", Rows.laid_chronicle_der_errByte)]
theorem tab_of_laid {W:World} (h:laidMetH Tryz.prog laid1 W):Tab W∧Sh.Tab W∧De.Tab W:=by
 rw [MakeChecks.laidMetH_plain _ _ _ (by kernel_rfl)] at h
 have hf : Lib.TabIs Tryz.prog W "chronicle/sha256.first" .u32 [1779033703, 3144134277, 1013904242, 2773480762, 1359893119, 2600822924, 528734635, 1541459225] := Lib.tabIs_of_head (rest := [("chronicle/sha256.constants", Rows.laid_chronicle_sha256_constants), ("chronicle/field.moduli", Rows.laid_chronicle_field_moduli), ("chronicle/p256.curveB", Rows.laid_chronicle_p256_curveB), ("chronicle/der.errByte", Rows.laid_chronicle_der_errByte)]) gFirst tFirst Tryz.underlying111 Tryz.underlying109 cellsU32 cellsSt h
 have h0x:=h.tail
 have hk : Lib.TabIs Tryz.prog W "chronicle/sha256.constants" .u32 [1116352408, 1899447441, 3049323471, 3921009573, 961987163, 1508970993, 2453635748, 2870763221, 3624381080, 310598401, 607225278, 1426881987, 1925078388, 2162078206, 2614888103, 3248222580, 3835390401, 4022224774, 264347078, 604807628, 770255983, 1249150122, 1555081692, 1996064986, 2554220882, 2821834349, 2952996808, 3210313671, 3336571891, 3584528711, 113926993, 338241895, 666307205, 773529912, 1294757372, 1396182291, 1695183700, 1986661051, 2177026350, 2456956037, 2730485921, 2820302411, 3259730800, 3345764771, 3516065817, 3600352804, 4094571909, 275423344, 430227734, 506948616, 659060556, 883997877, 958139571, 1322822218, 1537002063, 1747873779, 1955562222, 2024104815, 2227730452, 2361852424, 2428436474, 2756734187, 3204031479, 3329325298] := Lib.tabIs_of_head (rest := [("chronicle/field.moduli", Rows.laid_chronicle_field_moduli), ("chronicle/p256.curveB", Rows.laid_chronicle_p256_curveB), ("chronicle/der.errByte", Rows.laid_chronicle_der_errByte)]) gK tK Tryz.underlying151 Tryz.underlying109 cellsU32 cellsW64 h0x
 have h1x:=h0x.tail
 have hmo:=h1x
 have h2x:=h1x.tail
 have hB : Lib.TabIs Tryz.prog W "chronicle/p256.curveB" .u64 [4309448131093880907, 7285987128567378166, 12964664127075681980, 6540974713487397863] := Lib.tabIs_of_head (rest := [("chronicle/der.errByte", Rows.laid_chronicle_der_errByte)]) gB tB Tryz.underlying24 Tryz.underlying22 cellsU64 cellsNat h2x
 have h3x:=h2x.tail
 obtain ⟨a0,s0,hv0,-,-,-⟩:=laid_sentinel h3x gErr tErr Tryz.underlying141 rowErr Tryz.underlying163 Tryz.underlying179 rfl rfl Tryz.underlying9 cellsSErr cellsStr
 obtain ⟨ps,⟨g,t,cs,fuel,p,q,hg,ht,hvar,hd,_,_⟩,_⟩:=hmo
 obtain rfl:=Option.some.inj (gMod.symm.trans hg)
 obtain rfl:=Option.some.inj (tMod.symm.trans ht)
 have hcs:=cells_of_table hd
 obtain ⟨l⟩:=cs
 simp only at hcs
 subst hcs
 refine ⟨?_,?_,?_⟩
 ·exact ⟨World.var?_cell hg hvar 0,World.var?_cell hg hvar 1,World.var?_cell hg hvar 2,World.var?_cell hg hvar 3,World.var?_cell hg hvar 4,World.var?_cell hg hvar 5,World.var?_cell hg hvar 6,World.var?_cell hg hvar 7,World.var?_cell hg hvar 8,World.var?_cell hg hvar 9,World.var?_cell hg hvar 10,World.var?_cell hg hvar 11,World.var?_cell hg hvar 12,World.var?_cell hg hvar 13,World.var?_cell hg hvar 14,World.var?_cell hg hvar 15,hB.cell gB 0 (by decide),hB.cell gB 1 (by decide),hB.cell gB 2 (by decide),hB.cell gB 3 (by decide)⟩
 ·exact ⟨fun i hi=>by rw [← first_at i hi];exact hf.cell gFirst i hi,fun i hi=>by rw [← k_at i hi];exact hk.cell gK i hi⟩
 ·exact ⟨_,_,by have h0:=World.var?_cell gErr hv0 0;simpa using h0⟩
theorem door_met (os:Os) (args:Array Value):laidMetH Tryz.prog laid1 ((World.doorLaid Tryz.prog 200 os).forCall (fun _ _=>0) ⟨#[],args,[]⟩).memory :=
 laidMetH_of_parts3 (fuel:=8) (laidMet_of_run' 8 (by kernel_rfl) (by kernel_rfl)) (by kernel_rfl) (by kernel_rfl)
end Go.Proofs.YtmigakanbeckpaaGreatDoor
