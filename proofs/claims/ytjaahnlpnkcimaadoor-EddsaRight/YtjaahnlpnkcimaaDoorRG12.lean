/- Eight words in a block of their own. -/
import Derived.Test.YtjaahnlpnkcimaaDoorRG02
namespace Go.Proofs.YtjaahnlpnkcimaaDoor
set_option maxRecDepth 100000
open Go.RowKit
structure Arr8 (w:World) (b:Nat) (x:Int):Prop where
 lt:b<w.heap.size
 c0:w.cell? ⟨b,0,none⟩=some (.int .u64 (L 0 x))
 c1:w.cell? ⟨b,1,none⟩=some (.int .u64 (L 1 x))
 c2:w.cell? ⟨b,2,none⟩=some (.int .u64 (L 2 x))
 c3:w.cell? ⟨b,3,none⟩=some (.int .u64 (L 3 x))
 c4:w.cell? ⟨b,4,none⟩=some (.int .u64 (L 4 x))
 c5:w.cell? ⟨b,5,none⟩=some (.int .u64 (L 5 x))
 c6:w.cell? ⟨b,6,none⟩=some (.int .u64 (L 6 x))
 c7:w.cell? ⟨b,7,none⟩=some (.int .u64 (L 7 x))
 f0:w.frozen? ⟨b,0,none⟩=false
 f1:w.frozen? ⟨b,1,none⟩=false
 f2:w.frozen? ⟨b,2,none⟩=false
 f3:w.frozen? ⟨b,3,none⟩=false
 f4:w.frozen? ⟨b,4,none⟩=false
 f5:w.frozen? ⟨b,5,none⟩=false
 f6:w.frozen? ⟨b,6,none⟩=false
 f7:w.frozen? ⟨b,7,none⟩=false
theorem Arr8.keep {W w1:World} {b:Nat} {x:Int} (h:Arr8 W b x) (hb:Below W.heap.size W w1):Arr8 w1 b x :=
 ⟨Nat.lt_of_lt_of_le h.lt hb.size,later hb h.c0,later hb h.c1,later hb h.c2,later hb h.c3,later hb h.c4,later hb h.c5,later hb h.c6,later hb h.c7,(hb.frozen (p:=⟨b,0,none⟩) h.lt).trans h.f0,(hb.frozen (p:=⟨b,1,none⟩) h.lt).trans h.f1,(hb.frozen (p:=⟨b,2,none⟩) h.lt).trans h.f2,(hb.frozen (p:=⟨b,3,none⟩) h.lt).trans h.f3,(hb.frozen (p:=⟨b,4,none⟩) h.lt).trans h.f4,(hb.frozen (p:=⟨b,5,none⟩) h.lt).trans h.f5,(hb.frozen (p:=⟨b,6,none⟩) h.lt).trans h.f6,(hb.frozen (p:=⟨b,7,none⟩) h.lt).trans h.f7⟩
theorem Arr8.alloc {W:World} {b:Nat} {x:Int} (h:Arr8 W b x) (o:Obj):Arr8 (W.alloc o) b x :=
 h.keep ((Below.refl _ _).alloc (Nat.le_refl _) o)
theorem Arr8.new (W:World) (b:Nat) (hb:b=W.heap.size) (t:TypeId) (x:Int):Arr8 (W.alloc (.cells #[.int .u64 (L 0 x),.int .u64 (L 1 x),.int .u64 (L 2 x),.int .u64 (L 3 x),.int .u64 (L 4 x),.int .u64 (L 5 x),.int .u64 (L 6 x),.int .u64 (L 7 x)] t)) b x:=by
 subst hb
 constructor <;> simp [go_sem]
theorem Arr8.set4 {W:World} {n b:Nat} {y:Int} (h:Arr8 W b y) (hn:b≠n) (x0 x1 x2 x3:Int):Arr8 ((((W.setCell ⟨n,0,none⟩ (.int .u64 x0)).setCell ⟨n,1,none⟩ (.int .u64 x1)).setCell ⟨n,2,none⟩ (.int .u64 x2)).setCell ⟨n,3,none⟩ (.int .u64 x3)) b y :=
 ⟨by have:=h.lt;simpa using this,set4_other hn _ _ _ _ h.c0,set4_other hn _ _ _ _ h.c1,set4_other hn _ _ _ _ h.c2,set4_other hn _ _ _ _ h.c3,set4_other hn _ _ _ _ h.c4,set4_other hn _ _ _ _ h.c5,set4_other hn _ _ _ _ h.c6,set4_other hn _ _ _ _ h.c7,(set4_frozen _ _ _ _ _).trans h.f0,(set4_frozen _ _ _ _ _).trans h.f1,(set4_frozen _ _ _ _ _).trans h.f2,(set4_frozen _ _ _ _ _).trans h.f3,(set4_frozen _ _ _ _ _).trans h.f4,(set4_frozen _ _ _ _ _).trans h.f5,(set4_frozen _ _ _ _ _).trans h.f6,(set4_frozen _ _ _ _ _).trans h.f7⟩
theorem eq4m (x0 x1 x2 x3 y0 y1 y2 y3:Int) (w:World) :
  (Op.equalIn 10000 67 (.agg #[.int .u64 x0,.int .u64 x1,.int .u64 x2,.int .u64 x3]) (.agg #[.int .u64 y0,.int .u64 y1,.int .u64 y2,.int .u64 y3])).run Tryd.prog w=.ok (x0 == y0 && (x1 == y1 && (x2 == y2 && (x3 == y3 && true)))) w:=by
 obtain ⟨i,hi⟩:=Option.isSome_iff_exists.1 (show (Tryd.prog.info? 31).isSome=true by kernel_rfl)
 rw [run_equalIn_array w 9999 _ _ Tryd.underlying67 hi]
 have hc:Tryd.prog.cellsOf 31=1:=by kernel_rfl
 have r4:List.range 4=[0,1,2,3]:=rfl
 rw [hc,r4]
 exact items_cons _ _ 0 _ _ _ _ rfl rfl w (items_cons _ _ 1 _ _ _ _ rfl rfl w (items_cons _ _ 2 _ _ _ _ rfl rfl w (items_cons _ _ 3 _ _ _ _ rfl rfl w (items_nil _ _ w))))
end Go.Proofs.YtjaahnlpnkcimaaDoor
