/- What field.Modulus, Reduce, Fold and Mul answer. -/
import Derived.Test.YtmigakanbeckpaaGreatDoorRm17
set_option maxHeartbeats 2000000
namespace Go.Proofs.YtmigakanbeckpaaGreatDoor
set_option maxRecDepth 100000
open Go.RowKit
attribute [local go_sem ↓] Go.wp_at_zero Go.wp_at_succ
theorem f_mul {k a b:Int} (hkk:0≤k∧k≤3) (ha:Num a) (hb:Num b) {w:World} (hT:Tab w):Calls Tryz.prog 78 #[.int .i64 k,.agg #[.int .u64 (L 0 a),.int .u64 (L 1 a),.int .u64 (L 2 a),.int .u64 (L 3 a)],.agg #[.int .u64 (L 0 b),.int .u64 (L 1 b),.int .u64 (L 2 b),.int .u64 (L 3 b)]] w fun e w'=>e=.returned (.agg #[.int .u64 (L 0 ((a*b) % md k)),.int .u64 (L 1 ((a*b) % md k)),.int .u64 (L 2 ((a*b) % md k)),.int .u64 (L 3 ((a*b) % md k))])∧Below w.heap.size w w':=by
 go_enter Tryz.func78,Tryz.ntmps78
 go_wp2
 have hR:=(ArrW.new ((w.alloc (.cells #[.int .u64 (L 0 a),.int .u64 (L 1 a),.int .u64 (L 2 a),.int .u64 (L 3 a)] 24)).alloc (.cells #[.int .u64 (L 0 b),.int .u64 (L 1 b),.int .u64 (L 2 b),.int .u64 (L 3 b)] 24)) (w.heap.size+1+1) (by simp) 24 0 0 0 0).keep (Below.refl _ _).drew
 go_region_held3 (fun w'=>Below w.heap.size w w'∧w'.cell? ⟨w.heap.size,0,none⟩=some (.int .u64 (L 0 a))∧w'.cell? ⟨w.heap.size,1,none⟩=some (.int .u64 (L 1 a))∧w'.cell? ⟨w.heap.size,2,none⟩=some (.int .u64 (L 2 a))∧w'.cell? ⟨w.heap.size,3,none⟩=some (.int .u64 (L 3 a))∧w'.cell? ⟨w.heap.size+1,0,none⟩=some (.int .u64 (L 0 b))∧w'.cell? ⟨w.heap.size+1,1,none⟩=some (.int .u64 (L 1 b))∧w'.cell? ⟨w.heap.size+1,2,none⟩=some (.int .u64 (L 2 b))∧w'.cell? ⟨w.heap.size+1,3,none⟩=some (.int .u64 (L 3 b)))
  ((go_split_ands;(repeat' apply And.intro) <;> first | (with_reducible assumption) | (with_reducible exact later hk (by assumption)) | (with_reducible exact K.call (by assumption) hk) | (with_reducible exact later_a (by assumption)) | (with_reducible exact later_ad (by assumption)) | (with_reducible exact set4_other (by omega) _ _ _ _ (by assumption)) | (with_reducible exact K.set4 (by assumption) (by omega) _ _ _ _) | (simp [go_sem];done) | (repeat' (first | (with_reducible assumption) | (with_reducible exact Below.refl _ _) | (with_reducible refine K.drewN ?_ _) | (with_reducible refine K.drew ?_) | (with_reducible refine K.alloc ?_ _)))))
  (first
   | (go_at_call 101;with_reducible refine Calls.mono (modOf_any k (hT.keep (by go_split_ands;assumption))) ?_;rintro e w' ⟨rfl,hk⟩;have hR:=hR.keep hk;have ⟨kr,kr0,kr1,kr2,kr3,kf0,kf1,kf2,kf3⟩:=hR)
   | (go_at_call 117;with_reducible refine Calls.mono (prod_any hkk ha hb _) ?_;rintro e w' ⟨rfl,hk⟩;have hR:=hR.keep hk;have ⟨kr,kr0,kr1,kr2,kr3,kf0,kf1,kf2,kf3⟩:=hR))
 have hH:=‹Below _ _ _∧_›
 go_wp2
 exact bodyPost_ret (v:=.agg #[.int .u64 (L 0 ((a*b) % md k)),.int .u64 (L 1 ((a*b) % md k)),.int .u64 (L 2 ((a*b) % md k)),.int .u64 (L 3 ((a*b) % md k))]) (by simp [results,Tryz.results78,go_sem,kr0,kr1,kr2,kr3]) rfl ⟨rfl,hH.1⟩
end Go.Proofs.YtmigakanbeckpaaGreatDoor
