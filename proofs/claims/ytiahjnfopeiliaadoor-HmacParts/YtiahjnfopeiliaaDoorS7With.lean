/- What the document's own with answers. -/
import Derived.Test.YtiahjnfopeiliaaDoorS7MacR
namespace Go.Proofs.YtiahjnfopeiliaaDoor
open Go.RowKit
attribute [local go_sem ↓] Go.wp_at_zero Go.wp_at_succ

/-- 32 bytes, a byte, and some more. -/
def withF (v : Nat → Nat) (b : Nat) (g : Nat → Nat) : Nat → Nat := cat (cat v 32 (fun _ => b)) 33 g
set_option maxRecDepth 100000 in
set_option maxHeartbeats 8000000 in
theorem refWith_any {v : Nat → Nat} {b : Nat} {y : Option Addr} {m d : Nat} {g : Nat → Nat} {w : World} (hv : ∀ i, v i < 256) (hb : b < 256) (hy : BA w y m g) (hm : m ≤ 70000) :
    Calls Tryd.prog 19 #[.agg (ab v 32).toArray, .int .u8 (b : Int), .slice y m d] w fun e w' => ∃ a c, e = .returned (.slice a (33 + m) c) ∧ BA w' a (33 + m) (withF v b g) ∧ Below w.heap.size w w' := by
  have HV := hide hv
  have HY := hide hy
  have HM := hide hm
  have HBb := hide hb
  have hbi : (b : Int) < 256 := by omega
  clear hv hy hm hb
  have HMA : Hid (∀ W : World, RowB (W.alloc (.cells (ab v 32).toArray 25)) W.heap.size 32 v) := fun W => RowB.made W _ 32 v _ rfl
  generalize (ab v 32).toArray = A at *
  go_enter Tryd.func19, Tryd.ntmps19
  go_upto_region 1 with fail
  have hR := HMA.out w
  have hB := K.alloc (Below.refl _ w) (.cells A 25)
  generalize w.alloc (.cells A 25) = X at *
  have HBA := hide (RowB.ba hR HV.out)
  have hO0 : X.ownsRow X.heap.size 5 1 (.slice none 0 0) 0 (cells8 []) := World.ownsRow_nil _ _ _ _
  clear HMA hR
  go_upto_region 3 with (at_builtin; refine wpList_app rfl _ _ rfl rfl hO0 rfl HBA.out (by omega) (Nat.le_refl _) ?_; intro v1 w1 hO1 hg1)
  rw [Nat.zero_add, List.nil_append] at hO1
  have hb1 : Below X.heap.size X w1 := (Below.refl _ X).grown hg1 (Nat.le_refl _) (fun k hk => by cases hk)
  clear hO0 hg1 HBA
  go_upto_region 4 with (at_builtin; refine wpList_app rfl _ _ rfl rfl (hO1.alloc _) rfl (one_made w1 b HBb.out) (by omega) (by have := hb1.size; simp; omega) ?_; intro v2 w2 hO2 hg2)
  have hb2 : Below X.heap.size X w2 := (K.alloc hb1 _).grown hg2 (K.alloc hb1 _).size (fun k hk => (hO1.lt k hk).1)
  rw [fl_cat] at hO2
  have HY2 := hide (HY.out.keep (K.call hB hb2))
  clear hO1 hb1 hg2
  go_wp2_with (at_builtin; refine wpList_app rfl _ _ rfl rfl hO2 rfl HY2.out (by have := HM.out; omega) hb2.size ?_; intro v3 w3 hO3 hg3)
  have hb3 : Below X.heap.size X w3 := hb2.grown hg3 hb2.size (fun k hk => (hO2.lt k hk).1)
  rw [fl_cat] at hO3
  obtain ⟨a3, c3, rfl, _, _⟩ := own_max hO3
  go_ret
  exact ⟨_, _, rfl, own_ba hO3 (cat_lt (cat_lt HV.out (fun _ => HBb.out) 32) HY.out.lt 33), K.call hB hb3⟩
end Go.Proofs.YtiahjnfopeiliaaDoor
