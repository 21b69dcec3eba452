/- Layer 18: the document's own turned and Path. -/
import Derived.Test.YteplklbpehkdjaaDoorR16B
import Derived.Test.YteplklbpehkdjaaDoorH17
import Derived.Test.YteplklbpehkdjaaDoorM18
namespace Go.Proofs.YteplklbpehkdjaaDoor
set_option maxRecDepth 100000
open Go.RowKit
attribute [local go_sem ↓] Go.wp_at_zero Go.wp_at_succ

theorem rev_take {L : List (Nat → Nat)} {k i : Nat} (hi : i + k + 1 = L.length) : L.reverse.take k ++ [lF L i] = L.reverse.take (k + 1) := by
  have h : L.reverse[k]? = some (lF L i) := by
    rw [List.getElem?_reverse (by omega), show L.length - 1 - k = i by omega]
    unfold lF
    rw [List.getD_eq_getElem?_getD, List.getElem?_eq_getElem (by omega)]
    rfl
  rw [List.take_add_one, h]
  rfl
/-- What a list of hashes that is told is. -/
def TuP (w : World) (L : List (Nat → Nat)) (e : Ending) (w' : World) : Prop := ∃ v, e = .returned v ∧ OH w' w.heap.size v L.length (lF L) ∧ Below w.heap.size w w'
structure TuR (w wr : World) (L : List (Nat → Nat)) (k : Nat) (s3 : Value) : Prop where
  b : Below w.heap.size w wr
  o : OH wr w.heap.size s3 (L.reverse.take k).length (lF (L.reverse.take k))
set_option maxRecDepth 100000 in
set_option maxHeartbeats 4000000 in
theorem turned_any {w : World} {x : Option Addr} {c n : Nat} {L : List (Nat → Nat)} (hx : HL w x n (lF L)) (hl : L.length = n) (hn : n ≤ 100000) :
    Calls Tryd.prog 17 #[.slice x n c] w (TuP w L.reverse) := by
  have HX := hide hx
  have HN := hide (And.intro hn hl)
  have HE0 : Hid (TuR w w L 0 (.slice none 0 0)) := ⟨Below.refl _ _, OH.nil _ _ _⟩
  have hw0 : wrap64 ((n : Int) - 1) = (n : Int) - 1 := by unfold wrap64; omega
  clear hx hn hl
  go_enter Tryd.func17, Tryd.ntmps17
  go_wp2_with fail
  go_loopg [3, 4] n (fun g' s3 s4 wr => ∃ (k : Nat) (z : Int), g' = n - k ∧ k ≤ n ∧ z = (n : Int) - 1 - (k : Int) ∧ s4 = .int .i64 z ∧ TuR w wr L k s3)
  case atStart => exact ⟨0, _, rfl, Nat.zero_le _, by omega, rfl, HE0.out⟩
  case round =>
    clear HE0 hw0
    obtain ⟨k, z, rfl, hk, hz, rfl, hT⟩ := hrel
    have HT := hide hT
    clear hT
    by_cases hlt : k < n
    · obtain ⟨i, hi⟩ : ∃ i : Nat, z = (i : Int) := ⟨z.toNat, by omega⟩
      subst hi
      have hin : i + k + 1 = n := by omega
      have hi0 : ¬ ((i : Int) < 0) := by omega
      have hi1 : (0 : Int) ≤ (i : Int) := by omega
      have hi2 : (i : Int) < (n : Int) := by omega
      have hw1 : wrap64 ((i : Int) - 1) = (i : Int) - 1 := by unfold wrap64; have := HN.out.1; omega
      rcases HX.out.at_ with h5 | ⟨b, o, rfl, hr⟩
      · omega
      have HR := hide (range_keep (hr i (by omega)) HT.out.b)
      have HFl : Hid (∀ j, lF L i j < 256) := HX.out.lt i
      have HIk := hide (And.intro hin hlt)
      obtain ⟨s1, hs1⟩ : ∃ s1, s1 = lF L i := ⟨_, rfl⟩
      rw [← hs1] at HR HFl
      have HS1 := hide hs1
      have hb3 := HT.out.b.size
      have hlk : (L.reverse.take k).length = k := by rw [List.length_take, List.length_reverse, HN.out.2]; omega
      clear hr hs1 hz hin
      go_upto_region 4 with (first
        | refine wpList_load_h rfl _ rfl rfl HR.out ?_
        | (refine wpList_oneH rfl rfl (by rfl) HFl.out ?_; intro q W4 hq4 hl4 ho4 hb4; have HO4 := hide (HT.out.o.keep hb4); have HL4 := hide ho4; have HB4 := hide (K.call HT.out.b hb4); clear hq4 hl4 ho4 hb4)
        | (at_builtin; refine wpList_appH rfl _ _ rfl rfl HO4.out rfl HL4.out (by have := HN.out.1; omega) HB4.out.size ?_; intro v5 W5 ho5 hg5; have HB5 := hide (OH.below HO4.out HB4.out hg5); have HO5 := hide (OH.snoc ho5); clear ho5 hg5))
      go_wp2_with fail
      go_roundg (n - (k + 1))
      case measure => have := HIk.out.2; omega
      case rel => exact ⟨k + 1, _, rfl, HIk.out.2, by have := HIk.out.1; omega, rfl, HB5.out, by
        have h5 := HO5.out
        rw [HS1.out, rev_take (by rw [HN.out.2]; exact HIk.out.1)] at h5
        exact h5⟩
    · have h0 : k = n := by omega
      have hi1 : ¬ ((0 : Int) ≤ z) := by omega
      have HK := hide h0
      clear hz h0
      go_wp2_with fail
      go_ret
      have hO := HT.out.o
      rw [HK.out, List.take_of_length_le (by rw [List.length_reverse, HN.out.2]; exact Nat.le_refl _)] at hO
      exact ⟨_, rfl, hO, HT.out.b⟩
end Go.Proofs.YteplklbpehkdjaaDoor
