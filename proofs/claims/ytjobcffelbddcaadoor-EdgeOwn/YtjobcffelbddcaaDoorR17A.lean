/- Layer 17: the document's own Edge. -/
import Derived.Test.YtjobcffelbddcaaDoorR16B
import Derived.Test.YtjobcffelbddcaaDoorH17
namespace Go.Proofs.YtjobcffelbddcaaDoor
set_option maxRecDepth 100000
open Go.RowKit
attribute [local go_sem ↓] Go.wp_at_zero Go.wp_at_succ

theorem eL_lt {F : Nat → Nat → Nat} (hF : ∀ i j, F i j < 256) : ∀ (n : Nat) (p : Nat), ∀ f ∈ eL (fun i => F (p + i)) n, ∀ j, f j < 256 := fun n => by
  induction n using Nat.strongRecOn with
  | ind n ih =>
    intro p f hf j
    by_cases h0 : n = 0
    · subst h0
      rw [eL_zero] at hf
      cases hf
    · have h1 := Nat.two_pow_pos n.log2
      rw [eL_more _ h0] at hf
      rcases List.mem_cons.1 hf with e | e
      · rw [e]; exact rt_lt (fun i => hF (p + i)) _ j
      · refine ih (n - 2 ^ n.log2) (by omega) (p + 2 ^ n.log2) f ?_ j
        have e2 : (fun i => F (p + 2 ^ n.log2 + i)) = fun i => F (p + (2 ^ n.log2 + i)) := by funext i; rw [Nat.add_assoc]
        rw [e2]
        exact e
/-- While the edge is told: L is what is told, p how many hashes these parts have. -/
structure EdR (w wr : World) (x : Option Addr) (n c p : Nat) (F : Nat → Nat → Nat) (L : List (Nat → Nat)) (s0 s3 : Value) : Prop where
  k : Below w.heap.size w wr
  le : p ≤ n
  e : eL F n = L ++ eL (fun i => F (p + i)) (n - p)
  o : OH wr w.heap.size s3 L.length (lF L)
  s : ∃ y c', s0 = .slice y (n - p) c' ∧ HL w y (n - p) (fun i => F (p + i)) ∧ n - p ≤ c' ∧ c' ≤ maxLen
  ln : L.length ≤ p
def EdP (w : World) (F : Nat → Nat → Nat) (n : Nat) (e : Ending) (w' : World) : Prop := ∃ v, e = .returned v ∧ OH w' w.heap.size v (eL F n).length (lF (eL F n)) ∧ Below w.heap.size w w'
set_option maxRecDepth 100000 in
set_option maxHeartbeats 4000000 in
theorem refEdge_any {w : World} {x : Option Addr} {n c : Nat} {F : Nat → Nat → Nat} (hx : HL w x n F) (hc : n ≤ c) (hm : c ≤ maxLen) (hn : n ≤ 100000) :
    Calls Tryd.prog 12 #[.slice x n c] w (EdP w F n) := by
  have HX := hide hx
  have HN := hide hn
  have hE0 : EdR w w x n c 0 F [] (.slice x n c) (.slice none 0 0) := ⟨Below.refl _ _, Nat.zero_le _, by
    have e : (fun i => F (0 + i)) = F := by funext i; rw [Nat.zero_add]
    rw [e, Nat.sub_zero, List.nil_append], OH.nil _ _ _, ⟨x, c, rfl, by
    have e : (fun i => F (0 + i)) = F := by funext i; rw [Nat.zero_add]
    rw [e, Nat.sub_zero]
    exact hx, hc, hm⟩, Nat.le_refl _⟩
  have HE0 := hide hE0
  clear hx hn hE0 hc hm
  go_enter Tryd.func12, Tryd.ntmps12
  go_wp2_with fail
  go_loopg [0, 3] n (fun g' s0 s3 wr => ∃ p L, g' = n - p ∧ EdR w wr x n c p F L s0 s3)
  case atStart => exact ⟨0, [], rfl, HE0.out⟩
  case round =>
    clear HE0
    obtain ⟨p, L, rfl, hE⟩ := hrel
    obtain ⟨y, c', rfl, hy, hc1, hc2⟩ := hE.s
    have HE := hide hE
    have HY := hide hy
    obtain ⟨m, hm⟩ : ∃ m, m = n - p := ⟨_, rfl⟩
    have HM := hide hm
    rw [← hm] at HY hc1 ⊢
    have HC := hide (And.intro hc1 hc2)
    clear hE hy hc1 hc2
    by_cases h0 : m = 0
    · have hq : ¬ ((0 : Int) < (m : Int)) := by omega
      have HZ := hide h0
      clear hm h0
      go_wp2_with fail
      go_ret
      have h5 := HE.out.e
      rw [← HM.out, HZ.out, eL_zero, List.append_nil] at h5
      have hO := HE.out.o
      refine ⟨_, rfl, ?_, HE.out.k⟩
      rw [h5]
      exact hO
    · have hq : (0 : Int) < (m : Int) := by omega
      rcases HY.out.at_ with h5 | ⟨b, o, rfl, _⟩
      · exact absurd h5 h0
      have HH0 := hide h0
      have hm9 : m ≤ 100000 := by have := HN.out; omega
      clear hm
      go_wp2_with fail
      go_loopg [4] (m - 1) (fun g' s4 wr2 => ∃ k j : Nat, g' = m - k ∧ k = 2 ^ j ∧ k ≤ m ∧ s4 = .int .i64 (k : Int) ∧ wr2 = wr)
      case atStart => exact ⟨1, 0, rfl, rfl, by omega, rfl, rfl⟩
      case round =>
        obtain ⟨k, j, rfl, hk, hkm, rfl, hwr⟩ := hrel
        subst hwr
        have hk1 : 1 ≤ k := by rw [hk]; exact Nat.two_pow_pos j
        have hw2 : wrap64 (2 * (k : Int)) = 2 * (k : Int) := by unfold wrap64; omega
        by_cases hl : 2 * k ≤ m
        · have hq2 : 2 * (k : Int) ≤ (m : Int) := by omega
          have HK := hide hk
          clear hk
          go_wp2_with fail
          go_roundg (m - 2 * k)
          case measure => omega
          case rel => exact ⟨2 * k, j + 1, rfl, by rw [HK.out, Nat.pow_succ]; omega, hl, by simp, rfl⟩
        · have hq2 : ¬ (2 * (k : Int) ≤ (m : Int)) := by omega
          have HLg : Hid (2 ^ m.log2 = k) := by
            have h5 : m.log2 = j := (Nat.log2_eq_iff HH0.out).2 ⟨by rw [← hk]; exact hkm, by rw [Nat.pow_succ, ← hk]; omega⟩
            show 2 ^ m.log2 = k
            rw [h5, hk]
          have HKm := hide (And.intro hk1 hkm)
          have hkc : k ≤ c' := by have := HC.out.1; omega
          obtain ⟨s1, hs1⟩ : ∃ s1, s1 = rt (fun i => F (p + i)) k := ⟨_, rfl⟩
          have HS1 := hide hs1
          have HRt := hide (refRoot_any k (c := c') (((HY.out.head k hkm).keep HE.out.k)) hkc HC.out.2 (by omega))
          have HFl : Hid (∀ i, s1 i < 256) := by rw [hs1]; exact rt_lt (fun i => HX.out.lt (p + i)) k
          unfold hv at HRt
          rw [← hs1] at HRt
          clear hs1 hk hl
          go_wp2_with fail
          with_reducible refine Calls.mono HRt.out ?_
          rintro e W3 ⟨rfl, hb⟩
          have HB3 := hide (K.call HE.out.k hb)
          have HO3 := hide (HE.out.o.keep hb)
          have hb3 := HB3.out.size
          clear hb HRt
          go_upto_region 7 with (first
            | (refine wpList_oneH rfl rfl (by rfl) HFl.out ?_; intro q W4 hq4 hl4 ho4 hb4; have HO4 := hide (HO3.out.keep hb4); have HL4 := hide ho4; have HB4 := hide (K.call HB3.out hb4); clear hq4 hl4 ho4 hb4)
            | (at_builtin; refine wpList_appH rfl _ _ rfl rfl HO4.out rfl HL4.out (by have := HE.out.ln; have := HE.out.le; have := HN.out; omega) HB4.out.size ?_; intro v5 W5 ho5 hg5; have HB5 := hide (OH.below HO4.out HB4.out hg5); have HO5 := hide (OH.snoc ho5); clear ho5 hg5))
          have HEn : Hid (eL F n = (L ++ [s1]) ++ eL (fun i => F (p + k + i)) (n - (p + k))) := by
            show _ = _
            have h5 := HE.out.e
            have h6 := eL_more (fun i => F (p + i)) HH0.out
            rw [← HM.out, h6, HLg.out] at h5
            rw [h5, List.append_assoc, HS1.out, show n - (p + k) = m - k by have := HM.out; omega]
            have e2 : (fun i => F (p + k + i)) = fun i => F (p + (k + i)) := by funext i; rw [Nat.add_assoc]
            rw [e2]
            rfl
          have HLn : Hid ((L ++ [s1]).length ≤ p + k) := by
            show _ ≤ _
            rw [List.length_append]
            have := HE.out.ln
            have := HKm.out
            show L.length + 1 ≤ p + k
            omega
          have HPn : Hid (p + k ≤ n) := by
            show _ ≤ _
            have := HE.out.le
            have := HM.out
            have := HKm.out
            omega
          have hs : n - (p + k) = m - k := by have := HM.out; omega
          have hT := HY.out.tail k
          have e2 : (fun i => F (p + (k + i))) = fun i => F (p + k + i) := by funext i; rw [Nat.add_assoc]
          rw [e2] at hT
          have HTl := hide hT
          have HSs := hide hs
          clear hT e2 hs
          have hkI : (k : Int) ≤ (m : Int) := by omega
          by_cases hck : c' = k
          · have HCk := hide hck
            have hmk : m - k = 0 := by have := HC.out.1; omega
            clear hkm
            go_wp2_with fail
            go_roundg (n - (p + k))
            case measure => have := HKm.out; have := HM.out; omega
            case rel => exact ⟨p + k, L ++ [s1], rfl, HB5.out, HPn.out, HEn.out, HO5.out, ⟨_, _, by rw [HSs.out, hmk], ⟨fun i => HX.out.lt (p + k + i), Or.inl (by rw [HSs.out, hmk])⟩, by rw [HSs.out]; have := HC.out.1; omega, by have := HC.out.2; omega⟩, HLn.out⟩
          · go_wp2_with fail
            go_roundg (n - (p + k))
            case measure => have := HKm.out; have := HM.out; omega
            case rel => exact ⟨p + k, L ++ [s1], rfl, HB5.out, HPn.out, HEn.out, HO5.out, ⟨_, _, by rw [HSs.out], by rw [HSs.out]; exact HTl.out, by rw [HSs.out]; have := HC.out.1; omega, by have := HC.out.2; omega⟩, HLn.out⟩
end Go.Proofs.YtjobcffelbddcaaDoor
