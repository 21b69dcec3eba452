/- EdgeCounts. -/
import Derived.Test.YtjobcffelbddcaaDoorL17A
namespace Go.Proofs.YtjobcffelbddcaaDoor
set_option maxRecDepth 100000
open Go.RowKit
attribute [local go_sem ↓] Go.wp_at_zero Go.wp_at_succ

theorem eL_len (F : Nat → Nat → Nat) {n : Nat} (h : n < 256) : (eL F n).length = on 8 n := by
  obtain ⟨es, h1, h2⟩ := desc_ex n (by omega)
  rw [← h2, eL_parts F h1, pR_len, len_ones h1 (by omega)]
theorem rangeG {W w1 : World} {b o : Nat} {vs : List Value} {r : Option Nat} (h : W.rangeAt b o vs) (hg : W.grownBy w1 r) (hn : some b ≠ r) : w1.rangeAt b o vs := fun j v hv => laterG (p := ⟨b, o + j, none⟩) hg hn (h j v hv)
/-- While ones are counted: s are counted, x is left, which has at most f bits. -/
structure OnR (k f x s : Nat) : Prop where
  lt : x < 2 ^ f
  e : s + on f x = on 8 k
  le : s + f ≤ 8
theorem OnR.start {k : Nat} (h : k < 256) : OnR k 8 k 0 := ⟨by omega, by rw [Nat.zero_add], by omega⟩
theorem OnR.next {k f x s : Nat} (h : OnR k f x s) (hx : 0 < x) : ∃ g, f = g + 1 ∧ OnR k g (x / 2) (s + x % 2) := by
  have h1 := h.lt
  have h2 := h.e
  have h3 := h.le
  rcases f with _ | g
  · rw [Nat.pow_zero] at h1; omega
  · have e : on (g + 1) x = x % 2 + on g (x / 2) := if_neg (by omega)
    rw [e] at h2
    rw [Nat.pow_succ] at h1
    exact ⟨g, rfl, by omega, by omega, by omega⟩
theorem OnR.done {k f s : Nat} (h : OnR k f 0 s) : s = on 8 k := by
  have h2 := h.e
  have e : on f 0 = 0 := by rcases f with _ | g <;> rfl
  omega
/-- A hash and an empty tree in variables. -/
theorem boxT {w X : World} {f : Nat → Nat} (hf : ∀ i, f i < 256) (hX : X = (w.alloc (.cells (ab f 32).toArray 33)).alloc (.cells #[.slice none 0 0] 27)) :
    Below w.heap.size w X ∧ X.rangeAt w.heap.size 0 (ab f 32) ∧ Tr X (w.heap.size + 1) 0 (fun _ => f) := by
  rw [hX]
  refine ⟨K.alloc (K.alloc (Below.refl _ _) _) _, range_keep (RowB.range (RowB.made w 33 32 f _ rfl)) (K.alloc (Below.refl _ _) _), ?_⟩
  have h := tr_new (w.alloc (.cells (ab f 32).toArray 33)) (F := fun _ => f) (fun _ => hf)
  rw [World.size_alloc] at h
  exact h
set_option maxRecDepth 100000 in
set_option maxHeartbeats 8000000 in
theorem edgeCounts_walk {w : World} {m : Int} {f : Nat → Nat} (hT : Tab w) (hm0 : 0 ≤ m) (_hm1 : m < 256) (hf : ∀ i, f i < 256) :
    Calls Tryd.prog 4 #[.int .u8 m, hv f] w fun e w' => e = .returned (.bool true) ∧ Below w.heap.size w w' := by
  have HT := hide hT
  have HF := hide hf
  obtain ⟨k, hk⟩ : ∃ k : Nat, m.tmod 200 = (k : Int) := ⟨(m % 200).toNat, by rw [Int.tmod_eq_emod_of_nonneg hm0]; omega⟩
  have hk2 : k < 200 := by rw [Int.tmod_eq_emod_of_nonneg hm0] at hk; omega
  have hw1 : wrap64 (k : Int) = (k : Int) := by unfold wrap64; omega
  clear hT hf
  unfold hv
  go_enter Tryd.func4, Tryd.ntmps4
  go_upto_region 2 with fail
  refine wp_world (fun X hX => ?_)
  obtain ⟨hB, hR, hTr⟩ := boxT HF.out hX
  clear hX
  obtain ⟨b0, hb0⟩ : ∃ b0, w.heap.size = b0 := ⟨_, rfl⟩
  rw [hb0] at hR hTr ⊢
  have HB := hide hB
  have HR := hide hR
  have HTr := hide hTr
  clear hB hR hTr
  go_wp2_with fail
  go_loopg [7] k (fun g s7 wr => ∃ i : Nat, g = k - i ∧ i ≤ k ∧ s7 = .int .i64 (i : Int) ∧ Tr wr (b0 + 1) i (fun _ => f) ∧ wr.rangeAt b0 0 (ab f 32) ∧ Below w.heap.size w wr)
  case atStart => exact ⟨0, rfl, Nat.zero_le _, rfl, HTr.out, HR.out, HB.out⟩
  case round =>
    clear HB HR HTr
    obtain ⟨i, rfl, hi, rfl, hTr, hR, hB⟩ := hrel
    by_cases hlt : i < k
    · have hlt' : (i : Int) < (k : Int) := by omega
      have HP := hide (tr_push (f := f) (HT.out.keep hB) hTr (fun _ => HF.out) (fun _ _ => rfl) rfl (by omega))
      have HR := hide hR
      have HB := hide hB
      clear hTr hR hB
      go_wp2_with (first
        | (refine wpList_load_h rfl _ rfl rfl HR.out ?_)
        | (go_at_call 15; refine Calls.mono HP.out ?_; rintro e W1 hp; obtain ⟨⟨v1, rfl⟩, hp2, hp3⟩ := hp; have HP1 := hide hp2; have HR1 := hide (rangeG HR.out hp3 (by simp)); have HB1 := hide (HB.out.grown hp3 HB.out.size (fun k hk => by cases hk; omega)); clear hp2 hp3))
      go_roundg (k - (i + 1))
      case measure => omega
      case rel => exact ⟨i + 1, rfl, hlt, by simp, HP1.out, HR1.out, HB1.out⟩
    · obtain rfl : i = k := by omega
      have HTr := hide hTr
      have HB := hide hB
      clear hTr hB hR
      go_wp2_with fail
      go_loopg [8, 9] 8 (fun g s8 s9 wr2 => ∃ x s : Nat, s8 = .int .i64 (s : Int) ∧ s9 = .int .i64 (x : Int) ∧ OnR i g x s ∧ wr2 = wr)
      case atStart => exact ⟨i, 0, rfl, rfl, OnR.start (by omega), rfl⟩
      case round =>
        obtain ⟨x, s, rfl, rfl, hO, hwr⟩ := hrel
        subst hwr
        have hs8 := hO.le
        have hx8 := hO.lt
        by_cases hx : 0 < x
        · obtain ⟨g, rfl, hN⟩ := hO.next hx
          have HN := hide hN
          have hx' : (0 : Int) < (x : Int) := by omega
          have hx64 : x < 512 := Nat.lt_of_lt_of_le hx8 (Nat.pow_le_pow_right (by omega) (show _ ≤ 9 by omega))
          have ht2 : (x : Int).tmod 2 = ((x % 2 : Nat) : Int) := by rw [Int.tmod_eq_emod_of_nonneg (by omega)]; omega
          have hd2 : (x : Int).tdiv 2 = ((x / 2 : Nat) : Int) := by rw [Int.tdiv_eq_ediv_of_nonneg (by omega)]; omega
          have hw2 : wrap64 ((s : Int) + (x : Int) % 2) = (s : Int) + (x : Int) % 2 := by unfold wrap64; omega
          clear hO hN hx8
          go_wp2_with fail
          go_roundg g
          case measure => omega
          case rel => exact ⟨x / 2, s + x % 2, by simp [hw2], by simp, HN.out, rfl⟩
        · obtain rfl : x = 0 := by omega
          have HS := hide hO.done
          clear hO hx8
          have HA := hide (awake_any (HT.out.keep HB.out))
          go_wp2_with (first
            | (go_at_call 8; refine Calls.mono HA.out ?_; rintro e W1 ⟨rfl, hb1⟩; have HB1 := hide (Go.Proofs.YtjobcffelbddcaaDoor.K.call HB.out hb1); have HT1 := hide (HTr.out.keep hb1); have HE := hide (tr_edge HT1.out (by omega)); clear hb1)
            | (go_at_call 11; refine Calls.mono HE.out ?_; rintro e W2 hE; obtain ⟨v2, rfl, hO2, hB2⟩ := hE; obtain ⟨a2, c2, rfl, _, _⟩ := hO2.form; rw [eL_len _ (by omega), ← HS.out]; have HB2 := hide (Go.Proofs.YtjobcffelbddcaaDoor.K.call HB1.out hB2); have HL := hide (tr_len (HT1.out.keep hB2) (by omega)); clear hO2 hB2)
            | (go_at_call 9; refine Calls.mono HL.out ?_; rintro e W3 ⟨rfl, hb3⟩; have HB3 := hide (Go.Proofs.YtjobcffelbddcaaDoor.K.call HB2.out hb3); clear hb3))
          go_ret
          exact ⟨rfl, HB3.out⟩
end Go.Proofs.YtjobcffelbddcaaDoor
