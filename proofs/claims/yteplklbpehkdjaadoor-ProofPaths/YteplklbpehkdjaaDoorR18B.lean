/- Layer 18: the document's own Path. -/
import Derived.Test.YteplklbpehkdjaaDoorR18A
namespace Go.Proofs.YteplklbpehkdjaaDoor
set_option maxRecDepth 100000
open Go.RowKit
attribute [local go_sem ↓] Go.wp_at_zero Go.wp_at_succ

/-- While a path is told: the hashes from p on, q of them, are left, of which the m-th is asked; acc is told. -/
structure PaR (w wr : World) (n p q m c' : Nat) (F : Nat → Nat → Nat) (y : Option Addr) (acc : List (Nat → Nat)) (s6 : Value) (R : List (Nat → Nat)) (T : List (Nat → Nat)) : Prop where
  k : Below w.heap.size w wr
  e : R = T ++ acc.reverse
  o : OH wr w.heap.size s6 acc.length (lF acc)
  h : HL w y q (fun i => F (p + i))
  c1 : q ≤ c'
  c2 : c' ≤ maxLen
  ln : acc.length + q ≤ n
  mq : m < q
  al : ∀ f ∈ acc, ∀ j, f j < 256
theorem shift2 (F : Nat → Nat → Nat) (p k : Nat) : (fun i => F (p + (k + i))) = fun i => F (p + k + i) := by funext i; rw [Nat.add_assoc]
theorem PaR.next {w wr w1 : World} {n p q m c' p2 q2 m2 c2 : Nat} {F : Nat → Nat → Nat} {y y2 : Option Addr} {acc : List (Nat → Nat)} {s6 s7 : Value} {R T T2 : List (Nat → Nat)} {f : Nat → Nat} (h : PaR w wr n p q m c' F y acc s6 R T) (hB : Below w.heap.size w w1) (ho : OH w1 w.heap.size s7 (acc ++ [f]).length (lF (acc ++ [f]))) (hT : T = T2 ++ [f]) (hh : HL w y2 q2 (fun i => F (p2 + i))) (h1 : q2 ≤ c2) (h2 : c2 ≤ maxLen) (hq : q2 < q) (hm : m2 < q2) (hf : ∀ j, f j < 256) : PaR w w1 n p2 q2 m2 c2 F y2 (acc ++ [f]) s7 R T2 :=
  ⟨hB, by rw [h.e, hT, List.reverse_append, List.append_assoc]; rfl, ho, hh, h1, h2, by rw [List.length_append]; have := h.ln; show acc.length + 1 + q2 ≤ n; omega, hm, fun g hg => by
    rcases List.mem_append.1 hg with e | e
    · exact h.al g e
    · rw [List.mem_singleton.1 e]; exact hf⟩
theorem OH.le {w : World} {base base' n : Nat} {v : Value} {F : Nat → Nat → Nat} (h : OH w base v n F) (hb : base' ≤ base) : OH w base' v n F := by
  refine ⟨h.1, ?_⟩
  rcases h.2 with h0 | ⟨g, cap, cur, e, hg, r⟩
  · exact Or.inl h0
  · exact Or.inr ⟨g, cap, cur, e, Nat.le_trans hb hg, r⟩
/-- What is told with no error. -/
def PthP (w : World) (L : List (Nat → Nat)) (e : Ending) (w' : World) : Prop := ∃ v, e = .returned (.tuple #[v, .int .i64 0]) ∧ OH w' w.heap.size v L.length (lF L) ∧ Below w.heap.size w w'
set_option maxRecDepth 100000 in
set_option maxHeartbeats 4000000 in
theorem refPath_any {w : World} {x : Option Addr} {n c m : Nat} {F : Nat → Nat → Nat} (hx : HL w x n F) (hc : n ≤ c) (hmx : c ≤ maxLen) (hn : n ≤ 100000) (hm : m < n) :
    Calls Tryd.prog 10 #[.slice x n c, .int .i64 (m : Int)] w (PthP w (pth F n m)) := by
  have HN := hide hn
  have HF : Hid (∀ i j, F i j < 256) := hx.lt
  have e0 : (fun i => F (0 + i)) = F := by funext i; rw [Nat.zero_add]
  have HE0 : Hid (PaR w w n 0 n m c F x [] (.slice none 0 0) (pth F n m) (pth (fun i => F (0 + i)) n m)) := ⟨Below.refl _ _, by rw [e0, List.reverse_nil, List.append_nil], OH.nil _ _ _, by rw [e0]; exact hx, hc, hmx, by show 0 + n ≤ n; omega, hm, fun f hf => by cases hf⟩
  have hq1 : ¬ ((m : Int) < 0) := by omega
  have hq2 : (m : Int) < (n : Int) := by omega
  clear hx hc hmx hn hm e0
  go_enter Tryd.func10, Tryd.ntmps10
  go_wp2_with fail
  go_loopg [0, 1, 6] n (fun g' s0 s1 s6 wr => ∃ (p q m' c' : Nat) (y : Option Addr) (acc : List (Nat → Nat)), q = g' ∧ s0 = .slice y q c' ∧ s1 = .int .i64 (m' : Int) ∧ PaR w wr n p q m' c' F y acc s6 (pth F n m) (pth (fun i => F (p + i)) q m'))
  case atStart => exact ⟨0, n, m, c, x, [], rfl, rfl, rfl, HE0.out⟩
  case round =>
    clear HE0
    obtain ⟨p, q, m', c', y, acc, rfl, rfl, rfl, hE⟩ := hrel
    have HE := hide hE
    clear hE
    have hb0 := HE.out.k.size
    by_cases hlt : 2 ≤ q
    · have hqI : (1 : Int) < (q : Int) := by omega
      have hqn : q ≤ 100000 := by have := HE.out.ln; have := HN.out; omega
      rcases HE.out.h.at_ with h5 | ⟨b, o, rfl, _⟩
      · omega
      have HSp := hide (fun W => refSplit_any W (n := q) (by omega))
      have k1 := sp_lt hlt
      have k2 := sp_pos hlt
      by_cases hmk : m' < sp q
      · have hT := pth_low (fun i => F (p + i)) hlt hmk
        generalize sp q = k at *
        rw [shift2] at hT
        have hkc : k ≤ c' := by have := HE.out.c1; omega
        have hne : ¬ (c' = k) := by have := HE.out.c1; omega
        have hI1 : (m' : Int) < (k : Int) := by omega
        have hI2 : (k : Int) ≤ (q : Int) := by omega
        have hTl := HE.out.h.tail k
        rw [shift2] at hTl
        obtain ⟨s1, hs1⟩ : ∃ s1, s1 = rt (fun i => F (p + k + i)) (q - k) := ⟨_, rfl⟩
        have HRt := hide (refRoot_any (q - k) (c := c' - k) (hTl.keep HE.out.k) (by have := HE.out.c1; omega) (by have := HE.out.c2; omega) (by omega))
        have HFl : Hid (∀ i, s1 i < 256) := by rw [hs1]; exact rt_lt (fun i => HF.out (p + k + i)) _
        unfold hv at HRt
        rw [← hs1] at HRt hT
        have HT := hide hT
        have HK := hide (And.intro k1 (And.intro k2 (And.intro hkc hmk)))
        clear hT hTl hs1 k1 k2 hmk
        go_wp2_with fail
        with_reducible refine Calls.mono (HSp.out _) ?_
        rintro e W3 ⟨rfl, hw⟩
        replace hw := hw.symm
        subst hw
        go_wp2_with fail
        with_reducible refine Calls.mono HRt.out ?_
        rintro e W3 ⟨rfl, hb⟩
        have HB3 := hide (K.call HE.out.k hb)
        have HO3 := hide (HE.out.o.keep hb)
        clear hb HRt
        go_upto_region 8 with (first
          | (refine wpList_oneH rfl rfl (by rfl) HFl.out ?_; intro q4 W4 hq4 hl4 ho4 hb4; have HO4 := hide (HO3.out.keep hb4); have HL4 := hide ho4; have HB4 := hide (K.call HB3.out hb4); clear hq4 hl4 ho4 hb4)
          | (at_builtin; refine wpList_appH rfl _ _ rfl rfl HO4.out rfl HL4.out (by have := HE.out.ln; have := HN.out; omega) HB4.out.size ?_; intro v5 W5 ho5 hg5; have HB5 := hide (OH.below HO4.out HB4.out hg5); have HO5 := hide (OH.snoc ho5); clear ho5 hg5))
        go_wp2_with fail
        go_roundg k
        case measure => exact HK.out.1
        case rel => exact ⟨p, k, m', c', some ⟨b, o, none⟩, acc ++ [s1], rfl, rfl, rfl, HE.out.next HB5.out HO5.out HT.out (HE.out.h.head k (Nat.le_of_lt HK.out.1)) HK.out.2.2.1 HE.out.c2 HK.out.1 HK.out.2.2.2 HFl.out⟩
      · have hT := pth_up (fun i => F (p + i)) hlt hmk
        generalize sp q = k at *
        rw [shift2] at hT
        have hkc : k ≤ c' := by have := HE.out.c1; omega
        have hne : ¬ (c' = k) := by have := HE.out.c1; omega
        have hI1 : ¬ ((m' : Int) < (k : Int)) := by omega
        have hI2 : (k : Int) ≤ (q : Int) := by omega
        have hmq := HE.out.mq
        have hw1 : wrap64 ((m' : Int) - (k : Int)) = ((m' - k : Nat) : Int) := by unfold wrap64; omega
        have hTl := HE.out.h.tail k
        rw [shift2] at hTl
        obtain ⟨s1, hs1⟩ : ∃ s1, s1 = rt (fun i => F (p + i)) k := ⟨_, rfl⟩
        have HRt := hide (refRoot_any k (c := c') ((HE.out.h.head k (Nat.le_of_lt k1)).keep HE.out.k) hkc HE.out.c2 (by omega))
        have HFl : Hid (∀ i, s1 i < 256) := by rw [hs1]; exact rt_lt (fun i => HF.out (p + i)) _
        unfold hv at HRt
        rw [← hs1] at HRt hT
        have HT := hide hT
        have HTl := hide hTl
        have HK := hide (And.intro k1 (And.intro k2 (And.intro hkc (And.intro hmk hmq))))
        clear hT hTl hs1 k1 k2 hmk hmq
        go_wp2_with fail
        with_reducible refine Calls.mono (HSp.out _) ?_
        rintro e W3 ⟨rfl, hw⟩
        replace hw := hw.symm
        subst hw
        go_wp2_with fail
        with_reducible refine Calls.mono HRt.out ?_
        rintro e W3 ⟨rfl, hb⟩
        have HB3 := hide (K.call HE.out.k hb)
        have HO3 := hide (HE.out.o.keep hb)
        clear hb HRt
        go_upto_region 10 with (first
          | (refine wpList_oneH rfl rfl (by rfl) HFl.out ?_; intro q4 W4 hq4 hl4 ho4 hb4; have HO4 := hide (HO3.out.keep hb4); have HL4 := hide ho4; have HB4 := hide (K.call HB3.out hb4); clear hq4 hl4 ho4 hb4)
          | (at_builtin; refine wpList_appH rfl _ _ rfl rfl HO4.out rfl HL4.out (by have := HE.out.ln; have := HN.out; omega) HB4.out.size ?_; intro v5 W5 ho5 hg5; have HB5 := hide (OH.below HO4.out HB4.out hg5); have HO5 := hide (OH.snoc ho5); clear ho5 hg5))
        go_wp2_with fail
        go_roundg (q - k)
        case measure => have := HK.out; omega
        case rel => exact ⟨p + k, q - k, m' - k, c' - k, some ⟨b, o + k * 32, none⟩, acc ++ [s1], rfl, rfl, by rw [hw1], HE.out.next HB5.out HO5.out HT.out HTl.out (by have := HE.out.c1; omega) (by have := HE.out.c2; omega) (by have := HK.out; omega) (by have := HK.out; omega) HFl.out⟩
    · have hqI : ¬ ((1 : Int) < (q : Int)) := by omega
      have hR := HE.out.e
      rw [pth_small (fun i => F (p + i)) m' (by omega), List.nil_append] at hR
      have HR := hide hR
      obtain ⟨a6, c6, e6, _, _⟩ := OH.form HE.out.o
      have hO := HE.out.o
      subst e6
      have HTu := hide (turned_any (c := c6) (hO.hl (fun i j => lF_lt HE.out.al i j)) rfl (by have := HE.out.ln; have := HN.out; omega))
      clear hR hO
      go_wp2_with fail
      with_reducible refine Calls.mono HTu.out ?_
      rintro e W3 htp
      obtain ⟨v3, rfl, ho3, hb3⟩ := htp
      have HO3 := hide ho3
      have HB3 := hide hb3
      clear ho3 hb3
      go_wp2_with fail
      go_ret2
      exact ⟨v3, rfl, by rw [HR.out]; exact OH.le HO3.out hb0, K.call HE.out.k HB3.out⟩
end Go.Proofs.YteplklbpehkdjaaDoor
