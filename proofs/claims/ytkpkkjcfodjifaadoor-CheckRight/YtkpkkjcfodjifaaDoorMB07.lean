/- Layer 18: the document's own turned and Path. Layer 18: the document's own Path. Layer 18: the document's own Proof. Layer 17: parts with their sizes, and how one more is joined to them (no function of the program is named). Layer 18: what paths and proofs hang on; how many bits a number has (no function of the program is named). Layer 18: the document's own Path and Proof where there is none. -/
import Derived.Test.YtkpkkjcfodjifaaDoorMB06
namespace Go.Proofs.YtkpkkjcfodjifaaDoor
set_option maxRecDepth 100000
open Go.RowKit
attribute [local go_sem ↓] Go.wp_at_zero Go.wp_at_succ

theorem rev_take {L : List (Nat → Nat)} {k i : Nat} (hi : i + k + 1 = L.length) : L.reverse.take k ++ [lF L i] = L.reverse.take (k + 1) := by
  have h : L.reverse[k]? = some (lF L i) := by
    rw [List.getElem?_reverse (by omega), show L.length - 1 - k = i by omega]
    unfold lF
    rw [List.getD_eq_getElem?_getD, List.getElem?_eq_getElem (by omega)]
    rfl
  rw [List.take_add_one, h]
  rfl
/-- What a list of hashes that is told is. -/
def TuP (w : World) (L : List (Nat → Nat)) (e : Ending) (w' : World) : Prop := ∃ v, e = .returned v ∧ OH w' w.heap.size v L.length (lF L) ∧ Below w.heap.size w w'
structure TuR (w wr : World) (L : List (Nat → Nat)) (k : Nat) (s3 : Value) : Prop where
  b : Below w.heap.size w wr
  o : OH wr w.heap.size s3 (L.reverse.take k).length (lF (L.reverse.take k))
set_option maxRecDepth 100000 in
set_option maxHeartbeats 4000000 in
theorem turned_any {w : World} {x : Option Addr} {c n : Nat} {L : List (Nat → Nat)} (hx : HL w x n (lF L)) (hl : L.length = n) (hn : n ≤ 100000) :
    Calls Tryd.prog 26 #[.slice x n c] w (TuP w L.reverse) := by
  have HX := hide hx
  have HN := hide (And.intro hn hl)
  have HE0 : Hid (TuR w w L 0 (.slice none 0 0)) := ⟨Below.refl _ _, OH.nil _ _ _⟩
  have hw0 : wrap64 ((n : Int) - 1) = (n : Int) - 1 := by unfold wrap64; omega
  clear hx hn hl
  go_enter Tryd.func26, Tryd.ntmps26
  go_wp2_with fail
  go_loopg [3, 4] n (fun g' s3 s4 wr => ∃ (k : Nat) (z : Int), g' = n - k ∧ k ≤ n ∧ z = (n : Int) - 1 - (k : Int) ∧ s4 = .int .i64 z ∧ TuR w wr L k s3)
  case atStart => exact ⟨0, _, rfl, Nat.zero_le _, by omega, rfl, HE0.out⟩
  case round =>
    clear HE0 hw0
    obtain ⟨k, z, rfl, hk, hz, rfl, hT⟩ := hrel
    have HT := hide hT
    clear hT
    by_cases hlt : k < n
    · obtain ⟨i, hi⟩ : ∃ i : Nat, z = (i : Int) := ⟨z.toNat, by omega⟩
      subst hi
      have hin : i + k + 1 = n := by omega
      have hi0 : ¬ ((i : Int) < 0) := by omega
      have hi1 : (0 : Int) ≤ (i : Int) := by omega
      have hi2 : (i : Int) < (n : Int) := by omega
      have hw1 : wrap64 ((i : Int) - 1) = (i : Int) - 1 := by unfold wrap64; have := HN.out.1; omega
      rcases HX.out.at_ with h5 | ⟨b, o, rfl, hr⟩
      · omega
      have HR := hide (range_keep (hr i (by omega)) HT.out.b)
      have HFl : Hid (∀ j, lF L i j < 256) := HX.out.lt i
      have HIk := hide (And.intro hin hlt)
      obtain ⟨s1, hs1⟩ : ∃ s1, s1 = lF L i := ⟨_, rfl⟩
      rw [← hs1] at HR HFl
      have HS1 := hide hs1
      have hb3 := HT.out.b.size
      have hlk : (L.reverse.take k).length = k := by rw [List.length_take, List.length_reverse, HN.out.2]; omega
      clear hr hs1 hz hin
      go_upto_region 4 with (first
        | refine wpList_load_h rfl _ rfl rfl HR.out ?_
        | (refine wpList_oneH rfl rfl (by rfl) HFl.out ?_; intro q W4 hq4 hl4 ho4 hb4; have HO4 := hide (HT.out.o.keep hb4); have HL4 := hide ho4; have HB4 := hide (K.call HT.out.b hb4); clear hq4 hl4 ho4 hb4)
        | (at_builtin; refine wpList_appH rfl _ _ rfl rfl HO4.out rfl HL4.out (by have := HN.out.1; omega) HB4.out.size ?_; intro v5 W5 ho5 hg5; have HB5 := hide (OH.below HO4.out HB4.out hg5); have HO5 := hide (OH.snoc ho5); clear ho5 hg5))
      go_wp2_with fail
      go_roundg (n - (k + 1))
      case measure => have := HIk.out.2; omega
      case rel => exact ⟨k + 1, _, rfl, HIk.out.2, by have := HIk.out.1; omega, rfl, HB5.out, by
        have h5 := HO5.out
        rw [HS1.out, rev_take (by rw [HN.out.2]; exact HIk.out.1)] at h5
        exact h5⟩
    · have h0 : k = n := by omega
      have hi1 : ¬ ((0 : Int) ≤ z) := by omega
      have HK := hide h0
      clear hz h0
      go_wp2_with fail
      go_ret
      have hO := HT.out.o
      rw [HK.out, List.take_of_length_le (by rw [List.length_reverse, HN.out.2]; exact Nat.le_refl _)] at hO
      exact ⟨_, rfl, hO, HT.out.b⟩
end Go.Proofs.YtkpkkjcfodjifaaDoor
namespace Go.Proofs.YtkpkkjcfodjifaaDoor
set_option maxRecDepth 100000
open Go.RowKit
attribute [local go_sem ↓] Go.wp_at_zero Go.wp_at_succ

/-- While a path is told: the hashes from p on, q of them, are left, of which the m-th is asked; acc is told. -/
structure PaR (w wr : World) (n p q m c' : Nat) (F : Nat → Nat → Nat) (y : Option Addr) (acc : List (Nat → Nat)) (s6 : Value) (R : List (Nat → Nat)) (T : List (Nat → Nat)) : Prop where
  k : Below w.heap.size w wr
  e : R = T ++ acc.reverse
  o : OH wr w.heap.size s6 acc.length (lF acc)
  h : HL w y q (fun i => F (p + i))
  c1 : q ≤ c'
  c2 : c' ≤ maxLen
  ln : acc.length + q ≤ n
  mq : m < q
  al : ∀ f ∈ acc, ∀ j, f j < 256
theorem shift2 (F : Nat → Nat → Nat) (p k : Nat) : (fun i => F (p + (k + i))) = fun i => F (p + k + i) := by funext i; rw [Nat.add_assoc]
theorem PaR.next {w wr w1 : World} {n p q m c' p2 q2 m2 c2 : Nat} {F : Nat → Nat → Nat} {y y2 : Option Addr} {acc : List (Nat → Nat)} {s6 s7 : Value} {R T T2 : List (Nat → Nat)} {f : Nat → Nat} (h : PaR w wr n p q m c' F y acc s6 R T) (hB : Below w.heap.size w w1) (ho : OH w1 w.heap.size s7 (acc ++ [f]).length (lF (acc ++ [f]))) (hT : T = T2 ++ [f]) (hh : HL w y2 q2 (fun i => F (p2 + i))) (h1 : q2 ≤ c2) (h2 : c2 ≤ maxLen) (hq : q2 < q) (hm : m2 < q2) (hf : ∀ j, f j < 256) : PaR w w1 n p2 q2 m2 c2 F y2 (acc ++ [f]) s7 R T2 :=
  ⟨hB, by rw [h.e, hT, List.reverse_append, List.append_assoc]; rfl, ho, hh, h1, h2, by rw [List.length_append]; have := h.ln; show acc.length + 1 + q2 ≤ n; omega, hm, fun g hg => by
    rcases List.mem_append.1 hg with e | e
    · exact h.al g e
    · rw [List.mem_singleton.1 e]; exact hf⟩
theorem OH.le {w : World} {base base' n : Nat} {v : Value} {F : Nat → Nat → Nat} (h : OH w base v n F) (hb : base' ≤ base) : OH w base' v n F := by
  refine ⟨h.1, ?_⟩
  rcases h.2 with h0 | ⟨g, cap, cur, e, hg, r⟩
  · exact Or.inl h0
  · exact Or.inr ⟨g, cap, cur, e, Nat.le_trans hb hg, r⟩
/-- What is told with no error. -/
def PthP (w : World) (L : List (Nat → Nat)) (e : Ending) (w' : World) : Prop := ∃ v, e = .returned (.tuple #[v, .int .i64 0]) ∧ OH w' w.heap.size v L.length (lF L) ∧ Below w.heap.size w w'
set_option maxRecDepth 100000 in
set_option maxHeartbeats 4000000 in
theorem refPath_any {w : World} {x : Option Addr} {n c m : Nat} {F : Nat → Nat → Nat} (hx : HL w x n F) (hc : n ≤ c) (hmx : c ≤ maxLen) (hn : n ≤ 100000) (hm : m < n) :
    Calls Tryd.prog 15 #[.slice x n c, .int .i64 (m : Int)] w (PthP w (pth F n m)) := by
  have HN := hide hn
  have HF : Hid (∀ i j, F i j < 256) := hx.lt
  have e0 : (fun i => F (0 + i)) = F := by funext i; rw [Nat.zero_add]
  have HE0 : Hid (PaR w w n 0 n m c F x [] (.slice none 0 0) (pth F n m) (pth (fun i => F (0 + i)) n m)) := ⟨Below.refl _ _, by rw [e0, List.reverse_nil, List.append_nil], OH.nil _ _ _, by rw [e0]; exact hx, hc, hmx, by show 0 + n ≤ n; omega, hm, fun f hf => by cases hf⟩
  have hq1 : ¬ ((m : Int) < 0) := by omega
  have hq2 : (m : Int) < (n : Int) := by omega
  clear hx hc hmx hn hm e0
  go_enter Tryd.func15, Tryd.ntmps15
  go_wp2_with fail
  go_loopg [0, 1, 6] n (fun g' s0 s1 s6 wr => ∃ (p q m' c' : Nat) (y : Option Addr) (acc : List (Nat → Nat)), q = g' ∧ s0 = .slice y q c' ∧ s1 = .int .i64 (m' : Int) ∧ PaR w wr n p q m' c' F y acc s6 (pth F n m) (pth (fun i => F (p + i)) q m'))
  case atStart => exact ⟨0, n, m, c, x, [], rfl, rfl, rfl, HE0.out⟩
  case round =>
    clear HE0
    obtain ⟨p, q, m', c', y, acc, rfl, rfl, rfl, hE⟩ := hrel
    have HE := hide hE
    clear hE
    have hb0 := HE.out.k.size
    by_cases hlt : 2 ≤ q
    · have hqI : (1 : Int) < (q : Int) := by omega
      have hqn : q ≤ 100000 := by have := HE.out.ln; have := HN.out; omega
      rcases HE.out.h.at_ with h5 | ⟨b, o, rfl, _⟩
      · omega
      have HSp := hide (fun W => refSplit_any W (n := q) (by omega))
      have k1 := sp_lt hlt
      have k2 := sp_pos hlt
      by_cases hmk : m' < sp q
      · have hT := pth_low (fun i => F (p + i)) hlt hmk
        generalize sp q = k at *
        rw [shift2] at hT
        have hkc : k ≤ c' := by have := HE.out.c1; omega
        have hne : ¬ (c' = k) := by have := HE.out.c1; omega
        have hI1 : (m' : Int) < (k : Int) := by omega
        have hI2 : (k : Int) ≤ (q : Int) := by omega
        have hTl := HE.out.h.tail k
        rw [shift2] at hTl
        obtain ⟨s1, hs1⟩ : ∃ s1, s1 = rt (fun i => F (p + k + i)) (q - k) := ⟨_, rfl⟩
        have HRt := hide (refRoot_any (q - k) (c := c' - k) (hTl.keep HE.out.k) (by have := HE.out.c1; omega) (by have := HE.out.c2; omega) (by omega))
        have HFl : Hid (∀ i, s1 i < 256) := by rw [hs1]; exact rt_lt (fun i => HF.out (p + k + i)) _
        unfold hv at HRt
        rw [← hs1] at HRt hT
        have HT := hide hT
        have HK := hide (And.intro k1 (And.intro k2 (And.intro hkc hmk)))
        clear hT hTl hs1 k1 k2 hmk
        go_wp2_with fail
        with_reducible refine Calls.mono (HSp.out _) ?_
        rintro e W3 ⟨rfl, hw⟩
        replace hw := hw.symm
        subst hw
        go_wp2_with fail
        with_reducible refine Calls.mono HRt.out ?_
        rintro e W3 ⟨rfl, hb⟩
        have HB3 := hide (K.call HE.out.k hb)
        have HO3 := hide (HE.out.o.keep hb)
        clear hb HRt
        go_upto_region 8 with (first
          | (refine wpList_oneH rfl rfl (by rfl) HFl.out ?_; intro q4 W4 hq4 hl4 ho4 hb4; have HO4 := hide (HO3.out.keep hb4); have HL4 := hide ho4; have HB4 := hide (K.call HB3.out hb4); clear hq4 hl4 ho4 hb4)
          | (at_builtin; refine wpList_appH rfl _ _ rfl rfl HO4.out rfl HL4.out (by have := HE.out.ln; have := HN.out; omega) HB4.out.size ?_; intro v5 W5 ho5 hg5; have HB5 := hide (OH.below HO4.out HB4.out hg5); have HO5 := hide (OH.snoc ho5); clear ho5 hg5))
        go_wp2_with fail
        go_roundg k
        case measure => exact HK.out.1
        case rel => exact ⟨p, k, m', c', some ⟨b, o, none⟩, acc ++ [s1], rfl, rfl, rfl, HE.out.next HB5.out HO5.out HT.out (HE.out.h.head k (Nat.le_of_lt HK.out.1)) HK.out.2.2.1 HE.out.c2 HK.out.1 HK.out.2.2.2 HFl.out⟩
      · have hT := pth_up (fun i => F (p + i)) hlt hmk
        generalize sp q = k at *
        rw [shift2] at hT
        have hkc : k ≤ c' := by have := HE.out.c1; omega
        have hne : ¬ (c' = k) := by have := HE.out.c1; omega
        have hI1 : ¬ ((m' : Int) < (k : Int)) := by omega
        have hI2 : (k : Int) ≤ (q : Int) := by omega
        have hmq := HE.out.mq
        have hw1 : wrap64 ((m' : Int) - (k : Int)) = ((m' - k : Nat) : Int) := by unfold wrap64; omega
        have hTl := HE.out.h.tail k
        rw [shift2] at hTl
        obtain ⟨s1, hs1⟩ : ∃ s1, s1 = rt (fun i => F (p + i)) k := ⟨_, rfl⟩
        have HRt := hide (refRoot_any k (c := c') ((HE.out.h.head k (Nat.le_of_lt k1)).keep HE.out.k) hkc HE.out.c2 (by omega))
        have HFl : Hid (∀ i, s1 i < 256) := by rw [hs1]; exact rt_lt (fun i => HF.out (p + i)) _
        unfold hv at HRt
        rw [← hs1] at HRt hT
        have HT := hide hT
        have HTl := hide hTl
        have HK := hide (And.intro k1 (And.intro k2 (And.intro hkc (And.intro hmk hmq))))
        clear hT hTl hs1 k1 k2 hmk hmq
        go_wp2_with fail
        with_reducible refine Calls.mono (HSp.out _) ?_
        rintro e W3 ⟨rfl, hw⟩
        replace hw := hw.symm
        subst hw
        go_wp2_with fail
        with_reducible refine Calls.mono HRt.out ?_
        rintro e W3 ⟨rfl, hb⟩
        have HB3 := hide (K.call HE.out.k hb)
        have HO3 := hide (HE.out.o.keep hb)
        clear hb HRt
        go_upto_region 10 with (first
          | (refine wpList_oneH rfl rfl (by rfl) HFl.out ?_; intro q4 W4 hq4 hl4 ho4 hb4; have HO4 := hide (HO3.out.keep hb4); have HL4 := hide ho4; have HB4 := hide (K.call HB3.out hb4); clear hq4 hl4 ho4 hb4)
          | (at_builtin; refine wpList_appH rfl _ _ rfl rfl HO4.out rfl HL4.out (by have := HE.out.ln; have := HN.out; omega) HB4.out.size ?_; intro v5 W5 ho5 hg5; have HB5 := hide (OH.below HO4.out HB4.out hg5); have HO5 := hide (OH.snoc ho5); clear ho5 hg5))
        go_wp2_with fail
        go_roundg (q - k)
        case measure => have := HK.out; omega
        case rel => exact ⟨p + k, q - k, m' - k, c' - k, some ⟨b, o + k * 32, none⟩, acc ++ [s1], rfl, rfl, by rw [hw1], HE.out.next HB5.out HO5.out HT.out HTl.out (by have := HE.out.c1; omega) (by have := HE.out.c2; omega) (by have := HK.out; omega) (by have := HK.out; omega) HFl.out⟩
    · have hqI : ¬ ((1 : Int) < (q : Int)) := by omega
      have hR := HE.out.e
      rw [pth_small (fun i => F (p + i)) m' (by omega), List.nil_append] at hR
      have HR := hide hR
      obtain ⟨a6, c6, e6, _, _⟩ := OH.form HE.out.o
      have hO := HE.out.o
      subst e6
      have HTu := hide (turned_any (c := c6) (hO.hl (fun i j => lF_lt HE.out.al i j)) rfl (by have := HE.out.ln; have := HN.out; omega))
      clear hR hO
      go_wp2_with fail
      with_reducible refine Calls.mono HTu.out ?_
      rintro e W3 htp
      obtain ⟨v3, rfl, ho3, hb3⟩ := htp
      have HO3 := hide ho3
      have HB3 := hide hb3
      clear ho3 hb3
      go_wp2_with fail
      go_ret2
      exact ⟨v3, rfl, by rw [HR.out]; exact OH.le HO3.out hb0, K.call HE.out.k HB3.out⟩
end Go.Proofs.YtkpkkjcfodjifaaDoor
namespace Go.Proofs.YtkpkkjcfodjifaaDoor
set_option maxRecDepth 100000
open Go.RowKit
attribute [local go_sem ↓] Go.wp_at_zero Go.wp_at_succ

/-- While a proof is told: the hashes from p on, q of them, are left, of which the first m are asked; acc is told. -/
structure PrR (w wr : World) (n p q m c' : Nat) (F : Nat → Nat → Nat) (y : Option Addr) (acc : List (Nat → Nat)) (s6 : Value) (R : List (Nat → Nat)) (T : List (Nat → Nat)) : Prop where
  k : Below w.heap.size w wr
  e : R = T ++ acc.reverse
  o : OH wr w.heap.size s6 acc.length (lF acc)
  h : HL w y q (fun i => F (p + i))
  c1 : q ≤ c'
  c2 : c' ≤ maxLen
  ln : acc.length + q ≤ n
  mq : 1 ≤ m ∧ m ≤ q
  al : ∀ f ∈ acc, ∀ j, f j < 256
theorem PrR.next {w wr w1 : World} {n p q m c' p2 q2 m2 c2 : Nat} {F : Nat → Nat → Nat} {y y2 : Option Addr} {acc : List (Nat → Nat)} {s6 s7 : Value} {R T T2 : List (Nat → Nat)} {f : Nat → Nat} (h : PrR w wr n p q m c' F y acc s6 R T) (hB : Below w.heap.size w w1) (ho : OH w1 w.heap.size s7 (acc ++ [f]).length (lF (acc ++ [f]))) (hT : T = T2 ++ [f]) (hh : HL w y2 q2 (fun i => F (p2 + i))) (h1 : q2 ≤ c2) (h2 : c2 ≤ maxLen) (hq : q2 < q) (hm : 1 ≤ m2 ∧ m2 ≤ q2) (hf : ∀ j, f j < 256) : PrR w w1 n p2 q2 m2 c2 F y2 (acc ++ [f]) s7 R T2 :=
  ⟨hB, by rw [h.e, hT, List.reverse_append, List.append_assoc]; rfl, ho, hh, h1, h2, by rw [List.length_append]; have := h.ln; show acc.length + 1 + q2 ≤ n; omega, hm, fun g hg => by
    rcases List.mem_append.1 hg with e | e
    · exact h.al g e
    · rw [List.mem_singleton.1 e]; exact hf⟩
set_option maxRecDepth 100000 in
set_option maxHeartbeats 4000000 in
theorem refProof_any {w : World} {x : Option Addr} {n c m : Nat} {F : Nat → Nat → Nat} (hx : HL w x n F) (hc : n ≤ c) (hmx : c ≤ maxLen) (hn : n ≤ 100000) (hm : 1 ≤ m ∧ m ≤ n) :
    Calls Tryd.prog 16 #[.slice x n c, .int .i64 (m : Int)] w (PthP w (prf F n m true)) := by
  have HN := hide hn
  have HF : Hid (∀ i j, F i j < 256) := hx.lt
  have e0 : (fun i => F (0 + i)) = F := by funext i; rw [Nat.zero_add]
  have HE0 : Hid (PrR w w n 0 n m c F x [] (.slice none 0 0) (prf F n m true) (prf (fun i => F (0 + i)) n m true)) := ⟨Below.refl _ _, by rw [e0, List.reverse_nil, List.append_nil], OH.nil _ _ _, by rw [e0]; exact hx, hc, hmx, by show 0 + n ≤ n; omega, hm, fun f hf => by cases hf⟩
  have hq1 : ¬ ((m : Int) < 1) := by omega
  have hq2 : (m : Int) ≤ (n : Int) := by omega
  clear hx hc hmx hn hm e0
  go_enter Tryd.func16, Tryd.ntmps16
  go_wp2_with fail
  go_loopg [0, 1, 6, 7] n (fun g' s0 s1 s6 s7 wr => ∃ (wb : Bool) (p q m' c' : Nat) (y : Option Addr) (acc : List (Nat → Nat)), q = g' ∧ s0 = .slice y q c' ∧ s1 = .int .i64 (m' : Int) ∧ s7 = .bool wb ∧ PrR w wr n p q m' c' F y acc s6 (prf F n m true) (prf (fun i => F (p + i)) q m' wb))
  case atStart => exact ⟨true, 0, n, m, c, x, [], rfl, rfl, rfl, rfl, HE0.out⟩
  case round =>
    clear HE0
    obtain ⟨wb, p, q, m', c', y, acc, rfl, rfl, rfl, rfl, hE⟩ := hrel
    have hmq0 := hE.mq
    have HE := hide hE
    clear hE
    have hb0 := HE.out.k.size
    by_cases hmlt : m' < q
    · have hlt : 2 ≤ q := by omega
      have hqI : (m' : Int) < (q : Int) := by omega
      have hqn : q ≤ 100000 := by have := HE.out.ln; have := HN.out; omega
      rcases HE.out.h.at_ with h5 | ⟨b, o, rfl, _⟩
      · omega
      have HSp := hide (fun W => refSplit_any W (n := q) (by omega))
      have k1 := sp_lt hlt
      have k2 := sp_pos hlt
      by_cases hmk : m' ≤ sp q
      · have hT := prf_low (fun i => F (p + i)) wb hmlt hlt hmk
        generalize sp q = k at *
        rw [shift2] at hT
        have hkc : k ≤ c' := by have := HE.out.c1; omega
        have hne : ¬ (c' = k) := by have := HE.out.c1; omega
        have hI1 : (m' : Int) ≤ (k : Int) := by omega
        have hI2 : (k : Int) ≤ (q : Int) := by omega
        have hTl := HE.out.h.tail k
        rw [shift2] at hTl
        obtain ⟨s1, hs1⟩ : ∃ s1, s1 = rt (fun i => F (p + k + i)) (q - k) := ⟨_, rfl⟩
        have HRt := hide (refRoot_any (q - k) (c := c' - k) (hTl.keep HE.out.k) (by have := HE.out.c1; omega) (by have := HE.out.c2; omega) (by omega))
        have HFl : Hid (∀ i, s1 i < 256) := by rw [hs1]; exact rt_lt (fun i => HF.out (p + k + i)) _
        unfold hv at HRt
        rw [← hs1] at HRt hT
        have HT := hide hT
        have HK := hide (And.intro k1 (And.intro k2 (And.intro hkc (And.intro hmq0.1 hmk))))
        clear hT hTl hs1 k1 k2 hmk hmq0 hmlt hlt
        go_wp2_with fail
        with_reducible refine Calls.mono (HSp.out _) ?_
        rintro e W3 ⟨rfl, hw⟩
        replace hw := hw.symm
        subst hw
        go_wp2_with fail
        with_reducible refine Calls.mono HRt.out ?_
        rintro e W3 ⟨rfl, hb⟩
        have HB3 := hide (K.call HE.out.k hb)
        have HO3 := hide (HE.out.o.keep hb)
        clear hb HRt
        go_upto_region 9 with (first
          | (refine wpList_oneH rfl rfl (by rfl) HFl.out ?_; intro q4 W4 hq4 hl4 ho4 hb4; have HO4 := hide (HO3.out.keep hb4); have HL4 := hide ho4; have HB4 := hide (K.call HB3.out hb4); clear hq4 hl4 ho4 hb4)
          | (at_builtin; refine wpList_appH rfl _ _ rfl rfl HO4.out rfl HL4.out (by have := HE.out.ln; have := HN.out; omega) HB4.out.size ?_; intro v5 W5 ho5 hg5; have HB5 := hide (OH.below HO4.out HB4.out hg5); have HO5 := hide (OH.snoc ho5); clear ho5 hg5))
        go_wp2_with fail
        go_roundg k
        case measure => exact HK.out.1
        case rel => exact ⟨wb, p, k, m', c', some ⟨b, o, none⟩, acc ++ [s1], rfl, rfl, rfl, rfl, HE.out.next HB5.out HO5.out HT.out (HE.out.h.head k (Nat.le_of_lt HK.out.1)) HK.out.2.2.1 HE.out.c2 HK.out.1 HK.out.2.2.2 HFl.out⟩
      · have hT := prf_up (fun i => F (p + i)) wb hmlt hlt hmk
        generalize sp q = k at *
        rw [shift2] at hT
        have hkc : k ≤ c' := by have := HE.out.c1; omega
        have hne : ¬ (c' = k) := by have := HE.out.c1; omega
        have hI1 : ¬ ((m' : Int) ≤ (k : Int)) := by omega
        have hI2 : (k : Int) ≤ (q : Int) := by omega
        have hmq := HE.out.mq.2
        have hw1 : wrap64 ((m' : Int) - (k : Int)) = ((m' - k : Nat) : Int) := by unfold wrap64; omega
        have hTl := HE.out.h.tail k
        rw [shift2] at hTl
        obtain ⟨s1, hs1⟩ : ∃ s1, s1 = rt (fun i => F (p + i)) k := ⟨_, rfl⟩
        have HRt := hide (refRoot_any k (c := c') ((HE.out.h.head k (Nat.le_of_lt k1)).keep HE.out.k) hkc HE.out.c2 (by omega))
        have HFl : Hid (∀ i, s1 i < 256) := by rw [hs1]; exact rt_lt (fun i => HF.out (p + i)) _
        unfold hv at HRt
        rw [← hs1] at HRt hT
        have HT := hide hT
        have HTl := hide hTl
        have HK := hide (And.intro k1 (And.intro k2 (And.intro hkc (And.intro hmk hmq))))
        clear hT hTl hs1 k1 k2 hmk hmq hmq0 hmlt hlt
        go_wp2_with fail
        with_reducible refine Calls.mono (HSp.out _) ?_
        rintro e W3 ⟨rfl, hw⟩
        replace hw := hw.symm
        subst hw
        go_wp2_with fail
        with_reducible refine Calls.mono HRt.out ?_
        rintro e W3 ⟨rfl, hb⟩
        have HB3 := hide (K.call HE.out.k hb)
        have HO3 := hide (HE.out.o.keep hb)
        clear hb HRt
        go_upto_region 11 with (first
          | (refine wpList_oneH rfl rfl (by rfl) HFl.out ?_; intro q4 W4 hq4 hl4 ho4 hb4; have HO4 := hide (HO3.out.keep hb4); have HL4 := hide ho4; have HB4 := hide (K.call HB3.out hb4); clear hq4 hl4 ho4 hb4)
          | (at_builtin; refine wpList_appH rfl _ _ rfl rfl HO4.out rfl HL4.out (by have := HE.out.ln; have := HN.out; omega) HB4.out.size ?_; intro v5 W5 ho5 hg5; have HB5 := hide (OH.below HO4.out HB4.out hg5); have HO5 := hide (OH.snoc ho5); clear ho5 hg5))
        go_wp2_with fail
        go_roundg (q - k)
        case measure => have := HK.out; omega
        case rel => exact ⟨false, p + k, q - k, m' - k, c' - k, some ⟨b, o + k * 32, none⟩, acc ++ [s1], rfl, rfl, (by first | rw [hw1] | exact congrArg (Value.int .i64) (by have := HK.out; omega)), rfl, HE.out.next HB5.out HO5.out HT.out HTl.out (by have := HE.out.c1; omega) (by have := HE.out.c2; omega) (by have := HK.out; omega) (by have := HK.out; omega) HFl.out⟩
    · have hqI : ¬ ((m' : Int) < (q : Int)) := by omega
      have hR := HE.out.e
      rw [prf_end (fun i => F (p + i)) wb (Or.inl (by omega))] at hR
      have hqn : q ≤ 100000 := by have := HE.out.ln; have := HN.out; omega
      cases wb with
      | true =>
        have HR : Hid (prf F n m true = acc.reverse) := hR
        obtain ⟨a6, c6, e6, _, _⟩ := OH.form HE.out.o
        have hO := HE.out.o
        subst e6
        have HTu := hide (turned_any (c := c6) (hO.hl (fun i j => lF_lt HE.out.al i j)) rfl (by have := HE.out.ln; have := HN.out; omega))
        clear hR hO hmlt hmq0
        go_wp2_with fail
        with_reducible refine Calls.mono HTu.out ?_
        rintro e W3 htp
        obtain ⟨v3, rfl, ho3, hb3⟩ := htp
        have HO3 := hide ho3
        have HB3 := hide hb3
        clear ho3 hb3
        go_wp2_with fail
        go_ret2
        exact ⟨v3, rfl, by rw [HR.out]; exact OH.le HO3.out hb0, K.call HE.out.k HB3.out⟩
      | false =>
        obtain ⟨s1, hs1⟩ : ∃ s1, s1 = rt (fun i => F (p + i)) q := ⟨_, rfl⟩
        have HRt := hide (refRoot_any q (c := c') (HE.out.h.keep HE.out.k) HE.out.c1 HE.out.c2 (by omega))
        have HFl : Hid (∀ i, s1 i < 256) := by rw [hs1]; exact rt_lt (fun i => HF.out (p + i)) _
        unfold hv at HRt
        rw [← hs1] at HRt
        have HR : Hid (prf F n m true = (acc ++ [s1]).reverse) := by rw [hR, hs1, List.reverse_append]; rfl
        clear hR hs1 hmlt hmq0
        go_wp2_with fail
        with_reducible refine Calls.mono HRt.out ?_
        rintro e W3 ⟨rfl, hb⟩
        have HB3 := hide (K.call HE.out.k hb)
        have HO3 := hide (HE.out.o.keep hb)
        clear hb HRt
        go_upto_region 16 with (first
          | (refine wpList_oneH rfl rfl (by rfl) HFl.out ?_; intro q4 W4 hq4 hl4 ho4 hb4; have HO4 := hide (HO3.out.keep hb4); have HL4 := hide ho4; have HB4 := hide (K.call HB3.out hb4); clear hq4 hl4 ho4 hb4)
          | (at_builtin; refine wpList_appH rfl _ _ rfl rfl HO4.out rfl HL4.out (by have := HE.out.ln; have := HN.out; omega) HB4.out.size ?_; intro v5 W5 ho5 hg5; have HB5 := hide (OH.below HO4.out HB4.out hg5); have HO5 := hide (OH.snoc ho5); clear ho5 hg5))
        obtain ⟨a6, c6, e6, _, _⟩ := OH.form HO5.out
        have hO := HO5.out
        subst e6
        have hlen : (acc ++ [s1]).length = acc.length + 1 := by rw [List.length_append]; rfl
        have hal : ∀ f ∈ acc ++ [s1], ∀ j, f j < 256 := fun g hg => by
          rcases List.mem_append.1 hg with e | e
          · exact HE.out.al g e
          · rw [List.mem_singleton.1 e]; exact HFl.out
        have HTu := hide (turned_any (c := c6) (hO.hl (fun i j => lF_lt hal i j)) rfl (by have := HE.out.ln; have := HN.out; have := HE.out.mq; omega))
        have hb5 := HB5.out.size
        rw [hlen] at HTu
        clear hO hal hlen
        go_wp2_with fail
        with_reducible refine Calls.mono HTu.out ?_
        rintro e W6 htp
        obtain ⟨v3, rfl, ho3, hb3⟩ := htp
        have HO6 := hide ho3
        have HB6 := hide hb3
        clear ho3 hb3
        go_wp2_with fail
        go_ret2
        exact ⟨v3, rfl, by rw [HR.out]; exact OH.le HO6.out hb5, K.call HB5.out HB6.out⟩
end Go.Proofs.YtkpkkjcfodjifaaDoor
namespace Go.Proofs.YtkpkkjcfodjifaaDoor
set_option maxRecDepth 100000
open Go.RowKit

end Go.Proofs.YtkpkkjcfodjifaaDoor
namespace Go.Proofs.YtkpkkjcfodjifaaDoor
set_option maxRecDepth 100000
open Go.RowKit

theorem rt_all {F : Nat → Nat → Nat} (hF : ∀ i j, F i j < 256) (p n : Nat) : ∀ j, rt (fun i => F (p + i)) n j < 256 := fun j => rt_lt (fun i => hF (p + i)) n j
theorem pth_lt : ∀ (n m : Nat) {F : Nat → Nat → Nat}, (∀ i j, F i j < 256) → ∀ f ∈ pth F n m, ∀ j, f j < 256 := fun n => by
  induction n using Nat.strongRecOn with
  | ind n ih =>
    intro m F hF f hf
    by_cases h2 : n < 2
    · rw [pth_small F m h2] at hf
      cases hf
    · have hs := sp_lt (n := n) (by omega)
      have hp := sp_pos (n := n) (by omega)
      by_cases hm : m < sp n
      · rw [pth_low F (by omega) hm] at hf
        rcases List.mem_append.1 hf with e | e
        · exact ih (sp n) hs m hF f e
        · rw [List.mem_singleton.1 e]
          exact rt_all hF _ _
      · rw [pth_up F (by omega) hm] at hf
        rcases List.mem_append.1 hf with e | e
        · exact ih (n - sp n) (by omega) (m - sp n) (fun i j => hF (sp n + i) j) f e
        · rw [List.mem_singleton.1 e]
          exact rt_lt hF _
theorem prf_lt : ∀ (n m : Nat) (b : Bool) {F : Nat → Nat → Nat}, (∀ i j, F i j < 256) → ∀ f ∈ prf F n m b, ∀ j, f j < 256 := fun n => by
  induction n using Nat.strongRecOn with
  | ind n ih =>
    intro m b F hF f hf
    by_cases h2 : n ≤ m ∨ n < 2
    · rw [prf_end F b h2] at hf
      cases b
      · rw [if_neg (by decide), List.mem_singleton] at hf
        rw [hf]
        exact rt_lt hF _
      · cases hf
    · have hs := sp_lt (n := n) (by omega)
      have hp := sp_pos (n := n) (by omega)
      by_cases hm : m ≤ sp n
      · rw [prf_low F b (by omega) (by omega) hm] at hf
        rcases List.mem_append.1 hf with e | e
        · exact ih (sp n) hs m b hF f e
        · rw [List.mem_singleton.1 e]
          exact rt_all hF _ _
      · rw [prf_up F b (by omega) (by omega) hm] at hf
        rcases List.mem_append.1 hf with e | e
        · exact ih (n - sp n) (by omega) (m - sp n) false (fun i j => hF (sp n + i) j) f e
        · rw [List.mem_singleton.1 e]
          exact rt_lt hF _
theorem pth_len_n : ∀ (n m : Nat) (F : Nat → Nat → Nat), (pth F n m).length ≤ n := fun n => by
  induction n using Nat.strongRecOn with
  | ind n ih =>
    intro m F
    by_cases h2 : n < 2
    · rw [pth_small F m h2]
      exact Nat.zero_le _
    · have hs := sp_lt (n := n) (by omega)
      have hp := sp_pos (n := n) (by omega)
      by_cases hm : m < sp n
      · rw [pth_low F (by omega) hm, List.length_append]
        have := ih (sp n) hs m F
        show _ + 1 ≤ n
        omega
      · rw [pth_up F (by omega) hm, List.length_append]
        have := ih (n - sp n) (by omega) (m - sp n) (fun i => F (sp n + i))
        show _ + 1 ≤ n
        omega
theorem prf_len_n : ∀ (n m : Nat) (b : Bool) (F : Nat → Nat → Nat), (prf F n m b).length ≤ n + 1 := fun n => by
  induction n using Nat.strongRecOn with
  | ind n ih =>
    intro m b F
    by_cases h2 : n ≤ m ∨ n < 2
    · rw [prf_end F b h2]
      cases b
      · show 1 ≤ n + 1
        omega
      · exact Nat.zero_le _
    · have hs := sp_lt (n := n) (by omega)
      have hp := sp_pos (n := n) (by omega)
      by_cases hm : m ≤ sp n
      · rw [prf_low F b (by omega) (by omega) hm, List.length_append]
        have := ih (sp n) hs m b F
        show _ + 1 ≤ n + 1
        omega
      · rw [prf_up F b (by omega) (by omega) hm, List.length_append]
        have := ih (n - sp n) (by omega) (m - sp n) false (fun i => F (sp n + i))
        show _ + 1 ≤ n + 1
        omega
/-- While bits are counted: b are counted, x is left of k. -/
def BtR (k x b : Nat) : Prop := k < (x + 1) * 2 ^ b
theorem BtR.start (k : Nat) : BtR k k 0 := by unfold BtR; omega
theorem BtR.next {k x b : Nat} (h : BtR k x b) (_hx : 0 < x) : BtR k (x / 2) (b + 1) := by
  unfold BtR at *
  have h1 : (x + 1) * 2 ^ b ≤ ((x / 2 + 1) * 2) * 2 ^ b := Nat.mul_le_mul_right _ (by omega)
  have h2 : (x / 2 + 1) * 2 * 2 ^ b = (x / 2 + 1) * 2 ^ (b + 1) := by rw [Nat.pow_succ, Nat.mul_assoc, Nat.mul_comm 2]
  omega
end Go.Proofs.YtkpkkjcfodjifaaDoor
namespace Go.Proofs.YtkpkkjcfodjifaaDoor
set_option maxRecDepth 100000
open Go.RowKit
attribute [local go_sem ↓] Go.wp_at_zero Go.wp_at_succ

end Go.Proofs.YtkpkkjcfodjifaaDoor
