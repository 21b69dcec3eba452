/- What the document's own Turned, Little, Big and Wide answer. -/
import Derived.Test.YtnfgkflhanjjcaaCSame
namespace Go.Proofs.Ytnfgkflhanjjcaa
open Go.RowKit
attribute [local go_sem ↓] Go.wp_at_zero Go.wp_at_succ

/-- The first k bytes, from the end on. -/
def rv (f : Nat → Int) (n k : Nat) : List Value := (List.range k).map (fun j => Value.int .u8 (f (n - 1 - j)))
theorem rv_succ (f : Nat → Int) (n k : Nat) : rv f n (k + 1) = rv f n k ++ [Value.int .u8 (f (n - 1 - k))] := by simp [rv, List.range_succ]
theorem rv_at (f : Nat → Int) (n k j : Nat) (h : j < k) : (rv f n k)[j]? = some (Value.int .u8 (f (n - 1 - j))) := by simp [rv, h]
theorem own_shape {w : World} {base n : Nat} {v : Value} {xs : List Value} (h : w.ownsRow base 5 1 v n xs) : ∃ a cap, v = .slice a n cap := by
  rcases h.2 with ⟨rfl, rfl⟩ | ⟨g, cap, cur, rfl, _⟩
  · exact ⟨_, _, rfl⟩
  · exact ⟨_, _, rfl⟩
theorem own_rd {w : World} {base n : Nat} {v : Value} {f : Nat → Int} {xs : List Value} (h : w.ownsRow base 5 1 v n xs) (hx : ∀ j, j < n → xs[j]? = some (.int .u8 (f j))) (hn : 0 < n) : ∃ g cap, v = .slice (some ⟨g, 0, none⟩) n cap ∧ base ≤ g ∧ Row8 w g n f := by
  rcases h.2 with ⟨_, h0⟩ | ⟨g, cap, cur, rfl, hg, _⟩
  · omega
  · refine ⟨g, cap, rfl, hg, (h.lt g rfl).2, fun j hj => ?_, fun j _ => h.frozenAt j⟩
    rw [h.cellAt j (by omega)]; exact hx j hj
theorem below_own {w wr w1 : World} {n : Nat} {v : Value} {xs : List Value} {o : Obj} (hB : Below w.heap.size w wr) (hown : wr.ownsRow w.heap.size 5 1 v n xs) (hg : (wr.alloc o).grownBy w1 v.ownBlock) : Below w.heap.size w w1 :=
  (K.alloc hB o).grown hg (K.alloc hB o).size (fun k hk => (hown.lt k hk).1)

set_option maxHeartbeats 2000000 in
theorem turned_any {b o cap n : Nat} {f : Nat → Int} (hn : n ≤ 100) {w : World} (hD : Rd w b o n f) :
    Calls Try.prog 17 #[.slice (some ⟨b, o, none⟩) n cap] w fun e w' => ∃ v, e = .returned v ∧ w'.ownsRow w.heap.size 5 1 v n (rv f n n) ∧ Below w.heap.size w w' := by
  obtain ⟨i0, hi, hz0, hz1, hz2⟩ := info_parts info8
  have HD : Hid (Rd w b o n f) := hD
  clear hD
  go_enter Try.func17, Try.ntmps17
  go_wp2_with fail
  go_loopg [3, 4] n (fun g v s wr => ∃ k : Nat, g = n - k ∧ k ≤ n ∧ s = .int .i64 ((n : Int) - 1 - k) ∧ wr.ownsRow w.heap.size 5 1 v k (rv f n k) ∧ Below w.heap.size w wr)
  case atStart => exact ⟨0, rfl, by omega, by go_num, World.ownsRow_nil _ _ _ _, Below.refl _ _⟩
  case round =>
    obtain ⟨k, rfl, hk, rfl, hown, hB⟩ := hrel
    by_cases hlt : k < n
    · obtain ⟨j, hj⟩ : ∃ j, j = n - 1 - k := ⟨_, rfl⟩
      have hji : (n : Int) - 1 - k = (j : Int) := by omega
      have hc := (HD.out.keep hB).c j (by omega)
      have HJ : Hid (j = n - 1 - k ∧ k < n) := ⟨hj, hlt⟩
      have hjn : (j : Int) < n := by omega
      have HB : Hid (Below w.heap.size w wr) := hB
      have hnn : (n : Int) ≤ 100 := by omega
      clear hj hlt hk
      rw [hji]
      clear hji
      go_wp2_with (at_builtin; refine wpList_append_own _ rfl _ _ 22 rfl w.heap.size 5 i0 (.int .u8 0) 1 1 Try.underlying22 hi hz0 hz1 hz2 rfl (by decide) _ _ _ rfl (hown.alloc _) ⟨wr.heap.size, 0, none⟩ 1 1 [.int .u8 (f j)] rfl rfl ?c1 ?c2 ?c3 ?c4 ?c5 ?_)
      case c1 =>
        intro i u hu
        match i, hu with
        | 0, hu => simp at hu; subst hu; simp [Addr.add]
      case c2 => intro u hu; simp at hu; subst hu; rfl
      case c3 => have := HJ.out; unfold maxLen; omega
      case c4 => have := HJ.out; omega
      case c5 => have := hB.size; simp; omega
      intro v' w1 hown' hgrow _
      have R1 := below_own hB hown hgrow
      have R2 : w1.ownsRow w.heap.size 5 1 v' (k + 1) (rv f n (k + 1)) := by rw [rv_succ, ← HJ.out.1]; exact hown'
      clear hown' hgrow hown hB hc
      go_wp2_with fail
      go_roundg (n - (k + 1))
      case measure => have := HJ.out; omega
      case rel => exact ⟨k + 1, rfl, by have := HJ.out; omega, by have := HJ.out; go_num, R2, R1⟩
    · obtain rfl : k = n := by omega
      have hs : (k : Int) - 1 - k = -1 := by omega
      rw [hs]
      go_wp2_with fail
      go_ret
      exact ⟨_, rfl, hown, hB⟩

set_option maxHeartbeats 1000000 in
theorem turned_none (a : Option Addr) (cap : Nat) (w : World) :
    Calls Try.prog 17 #[.slice a 0 cap] w fun e w' => e = .returned (.slice none 0 0) ∧ w' = w := by
  go_enter Try.func17, Try.ntmps17
  go_wp2_with fail
  refine wp_loop_rounds 1 ?_
  rw [rounds_succ]
  go_wp2_with fail
  go_ret
  exact ⟨rfl, rfl⟩

set_option maxHeartbeats 1000000 in
theorem refLittle_not (v : Option Addr) (n cap : Nat) (h : n ≠ 32) (w : World) :
    Calls Try.prog 11 #[.slice v n cap] w fun e w' => e = .returned (.tuple #[.agg #[.int .u64 0, .int .u64 0, .int .u64 0, .int .u64 0], .bool false]) ∧ Below w.heap.size w w' := by
  have hb : ((n : Int) == 32) = false := beq_eq_false_iff_ne.2 (by omega)
  go_enter Try.func11, Try.ntmps11
  go_wp2
  exact bodyPost_ret (v := .tuple #[.agg #[.int .u64 0, .int .u64 0, .int .u64 0, .int .u64 0], .bool false]) (by simp [results, Try.results11, go_sem]) rfl ⟨rfl, by go_grown⟩

set_option maxHeartbeats 4000000 in
theorem refLittle_any {b o cap : Nat} {f : Nat → Int} (hcap : 32 ≤ cap) (hf : ∀ i, 0 ≤ f i ∧ f i < 256) {w : World} (hD : Rd w b o 32 f) :
    Calls Try.prog 11 #[.slice (some ⟨b, o, none⟩) 32 cap] w fun e w' => e = .returned (.tuple #[.agg #[.int .u64 (E f 0 8), .int .u64 (E f 8 8), .int .u64 (E f 16 8), .int .u64 (E f 24 8)], .bool true]) ∧ Below w.heap.size w w' := by
  have HF : Hid (∀ i, 0 ≤ f i ∧ f i < 256) := hf
  have HD : Hid (∀ w1, Below w.heap.size w w1 → Rd w1 b o 32 f) := fun w1 hb => hD.keep hb
  have hci : (32 : Int) ≤ cap := by omega
  clear hf hD
  go_enter Try.func11, Try.ntmps11
  go_wp2_with fail
  apply wp_mono (Q := Only _ _)
  · go_region_with (first
      | (go_at_call 20; with_reducible refine Calls.mono (eight_at0 HF.out (by omega) (HD.out _ (K.drew (K.alloc (Below.refl _ _) _)))) ?_; rintro e w' ⟨rfl, rfl⟩)
      | (go_at_call 20; with_reducible refine Calls.mono (eight_at 8 HF.out (by omega) (HD.out _ (K.drew (K.alloc (Below.refl _ _) _)))) ?_; rintro e w' ⟨rfl, rfl⟩)
      | (go_at_call 20; with_reducible refine Calls.mono (eight_at 16 HF.out (by omega) (HD.out _ (K.drew (K.alloc (Below.refl _ _) _)))) ?_; rintro e w' ⟨rfl, rfl⟩)
      | (go_at_call 20; with_reducible refine Calls.mono (eight_at 24 HF.out (by omega) (HD.out _ (K.drew (K.alloc (Below.refl _ _) _)))) ?_; rintro e w' ⟨rfl, rfl⟩))
    all_goals exact Only.intro _ _
  refine Only.out ?_
  go_wp2_with fail
  exact bodyPost_ret (v := .tuple #[.agg #[.int .u64 (E f 0 8), .int .u64 (E f 8 8), .int .u64 (E f 16 8), .int .u64 (E f 24 8)], .bool true]) (by simp [results, Try.results11, go_sem]) rfl ⟨rfl, K.drew (K.alloc (Below.refl _ _) _)⟩

set_option maxHeartbeats 1000000 in
theorem refBig_none (a : Option Addr) (cap : Nat) (w : World) :
    Calls Try.prog 9 #[.slice a 0 cap] w fun e w' => e = .returned (.tuple #[.agg #[.int .u64 0, .int .u64 0, .int .u64 0, .int .u64 0], .bool false]) ∧ Below w.heap.size w w' := by
  go_enter Try.func9, Try.ntmps9
  go_wp2_with fail
  with_reducible refine Calls.mono (turned_none a cap _) ?_
  rintro e w1 ⟨rfl, rfl⟩
  go_wp2_with fail
  with_reducible refine Calls.mono (refLittle_not none 0 0 (by omega) _) ?_
  rintro e w2 ⟨rfl, hb⟩
  have ⟨kr, kr0, kr1, kr2, kr3, kf0, kf1, kf2, kf3⟩ := (ArrW.new w w.heap.size rfl 26 0 0 0 0).keep hb
  have hB : Below w.heap.size w w2 := K.call (K.alloc (Below.refl _ _) _) hb
  go_wp2_with fail
  exact bodyPost_ret (v := .tuple #[.agg #[.int .u64 0, .int .u64 0, .int .u64 0, .int .u64 0], .bool false]) (by simp [results, Try.results9, go_sem, kr0, kr1, kr2, kr3]) rfl ⟨rfl, K.set4 hB (by omega) _ _ _ _⟩

set_option maxHeartbeats 1000000 in
theorem refBig_not {b o cap n : Nat} {f : Nat → Int} (hn : n ≤ 100) (h0 : n ≠ 32) {w : World} (hD : Rd w b o n f) :
    Calls Try.prog 9 #[.slice (some ⟨b, o, none⟩) n cap] w fun e w' => e = .returned (.tuple #[.agg #[.int .u64 0, .int .u64 0, .int .u64 0, .int .u64 0], .bool false]) ∧ Below w.heap.size w w' := by
  go_enter Try.func9, Try.ntmps9
  go_wp2_with fail
  with_reducible refine Calls.mono (turned_any (cap := cap) hn (hD.keep (K.alloc (Below.refl _ _) _))) ?_
  rintro e w1 ⟨v, rfl, hown, hb1⟩
  obtain ⟨a, c, rfl⟩ := own_shape hown
  clear hown
  have hR1 := (ArrW.new w w.heap.size rfl 26 0 0 0 0).keep hb1
  have hB1 : Below w.heap.size w w1 := K.call (K.alloc (Below.refl _ _) _) hb1
  clear hb1
  go_wp2_with fail
  with_reducible refine Calls.mono (refLittle_not a n c h0 _) ?_
  rintro e w2 ⟨rfl, hb⟩
  have ⟨kr, kr0, kr1, kr2, kr3, kf0, kf1, kf2, kf3⟩ := hR1.keep hb
  have hB : Below w.heap.size w w2 := K.call hB1 hb
  clear hR1 hB1 hb
  go_wp2_with fail
  exact bodyPost_ret (v := .tuple #[.agg #[.int .u64 0, .int .u64 0, .int .u64 0, .int .u64 0], .bool false]) (by simp [results, Try.results9, go_sem, kr0, kr1, kr2, kr3]) rfl ⟨rfl, K.set4 hB (by omega) _ _ _ _⟩

theorem own_cap {w : World} {base n g cap : Nat} {xs : List Value} (h : w.ownsRow base 5 1 (.slice (some ⟨g, 0, none⟩) n cap) n xs) : n ≤ cap := by
  rcases h.2 with ⟨h1, _⟩ | ⟨g', cap', cur, h1, _, _, hle, _⟩
  · cases h1
  · cases h1; exact hle

set_option maxHeartbeats 1000000 in
theorem refBig_any {b o cap : Nat} {f : Nat → Int} (hf : ∀ i, 0 ≤ f i ∧ f i < 256) {w : World} (hD : Rd w b o 32 f) :
    Calls Try.prog 9 #[.slice (some ⟨b, o, none⟩) 32 cap] w fun e w' => e = .returned (.tuple #[.agg #[.int .u64 (E (fun i => f (31 - i)) 0 8), .int .u64 (E (fun i => f (31 - i)) 8 8), .int .u64 (E (fun i => f (31 - i)) 16 8), .int .u64 (E (fun i => f (31 - i)) 24 8)], .bool true]) ∧ Below w.heap.size w w' := by
  have HF : Hid (∀ i, 0 ≤ f i ∧ f i < 256) := hf
  clear hf
  go_enter Try.func9, Try.ntmps9
  go_wp2_with fail
  with_reducible refine Calls.mono (turned_any (cap := cap) (by omega) (hD.keep (K.alloc (Below.refl _ _) _))) ?_
  rintro e w1 ⟨v, rfl, hown, hb1⟩
  obtain ⟨g, c, rfl, _, hrow⟩ := own_rd (f := fun i => f (31 - i)) hown (fun j hj => rv_at f 32 32 j hj) (by omega)
  have hc := own_cap hown
  have HRow : Hid (Row8 w1 g 32 (fun i => f (31 - i))) := hrow
  have hR1 := (ArrW.new w w.heap.size rfl 26 0 0 0 0).keep hb1
  have hB1 : Below w.heap.size w w1 := K.call (K.alloc (Below.refl _ _) _) hb1
  clear hb1 hown hrow hD
  go_wp2_with fail
  with_reducible refine Calls.mono (refLittle_any hc (fun i => HF.out _) HRow.out.rd) ?_
  rintro e w2 ⟨rfl, hb⟩
  have ⟨kr, kr0, kr1, kr2, kr3, kf0, kf1, kf2, kf3⟩ := hR1.keep hb
  have hB : Below w.heap.size w w2 := K.call hB1 hb
  clear hR1 hB1 hb
  go_wp2_with fail
  exact bodyPost_ret (v := .tuple #[.agg #[.int .u64 (E (fun i => f (31 - i)) 0 8), .int .u64 (E (fun i => f (31 - i)) 8 8), .int .u64 (E (fun i => f (31 - i)) 16 8), .int .u64 (E (fun i => f (31 - i)) 24 8)], .bool true]) (by simp [results, Try.results9, go_sem, kr0, kr1, kr2, kr3]) rfl ⟨rfl, K.set4 hB (by omega) _ _ _ _⟩

set_option maxHeartbeats 1000000 in
theorem refWide_not (v : Option Addr) (n cap : Nat) (h : n ≠ 64) (w : World) :
    Calls Try.prog 13 #[.slice v n cap] w fun e w' => e = .returned (.tuple #[.agg #[.int .u64 0, .int .u64 0, .int .u64 0, .int .u64 0, .int .u64 0, .int .u64 0, .int .u64 0, .int .u64 0], .bool false]) ∧ Below w.heap.size w w' := by
  have hb : ((n : Int) == 64) = false := beq_eq_false_iff_ne.2 (by omega)
  go_enter Try.func13, Try.ntmps13
  go_wp2
  exact bodyPost_ret (v := .tuple #[.agg #[.int .u64 0, .int .u64 0, .int .u64 0, .int .u64 0, .int .u64 0, .int .u64 0, .int .u64 0, .int .u64 0], .bool false]) (by simp [results, Try.results13, go_sem]) rfl ⟨rfl, by go_grown⟩

set_option maxHeartbeats 4000000 in
theorem refWide_any {b o cap : Nat} {f : Nat → Int} (hcap : 64 ≤ cap) (hf : ∀ i, 0 ≤ f i ∧ f i < 256) {w : World} (hD : Rd w b o 64 f) :
    Calls Try.prog 13 #[.slice (some ⟨b, o, none⟩) 64 cap] w fun e w' => e = .returned (.tuple #[.agg #[.int .u64 (E f 0 8), .int .u64 (E f 8 8), .int .u64 (E f 16 8), .int .u64 (E f 24 8), .int .u64 (E f 32 8), .int .u64 (E f 40 8), .int .u64 (E f 48 8), .int .u64 (E f 56 8)], .bool true]) ∧ Below w.heap.size w w' := by
  have HF : Hid (∀ i, 0 ≤ f i ∧ f i < 256) := hf
  have HD : Hid (∀ w1, Below w.heap.size w w1 → Rd w1 b o 64 f) := fun w1 hb => hD.keep hb
  have hci : (64 : Int) ≤ cap := by omega
  clear hf hD
  go_enter Try.func13, Try.ntmps13
  go_wp2_with fail
  refine wp_loop_rounds 9 ?_
  rw [rounds_succ]
  go_wp2_with (go_at_call 20; with_reducible refine Calls.mono (eight_at0 HF.out (by omega) (HD.out _ (K.alloc (K.alloc (Below.refl _ _) _) _))) ?_; rintro e w' ⟨rfl, rfl⟩)
  rw [rounds_succ]
  go_wp2_with (go_at_call 20; with_reducible refine Calls.mono (eight_at 8 HF.out (by omega) (HD.out _ (K.alloc (K.alloc (Below.refl _ _) _) _))) ?_; rintro e w' ⟨rfl, rfl⟩)
  rw [rounds_succ]
  go_wp2_with (go_at_call 20; with_reducible refine Calls.mono (eight_at 16 HF.out (by omega) (HD.out _ (K.alloc (K.alloc (Below.refl _ _) _) _))) ?_; rintro e w' ⟨rfl, rfl⟩)
  rw [rounds_succ]
  go_wp2_with (go_at_call 20; with_reducible refine Calls.mono (eight_at 24 HF.out (by omega) (HD.out _ (K.alloc (K.alloc (Below.refl _ _) _) _))) ?_; rintro e w' ⟨rfl, rfl⟩)
  rw [rounds_succ]
  go_wp2_with (go_at_call 20; with_reducible refine Calls.mono (eight_at 32 HF.out (by omega) (HD.out _ (K.alloc (K.alloc (Below.refl _ _) _) _))) ?_; rintro e w' ⟨rfl, rfl⟩)
  rw [rounds_succ]
  go_wp2_with (go_at_call 20; with_reducible refine Calls.mono (eight_at 40 HF.out (by omega) (HD.out _ (K.alloc (K.alloc (Below.refl _ _) _) _))) ?_; rintro e w' ⟨rfl, rfl⟩)
  rw [rounds_succ]
  go_wp2_with (go_at_call 20; with_reducible refine Calls.mono (eight_at 48 HF.out (by omega) (HD.out _ (K.alloc (K.alloc (Below.refl _ _) _) _))) ?_; rintro e w' ⟨rfl, rfl⟩)
  rw [rounds_succ]
  go_wp2_with (go_at_call 20; with_reducible refine Calls.mono (eight_at 56 HF.out (by omega) (HD.out _ (K.alloc (K.alloc (Below.refl _ _) _) _))) ?_; rintro e w' ⟨rfl, rfl⟩)
  rw [rounds_succ]
  go_wp2_with fail
  exact bodyPost_ret (v := .tuple #[.agg #[.int .u64 (E f 0 8), .int .u64 (E f 8 8), .int .u64 (E f 16 8), .int .u64 (E f 24 8), .int .u64 (E f 32 8), .int .u64 (E f 40 8), .int .u64 (E f 48 8), .int .u64 (E f 56 8)], .bool true]) (by simp [results, Try.results13, go_sem]) rfl ⟨rfl, by go_grown⟩
end Go.Proofs.Ytnfgkflhanjjcaa
