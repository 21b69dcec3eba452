/- What the document's own PutBig and Big answer. -/
import Derived.Test.YtlpjdhoboebbfaaCNum
import Derived.Test.YtlpjdhoboebbfaaKApp
import Derived.Deep.LoopGhost
import Derived.Deep.DeepCutAuto
import Derived.Deep.RegionWith
namespace Go.Proofs.Ytlpjdhoboebbfaa
open Go.RowKit
attribute [local go_sem ↓] Go.wp_at_zero Go.wp_at_succ

/-- The region ends in one way. -/
def Only (A : Act) (W : World) : Exit → Act → World → Prop
  | .normal, a, w => a = A ∧ w = W
  | _, _, _ => False
theorem Only.intro (A : Act) (W : World) : Only A W .normal A W := ⟨rfl, rfl⟩
theorem Only.out {A : Act} {W : World} {Q : Exit → Act → World → Prop} (h : Q .normal A W) : ∀ e a w, Only A W e a w → Q e a w := by
  intro e a w hq
  cases e <;> first | exact (hq : False).elim | (obtain ⟨rfl, rfl⟩ := hq; exact h)

def rv (f : Nat → Int) (n k : Nat) : List Value := (List.range k).map (fun j => Value.int .u8 (f (n - 1 - j)))
theorem rv_succ (f : Nat → Int) (n k : Nat) : rv f n (k + 1) = rv f n k ++ [Value.int .u8 (f (n - 1 - k))] := by simp [rv, List.range_succ]
theorem rv_at (f : Nat → Int) (n k j : Nat) (h : j < k) : (rv f n k)[j]? = some (Value.int .u8 (f (n - 1 - j))) := by simp [rv, h]
theorem below_own {w wr w1 : World} {n : Nat} {v : Value} {xs : List Value} {o : Obj} (hB : Below w.heap.size w wr) (hown : wr.ownsRow w.heap.size 5 1 v n xs) (hg : (wr.alloc o).grownBy w1 v.ownBlock) : Below w.heap.size w w1 :=
  (K.alloc hB o).grown hg (K.alloc hB o).size (fun k hk => (hown.lt k hk).1)

set_option maxRecDepth 100000 in
set_option maxHeartbeats 2000000 in
theorem turned_any {b o cap n : Nat} {f : Nat → Int} (hn : n ≤ 100) {w : World} (hD : Rd w b o n f) :
    Calls Try.prog 16 #[.slice (some ⟨b, o, none⟩) n cap] w fun e w' => ∃ v, e = .returned v ∧ w'.ownsRow w.heap.size 5 1 v n (rv f n n) ∧ Below w.heap.size w w' := by
  obtain ⟨i0, hi, hz0, hz1, hz2⟩ := info_parts info8
  have HD : Hid (Rd w b o n f) := hD
  clear hD
  go_enter Try.func16, Try.ntmps16
  go_wp2_with fail
  go_loopg [3, 4] n (fun g v s wr => ∃ k : Nat, g = n - k ∧ k ≤ n ∧ s = .int .i64 ((n : Int) - 1 - k) ∧ wr.ownsRow w.heap.size 5 1 v k (rv f n k) ∧ Below w.heap.size w wr)
  case atStart => exact ⟨0, rfl, by omega, by go_num, World.ownsRow_nil _ _ _ _, Below.refl _ _⟩
  case round =>
    obtain ⟨k, rfl, hk, rfl, hown, hB⟩ := hrel
    by_cases hlt : k < n
    · obtain ⟨j, hj⟩ : ∃ j, j = n - 1 - k := ⟨_, rfl⟩
      have hji : (n : Int) - 1 - k = (j : Int) := by omega
      have hc := (HD.out.keep hB).c j (by omega)
      have HJ : Hid (j = n - 1 - k ∧ k < n) := ⟨hj, hlt⟩
      have hjn : (j : Int) < n := by omega
      have HB : Hid (Below w.heap.size w wr) := hB
      have hnn : (n : Int) ≤ 100 := by omega
      clear hj hlt hk
      rw [hji]
      clear hji
      go_wp2_with (at_builtin; refine wpList_append_own _ rfl _ _ 27 rfl w.heap.size 5 i0 (.int .u8 0) 1 1 Try.underlying27 hi hz0 hz1 hz2 rfl (by decide) _ _ _ rfl (hown.alloc _) ⟨wr.heap.size, 0, none⟩ 1 1 [.int .u8 (f j)] rfl rfl ?c1 ?c2 ?c3 ?c4 ?c5 ?_)
      case c1 =>
        intro i u hu
        match i, hu with
        | 0, hu => simp at hu; subst hu; simp [Addr.add]
      case c2 => intro u hu; simp at hu; subst hu; rfl
      case c3 => have := HJ.out; unfold maxLen; omega
      case c4 => have := HJ.out; omega
      case c5 => have := hB.size; simp; omega
      intro v' w1 hown' hgrow _
      have R1 := below_own hB hown hgrow
      have R2 : w1.ownsRow w.heap.size 5 1 v' (k + 1) (rv f n (k + 1)) := by rw [rv_succ, ← HJ.out.1]; exact hown'
      clear hown' hgrow hown hB hc
      go_wp2_with fail
      go_roundg (n - (k + 1))
      case measure => have := HJ.out; omega
      case rel => exact ⟨k + 1, rfl, by have := HJ.out; omega, by have := HJ.out; go_num, R2, R1⟩
    · obtain rfl : k = n := by omega
      have hs : (k : Int) - 1 - k = -1 := by omega
      rw [hs]
      go_wp2_with fail
      go_ret
      exact ⟨_, rfl, hown, hB⟩
/-- The first m bytes of a number. -/
def pl (a : Int) (m : Nat) : List Value := (List.range m).map (fun j => Value.int .u8 (Y j a))
theorem pl_succ (a : Int) (m : Nat) : pl a (m + 1) = pl a m ++ [Value.int .u8 (Y m a)] := by simp [pl, List.range_succ]
theorem pl_at (a : Int) (m j : Nat) (h : j < m) : (pl a m)[j]? = some (Value.int .u8 (Y j a)) := by simp [pl, h]
theorem arr_at {w : World} {b : Nat} {a : Int} (h : Arr w b (L 0 a) (L 1 a) (L 2 a) (L 3 a)) (i : Nat) (hi : i < 4) : w.cell? ⟨b, i, none⟩ = some (.int .u64 (L i a)) := by
  match i, hi with
  | 0, _ => exact h.c0
  | 1, _ => exact h.c1
  | 2, _ => exact h.c2
  | 3, _ => exact h.c3
theorem div_next (x : Int) (k : Nat) : x / 256 ^ k / 256 = x / 256 ^ (k + 1) := by
  rw [Int.pow_succ, ← Int.ediv_ediv_of_nonneg (Int.le_of_lt (Int.pow_pos (by omega)))]
theorem div_bd {x : Int} (h0 : 0 ≤ x) (h1 : x < 18446744073709551616) (k : Nat) : 0 ≤ x / 256 ^ k ∧ x / 256 ^ k < 18446744073709551616 :=
  ⟨Int.ediv_nonneg h0 (Int.le_of_lt (Int.pow_pos (by omega))), Int.lt_of_le_of_lt (Int.ediv_le_self _ h0) h1⟩

set_option maxRecDepth 100000 in
set_option maxHeartbeats 4000000 in
theorem refPutLittle_any (a : Int) (w : World) :
    Calls Try.prog 17 #[.agg #[.int .u64 (L 0 a), .int .u64 (L 1 a), .int .u64 (L 2 a), .int .u64 (L 3 a)]] w fun e w' => ∃ g cap, e = .returned (.slice (some ⟨g, 0, none⟩) 32 cap) ∧ Row8 w' g 32 (fun i => Y i a) ∧ Below w.heap.size w w' := by
  obtain ⟨i0, hi, hz0, hz1, hz2⟩ := info_parts info8
  have hA := Arr.new w w.heap.size rfl 24 (L 0 a) (L 1 a) (L 2 a) (L 3 a)
  have hw : Below w.heap.size w (w.alloc (.cells #[.int .u64 (L 0 a), .int .u64 (L 1 a), .int .u64 (L 2 a), .int .u64 (L 3 a)] 24)) := K.alloc (Below.refl _ _) _
  go_enter Try.func17, Try.ntmps17
  go_wp2_with fail
  generalize w.alloc (.cells #[.int .u64 (L 0 a), .int .u64 (L 1 a), .int .u64 (L 2 a), .int .u64 (L 3 a)] 24) = W0 at *
  go_loopg [3, 4] 4 (fun g v s wr => ∃ i : Nat, g = 4 - i ∧ i ≤ 4 ∧ s = .int .i64 i ∧ wr.ownsRow W0.heap.size 5 1 v (8 * i) (pl a (8 * i)) ∧ Below W0.heap.size W0 wr)
  case atStart => exact ⟨0, rfl, by omega, rfl, World.ownsRow_nil _ _ _ _, Below.refl _ _⟩
  case round =>
    obtain ⟨i, rfl, hle, rfl, hO, hB⟩ := hrel
    by_cases hlt : i < 4
    · have hc := arr_at (hA.keep hB) i hlt
      have hii : (i : Int) < 4 := by omega
      have HL : Hid (0 ≤ L i a ∧ L i a < 18446744073709551616) := ⟨L_lo _ _, L_hi _ _⟩
      have HI : Hid (i < 4) := hlt
      clear hlt hle
      go_wp2_with fail
      go_loopg [3, 5, 6] 8 (fun g v x s wr => ∃ k : Nat, g = 8 - k ∧ k ≤ 8 ∧ s = .int .i64 k ∧ x = .int .u64 (L i a / 256 ^ k) ∧ wr.ownsRow W0.heap.size 5 1 v (8 * i + k) (pl a (8 * i + k)) ∧ Below W0.heap.size W0 wr)
      case atStart => exact ⟨0, rfl, by omega, rfl, by simp, hO, hB⟩
      case round =>
        clear hO hB hc
        obtain ⟨k, rfl, hle, rfl, rfl, hO, hB⟩ := hrel
        by_cases hlt : k < 8
        · have hbd := div_bd HL.out.1 HL.out.2 k
          have HD : Hid (L i a / 256 ^ k % 256 = Y (8 * i + k) a ∧ L i a / 256 ^ k / 256 = L i a / 256 ^ (k + 1)) := ⟨byte_word a i k hlt, div_next _ _⟩
          generalize L i a / 256 ^ k = x at *
          go_wp2_with (at_builtin; refine wpList_append_own _ rfl _ _ 27 rfl W0.heap.size 5 i0 (.int .u8 0) 1 1 Try.underlying27 hi hz0 hz1 hz2 rfl (by decide) _ _ _ rfl (hO.alloc _) ⟨wr.heap.size, 0, none⟩ 1 1 [.int .u8 (x % 256)] rfl rfl ?c1 ?c2 ?c3 ?c4 ?c5 ?_)
          case c1 =>
            intro j u hu
            match j, hu with
            | 0, hu => simp at hu; subst hu; simp [Addr.add]
          case c2 => intro u hu; simp at hu; subst hu; rfl
          case c3 => have := HI.out; unfold maxLen; omega
          case c4 => have := HI.out; omega
          case c5 => have := hB.size; simp; omega
          intro v' w1 hown' hgrow _
          have R1 : Below W0.heap.size W0 w1 := (K.alloc hB _).grown hgrow (K.alloc hB _).size (fun k hk => (hO.lt k hk).1)
          have R2 : w1.ownsRow W0.heap.size 5 1 v' (8 * i + (k + 1)) (pl a (8 * i + (k + 1))) := by rw [← Nat.add_assoc, pl_succ, ← HD.out.1]; exact hown'
          clear hown' hgrow hO hB
          go_wp2_with fail
          go_roundg (8 - (k + 1))
          case measure => omega
          case rel => exact ⟨k + 1, rfl, by omega, by go_num, by rw [← HD.out.2], R2, R1⟩
        · obtain rfl : k = 8 := by omega
          go_wp2_with fail
          go_roundg (4 - (i + 1))
          case measure => have := HI.out; omega
          case rel => exact ⟨i + 1, rfl, by have := HI.out; omega, by go_num, hO, hB⟩
    · obtain rfl : i = 4 := by omega
      go_wp2_with fail
      obtain ⟨g, cap, rfl, _, hR⟩ := own_rd (f := fun i => Y i a) hO (fun j hj => pl_at a _ j hj) (by omega)
      go_ret
      exact ⟨g, cap, rfl, hR, K.call hw hB⟩

set_option maxRecDepth 100000 in
set_option maxHeartbeats 1000000 in
theorem refPutBig_any (a : Int) (w : World) :
    Calls Try.prog 14 #[.agg #[.int .u64 (L 0 a), .int .u64 (L 1 a), .int .u64 (L 2 a), .int .u64 (L 3 a)]] w fun e w' => ∃ g cap, e = .returned (.slice (some ⟨g, 0, none⟩) 32 cap) ∧ Row8 w' g 32 (fun i => Y (31 - i) a) ∧ Below w.heap.size w w' := by
  go_enter Try.func14, Try.ntmps14
  go_wp2_with fail
  with_reducible refine Calls.mono (refPutLittle_any a _) ?_
  rintro e w1 ⟨g, cap, rfl, hR, hb1⟩
  have hB1 : Below w.heap.size w w1 := K.call (K.alloc (Below.refl _ _) _) hb1
  clear hb1
  go_wp2_with fail
  with_reducible refine Calls.mono (turned_any (by omega) hR.rd) ?_
  rintro e w2 ⟨v, rfl, hown, hb2⟩
  obtain ⟨g2, cap2, rfl, _, hR2⟩ := own_rd (f := fun i => Y (31 - i) a) hown (fun j hj => rv_at _ 32 32 j hj) (by omega)
  clear hown
  go_wp2_with fail
  go_ret
  exact ⟨g2, cap2, rfl, hR2, K.call hB1 hb2⟩
end Go.Proofs.Ytlpjdhoboebbfaa
