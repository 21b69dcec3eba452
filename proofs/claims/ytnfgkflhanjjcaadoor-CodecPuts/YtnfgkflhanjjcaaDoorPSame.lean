/- What the document's own Same and Turned answer; the program is awake. -/
import Derived.Test.YtnfgkflhanjjcaaDoorPPut
import Derived.Deep.DeepCutAuto
namespace Go.Proofs.YtnfgkflhanjjcaaDoor
open Go.RowKit
attribute [local go_sem ↓] Go.wp_at_zero Go.wp_at_succ

set_option maxHeartbeats 2000000 in
theorem same_true {b o c b2 o2 c2 n : Nat} {f g : Nat → Int} (hn : n ≤ 1000000) {w : World} (h1 : Rd w b o n f) (h2 : Rd w b2 o2 n g) (he : ∀ i, i < n → g i = f i) :
    Calls Tryd.prog 5 #[.slice (some ⟨b, o, none⟩) n c, .slice (some ⟨b2, o2, none⟩) n c2] w fun e w' => e = .returned (.bool true) ∧ Below w.heap.size w w' := by
  have H1 : Hid (Rd w b o n f) := h1
  have H2 : Hid (Rd w b2 o2 n f) := h2.congr he
  clear h1 h2 he
  go_enter Tryd.func5, Tryd.ntmps5
  go_wp2_with fail
  go_loopg [5] n (fun g s wr => ∃ k : Nat, g = n - k ∧ k ≤ n ∧ s = .int .i64 k ∧ Below w.heap.size w wr)
  case atStart => exact ⟨0, rfl, by omega, rfl, Below.refl _ _⟩
  case round =>
    obtain ⟨k, rfl, hk, rfl, hB⟩ := hrel
    by_cases hlt : k < n
    · have hc1 := (H1.out.keep hB).c k hlt
      have hc2 := (H2.out.keep hB).c k hlt
      have HB : Hid (Below w.heap.size w wr) := hB
      clear hB
      go_upto_region 6 with fail
      go_quiet (fail)
      go_wp2_with fail
      go_roundg (n - (k + 1))
      case measure => omega
      case rel => exact ⟨k + 1, rfl, by omega, by go_num, K.drewN HB.out _⟩
    · go_wp2_with fail
      go_ret
      exact ⟨rfl, hB⟩

theorem words_zero (i : Nat) : L i 0 = 0 := by simp [L]
set_option maxHeartbeats 1000000 in
theorem awake_any (w : World) : Calls Tryd.prog 4 #[] w fun e w' => e = .returned (.bool true) ∧ Below w.heap.size w w' := by
  have HP : Hid (∀ w, Calls Tryd.prog 6 #[.agg #[.int .u64 0, .int .u64 0, .int .u64 0, .int .u64 0]] w fun e w' => e = .returned (.slice (some ⟨w.heap.size + 1, 0, none⟩) 32 32) ∧ Row8 w' (w.heap.size + 1) 32 (fun i => Y (31 - i) 0) ∧ Below w.heap.size w w') := by
    intro w
    have h := putBig_any 0 w
    rw [words_zero, words_zero, words_zero, words_zero] at h
    exact h
  go_enter Tryd.func4, Tryd.ntmps4
  go_wp2_with (go_at_call 6; with_reducible refine Calls.mono (HP.out _) ?_; rintro e w' ⟨rfl, _, hb⟩)
  go_ret
  exact ⟨rfl, hb⟩

/-- The first k bytes, from the end on. -/
def rv (f : Nat → Int) (n k : Nat) : List Value := (List.range k).map (fun j => Value.int .u8 (f (n - 1 - j)))
theorem rv_succ (f : Nat → Int) (n k : Nat) : rv f n (k + 1) = rv f n k ++ [Value.int .u8 (f (n - 1 - k))] := by simp [rv, List.range_succ]
theorem rv_at (f : Nat → Int) (n k j : Nat) (h : j < k) : (rv f n k)[j]? = some (Value.int .u8 (f (n - 1 - j))) := by simp [rv, h]
theorem own_shape {w : World} {base n : Nat} {v : Value} {xs : List Value} (h : w.ownsRow base 5 1 v n xs) : ∃ a cap, v = .slice a n cap := by
  rcases h.2 with ⟨rfl, rfl⟩ | ⟨g, cap, cur, rfl, _⟩
  · exact ⟨_, _, rfl⟩
  · exact ⟨_, _, rfl⟩
theorem own_rd {w : World} {base n : Nat} {v : Value} {f : Nat → Int} {xs : List Value} (h : w.ownsRow base 5 1 v n xs) (hx : ∀ j, j < n → xs[j]? = some (.int .u8 (f j))) (hn : 0 < n) : ∃ g cap, v = .slice (some ⟨g, 0, none⟩) n cap ∧ base ≤ g ∧ Row8 w g n f := by
  rcases h.2 with ⟨_, h0⟩ | ⟨g, cap, cur, rfl, hg, _⟩
  · omega
  · refine ⟨g, cap, rfl, hg, (h.lt g rfl).2, fun j hj => ?_, fun j _ => h.frozenAt j⟩
    rw [h.cellAt j (by omega)]; exact hx j hj
theorem below_own {w wr w1 : World} {n : Nat} {v : Value} {xs : List Value} {o : Obj} (hB : Below w.heap.size w wr) (hown : wr.ownsRow w.heap.size 5 1 v n xs) (hg : (wr.alloc o).grownBy w1 v.ownBlock) : Below w.heap.size w w1 :=
  (K.alloc hB o).grown hg (K.alloc hB o).size (fun k hk => (hown.lt k hk).1)

set_option maxHeartbeats 2000000 in
theorem turned_any {b o cap n : Nat} {f : Nat → Int} (hn : n ≤ 100) {w : World} (hD : Rd w b o n f) :
    Calls Tryd.prog 13 #[.slice (some ⟨b, o, none⟩) n cap] w fun e w' => ∃ v, e = .returned v ∧ w'.ownsRow w.heap.size 5 1 v n (rv f n n) ∧ Below w.heap.size w w' := by
  obtain ⟨i0, hi, hz0, hz1, hz2⟩ := info_parts info8
  have HD : Hid (Rd w b o n f) := hD
  clear hD
  go_enter Tryd.func13, Tryd.ntmps13
  go_wp2_with fail
  go_loopg [3, 4] n (fun g v s wr => ∃ k : Nat, g = n - k ∧ k ≤ n ∧ s = .int .i64 ((n : Int) - 1 - k) ∧ wr.ownsRow w.heap.size 5 1 v k (rv f n k) ∧ Below w.heap.size w wr)
  case atStart => exact ⟨0, rfl, by omega, by go_num, World.ownsRow_nil _ _ _ _, Below.refl _ _⟩
  case round =>
    obtain ⟨k, rfl, hk, rfl, hown, hB⟩ := hrel
    by_cases hlt : k < n
    · obtain ⟨j, hj⟩ : ∃ j, j = n - 1 - k := ⟨_, rfl⟩
      have hji : (n : Int) - 1 - k = (j : Int) := by omega
      have hc := (HD.out.keep hB).c j (by omega)
      have HJ : Hid (j = n - 1 - k ∧ k < n) := ⟨hj, hlt⟩
      have hjn : (j : Int) < n := by omega
      have HB : Hid (Below w.heap.size w wr) := hB
      have hnn : (n : Int) ≤ 100 := by omega
      clear hj hlt hk
      rw [hji]
      clear hji
      go_wp2_with (at_builtin; refine wpList_append_own _ rfl _ _ 27 rfl w.heap.size 5 i0 (.int .u8 0) 1 1 Tryd.underlying27 hi hz0 hz1 hz2 rfl (by decide) _ _ _ rfl (hown.alloc _) ⟨wr.heap.size, 0, none⟩ 1 1 [.int .u8 (f j)] rfl rfl ?c1 ?c2 ?c3 ?c4 ?c5 ?_)
      case c1 =>
        intro i u hu
        match i, hu with
        | 0, hu => simp at hu; subst hu; simp [Addr.add]
      case c2 => intro u hu; simp at hu; subst hu; rfl
      case c3 => have := HJ.out; unfold maxLen; omega
      case c4 => have := HJ.out; omega
      case c5 => have := hB.size; simp; omega
      intro v' w1 hown' hgrow _
      have R1 := below_own hB hown hgrow
      have R2 : w1.ownsRow w.heap.size 5 1 v' (k + 1) (rv f n (k + 1)) := by rw [rv_succ, ← HJ.out.1]; exact hown'
      clear hown' hgrow hown hB hc
      go_wp2_with fail
      go_roundg (n - (k + 1))
      case measure => have := HJ.out; omega
      case rel => exact ⟨k + 1, rfl, by have := HJ.out; omega, by have := HJ.out; go_num, R2, R1⟩
    · obtain rfl : k = n := by omega
      have hs : (k : Int) - 1 - k = -1 := by omega
      rw [hs]
      go_wp2_with fail
      go_ret
      exact ⟨_, rfl, hown, hB⟩

end Go.Proofs.YtnfgkflhanjjcaaDoor
