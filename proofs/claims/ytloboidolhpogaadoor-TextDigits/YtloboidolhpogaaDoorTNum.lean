/- What the document's own Number answers. -/
import Derived.Test.YtloboidolhpogaaDoorTDig
import Derived.Deep.LoopGhost
namespace Go.Proofs.YtloboidolhpogaaDoor
open Go.RowKit
attribute [local go_sem ↓] Go.wp_at_zero Go.wp_at_succ

/-- One sign more. -/
def nvs (n c : Int) : Int := (n * 10 + c - 48) % 18446744073709551616
theorem nvs_bd (n c : Int) : 0 ≤ nvs n c ∧ nvs n c < 18446744073709551616 := ⟨Int.emod_nonneg _ (by omega), Int.emod_lt_of_pos _ (by omega)⟩
theorem nvs_wrap (n c : Int) : nvs n c = IntKind.u64.wrap (IntKind.u64.wrap (IntKind.u64.wrap (n * 10) + c) - 48) := by
  unfold nvs
  rw [IntKind.wrap_u64, IntKind.wrap_u64, IntKind.wrap_u64]
  omega
/-- The number of the first k signs, whatever they are. -/
def nv (l : List UInt8) : Nat → Int
  | 0 => 0
  | k + 1 => nvs (nv l k) ((l.getD k 0).toNat : Int)
theorem nv_bd (l : List UInt8) : ∀ k, 0 ≤ nv l k ∧ nv l k < 18446744073709551616
  | 0 => ⟨Int.le_refl _, by show (0 : Int) < _; decide⟩
  | k + 1 => nvs_bd _ _
theorem nv_front (a b : List UInt8) : ∀ k, k ≤ a.length → nv (a ++ b) k = nv a k
  | 0, _ => rfl
  | k + 1, h => by
    simp only [nv]
    rw [nv_front a b k (by omega), List.getD_eq_getElem?_getD, List.getElem?_append_left (by omega), List.getD_eq_getElem?_getD]
theorem dg_val (n : Nat) (h : n < 10) : ((dg n).toNat : Int) = 48 + n := by
  match n, h with
  | 0, _ => rfl
  | 1, _ => rfl
  | 2, _ => rfl
  | 3, _ => rfl
  | 4, _ => rfl
  | 5, _ => rfl
  | 6, _ => rfl
  | 7, _ => rfl
  | 8, _ => rfl
  | 9, _ => rfl
theorem nv_digs : ∀ (k n : Nat), n < 10 ^ (k + 1) → nv (digs n) (digs n).length = (n : Int) % 18446744073709551616
  | 0, n, h => by
    have hl : n < 10 := by simpa using h
    rw [digs_low hl]
    simp only [List.length_cons, List.length_nil, nv, List.getD_cons_zero, nvs, dg_val n hl]
    omega
  | k + 1, n, h => by
    by_cases hl : n < 10
    · rw [digs_low hl]
      simp only [List.length_cons, List.length_nil, nv, List.getD_cons_zero, nvs, dg_val n hl]
      omega
    · rw [digs_up hl]
      have ih := nv_digs k (n / 10) (by rw [Nat.pow_succ] at h; omega)
      rw [List.length_append, show [dg (n % 10)].length = 1 from rfl]
      simp only [nv]
      rw [nv_front _ _ _ (Nat.le_refl _), ih, List.getD_eq_getElem?_getD, List.getElem?_append_right (Nat.le_refl _), Nat.sub_self]
      simp only [List.getElem?_cons_zero, Option.getD_some, nvs, dg_val (n % 10) (by omega)]
      omega
theorem digs_pos (n : Nat) : 0 < (digs n).length := by
  by_cases h : n < 10
  · rw [digs_low h]; simp
  · rw [digs_up h]; simp

/-- The number whose digits these signs are. -/
theorem num_back {l : List UInt8} {n : Nat} (hn : n < 18446744073709551616) (h : digs n = l) : nv l (min l.length 20) = (n : Int) := by
  have h20 : n < 10 ^ (19 + 1) := Nat.lt_trans hn (by decide)
  have hl := digs_len 19 n h20
  have hv := nv_digs 19 n h20
  rw [h] at hl hv
  rw [show min l.length 20 = l.length by omega, hv]
  omega

/-- What is told of a text: the number whose digits it is, or that there is none. -/
def numR (l : List UInt8) : Value := if digs (nv l (min l.length 20)).toNat = l then .tuple #[.int .u64 (nv l (min l.length 20)), .bool true] else .tuple #[.int .u64 0, .bool false]
theorem numR_yes {l : List UInt8} {n : Nat} (hn : n < 18446744073709551616) (h : digs n = l) : numR l = .tuple #[.int .u64 n, .bool true] := by
  unfold numR
  rw [num_back hn h, Int.toNat_natCast, if_pos h]
theorem numR_no {l : List UInt8} (h : ∀ n : Nat, n < 18446744073709551616 → digs n ≠ l) : numR l = .tuple #[.int .u64 0, .bool false] := by
  unfold numR
  have hb := nv_bd l (min l.length 20)
  rw [if_neg (h _ (by omega))]

set_option maxHeartbeats 4000000 in
theorem refNumber_walk (s : ByteArray) (hs : s.size ≤ 9223372036854775807) (w : World) :
    Calls Tryd.prog 7 #[.string s] w fun e w' => e = .returned (numR s.data.toList) ∧ w' = w := by
  go_enter Tryd.func7, Tryd.ntmps7
  go_wp2_with fail
  go_loopg [4, 5] 20 (fun g n i wr => wr = w ∧ ∃ k : Nat, g = 20 - k ∧ k ≤ 20 ∧ k ≤ s.size ∧ i = .int .i64 k ∧ n = .int .u64 (nv s.data.toList k))
  case atStart => exact ⟨rfl, 0, rfl, by omega, by omega, rfl, rfl⟩
  case round =>
    obtain ⟨rfl, k, rfl, hk, hks, rfl, rfl⟩ := hrel
    have hb := nv_bd s.data.toList k
    by_cases hlt : k < s.size ∧ k < 20
    · obtain ⟨h1, h2⟩ := hlt
      have hcl : (0 : Int) ≤ (s[k].toNat : Int) := by omega
      have hch : (s[k].toNat : Int) ≤ 255 := by have := s[k].toNat_lt; omega
      have HS : Hid (nv s.data.toList (k + 1) = nvs (nv s.data.toList k) (s[k].toNat : Int)) := by
        show _ = _
        simp only [nv]
        congr 2
        rw [List.getD_eq_getElem?_getD, List.getElem?_eq_getElem (by simpa using h1)]
        rfl
      generalize nv s.data.toList k = v at *
      go_wp2_with fail
      go_roundg (20 - (k + 1))
      case measure => omega
      case rel => exact ⟨rfl, k + 1, rfl, by omega, by omega, by go_num, by rw [HS.out, nvs_wrap]⟩
    · obtain ⟨m, hm⟩ : ∃ m : Nat, nv s.data.toList k = (m : Int) := ⟨(nv s.data.toList k).toNat, by omega⟩
      have hmin : min s.size 20 = k := by omega
      have hls : s.data.toList.length = s.size := Array.length_toList
      have HM : Hid (nv s.data.toList (min s.size 20) = (m : Int)) := by show _ = _; rw [hmin]; exact hm
      rw [hm]
      have hmb : m < 18446744073709551616 := by omega
      have HDG : Hid (∀ w, Calls Tryd.prog 9 #[.int .u64 m] w fun e w' => e = .returned (.string (tx (digs m))) ∧ w' = w) := fun w => refDigits_any 19 m w (by omega) (Nat.lt_trans hmb (by decide)) hmb
      have hbe : ((tx (digs m)).toList == s.toList) = decide (digs m = s.data.toList) := by rw [tx_list, ByteArray.toList_eq, Bool.eq_iff_iff]; simp
      by_cases he : digs m = s.data.toList
      · have hd : ((tx (digs m)).toList == s.toList) = true := by rw [hbe]; exact decide_eq_true he
        have HE : Hid (numR s.data.toList = .tuple #[.int .u64 m, .bool true]) := by show _ = _; unfold numR; rw [hls, HM.out, Int.toNat_natCast, if_pos he]
        clear he hbe hm hmin hb hls
        rcases (show ¬ k < s.size ∨ (k < s.size ∧ ¬ k < 20) by omega) with h1 | ⟨h1, h2⟩
        all_goals
          (try have h2i : ¬ (k : Int) < 20 := by omega)
          clear hlt
          go_wp2_with fail
          with_reducible refine Calls.mono (HDG.out _) ?_
          rintro e w1 ⟨rfl, rfl⟩
          go_wp2_with fail
          go_ret2
          exact ⟨by rw [HE.out]; rfl, rfl⟩
      · have hd : ((tx (digs m)).toList == s.toList) = false := by rw [hbe]; exact decide_eq_false he
        have HE : Hid (numR s.data.toList = .tuple #[.int .u64 0, .bool false]) := by show _ = _; unfold numR; rw [hls, HM.out, Int.toNat_natCast, if_neg he]
        clear he hbe hm hmin hb hls
        rcases (show ¬ k < s.size ∨ (k < s.size ∧ ¬ k < 20) by omega) with h1 | ⟨h1, h2⟩
        all_goals
          (try have h2i : ¬ (k : Int) < 20 := by omega)
          clear hlt
          go_wp2_with fail
          with_reducible refine Calls.mono (HDG.out _) ?_
          rintro e w1 ⟨rfl, rfl⟩
          go_wp2_with fail
          go_ret2
          exact ⟨by rw [HE.out]; rfl, rfl⟩
end Go.Proofs.YtloboidolhpogaaDoor
