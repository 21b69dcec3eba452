/- What text.Encode answers. -/
import Derived.Test.YtloboidolhpogaaPEnc
namespace Go.Proofs.Ytloboidolhpogaa
open Go.RowKit
attribute [local go_sem ↓] Go.wp_at_zero Go.wp_at_succ

set_option maxRecDepth 100000 in
set_option maxHeartbeats 8000000 in
theorem encode_some {b o cap n : Nat} {f : Nat → Nat} (hf : ∀ i, f i < 256) (hn : n ≤ 1000) (hcap : n ≤ cap) {w : World} (hD : Rd w b o n (fun i => (f i : Int))) :
    Calls Try.prog 10 #[.slice (some ⟨b, o, none⟩) n cap] w fun e w' => e = .returned (.string (tx (enc f n))) ∧ Below w.heap.size w w' := by
  obtain ⟨i0, hi, hz0, hz1, hz2⟩ := info_parts info8
  have HF : Hid (∀ i, f i < 256) := hf
  have HD : Hid (Rd w b o n (fun i => (f i : Int))) := hD
  have hni : (n : Int) ≤ 1000 := by omega
  clear hf hD
  go_enter Try.func10, Try.ntmps10
  go_wp2_with (at_make; refine wpList_make_own _ rfl _ _ 22 rfl w.heap.size 5 i0 (.int .u8 0) 1 Try.underlying22 hi hz0 hz1 .i64 .i64 _ ((n + 2) / 3 * 4) rfl rfl (by omega) (by rw [hz2]; omega) (by unfold maxLen; omega) (by simp) ?_; intro w1 hown hgrow)
  have hO1 : w1.ownsRow w.heap.size 5 1 (.slice (some ⟨w.heap.size, 0, none⟩) 0 ((n + 2) / 3 * 4)) 0 [] := hown
  have hB1 : Below w.heap.size w w1 := (Below.refl _ w).grown hgrow (Nat.le_refl _) (fun k hk => by cases hk)
  clear hown hgrow
  go_loopg [3, 4] (n + 3) (fun g v i wr => ∃ (k : Nat) (u : Value), u = v ∧ g = n + 3 - 3 * k ∧ 3 * k < n + 3 ∧ i = .int .i64 ((3 * k : Nat) : Int) ∧ wr.ownsRow w.heap.size 5 1 u (4 * k) (cellsT (encU f n k)) ∧ Below w.heap.size w wr)
  case atStart => exact ⟨0, _, rfl, rfl, by omega, rfl, by unfold encU; rw [if_pos (by omega)]; exact hO1, hB1⟩
  case round =>
    clear hO1 hB1 w1
    obtain ⟨k, u, hu, rfl, hk, rfl, hO, hB⟩ := hrel
    subst hu
    by_cases hlt : 3 * k < n
    · obtain ⟨m, hm⟩ : ∃ m, m = 3 * k := ⟨_, rfl⟩
      obtain ⟨L, hL⟩ : ∃ L, L = min 3 (n - 3 * k) := ⟨_, rfl⟩
      have HU : Hid (encU f n (k + 1) = encU f n k ++ grp (gb (fun i => f (m + i)) L) L 4) := by show _ = _; rw [hL, hm]; exact encU_step HF.out hlt
      have HG : Hid (Rd wr b (o + m) L (fun i => ((f (m + i) : Nat) : Int))) := (HD.out.keep hB).part m L (by omega)
      have HK : Hid (m = 3 * k ∧ 1 ≤ L ∧ L ≤ 3 ∧ m + L ≤ n ∧ m < n) := ⟨hm, by omega, by omega, by omega, by omega⟩
      have HL := encU_len f n k hk
      rw [← hm]
      have hmi : (m : Int) < n := by omega
      have hLn : min ((m : Int) + 3) (n : Int) = ((m + L : Nat) : Int) := by omega
      have hVb : gb (fun i => f (m + i)) L < 16777216 := by
        have h0 := HF.out (m + 0)
        have h1 := HF.out (m + 1)
        have h2 := HF.out (m + 2)
        rcases (show L = 1 ∨ L = 2 ∨ L = 3 by omega) with e | e | e <;> rw [e] <;> simp only [gb] <;> omega
      have HGB : Hid (Calls Try.prog 17 #[.slice (some ⟨b, o + m, none⟩) L (cap - m)] wr fun e w' => e = .returned (.int .u32 (gb (fun i => f (m + i)) L : Nat)) ∧ w' = wr) := gatherBytes_any (fun i => HF.out (m + i)) (by omega) HG.out
      generalize gb (fun i => f (m + i)) L = V at *
      have hcase : ((m : Int) + 3 ≤ n ∧ L = 3) ∨ (¬ (m : Int) + 3 ≤ n ∧ L = n - m) := by omega
      have HO : Hid (wr.ownsRow w.heap.size 5 1 u (4 * k) (cellsT (encU f n k))) := hO
      have HB : Hid (Below w.heap.size w wr) := hB
      clear hm hL hk hlt hLn HG hO hB
      have hLi : (L : Int) ≤ 3 := by have := HK.out; omega
      have eAB : ((m : Int) + 3 ≤ n ∧ ((m : Int) + 3).toNat - m = L) ∨ (¬ (m : Int) + 3 ≤ n ∧ n - m = L) := by omega
      clear hcase
      rcases eAB with ⟨hc, eL⟩ | ⟨hc, eL⟩
      all_goals
        go_wp2_with fail
        with_reducible refine Calls.mono HGB.out ?_
        rintro e w1 ⟨rfl, rfl⟩
        go_wp2_with fail
        go_loopg [3, 31] 4 (fun g v i wr => ∃ (r : Nat) (u : Value), u = v ∧ g = 4 - r ∧ r ≤ 4 ∧ i = .int .i64 r ∧ wr.ownsRow w.heap.size 5 1 u (4 * k + r) (cellsT (encU f n k ++ grp V L r)) ∧ Below w.heap.size w wr)
        case atStart => exact ⟨0, _, rfl, rfl, by omega, rfl, by simp only [grp, List.append_nil]; exact HO.out, HB.out⟩
        case round =>
          clear HO HB eL hc
          obtain ⟨r, u, hu, rfl, hr, rfl, hO, hB⟩ := hrel
          subst hu
          by_cases hr4 : r < 4
          · have hri : (r : Int) < 4 := by omega
            by_cases hrL : r ≤ L
            · have hrLi : (r : Int) ≤ L := by omega
              obtain ⟨c, hcE⟩ : ∃ c, c = V / 64 ^ (3 - r) % 64 := ⟨_, rfl⟩
              have hc64 : c < 64 := by omega
              have hci : (c : Int) < 64 := by omega
              have HC : Hid (Calls Try.prog 15 #[.int .u32 (V : Int), .int .i64 (r : Int), .int .i64 6] wr fun e w' => e = .returned (.int .u32 (c : Int)) ∧ Below wr.heap.size wr w') := by
                rw [hcE]; exact cut6_any V hVb r hr4 wr
              have HE : Hid (encU f n k ++ grp V L (r + 1) = (encU f n k ++ grp V L r) ++ [sgn c]) := by
                show _ = _
                rw [List.append_assoc]
                simp only [grp]
                rw [if_pos hrL, ← hcE]
              have hbd : 4 * k + r + 1 ≤ 2000 := by have := HK.out; omega
              have HR : Hid (r < 4 ∧ r ≤ L) := ⟨hr4, hrL⟩
              clear hcE HGB HL hr4 hrL hVb hr
              generalize encU f n k ++ grp V L r = E at *
              go_wp2_with fail
              with_reducible refine Calls.mono HC.out ?_
              rintro e w1 ⟨rfl, hb⟩
              have hO1 := own_keep hO hb
              have hB1 : Below w.heap.size w w1 := K.call hB hb
              clear hb hO hB HC
              go_wp2_with (at_builtin; refine wpList_append_own _ rfl _ _ 22 rfl w.heap.size 5 i0 (.int .u8 0) 1 1 Try.underlying22 hi hz0 hz1 hz2 rfl (by decide) _ _ _ rfl (hO1.alloc _) ⟨w1.heap.size, 0, none⟩ 1 1 [.int .u8 ((sgn c).toNat : Int)] rfl rfl ?c1 ?c2 ?c3 ?c4 ?c5 ?_)
              case c1 =>
                intro i x hx
                match i, hx with
                | 0, hx =>
                  simp only [List.getElem?_cons_zero, Option.some.injEq] at hx
                  subst hx
                  simp [Addr.add]
                  exact congrArg (fun (t : UInt8) => (t.toNat : Int)) (sgn_get c hc64)
              case c2 => intro x hx; simp only [List.mem_cons, List.not_mem_nil, or_false] at hx; rw [hx]; rfl
              case c3 => unfold maxLen; omega
              case c4 => omega
              case c5 => have := hB1.size; simp; omega
              intro v' w2 hown' hgrow _
              have R1 : Below w.heap.size w w2 := (K.alloc hB1 _).grown hgrow (K.alloc hB1 _).size (fun k hk => (hO1.lt k hk).1)
              have R2 : w2.ownsRow w.heap.size 5 1 v' (4 * k + (r + 1)) (cellsT (encU f n k ++ grp V L (r + 1))) := by
                rw [HE.out, cellsT_append]
                exact hown'
              clear hown' hgrow hO1 hB1
              go_wp2_with fail
              go_roundg (4 - (r + 1))
              case measure => have := HR.out; omega
              case rel => exact ⟨r + 1, _, rfl, rfl, by have := HR.out; omega, by go_num, R2, R1⟩
            · have hrLi : ¬ (r : Int) ≤ L := by omega
              have HE : Hid (encU f n k ++ grp V L (r + 1) = (encU f n k ++ grp V L r) ++ [61]) := by
                show _ = _
                rw [List.append_assoc]
                simp only [grp]
                rw [if_neg hrL]
              have hbd : 4 * k + r + 1 ≤ 2000 := by have := HK.out; omega
              have HR : Hid (r < 4) := hr4
              clear HGB HL hr4 hVb hr hrL
              generalize encU f n k ++ grp V L r = E at *
              go_wp2_with (at_builtin; refine Lib.wpList_append_own_string _ rfl _ _ 22 9 rfl w.heap.size 5 i0 Try.underlying22 Try.underlying9 hi hz0 hz1 hz2 _ _ _ rfl hO ⟨#[61]⟩ rfl ?c3 ?c4 ?c5 ?_)
              case c3 => show 4 * k + r + 1 ≤ maxLen; unfold maxLen; omega
              case c4 => omega
              case c5 => exact hB.size
              intro v' w2 hown' hgrow _
              have R1 : Below w.heap.size w w2 := hB.grown hgrow hB.size (fun k hk => (hO.lt k hk).1)
              have R2 : w2.ownsRow w.heap.size 5 1 v' (4 * k + (r + 1)) (cellsT (encU f n k ++ grp V L (r + 1))) := by
                rw [HE.out, cellsT_append, ← cellsT_61]
                exact hown'
              clear hown' hgrow hO hB
              go_wp2_with fail
              go_roundg (4 - (r + 1))
              case measure => have := HR.out; omega
              case rel => exact ⟨r + 1, _, rfl, rfl, by have := HR.out; omega, by go_num, R2, R1⟩
          · obtain rfl : r = 4 := by omega
            rw [← HU.out] at hO
            have hmb : (m : Int) ≤ 1000 := by omega
            clear HGB HL hr4 hVb hr HU
            go_wp2_with fail
            go_roundg (n + 3 - 3 * (k + 1))
            case measure => have := HK.out; omega
            case rel => exact ⟨k + 1, _, rfl, rfl, by have := HK.out; omega, congrArg (Value.int .i64) (by have := HK.out; omega), hO, hB⟩
    · have HB : Hid (Below w.heap.size w wr) := hB
      rw [encU_end hlt hk] at hO
      obtain ⟨m, hm⟩ : ∃ m, m = 3 * k := ⟨_, rfl⟩
      have hmi : ¬ (m : Int) < n := by omega
      rw [← hm]
      have hcv : ∃ a cap', u = .slice a (4 * k) cap' ∧ (convert 22 9 (.slice a (4 * k) cap')).run Try.prog wr = .ok (.string (tx (enc f n))) wr := text_own hO
      obtain ⟨a, cap', rfl, hcv⟩ := hcv
      clear hm hO hB hk hlt
      go_wp2_with fail
      go_ret
      exact ⟨rfl, HB.out⟩

set_option maxHeartbeats 1000000 in
theorem encode_none (a : Option Addr) (cap : Nat) (w : World) :
    Calls Try.prog 10 #[.slice a 0 cap] w fun e w' => e = .returned (.string (tx [])) ∧ Below w.heap.size w w' := by
  obtain ⟨i0, hi, hz0, hz1, hz2⟩ := info_parts info8
  go_enter Try.func10, Try.ntmps10
  go_wp2_with (at_make; refine wpList_make_own _ rfl _ _ 22 rfl w.heap.size 5 i0 (.int .u8 0) 1 Try.underlying22 hi hz0 hz1 .i64 .i64 _ 0 rfl rfl (by omega) (by omega) (by unfold maxLen; omega) (by simp) ?_; intro w1 hown hgrow)
  have hO1 : w1.ownsRow w.heap.size 5 1 (.slice (some ⟨w.heap.size, 0, none⟩) 0 0) 0 (cellsT []) := hown
  have hB1 : Below w.heap.size w w1 := (Below.refl _ w).grown hgrow (Nat.le_refl _) (fun k hk => by cases hk)
  have hcv := text_of hO1
  clear hown hgrow hO1
  refine wp_loop_rounds 1 ?_
  rw [rounds_succ]
  go_wp2_with fail
  go_ret
  exact ⟨rfl, hB1⟩
end Go.Proofs.Ytloboidolhpogaa
