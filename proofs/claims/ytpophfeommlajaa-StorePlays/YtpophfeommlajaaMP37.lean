/- Layer 15: the program's numbers in bytes. Layer 15: slices.Collect(slices.Chunk(all, 64)): the pieces of a row of the call's own. Layer 15: the mark's value; the sectors of an entry. Layer 15: a copy; an entry is written; does it stand there? -/
import Derived.Test.YtpophfeommlajaaMP36
import Derived.Test.YtpophfeommlajaaMP24
import Derived.Test.YtpophfeommlajaaMP35
import Derived.Lib.EndianBits
import Derived.Laws.BitsAllLaws
import Derived.RangeFuncBox
import Derived.RangeFuncLeaves
import Derived.Shelf.Abstract
import Derived.WalkKit
import Derived.OwnWalkIn
import Derived.TacticsInMore
import Derived.LoopNIn
import Derived.LoopIn
import Derived.Maps.AppendAt
import Derived.WalkSpells
namespace Go.Proofs.Ytpophfeommlajaa
open Go.RowKit Go.Maps
attribute [local go_sem ↓] Go.wp_at_zero Go.wp_at_succ

theorem takes_n {w : World} {m : Nat} (hm : m ≤ 1000000000) : Calls Try.prog 41 #[.int .i64 (m : Int)] w fun e w' => e = .returned (.int .i64 (tk m : Int)) ∧ w' = w := by
  have h1 : wrap64 ((m : Int) + 2) = (m : Int) + 2 := w_id (by omega) (by omega)
  have h2 : wrap64 ((m : Int) + 2 + 64) = (m : Int) + 2 + 64 := w_id (by omega) (by omega)
  have h3 : wrap64 ((m : Int) + 2 + 64 - 1) = (m : Int) + 2 + 64 - 1 := w_id (by omega) (by omega)
  go_enter Try.func41, Try.ntmps41
  go_wp2_with fail
  go_ret
  exact ⟨ret_int (by unfold tk; omega), rfl⟩
theorem or_byte {x y : Int} {r : Nat} (hr : r < 8) (hx : 0 ≤ x) (hx2 : x < 256 ^ r) (hy : 0 ≤ y) (hy2 : y < 256) : bits .or .u64 x (y * 256 ^ r) = x + y * 256 ^ r := by
  have e : (256 : Int) ^ r = ((2 ^ (8 * r) : Nat) : Int) := by rw [Nat.pow_mul]; simp
  have h7 : (2 : Nat) ^ (8 * r) ≤ 2 ^ 56 := Nat.pow_le_pow_right (by omega) (by omega)
  rw [e] at hx2 ⊢
  obtain ⟨n, rfl⟩ := Int.eq_ofNat_of_zero_le hx
  obtain ⟨m, rfl⟩ := Int.eq_ofNat_of_zero_le hy
  have hn : n < 2 ^ (8 * r) := by omega
  have hm : m * 2 ^ (8 * r) ≤ 255 * 2 ^ 56 := Nat.mul_le_mul (by omega) h7
  have hmi : (m : Int) * ((2 ^ (8 * r) : Nat) : Int) = ((m * 2 ^ (8 * r) : Nat) : Int) := by simp
  rw [hmi]
  generalize hp : 2 ^ (8 * r) = p at *
  rw [u64_or _ _ (by omega) (by omega) (by omega) (by omega), Int.toNat_natCast, Int.toNat_natCast, Nat.or_comm, Nat.mul_comm, ← hp, ← Nat.two_pow_add_eq_or_of_lt (by omega)]
  omega
theorem pn_step {f : Nat → Nat} (h : ∀ i, f i < 256) {i : Nat} (hi : i < 8) : bits .or .u64 (pn f i : Int) (IntKind.u64.wrap (IntKind.u64.wrap (f i : Int) * 2 ^ (8 * i))) = (pn f (i + 1) : Int) := by
  have h1 := h i
  have h2 := pn_lt h i
  have e : (2 : Int) ^ (8 * i) = 256 ^ i := by rw [Int.pow_mul]; rfl
  have hc : (256 : Int) ^ i = ((256 ^ i : Nat) : Int) := by simp
  have h7 : (256 : Nat) ^ i ≤ 256 ^ 7 := Nat.pow_le_pow_right (by omega) (by omega)
  have hm : f i * 256 ^ i ≤ 255 * 256 ^ 7 := Nat.mul_le_mul (by omega) h7
  have hmi : (f i : Int) * ((256 ^ i : Nat) : Int) = ((f i * 256 ^ i : Nat) : Int) := by simp
  rw [u64_wrap_id (x := (f i : Int)) (by omega) (by omega), e, u64_wrap_id (x := (f i : Int) * 256 ^ i) (by rw [hc, hmi]; omega) (by rw [hc, hmi]; omega), or_byte hi (by omega) (by rw [hc]; omega) (by omega) (by omega)]
  show _ = ((pn f i + f i * 256 ^ i : Nat) : Int)
  simp
set_option maxRecDepth 100000 in
set_option maxHeartbeats 4000000 in
theorem little_n {w : World} {b o m c : Nat} {f : Nat → Nat} (h : BA w (some ⟨b, o, none⟩) m f) (hm : m ≤ 8) (h0 : 0 < m) : Calls Try.prog 62 #[.slice (some ⟨b, o, none⟩) m c] w fun e w' => e = .returned (.int .u64 (pn f m : Int)) ∧ w' = w := by
  have hl := h.lt
  have HC : Hid (∀ i, i < m → w.cell? ⟨b, o + i, none⟩ = some (.int .u8 ((f i : Nat) : Int))) := fun i hi => by
    rcases h.at_ with h1 | ⟨b', o', e, hr⟩
    · omega
    · cases e
      exact hr.c i hi
  have HL := hide hl
  clear h hl
  go_enter Try.func62, Try.ntmps62
  go_wp2_with fail
  go_loopg [3, 8] m (fun g' s3 s8 wr => ∃ i : Nat, g' = m - i ∧ i ≤ m ∧ s8 = .int .i64 (i : Int) ∧ s3 = .int .u64 (pn f i : Int) ∧ wr = w)
  case atStart => exact ⟨0, rfl, by omega, rfl, rfl, rfl⟩
  case round =>
    obtain ⟨i, rfl, hi, rfl, rfl, rfl⟩ := hrel
    by_cases hlt : i < m
    · have hcell := HC.out i hlt
      have hlt' : (i : Int) < (m : Int) := by omega
      have h8 : wrap64 (8 * (i : Int)) = 8 * (i : Int) := w_id (by omega) (by omega)
      have HP := hide (pn_step HL.out (i := i) (by omega))
      go_wp2_with fail
      go_roundg (m - (i + 1))
      case measure => omega
      case rel => exact ⟨i + 1, rfl, by omega, by simp, by rw [HP.out], rfl⟩
    · obtain rfl : i = m := by omega
      go_wp2_with fail
      go_ret
      exact ⟨rfl, rfl⟩
/-- Bytes in a block that may be written. -/
structure Rw (w : World) (g n : Nat) (f : Nat → Nat) : Prop where
  c : ∀ i, i < n → w.cell? ⟨g, i, none⟩ = some (.int .u8 ((f i : Nat) : Int))
  z : ∀ i, i < n → w.frozen? ⟨g, i, none⟩ = false
  l : ∀ i, f i < 256
theorem Rw.congr {w : World} {g n : Nat} {f h : Nat → Nat} (r : Rw w g n f) (e : ∀ i, i < n → f i = h i) (hl : ∀ i, h i < 256) : Rw w g n h := ⟨fun i hi => by rw [← e i hi]; exact r.c i hi, r.z, hl⟩
theorem Rw.ba {w : World} {g n : Nat} {f : Nat → Nat} (r : Rw w g n f) {o m : Nat} (h : o + m ≤ n) : BA w (some ⟨g, o, none⟩) m (fun i => f (o + i)) := by
  refine ⟨fun i => r.l _, Or.inr ⟨g, o, rfl, ⟨fun i hi => r.c _ (by omega)⟩⟩⟩
theorem Rw.rng {w : World} {g n : Nat} {f : Nat → Nat} (r : Rw w g n f) {m : Nat} (h : m ≤ n) : w.rangeAt g 0 (cells8 (fl f m)) := fun j v hv => by
  have hj : j < m := by
    have := (List.getElem?_eq_some_iff.1 hv).1
    rw [cells8_len, fl_len] at this
    exact this
  rw [cells8_at _ j (by rw [fl_len]; exact hj)] at hv
  cases hv
  rw [Nat.zero_add, r.c j (by omega)]
  rw [List.getD_eq_getElem?_getD, fl_at f hj]
  rfl
theorem Rw.put {w : World} {g n : Nat} {f : Nat → Nat} (r : Rw w g n f) {i x : Nat} (hx : x < 256) : Rw (w.setCell ⟨g, i, none⟩ (.int .u8 (x : Int))) g n (fun j => if j = i then x else f j) := by
  refine ⟨fun j hj => ?_, fun j hj => by rw [World.frozen?_setCell]; exact r.z j hj, fun j => ?_⟩
  · by_cases e : j = i
    · subst e
      rw [if_pos rfl]
      exact World.cell?_setCell_same' _ _ _ (by rw [r.c j hj]; rfl)
    · rw [if_neg e, World.cell?_setCell_other]
      · exact r.c j hj
      · intro h
        cases h
        exact e rfl
  · show (if j = i then x else f j) < 256
    split
    · exact hx
    · exact r.l j
theorem Rw.kp {X : Nat → Bool} {w w' : World} {g n : Nat} {f : Nat → Nat} (r : Rw w g n f) (hK : Kp X w w') (hg : g < w.heap.size) (hx : X g = false) : Rw w' g n f := by
  have e := hK.block g hg hx
  exact ⟨fun i hi => (World.cell?_of_block (w := w) e).trans (r.c i hi), fun i hi => (World.frozen?_of_block (w := w) e).trans (r.z i hi), r.l⟩
theorem Rw.keep {w w' : World} {g n : Nat} {f : Nat → Nat} (r : Rw w g n f) (hB : Below w.heap.size w w') (hg : g < w.heap.size) : Rw w' g n f := by
  have e := hB.block g hg
  exact ⟨fun i hi => (World.cell?_of_block (w := w) e).trans (r.c i hi), fun i hi => (World.frozen?_of_block (w := w) e).trans (r.z i hi), r.l⟩
/-- Some bytes put anew. -/
def pt (f : Nat → Nat) (o m : Nat) (h : Nat → Nat) (i : Nat) : Nat := if o ≤ i ∧ i < o + m then h (i - o) else f i
theorem pt_succ (f : Nat → Nat) (o m : Nat) (h : Nat → Nat) (i : Nat) : (if i = o + m then h m else pt f o m h i) = pt f o (m + 1) h i := by
  unfold pt
  by_cases e : i = o + m
  · subst e
    rw [if_pos rfl, if_pos (by omega), Nat.add_sub_cancel_left]
  · rw [if_neg e]
    by_cases e2 : o ≤ i ∧ i < o + m
    · rw [if_pos e2, if_pos (by omega)]
    · rw [if_neg e2, if_neg (by omega)]
theorem pt_lt {f h : Nat → Nat} (hf : ∀ i, f i < 256) (hh : ∀ i, h i < 256) {o m : Nat} (i : Nat) : pt f o m h i < 256 := by
  unfold pt
  split
  · exact hh _
  · exact hf _
theorem le8_lt (n i : Nat) : le8 n i < 256 := Nat.mod_lt _ (by decide)
theorem shr_byte (n i : Nat) : (n : Int) / 2 ^ (8 * i) % 256 = (le8 n i : Int) := by
  have e : (2 : Int) ^ (8 * i) = ((256 ^ i : Nat) : Int) := by rw [Int.pow_mul]; simp
  rw [e]
  unfold le8
  omega
abbrev X1 (g k : Nat) : Bool := Nat.beq k g
theorem X1_of (g : Nat) : X1 g g = true := Nat.beq_refl g
theorem X1_not {g k : Nat} (h : k ≠ g) : X1 g k = false := by
  cases e : X1 g k with
  | false => rfl
  | true => exact absurd (Nat.eq_of_beq_eq_true e) h
theorem kp_1 {w : World} {g o : Nat} (v : Value) : Kp (X1 g) w (w.setCell ⟨g, o, none⟩ v) := (Kp.refl _ w).setCell (p := ⟨g, o, none⟩) (Or.inr (X1_of g)) v
set_option maxRecDepth 100000 in
set_option maxHeartbeats 4000000 in
theorem putl_n {w : World} {g N o m c n : Nat} {f : Nat → Nat} (h : Rw w g N f) (ho : o + m ≤ N) (hm : m ≤ 8) (hn : n < 9223372036854775808) : Calls Try.prog 74 #[.slice (some ⟨g, o, none⟩) m c, .int .i64 (n : Int)] w fun e w' => (∃ v, e = .returned v) ∧ Rw w' g N (pt f o m (le8 n)) ∧ Kp (X1 g) w w' := by
  have HR := hide h
  clear h
  go_enter Try.func74, Try.ntmps74
  go_wp2_with fail
  go_loopg [7] m (fun g' s7 wr => ∃ i : Nat, g' = m - i ∧ i ≤ m ∧ s7 = .int .i64 (i : Int) ∧ Hid (Rw wr g N (pt f o i (le8 n)) ∧ Kp (X1 g) w wr))
  case atStart => exact ⟨0, rfl, by omega, rfl, HR.out.congr (fun i _ => (if_neg (by omega)).symm) (fun i => by unfold pt; rw [if_neg (by omega)]; exact HR.out.l i), Kp.refl _ _⟩
  case round =>
    obtain ⟨i, rfl, hi, rfl, HI⟩ := hrel
    by_cases hlt : i < m
    · have hcell := HI.out.1.c (o + i) (by omega)
      have hfz := HI.out.1.z (o + i) (by omega)
      have hlt' : (i : Int) < (m : Int) := by omega
      have h8 : wrap64 (8 * (i : Int)) = 8 * (i : Int) := w_id (by omega) (by omega)
      have HS := hide (shr_byte n i)
      go_wp2_with fail
      go_roundg (m - (i + 1))
      case measure => omega
      case rel => exact ⟨i + 1, rfl, by omega, by simp, by rw [HS.out]; exact (HI.out.1.put (le8_lt n i)).congr (fun j _ => pt_succ _ _ _ _ j) (pt_lt HR.out.l (le8_lt n)), by rw [HS.out]; exact HI.out.2.trans (kp_1 _)⟩
    · obtain rfl : i = m := by omega
      go_wp2_with fail
      go_end0
      exact ⟨⟨_, rfl⟩, HI.out⟩
end Go.Proofs.Ytpophfeommlajaa
namespace Go.Proofs.Ytpophfeommlajaa
open Go.RowKit Go.Shelf
attribute [local go_sem] Oper.semAt_some

/-- The j-th piece. -/
abbrev pc64 (g j : Nat) : Value := .slice (some ⟨g, 64 * j, none⟩) 64 64
theorem chunk_call (n : Nat) {g m c : Nat} (w : World) :
    CallsIn Fence.wide n Try.prog 76 #[.slice (some ⟨g, 0, none⟩) m c, .int .i64 64] w fun e w' => e = .returned (.func (.func 81) #[] #[.pointer (some ⟨w.heap.size, 0, none⟩), .pointer (some ⟨w.heap.size + 1, 0, none⟩)]) ∧ w' = (w.alloc (.cells #[.slice (some ⟨g, 0, none⟩) m c] 38)).alloc (.cells #[.int .i64 64] 3) := by
  refine callsIn_of_wp Try.func76 rfl trivial ?_ rfl
  simp only [Try.ntmps76, List.size_toArray, List.length_cons, List.length_nil, Nat.reduceAdd, Nat.reduceSub, Array.replicate_succ, Array.replicate_zero, List.push_toArray, List.append_toArray, List.nil_append, List.cons_append]
  gi_wp2
  go_ret
  exact ⟨rfl, rfl⟩
theorem ck_w {q k N : Nat} (h : q = 64 * k) (hk : k ≤ N) (hN : N ≤ 1000000) : wrap64 ((q : Int) + 64) = (q : Int) + 64 := by
  unfold wrap64
  omega
theorem ck_i (x : Int) : intOf (.int .i64 x) = x := rfl
theorem ck_q {q k : Nat} (h : q = 64 * k) : q + 64 = 64 * (k + 1) := by omega
theorem ck_c {q : Nat} : (q : Int) + 64 = ((q + 64 : Nat) : Int) := by omega
theorem ck_m {q k M N : Nat} (h : q = 64 * k) (hM : M = 64 * N) (hk : k < N) : M - ((q : Int) + 64).toNat < M - ((q : Int)).toNat := by omega
theorem range_succ' (k : Nat) : List.range (k + 1) = List.range k ++ [k] := List.range_succ
set_option maxRecDepth 100000 in
set_option maxHeartbeats 2000000 in
theorem chunk1_in (n : Nat) (l Bs Bn n₀ g N : Nat) (hN : N ≤ 1000000) (hBs : Bs < n₀) (hBn : Bn < n₀) (J Jx : List Nat → World → Prop)
    (hY : ∀ pre x W, J pre W → pre.length < N → YieldAt Fence.wide (n - 1) Try.prog l #[pc64 g x] W fun e W' =>
      (e = .returned (.bool true) ∧ J (pre ++ [x]) W' ∧ Below n₀ W W') ∨ (e = .returned (.bool false) ∧ Jx (pre ++ [x]) W'))
    (W : World) (hJ : AbidesFrom W.heap.size J) (hs : W.cell? ⟨Bs, 0, none⟩ = some (.slice (some ⟨g, 0, none⟩) (64 * N) (64 * N))) (hc : W.cell? ⟨Bn, 0, none⟩ = some (.int .i64 64)) (h0 : J [] W) :
    CallsIn Fence.wide n Try.prog 81 #[.func (.yield l) #[] #[], .pointer (some ⟨Bs, 0, none⟩), .pointer (some ⟨Bn, 0, none⟩)] W fun e W' => (∃ v, e = .returned v) ∧
      ((∃ ys, ys = List.range N ∧ J ys W') ∨ (∃ pre, True ∧ Jx pre W')) := by
  refine callsIn_of_wp Try.func81 rfl trivial ?_ rfl
  simp only [Try.ntmps81, List.size_toArray, List.length_cons, List.length_nil, Nat.reduceAdd, Nat.reduceSub, Array.replicate_succ, Array.replicate_zero, List.push_toArray, List.append_toArray, List.nil_append, List.cons_append]
  obtain ⟨M, hM⟩ : ∃ M, M = 64 * N := ⟨_, rfl⟩
  rw [← hM] at hs
  have HM := hide hM
  clear hM
  gi_wp2
  gi_loopw [4] (fun i wr => ∃ k q : Nat, k ≤ N ∧ q = 64 * k ∧ i = .int .i64 (q : Int) ∧ J (List.range k) wr ∧ Below n₀ W wr)
    (fun i _ => M - (intOf i).toNat)
  case atStart => exact ⟨0, 0, Nat.zero_le _, rfl, rfl, h0, Below.refl _ _⟩
  case round =>
    obtain ⟨k, q, hk, hq, rfl, hJs, hnx⟩ := hrel
    have hs' := (hnx.cell (p := ⟨Bs, 0, none⟩) hBs).trans hs
    have hc' := (hnx.cell (p := ⟨Bn, 0, none⟩) hBn).trans hc
    by_cases hlt : k < N
    · have hlt' : (q : Int) < (M : Int) := by have := HM.out; omega
      have hM := HM.out
      have hmin : min (64 : Int) ((M - q : Nat) : Int) = 64 := by omega
      have hqM : q ≤ M := by omega
      have hqn : ¬ (M = q) := by omega
      have HQ := hide hq
      have hJd : J (List.range k) wr.drew := hJ _ _ _ none hJs ⟨rfl, rfl, rfl, Nat.le_refl _, fun _ _ _ => rfl⟩ (fun r e => by cases e)
      obtain ⟨fn, tmps, assign, body, hy, hR⟩ := hY _ k wr.drew hJd (by rw [List.length_range]; exact hlt)
      unfold pc64 at hy
      rw [← hq] at hy
      clear hq hM
      gi_wp2
      refine wpIn_wide.2 ?_
      refine wp_region_noPanic ?_
      refine wp_region_held_drew (S := fun w' => w'.cell? ⟨Bs, 0, none⟩ = some (.slice (some ⟨g, 0, none⟩) M M) ∧ w'.cell? ⟨Bn, 0, none⟩ = some (.int .i64 64)) (by kernel_rfl) ⟨hs', hc'⟩ (fun hS0 => ?_)
      refine wpAnyH_take (i := 0) (v := .int .i64 64) rfl (by kernel_rfl) (by kernel_rfl) (by kernel_rfl) (fun _ _ _ h => h) (Or.inl ⟨by rfl, fun w' hS => by have hc := hS.2; go_simp⟩) hS0 ?_
      simp only [Act.put, List.getElem_toArray, List.getElem_cons_zero, List.setIfInBounds_toArray, List.set_cons_zero, List.set_cons_succ]
      refine wpAnyH_take (i := 1) (v := .slice (some ⟨g, 0, none⟩) M M) rfl (by kernel_rfl) (by kernel_rfl) (by kernel_rfl) (fun _ _ _ h => h) (Or.inl ⟨by rfl, fun w' hS => by have hc := hS.1; go_simp⟩) hS0 ?_
      simp only [Act.put, List.getElem_toArray, List.getElem_cons_zero, List.getElem_cons_succ, List.setIfInBounds_toArray, List.set_cons_zero, List.set_cons_succ]
      refine wpAnyH_take (i := 2) (v := .int .i64 (q : Int)) rfl (by kernel_rfl) (by kernel_rfl) (by kernel_rfl) (fun _ _ _ h => h) (Or.inl ⟨by rfl, fun w' _ => by go_simp⟩) hS0 ?_
      simp only [Act.put, List.getElem_toArray, List.getElem_cons_zero, List.getElem_cons_succ, List.setIfInBounds_toArray, List.set_cons_zero, List.set_cons_succ]
      refine wpAnyH_take (i := 3) (v := .slice (some ⟨g, q, none⟩) (M - q) (M - q)) rfl (by kernel_rfl) (by kernel_rfl) (by kernel_rfl) (fun _ _ _ h => h) (Or.inl ⟨by rfl, fun w' _ => by go_simp⟩) hS0 ?_
      simp only [Act.put, List.getElem_toArray, List.getElem_cons_zero, List.getElem_cons_succ, List.setIfInBounds_toArray, List.set_cons_zero, List.set_cons_succ]
      refine wpAnyH_take (i := 4) (v := .int .i64 ((M - q : Nat) : Int)) rfl (by kernel_rfl) (by kernel_rfl) (by kernel_rfl) (fun _ _ _ h => h) (Or.inl ⟨by rfl, fun w' _ => by go_simp⟩) hS0 ?_
      simp only [Act.put, List.getElem_toArray, List.getElem_cons_zero, List.getElem_cons_succ, List.setIfInBounds_toArray, List.set_cons_zero, List.set_cons_succ]
      refine wpAnyH_take (i := 5) (v := .int .i64 64) rfl (by kernel_rfl) (by kernel_rfl) (by kernel_rfl) (fun _ _ _ h => h) (Or.inl ⟨by rfl, fun w' _ => by go_simp⟩) hS0 ?_
      simp only [Act.put, List.getElem_toArray, List.getElem_cons_zero, List.getElem_cons_succ, List.setIfInBounds_toArray, List.set_cons_zero, List.set_cons_succ]
      refine wpAnyH_take (i := 6) (v := .int .i64 64) rfl (by kernel_rfl) (by kernel_rfl) (by kernel_rfl) (fun _ _ _ h => h) (Or.inl ⟨by rfl, fun w' _ => by go_simp⟩) hS0 ?_
      simp only [Act.put, List.getElem_toArray, List.getElem_cons_zero, List.getElem_cons_succ, List.setIfInBounds_toArray, List.set_cons_zero, List.set_cons_succ]
      refine wpAnyH_done (by kernel_rfl) ?_ _
      refine NoPanic.normal ?_
      have w1 : wrap64 ((q : Int) + 64) = (q : Int) + 64 := ck_w HQ.out (Nat.le_of_lt hlt) hN
      gi_wp2
      refine ⟨fun h => (by cases h), ?_⟩
      refine hR.mono ?_
      rintro e W3 (⟨rfl, hJ3, hk3⟩ | ⟨rfl, hJx3⟩)
      · have hc3 := (hk3.cell (p := ⟨Bn, 0, none⟩) hBn).trans hc'
        gi_wp2
        go_roundw
        case rel => exact ⟨k + 1, q + 64, hlt, ck_q HQ.out, by rw [w1, ck_c], by rw [range_succ']; exact hJ3, hnx.trans ((Below.refl n₀ wr).drew.trans hk3)⟩
        case measure =>
          rw [w1, ck_i, ck_i]
          exact ck_m HQ.out HM.out hlt
      · gi_wp2
        refine bodyPost_ret (results_none rfl _ _ _) rfl ?_
        exact ⟨⟨_, rfl⟩, .inr ⟨_, trivial, hJx3⟩⟩
    · obtain rfl : k = N := by omega
      obtain rfl : q = M := by have := HM.out; omega
      gi_wp2
      go_end0
      exact ⟨⟨_, rfl⟩, .inl ⟨_, rfl, hJs⟩⟩
theorem chunk_stops (n : Nat) {Bs Bn n₀ g N : Nat} (hN : N ≤ 1000000) (hBs : Bs < n₀) (hBn : Bn < n₀) {w : World} (hn : n₀ ≤ w.heap.size) (hs : w.cell? ⟨Bs, 0, none⟩ = some (.slice (some ⟨g, 0, none⟩) (64 * N) (64 * N))) (hc : w.cell? ⟨Bn, 0, none⟩ = some (.int .i64 64)) :
    SeqStopsK Fence.wide n Try.prog 81 #[.pointer (some ⟨Bs, 0, none⟩), .pointer (some ⟨Bn, 0, none⟩)] (fun x : Nat => #[pc64 g x]) (Below n₀) (fun ys => ys = List.range N) (fun _ => True) N w := fun l J Jx W hW hJ _ hY h0 =>
  chunk1_in n l Bs Bn n₀ g N hN hBs hBn J Jx hY W hJ ((hW.cell (p := ⟨Bs, 0, none⟩) (by show Bs < _; omega)).trans hs) ((hW.cell (p := ⟨Bn, 0, none⟩) (by show Bn < _; omega)).trans hc) h0
/-- The pieces, collected. -/
def ClP (w : World) (g N : Nat) (e : Ending) (w' : World) : Prop := ∃ v, e = .returned v ∧ w'.ownsRow w.heap.size 38 1 v N ((List.range N).map (pc64 g)) ∧ Below w.heap.size w w'
set_option maxRecDepth 100000 in
set_option maxHeartbeats 2000000 in
theorem seq_in {Bs Bn g N : Nat} (hN : N ≤ 1000000) {w : World} (hBs : Bs < w.heap.size) (hBn : Bn < w.heap.size) (hs : w.cell? ⟨Bs, 0, none⟩ = some (.slice (some ⟨g, 0, none⟩) (64 * N) (64 * N))) (hc : w.cell? ⟨Bn, 0, none⟩ = some (.int .i64 64)) :
    CallsIn Fence.wide 5 Try.prog 80 #[.slice none 0 0, .func (.func 81) #[] #[.pointer (some ⟨Bs, 0, none⟩), .pointer (some ⟨Bn, 0, none⟩)]] w (ClP w g N) := by
  obtain ⟨i0, hi, hz0, hz1, hz2⟩ := info_parts infoBy
  refine callsIn_of_wp_marks Try.func80 rfl trivial ?_ rfl
  simp only [Try.ntmps80, List.size_toArray, List.length_cons, List.length_nil, Nat.reduceAdd, Nat.reduceSub, Array.replicate_succ, Array.replicate_zero, List.push_toArray, List.append_toArray, List.nil_append, List.cons_append]
  gi_wp2
  have bO := Boxed.new w 47 (.slice none 0 0)
  have hB0 : Below w.heap.size w (w.alloc (.cells #[.slice none 0 0] 47)) := (Below.refl _ w).alloc (Nat.le_refl _) _
  refine wpIn_rangeFunc_ownG rfl (by decide) (gf := 81) (lb := #[.pointer (some ⟨Bs, 0, none⟩), .pointer (some ⟨Bn, 0, none⟩)]) rfl trivial (enters_of Try.func81 (by kernel_rfl) rfl)
    (chunk_stops _ hN hBs hBn hB0.size ((hB0.cell (p := ⟨Bs, 0, none⟩) hBs).trans hs) ((hB0.cell (p := ⟨Bn, 0, none⟩) hBn).trans hc)) belowK_t (belowK_b (by simp)) (Below.refl _ _) (fun _ => rfl)
    (fun pre W => (∃ v, Boxed W w.heap.size 47 v ∧ W.ownsRow w.heap.size 38 1 v pre.length (pre.map (pc64 g)) ∧ True) ∧ Below w.heap.size w W)
    (fun _ _ _ => False)
    (OwnFrom.and (Own.from (holdsRow_own w.heap.size w.heap.size 47 38 1 (fun pre : List Nat => pre.length) (fun pre => pre.map (pc64 g)) (fun _ _ => True)) _) (ownFrom_below (Nat.le_refl _) (by simp)))
    (fun _ _ _ _ _ hs _ _ => hs)
    ⟨⟨_, bO, World.ownsRow_nil _ _ _ _, trivial⟩, hB0⟩
    (fun x => { tmps := #[.slice none 0 0, .func (.func 81) #[] #[.pointer (some ⟨Bs, 0, none⟩), .pointer (some ⟨Bn, 0, none⟩)], .pointer (some ⟨w.heap.size, 0, none⟩), undef, .slice none 0 0, pc64 g x, .func (.func 81) #[] #[.pointer (some ⟨Bs, 0, none⟩), .pointer (some ⟨Bn, 0, none⟩)], pc64 g x, undef, undef, undef, undef, undef], defers := [] }) ?assign ?body ?done ?stop
  case assign =>
    intro l x W K hK
    gi_wp2
    exact hK
  case body =>
    rintro l pre x W ⟨⟨v, hv, hrow, _⟩, hB⟩ hlt
    have hc := hv.cell
    have hmx : 1000000 ≤ maxLen := by decide
    gi_wp2_with (gi_at_builtin; refine wpListIn_append_own _ rfl _ _ 47 rfl w.heap.size 38 i0 (.slice none 0 0) 1 24 Try.underlying47 hi hz0 hz1 hz2 rfl (by decide) _ _ _ rfl (hrow.alloc _) ⟨W.heap.size, 0, none⟩ 1 1 [pc64 g x] rfl rfl (cell_one_new _ _ _) (by simp [Value.oneCell']) (by omega) (by omega) (by have := hB.size; simp; omega) ?_; intro v' w1 hown' hgrow _; obtain ⟨g', cap', rfl⟩ := ownsRow_succ hown'; obtain ⟨hv1, hv2, hr2, hk2, hb2⟩ := hv.appended (by decide) hrow hB.size (Nat.le_refl _) hown' hgrow; have hc1 := hv1.cell; have hf1 := hv1.frozen)
    exact ⟨hk2.from _, hb2, ⟨_, hv2, by simpa using hr2, trivial⟩, hB.trans hb2⟩
  case done =>
    rintro D ys W hD rfl ⟨⟨v, hv, hrow, _⟩, hB⟩ hK
    have hc := hv.cell
    gi_wp2
    refine ⟨by simp, .inl ⟨_, _, rfl, run_takeDeferred hK, ?_⟩⟩
    rw [List.length_range] at hrow
    exact ⟨_, results_tmp rfl _ _ _, v, rfl, ownsRow_putObj hrow _ hK rfl, hB.trans (belowK_b (w := w) (Nat.le_refl _) W D _ _ (by simp at hD; omega) hK rfl rfl)⟩
  case stop =>
    rintro D c pre W _ _ h _
    exact h.elim
theorem collect_any {Bs Bn g N : Nat} (hN : N ≤ 1000000) {w : World} (hBs : Bs < w.heap.size) (hBn : Bn < w.heap.size) (hs : w.cell? ⟨Bs, 0, none⟩ = some (.slice (some ⟨g, 0, none⟩) (64 * N) (64 * N))) (hc : w.cell? ⟨Bn, 0, none⟩ = some (.int .i64 64)) :
    Calls Try.prog 75 #[.func (.func 81) #[] #[.pointer (some ⟨Bs, 0, none⟩), .pointer (some ⟨Bn, 0, none⟩)]] w (ClP w g N) := by
  have HC := hide (callsIn_wide.1 (seq_in hN hBs hBn hs hc))
  clear hs hc
  go_enter Try.func75, Try.ntmps75
  go_wp2_with (go_at_call 80; refine Calls.mono HC.out ?_; rintro e W1 ⟨v, rfl, hr⟩; have HR := hide hr; clear hr)
  go_ret
  exact ⟨_, rfl, HR.out⟩
theorem chunk_any {g m c : Nat} (w : World) : Calls Try.prog 76 #[.slice (some ⟨g, 0, none⟩) m c, .int .i64 64] w fun e w' => e = .returned (.func (.func 81) #[] #[.pointer (some ⟨w.heap.size, 0, none⟩), .pointer (some ⟨w.heap.size + 1, 0, none⟩)]) ∧ w' = (w.alloc (.cells #[.slice (some ⟨g, 0, none⟩) m c] 38)).alloc (.cells #[.int .i64 64] 3) := callsIn_wide.1 (chunk_call 1 w)
end Go.Proofs.Ytpophfeommlajaa
namespace Go.Proofs.Ytpophfeommlajaa
open Go.RowKit Go.Maps
attribute [local go_sem ↓] Go.wp_at_zero Go.wp_at_succ

def oU (k : Nat) : Obj := .cells (madeCells #[.int .u8 0] k) 5
theorem run_mkU (w : World) (k : Nat) (hk : k ≤ 100000) : (Instr.makeSlice 38 (.int .i64 (k : Int)) (.int .i64 (k : Int))).run Try.prog w = .ok (.slice (some ⟨w.heap.size, 0, none⟩) k k) (w.alloc (oU k)) := by
  obtain ⟨i0, hi, hz0, hz1, hz2⟩ := info_parts info8
  have hr := run_make (P := Try.prog) w 38 5 i0 (.int .u8 0) Try.underlying38 hi hz0 .i64 .i64 k k (by omega) (by omega) (by rw [hz2]; omega) (by omega)
  rw [hz1, Nat.mul_one] at hr
  exact hr
/-- Noughts that are made. -/
theorem wpList_mkU {w : World} {ops : Array Oper} {rest : List Oper} {o : Oper} {a : Act} {Q : Exit → Act → World → Prop} (hgd : o.guard = none) (l c : Operand) (hop : o.op = Op.makeSlice 38 l c) {k : Nat} {x : Int} (hl : a.eval l = .int .i64 x) (hc : a.eval c = .int .i64 x) (hx : x = (k : Int)) (hk : k ≤ 100000)
    (hK : ∀ w', Below w.heap.size w w' → w.heap.size < w'.heap.size → Rw w' w.heap.size k (fun _ => 0) → wpList Try.prog ops Q rest (a.put o.dst (.slice (some ⟨w.heap.size, 0, none⟩) k k)) w') : wpList Try.prog ops Q (o :: rest) a w := by
  subst hx
  refine wpList_plain hgd fun K' hK' => ?_
  have hrun := run_mkU w k hk
  unfold Oper.wp
  simp only [execOp, hop, hl, hc, hrun, Sem.run_bind, Sem.run_pure, Result.andThen_ok]
  have hh : (w.alloc (oU k)).heap[w.heap.size]? = some (oU k) := heap_alloc_new w _
  refine hK' _ _ (hK _ (K.alloc (Below.refl _ _) _) (by simp) ⟨fun j hj => ?_, fun j hj => ?_, fun _ => by omega⟩)
  · have hm : (madeCells #[.int .u8 0] k)[j]? = some (.int .u8 0) := by simp [madeCells, hj, Nat.mod_one]
    unfold World.cell?
    simp only [hh]
    exact hm
  · unfold World.frozen?
    simp only [hh]
    show (decide (0 ≤ j) && decide (j < 0)) = false
    simp
theorem Kp.new {w w1 w2 : World} {g : Nat} (hB : Below w.heap.size w w1) (hg : w.heap.size ≤ g) (hK : Kp (X1 g) w1 w2) : Below w.heap.size w w2 :=
  ⟨hK.os.trans hB.os, hK.tape.trans hB.tape, hK.output.trans hB.output, Nat.le_trans hB.size hK.size, fun k hk => (hK.block k (Nat.lt_of_lt_of_le hk hB.size) (X1_not (by omega))).trans (hB.block k hk)⟩
theorem val_eq (n u i : Nat) : pt (pt (fun _ => 0) 0 8 (le8 n)) 8 8 (le8 u) i = pz (mkf n u) 16 i := by
  unfold pt pz mkf
  by_cases h1 : i < 8
  · rw [if_neg (by omega), if_pos (by omega), if_pos (by omega), if_pos h1, Nat.sub_zero]
  · by_cases h2 : i < 16
    · rw [if_pos (by omega), if_pos h2, if_neg h1]
    · rw [if_neg (by omega), if_neg (by omega), if_neg h2]
def VaP (w : World) (n u : Nat) (e : Ending) (w' : World) : Prop := ∃ g, e = .returned (s64 g) ∧ w.heap.size ≤ g ∧ g < w'.heap.size ∧ Rw w' g 64 (pz (mkf n u) 16) ∧ Below w.heap.size w w'
set_option maxRecDepth 100000 in
set_option maxHeartbeats 4000000 in
theorem value_n {w : World} {n u : Nat} (hn : n < 9223372036854775808) (hu : u < 9223372036854775808) : Calls Try.prog 63 #[.int .i64 (n : Int), .int .i64 (u : Int)] w (VaP w n u) := by
  go_enter Try.func63, Try.ntmps63
  go_upto_region 2 with (refine wpList_mkU rfl _ _ rfl (k := 64) (x := 64) rfl rfl rfl (by omega) ?_; intro W1 hB1 hl1 hR1; have HB1 := hide hB1; have HR1 := hide hR1; have HL1 := hide hl1; clear hB1 hR1 hl1)
  go_upto_region 3 with (go_at_call 74; refine Calls.mono (putl_n HR1.out (o := 0) (m := 8) (by omega) (by omega) hn) ?_; rintro e W2 ⟨⟨v2, rfl⟩, hR2, hK2⟩; have HR2 := hide hR2; have HK2 := hide hK2; clear hR2 hK2)
  go_wp2_with (go_at_call 74; refine Calls.mono (putl_n HR2.out (o := 8) (m := 8) (by omega) (by omega) hu) ?_; rintro e W3 ⟨⟨v3, rfl⟩, hR3, hK3⟩; have HR3 := hide hR3; have HK3 := hide hK3; clear hR3 hK3)
  go_ret
  refine ⟨_, rfl, Nat.le_refl _, ?_, HR3.out.congr (fun i _ => val_eq n u i) (pz_lt (mkf_lt n u) 16), Kp.new (Kp.new HB1.out (Nat.le_refl _) HK2.out) (Nat.le_refl _) HK3.out⟩
  exact Nat.lt_of_lt_of_le (Nat.lt_of_lt_of_le HL1.out HK2.out.size) HK3.out.size
/-- An entry's bytes as they are written, in a row of pieces. -/
structure SeR (w w' : World) (q cap g : Nat) (f : Nat → Nat) (m : Nat) : Prop where
  o : ∀ j, j < tk m → w'.cell? ⟨q, j, none⟩ = some (pc64 g j)
  qe : w.heap.size ≤ q
  ql : q < w'.heap.size
  ge : w.heap.size ≤ g
  lt : g < w'.heap.size
  r : Rw w' g (64 * tk m) (encf f m)
  k : Below w.heap.size w w'
theorem SeR.kp {X : Nat → Bool} {w w1 w2 : World} {q cap g m : Nat} {f : Nat → Nat} (h : SeR w w1 q cap g f m) (hK : Kp X w1 w2) (hX : ∀ k, w.heap.size ≤ k → X k = false) : (∀ j, j < tk m → w2.cell? ⟨q, j, none⟩ = some (pc64 g j)) ∧ Rw w2 g (64 * tk m) (encf f m) :=
  ⟨fun j hj => (hK.cell (p := ⟨q, j, none⟩) h.ql (hX q h.qe)).trans (h.o j hj), h.r.kp hK h.lt (hX g h.ge)⟩
theorem row_cells {w : World} {base : Nat} {v : Value} {n : Nat} {xs : List Value} (h : w.ownsRow base 38 1 v n xs) (hn : 0 < n) : ∃ q cap, v = .slice (some ⟨q, 0, none⟩) n cap ∧ base ≤ q ∧ q < w.heap.size ∧ ∀ j u, xs[j]? = some u → w.cell? ⟨q, j, none⟩ = some u := by
  have hlen : xs.length = n := by have := h.1; omega
  rcases h.2 with ⟨_, e2⟩ | ⟨g, cap, cur, e, hb, hg, _, _, _, hc⟩
  · omega
  · refine ⟨g, cap, e, hb, (Array.getElem?_eq_some_iff.1 hg).1, fun j u hu => ?_⟩
    have hj : j < n := by have := (List.getElem?_eq_some_iff.1 hu).1; omega
    unfold World.cell?
    simp only [hg]
    rw [← hc, Nat.mul_one, List.getElem?_take, if_pos hj] at hu
    simpa using hu
def SeP (w : World) (f : Nat → Nat) (m : Nat) (e : Ending) (w' : World) : Prop := ∃ q cap g, e = .returned (.slice (some ⟨q, 0, none⟩) (tk m) cap) ∧ SeR w w' q cap g f m
theorem tk_m (m : Nat) : m + 2 ≤ 64 * tk m := by unfold tk; omega
theorem tk_4 {m : Nat} (h : m ≤ 200) : tk m ≤ 4 := by unfold tk; omega
theorem enc_eq {f : Nat → Nat} {m : Nat} (hm : m ≤ 200) (i : Nat) : pt (pt (fun _ => 0) 0 2 (le8 m)) 2 m f i = encf f m i := by
  unfold pt encf pz
  by_cases h0 : i = 0
  · subst h0
    rw [if_neg (by omega), if_pos (by omega), if_pos rfl, Nat.sub_zero]
    show m / 256 ^ 0 % 256 = _
    rw [Nat.pow_zero, Nat.div_one]
  · by_cases h1 : i = 1
    · subst h1
      rw [if_neg (by omega), if_pos (by omega), if_neg (by omega), if_pos rfl]
      show m / 256 ^ 1 % 256 = _
      rw [Nat.pow_one]
      omega
    · rw [if_neg h0, if_neg h1]
      by_cases h2 : i < 2 + m
      · rw [if_pos (by omega), if_pos (by omega)]
      · rw [if_neg (by omega), if_neg (by omega), if_neg (by omega)]
theorem Rw.cpy {w : World} {g N o m : Nat} {f h : Nat → Nat} (r : Rw w g N f) (ho : o + m ≤ N) (hh : ∀ i, h i < 256) : Rw (w.setCells g o (cells8 (fl h m))) g N (pt f o m h) := by
  have hl : (cells8 (fl h m)).length = m := by rw [cells8_len, fl_len]
  refine ⟨fun i hi => ?_, fun i hi => by rw [World.frozen?_setCells]; exact r.z i hi, pt_lt r.l hh⟩
  unfold pt
  by_cases e : o ≤ i ∧ i < o + m
  · rw [if_pos e]
    have h2 := World.rangeAt_setCells_same w g o (cells8 (fl h m)) (fun j hj => ⟨by rw [r.c (o + j) (by omega)]; rfl, r.z (o + j) (by omega)⟩) (i - o) (.int .u8 ((h (i - o) : Nat) : Int)) (by
      rw [cells8_at _ (i - o) (by rw [fl_len]; omega), List.getD_eq_getElem?_getD, fl_at h (by omega)]
      rfl)
    rw [show o + (i - o) = i by omega] at h2
    exact h2
  · rw [if_neg e, World.cell?_setCells_out _ _ _ _ _ (fun _ _ => by rw [hl]; show i < o ∨ o + m ≤ i; omega)]
    exact r.c i hi
/-- Bytes are copied into a row. -/
theorem wpList_cpy {w : World} {ops : Array Oper} {rest : List Oper} {o : Oper} {a : Act} {Q : Exit → Act → World → Prop} (hgd : o.guard = none) (d s : Operand) (hop : o.op = .call { callee := .builtin .copy, args := #[d, s], argTypes := #[38, 38] })
    {g N p n cc m c : Nat} {x : Option Addr} {f h : Nat → Nat} (hd : a.eval d = .slice (some ⟨g, p, none⟩) n cc) (hs : a.eval s = .slice x m c) (hr : Rw w g N f) (hb : BA w x m h) (hm : m ≤ n) (hn : p + n ≤ N)
    (hK : ∀ w', Rw w' g N (pt f p m h) → Kp (X1 g) w w' → wpList Try.prog ops Q rest (a.put o.dst (goInt m)) w') : wpList Try.prog ops Q (o :: rest) a w := by
  refine wpList_plain hgd fun _ hK' => ?_
  have hrun := run_copyB (c := c) (dCap := cc) (b := g) (o := p) hb hm (fun j hj => ⟨by rw [hr.c (p + j) (by omega)]; rfl, hr.z (p + j) (by omega)⟩) o.type
  unfold Oper.wp execOp
  simp only [hop, resolve, invoke, builtin, Sem.run_bind, Sem.run_pure, Result.andThen_ok, List.map_toArray, List.map_cons, List.map_nil, hd, hs, hrun]
  exact hK' _ _ (hK _ (hr.cpy (by omega) hb.lt) (kp_sets g (X1_of g) _ _ _ (Kp.refl _ w)))
set_option maxRecDepth 100000 in
set_option maxHeartbeats 4000000 in
theorem sectors_n {w : World} {x : Option Addr} {m c : Nat} {f : Nat → Nat} (hb : BA w x m f) (hm : m ≤ 200) : Calls Try.prog 66 #[.slice x m c] w (SeP w f m) := by
  have HB := hide hb
  have hm9 : m ≤ 1000000000 := by omega
  have ht := tk_4 hm
  have hw : wrap64 ((tk m : Int) * 64) = (tk m : Int) * 64 := w_id (by omega) (by omega)
  clear hb
  go_enter Try.func66, Try.ntmps66
  go_upto_region 2 with (first
    | (go_at_call 41; refine Calls.mono (takes_n hm9) ?_; rintro e w ⟨rfl, rfl⟩)
    | (refine wpList_mkU rfl _ _ rfl (k := 64 * tk m) (x := (tk m : Int) * 64) (by rfl) (by rfl) (by omega) (by omega) ?_; intro W1 hB1 hl1 hR1; have HB1 := hide hB1; have HR1 := hide hR1; have HL1 := hide hl1; clear hB1 hR1 hl1))
  have HBa : Hid (BA W1 x m f) := HB.out.keep HB1.out
  have hle : (2 : Int) ≤ ((64 * tk m : Nat) : Int) := by have := tk_m m; omega
  have htm := tk_m m
  go_upto_region 3 with (go_at_call 74; refine Calls.mono (putl_n HR1.out (o := 0) (m := 2) (by omega) (by omega) (n := m) (by omega)) ?_; rintro e W2 ⟨⟨v2, rfl⟩, hR2, hK2⟩; have HR2 := hide hR2; have HK2 := hide hK2; clear hR2 hK2)
  have HB2 : Hid (Below w.heap.size w W2) := Kp.new HB1.out (Nat.le_refl _) HK2.out
  have HBb : Hid (BA W2 x m f) := HB.out.keep HB2.out
  have hne : ¬ (64 * tk m = 2) := by omega
  go_upto_region 4 with (refine wpList_cpy rfl _ _ rfl (p := 2) (n := 64 * tk m - 2) (N := 64 * tk m) rfl rfl HR2.out HBb.out (by omega) (by omega) ?_; intro W3 hR3 hK3; have HR3 := hide (hR3.congr (fun i _ => enc_eq hm i) (encf_lt HB.out.lt hm)); have HK3 := hide hK3; clear hR3 hK3)
  have HB3 : Hid (Below w.heap.size w W3) := Kp.new HB2.out (Nat.le_refl _) HK3.out
  have HL3 : Hid (w.heap.size < W3.heap.size) := Nat.lt_of_lt_of_le (Nat.lt_of_lt_of_le HL1.out HK2.out.size) HK3.out.size
  have HCl : Hid (Calls Try.prog 75 #[.func (.func 81) #[] #[.pointer (some ⟨W3.heap.size, 0, none⟩), .pointer (some ⟨W3.heap.size + 1, 0, none⟩)]] ((W3.alloc (.cells #[.slice (some ⟨w.heap.size, 0, none⟩) (64 * tk m) (64 * tk m)] 38)).alloc (.cells #[.int .i64 64] 3)) (ClP ((W3.alloc (.cells #[.slice (some ⟨w.heap.size, 0, none⟩) (64 * tk m) (64 * tk m)] 38)).alloc (.cells #[.int .i64 64] 3)) w.heap.size (tk m))) := by
    have b1 := Boxed.new W3 38 (.slice (some ⟨w.heap.size, 0, none⟩) (64 * tk m) (64 * tk m))
    have b2 := Boxed.new (W3.alloc (.cells #[.slice (some ⟨w.heap.size, 0, none⟩) (64 * tk m) (64 * tk m)] 38)) 3 (.int .i64 64)
    rw [World.size_alloc] at b2
    exact collect_any (by omega) (by simp; omega) (by simp) (b1.alloc _).cell b2.cell
  go_wp2_with (first
    | (go_at_call 76; refine Calls.mono (chunk_any _) ?_; rintro e W4 ⟨rfl, rfl⟩)
    | (go_at_call 75; refine Calls.mono HCl.out ?_; rintro e W5 ⟨v5, rfl, ho5, hB5⟩; have HO5 := hide ho5; have HB5 := hide hB5; clear ho5 hB5))
  go_ret
  obtain ⟨q, cap, rfl, h1, h2, h3⟩ := row_cells HO5.out (tk_pos m)
  have hB4 : Below W3.heap.size W3 W5 := ((K.alloc (K.alloc (Below.refl _ W3) _) _).trans (HB5.out.mono (by simp; omega)))
  have hsz : W3.heap.size ≤ q := by simp at h1; omega
  refine ⟨q, cap, w.heap.size, rfl, fun j hj => h3 j _ (by simp [hj]), Nat.le_trans (Nat.le_of_lt HL3.out) hsz, h2, Nat.le_refl _, Nat.lt_of_lt_of_le HL3.out hB4.size, HR3.out.keep hB4 HL3.out, HB3.out.trans (hB4.mono (Nat.le_of_lt HL3.out))⟩
end Go.Proofs.Ytpophfeommlajaa
namespace Go.Proofs.Ytpophfeommlajaa
open Go.RowKit Go.Maps
attribute [local go_sem ↓] Go.wp_at_zero Go.wp_at_succ

/-- A copy in memory that is new. -/
def ClnP (w : World) (f : Nat → Nat) (m : Nat) (e : Ending) (w' : World) : Prop := ∃ z c, e = .returned (.slice z m c) ∧ BA w' z m f ∧ (0 < m → ∀ p, z = some p → w.heap.size ≤ p.block) ∧ Below w.heap.size w w'
set_option maxRecDepth 100000 in
set_option maxHeartbeats 4000000 in
theorem clone_n {w : World} {x : Option Addr} {m c : Nat} {f : Nat → Nat} (hb : BA w x m f) (hm : m ≤ 1000000) : Calls Try.prog 44 #[.slice x m c] w (ClnP w f m) := by
  have HB := hide hb
  rcases x with _ | a
  · obtain rfl : m = 0 := by
      rcases hb.at_ with h1 | ⟨b, o, e, _⟩
      · exact h1
      · cases e
    have hq := Lib.run_eql_slice_nil (P := Try.prog) w 38 5 none 0 c 0 0 Try.underlying38
    simp at hq
    clear hb
    go_enter Try.func44, Try.ntmps44
    go_wp2_with fail
    go_ret
    exact ⟨none, 0, rfl, HB.out, fun h => absurd h (by omega), Below.refl _ _⟩
  · clear hb
    have HE := hide (own_empty w w.heap.size (Nat.le_refl _))
    have HB2 : Hid (BA (w.alloc (.cells #[] 5)) (some a) m f) := HB.out.keep (K.alloc (Below.refl _ _) _)
    have hq := Lib.run_eql_slice_nil (P := Try.prog) w 38 5 (some a) m c 0 0 Try.underlying38
    simp at hq
    have hsz : w.heap.size ≤ (w.alloc (.cells #[] 5)).heap.size := by simp
    go_enter Try.func44, Try.ntmps44
    go_wp2_with (refine wpList_app (base := w.heap.size) (l := []) rfl _ _ rfl rfl HE.out rfl HB2.out (by omega) hsz ?_; intro v1 w1 hO1 hg1; have HR := hide (And.intro hO1 hg1); clear hO1 hg1)
    obtain ⟨z, cp, rfl, _, _⟩ := own_max HR.out.1
    go_ret
    have ho := HR.out.1
    rw [Nat.zero_add] at ho
    have e2 : 0 + m = m := Nat.zero_add m
    refine ⟨z, cp, by rw [e2]; rfl, ?_, fun _ p hp => ?_, ?_⟩
    · rw [List.nil_append] at ho
      first | rw [e2] at ho | skip
      exact own_ba ho HB.out.lt
    · subst hp
      exact (ho.lt p.block rfl).1
    · exact below_append (K.alloc (Below.refl _ w) _) HE.out HR.out.2
theorem conv_o {w : World} {g o c : Nat} {l : List Nat} (h : w.rangeAt g o (cells8 l)) (hl : sec l) : (convert 38 9 (.slice (some ⟨g, o, none⟩) 64 c)).run Try.prog w = .ok (.string (strOfNums (l.map fun (x : Nat) => (x : Int)))) w := by
  refine run_convert_bytes_arg (P := Try.prog) w 38 5 Try.underlying38 Try.underlying5 g o 64 c _ (by rw [List.length_map]; exact hl.1) (fun i hi => ?_) 9 Try.underlying9
  have hi' : i < l.length := by rw [hl.1]; exact hi
  rw [h i _ (cells8_at l i hi')]
  simp [List.getD_eq_getElem?_getD, List.getElem?_eq_getElem hi']
theorem eq_o {w : World} {g q o c d : Nat} {l m : List Nat} (h : w.rangeAt g 0 (cells8 l)) (hl : sec l) (h2 : w.rangeAt q o (cells8 m)) (hm : sec m) :
    Calls Try.prog 59 #[.slice (some ⟨g, 0, none⟩) 64 c, .slice (some ⟨q, o, none⟩) 64 d] w fun e w' => e = .returned (.bool (decide (l = m))) ∧ w' = w := by
  have c1 := conv_o (c := c) h hl
  have c2 := conv_o (c := d) h2 hm
  rw [← str_eq hl.2 hm.2]
  clear h h2
  go_enter Try.func59, Try.ntmps59
  go_wp2_with fail
  go_ret
  exact ⟨rfl, rfl⟩
theorem apw_step {D : DM} {p : Nat} {f : Nat → Nat} {m j : Nat} (h : (apw D p f m j).2 = 0) : apw D p f m (j + 1) = ((apw D p f m j).1.wr ((p : Int) + (j : Int)) (esec f m j), (apw D p f m j).1.wrE ((p : Int) + (j : Int)) 64) := by
  show (if (apw D p f m j).2 = 0 then _ else _) = _
  rw [if_pos h, Int.natCast_add]
/-- While an entry is written. -/
structure WtR (w W1 wr : World) (b lb mb q g : Nat) (D : DM) (p : Nat) (f : Nat → Nat) (m i : Nat) : Prop where
  d : Dsk wr b lb mb (apw D p f m i).1
  e : (apw D p f m i).2 = 0
  k : Kp (X3 b lb mb) w wr
  c : ∀ j, j < tk m → wr.cell? ⟨q, j, none⟩ = some (pc64 g j)
  r : Rw wr g (64 * tk m) (encf f m)
  ql : q < wr.heap.size
  gl : g < wr.heap.size
theorem pc_lt {m i : Nat} (h : i < tk m) : 64 * i + 64 ≤ 64 * tk m := by omega
theorem pl_w {p i m : Nat} (hp : p ≤ 1000000) (hm : m ≤ 200) (hi : i < tk m) : wrap64 ((p : Int) + (i : Int)) = (p : Int) + (i : Int) := w_id (by omega) (by have := tk_4 hm; omega)
theorem i_w {i m : Nat} (hm : m ≤ 200) (hi : i < tk m) : wrap64 ((i : Int) + 1) = (i : Int) + 1 := w_id (by omega) (by have := tk_4 hm; omega)
set_option maxRecDepth 100000 in
set_option maxHeartbeats 4000000 in
theorem write_n {w : World} {b lb mb : Nat} {D : DM} (h : Dsk w b lb mb D) {p : Nat} (hp : p ≤ 1000000) {x : Option Addr} {m c : Nat} {f : Nat → Nat} (hb : BA w x m f) (hm : m ≤ 200) : Calls Try.prog 42 #[pp b, .int .i64 (p : Int), .slice x m c] w (WrP w b lb mb (apw D p f m (tk m)).1 (apw D p f m (tk m)).2) := by
  have HX : Hid (∀ k, w.heap.size ≤ k → X3 b lb mb k = false) := fun k hk => h.out hk
  have HD := hide h
  have HS := hide (sectors_n (c := c) hb hm)
  have HF := hide hb.lt
  clear h hb
  go_enter Try.func42, Try.ntmps42
  go_wp2_with (go_at_call 66; refine Calls.mono HS.out ?_; rintro e W1 ⟨q, cap, g, rfl, hR⟩; have HR := hide hR; clear hR)
  go_loopg [13] (tk m) (fun g' s13 wr => ∃ i : Nat, g' = tk m - i ∧ i ≤ tk m ∧ s13 = .int .i64 (i : Int) ∧ WtR w W1 wr b lb mb q g D p f m i)
  case atStart => exact ⟨0, rfl, by omega, rfl, HD.out.keep HR.out.k, rfl, Kp.of HR.out.k, HR.out.o, HR.out.r, HR.out.ql, HR.out.lt⟩
  case round =>
    obtain ⟨i, rfl, hi, rfl, hI⟩ := hrel
    have HI := hide hI
    clear hI
    by_cases hlt : i < tk m
    · have hcell := HI.out.c i hlt
      have hlt' : (i : Int) < (tk m : Int) := by omega
      have hw := pl_w hp hm hlt
      have hw1 : wrap64 ((i : Int) + 1) = (i : Int) + 1 := i_w hm hlt
      have HC : Hid (Calls Try.prog 18 #[pp b, .int .i64 ((p : Int) + (i : Int)), pc64 g i] wr (WrP wr b lb mb (apw D p f m (i + 1)).1 (apw D p f m (i + 1)).2)) := by
        rw [apw_step HI.out.e]
        exact write_any HI.out.d _ (HI.out.r.ba (pc_lt hlt)) (fun _ a ha => by cases ha; exact HX.out _ HR.out.ge)
      by_cases he : (apw D p f m (i + 1)).2 = 0
      · have HE := hide he
        rw [he] at HC
        clear he
        go_wp2_with (go_at_call 18; refine Calls.mono HC.out ?_; rintro e W2 ⟨rfl, hD2, hK2⟩; have HD2 := hide hD2; have HK2 := hide hK2; clear hD2 hK2)
        go_roundg (tk m - (i + 1))
        case measure => omega
        case rel => exact ⟨i + 1, rfl, by omega, by simp [hw1], HD2.out, HE.out, HI.out.k.trans HK2.out, fun j hj => (HK2.out.cell (p := ⟨q, j, none⟩) HI.out.ql (HX.out q HR.out.qe)).trans (HI.out.c j hj), HI.out.r.kp HK2.out HI.out.gl (HX.out g HR.out.ge), Nat.lt_of_lt_of_le HI.out.ql HK2.out.size, Nat.lt_of_lt_of_le HI.out.gl HK2.out.size⟩
      · have HE := hide (apw_err he (tk m) hlt)
        have hne : ((apw D p f m (i + 1)).2 != 0) = true := by simp [he]
        clear he
        obtain ⟨er, hr⟩ : ∃ er, er = (apw D p f m (i + 1)).2 := ⟨_, rfl⟩
        rw [← hr] at hne HC
        have HEr := hide hr
        clear hr
        go_wp2_with (go_at_call 18; refine Calls.mono HC.out ?_; rintro e W2 ⟨rfl, hD2, hK2⟩; have HD2 := hide hD2; have HK2 := hide hK2; clear hD2 hK2)
        go_ret
        rw [HE.out]
        exact ⟨by rw [← HEr.out]; rfl, HD2.out, HI.out.k.trans HK2.out⟩
    · obtain rfl : i = tk m := by omega
      have hz := HI.out.e
      go_wp2_with fail
      go_ret
      exact ⟨by rw [hz]; rfl, HI.out.d, HI.out.k⟩
/-- The entry stands there, sector by sector. -/
def Std (D : DM) (p : Nat) (f : Nat → Nat) (m : Nat) : Prop := ∀ j, j < tk m → p + j < D.n ∧ D.cur (p + j) = esec f m j
theorem Rw.at_ {w : World} {g N : Nat} {f : Nat → Nat} (r : Rw w g N f) {o : Nat} (h : o + 64 ≤ N) : w.rangeAt g o (cells8 (fl (fun i => f (o + i)) 64)) := fun j v hv => by
  have hj : j < 64 := by
    have := (List.getElem?_eq_some_iff.1 hv).1
    rw [cells8_len, fl_len] at this
    exact this
  rw [cells8_at _ j (by rw [fl_len]; exact hj)] at hv
  cases hv
  rw [r.c (o + j) (by omega), List.getD_eq_getElem?_getD, fl_at _ hj]
  rfl
set_option maxRecDepth 100000 in
set_option maxHeartbeats 4000000 in
theorem stands_yes {w : World} {b lb mb : Nat} {D : DM} (h : Dsk w b lb mb D) (hd : D.dn = false) {p : Nat} (hp : p ≤ 1000000) {x : Option Addr} {m c : Nat} {f : Nat → Nat} (hb : BA w x m f) (hm : m ≤ 200) (hs : Std D p f m) : Calls Try.prog 67 #[pp b, .int .i64 (p : Int), .slice x m c] w fun e w' => e = .returned (.bool true) ∧ Below w.heap.size w w' := by
  have HD := hide h
  have HS := hide (sectors_n (c := c) hb hm)
  have HF := hide hb.lt
  have HSt := hide hs
  have HDn := hide hd
  clear h hb hs hd
  go_enter Try.func67, Try.ntmps67
  go_wp2_with (go_at_call 66; refine Calls.mono HS.out ?_; rintro e W1 ⟨q, cap, g, rfl, hR⟩; have HR := hide hR; clear hR)
  go_loopg [14] (tk m) (fun g' s14 wr => ∃ i : Nat, g' = tk m - i ∧ i ≤ tk m ∧ s14 = .int .i64 (i : Int) ∧ Hid (Below W1.heap.size W1 wr))
  case atStart => exact ⟨0, rfl, by omega, rfl, Below.refl _ _⟩
  case round =>
    obtain ⟨i, rfl, hi, rfl, HI⟩ := hrel
    by_cases hlt : i < tk m
    · have hcell := later HI.out (HR.out.o i hlt)
      have hlt' : (i : Int) < (tk m : Int) := by omega
      have hw := pl_w hp hm hlt
      have hw1 : wrap64 ((i : Int) + 1) = (i : Int) + 1 := i_w hm hlt
      have HC : Hid (Calls Try.prog 73 #[pp b, .int .i64 ((p : Int) + (i : Int))] wr fun e w' => ∃ q2, e = .returned (.tuple #[s64 q2, .int .i64 0]) ∧ w'.rangeAt q2 0 (cells8 (esec f m i)) ∧ Below wr.heap.size wr w') := by
        have h1 := (HD.out.keep HR.out.k).keep HI.out
        have h2 := HSt.out i hlt
        have h3 := rd_up HDn.out h2.1
        rw [Int.natCast_add] at h3
        refine Calls.mono (read_any h1 _) ?_
        rintro e w' ⟨v, rfl, hn, hB⟩
        rw [h3.1, h3.2, h2.2] at *
        rcases hn with ⟨e0, _⟩ | ⟨q2, rfl, _, _, hr⟩
        · have := (esec_sec HF.out hm i).1
          rw [e0] at this
          cases this
        · rw [(esec_sec HF.out hm i).1]
          exact ⟨q2, rfl, hr, hB⟩
      go_upto_region 5 with (go_at_call 73; refine Calls.mono HC.out ?_; rintro e W2 ⟨q2, rfl, hr2, hB2⟩; have HR2 := hide hr2; have HB2 := hide hB2; clear hr2 hB2)
      have HQ : Hid (Calls Try.prog 59 #[s64 q2, pc64 g i] W2 fun e w' => e = .returned (.bool true) ∧ w' = W2) := by
        have h5 := eq_o (c := 64) (d := 64) HR2.out (esec_sec HF.out hm i) ((HR.out.r.keep (HI.out.trans (HB2.out.mono HI.out.size)) HR.out.lt).at_ (pc_lt hlt)) (esec_sec HF.out hm i)
        rw [show decide (esec f m i = fl (fun k => encf f m (64 * i + k)) 64) = true from decide_eq_true rfl] at h5
        exact h5
      go_wp2_with (go_at_call 59; refine Calls.mono HQ.out ?_; rintro e W2 ⟨rfl, rfl⟩)
      go_roundg (tk m - (i + 1))
      case measure => omega
      case rel => exact ⟨i + 1, rfl, by omega, by simp [hw1], HI.out.trans (HB2.out.mono HI.out.size)⟩
    · obtain rfl : i = tk m := by omega
      go_wp2_with fail
      go_ret
      exact ⟨rfl, HR.out.k.trans (HI.out.mono HR.out.k.size)⟩
set_option maxRecDepth 100000 in
set_option maxHeartbeats 4000000 in
theorem stands_down {w : World} {b lb mb : Nat} {D : DM} (h : Dsk w b lb mb D) (hd : D.dn = true) {p : Nat} (hp : p ≤ 1000000) {x : Option Addr} {m c : Nat} {f : Nat → Nat} (hb : BA w x m f) (hm : m ≤ 200) : Calls Try.prog 67 #[pp b, .int .i64 (p : Int), .slice x m c] w fun e w' => e = .returned (.bool false) ∧ Below w.heap.size w w' := by
  have HD := hide h
  have HS := hide (sectors_n (c := c) hb hm)
  have hE : ∀ i, D.rdE i = 6 := fun i => if_pos hd
  clear h hb hd
  go_enter Try.func67, Try.ntmps67
  go_wp2_with (go_at_call 66; refine Calls.mono HS.out ?_; rintro e W1 ⟨q, cap, g, rfl, hR⟩; have HR := hide hR; clear hR)
  go_loopg [14] 1 (fun g' s14 wr => g' = 1 ∧ s14 = .int .i64 0 ∧ wr = W1)
  case atStart => exact ⟨rfl, rfl, rfl⟩
  case round =>
    obtain ⟨rfl, rfl, rfl⟩ := hrel
    have hcell := HR.out.o 0 (tk_pos m)
    have hlt' : (0 : Int) < (tk m : Int) := by have := tk_pos m; omega
    have hw : wrap64 ((p : Int) + 0) = (p : Int) := by rw [Int.add_zero]; exact w_id (by omega) (by omega)
    have HC : Hid (Calls Try.prog 73 #[pp b, .int .i64 (p : Int)] wr fun e w' => (∃ v, e = .returned (.tuple #[v, .int .i64 6])) ∧ Below wr.heap.size wr w') := by
      refine Calls.mono (read_any (HD.out.keep HR.out.k) _) ?_
      rintro e w' ⟨v, rfl, hn, hB⟩
      rw [hE]
      exact ⟨⟨v, rfl⟩, hB⟩
    go_wp2_with (go_at_call 73; refine Calls.mono HC.out ?_; rintro e W2 ⟨⟨v2, rfl⟩, hB2⟩; have HB2 := hide hB2; clear hB2)
    go_ret
    exact ⟨rfl, HR.out.k.trans (HB2.out.mono HR.out.k.size)⟩
end Go.Proofs.Ytpophfeommlajaa
