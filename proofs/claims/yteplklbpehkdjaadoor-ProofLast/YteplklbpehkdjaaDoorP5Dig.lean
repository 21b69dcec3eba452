/- A digest in memory: its state, the bytes of its unfinished block, its size. -/
import Derived.Test.YteplklbpehkdjaaDoorP5Take
import Derived.Test.YteplklbpehkdjaaDoorP5End
import Derived.Test.YteplklbpehkdjaaDoorS5Cat
import Derived.Test.YteplklbpehkdjaaDoorKGrown
import Derived.Laws.CopyOwn
namespace Go.Proofs.YteplklbpehkdjaaDoor
set_option maxRecDepth 100000
open Go.RowKit

theorem lt_of_cell {w : World} {p : Addr} {v : Value} (h : w.cell? p = some v) : p.block < w.heap.size := World.block_lt_of_cell? w p h
theorem Tab.kept {W w1 : World} {r : Nat} (h : Tab W) (hg : W.grownBy w1 (some r)) (hr : 2 ≤ r) : Tab w1 :=
  ⟨fun i hi => hg.cell (h.f i hi) (by simp; omega), fun i hi => hg.cell (h.k i hi) (by simp; omega)⟩
theorem Rd.kept {W w1 : World} {b o n r : Nat} {f : Nat → Int} (h : Rd W b o n f) (hg : W.grownBy w1 (some r)) (hr : b ≠ r) : Rd w1 b o n f :=
  ⟨fun i hi => hg.cell (h.c i hi) (by simpa using hr)⟩
theorem BA.kept {W w1 : World} {a : Option Addr} {n r : Nat} {f : Nat → Nat} (h : BA W a n f) (hg : W.grownBy w1 (some r)) (hr : ∀ p, a = some p → p.block ≠ r) : BA w1 a n f :=
  ⟨h.lt, h.at_.elim Or.inl fun ⟨b, o, e, hd⟩ => Or.inr ⟨b, o, e, hd.kept hg (hr _ e)⟩⟩
/-- A digest's cells. -/
structure DigR (w : World) (b : Nat) (s : St) (r : Nat → Nat) (n : Nat) : Prop where
  lt : b < w.heap.size
  st : ∀ i, i < 8 → w.cell? ⟨b, i, none⟩ = some (.int .u32 (wn (s.w i)))
  rs : ∀ i, i < 64 → w.cell? ⟨b, 8 + i, none⟩ = some (.int .u8 ((r i : Nat) : Int))
  sz : w.cell? ⟨b, 72, none⟩ = some (.int .u64 (n : Int))
  z : ∀ i, i < 73 → w.frozen? ⟨b, i, none⟩ = false
theorem DigR.keep {W w1 : World} {b n : Nat} {s : St} {r : Nat → Nat} (h : DigR W b s r n) (hb : Below W.heap.size W w1) : DigR w1 b s r n :=
  ⟨Nat.lt_of_lt_of_le h.lt hb.size, fun i hi => later hb (h.st i hi), fun i hi => later hb (h.rs i hi), later hb h.sz, fun i hi => (hb.frozen (p := ⟨b, i, none⟩) h.lt).trans (h.z i hi)⟩
theorem DigR.kept {W w1 : World} {b n q : Nat} {s : St} {r : Nat → Nat} (h : DigR W b s r n) (hg : W.grownBy w1 (some q)) (hq : b ≠ q) : DigR w1 b s r n := by
  have hne : some b ≠ some q := by simpa using hq
  have hb := hg.block b h.lt hne
  exact ⟨Nat.lt_of_lt_of_le h.lt hg.size, fun i hi => by rw [World.cell?_of_block (w := W) hb]; exact h.st i hi, fun i hi => by rw [World.cell?_of_block (w := W) hb]; exact h.rs i hi, by rw [World.cell?_of_block (w := W) hb]; exact h.sz, fun i hi => by rw [World.frozen?_of_block (w := W) hb]; exact h.z i hi⟩
theorem DigR.there {w : World} {b n : Nat} {s : St} {r : Nat → Nat} (h : DigR w b s r n) (o m : Nat) (hm : o + m ≤ 73) : w.there b o m := fun j hj => by
  refine ⟨?_, h.z (o + j) (by omega)⟩
  rcases (show o + j < 8 ∨ (8 ≤ o + j ∧ o + j < 72) ∨ o + j = 72 by omega) with e | e | e
  · rw [h.st _ e]; rfl
  · have := h.rs (o + j - 8) (by omega)
    rw [show 8 + (o + j - 8) = o + j by omega] at this
    rw [this]; rfl
  · rw [e, h.sz]; rfl
theorem DigR.rangeSt {w : World} {b n : Nat} {s : St} {r : Nat → Nat} (h : DigR w b s r n) : w.rangeAt b 0 (aw s.w 8) := fun j v hv => by
  have hj : j < 8 := by
    rcases Nat.lt_or_ge j 8 with h' | h'
    · exact h'
    · rw [List.getElem?_eq_none (by rw [aw_len]; exact h')] at hv; cases hv
  rw [aw_at _ hj] at hv
  rw [Nat.zero_add, h.st j hj]; exact hv
theorem DigR.rangeRs {w : World} {b n : Nat} {s : St} {r : Nat → Nat} (h : DigR w b s r n) : w.rangeAt b 8 (ab r 64) := fun j v hv => by
  have hj : j < 64 := by
    rcases Nat.lt_or_ge j 64 with h' | h'
    · exact h'
    · rw [List.getElem?_eq_none (by rw [ab_len]; exact h')] at hv; cases hv
  rw [ab_at _ hj] at hv
  rw [h.rs j hj]; exact hv
/-- A digest, as its cells. -/
def dg (s : St) (r : Nat → Nat) (n : Nat) : List Value := aw s.w 8 ++ (ab r 64 ++ [.int .u64 (n : Int)])
theorem dg_len (s : St) (r : Nat → Nat) (n : Nat) : (dg s r n).length = 73 := by simp [dg, aw_len, ab_len]
theorem dg_one (s : St) (r : Nat → Nat) (n : Nat) : ∀ v ∈ dg s r n, v.oneCell' = true := by
  intro v hv
  simp only [dg, List.mem_append, List.mem_singleton] at hv
  rcases hv with h | h | rfl
  · exact aw_one _ _ v h
  · exact ab_one _ _ v h
  · rfl
theorem dg_st (s : St) (r : Nat → Nat) (n : Nat) {i : Nat} (h : i < 8) : (dg s r n)[i]? = some (.int .u32 (wn (s.w i))) := by
  rw [dg, List.getElem?_append_left (by rw [aw_len]; exact h), aw_at _ h]
theorem dg_rs (s : St) (r : Nat → Nat) (n : Nat) {i : Nat} (h : i < 64) : (dg s r n)[8 + i]? = some (.int .u8 ((r i : Nat) : Int)) := by
  rw [dg, List.getElem?_append_right (by rw [aw_len]; omega), aw_len, List.getElem?_append_left (by rw [ab_len]; omega), show 8 + i - 8 = i by omega, ab_at _ h]
theorem dg_sz (s : St) (r : Nat → Nat) (n : Nat) : (dg s r n)[72]? = some (.int .u64 (n : Int)) := by
  rw [dg, List.getElem?_append_right (by rw [aw_len]; omega), aw_len, List.getElem?_append_right (by rw [ab_len]; omega), ab_len]; rfl
theorem DigR.range {w : World} {b n : Nat} {s : St} {r : Nat → Nat} (h : DigR w b s r n) : w.rangeAt b 0 (dg s r n) := fun j v hv => by
  rw [Nat.zero_add]
  rcases (show j < 8 ∨ (8 ≤ j ∧ j < 72) ∨ j = 72 ∨ 73 ≤ j by omega) with e | e | e | e
  · rw [dg_st s r n e] at hv; rw [h.st j e]; exact hv
  · obtain ⟨k, rfl⟩ : ∃ k, j = 8 + k := ⟨j - 8, by omega⟩
    rw [dg_rs s r n (by omega)] at hv; rw [h.rs k (by omega)]; exact hv
  · subst e; rw [dg_sz] at hv; rw [h.sz]; exact hv
  · rw [List.getElem?_eq_none (by rw [dg_len]; exact e)] at hv; cases hv
theorem DigR.of_range {w : World} {b n : Nat} {s : St} {r : Nat → Nat} (hl : b < w.heap.size) (h : w.rangeAt b 0 (dg s r n)) (hz : ∀ i, i < 73 → w.frozen? ⟨b, i, none⟩ = false) : DigR w b s r n :=
  ⟨hl, fun i hi => by have := h i _ (dg_st s r n hi); rwa [Nat.zero_add] at this, fun i hi => by have := h _ _ (dg_rs s r n hi); rwa [Nat.zero_add] at this, by have := h _ _ (dg_sz s r n); rwa [Nat.zero_add] at this, hz⟩
theorem DigR.stored {w : World} {b n : Nat} {s : St} {r : Nat → Nat} (h : DigR w b s r n) (s' : St) (r' : Nat → Nat) (n' : Nat) : DigR (w.setCells b 0 (dg s' r' n')) b s' r' n' :=
  DigR.of_range (by rw [size_setCells]; exact h.lt) (World.rangeAt_setCells_same w b 0 _ (by rw [dg_len]; exact h.there 0 73 (by omega))) (fun i hi => by rw [World.frozen?_setCells]; exact h.z i hi)
theorem DigR.made (w : World) (t : TypeId) (s : St) (r : Nat → Nat) (n : Nat) (cs : Array Value) (h : cs = (dg s r n).toArray) : DigR (w.alloc (.cells cs t)) w.heap.size s r n := by
  subst h
  refine DigR.of_range (by simp) (fun j v hv => ?_) (fun i _ => frozen_of_row _ _ _ _ _ (heap_alloc_new w _))
  rw [cell_of_row _ _ _ _ _ _ (heap_alloc_new w _), Nat.zero_add]
  simpa using hv
theorem DigR.state {w : World} {b n : Nat} {s : St} {r : Nat → Nat} (h : DigR w b s r n) (s' : St) : DigR (w.setCells b 0 (aw s'.w 8)) b s' r n := by
  have hr := World.rangeAt_setCells_same w b 0 (aw s'.w 8) (by rw [aw_len]; exact h.there 0 8 (by omega))
  refine ⟨by rw [size_setCells]; exact h.lt, fun i hi => ?_, fun i hi => ?_, ?_, fun i hi => by rw [World.frozen?_setCells]; exact h.z i hi⟩
  · have := hr i _ (aw_at _ hi); rwa [Nat.zero_add] at this
  · rw [World.cell?_setCells_out b _ 0 w _ (fun _ _ => Or.inr (by rw [aw_len]; simp only; omega))]; exact h.rs i hi
  · rw [World.cell?_setCells_out b _ 0 w _ (fun _ _ => Or.inr (by rw [aw_len]; simp only; omega))]; exact h.sz
theorem DigR.size {w : World} {b n : Nat} {s : St} {r : Nat → Nat} (h : DigR w b s r n) (m : Nat) : DigR (w.setCell ⟨b, 72, none⟩ (.int .u64 (m : Int))) b s r m := by
  refine ⟨by simpa using h.lt, fun i hi => ?_, fun i hi => ?_, World.cell?_setCell_same _ _ _ h.sz, fun i hi => by rw [World.frozen?_setCell]; exact h.z i hi⟩
  · rw [World.cell?_setCell_other _ _ _ _ (by simp only [ne_eq, Addr.mk.injEq, not_and]; omega)]; exact h.st i hi
  · rw [World.cell?_setCell_other _ _ _ _ (by simp only [ne_eq, Addr.mk.injEq, not_and]; omega)]; exact h.rs i hi
/-- Some bytes of the unfinished block, laid anew. -/
def put (r : Nat → Nat) (q k : Nat) (g : Nat → Nat) (i : Nat) : Nat := if q ≤ i ∧ i < q + k then g (i - q) else r i
theorem DigR.rest {w : World} {b n : Nat} {s : St} {r : Nat → Nat} (h : DigR w b s r n) (q k : Nat) (hk : q + k ≤ 64) (g : Nat → Nat) : DigR (w.setCells b (8 + q) (ab g k)) b s (put r q k g) n := by
  have hr := World.rangeAt_setCells_same w b (8 + q) (ab g k) (by rw [ab_len]; exact h.there (8 + q) k (by omega))
  refine ⟨by rw [size_setCells]; exact h.lt, fun i hi => ?_, fun i hi => ?_, ?_, fun i hi => by rw [World.frozen?_setCells]; exact h.z i hi⟩
  · rw [World.cell?_setCells_out b _ (8 + q) w _ (fun _ _ => Or.inl (by simp only; omega))]; exact h.st i hi
  · unfold put
    by_cases e : q ≤ i ∧ i < q + k
    · rw [if_pos e]
      have := hr (i - q) _ (ab_at g (by omega))
      rwa [show 8 + q + (i - q) = 8 + i by omega] at this
    · rw [if_neg e, World.cell?_setCells_out b _ (8 + q) w _ (fun _ _ => by rw [ab_len]; simp only; omega)]; exact h.rs i hi
  · rw [World.cell?_setCells_out b _ (8 + q) w _ (fun _ _ => by rw [ab_len]; simp only; omega)]; exact h.sz

/-- What a digest holds: the state behind all whole blocks, and the bytes behind them. -/
structure DigS (w : World) (b : Nat) (f : Nat → Nat) (n : Nat) (s : St) (r : Nat → Nat) : Prop where
  d : DigR w b s r n
  st : s = hs f (n / 64)
  b : ∀ i, r i < 256
  rs : ∀ i, i < n % 64 → r i = f (n / 64 * 64 + i)
def Dig (w : World) (b : Nat) (f : Nat → Nat) (n : Nat) : Prop := ∃ s r, DigR w b s r n ∧ (n = 0 ∨ s = hs f (n / 64)) ∧ (∀ i, r i < 256) ∧ (∀ i, i < n % 64 → r i = f (n / 64 * 64 + i))
theorem Dig.keep {W w1 : World} {b n : Nat} {f : Nat → Nat} (h : Dig W b f n) (hb : Below W.heap.size W w1) : Dig w1 b f n := by
  obtain ⟨s, r, h1, h2⟩ := h
  exact ⟨s, r, h1.keep hb, h2⟩
theorem Dig.kept {W w1 : World} {b n q : Nat} {f : Nat → Nat} (h : Dig W b f n) (hg : W.grownBy w1 (some q)) (hq : b ≠ q) : Dig w1 b f n := by
  obtain ⟨s, r, h1, h2⟩ := h
  exact ⟨s, r, h1.kept hg hq, h2⟩
theorem Dig.congr {w : World} {b n : Nat} {f g : Nat → Nat} (h : Dig w b f n) (e : ∀ i, i < n → f i = g i) : Dig w b g n := by
  obtain ⟨s, r, h1, h2, h3, h4⟩ := h
  exact ⟨s, r, h1, h2.imp id (fun h => by rw [h]; exact hs_congr _ (fun i hi => e i (by omega))), h3, fun i hi => by rw [h4 i hi, e _ (by omega)]⟩
/-- Bytes that do not fill the block. -/
theorem put_part {f g r : Nat → Nat} {n m : Nat} (h : n % 64 + m < 64) (hr : ∀ i, i < n % 64 → r i = f (n / 64 * 64 + i)) :
    (n + m) / 64 = n / 64 ∧ hs (cat f n g) ((n + m) / 64) = hs f (n / 64) ∧ ∀ i, i < (n + m) % 64 → put r (n % 64) m g i = cat f n g ((n + m) / 64 * 64 + i) := by
  have e : (n + m) / 64 = n / 64 := by omega
  refine ⟨e, ?_, fun i hi => ?_⟩
  · rw [e]; exact hs_congr _ (fun i hi => by unfold cat; rw [if_pos (by omega)])
  · rw [e]
    unfold put cat
    by_cases h1 : n % 64 ≤ i
    · rw [if_pos (by omega), if_neg (by omega)]
      congr 1
      omega
    · rw [if_neg (by omega), if_pos (by omega)]
      exact hr i (by omega)
/-- Bytes that fill it. -/
theorem put_full {f g r : Nat → Nat} {n m : Nat} (h : n % 64 + m = 64) (hr : ∀ i, i < n % 64 → r i = f (n / 64 * 64 + i)) :
    (n + m) % 64 = 0 ∧ takeB (hs f (n / 64)) (put r (n % 64) m g) = hs (cat f n g) ((n + m) / 64) := by
  have e : (n + m) / 64 = n / 64 + 1 := by omega
  refine ⟨by omega, ?_⟩
  rw [e]
  simp only [hs]
  rw [hs_congr (p := cat f n g) (q := f) (n / 64) (fun i hi => by unfold cat; rw [if_pos (by omega)])]
  refine takeB_congr _ (fun i hi => ?_)
  unfold put cat
  by_cases h1 : n % 64 ≤ i
  · rw [if_pos (by omega), if_neg (by omega)]
    congr 1
    omega
  · rw [if_neg (by omega), if_pos (by omega), hr i (by omega)]
    congr 1
    omega
theorem put_lt {r g : Nat → Nat} (hr : ∀ i, r i < 256) (hg : ∀ i, g i < 256) (q k i : Nat) : put r q k g i < 256 := by
  unfold put
  split
  · exact hg _
  · exact hr _
theorem digs_part {W Y : World} {b n j L q N : Nat} {f g r : Nat → Nat} {s : St} (hD : DigS W b (cat f n g) N s r) (hN : N = n + j) (hq : q = N % 64) (hfit : q + L < 64) (hg : ∀ i, g i < 256) (hY : DigR Y b s (put r q L (fun i => g (j + i))) (N + L)) :
    DigS Y b (cat f n g) (n + (j + L)) s (put r q L (fun i => g (j + i))) := by
  subst hN hq
  obtain ⟨_, p2, p3⟩ := put_part (f := cat f n g) (g := fun i => g (j + i)) (n := n + j) (m := L) hfit hD.rs
  rw [cat_cat] at p2 p3
  rw [show n + (j + L) = n + j + L by omega]
  exact ⟨hY, by rw [p2]; exact hD.st, put_lt hD.b (fun i => hg _) _ _, p3⟩
theorem digs_full {W Y : World} {b n j L q N : Nat} {f g r : Nat → Nat} {s s2 : St} (hD : DigS W b (cat f n g) N s r) (hN : N = n + j) (hq : q = N % 64) (hfit : q + L = 64) (hg : ∀ i, g i < 256) (h2 : s2 = takeB s (put r q L (fun i => g (j + i)))) (hY : DigR Y b s2 (put r q L (fun i => g (j + i))) (N + L)) :
    DigS Y b (cat f n g) (n + (j + L)) s2 (put r q L (fun i => g (j + i))) := by
  subst hN hq
  obtain ⟨p1, p2⟩ := put_full (f := cat f n g) (g := fun i => g (j + i)) (n := n + j) (m := L) hfit hD.rs
  rw [cat_cat] at p2
  rw [show n + (j + L) = n + j + L by omega]
  exact ⟨hY, by rw [h2, ← p2, hD.st], put_lt hD.b (fun i => hg _) _ _, fun i hi => by omega⟩
end Go.Proofs.YteplklbpehkdjaaDoor
