/- Layer 14: the three sectors are read; Load. -/
import Derived.Test.YtjgpopjpmfkfmaaN14A
namespace Go.Proofs.Ytjgpopjpmfkfmaa
set_option maxRecDepth 100000
open Go.RowKit Go.Maps
attribute [local go_sem ↓] Go.wp_at_zero Go.wp_at_succ

theorem rdB_sec {D : DM} (h : D.ok) {i : Int} (he : D.rdE i = 0) : sec (D.rdB i) := by
  unfold DM.rdE at he
  unfold DM.rdB
  split at he
  · cases he
  · rename_i h1
    rw [if_neg h1]
    split at he
    · rename_i h2
      rw [if_pos h2]
      exact DM.cur_sec h _
    · cases he
/-- A sector that was read, in a block of its own. -/
structure Got (w wr : World) (g : Nat) (l : List Nat) : Prop where
  ge : w.heap.size ≤ g
  lt : g < wr.heap.size
  r : wr.rangeAt g 0 (cells8 l)
theorem Got.keep {w wr w' : World} {g : Nat} {l : List Nat} (h : Got w wr g l) (hb : Below wr.heap.size wr w') : Got w w' g l := ⟨h.ge, Nat.lt_of_lt_of_le h.lt hb.size, fun j v hv => later hb (h.r j v hv)⟩
/-- While the three are read: what is there of them, in block hb; the answer's block is rb. -/
structure RdL (w wr : World) (rb hb : Nat) (D : DM) (a : Int) (i : Nat) : Prop where
  k : Below w.heap.size w wr
  rg : w.heap.size ≤ rb
  hg : w.heap.size ≤ hb
  ne : rb ≠ hb
  rl : rb < wr.heap.size
  hl : hb < wr.heap.size
  rt : wr.there rb 0 3
  ht : wr.there hb 0 3
  c : ∀ j : Nat, j < i → ∃ g, wr.cell? ⟨hb, j, none⟩ = some (s64 g) ∧ g ≠ hb ∧ g ≠ rb ∧ Got w wr g (D.rdB (a + j))
  z : ∀ j : Nat, i ≤ j → j < 3 → wr.cell? ⟨hb, j, none⟩ = some (.slice none 0 0)
  ok : ∀ j : Nat, j < i → D.rdE (a + j) = 0
theorem RdL.grow {w wr w' : World} {rb hb : Nat} {D : DM} {a : Int} {i : Nat} (h : RdL w wr rb hb D a i) (hB : Below wr.heap.size wr w') : RdL w w' rb hb D a i := by
  have e1 := hB.block rb h.rl
  have e2 := hB.block hb h.hl
  have c1 : ∀ o, w'.cell? ⟨rb, o, none⟩ = wr.cell? ⟨rb, o, none⟩ := fun o => World.cell?_of_block (w := wr) e1
  have c2 : ∀ o, w'.cell? ⟨hb, o, none⟩ = wr.cell? ⟨hb, o, none⟩ := fun o => World.cell?_of_block (w := wr) e2
  have f1 : ∀ o, w'.frozen? ⟨rb, o, none⟩ = wr.frozen? ⟨rb, o, none⟩ := fun o => World.frozen?_of_block (w := wr) e1
  have f2 : ∀ o, w'.frozen? ⟨hb, o, none⟩ = wr.frozen? ⟨hb, o, none⟩ := fun o => World.frozen?_of_block (w := wr) e2
  exact ⟨K.call h.k hB, h.rg, h.hg, h.ne, Nat.lt_of_lt_of_le h.rl hB.size, Nat.lt_of_lt_of_le h.hl hB.size, fun j hj => ⟨by rw [c1]; exact (h.rt j hj).1, by rw [f1]; exact (h.rt j hj).2⟩, fun j hj => ⟨by rw [c2]; exact (h.ht j hj).1, by rw [f2]; exact (h.ht j hj).2⟩,
    fun j hj => by obtain ⟨g, h1, h2, h3, h4⟩ := h.c j hj; exact ⟨g, (c2 _).trans h1, h2, h3, h4.keep hB⟩, fun j h1 h2 => (c2 _).trans (h.z j h1 h2), h.ok⟩
theorem below_set {n : Nat} {w w1 : World} {g o : Nat} (hg : n ≤ g) (v : Value) (h : Below n w w1) : Below n w (w1.setCell ⟨g, o, none⟩ v) := h.setCell (p := ⟨g, o, none⟩) hg v
theorem far_set {w : World} {g o q p : Nat} (h : q ≠ g) (v : Value) : (w.setCell ⟨g, o, none⟩ v).cell? ⟨q, p, none⟩ = w.cell? ⟨q, p, none⟩ := World.cell?_setCell_far w ⟨g, o, none⟩ ⟨q, p, none⟩ v (fun e => h e.symm)
theorem RdL.put {w wr : World} {rb hb : Nat} {D : DM} {a : Int} {i : Nat} (h : RdL w wr rb hb D a i) (hi : i < 3) {g : Nat} (h1 : g ≠ hb) (h2 : g ≠ rb) (hG : Got w wr g (D.rdB (a + i))) (he : D.rdE (a + i) = 0) : RdL w (wr.setCell ⟨hb, i, none⟩ (s64 g)) rb hb D a (i + 1) := by
  have hs : (wr.setCell ⟨hb, i, none⟩ (s64 g)).heap.size = wr.heap.size := by simp
  have hthere := h.ht i hi
  rw [Nat.zero_add] at hthere
  have hsame : (wr.setCell ⟨hb, i, none⟩ (s64 g)).cell? ⟨hb, i, none⟩ = some (s64 g) := World.cell?_setCell_same' wr _ _ hthere.1
  have hoth : ∀ j, j ≠ i → (wr.setCell ⟨hb, i, none⟩ (s64 g)).cell? ⟨hb, j, none⟩ = wr.cell? ⟨hb, j, none⟩ := fun j hj => by
    rw [World.cell?_setCell_other]
    exact fun e => hj (by cases e; rfl)
  refine ⟨below_set h.hg _ h.k, h.rg, h.hg, h.ne, by rw [hs]; exact h.rl, by rw [hs]; exact h.hl, fun j hj => ⟨by rw [far_set h.ne]; exact (h.rt j hj).1, by rw [World.frozen?_setCell]; exact (h.rt j hj).2⟩, fun j hj => ⟨?_, by rw [World.frozen?_setCell]; exact (h.ht j hj).2⟩, fun j hj => ?_, fun j hj1 hj2 => (hoth j (by omega)).trans (h.z j (by omega) hj2), fun j hj => ?_⟩
  · by_cases e : j = i
    · subst e; rw [Nat.zero_add, hsame]; rfl
    · rw [Nat.zero_add, hoth j e]
      have := (h.ht j hj).1
      rwa [Nat.zero_add] at this
  · by_cases e : j = i
    · subst e
      exact ⟨g, hsame, h1, h2, hG.ge, by rw [hs]; exact hG.lt, fun k v hv => (far_set h1 _).trans (hG.r k v hv)⟩
    · obtain ⟨q, q1, q2, q3, q4⟩ := h.c j (by omega)
      exact ⟨q, (hoth j e).trans q1, q2, q3, q4.ge, by rw [hs]; exact q4.lt, fun k v hv => (far_set q2 _).trans (q4.r k v hv)⟩
  · by_cases e : j = i
    · subst e; exact he
    · exact h.ok j (by omega)
/-- The three cells of what is read. -/
theorem RdL.cells {w wr : World} {rb hb : Nat} {D : DM} {a : Int} {i : Nat} (h : RdL w wr rb hb D a i) : ∃ p0 n0 c0 p1 n1 c1 p2 n2 c2, wr.rangeAt hb 0 [.slice p0 n0 c0, .slice p1 n1 c1, .slice p2 n2 c2] := by
  have key : ∀ j, j < 3 → ∃ p n c, wr.cell? ⟨hb, j, none⟩ = some (.slice p n c) := fun j hj => by
    by_cases e : j < i
    · obtain ⟨g, h1, _⟩ := h.c j e
      exact ⟨_, _, _, h1⟩
    · exact ⟨_, _, _, h.z j (by omega) hj⟩
  obtain ⟨p0, n0, c0, h0⟩ := key 0 (by omega)
  obtain ⟨p1, n1, c1, h1⟩ := key 1 (by omega)
  obtain ⟨p2, n2, c2, h2⟩ := key 2 (by omega)
  refine ⟨p0, n0, c0, p1, n1, c1, p2, n2, c2, fun j v hv => ?_⟩
  match j, hv with
  | 0, hv => simp at hv; rw [← hv]; exact h0
  | 1, hv => simp at hv; rw [← hv]; exact h1
  | 2, hv => simp at hv; rw [← hv]; exact h2
  | j + 3, hv => simp at hv
/-- What the reading of the three answers. -/
def R3P (w : World) (D : DM) (a : Int) (e : Ending) (w' : World) : Prop := Below w.heap.size w w' ∧ if D.ldE a = 0 then ∃ g0 g1 g2, e = .returned (.tuple #[.agg #[s64 g0, s64 g1, s64 g2], .int .i64 0]) ∧ Got w w' g0 (D.rdB a) ∧ Got w w' g1 (D.rdB (a + 1)) ∧ Got w w' g2 (D.rdB (a + 2))
  else ∃ p0 n0 c0 p1 n1 c1 p2 n2 c2, e = .returned (.tuple #[.agg #[.slice p0 n0 c0, .slice p1 n1 c1, .slice p2 n2 c2], .int .i64 (D.ldE a)])
/-- One of three places. -/
theorem run_idx3 (a : Int) {i : Nat} (hi : i < 3) (w : World) : (Instr.index 105 (.agg #[.int .i64 a, .int .i64 (a + 1), .int .i64 (a + 2)]) (.int .i64 (i : Int))).run Try.prog w = .ok (.int .i64 (a + (i : Int))) w := by
  have hx : (#[.int .i64 a, .int .i64 (a + 1), .int .i64 (a + 2)] : Array Value)[i]? = some (.int .i64 (a + (i : Int))) := by
    have hc : i = 0 ∨ i = 1 ∨ i = 2 := by omega
    rcases hc with rfl | rfl | rfl <;> simp
  have he : Try.prog.plainKey 3 = true := by kernel_rfl
  have h1 : (sizeOf 3).run Try.prog w = .ok 1 w := by
    obtain ⟨i, hi⟩ := Option.isSome_iff_exists.1 (show (Try.prog.info? 3).isSome = true by kernel_rfl)
    have : (Try.prog.info? 3).map (·.size) = some 1 := by kernel_rfl
    rw [hi] at this
    simp [sizeOf, typeInfo, hi]
    simpa using this
  have h2 := run_part_plain w he hx
  simp [Instr.index, asIntOf, run_underlying Try.underlying105, h1, h2, hi]
section
variable {w : World} {ops : Array Oper} {rest : List Oper} {o : Oper} {a : Act} {Q : Exit → Act → World → Prop}
theorem wpList_ld3 (hgd : o.guard = none) (x : Operand) (hop : o.op = Op.load 102 x) {g : Nat} {v0 v1 v2 : Value} (hx : a.eval x = .pointer (some ⟨g, 0, none⟩)) (ht : w.rangeAt g 0 [v0, v1, v2]) (hK : wpList Try.prog ops Q rest (a.put o.dst (.agg #[v0, v1, v2])) w) : wpList Try.prog ops Q (o :: rest) a w :=
  wpList_load_mid hgd 102 x hop g 0 hx [v0, v1, v2] _ ht Try.underlying102 rfl size3B hK
theorem wpList_st3 (hgd : o.guard = none) (x y : Operand) (hop : o.op = Op.store 102 x y) {g : Nat} {p0 p1 p2 : Option Addr} {n0 n1 n2 c0 c1 c2 : Nat} (hx : a.eval x = .pointer (some ⟨g, 0, none⟩)) (hy : a.eval y = .agg #[.slice p0 n0 c0, .slice p1 n1 c1, .slice p2 n2 c2]) (ht : w.there g 0 3)
    (hK : ∀ w', Hid (w' = w.setCells g 0 [.slice p0 n0 c0, .slice p1 n1 c1, .slice p2 n2 c2]) → wpList Try.prog ops Q rest (a.put o.dst undef) w') : wpList Try.prog ops Q (o :: rest) a w :=
  wpList_store_mid hgd 102 x y hop g 0 #[.slice p0 n0 c0, .slice p1 n1 c1, .slice p2 n2 c2] hx hy ht size3B (by simp [Value.oneCell']) (hK _ rfl)
theorem wpList_idx3 (hgd : o.guard = none) (x y : Operand) (hop : o.op = Op.index 105 x y) {p : Int} {i : Nat} (hx : a.eval x = .agg #[.int .i64 p, .int .i64 (p + 1), .int .i64 (p + 2)]) (hy : a.eval y = .int .i64 (i : Int)) (hi : i < 3) (hK : wpList Try.prog ops Q rest (a.put o.dst (.int .i64 (p + (i : Int)))) w) : wpList Try.prog ops Q (o :: rest) a w := by
  refine wpList_plain hgd fun K hK' => ?_
  unfold Oper.wp execOp
  simp only [hop, hx, hy, Sem.run_bind, Sem.run_pure, Result.andThen_ok, run_idx3 p hi w]
  exact hK' _ _ hK
end
theorem RdL.start (w : World) (D : DM) (a : Int) (t : TypeId) {W1 : World} (hB : Below ((w.alloc (.cells #[.slice none 0 0, .slice none 0 0, .slice none 0 0] t)).alloc (.cells #[.slice none 0 0, .slice none 0 0, .slice none 0 0] t)).heap.size ((w.alloc (.cells #[.slice none 0 0, .slice none 0 0, .slice none 0 0] t)).alloc (.cells #[.slice none 0 0, .slice none 0 0, .slice none 0 0] t)) W1) :
    RdL w W1 w.heap.size (w.heap.size + 1) D a 0 := by
  refine RdL.grow ?_ hB
  have e1 : ∀ w : World, (w.alloc (.cells #[.slice none 0 0, .slice none 0 0, .slice none 0 0] t)).heap[w.heap.size]? = some (.cells #[.slice none 0 0, .slice none 0 0, .slice none 0 0] t) := fun w => heap_alloc_new w _
  have e2 := e1 (w.alloc (.cells #[.slice none 0 0, .slice none 0 0, .slice none 0 0] t))
  have e3 := (Below.heap_alloc (w.alloc (.cells #[.slice none 0 0, .slice none 0 0, .slice none 0 0] t)) (.cells #[.slice none 0 0, .slice none 0 0, .slice none 0 0] t) w.heap.size (by simp)).trans (e1 w)
  have hs : (w.alloc (.cells #[.slice none 0 0, .slice none 0 0, .slice none 0 0] t)).heap.size = w.heap.size + 1 := by simp
  rw [hs] at e2
  have key : ∀ (W : World) (g : Nat), W.heap[g]? = some (.cells #[.slice none 0 0, .slice none 0 0, .slice none 0 0] t) → ∀ j, j < 3 → W.cell? ⟨g, j, none⟩ = some (.slice none 0 0) ∧ W.frozen? ⟨g, j, none⟩ = false := by
    intro W g hg j hj
    have hj : j = 0 ∨ j = 1 ∨ j = 2 := by omega
    rcases hj with rfl | rfl | rfl <;> exact ⟨by simp [World.cell?, hg], by simp [World.frozen?, hg]⟩
  refine ⟨K.alloc (K.alloc (Below.refl _ _) _) _, Nat.le_refl _, by omega, by omega, by simp; omega, by simp, fun j hj => ?_, fun j hj => ?_, fun j hj => by omega, fun j _ hj => (key _ _ e2 j hj).1, fun j hj => by omega⟩
  · rw [Nat.zero_add]; exact ⟨by rw [(key _ _ e3 j hj).1]; rfl, (key _ _ e3 j hj).2⟩
  · rw [Nat.zero_add]; exact ⟨by rw [(key _ _ e2 j hj).1]; rfl, (key _ _ e2 j hj).2⟩
theorem ld_no {D : DM} {a : Int} {i : Nat} (hi : i < 3) (h : ∀ j : Nat, j < i → D.rdE (a + j) = 0) (he : D.rdE (a + i) ≠ 0) : D.ldE a = D.rdE (a + i) := by
  have hc : i = 0 ∨ i = 1 ∨ i = 2 := by omega
  unfold DM.ldE
  rcases hc with rfl | rfl | rfl
  · rw [show a + ((0 : Nat) : Int) = a by omega] at he ⊢
    rw [if_neg he]
  · have h0 := h 0 (by omega)
    rw [show a + ((0 : Nat) : Int) = a by omega] at h0
    rw [if_pos h0]
    exact if_neg he
  · have h0 := h 0 (by omega)
    have h1 := h 1 (by omega)
    rw [show a + ((0 : Nat) : Int) = a by omega] at h0
    rw [if_pos h0]
    exact if_pos h1
theorem ld_yes {D : DM} {a : Int} (h : ∀ j : Nat, j < 3 → D.rdE (a + j) = 0) : D.ldE a = 0 := by
  have h0 := h 0 (by omega)
  have h1 : D.rdE (a + 1) = 0 := h 1 (by omega)
  have h2 : D.rdE (a + 2) = 0 := h 2 (by omega)
  rw [show a + ((0 : Nat) : Int) = a by omega] at h0
  unfold DM.ldE
  rw [if_pos h0, if_pos h1, h2]
set_option maxRecDepth 100000 in
set_option maxHeartbeats 8000000 in
theorem read3_any {w : World} {b lb mb : Nat} {D : DM} (h : Dsk w b lb mb D) {a : Int} (ha : few9 a) : Calls Try.prog 61 #[pp b, .int .i64 a] w (R3P w D a) := by
  have HD := hide h
  have HA := hide ha
  clear h ha
  go_enter Try.func61, Try.ntmps61
  go_wp2_with (go_at_call 62; refine Calls.mono (places_any _ HA.out) ?_; rintro e W1 ⟨rfl, hB1⟩)
  have HS := hide (RdL.start w D a _ hB1)
  clear hB1
  obtain ⟨rb, hrb⟩ : ∃ rb, rb = w.heap.size := ⟨_, rfl⟩
  obtain ⟨hb, hhb⟩ : ∃ hb, hb = w.heap.size + 1 := ⟨_, rfl⟩
  rw [← hhb, ← hrb] at HS
  rw [← hhb, ← hrb]
  clear hrb hhb
  go_loopg [16] 3 (fun g' s16 wr => ∃ i : Nat, g' = 3 - i ∧ i ≤ 3 ∧ s16 = .int .i64 (i : Int) ∧ RdL w wr rb hb D a i)
  case atStart => exact ⟨0, rfl, by omega, rfl, HS.out⟩
  case round =>
    clear HS
    obtain ⟨i, rfl, hi3, rfl, hR⟩ := hrel
    have HR := hide hR
    clear hR
    by_cases hlt : i < 3
    · have hlt' : (i : Int) < 3 := by omega
      have HC := hide (read_any (HD.out.keep HR.out.k) (a + (i : Int)))
      by_cases he : D.rdE (a + (i : Int)) = 0
      · have HL := hide (rdB_sec HD.out.ok he)
        rw [he] at HC
        have HE := hide he
        clear he
        go_wp2_with (first
          | (refine wpList_idx3 rfl _ _ rfl (by rfl) (by rfl) hlt ?_)
          | (go_at_call 77; refine Calls.mono HC.out ?_; rintro e W2 ⟨vr, rfl, hN, hB2⟩; obtain ⟨g, rfl, hg1, hg2, hg3⟩ := hN.resolve_left (fun h => by have := HL.out.1; rw [h.1] at this; cases this); rw [HL.out.1]; have HG := hide (And.intro hg1 (And.intro hg2 hg3)); have HR2 := hide (HR.out.grow hB2); have hcz := HR2.out.z i (by omega) (by omega); have hcf := (HR2.out.ht i (by omega)).2; simp only [Nat.zero_add] at hcf; clear hg1 hg2 hg3 hN hB2))
        go_roundg (3 - (i + 1))
        case measure => omega
        case rel => exact ⟨i + 1, rfl, by omega, by simp, HR2.out.put (by omega) (fun e => by have := HG.out.1; have := HR.out.hl; omega) (fun e => by have := HG.out.1; have := HR.out.rl; omega) ⟨Nat.le_trans HR.out.k.size HG.out.1, HG.out.2.1, HG.out.2.2⟩ HE.out⟩
      · have hne : (D.rdE (a + (i : Int)) != 0) = true := by simp [he]
        have hne' : (D.rdE (a + (i : Int)) == 0) = false := by simp [he]
        have HE : Hid (D.ldE a = D.rdE (a + (i : Int)) ∧ D.ldE a ≠ 0) := by
          have e1 := ld_no (i := i) (by omega) HR.out.ok he
          exact ⟨e1, by rw [e1]; exact he⟩
        clear he
        go_wp2_with (first
          | (refine wpList_idx3 rfl _ _ rfl (by rfl) (by rfl) hlt ?_)
          | (go_at_call 77; refine Calls.mono HC.out ?_; rintro e W2 ⟨vr, rfl, hN, hB2⟩; have HR2 := hide (HR.out.grow hB2); obtain ⟨p0, n0, c0, p1, n1, c1, p2, n2, c2, hce⟩ := HR2.out.cells; have HCE := hide hce; clear hN hB2 hce)
          | (refine wpList_ld3 rfl _ rfl (by rfl) HCE.out ?_)
          | (refine wpList_st3 rfl _ _ rfl (by rfl) (by rfl) HR2.out.rt ?_; intro W3 hW3))
        have hRR : W3.rangeAt rb 0 [.slice p0 n0 c0, .slice p1 n1 c1, .slice p2 n2 c2] := by rw [hW3.out]; exact World.rangeAt_setCells_same _ _ _ _ HR2.out.rt
        refine bodyPost_ret (results_cell_two Try.results61 _ _ rb [.slice p0 n0 c0, .slice p1 n1 c1, .slice p2 n2 c2] _ rfl hRR Try.underlying102 rfl size3B) rfl ⟨by rw [hW3.out]; exact below_sets rb HR2.out.rg _ _ _ HR2.out.k, ?_⟩
        rw [if_neg HE.out.2]
        exact ⟨p0, n0, c0, p1, n1, c1, p2, n2, c2, by rw [HE.out.1]; rfl⟩
    · obtain rfl : i = 3 := by omega
      obtain ⟨g0, a0, b0, d0, G0⟩ := HR.out.c 0 (by omega)
      obtain ⟨g1, a1, b1, d1, G1⟩ := HR.out.c 1 (by omega)
      obtain ⟨g2, a2, b2, d2, G2⟩ := HR.out.c 2 (by omega)
      rw [show a + ((0 : Nat) : Int) = a by omega] at G0
      have hce : Hid (wr.rangeAt hb 0 [s64 g0, s64 g1, s64 g2]) := fun j v hv => by
        match j, hv with
        | 0, hv => simp at hv; rw [← hv]; exact a0
        | 1, hv => simp at hv; rw [← hv]; exact a1
        | 2, hv => simp at hv; rw [← hv]; exact a2
        | j + 3, hv => simp at hv
      have HE := hide (ld_yes HR.out.ok)
      have HGG := hide (And.intro (And.intro d0 (And.intro d1 d2)) (And.intro G0 (And.intro G1 G2)))
      clear a0 a1 a2 b0 b1 b2 d0 d1 d2 G0 G1 G2
      go_wp2_with (first
        | (refine wpList_ld3 rfl _ rfl (by rfl) hce.out ?_)
        | (refine wpList_st3 rfl _ _ rfl (by rfl) (by rfl) HR.out.rt ?_; intro W3 hW3))
      obtain ⟨⟨d0, d1, d2⟩, G0, G1, G2⟩ := HGG.out
      have hRR : W3.rangeAt rb 0 [s64 g0, s64 g1, s64 g2] := by rw [hW3.out]; exact World.rangeAt_setCells_same _ _ _ _ HR.out.rt
      have hGG : ∀ {g : Nat} {l : List Nat}, g ≠ rb → Got w wr g l → Got w W3 g l := fun hne hG => by
        refine ⟨hG.ge, by rw [hW3.out, size_sets]; exact hG.lt, fun j v hv => ?_⟩
        rw [hW3.out, World.cell?_setCells_out]
        · exact hG.r j v hv
        · exact fun e => absurd e hne
      refine bodyPost_ret (results_cell_two Try.results61 _ _ rb [s64 g0, s64 g1, s64 g2] _ rfl hRR Try.underlying102 rfl size3B) rfl ⟨by rw [hW3.out]; exact below_sets rb HR.out.rg _ _ _ HR.out.k, ?_⟩
      rw [if_pos HE.out]
      exact ⟨g0, g1, g2, rfl, hGG d0 G0, hGG d1 G1, hGG d2 G2⟩
theorem read3_nil (w : World) (a : Int) : Calls Try.prog 61 #[.pointer none, .int .i64 a] w fun e w' => e = .returned (.tuple #[.agg #[.slice none 0 0, .slice none 0 0, .slice none 0 0], .int .i64 1]) ∧ Below w.heap.size w w' := by
  go_enter Try.func61, Try.ntmps61
  go_upto_region 3 with fail
  have HS := hide (RdL.start w (DM.new 0) a 102 (Below.refl _ _))
  refine wp_let (fun X hX => ?_)
  rw [← hX] at HS
  clear hX
  have hce : Hid (X.rangeAt (w.heap.size + 1) 0 [.slice none 0 0, .slice none 0 0, .slice none 0 0]) := fun j v hv => by
    match j, hv with
    | 0, hv => simp at hv; rw [← hv]; exact HS.out.z 0 (by omega) (by omega)
    | 1, hv => simp at hv; rw [← hv]; exact HS.out.z 1 (by omega) (by omega)
    | 2, hv => simp at hv; rw [← hv]; exact HS.out.z 2 (by omega) (by omega)
    | j + 3, hv => simp at hv
  go_wp2_with (first
    | (refine wpList_ld3 rfl _ rfl (by rfl) hce.out ?_)
    | (refine wpList_st3 rfl _ _ rfl (by rfl) (by rfl) HS.out.rt ?_; intro W3 hW3))
  have hRR : W3.rangeAt w.heap.size 0 [.slice none 0 0, .slice none 0 0, .slice none 0 0] := by rw [hW3.out]; exact World.rangeAt_setCells_same _ _ _ _ HS.out.rt
  exact bodyPost_ret (results_cell_two Try.results61 _ _ w.heap.size [.slice none 0 0, .slice none 0 0, .slice none 0 0] _ rfl hRR Try.underlying102 rfl size3B) rfl ⟨rfl, by rw [hW3.out]; exact below_sets _ HS.out.rg _ _ _ HS.out.k⟩
theorem ldB_of {D : DM} {a : Int} (h : D.ldE a = 0) : D.ldB a = vl (D.rdB a) (D.rdB (a + 1)) (D.rdB (a + 2)) := if_pos h
theorem ldB_not {D : DM} {a : Int} (h : D.ldE a ≠ 0) : D.ldB a = [] := if_neg h
theorem ld_rd {D : DM} {a : Int} (h : D.ldE a = 0) : D.rdE a = 0 ∧ D.rdE (a + 1) = 0 ∧ D.rdE (a + 2) = 0 := by
  unfold DM.ldE at h
  by_cases h0 : D.rdE a = 0
  · rw [if_pos h0] at h
    by_cases h1 : D.rdE (a + 1) = 0
    · rw [if_pos h1] at h
      exact ⟨h0, h1, h⟩
    · rw [if_neg h1] at h
      exact absurd h h1
  · rw [if_neg h0] at h
    exact absurd h h0
theorem vl_sec {l0 l1 l2 : List Nat} (h0 : sec l0) (h2 : sec l2) : sec (vl l0 l1 l2) := by
  unfold vl
  split
  · exact h2
  · exact h0
/-- The value lies in one of them. -/
theorem Got.val {w wr : World} {g0 g2 : Nat} {l0 l1 l2 : List Nat} (h0 : Got w wr g0 l0) (h2 : Got w wr g2 l2) : Got w wr (vg l1 l2 g0 g2) (vl l0 l1 l2) := by
  unfold vg vl
  split
  · exact h2
  · exact h0
theorem load_nil (w : World) (a : Int) : Calls Try.prog 34 #[.pointer none, .int .i64 a] w fun e w' => e = .returned (.tuple #[.slice none 0 0, .int .i64 1]) ∧ Below w.heap.size w w' := by
  go_enter Try.func34, Try.ntmps34
  go_wp2_with (go_at_call 61; refine Calls.mono (read3_nil _ _) ?_; rintro e W1 ⟨rfl, hB1⟩)
  exact bodyPost_ret (by simp [results, Try.results34]) rfl ⟨rfl, K.alloc (K.call (Below.refl _ _) hB1) _⟩
theorem load_any {w : World} {b lb mb : Nat} {D : DM} (h : Dsk w b lb mb D) {a : Int} (ha : few9 a) : Calls Try.prog 34 #[pp b, .int .i64 a] w (RdP w (D.ldB a) (D.ldE a)) := by
  have HC := hide (read3_any h ha)
  have HO := hide h.ok
  clear h ha
  by_cases he : D.ldE a = 0
  · obtain ⟨e0, e1, e2⟩ := ld_rd he
    have HS := hide (And.intro (rdB_sec HO.out e0) (And.intro (rdB_sec HO.out e1) (rdB_sec HO.out e2)))
    have HV := hide (ldB_of he)
    have HE := hide he
    clear e0 e1 e2
    rw [he]
    clear he
    go_enter Try.func34, Try.ntmps34
    go_wp2_with (first
      | (go_at_call 61; refine Calls.mono HC.out ?_; rintro e W1 ⟨hB1, hR⟩; rw [if_pos HE.out] at hR; obtain ⟨g0, g1, g2, rfl, G0, G1, G2⟩ := hR; have HB1 := hide hB1; have HG := hide (And.intro G0 (And.intro G1 G2)); clear hB1 G0 G1 G2)
      | (go_at_call 64; refine Calls.mono (value_any (HG.out.2.1.keep (K.alloc (Below.refl _ _) _)).r HS.out.2.1 (HG.out.2.2.keep (K.alloc (Below.refl _ _) _)).r HS.out.2.2) ?_; rintro e W2 ⟨rfl, hB2⟩; have HB2 := hide hB2; clear hB2))
    have hB := K.call (K.alloc (Below.refl W1.heap.size W1) _) HB2.out
    have hG := (HG.out.1.val (l1 := D.rdB (a + 1)) HG.out.2.2).keep hB
    rw [← HV.out] at hG
    have hl : (D.ldB a).length = 64 := by rw [HV.out]; exact (vl_sec HS.out.1 HS.out.2.2).1
    exact bodyPost_ret (by simp [results, Try.results34]; rfl) rfl ⟨_, rfl, Or.inr ⟨_, by rw [hl], hG.ge, hG.lt, hG.r⟩, K.call HB1.out hB⟩
  · have HE := hide he
    have HV := hide (ldB_not he)
    have hne : (D.ldE a != 0) = true := by simp [he]
    have hne' : (D.ldE a == 0) = false := by simp [he]
    clear he
    go_enter Try.func34, Try.ntmps34
    go_wp2_with (first
      | (go_at_call 61; refine Calls.mono HC.out ?_; rintro e W1 ⟨hB1, hR⟩; rw [if_neg HE.out] at hR; obtain ⟨p0, n0, c0, p1, n1, c1, p2, n2, c2, rfl⟩ := hR; have HB1 := hide hB1; clear hB1))
    exact bodyPost_ret (by simp [results, Try.results34]) rfl ⟨_, rfl, Or.inl ⟨HV.out, rfl⟩, K.alloc HB1.out _⟩
end Go.Proofs.Ytjgpopjpmfkfmaa
