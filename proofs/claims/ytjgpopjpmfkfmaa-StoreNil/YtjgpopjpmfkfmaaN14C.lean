/- Layer 14: Save. -/
import Derived.Test.YtjgpopjpmfkfmaaN14B
namespace Go.Proofs.Ytjgpopjpmfkfmaa
set_option maxRecDepth 100000
open Go.RowKit Go.Maps
attribute [local go_sem ↓] Go.wp_at_zero Go.wp_at_succ

/-- Bytes, with noughts behind them. -/
def pz (f : Nat → Nat) (m i : Nat) : Nat := if i < m then f i else 0
def pd (f : Nat → Nat) (m : Nat) : List Nat := fl (pz f m) 64
theorem pd_sec {f : Nat → Nat} (h : ∀ i, f i < 256) (m : Nat) : sec (pd f m) := by
  refine ⟨fl_len _ _, fun x hx => ?_⟩
  obtain ⟨i, _, rfl⟩ := List.mem_map.1 hx
  unfold pz
  split
  · exact h i
  · omega
theorem Dsk.out {w : World} {b lb mb : Nat} {D : DM} (h : Dsk w b lb mb D) {g : Nat} (hg : w.heap.size ≤ g) : X3 b lb mb g = false := by
  cases hx : X3 b lb mb g with
  | false => rfl
  | true =>
    have h1 := h.bl
    have h2 := h.ll
    have h3 := h.mp.lt
    rcases X3_of.1 hx with e | e | e <;> omega
theorem run_copyB {W : World} {b o dLen dCap n c : Nat} {x : Option Addr} {g : Nat → Nat} (hx : BA W x n g) (hk : n ≤ dLen) (ht : W.there b o n) (ty : TypeId) :
    (Builtin.copy_ #[38, 38] ty #[.slice (some ⟨b, o, none⟩) dLen dCap, .slice x n c]).run Try.prog W = .ok (goInt n) (W.setCells b o (cells8 (fl g n))) := by
  have hl : (cells8 (fl g n)).length = n := by rw [cells8_len, fl_len]
  rcases hx.at_ with h0 | ⟨xb, xo, rfl, hr⟩
  · subst h0
    exact run_copy_none (P := Try.prog) W 38 38 ty 5 (some ⟨b, o, none⟩) x dLen dCap 0 c Try.underlying38 (by kernel_rfl) (Nat.zero_min _)
  · have h := run_copy_cells (P := Try.prog) W 38 38 ty 5 b o dLen dCap ⟨xb, xo, none⟩ n c (cells8 (fl g n)) Try.underlying38 (by kernel_rfl) (by rw [hl]; exact (Nat.min_eq_left hk).symm) (fun j v hv => by
      have hj : j < n := by
        rcases Nat.lt_or_ge j n with h' | h'
        · exact h'
        · rw [List.getElem?_eq_none (by rw [hl]; exact h')] at hv; cases hv
      rw [cells8_at _ j (by rw [fl_len]; exact hj), List.getD_eq_getElem?_getD, fl_at g hj] at hv
      rw [Addr.add_mid, hr.c j hj]
      simpa using hv) (fun j hj => (ht j (by rw [hl] at hj; exact hj)).1) (fun j hj => (ht j (by rw [hl] at hj; exact hj)).2) (cells8_one _)
    rw [hl] at h
    exact h
theorem o64_there (w : World) : (w.alloc o64).there w.heap.size 0 64 ∧ ∀ j, j < 64 → (w.alloc o64).cell? ⟨w.heap.size, j, none⟩ = some (.int .u8 0) := by
  have hh : (w.alloc o64).heap[w.heap.size]? = some o64 := heap_alloc_new w _
  have key : ∀ j, j < 64 → (w.alloc o64).cell? ⟨w.heap.size, j, none⟩ = some (.int .u8 0) := fun j hj => by
    have hm : (madeCells #[.int .u8 0] 64)[j]? = some (.int .u8 0) := by simp [madeCells, hj, Nat.mod_one]
    unfold World.cell?
    simp only [hh]
    exact hm
  refine ⟨fun j hj => ⟨by rw [Nat.zero_add, key j hj]; rfl, ?_⟩, key⟩
  unfold World.frozen?
  simp only [hh]
  show (decide (0 ≤ 0 + j) && decide (0 + j < 0)) = false
  simp
/-- Noughts are made, and bytes are put into them. -/
theorem pad_range {w : World} {f : Nat → Nat} {m : Nat} (hm : m ≤ 64) : ((w.alloc o64).setCells w.heap.size 0 (cells8 (fl f m))).rangeAt w.heap.size 0 (cells8 (pd f m)) := fun j v hv => by
  have hlen : (cells8 (pd f m)).length = 64 := by rw [cells8_len]; exact fl_len _ _
  have hj : j < 64 := by
    rcases Nat.lt_or_ge j 64 with h' | h'
    · exact h'
    · rw [List.getElem?_eq_none (by rw [hlen]; exact h')] at hv; cases hv
  have hv' : v = .int .u8 ((pz f m j : Nat) : Int) := by
    rw [cells8_at _ j (by unfold pd; rw [fl_len]; exact hj)] at hv
    have hx : (pd f m).getD j 0 = pz f m j := by
      rw [List.getD_eq_getElem?_getD]
      unfold pd
      rw [fl_at _ hj]
      rfl
    rw [hx] at hv
    exact (Option.some.inj hv).symm
  rw [hv']
  have ht := (o64_there w).1
  have hl : (cells8 (fl f m)).length = m := by rw [cells8_len, fl_len]
  by_cases h : j < m
  · have h2 := World.rangeAt_setCells_same (w.alloc o64) w.heap.size 0 (cells8 (fl f m)) (fun i hi => ht i (by omega)) j (.int .u8 ((f j : Nat) : Int)) (by
      rw [cells8_at _ j (by rw [fl_len]; exact h), List.getD_eq_getElem?_getD, fl_at f h]
      rfl)
    rw [h2]
    unfold pz
    rw [if_pos h]
  · rw [World.cell?_setCells_out _ _ _ _ _ (fun _ _ => Or.inr (by rw [hl]; show 0 + m ≤ 0 + j; omega))]
    rw [Nat.zero_add, (o64_there w).2 j hj]
    unfold pz
    rw [if_neg h]
    rfl
theorem wpList_copyP {w : World} {ops : Array Oper} {rest : List Oper} {op : Oper} {a : Act} {Q : Exit → Act → World → Prop} (hgd : op.guard = none) (d s : Operand)
    (ho : op.op = .call { callee := .builtin .copy, args := #[d, s], argTypes := #[38, 38] })
    {n c : Nat} {x : Option Addr} {f : Nat → Nat} (hd : a.eval d = s64 w.heap.size) (hs : a.eval s = .slice x n c) (hx : BA (w.alloc o64) x n f) (hn : n ≤ 64)
    (h : ∀ w', Below w.heap.size w w' → w.heap.size < w'.heap.size → w'.rangeAt w.heap.size 0 (cells8 (pd f n)) → wpList Try.prog ops Q rest (a.put op.dst (goInt n)) w') : wpList Try.prog ops Q (op :: rest) a (w.alloc o64) := by
  refine wpList_plain hgd fun _ hK => ?_
  have hr := run_copyB (c := c) (dCap := 64) (b := w.heap.size) (o := 0) hx hn (fun j hj => (o64_there w).1 j (by omega)) op.type
  unfold Oper.wp execOp
  simp only [ho, resolve, invoke, builtin, Sem.run_bind, Sem.run_pure, Result.andThen_ok, List.map_toArray, List.map_cons, List.map_nil, hd, hs, hr]
  exact hK _ _ (h _ (below_sets _ (Nat.le_refl _) _ _ _ (K.alloc (Below.refl _ _) _)) (by rw [size_sets]; simp) (pad_range hn))
/-- What Save leaves, and answers. -/
def DM.saveD (D : DM) (a : Int) (f : Nat → Nat) (m : Nat) : DM := if 64 < m then D else if D.ldE a = 0 then (sv D a (pd f m) 3).1 else D
def DM.saveE (D : DM) (a : Int) (f : Nat → Nat) (m : Nat) : Int := if 64 < m then 1 else if D.ldE a = 0 then (sv D a (pd f m) 3).2 else D.ldE a
/-- While the three are written. -/
structure SvR (w wr : World) (b lb mb g : Nat) (D : DM) (a : Int) (l : List Nat) (i : Nat) : Prop where
  d : Dsk wr b lb mb (sv D a l i).1
  k : Kp (X3 b lb mb) w wr
  r : wr.rangeAt g 0 (cells8 l)
  lt : g < wr.heap.size
  x : X3 b lb mb g = false
  e : (sv D a l i).2 = 0
theorem Kp.range {X : Nat → Bool} {w w' : World} (h : Kp X w w') {g : Nat} {cs : List Value} (hr : w.rangeAt g 0 cs) (hl : g < w.heap.size) (hx : X g = false) : w'.rangeAt g 0 cs := fun j v hv => (h.cell (p := ⟨g, 0 + j, none⟩) hl hx).trans (hr j v hv)
set_option maxRecDepth 100000 in
set_option maxHeartbeats 8000000 in
theorem save_any {w : World} {b lb mb : Nat} {D : DM} (h : Dsk w b lb mb D) {a : Int} (ha : few9 a) {z : Option Addr} {m c : Nat} {f : Nat → Nat} (hb : BA w z m f) :
    Calls Try.prog 73 #[pp b, .int .i64 a, .slice z m c] w (WrP w b lb mb (D.saveD a f m) (D.saveE a f m)) := by
  have HD := hide h
  have HA := hide ha
  have HB := hide hb
  have HC := hide (read3_any h ha)
  have hmk := run_mk64
  clear h ha hb
  by_cases hm : 64 < m
  · have e1 : D.saveD a f m = D := if_pos hm
    have e2 : D.saveE a f m = 1 := if_pos hm
    rw [e1, e2]
    have hm' : (64 : Int) < (m : Int) := by omega
    clear e1 e2
    go_enter Try.func73, Try.ntmps73
    go_wp2_with fail
    go_ret
    exact ⟨rfl, HD.out, Kp.refl _ _⟩
  · have hm' : decide ((64 : Int) < (m : Int)) = false := decide_eq_false (by omega)
    have hm64 : m ≤ 64 := by omega
    by_cases he : D.ldE a = 0
    · have e1 : D.saveD a f m = (sv D a (pd f m) 3).1 := (if_neg hm).trans (if_pos he)
      have e2 : D.saveE a f m = (sv D a (pd f m) 3).2 := (if_neg hm).trans (if_pos he)
      rw [e1, e2]
      have HE := hide he
      have HL := hide (pd_sec HB.out.lt m)
      obtain ⟨l, hl⟩ : ∃ l, l = pd f m := ⟨_, rfl⟩
      rw [← hl] at HL
      rw [← hl]
      have HLl := hide hl
      clear e1 e2 he hm hl
      go_enter Try.func73, Try.ntmps73
      go_upto_region 6 with (first
        | (go_at_call 61; refine Calls.mono HC.out ?_; rintro e W1 ⟨hB1, hR⟩; rw [if_pos HE.out] at hR; obtain ⟨g0, g1, g2, rfl, G0, G1, G2⟩ := hR; have HB1 := hide hB1; clear hB1 G0 G1 G2))
      have HBX := hide (K.alloc HB1.out (.cells #[s64 g0, s64 g1, s64 g2] 102))
      refine wp_let (fun X hX => ?_)
      rw [← hX] at HBX
      clear hX HB1
      go_wp2_with (first
        | (go_at_call 62; refine Calls.mono (places_any _ HA.out) ?_; rintro e W2 ⟨rfl, hB2⟩; have HB2 := hide hB2; clear hB2)
        | (refine wpList_copyP rfl _ _ rfl (by rfl) (by rfl) (HB.out.keep (K.alloc HBX.out _)) hm64 ?_; rw [← HLl.out]; intro W4 hB4 hl4 hr4; have H4 := hide (And.intro hB4 (And.intro hl4 hr4)); clear hB4 hl4 hr4))
      have HS : Hid (SvR w W2 b lb mb X.heap.size D a l 0) := ⟨HD.out.keep (K.call (K.call HBX.out H4.out.1) HB2.out), Kp.of (K.call (K.call HBX.out H4.out.1) HB2.out), fun j v hv => later HB2.out (H4.out.2.2 j v hv), Nat.lt_of_lt_of_le H4.out.2.1 HB2.out.size, HD.out.out HBX.out.size, rfl⟩
      obtain ⟨g, hg⟩ : ∃ g, g = X.heap.size := ⟨_, rfl⟩
      rw [← hg] at HS
      rw [← hg]
      clear hg H4 HB2 HBX
      go_loopg [31] 3 (fun g' s31 wr => ∃ i : Nat, g' = 3 - i ∧ i ≤ 3 ∧ s31 = .int .i64 (i : Int) ∧ SvR w wr b lb mb g D a l i)
      case atStart => exact ⟨0, rfl, by omega, rfl, HS.out⟩
      case round =>
        clear HS
        obtain ⟨i, rfl, hi3, rfl, hR⟩ := hrel
        have HR := hide hR
        clear hR
        by_cases hlt : i < 3
        · have hlt' : (i : Int) < 3 := by omega
          have hf := fl_of HL.out.1
          have HP := hide (put_any (c := 64) HR.out.d (a + (i : Int)) (ba_sec HR.out.r HL.out) (fun _ p hp => by cases hp; exact HR.out.x))
          rw [hf] at HP
          have HN : Hid (sv D a l (i + 1) = ((sv D a l i).1.ws (a + (i : Int)) l, (sv D a l i).1.wsE (a + (i : Int)) l)) := if_pos HR.out.e
          clear hf
          by_cases he : (sv D a l i).1.wsE (a + (i : Int)) l = 0
          · have HE2 := hide he
            rw [he] at HP
            clear he
            go_wp2_with (first
              | (refine wpList_idx3 rfl _ _ rfl (by rfl) (by rfl) hlt ?_)
              | (go_at_call 65; refine Calls.mono HP.out ?_; rintro e W5 ⟨rfl, hD5, hK5⟩; have H5 := hide (And.intro hD5 hK5); clear hD5 hK5))
            go_roundg (3 - (i + 1))
            case measure => omega
            case rel => exact ⟨i + 1, rfl, by omega, by simp, by
              obtain ⟨hD5, hK5⟩ := H5.out
              refine ⟨?_, HR.out.k.trans hK5, hK5.range HR.out.r HR.out.lt HR.out.x, Nat.lt_of_lt_of_le HR.out.lt hK5.size, HR.out.x, ?_⟩
              · rw [HN.out]; exact hD5
              · rw [HN.out]; exact HE2.out⟩
          · have hne : ((sv D a l i).1.wsE (a + (i : Int)) l != 0) = true := by simp [he]
            have hne' : ((sv D a l i).1.wsE (a + (i : Int)) l == 0) = false := by simp [he]
            have HE2 := hide he
            clear he
            go_wp2_with (first
              | (refine wpList_idx3 rfl _ _ rfl (by rfl) (by rfl) hlt ?_)
              | (go_at_call 65; refine Calls.mono HP.out ?_; rintro e W5 ⟨rfl, hD5, hK5⟩; have H5 := hide (And.intro hD5 hK5); clear hD5 hK5))
            go_ret
            have e3 : sv D a l 3 = sv D a l (i + 1) := sv_err (by rw [HN.out]; exact HE2.out) 3 (by omega)
            rw [HN.out] at e3
            rw [e3]
            exact ⟨rfl, H5.out.1, HR.out.k.trans H5.out.2⟩
        · obtain rfl : i = 3 := by omega
          go_wp2_with fail
          go_ret
          exact ⟨by rw [HR.out.e]; rfl, HR.out.d, HR.out.k⟩
    · have e1 : D.saveD a f m = D := (if_neg hm).trans (if_neg he)
      have e2 : D.saveE a f m = D.ldE a := (if_neg hm).trans (if_neg he)
      rw [e1, e2]
      have hne : (D.ldE a != 0) = true := by simp [he]
      have hne' : (D.ldE a == 0) = false := by simp [he]
      have HE := hide he
      clear e1 e2 he hm
      go_enter Try.func73, Try.ntmps73
      go_wp2_with (first
        | (go_at_call 61; refine Calls.mono HC.out ?_; rintro e W1 ⟨hB1, hR⟩; rw [if_neg HE.out] at hR; obtain ⟨p0, n0, c0, p1, n1, c1, p2, n2, c2, rfl⟩ := hR; have HB1 := hide hB1; clear hB1))
      go_ret
      exact ⟨rfl, HD.out.keep (K.alloc HB1.out _), Kp.of (K.alloc HB1.out _)⟩
theorem save_nil (w : World) (a : Int) (z : Option Addr) (m c : Nat) : Calls Try.prog 73 #[.pointer none, .int .i64 a, .slice z m c] w fun e w' => e = .returned (.int .i64 1) ∧ Below w.heap.size w w' := by
  by_cases hm : 64 < m
  · have hm' : (64 : Int) < (m : Int) := by omega
    go_enter Try.func73, Try.ntmps73
    go_wp2_with fail
    go_ret
    exact ⟨rfl, Below.refl _ _⟩
  · have hm' : decide ((64 : Int) < (m : Int)) = false := decide_eq_false (by omega)
    go_enter Try.func73, Try.ntmps73
    go_wp2_with (go_at_call 61; refine Calls.mono (read3_nil _ _) ?_; rintro e W1 ⟨rfl, hB1⟩)
    go_ret
    exact ⟨rfl, K.alloc (K.call (Below.refl _ _) hB1) _⟩
end Go.Proofs.Ytjgpopjpmfkfmaa
