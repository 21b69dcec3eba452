/- Layer 15: the mark's value; the sectors of an entry. -/
import Derived.Test.YtjgpopjpmfkfmaaP15B
import Derived.Test.YtjgpopjpmfkfmaaP15A
namespace Go.Proofs.Ytjgpopjpmfkfmaa
open Go.RowKit Go.Maps
attribute [local go_sem ↓] Go.wp_at_zero Go.wp_at_succ

def oU (k : Nat) : Obj := .cells (madeCells #[.int .u8 0] k) 5
theorem run_mkU (w : World) (k : Nat) (hk : k ≤ 100000) : (Instr.makeSlice 38 (.int .i64 (k : Int)) (.int .i64 (k : Int))).run Try.prog w = .ok (.slice (some ⟨w.heap.size, 0, none⟩) k k) (w.alloc (oU k)) := by
  obtain ⟨i0, hi, hz0, hz1, hz2⟩ := info_parts info8
  have hr := run_make (P := Try.prog) w 38 5 i0 (.int .u8 0) Try.underlying38 hi hz0 .i64 .i64 k k (by omega) (by omega) (by rw [hz2]; omega) (by omega)
  rw [hz1, Nat.mul_one] at hr
  exact hr
/-- Noughts that are made. -/
theorem wpList_mkU {w : World} {ops : Array Oper} {rest : List Oper} {o : Oper} {a : Act} {Q : Exit → Act → World → Prop} (hgd : o.guard = none) (l c : Operand) (hop : o.op = Op.makeSlice 38 l c) {k : Nat} {x : Int} (hl : a.eval l = .int .i64 x) (hc : a.eval c = .int .i64 x) (hx : x = (k : Int)) (hk : k ≤ 100000)
    (hK : ∀ w', Below w.heap.size w w' → w.heap.size < w'.heap.size → Rw w' w.heap.size k (fun _ => 0) → wpList Try.prog ops Q rest (a.put o.dst (.slice (some ⟨w.heap.size, 0, none⟩) k k)) w') : wpList Try.prog ops Q (o :: rest) a w := by
  subst hx
  refine wpList_plain hgd fun K' hK' => ?_
  have hrun := run_mkU w k hk
  unfold Oper.wp
  simp only [execOp, hop, hl, hc, hrun, Sem.run_bind, Sem.run_pure, Result.andThen_ok]
  have hh : (w.alloc (oU k)).heap[w.heap.size]? = some (oU k) := heap_alloc_new w _
  refine hK' _ _ (hK _ (K.alloc (Below.refl _ _) _) (by simp) ⟨fun j hj => ?_, fun j hj => ?_, fun _ => by omega⟩)
  · have hm : (madeCells #[.int .u8 0] k)[j]? = some (.int .u8 0) := by simp [madeCells, hj, Nat.mod_one]
    unfold World.cell?
    simp only [hh]
    exact hm
  · unfold World.frozen?
    simp only [hh]
    show (decide (0 ≤ j) && decide (j < 0)) = false
    simp
theorem Kp.new {w w1 w2 : World} {g : Nat} (hB : Below w.heap.size w w1) (hg : w.heap.size ≤ g) (hK : Kp (X1 g) w1 w2) : Below w.heap.size w w2 :=
  ⟨hK.os.trans hB.os, hK.tape.trans hB.tape, hK.output.trans hB.output, Nat.le_trans hB.size hK.size, fun k hk => (hK.block k (Nat.lt_of_lt_of_le hk hB.size) (X1_not (by omega))).trans (hB.block k hk)⟩
theorem val_eq (n u i : Nat) : pt (pt (fun _ => 0) 0 8 (le8 n)) 8 8 (le8 u) i = pz (mkf n u) 16 i := by
  unfold pt pz mkf
  by_cases h1 : i < 8
  · rw [if_neg (by omega), if_pos (by omega), if_pos (by omega), if_pos h1, Nat.sub_zero]
  · by_cases h2 : i < 16
    · rw [if_pos (by omega), if_pos h2, if_neg h1]
    · rw [if_neg (by omega), if_neg (by omega), if_neg h2]
def VaP (w : World) (n u : Nat) (e : Ending) (w' : World) : Prop := ∃ g, e = .returned (s64 g) ∧ w.heap.size ≤ g ∧ g < w'.heap.size ∧ Rw w' g 64 (pz (mkf n u) 16) ∧ Below w.heap.size w w'
set_option maxRecDepth 100000 in
set_option maxHeartbeats 4000000 in
theorem value_n {w : World} {n u : Nat} (hn : n < 9223372036854775808) (hu : u < 9223372036854775808) : Calls Try.prog 67 #[.int .i64 (n : Int), .int .i64 (u : Int)] w (VaP w n u) := by
  go_enter Try.func67, Try.ntmps67
  go_upto_region 2 with (refine wpList_mkU rfl _ _ rfl (k := 64) (x := 64) rfl rfl rfl (by omega) ?_; intro W1 hB1 hl1 hR1; have HB1 := hide hB1; have HR1 := hide hR1; have HL1 := hide hl1; clear hB1 hR1 hl1)
  go_upto_region 3 with (go_at_call 78; refine Calls.mono (putl_n HR1.out (o := 0) (m := 8) (by omega) (by omega) hn) ?_; rintro e W2 ⟨⟨v2, rfl⟩, hR2, hK2⟩; have HR2 := hide hR2; have HK2 := hide hK2; clear hR2 hK2)
  go_wp2_with (go_at_call 78; refine Calls.mono (putl_n HR2.out (o := 8) (m := 8) (by omega) (by omega) hu) ?_; rintro e W3 ⟨⟨v3, rfl⟩, hR3, hK3⟩; have HR3 := hide hR3; have HK3 := hide hK3; clear hR3 hK3)
  go_ret
  refine ⟨_, rfl, Nat.le_refl _, ?_, HR3.out.congr (fun i _ => val_eq n u i) (pz_lt (mkf_lt n u) 16), Kp.new (Kp.new HB1.out (Nat.le_refl _) HK2.out) (Nat.le_refl _) HK3.out⟩
  exact Nat.lt_of_lt_of_le (Nat.lt_of_lt_of_le HL1.out HK2.out.size) HK3.out.size
/-- An entry's bytes as they are written, in a row of pieces. -/
structure SeR (w w' : World) (q cap g : Nat) (f : Nat → Nat) (m : Nat) : Prop where
  o : ∀ j, j < tk m → w'.cell? ⟨q, j, none⟩ = some (pc64 g j)
  qe : w.heap.size ≤ q
  ql : q < w'.heap.size
  ge : w.heap.size ≤ g
  lt : g < w'.heap.size
  r : Rw w' g (64 * tk m) (encf f m)
  k : Below w.heap.size w w'
theorem SeR.kp {X : Nat → Bool} {w w1 w2 : World} {q cap g m : Nat} {f : Nat → Nat} (h : SeR w w1 q cap g f m) (hK : Kp X w1 w2) (hX : ∀ k, w.heap.size ≤ k → X k = false) : (∀ j, j < tk m → w2.cell? ⟨q, j, none⟩ = some (pc64 g j)) ∧ Rw w2 g (64 * tk m) (encf f m) :=
  ⟨fun j hj => (hK.cell (p := ⟨q, j, none⟩) h.ql (hX q h.qe)).trans (h.o j hj), h.r.kp hK h.lt (hX g h.ge)⟩
theorem row_cells {w : World} {base : Nat} {v : Value} {n : Nat} {xs : List Value} (h : w.ownsRow base 38 1 v n xs) (hn : 0 < n) : ∃ q cap, v = .slice (some ⟨q, 0, none⟩) n cap ∧ base ≤ q ∧ q < w.heap.size ∧ ∀ j u, xs[j]? = some u → w.cell? ⟨q, j, none⟩ = some u := by
  have hlen : xs.length = n := by have := h.1; omega
  rcases h.2 with ⟨_, e2⟩ | ⟨g, cap, cur, e, hb, hg, _, _, _, hc⟩
  · omega
  · refine ⟨g, cap, e, hb, (Array.getElem?_eq_some_iff.1 hg).1, fun j u hu => ?_⟩
    have hj : j < n := by have := (List.getElem?_eq_some_iff.1 hu).1; omega
    unfold World.cell?
    simp only [hg]
    rw [← hc, Nat.mul_one, List.getElem?_take, if_pos hj] at hu
    simpa using hu
def SeP (w : World) (f : Nat → Nat) (m : Nat) (e : Ending) (w' : World) : Prop := ∃ q cap g, e = .returned (.slice (some ⟨q, 0, none⟩) (tk m) cap) ∧ SeR w w' q cap g f m
theorem tk_m (m : Nat) : m + 2 ≤ 64 * tk m := by unfold tk; omega
theorem tk_4 {m : Nat} (h : m ≤ 200) : tk m ≤ 4 := by unfold tk; omega
theorem enc_eq {f : Nat → Nat} {m : Nat} (hm : m ≤ 200) (i : Nat) : pt (pt (fun _ => 0) 0 2 (le8 m)) 2 m f i = encf f m i := by
  unfold pt encf pz
  by_cases h0 : i = 0
  · subst h0
    rw [if_neg (by omega), if_pos (by omega), if_pos rfl, Nat.sub_zero]
    show m / 256 ^ 0 % 256 = _
    rw [Nat.pow_zero, Nat.div_one]
  · by_cases h1 : i = 1
    · subst h1
      rw [if_neg (by omega), if_pos (by omega), if_neg (by omega), if_pos rfl]
      show m / 256 ^ 1 % 256 = _
      rw [Nat.pow_one]
      omega
    · rw [if_neg h0, if_neg h1]
      by_cases h2 : i < 2 + m
      · rw [if_pos (by omega), if_pos (by omega)]
      · rw [if_neg (by omega), if_neg (by omega), if_neg (by omega)]
theorem Rw.cpy {w : World} {g N o m : Nat} {f h : Nat → Nat} (r : Rw w g N f) (ho : o + m ≤ N) (hh : ∀ i, h i < 256) : Rw (w.setCells g o (cells8 (fl h m))) g N (pt f o m h) := by
  have hl : (cells8 (fl h m)).length = m := by rw [cells8_len, fl_len]
  refine ⟨fun i hi => ?_, fun i hi => by rw [World.frozen?_setCells]; exact r.z i hi, pt_lt r.l hh⟩
  unfold pt
  by_cases e : o ≤ i ∧ i < o + m
  · rw [if_pos e]
    have h2 := World.rangeAt_setCells_same w g o (cells8 (fl h m)) (fun j hj => ⟨by rw [r.c (o + j) (by omega)]; rfl, r.z (o + j) (by omega)⟩) (i - o) (.int .u8 ((h (i - o) : Nat) : Int)) (by
      rw [cells8_at _ (i - o) (by rw [fl_len]; omega), List.getD_eq_getElem?_getD, fl_at h (by omega)]
      rfl)
    rw [show o + (i - o) = i by omega] at h2
    exact h2
  · rw [if_neg e, World.cell?_setCells_out _ _ _ _ _ (fun _ _ => by rw [hl]; show i < o ∨ o + m ≤ i; omega)]
    exact r.c i hi
/-- Bytes are copied into a row. -/
theorem wpList_cpy {w : World} {ops : Array Oper} {rest : List Oper} {o : Oper} {a : Act} {Q : Exit → Act → World → Prop} (hgd : o.guard = none) (d s : Operand) (hop : o.op = .call { callee := .builtin .copy, args := #[d, s], argTypes := #[38, 38] })
    {g N p n cc m c : Nat} {x : Option Addr} {f h : Nat → Nat} (hd : a.eval d = .slice (some ⟨g, p, none⟩) n cc) (hs : a.eval s = .slice x m c) (hr : Rw w g N f) (hb : BA w x m h) (hm : m ≤ n) (hn : p + n ≤ N)
    (hK : ∀ w', Rw w' g N (pt f p m h) → Kp (X1 g) w w' → wpList Try.prog ops Q rest (a.put o.dst (goInt m)) w') : wpList Try.prog ops Q (o :: rest) a w := by
  refine wpList_plain hgd fun _ hK' => ?_
  have hrun := run_copyB (c := c) (dCap := cc) (b := g) (o := p) hb hm (fun j hj => ⟨by rw [hr.c (p + j) (by omega)]; rfl, hr.z (p + j) (by omega)⟩) o.type
  unfold Oper.wp execOp
  simp only [hop, resolve, invoke, builtin, Sem.run_bind, Sem.run_pure, Result.andThen_ok, List.map_toArray, List.map_cons, List.map_nil, hd, hs, hrun]
  exact hK' _ _ (hK _ (hr.cpy (by omega) hb.lt) (kp_sets g (X1_of g) _ _ _ (Kp.refl _ w)))
set_option maxRecDepth 100000 in
set_option maxHeartbeats 4000000 in
theorem sectors_n {w : World} {x : Option Addr} {m c : Nat} {f : Nat → Nat} (hb : BA w x m f) (hm : m ≤ 200) : Calls Try.prog 70 #[.slice x m c] w (SeP w f m) := by
  have HB := hide hb
  have hm9 : m ≤ 1000000000 := by omega
  have ht := tk_4 hm
  have hw : wrap64 ((tk m : Int) * 64) = (tk m : Int) * 64 := w_id (by omega) (by omega)
  clear hb
  go_enter Try.func70, Try.ntmps70
  go_upto_region 2 with (first
    | (go_at_call 46; refine Calls.mono (takes_n hm9) ?_; rintro e w ⟨rfl, rfl⟩)
    | (refine wpList_mkU rfl _ _ rfl (k := 64 * tk m) (x := (tk m : Int) * 64) (by rfl) (by rfl) (by omega) (by omega) ?_; intro W1 hB1 hl1 hR1; have HB1 := hide hB1; have HR1 := hide hR1; have HL1 := hide hl1; clear hB1 hR1 hl1))
  have HBa : Hid (BA W1 x m f) := HB.out.keep HB1.out
  have hle : (2 : Int) ≤ ((64 * tk m : Nat) : Int) := by have := tk_m m; omega
  have htm := tk_m m
  go_upto_region 3 with (go_at_call 78; refine Calls.mono (putl_n HR1.out (o := 0) (m := 2) (by omega) (by omega) (n := m) (by omega)) ?_; rintro e W2 ⟨⟨v2, rfl⟩, hR2, hK2⟩; have HR2 := hide hR2; have HK2 := hide hK2; clear hR2 hK2)
  have HB2 : Hid (Below w.heap.size w W2) := Kp.new HB1.out (Nat.le_refl _) HK2.out
  have HBb : Hid (BA W2 x m f) := HB.out.keep HB2.out
  have hne : ¬ (64 * tk m = 2) := by omega
  go_upto_region 4 with (refine wpList_cpy rfl _ _ rfl (p := 2) (n := 64 * tk m - 2) (N := 64 * tk m) rfl rfl HR2.out HBb.out (by omega) (by omega) ?_; intro W3 hR3 hK3; have HR3 := hide (hR3.congr (fun i _ => enc_eq hm i) (encf_lt HB.out.lt hm)); have HK3 := hide hK3; clear hR3 hK3)
  have HB3 : Hid (Below w.heap.size w W3) := Kp.new HB2.out (Nat.le_refl _) HK3.out
  have HL3 : Hid (w.heap.size < W3.heap.size) := Nat.lt_of_lt_of_le (Nat.lt_of_lt_of_le HL1.out HK2.out.size) HK3.out.size
  have HCl : Hid (Calls Try.prog 79 #[.func (.func 85) #[] #[.pointer (some ⟨W3.heap.size, 0, none⟩), .pointer (some ⟨W3.heap.size + 1, 0, none⟩)]] ((W3.alloc (.cells #[.slice (some ⟨w.heap.size, 0, none⟩) (64 * tk m) (64 * tk m)] 38)).alloc (.cells #[.int .i64 64] 3)) (ClP ((W3.alloc (.cells #[.slice (some ⟨w.heap.size, 0, none⟩) (64 * tk m) (64 * tk m)] 38)).alloc (.cells #[.int .i64 64] 3)) w.heap.size (tk m))) := by
    have b1 := Boxed.new W3 38 (.slice (some ⟨w.heap.size, 0, none⟩) (64 * tk m) (64 * tk m))
    have b2 := Boxed.new (W3.alloc (.cells #[.slice (some ⟨w.heap.size, 0, none⟩) (64 * tk m) (64 * tk m)] 38)) 3 (.int .i64 64)
    rw [World.size_alloc] at b2
    exact collect_any (by omega) (by simp; omega) (by simp) (b1.alloc _).cell b2.cell
  go_wp2_with (first
    | (go_at_call 80; refine Calls.mono (chunk_any _) ?_; rintro e W4 ⟨rfl, rfl⟩)
    | (go_at_call 79; refine Calls.mono HCl.out ?_; rintro e W5 ⟨v5, rfl, ho5, hB5⟩; have HO5 := hide ho5; have HB5 := hide hB5; clear ho5 hB5))
  go_ret
  obtain ⟨q, cap, rfl, h1, h2, h3⟩ := row_cells HO5.out (tk_pos m)
  have hB4 : Below W3.heap.size W3 W5 := ((K.alloc (K.alloc (Below.refl _ W3) _) _).trans (HB5.out.mono (by simp; omega)))
  have hsz : W3.heap.size ≤ q := by simp at h1; omega
  refine ⟨q, cap, w.heap.size, rfl, fun j hj => h3 j _ (by simp [hj]), Nat.le_trans (Nat.le_of_lt HL3.out) hsz, h2, Nat.le_refl _, Nat.lt_of_lt_of_le HL3.out hB4.size, HR3.out.keep hB4 HL3.out, HB3.out.trans (hB4.mono (Nat.le_of_lt HL3.out))⟩
end Go.Proofs.Ytjgpopjpmfkfmaa
