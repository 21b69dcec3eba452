/- Layer 18's laws: literals of hashes, lists that are the same, what is answered. Layer 18: the program's own Path. Layer 18: the program's own Proof. Layer 18's laws: awake. ProofPaths. -/
import Derived.Test.YteplklbpehkdjaaDoorMQ08
namespace Go.Proofs.YteplklbpehkdjaaDoor
set_option maxRecDepth 100000
open Go.RowKit
attribute [local go_sem ↓] Go.wp_at_zero Go.wp_at_succ

/-- A literal of an array or a struct whose cells are told. -/
theorem wpList_buildC {w : World} {ops : Array Oper} {rest : List Oper} {op : Oper} {a : Act} {Q : Exit → Act → World → Prop} (hw : Region.wanted op (yielded ops a.tmps) = true) (t : TypeId) (parts : Array (Nat × Operand)) (ho : op.op = .build t parts) (cells : Array Value)
    (hb : Tryd.prog.built t (parts.map fun (i, x) => (i, a.eval x)).toList = some cells) (h : wpList Tryd.prog ops Q rest (a.put op.dst (.agg cells)) w) : wpList Tryd.prog ops Q (op :: rest) a w := by
  refine wpList_step fun K hK => ?_
  rw [if_pos hw]
  refine wp_build t parts ho (by rw [hb]; rfl) ?_
  rw [hb]
  exact hK _ _ h
theorem wpList_load_g {w : World} {ops : Array Oper} {rest : List Oper} {op : Oper} {a : Act} {Q : Exit → Act → World → Prop} (hw : Region.wanted op (yielded ops a.tmps) = true) (x : Operand) (hop : op.op = Op.load 32 x) {g off : Nat} {f : Nat → Nat} (hx : a.eval x = .pointer (some ⟨g, off, none⟩)) (ht : w.rangeAt g off (ab f 32))
    (h : wpList Tryd.prog ops Q rest (a.put op.dst (.agg (ab f 32).toArray)) w) : wpList Tryd.prog ops Q (op :: rest) a w := by
  refine wpList_step fun K hK => ?_
  rw [if_pos hw]
  exact wp_load_mid 32 x hop g off hx (ab f 32) _ ht Tryd.underlying32 rfl (ilH _) (hK _ _ h)
/-- The hash whose first byte is k. -/
def hk (k : Nat) : Nat → Nat := fun i => if i = 0 then k else 0
theorem hk_lt {k : Nat} (h : k < 256) (i : Nat) : hk k i < 256 := by unfold hk; split <;> omega
theorem hk1_build : Tryd.prog.built 32 [(0, .int .u8 1)] = some (ab (hk 1) 32).toArray := by kernel_rfl
theorem hk2_build : Tryd.prog.built 32 [(0, .int .u8 2)] = some (ab (hk 2) 32).toArray := by kernel_rfl
theorem wpList_hk1 {w : World} {ops : Array Oper} {rest : List Oper} {op : Oper} {a : Act} {Q : Exit → Act → World → Prop} (hw : Region.wanted op (yielded ops a.tmps) = true) (ho : op.op = .build 32 #[(0, .const (.int .u8 1))])
    (h : wpList Tryd.prog ops Q rest (a.put op.dst (.agg (ab (hk 1) 32).toArray)) w) : wpList Tryd.prog ops Q (op :: rest) a w :=
  wpList_buildC hw 32 _ ho _ (by simp only [List.map_toArray, List.map_cons, List.map_nil]; exact hk1_build) h
theorem wpList_hk2 {w : World} {ops : Array Oper} {rest : List Oper} {op : Oper} {a : Act} {Q : Exit → Act → World → Prop} (hw : Region.wanted op (yielded ops a.tmps) = true) (ho : op.op = .build 32 #[(0, .const (.int .u8 2))])
    (h : wpList Tryd.prog ops Q rest (a.put op.dst (.agg (ab (hk 2) 32).toArray)) w) : wpList Tryd.prog ops Q (op :: rest) a w :=
  wpList_buildC hw 32 _ ho _ (by simp only [List.map_toArray, List.map_cons, List.map_nil]; exact hk2_build) h
set_option maxRecDepth 100000 in
theorem fillH2 (f g : Nat → Nat) (z : Value) (hz : z = .agg (ab (fun _ => 0) 32).toArray) : Instr.fill (fun i => some (i * 32, 32)) ((Array.range (2 * 32)).map (z.cells[· % z.cells.size]!)) [(0, .agg (ab f 32).toArray), (1, .agg (ab g 32).toArray)] = some (ab f 32 ++ ab g 32).toArray := by
  subst hz
  kernel_rfl
theorem two_lt {f g : Nat → Nat} (hf : ∀ j, f j < 256) (hg : ∀ j, g j < 256) (i j : Nat) : lF [f, g] i j < 256 := lF_lt (fun x hx j => by
  rcases List.mem_cons.1 hx with e | e
  · rw [e]; exact hf j
  · rw [List.mem_singleton] at e; rw [e]; exact hg j) i j
theorem hl_two (w : World) {f g : Nat → Nat} (hf : ∀ i, f i < 256) (hg : ∀ i, g i < 256) : HL (w.alloc (.cells (ab f 32 ++ ab g 32).toArray 32)) (some ⟨w.heap.size, 0, none⟩) 2 (lF [f, g]) := by
  refine ⟨two_lt hf hg, Or.inr ⟨_, _, rfl, fun i hi j v hv => ?_⟩⟩
  have hj : j < 32 := by
    rcases Nat.lt_or_ge j 32 with h' | h'
    · exact h'
    · rw [List.getElem?_eq_none (by rw [ab_len]; exact h')] at hv; cases hv
  rw [cell_of_row _ _ _ _ _ _ (heap_alloc_new w _), List.getElem?_toArray]
  rcases (show i = 0 ∨ i = 1 by omega) with rfl | rfl
  · rw [List.getElem?_append_left (by rw [ab_len]; omega), show 0 + 0 * 32 + j = j by omega]
    exact hv
  · rw [List.getElem?_append_right (by rw [ab_len]; omega), ab_len, show 0 + 1 * 32 + j - 32 = j by omega]
    exact hv
theorem wpList_twoH {w : World} {ops : Array Oper} {rest : List Oper} {op : Oper} {a : Act} {Q : Exit → Act → World → Prop} {x y : Operand} {f g : Nat → Nat} (hgd : op.guard = none) (ho : op.op = .buildSlice 22 2 #[(0, x), (1, y)]) (hx : a.eval x = .agg (ab f 32).toArray) (hy : a.eval y = .agg (ab g 32).toArray) (hf : ∀ i, f i < 256) (hg : ∀ i, g i < 256)
    (h : ∀ p W', p = w.heap.size → HL W' (some ⟨p, 0, none⟩) 2 (lF [f, g]) → Below w.heap.size w W' → wpList Tryd.prog ops Q rest (a.put op.dst (.slice (some ⟨p, 0, none⟩) 2 2)) W') : wpList Tryd.prog ops Q (op :: rest) a w := by
  obtain ⟨ie, hi, hz, hs, _⟩ := info_parts infoHv
  refine wpList_buildSlice hgd 22 32 2 #[(0, x), (1, y)] ho (ab f 32 ++ ab g 32).toArray ie _ Tryd.underlying22 hi hz (by rw [hs]; decide) (by rw [hs]; decide) ?_ (h w.heap.size _ rfl (hl_two w hf hg) (K.alloc (Below.refl _ _) _))
  rw [hs]
  simp only [List.map_toArray, List.map_cons, List.map_nil, hx, hy]
  exact fillH2 f g _ rfl
theorem pth_two (F : Nat → Nat → Nat) : pth F 2 0 = [F 1] := by
  have h : sp 2 = 1 := by decide
  rw [pth_low F (by omega) (by rw [h]; omega), h, pth_small F 0 (by omega), List.nil_append, rt_one]
/-- Two lists that are the same. -/
theorem same_l {W : World} {x y : Option Addr} {k c d : Nat} {L : List (Nat → Nat)} (hx : HL W x k (lF L)) (hy : HL W y k (lF L)) (hn : k ≤ 1000000) :
    Calls Tryd.prog 11 #[.slice x k c, .slice y k d] W fun e w' => e = .returned (.bool true) ∧ Below W.heap.size W w' := by
  have h := refSame_any (c := c) (d := d) hx hy hn
  rw [eqL_same] at h
  simpa using h
theorem same_f {W : World} {x y : Option Addr} {k c d : Nat} {F : Nat → Nat → Nat} (hx : HL W x k F) (hy : HL W y k F) (hn : k ≤ 1000000) :
    Calls Tryd.prog 11 #[.slice x k c, .slice y k d] W fun e w' => e = .returned (.bool true) ∧ Below W.heap.size W w' := by
  have h := refSame_any (c := c) (d := d) hx hy hn
  rw [eqL_same] at h
  simpa using h
theorem hcat_zero (L G : Nat → Nat → Nat) : hcat L 0 G = G := by funext i; unfold hcat; rw [if_neg (by omega), Nat.sub_zero]
theorem mod_n {m : Int} {n : Nat} (hm0 : 0 ≤ m) (hn : 0 < n) : ∃ k : Nat, m.tmod (n : Int) = (k : Int) ∧ k < n := by
  have ht : m.tmod (n : Int) = m % (n : Int) := Int.tmod_eq_emod_of_nonneg hm0
  obtain ⟨k, hk⟩ := Int.eq_ofNat_of_zero_le (Int.emod_nonneg m (show (n : Int) ≠ 0 by omega))
  have h6 := Int.emod_lt_of_pos m (show (0 : Int) < (n : Int) by omega)
  exact ⟨k, ht.trans hk, by rw [hk] at h6; exact Int.ofNat_lt.1 h6⟩
theorem HL.first {w : World} {b o n : Nat} {F : Nat → Nat → Nat} (h : HL w (some ⟨b, o, none⟩) n F) (hn : 0 < n) : w.rangeAt b o (ab (F 0) 32) := by
  rcases h.at_ with h0 | ⟨b', o', e, hr⟩
  · omega
  · cases e
    have := hr 0 hn
    rwa [Nat.zero_mul, Nat.add_zero] at this
theorem HL.ad {w : World} {a : Option Addr} {n : Nat} {F : Nat → Nat → Nat} (h : HL w a n F) (hn : 0 < n) : ∃ b o, a = some ⟨b, o, none⟩ :=
  h.at_.elim (fun e => by omega) fun ⟨b, o, e, _⟩ => ⟨b, o, e⟩
theorem hl_nil (W : World) : HL W none 0 (lF []) := ⟨fun _ _ => by show 0 < 256; omega, Or.inl rfl⟩
/-- What was answered, taken apart. -/
theorem PthP.out {w w' : World} {L : List (Nat → Nat)} {e : Ending} (h : PthP w L e w') (hL : ∀ f ∈ L, ∀ j, f j < 256) : ∃ a c, e = .returned (.tuple #[.slice a L.length c, .int .i64 0]) ∧ HL w' a L.length (lF L) ∧ OH w' w.heap.size (.slice a L.length c) L.length (lF L) ∧ Below w.heap.size w w' := by
  obtain ⟨v, he, ho, hb⟩ := h
  obtain ⟨a, c, rfl, _, _⟩ := ho.form
  exact ⟨a, c, he, ho.hl (lF_lt hL), ho, hb⟩
end Go.Proofs.YteplklbpehkdjaaDoor
namespace Go.Proofs.YteplklbpehkdjaaDoor
set_option maxRecDepth 100000
open Go.RowKit
attribute [local go_sem ↓] Go.wp_at_zero Go.wp_at_succ

theorem wp_oneH {op : Oper} {a : Act} {w : World} {Kt : Act → World → Prop} {Q : Exit → Act → World → Prop} {x : Operand} {f : Nat → Nat} (ho : op.op = .buildSlice 22 1 #[(0, x)]) (hx : a.eval x = .agg (ab f 32).toArray) (hf : ∀ i, f i < 256)
    (h : ∀ p W', HL W' (some ⟨p, 0, none⟩) 1 (fun _ => f) → Below w.heap.size w W' → Kt (a.put op.dst (.slice (some ⟨p, 0, none⟩) 1 1)) W') : Oper.wp Tryd.prog op a w Kt Q := by
  obtain ⟨ie, hi, hz, hs, _⟩ := info_parts infoHv
  refine wp_buildSlice 22 32 1 #[(0, x)] ho (ab f 32).toArray ie _ Tryd.underlying22 hi hz (by rw [hs]; decide) (by rw [hs]; decide) ?_ (h w.heap.size _ (hl_one w f hf) (K.alloc (Below.refl _ _) _))
  rw [hs]
  simp only [List.map_toArray, List.map_cons, List.map_nil, hx]
  exact fillH f _ rfl
/-- A row that was told. -/
def RwP (w : World) (L : List (Nat → Nat)) (e : Ending) (w' : World) : Prop := ∃ v, e = .returned v ∧ OH w' w.heap.size v L.length (lF L) ∧ Below w.heap.size w w'
set_option maxRecDepth 100000 in
set_option maxHeartbeats 8000000 in
theorem path_n : ∀ (n : Nat) {w : World} {x : Option Addr} {c m : Nat} {F : Nat → Nat → Nat}, Tab w → HL w x n F → n ≤ c → c ≤ maxLen → n ≤ 100000 → m < n → Calls Tryd.prog 16 #[.slice x n c, .int .i64 (m : Int)] w (RwP w (pth F n m)) := fun n => by
  induction n using Nat.strongRecOn with
  | ind n ih =>
    intro w x c m F hT hL hc hmx hn hm
    by_cases h2 : n < 2
    · obtain rfl : n = 1 := by omega
      rw [pth_small F m h2]
      clear ih h2
      go_enter Tryd.func16, Tryd.ntmps16
      go_wp2_with fail
      go_ret
      exact ⟨_, rfl, OH.nil _ _ _, Below.refl _ _⟩
    · have k1 := sp_lt (n := n) (by omega)
      have k0 := sp_pos (n := n) (by omega)
      have HSp := hide (fun W => split_any W (k := (n : Int)) (by omega) (by omega))
      rw [Int.toNat_natCast] at HSp
      obtain ⟨k, hk⟩ : ∃ k, sp n = k := ⟨_, rfl⟩
      rw [hk] at HSp k1 k0
      rcases hL.at_ with h5 | ⟨b, o, rfl, _⟩
      · omega
      have hne : ¬ ((n : Int) = 1) := by omega
      have hkn : k < n := k1
      have hkc : k ≤ c := by omega
      have hck : ¬ (c = k) := by omega
      have hkI : (k : Int) ≤ (n : Int) := by omega
      have hkJ : (k : Int) ≤ (c : Int) := by omega
      have HT := hide hT
      have HLs := hide hL
      have HC := hide (And.intro hc hmx)
      have HN := hide (And.intro hn (And.intro hm k0))
      by_cases hmk : m < k
      · have hmk' : (m : Int) < (k : Int) := by omega
        have hlow := pth_low F (n := n) (m := m) (by omega) (by rw [hk]; exact hmk)
        rw [hk] at hlow
        obtain ⟨rr, hrr⟩ : ∃ rr, rt (fun i => F (k + i)) (n - k) = rr := ⟨_, rfl⟩
        have hrl : ∀ j, rr j < 256 := by rw [← hrr]; exact rt_all hL.lt _ _
        obtain ⟨LB, hLB⟩ : ∃ L, pth F k m = L := ⟨_, rfl⟩
        have hnB : LB.length ≤ 1000 + n := by rw [← hLB]; exact Nat.le_trans (pth_len_n k m F) (by omega)
        have HIH := hide (fun W (h : Below w.heap.size w W) => ih k k1 (hT.keep h) ((hL.keep h).head k (by omega)) hkc hmx (by omega) hmk)
        have HRo := hide (fun W (h : Below w.heap.size w W) => root_any (n - k) (c := c - k) (hT.keep h) ((hL.keep h).tail k) (by omega) (by omega) (by omega))
        rw [hLB] at HIH
        unfold hv at HRo
        rw [hrr] at HRo
        rw [hLB, hrr] at hlow
        rw [hlow]
        have HRl := hide hrl
        have HnB := hide hnB
        clear ih hT hL hc hmx hn hm hlow hrl hnB hLB hrr hk h2 hmk k1 k0
        go_enter Tryd.func16, Tryd.ntmps16
        go_upto_region 5 with (go_at_call 21; with_reducible refine Calls.mono (HSp.out _) ?_; rintro e' w' ⟨rfl, hw⟩; replace hw := hw.symm; subst hw)
        refine wp_region_noPanic ?_
        refine wp_region_held_drew (S := fun w' => Below w.heap.size w w') (by kernel_rfl) (Go.Proofs.YteplklbpehkdjaaDoor.K.drew (Below.refl _ w)) (fun hS0 => ?_)
        refine wpAnyH_take (i := 0) (v := .slice (some ⟨b, o, none⟩) n c) rfl (by kernel_rfl) (by kernel_rfl) (by kernel_rfl) (fun _ _ _ h => h) (Or.inl ⟨by rfl, fun w' _ => by go_simp⟩) hS0 ?_
        simp only [Act.put, List.getElem_toArray, List.getElem_cons_zero, List.setIfInBounds_toArray, List.set_cons_zero, List.set_cons_succ]
        refine wpAnyH_take (i := 1) (v := .int .i64 (k : Int)) rfl (by kernel_rfl) (by kernel_rfl) (by kernel_rfl) (fun _ _ _ h => h) (Or.inl ⟨by rfl, fun w' _ => by go_simp⟩) hS0 ?_
        simp only [Act.put, List.getElem_toArray, List.getElem_cons_zero, List.getElem_cons_succ, List.setIfInBounds_toArray, List.set_cons_zero, List.set_cons_succ]
        refine wpAnyH_take (i := 2) (v := .slice (some ⟨b, o, none⟩) k c) rfl (by kernel_rfl) (by kernel_rfl) (by kernel_rfl) (fun _ _ _ h => h) (Or.inl ⟨by rfl, fun w' _ => by go_simp⟩) hS0 ?_
        simp only [Act.put, List.getElem_toArray, List.getElem_cons_zero, List.getElem_cons_succ, List.setIfInBounds_toArray, List.set_cons_zero, List.set_cons_succ]
        refine wpAnyH_take (i := 3) (v := .int .i64 (m : Int)) rfl (by kernel_rfl) (by kernel_rfl) (by kernel_rfl) (fun _ _ _ h => h) (Or.inl ⟨by rfl, fun w' _ => by go_simp⟩) hS0 ?_
        simp only [Act.put, List.getElem_toArray, List.getElem_cons_zero, List.getElem_cons_succ, List.setIfInBounds_toArray, List.set_cons_zero, List.set_cons_succ]
        refine wpAnyH_take (i := 5) (v := .slice (some ⟨b, o, none⟩) n c) rfl (by kernel_rfl) (by kernel_rfl) (by kernel_rfl) (fun _ _ _ h => h) (Or.inl ⟨by rfl, fun w' _ => by go_simp⟩) hS0 ?_
        simp only [Act.put, List.getElem_toArray, List.getElem_cons_zero, List.getElem_cons_succ, List.setIfInBounds_toArray, List.set_cons_zero, List.set_cons_succ]
        refine wpAnyH_take (i := 6) (v := .int .i64 (k : Int)) rfl (by kernel_rfl) (by kernel_rfl) (by kernel_rfl) (fun _ _ _ h => h) (Or.inl ⟨by rfl, fun w' _ => by go_simp⟩) hS0 ?_
        simp only [Act.put, List.getElem_toArray, List.getElem_cons_zero, List.getElem_cons_succ, List.setIfInBounds_toArray, List.set_cons_zero, List.set_cons_succ]
        refine wpAnyH_take (i := 7) (v := .slice (some ⟨b, o + k * 32, none⟩) (n - k) (c - k)) rfl (by kernel_rfl) (by kernel_rfl) (by kernel_rfl) (fun _ _ _ h => h) (Or.inl ⟨by rfl, fun w' _ => by go_simp⟩) hS0 ?_
        simp only [Act.put, List.getElem_toArray, List.getElem_cons_zero, List.getElem_cons_succ, List.setIfInBounds_toArray, List.set_cons_zero, List.set_cons_succ]
        refine wpAnyH_ready (rs := [4]) (by kernel_rfl) (by simp) (AllReadyH.cons rfl (fun Kt hK => ?_) AllReadyH.nil)
        refine wanted_pos rfl ?_
        refine wp_call (R := fun r w' => ∃ a c, r = .slice a LB.length c ∧ OH w' w.heap.size r LB.length (lF LB) ∧ Below w.heap.size w w') (vs := #[.slice (some ⟨b, o, none⟩) k c, .int .i64 (m : Int)]) rfl (by simp only [List.map_toArray, List.map_cons, List.map_nil]; rfl) (by go_simp) (Calls.mono (HIH.out _ hS0) (fun e w' hE => by
          obtain ⟨v, he, ho, hb⟩ := hE
          obtain ⟨a, c, e2, _, _⟩ := ho.form
          subst e2
          exact ⟨_, he, a, c, rfl, OH.le ho hS0.size, K.call hS0 hb⟩)) (fun r W1 hr => ?_)
        obtain ⟨ar, cr, hr, ho, hb⟩ := hr
        subst hr
        have HO1 := hide ho
        have HWr : Hid (Below w.heap.size w W1) := hb
        refine hK.out _ _ hb (fun hS1 => ?_)
        clear hK Kt hb ho
        simp only [Act.put, List.getElem_toArray, List.getElem_cons_zero, List.getElem_cons_succ, List.setIfInBounds_toArray, List.set_cons_zero, List.set_cons_succ]
        refine wpAnyH_ready (rs := [8]) (by kernel_rfl) (by simp) (AllReadyH.cons rfl (fun Kt hK => ?_) AllReadyH.nil)
        refine wanted_pos rfl ?_
        refine wp_call (R := fun r w' => r = .agg (ab rr 32).toArray ∧ OH w' w.heap.size (.slice ar LB.length cr) LB.length (lF LB) ∧ Below w.heap.size w w') (vs := #[.slice (some ⟨b, o + k * 32, none⟩) (n - k) (c - k)]) rfl (by simp only [List.map_toArray, List.map_cons, List.map_nil]; rfl) (by go_simp) (Calls.mono (HRo.out _ hS1) (fun e w' ⟨he, hb⟩ => ⟨_, he, rfl, HO1.out.keep hb, K.call hS1 hb⟩)) (fun r W2 ⟨hr, ho, hb⟩ => ?_)
        subst hr
        have HO2 := hide ho
        refine hK.out _ _ hb (fun hS2 => ?_)
        clear hK Kt hb ho
        simp only [Act.put, List.getElem_toArray, List.getElem_cons_zero, List.getElem_cons_succ, List.setIfInBounds_toArray, List.set_cons_zero, List.set_cons_succ]
        refine wpAnyH_ready (rs := [9]) (by kernel_rfl) (by simp) (AllReadyH.cons rfl (fun Kt hK => ?_) AllReadyH.nil)
        refine wanted_pos rfl ?_
        refine wp_oneH rfl (by rfl) HRl.out (fun p1 W3 hh hb => ?_)
        have HO3 := hide (HO2.out.keep hb)
        have HH3 := hide hh
        refine hK.out _ _ (K.call hS2 hb) (fun hS3 => ?_)
        clear hK Kt hb hh
        simp only [Act.put, List.getElem_toArray, List.getElem_cons_zero, List.getElem_cons_succ, List.setIfInBounds_toArray, List.set_cons_zero, List.set_cons_succ]
        refine wpAnyH_ready (rs := [10]) (by kernel_rfl) (by simp) (AllReadyH.cons rfl (fun Kt hK => ?_) AllReadyH.nil)
        refine wanted_pos rfl ?_
        refine wp_appH _ _ rfl (by rfl) HO3.out (by rfl) HH3.out (by have := HnB.out; have := HN.out.1; omega) hS3.size (fun v4 W4 ho hg => ?_)
        have hb4 := OH.below HO3.out hS3 hg
        have HO4 := hide (OH.snoc ho)
        refine hK.out _ _ hb4 (fun hS4 => ?_)
        clear hK Kt ho hg hb4
        simp only [Act.put, List.getElem_toArray, List.getElem_cons_zero, List.getElem_cons_succ, List.setIfInBounds_toArray, List.set_cons_zero, List.set_cons_succ]
        refine wpAnyH_take (i := 11) (v := v4) rfl (by kernel_rfl) (by kernel_rfl) (by kernel_rfl) (fun _ _ _ h => h) (Or.inl ⟨by rfl, fun w' _ => by go_simp⟩) hS4 ?_
        simp only [Act.put, List.getElem_toArray, List.getElem_cons_zero, List.getElem_cons_succ, List.setIfInBounds_toArray, List.set_cons_zero, List.set_cons_succ]
        refine wpAnyH_done (by kernel_rfl) ?_ _
        refine NoPanic.normal ?_
        go_wp2_with fail
        go_ret
        exact ⟨_, rfl, HO4.out, hS4⟩
      · have hmk' : ¬ ((m : Int) < (k : Int)) := by omega
        obtain ⟨q, hq⟩ : ∃ q, m - k = q := ⟨_, rfl⟩
        have hw : IntKind.i64.wrap ((m : Int) - (k : Int)) = (q : Int) := by rw [IntKind.wrap_i64]; omega
        have hlow := pth_up F (n := n) (m := m) (by omega) (by rw [hk]; exact hmk)
        rw [hk, hq] at hlow
        obtain ⟨rr, hrr⟩ : ∃ rr, rt F k = rr := ⟨_, rfl⟩
        have hrl : ∀ j, rr j < 256 := by rw [← hrr]; exact rt_lt hL.lt _
        obtain ⟨LB, hLB⟩ : ∃ L, pth (fun i => F (k + i)) (n - k) q = L := ⟨_, rfl⟩
        have hnB : LB.length ≤ 1000 + n := by rw [← hLB]; exact Nat.le_trans (pth_len_n _ _ _) (by omega)
        have HIH := hide (fun W (h : Below w.heap.size w W) => ih (n - k) (by omega) (hT.keep h) ((hL.keep h).tail k) (show n - k ≤ c - k by omega) (by omega) (by omega) (show q < n - k by omega))
        have HRo := hide (fun W (h : Below w.heap.size w W) => root_any k (c := c) (hT.keep h) ((hL.keep h).head k (by omega)) hkc hmx (by omega))
        rw [hLB] at HIH
        unfold hv at HRo
        rw [hrr] at HRo
        rw [hLB, hrr] at hlow
        rw [hlow]
        have HRl := hide hrl
        have HnB := hide hnB
        clear ih hT hL hc hmx hn hm hlow hrl hnB hLB hrr hk h2 hmk k1 k0 hq
        go_enter Tryd.func16, Tryd.ntmps16
        go_upto_region 6 with (go_at_call 21; with_reducible refine Calls.mono (HSp.out _) ?_; rintro e' w' ⟨rfl, hw⟩; replace hw := hw.symm; subst hw)
        refine wp_region_noPanic ?_
        refine wp_region_held_drew (S := fun w' => Below w.heap.size w w') (by kernel_rfl) (Go.Proofs.YteplklbpehkdjaaDoor.K.drew (Below.refl _ w)) (fun hS0 => ?_)
        refine wpAnyH_take (i := 0) (v := .slice (some ⟨b, o, none⟩) n c) rfl (by kernel_rfl) (by kernel_rfl) (by kernel_rfl) (fun _ _ _ h => h) (Or.inl ⟨by rfl, fun w' _ => by go_simp⟩) hS0 ?_
        simp only [Act.put, List.getElem_toArray, List.getElem_cons_zero, List.setIfInBounds_toArray, List.set_cons_zero, List.set_cons_succ]
        refine wpAnyH_take (i := 1) (v := .int .i64 (k : Int)) rfl (by kernel_rfl) (by kernel_rfl) (by kernel_rfl) (fun _ _ _ h => h) (Or.inl ⟨by rfl, fun w' _ => by go_simp⟩) hS0 ?_
        simp only [Act.put, List.getElem_toArray, List.getElem_cons_zero, List.getElem_cons_succ, List.setIfInBounds_toArray, List.set_cons_zero, List.set_cons_succ]
        refine wpAnyH_take (i := 2) (v := .slice (some ⟨b, o + k * 32, none⟩) (n - k) (c - k)) rfl (by kernel_rfl) (by kernel_rfl) (by kernel_rfl) (fun _ _ _ h => h) (Or.inl ⟨by rfl, fun w' _ => by go_simp⟩) hS0 ?_
        simp only [Act.put, List.getElem_toArray, List.getElem_cons_zero, List.getElem_cons_succ, List.setIfInBounds_toArray, List.set_cons_zero, List.set_cons_succ]
        refine wpAnyH_take (i := 3) (v := .int .i64 (m : Int)) rfl (by kernel_rfl) (by kernel_rfl) (by kernel_rfl) (fun _ _ _ h => h) (Or.inl ⟨by rfl, fun w' _ => by go_simp⟩) hS0 ?_
        simp only [Act.put, List.getElem_toArray, List.getElem_cons_zero, List.getElem_cons_succ, List.setIfInBounds_toArray, List.set_cons_zero, List.set_cons_succ]
        refine wpAnyH_take (i := 4) (v := .int .i64 (k : Int)) rfl (by kernel_rfl) (by kernel_rfl) (by kernel_rfl) (fun _ _ _ h => h) (Or.inl ⟨by rfl, fun w' _ => by go_simp⟩) hS0 ?_
        simp only [Act.put, List.getElem_toArray, List.getElem_cons_zero, List.getElem_cons_succ, List.setIfInBounds_toArray, List.set_cons_zero, List.set_cons_succ]
        refine wpAnyH_take (i := 5) (v := .int .i64 (q : Int)) rfl (by kernel_rfl) (by kernel_rfl) (by kernel_rfl) (fun _ _ _ h => h) (Or.inl ⟨by rfl, fun w' _ => by go_simp⟩) hS0 ?_
        simp only [Act.put, List.getElem_toArray, List.getElem_cons_zero, List.getElem_cons_succ, List.setIfInBounds_toArray, List.set_cons_zero, List.set_cons_succ]
        refine wpAnyH_take (i := 7) (v := .slice (some ⟨b, o, none⟩) n c) rfl (by kernel_rfl) (by kernel_rfl) (by kernel_rfl) (fun _ _ _ h => h) (Or.inl ⟨by rfl, fun w' _ => by go_simp⟩) hS0 ?_
        simp only [Act.put, List.getElem_toArray, List.getElem_cons_zero, List.getElem_cons_succ, List.setIfInBounds_toArray, List.set_cons_zero, List.set_cons_succ]
        refine wpAnyH_take (i := 8) (v := .int .i64 (k : Int)) rfl (by kernel_rfl) (by kernel_rfl) (by kernel_rfl) (fun _ _ _ h => h) (Or.inl ⟨by rfl, fun w' _ => by go_simp⟩) hS0 ?_
        simp only [Act.put, List.getElem_toArray, List.getElem_cons_zero, List.getElem_cons_succ, List.setIfInBounds_toArray, List.set_cons_zero, List.set_cons_succ]
        refine wpAnyH_take (i := 9) (v := .slice (some ⟨b, o, none⟩) k c) rfl (by kernel_rfl) (by kernel_rfl) (by kernel_rfl) (fun _ _ _ h => h) (Or.inl ⟨by rfl, fun w' _ => by go_simp⟩) hS0 ?_
        simp only [Act.put, List.getElem_toArray, List.getElem_cons_zero, List.getElem_cons_succ, List.setIfInBounds_toArray, List.set_cons_zero, List.set_cons_succ]
        refine wpAnyH_ready (rs := [6]) (by kernel_rfl) (by simp) (AllReadyH.cons rfl (fun Kt hK => ?_) AllReadyH.nil)
        refine wanted_pos rfl ?_
        refine wp_call (R := fun r w' => ∃ a c, r = .slice a LB.length c ∧ OH w' w.heap.size r LB.length (lF LB) ∧ Below w.heap.size w w') (vs := #[.slice (some ⟨b, o + k * 32, none⟩) (n - k) (c - k), .int .i64 (q : Int)]) rfl (by simp only [List.map_toArray, List.map_cons, List.map_nil]; rfl) (by go_simp) (Calls.mono (HIH.out _ hS0) (fun e w' hE => by
          obtain ⟨v, he, ho, hb⟩ := hE
          obtain ⟨a, c, e2, _, _⟩ := ho.form
          subst e2
          exact ⟨_, he, a, c, rfl, OH.le ho hS0.size, K.call hS0 hb⟩)) (fun r W1 hr => ?_)
        obtain ⟨ar, cr, hr, ho, hb⟩ := hr
        subst hr
        have HO1 := hide ho
        have HWr : Hid (Below w.heap.size w W1) := hb
        refine hK.out _ _ hb (fun hS1 => ?_)
        clear hK Kt hb ho
        simp only [Act.put, List.getElem_toArray, List.getElem_cons_zero, List.getElem_cons_succ, List.setIfInBounds_toArray, List.set_cons_zero, List.set_cons_succ]
        refine wpAnyH_ready (rs := [10]) (by kernel_rfl) (by simp) (AllReadyH.cons rfl (fun Kt hK => ?_) AllReadyH.nil)
        refine wanted_pos rfl ?_
        refine wp_call (R := fun r w' => r = .agg (ab rr 32).toArray ∧ OH w' w.heap.size (.slice ar LB.length cr) LB.length (lF LB) ∧ Below w.heap.size w w') (vs := #[.slice (some ⟨b, o, none⟩) k c]) rfl (by simp only [List.map_toArray, List.map_cons, List.map_nil]; rfl) (by go_simp) (Calls.mono (HRo.out _ hS1) (fun e w' ⟨he, hb⟩ => ⟨_, he, rfl, HO1.out.keep hb, K.call hS1 hb⟩)) (fun r W2 ⟨hr, ho, hb⟩ => ?_)
        subst hr
        have HO2 := hide ho
        refine hK.out _ _ hb (fun hS2 => ?_)
        clear hK Kt hb ho
        simp only [Act.put, List.getElem_toArray, List.getElem_cons_zero, List.getElem_cons_succ, List.setIfInBounds_toArray, List.set_cons_zero, List.set_cons_succ]
        refine wpAnyH_ready (rs := [11]) (by kernel_rfl) (by simp) (AllReadyH.cons rfl (fun Kt hK => ?_) AllReadyH.nil)
        refine wanted_pos rfl ?_
        refine wp_oneH rfl (by rfl) HRl.out (fun p1 W3 hh hb => ?_)
        have HO3 := hide (HO2.out.keep hb)
        have HH3 := hide hh
        refine hK.out _ _ (K.call hS2 hb) (fun hS3 => ?_)
        clear hK Kt hb hh
        simp only [Act.put, List.getElem_toArray, List.getElem_cons_zero, List.getElem_cons_succ, List.setIfInBounds_toArray, List.set_cons_zero, List.set_cons_succ]
        refine wpAnyH_ready (rs := [12]) (by kernel_rfl) (by simp) (AllReadyH.cons rfl (fun Kt hK => ?_) AllReadyH.nil)
        refine wanted_pos rfl ?_
        refine wp_appH _ _ rfl (by rfl) HO3.out (by rfl) HH3.out (by have := HnB.out; have := HN.out.1; omega) hS3.size (fun v4 W4 ho hg => ?_)
        have hb4 := OH.below HO3.out hS3 hg
        have HO4 := hide (OH.snoc ho)
        refine hK.out _ _ hb4 (fun hS4 => ?_)
        clear hK Kt ho hg hb4
        simp only [Act.put, List.getElem_toArray, List.getElem_cons_zero, List.getElem_cons_succ, List.setIfInBounds_toArray, List.set_cons_zero, List.set_cons_succ]
        refine wpAnyH_take (i := 13) (v := v4) rfl (by kernel_rfl) (by kernel_rfl) (by kernel_rfl) (fun _ _ _ h => h) (Or.inl ⟨by rfl, fun w' _ => by go_simp⟩) hS4 ?_
        simp only [Act.put, List.getElem_toArray, List.getElem_cons_zero, List.getElem_cons_succ, List.setIfInBounds_toArray, List.set_cons_zero, List.set_cons_succ]
        refine wpAnyH_done (by kernel_rfl) ?_ _
        refine NoPanic.normal ?_
        go_wp2_with fail
        go_ret
        exact ⟨_, rfl, HO4.out, hS4⟩
theorem path_any {w : World} {x : Option Addr} {n c m : Nat} {F : Nat → Nat → Nat} (hT : Tab w) (hx : HL w x n F) (hc : n ≤ c) (hmx : c ≤ maxLen) (hn : n ≤ 100000) (hm : m < n) :
    Calls Tryd.prog 9 #[.slice x n c, .int .i64 (m : Int)] w (PthP w (pth F n m)) := by
  have HP := hide (path_n n hT hx hc hmx hn hm)
  have h1 : ¬ ((m : Int) < 0) := by omega
  have h2 : (m : Int) < (n : Int) := by omega
  clear hT hx hc hmx hn hm
  go_enter Tryd.func9, Tryd.ntmps9
  go_wp2_with (go_at_call 16; refine Calls.mono HP.out ?_; rintro e W1 hp; obtain ⟨v, hv2, ho, hb⟩ := hp; subst hv2; have HO := hide ho; have HB := hide hb; clear ho hb)
  go_ret2
  exact ⟨_, rfl, HO.out, HB.out⟩
theorem path_er {w : World} {x : Option Addr} {n c : Nat} {m : Int} (h : m < 0 ∨ (n : Int) ≤ m) : Calls Tryd.prog 9 #[.slice x n c, .int .i64 m] w (PthE w) := by
  by_cases h0 : m < 0
  · clear h
    go_enter Tryd.func9, Tryd.ntmps9
    go_wp2_with fail
    go_ret2
    exact ⟨rfl, Below.refl _ _⟩
  · have h1 : (n : Int) ≤ m := h.resolve_left h0
    clear h
    go_enter Tryd.func9, Tryd.ntmps9
    go_wp2_with fail
    go_ret2
    exact ⟨rfl, Below.refl _ _⟩
end Go.Proofs.YteplklbpehkdjaaDoor
namespace Go.Proofs.YteplklbpehkdjaaDoor
set_option maxRecDepth 100000
open Go.RowKit
attribute [local go_sem ↓] Go.wp_at_zero Go.wp_at_succ

/-- A row of one hash, as it is made. -/
theorem oh_one (w : World) {base : Nat} (hb : base ≤ w.heap.size) (f : Nat → Nat) : OH (w.alloc (.cells (ab f 32).toArray 32)) base (.slice (some ⟨w.heap.size, 0, none⟩) 1 1) [f].length (lF [f]) := by
  have e : ab f 32 = hc (lF [f]) 1 := by
    apply List.ext_getElem?
    intro i
    rcases Nat.lt_or_ge i 32 with h | h
    · rw [ab_at f h, hc_get _ (n := 1) (by omega), show i / 32 = 0 by omega, show i % 32 = i by omega]
      rfl
    · rw [List.getElem?_eq_none (by rw [ab_len]; exact h), List.getElem?_eq_none (by rw [hc_len]; omega)]
  refine ⟨hc_len _ _, Or.inr ⟨w.heap.size, 1, (ab f 32).toArray, rfl, hb, heap_alloc_new w _, Nat.le_refl _, by unfold maxLen; omega, by simp [ab_len], ?_⟩⟩
  show List.take (1 * 32) (ab f 32) = hc (lF [f]) 1
  rw [← e, List.take_of_length_le (by rw [ab_len]; omega)]
theorem wpList_oneO {ops : Array Oper} {rest : List Oper} {op : Oper} {a : Act} {w : World} {Q : Exit → Act → World → Prop} {x : Operand} {f : Nat → Nat} {base : Nat} (hg : op.guard = none) (ho : op.op = .buildSlice 22 1 #[(0, x)]) (hx : a.eval x = .agg (ab f 32).toArray) (hb : base ≤ w.heap.size)
    (h : ∀ p W', OH W' base (.slice (some ⟨p, 0, none⟩) 1 1) [f].length (lF [f]) → Below w.heap.size w W' → wpList Tryd.prog ops Q rest (a.put op.dst (.slice (some ⟨p, 0, none⟩) 1 1)) W') : wpList Tryd.prog ops Q (op :: rest) a w := by
  obtain ⟨ie, hi, hz, hs, _⟩ := info_parts infoHv
  refine wpList_buildSlice hg 22 32 1 #[(0, x)] ho (ab f 32).toArray ie _ Tryd.underlying22 hi hz (by rw [hs]; decide) (by rw [hs]; decide) ?_ (h w.heap.size _ (oh_one w hb f) (K.alloc (Below.refl _ _) _))
  rw [hs]
  simp only [List.map_toArray, List.map_cons, List.map_nil, hx]
  exact fillH f _ rfl
set_option maxRecDepth 100000 in
set_option maxHeartbeats 8000000 in
theorem proof_n : ∀ (n : Nat) {w : World} {x : Option Addr} {c m : Nat} {b0 : Bool} {F : Nat → Nat → Nat}, Tab w → HL w x n F → n ≤ c → c ≤ maxLen → n ≤ 100000 → 1 ≤ m → m ≤ n → Calls Tryd.prog 18 #[.slice x n c, .int .i64 (m : Int), .bool b0] w (RwP w (prf F n m b0)) := fun n => by
  induction n using Nat.strongRecOn with
  | ind n ih =>
    intro w x c m b0 F hT hL hc hmx hn h1m hm
    by_cases h2 : m = n
    · subst h2
      rw [prf_end F b0 (Or.inl (Nat.le_refl _))]
      clear ih
      cases b0 with
      | true =>
        rw [if_pos rfl]
        go_enter Tryd.func18, Tryd.ntmps18
        go_wp2_with fail
        go_ret
        exact ⟨_, rfl, OH.nil _ _ _, Below.refl _ _⟩
      | false =>
        rw [if_neg (by decide)]
        obtain ⟨rr, hrr⟩ : ∃ rr, rt F m = rr := ⟨_, rfl⟩
        have hro := root_any m (c := c) hT hL hc hmx (by omega)
        unfold hv at hro
        rw [hrr] at hro ⊢
        have HRo := hide hro
        clear hro hT hL hc hmx hn h1m hm hrr
        go_enter Tryd.func18, Tryd.ntmps18
        go_upto_region 4 with fail
        go_wp2_with (first
          | (go_at_call 22; with_reducible refine Calls.mono HRo.out ?_; rintro e W1 ⟨rfl, hb⟩; have HB1 := hide hb; clear hb)
          | (refine wpList_oneO rfl rfl (by rfl) HB1.out.size ?_; intro p2 W2 ho2 hb2; have HO2 := hide ho2; have HB2 := hide (Go.Proofs.YteplklbpehkdjaaDoor.K.call HB1.out hb2); clear ho2 hb2))
        go_ret
        exact ⟨_, rfl, HO2.out, HB2.out⟩
    · have hlt : m < n := by omega
      have h2n : 2 ≤ n := by omega
      have k1 := sp_lt h2n
      have k0 := sp_pos h2n
      have HSp := hide (fun W => split_any W (k := (n : Int)) (by omega) (by omega))
      rw [Int.toNat_natCast] at HSp
      obtain ⟨k, hk⟩ : ∃ k, sp n = k := ⟨_, rfl⟩
      rw [hk] at HSp k1 k0
      rcases hL.at_ with h5 | ⟨b, o, rfl, _⟩
      · omega
      have hne : ¬ ((m : Int) = (n : Int)) := by omega
      have hkn : k < n := k1
      have hkc : k ≤ c := by omega
      have hck : ¬ (c = k) := by omega
      have hkI : (k : Int) ≤ (n : Int) := by omega
      have hkJ : (k : Int) ≤ (c : Int) := by omega
      have HT := hide hT
      have HLs := hide hL
      have HC := hide (And.intro hc hmx)
      have HN := hide (And.intro hn (And.intro hlt k0))
      by_cases hmk : m ≤ k
      · have hmk' : (m : Int) ≤ (k : Int) := by omega
        have hlow := prf_low F (n := n) (m := m) b0 hlt h2n (by rw [hk]; exact hmk)
        rw [hk] at hlow
        obtain ⟨rr, hrr⟩ : ∃ rr, rt (fun i => F (k + i)) (n - k) = rr := ⟨_, rfl⟩
        have hrl : ∀ j, rr j < 256 := by rw [← hrr]; exact rt_all hL.lt _ _
        obtain ⟨LB, hLB⟩ : ∃ L, prf F k m b0 = L := ⟨_, rfl⟩
        have hnB : LB.length ≤ 1000 + n := by rw [← hLB]; exact Nat.le_trans (prf_len_n k m b0 F) (by omega)
        have HIH := hide (fun W (h : Below w.heap.size w W) => ih k k1 (b0 := b0) (hT.keep h) ((hL.keep h).head k (by omega)) hkc hmx (by omega) h1m hmk)
        have HRo := hide (fun W (h : Below w.heap.size w W) => root_any (n - k) (c := c - k) (hT.keep h) ((hL.keep h).tail k) (by omega) (by omega) (by omega))
        rw [hLB] at HIH
        unfold hv at HRo
        rw [hrr] at HRo
        rw [hLB, hrr] at hlow
        rw [hlow]
        have HRl := hide hrl
        have HnB := hide hnB
        clear ih hT hL hc hmx hn hm hlow hrl hnB hLB hrr hk h2 hmk k1 k0 h1m hlt h2n
        go_enter Tryd.func18, Tryd.ntmps18
        go_upto_region 7 with (go_at_call 21; with_reducible refine Calls.mono (HSp.out _) ?_; rintro e' w' ⟨rfl, hw⟩; replace hw := hw.symm; subst hw)
        refine wp_region_noPanic ?_
        refine wp_region_held_drew (S := fun w' => Below w.heap.size w w') (by kernel_rfl) (Go.Proofs.YteplklbpehkdjaaDoor.K.drew (Below.refl _ w)) (fun hS0 => ?_)
        refine wpAnyH_take (i := 0) (v := .slice (some ⟨b, o, none⟩) n c) rfl (by kernel_rfl) (by kernel_rfl) (by kernel_rfl) (fun _ _ _ h => h) (Or.inl ⟨by rfl, fun w' _ => by go_simp⟩) hS0 ?_
        simp only [Act.put, List.getElem_toArray, List.getElem_cons_zero, List.setIfInBounds_toArray, List.set_cons_zero, List.set_cons_succ]
        refine wpAnyH_take (i := 1) (v := .int .i64 (k : Int)) rfl (by kernel_rfl) (by kernel_rfl) (by kernel_rfl) (fun _ _ _ h => h) (Or.inl ⟨by rfl, fun w' _ => by go_simp⟩) hS0 ?_
        simp only [Act.put, List.getElem_toArray, List.getElem_cons_zero, List.getElem_cons_succ, List.setIfInBounds_toArray, List.set_cons_zero, List.set_cons_succ]
        refine wpAnyH_take (i := 2) (v := .slice (some ⟨b, o, none⟩) k c) rfl (by kernel_rfl) (by kernel_rfl) (by kernel_rfl) (fun _ _ _ h => h) (Or.inl ⟨by rfl, fun w' _ => by go_simp⟩) hS0 ?_
        simp only [Act.put, List.getElem_toArray, List.getElem_cons_zero, List.getElem_cons_succ, List.setIfInBounds_toArray, List.set_cons_zero, List.set_cons_succ]
        refine wpAnyH_take (i := 3) (v := .int .i64 (m : Int)) rfl (by kernel_rfl) (by kernel_rfl) (by kernel_rfl) (fun _ _ _ h => h) (Or.inl ⟨by rfl, fun w' _ => by go_simp⟩) hS0 ?_
        simp only [Act.put, List.getElem_toArray, List.getElem_cons_zero, List.getElem_cons_succ, List.setIfInBounds_toArray, List.set_cons_zero, List.set_cons_succ]
        refine wpAnyH_take (i := 4) (v := .bool b0) rfl (by kernel_rfl) (by kernel_rfl) (by kernel_rfl) (fun _ _ _ h => h) (Or.inl ⟨by rfl, fun w' _ => by go_simp⟩) hS0 ?_
        simp only [Act.put, List.getElem_toArray, List.getElem_cons_zero, List.getElem_cons_succ, List.setIfInBounds_toArray, List.set_cons_zero, List.set_cons_succ]
        refine wpAnyH_take (i := 6) (v := .slice (some ⟨b, o, none⟩) n c) rfl (by kernel_rfl) (by kernel_rfl) (by kernel_rfl) (fun _ _ _ h => h) (Or.inl ⟨by rfl, fun w' _ => by go_simp⟩) hS0 ?_
        simp only [Act.put, List.getElem_toArray, List.getElem_cons_zero, List.getElem_cons_succ, List.setIfInBounds_toArray, List.set_cons_zero, List.set_cons_succ]
        refine wpAnyH_take (i := 7) (v := .int .i64 (k : Int)) rfl (by kernel_rfl) (by kernel_rfl) (by kernel_rfl) (fun _ _ _ h => h) (Or.inl ⟨by rfl, fun w' _ => by go_simp⟩) hS0 ?_
        simp only [Act.put, List.getElem_toArray, List.getElem_cons_zero, List.getElem_cons_succ, List.setIfInBounds_toArray, List.set_cons_zero, List.set_cons_succ]
        refine wpAnyH_take (i := 8) (v := .slice (some ⟨b, o + k * 32, none⟩) (n - k) (c - k)) rfl (by kernel_rfl) (by kernel_rfl) (by kernel_rfl) (fun _ _ _ h => h) (Or.inl ⟨by rfl, fun w' _ => by go_simp⟩) hS0 ?_
        simp only [Act.put, List.getElem_toArray, List.getElem_cons_zero, List.getElem_cons_succ, List.setIfInBounds_toArray, List.set_cons_zero, List.set_cons_succ]
        refine wpAnyH_ready (rs := [5]) (by kernel_rfl) (by simp) (AllReadyH.cons rfl (fun Kt hK => ?_) AllReadyH.nil)
        refine wanted_pos rfl ?_
        refine wp_call (R := fun r w' => ∃ a c, r = .slice a LB.length c ∧ OH w' w.heap.size r LB.length (lF LB) ∧ Below w.heap.size w w') (vs := #[.slice (some ⟨b, o, none⟩) k c, .int .i64 (m : Int), .bool b0]) rfl (by simp only [List.map_toArray, List.map_cons, List.map_nil]; rfl) (by go_simp) (Calls.mono (HIH.out _ hS0) (fun e w' hE => by
          obtain ⟨v, he, ho, hb⟩ := hE
          obtain ⟨a, c, e2, _, _⟩ := ho.form
          subst e2
          exact ⟨_, he, a, c, rfl, OH.le ho hS0.size, K.call hS0 hb⟩)) (fun r W1 hr => ?_)
        obtain ⟨ar, cr, hr, ho, hb⟩ := hr
        subst hr
        have HO1 := hide ho
        have HWr : Hid (Below w.heap.size w W1) := hb
        refine hK.out _ _ hb (fun hS1 => ?_)
        clear hK Kt hb ho
        simp only [Act.put, List.getElem_toArray, List.getElem_cons_zero, List.getElem_cons_succ, List.setIfInBounds_toArray, List.set_cons_zero, List.set_cons_succ]
        refine wpAnyH_ready (rs := [9]) (by kernel_rfl) (by simp) (AllReadyH.cons rfl (fun Kt hK => ?_) AllReadyH.nil)
        refine wanted_pos rfl ?_
        refine wp_call (R := fun r w' => r = .agg (ab rr 32).toArray ∧ OH w' w.heap.size (.slice ar LB.length cr) LB.length (lF LB) ∧ Below w.heap.size w w') (vs := #[.slice (some ⟨b, o + k * 32, none⟩) (n - k) (c - k)]) rfl (by simp only [List.map_toArray, List.map_cons, List.map_nil]; rfl) (by go_simp) (Calls.mono (HRo.out _ hS1) (fun e w' ⟨he, hb⟩ => ⟨_, he, rfl, HO1.out.keep hb, K.call hS1 hb⟩)) (fun r W2 ⟨hr, ho, hb⟩ => ?_)
        subst hr
        have HO2 := hide ho
        refine hK.out _ _ hb (fun hS2 => ?_)
        clear hK Kt hb ho
        simp only [Act.put, List.getElem_toArray, List.getElem_cons_zero, List.getElem_cons_succ, List.setIfInBounds_toArray, List.set_cons_zero, List.set_cons_succ]
        refine wpAnyH_ready (rs := [10]) (by kernel_rfl) (by simp) (AllReadyH.cons rfl (fun Kt hK => ?_) AllReadyH.nil)
        refine wanted_pos rfl ?_
        refine wp_oneH rfl (by rfl) HRl.out (fun p1 W3 hh hb => ?_)
        have HO3 := hide (HO2.out.keep hb)
        have HH3 := hide hh
        refine hK.out _ _ (K.call hS2 hb) (fun hS3 => ?_)
        clear hK Kt hb hh
        simp only [Act.put, List.getElem_toArray, List.getElem_cons_zero, List.getElem_cons_succ, List.setIfInBounds_toArray, List.set_cons_zero, List.set_cons_succ]
        refine wpAnyH_ready (rs := [11]) (by kernel_rfl) (by simp) (AllReadyH.cons rfl (fun Kt hK => ?_) AllReadyH.nil)
        refine wanted_pos rfl ?_
        refine wp_appH _ _ rfl (by rfl) HO3.out (by rfl) HH3.out (by have := HnB.out; have := HN.out.1; omega) hS3.size (fun v4 W4 ho hg => ?_)
        have hb4 := OH.below HO3.out hS3 hg
        have HO4 := hide (OH.snoc ho)
        refine hK.out _ _ hb4 (fun hS4 => ?_)
        clear hK Kt ho hg hb4
        simp only [Act.put, List.getElem_toArray, List.getElem_cons_zero, List.getElem_cons_succ, List.setIfInBounds_toArray, List.set_cons_zero, List.set_cons_succ]
        refine wpAnyH_take (i := 12) (v := v4) rfl (by kernel_rfl) (by kernel_rfl) (by kernel_rfl) (fun _ _ _ h => h) (Or.inl ⟨by rfl, fun w' _ => by go_simp⟩) hS4 ?_
        simp only [Act.put, List.getElem_toArray, List.getElem_cons_zero, List.getElem_cons_succ, List.setIfInBounds_toArray, List.set_cons_zero, List.set_cons_succ]
        refine wpAnyH_done (by kernel_rfl) ?_ _
        refine NoPanic.normal ?_
        go_wp2_with fail
        go_ret
        exact ⟨_, rfl, HO4.out, hS4⟩
      · have hmk' : ¬ ((m : Int) ≤ (k : Int)) := by omega
        obtain ⟨q, hq⟩ : ∃ q, m - k = q := ⟨_, rfl⟩
        have hw : IntKind.i64.wrap ((m : Int) - (k : Int)) = (q : Int) := by rw [IntKind.wrap_i64]; omega
        have hlow := prf_up F (n := n) (m := m) b0 hlt h2n (by rw [hk]; exact hmk)
        rw [hk, hq] at hlow
        obtain ⟨rr, hrr⟩ : ∃ rr, rt F k = rr := ⟨_, rfl⟩
        have hrl : ∀ j, rr j < 256 := by rw [← hrr]; exact rt_lt hL.lt _
        obtain ⟨LB, hLB⟩ : ∃ L, prf (fun i => F (k + i)) (n - k) q false = L := ⟨_, rfl⟩
        have hnB : LB.length ≤ 1000 + n := by rw [← hLB]; exact Nat.le_trans (prf_len_n _ _ _ _) (by omega)
        have HIH := hide (fun W (h : Below w.heap.size w W) => ih (n - k) (by omega) (b0 := false) (hT.keep h) ((hL.keep h).tail k) (show n - k ≤ c - k by omega) (by omega) (by omega) (show 1 ≤ q by omega) (show q ≤ n - k by omega))
        have HRo := hide (fun W (h : Below w.heap.size w W) => root_any k (c := c) (hT.keep h) ((hL.keep h).head k (by omega)) hkc hmx (by omega))
        rw [hLB] at HIH
        unfold hv at HRo
        rw [hrr] at HRo
        rw [hLB, hrr] at hlow
        rw [hlow]
        have HRl := hide hrl
        have HnB := hide hnB
        clear ih hT hL hc hmx hn hm hlow hrl hnB hLB hrr hk h2 hmk k1 k0 hq h1m hlt h2n
        go_enter Tryd.func18, Tryd.ntmps18
        go_upto_region 8 with (go_at_call 21; with_reducible refine Calls.mono (HSp.out _) ?_; rintro e' w' ⟨rfl, hw⟩; replace hw := hw.symm; subst hw)
        refine wp_region_noPanic ?_
        refine wp_region_held_drew (S := fun w' => Below w.heap.size w w') (by kernel_rfl) (Go.Proofs.YteplklbpehkdjaaDoor.K.drew (Below.refl _ w)) (fun hS0 => ?_)
        refine wpAnyH_take (i := 0) (v := .slice (some ⟨b, o, none⟩) n c) rfl (by kernel_rfl) (by kernel_rfl) (by kernel_rfl) (fun _ _ _ h => h) (Or.inl ⟨by rfl, fun w' _ => by go_simp⟩) hS0 ?_
        simp only [Act.put, List.getElem_toArray, List.getElem_cons_zero, List.setIfInBounds_toArray, List.set_cons_zero, List.set_cons_succ]
        refine wpAnyH_take (i := 1) (v := .int .i64 (k : Int)) rfl (by kernel_rfl) (by kernel_rfl) (by kernel_rfl) (fun _ _ _ h => h) (Or.inl ⟨by rfl, fun w' _ => by go_simp⟩) hS0 ?_
        simp only [Act.put, List.getElem_toArray, List.getElem_cons_zero, List.getElem_cons_succ, List.setIfInBounds_toArray, List.set_cons_zero, List.set_cons_succ]
        refine wpAnyH_take (i := 2) (v := .slice (some ⟨b, o + k * 32, none⟩) (n - k) (c - k)) rfl (by kernel_rfl) (by kernel_rfl) (by kernel_rfl) (fun _ _ _ h => h) (Or.inl ⟨by rfl, fun w' _ => by go_simp⟩) hS0 ?_
        simp only [Act.put, List.getElem_toArray, List.getElem_cons_zero, List.getElem_cons_succ, List.setIfInBounds_toArray, List.set_cons_zero, List.set_cons_succ]
        refine wpAnyH_take (i := 3) (v := .int .i64 (m : Int)) rfl (by kernel_rfl) (by kernel_rfl) (by kernel_rfl) (fun _ _ _ h => h) (Or.inl ⟨by rfl, fun w' _ => by go_simp⟩) hS0 ?_
        simp only [Act.put, List.getElem_toArray, List.getElem_cons_zero, List.getElem_cons_succ, List.setIfInBounds_toArray, List.set_cons_zero, List.set_cons_succ]
        refine wpAnyH_take (i := 4) (v := .int .i64 (k : Int)) rfl (by kernel_rfl) (by kernel_rfl) (by kernel_rfl) (fun _ _ _ h => h) (Or.inl ⟨by rfl, fun w' _ => by go_simp⟩) hS0 ?_
        simp only [Act.put, List.getElem_toArray, List.getElem_cons_zero, List.getElem_cons_succ, List.setIfInBounds_toArray, List.set_cons_zero, List.set_cons_succ]
        refine wpAnyH_take (i := 5) (v := .int .i64 (q : Int)) rfl (by kernel_rfl) (by kernel_rfl) (by kernel_rfl) (fun _ _ _ h => h) (Or.inl ⟨by rfl, fun w' _ => by go_simp⟩) hS0 ?_
        simp only [Act.put, List.getElem_toArray, List.getElem_cons_zero, List.getElem_cons_succ, List.setIfInBounds_toArray, List.set_cons_zero, List.set_cons_succ]
        refine wpAnyH_take (i := 7) (v := .slice (some ⟨b, o, none⟩) n c) rfl (by kernel_rfl) (by kernel_rfl) (by kernel_rfl) (fun _ _ _ h => h) (Or.inl ⟨by rfl, fun w' _ => by go_simp⟩) hS0 ?_
        simp only [Act.put, List.getElem_toArray, List.getElem_cons_zero, List.getElem_cons_succ, List.setIfInBounds_toArray, List.set_cons_zero, List.set_cons_succ]
        refine wpAnyH_take (i := 8) (v := .int .i64 (k : Int)) rfl (by kernel_rfl) (by kernel_rfl) (by kernel_rfl) (fun _ _ _ h => h) (Or.inl ⟨by rfl, fun w' _ => by go_simp⟩) hS0 ?_
        simp only [Act.put, List.getElem_toArray, List.getElem_cons_zero, List.getElem_cons_succ, List.setIfInBounds_toArray, List.set_cons_zero, List.set_cons_succ]
        refine wpAnyH_take (i := 9) (v := .slice (some ⟨b, o, none⟩) k c) rfl (by kernel_rfl) (by kernel_rfl) (by kernel_rfl) (fun _ _ _ h => h) (Or.inl ⟨by rfl, fun w' _ => by go_simp⟩) hS0 ?_
        simp only [Act.put, List.getElem_toArray, List.getElem_cons_zero, List.getElem_cons_succ, List.setIfInBounds_toArray, List.set_cons_zero, List.set_cons_succ]
        refine wpAnyH_ready (rs := [6]) (by kernel_rfl) (by simp) (AllReadyH.cons rfl (fun Kt hK => ?_) AllReadyH.nil)
        refine wanted_pos rfl ?_
        refine wp_call (R := fun r w' => ∃ a c, r = .slice a LB.length c ∧ OH w' w.heap.size r LB.length (lF LB) ∧ Below w.heap.size w w') (vs := #[.slice (some ⟨b, o + k * 32, none⟩) (n - k) (c - k), .int .i64 (q : Int), .bool false]) rfl (by simp only [List.map_toArray, List.map_cons, List.map_nil]; rfl) (by go_simp) (Calls.mono (HIH.out _ hS0) (fun e w' hE => by
          obtain ⟨v, he, ho, hb⟩ := hE
          obtain ⟨a, c, e2, _, _⟩ := ho.form
          subst e2
          exact ⟨_, he, a, c, rfl, OH.le ho hS0.size, K.call hS0 hb⟩)) (fun r W1 hr => ?_)
        obtain ⟨ar, cr, hr, ho, hb⟩ := hr
        subst hr
        have HO1 := hide ho
        have HWr : Hid (Below w.heap.size w W1) := hb
        refine hK.out _ _ hb (fun hS1 => ?_)
        clear hK Kt hb ho
        simp only [Act.put, List.getElem_toArray, List.getElem_cons_zero, List.getElem_cons_succ, List.setIfInBounds_toArray, List.set_cons_zero, List.set_cons_succ]
        refine wpAnyH_ready (rs := [10]) (by kernel_rfl) (by simp) (AllReadyH.cons rfl (fun Kt hK => ?_) AllReadyH.nil)
        refine wanted_pos rfl ?_
        refine wp_call (R := fun r w' => r = .agg (ab rr 32).toArray ∧ OH w' w.heap.size (.slice ar LB.length cr) LB.length (lF LB) ∧ Below w.heap.size w w') (vs := #[.slice (some ⟨b, o, none⟩) k c]) rfl (by simp only [List.map_toArray, List.map_cons, List.map_nil]; rfl) (by go_simp) (Calls.mono (HRo.out _ hS1) (fun e w' ⟨he, hb⟩ => ⟨_, he, rfl, HO1.out.keep hb, K.call hS1 hb⟩)) (fun r W2 ⟨hr, ho, hb⟩ => ?_)
        subst hr
        have HO2 := hide ho
        refine hK.out _ _ hb (fun hS2 => ?_)
        clear hK Kt hb ho
        simp only [Act.put, List.getElem_toArray, List.getElem_cons_zero, List.getElem_cons_succ, List.setIfInBounds_toArray, List.set_cons_zero, List.set_cons_succ]
        refine wpAnyH_ready (rs := [11]) (by kernel_rfl) (by simp) (AllReadyH.cons rfl (fun Kt hK => ?_) AllReadyH.nil)
        refine wanted_pos rfl ?_
        refine wp_oneH rfl (by rfl) HRl.out (fun p1 W3 hh hb => ?_)
        have HO3 := hide (HO2.out.keep hb)
        have HH3 := hide hh
        refine hK.out _ _ (K.call hS2 hb) (fun hS3 => ?_)
        clear hK Kt hb hh
        simp only [Act.put, List.getElem_toArray, List.getElem_cons_zero, List.getElem_cons_succ, List.setIfInBounds_toArray, List.set_cons_zero, List.set_cons_succ]
        refine wpAnyH_ready (rs := [12]) (by kernel_rfl) (by simp) (AllReadyH.cons rfl (fun Kt hK => ?_) AllReadyH.nil)
        refine wanted_pos rfl ?_
        refine wp_appH _ _ rfl (by rfl) HO3.out (by rfl) HH3.out (by have := HnB.out; have := HN.out.1; omega) hS3.size (fun v4 W4 ho hg => ?_)
        have hb4 := OH.below HO3.out hS3 hg
        have HO4 := hide (OH.snoc ho)
        refine hK.out _ _ hb4 (fun hS4 => ?_)
        clear hK Kt ho hg hb4
        simp only [Act.put, List.getElem_toArray, List.getElem_cons_zero, List.getElem_cons_succ, List.setIfInBounds_toArray, List.set_cons_zero, List.set_cons_succ]
        refine wpAnyH_take (i := 13) (v := v4) rfl (by kernel_rfl) (by kernel_rfl) (by kernel_rfl) (fun _ _ _ h => h) (Or.inl ⟨by rfl, fun w' _ => by go_simp⟩) hS4 ?_
        simp only [Act.put, List.getElem_toArray, List.getElem_cons_zero, List.getElem_cons_succ, List.setIfInBounds_toArray, List.set_cons_zero, List.set_cons_succ]
        refine wpAnyH_done (by kernel_rfl) ?_ _
        refine NoPanic.normal ?_
        go_wp2_with fail
        go_ret
        exact ⟨_, rfl, HO4.out, hS4⟩
theorem proof_any {w : World} {x : Option Addr} {n c m : Nat} {F : Nat → Nat → Nat} (hT : Tab w) (hx : HL w x n F) (hc : n ≤ c) (hmx : c ≤ maxLen) (hn : n ≤ 100000) (hm : 1 ≤ m ∧ m ≤ n) :
    Calls Tryd.prog 12 #[.slice x n c, .int .i64 (m : Int)] w (PthP w (prf F n m true)) := by
  have HP := hide (proof_n n (b0 := true) hT hx hc hmx hn hm.1 hm.2)
  have h1 : ¬ ((m : Int) < 1) := by omega
  have h2 : ¬ ((n : Int) < (m : Int)) := by omega
  have h3 : (m : Int) ≤ (n : Int) := by omega
  clear hT hx hc hmx hn hm
  go_enter Tryd.func12, Tryd.ntmps12
  go_wp2_with (go_at_call 18; refine Calls.mono HP.out ?_; rintro e W1 hp; obtain ⟨v, hv2, ho, hb⟩ := hp; subst hv2; have HO := hide ho; have HB := hide hb; clear ho hb)
  go_ret2
  exact ⟨_, rfl, HO.out, HB.out⟩
theorem proof_er {w : World} {x : Option Addr} {n c : Nat} {m : Int} (h : m < 1 ∨ (n : Int) < m) : Calls Tryd.prog 12 #[.slice x n c, .int .i64 m] w (PthE w) := by
  by_cases h0 : m < 1
  · clear h
    go_enter Tryd.func12, Tryd.ntmps12
    go_wp2_with fail
    go_ret2
    exact ⟨rfl, Below.refl _ _⟩
  · have h1 : (n : Int) < m := h.resolve_left h0
    clear h
    go_enter Tryd.func12, Tryd.ntmps12
    go_wp2_with fail
    go_ret2
    exact ⟨rfl, Below.refl _ _⟩
end Go.Proofs.YteplklbpehkdjaaDoor
namespace Go.Proofs.YteplklbpehkdjaaDoor
set_option maxRecDepth 100000
open Go.RowKit
attribute [local go_sem ↓] Go.wp_at_zero Go.wp_at_succ

set_option maxRecDepth 100000 in
set_option maxHeartbeats 8000000 in
theorem awake_any {w : World} (hT : Tab w) : Calls Tryd.prog 8 #[] w fun e w' => e = .returned (.bool true) ∧ Below w.heap.size w w' := by
  have HT := hide hT
  clear hT
  have HX := hide (fun W => eqH_same (hk 2) W)
  have HP := hide (fun (W : World) p (hw : Below w.heap.size w W) (hh : HL W (some ⟨p, 0, none⟩) 2 (lF [hk 1, hk 2])) => path_any (c := 2) (m := 0) (HT.out.keep hw) hh (Nat.le_refl _) (by unfold maxLen; omega) (by omega) (by omega))
  rw [pth_two, show ((0 : Nat) : Int) = 0 from rfl] at HP
  go_enter Tryd.func8, Tryd.ntmps8
  go_upto_region 2 with (first
    | (refine wpList_hk1 (by rfl) rfl ?_; simp only [Act.put, List.setIfInBounds_toArray, List.set_cons_zero, List.set_cons_succ])
    | (refine wpList_hk2 (by rfl) rfl ?_; simp only [Act.put, List.setIfInBounds_toArray, List.set_cons_zero, List.set_cons_succ])
    | (refine wpList_twoH (f := hk 1) (g := hk 2) rfl rfl (by rfl) (by rfl) (hk_lt (by omega)) (hk_lt (by omega)) ?_; intro p W1 hpe hh hb; have HH := hide hh; have HB := hide hb; clear hpe hh hb)
    | (go_at_call 9; refine Calls.mono (HP.out _ _ HB.out HH.out) ?_; rintro e W2 hp; obtain ⟨a2, c2, rfl, h2, _, hb2⟩ := hp.out (fun f hf j => by rw [List.mem_singleton] at hf; subst hf; exact two_lt (hk_lt (by omega)) (hk_lt (by omega)) 1 j); have HH2 := hide h2; have HB2 := hide (Go.Proofs.YteplklbpehkdjaaDoor.K.call HB.out hb2); clear h2 hb2 hp))
  obtain ⟨g, o, rfl⟩ := HH2.out.ad (by show 0 < 1; omega)
  have HR := hide (HH2.out.first (by show 0 < 1; omega))
  rw [show lF [lF [hk 1, hk 2] 1] 0 = hk 2 from rfl] at HR
  go_wp2_with (first
    | (refine wpList_hk2 (by rfl) rfl ?_; simp only [Act.put, List.setIfInBounds_toArray, List.set_cons_zero, List.set_cons_succ])
    | (refine wpList_load_g (by rfl) _ rfl rfl HR.out ?_; simp only [Act.put, List.setIfInBounds_toArray, List.set_cons_zero, List.set_cons_succ])
    | (refine wpList_eqH (by rfl) _ _ _ rfl _ _ true rfl rfl (HX.out _) ?_; simp only [Act.put, List.setIfInBounds_toArray, List.set_cons_zero, List.set_cons_succ]))
  go_ret
  exact ⟨rfl, HB2.out⟩
end Go.Proofs.YteplklbpehkdjaaDoor
namespace Go.Proofs.YteplklbpehkdjaaDoor
set_option maxRecDepth 100000
open Go.RowKit
attribute [local go_sem ↓] Go.wp_at_zero Go.wp_at_succ

set_option maxRecDepth 100000 in
set_option maxHeartbeats 8000000 in
theorem proofPaths_walk {w : World} {z : Option Addr} {n c : Nat} {F : Nat → Nat → Nat} {m : Int} (hT : Tab w) (hx : HL w z n F) (hc : n ≤ c) (hcm : c ≤ maxLen) (_hm : (Lit.int .i64 m).wf = true) :
    Calls Tryd.prog 3 #[.slice z n c, .int .i64 m] w fun e w' => e = .returned (.bool true) ∧ Below w.heap.size w w' := by
  have HT := hide hT
  have HX := hide hx
  have HC := hide (And.intro hc hcm)
  clear hT hx hc hcm
  by_cases hn : n ≤ 80
  · have hq : (n : Int) ≤ 80 := by omega
    by_cases hm : m < 0 ∨ (n : Int) ≤ m
    · have HE := hide (fun W => path_er (w := W) (x := z) (c := c) hm)
      have HF := hide (fun W => refPath_er (w := W) (x := z) (c := c) hm)
      clear hm
      go_enter Tryd.func3, Tryd.ntmps3
      go_upto_region 3 with (go_at_call 8; refine Calls.mono (awake_any HT.out) ?_; rintro e W1 ⟨rfl, hb⟩; have HB1 := hide hb; clear hb)
      go_upto_region 4 with (go_at_call 9; refine Calls.mono (HE.out _) ?_; rintro e W2 ⟨rfl, hb⟩; have HB2 := hide (Go.Proofs.YteplklbpehkdjaaDoor.K.call HB1.out hb); clear hb)
      go_upto_region 5 with (go_at_call 10; refine Calls.mono (HF.out _) ?_; rintro e W3 ⟨rfl, hb⟩; have HB3 := hide (Go.Proofs.YteplklbpehkdjaaDoor.K.call HB2.out hb); clear hb)
      have HS := hide (fun W => same_l (W := W) (c := 0) (d := 0) (hl_nil W) (hl_nil W) (by omega))
      go_wp2_with (go_at_call 11; refine Calls.mono (HS.out _) ?_; rintro e W4 ⟨rfl, hb⟩; have HB4 := hide (Go.Proofs.YteplklbpehkdjaaDoor.K.call HB3.out hb); clear hb)
      go_ret
      exact ⟨rfl, HB4.out⟩
    · obtain ⟨k, rfl⟩ : ∃ k : Nat, m = (k : Int) := ⟨m.toNat, by omega⟩
      have hk : k < n := by omega
      obtain ⟨L, hL⟩ : ∃ L, pth F n k = L := ⟨_, rfl⟩
      have hlt : ∀ f ∈ L, ∀ j, f j < 256 := by rw [← hL]; exact pth_lt n k HX.out.lt
      have hle : L.length ≤ 1000000 := by rw [← hL]; exact Nat.le_trans (pth_len_n n k F) (by omega)
      have HE := hide (fun (W : World) (h : Below w.heap.size w W) => path_any (c := c) (m := k) (HT.out.keep h) (HX.out.keep h) HC.out.1 HC.out.2 (by omega) hk)
      have HF := hide (fun (W : World) (h : Below w.heap.size w W) => refPath_any (c := c) (m := k) (HX.out.keep h) HC.out.1 HC.out.2 (by omega) hk)
      rw [hL] at HE HF
      have HLt := hide hlt
      have HLe := hide hle
      obtain ⟨q, hql⟩ : ∃ q, L.length = q := ⟨_, rfl⟩
      have HQ := hide hql
      clear hm hk hL hlt hle hql
      go_enter Tryd.func3, Tryd.ntmps3
      go_upto_region 3 with (go_at_call 8; refine Calls.mono (awake_any HT.out) ?_; rintro e W1 ⟨rfl, hb⟩; have HB1 := hide hb; clear hb)
      go_upto_region 4 with (go_at_call 9; refine Calls.mono (HE.out _ HB1.out) ?_; rintro e W2 hp; obtain ⟨a2, c2, rfl, h2, _, hb2⟩ := hp.out HLt.out; rw [HQ.out] at h2 ⊢; have HH2 := hide h2; have HB2 := hide (Go.Proofs.YteplklbpehkdjaaDoor.K.call HB1.out hb2); clear h2 hb2 hp)
      go_upto_region 5 with (go_at_call 10; refine Calls.mono (HF.out _ HB2.out) ?_; rintro e W3 hp; obtain ⟨a3, c3, rfl, h3, _, hb3⟩ := hp.out HLt.out; rw [HQ.out] at h3 ⊢; have HS := hide (same_l (c := c2) (d := c3) (HH2.out.keep hb3) h3 (by rw [← HQ.out]; exact HLe.out)); have HB3 := hide (Go.Proofs.YteplklbpehkdjaaDoor.K.call HB2.out hb3); clear h3 hb3 hp)
      go_wp2_with (go_at_call 11; refine Calls.mono HS.out ?_; rintro e W4 ⟨rfl, hb⟩; have HB4 := hide (Go.Proofs.YteplklbpehkdjaaDoor.K.call HB3.out hb); clear hb)
      go_ret
      exact ⟨rfl, HB4.out⟩
  · have hq : (80 : Int) < (n : Int) := by omega
    clear hn
    go_enter Tryd.func3, Tryd.ntmps3
    go_upto_region 2 with (go_at_call 8; refine Calls.mono (awake_any HT.out) ?_; rintro e W1 ⟨rfl, hb⟩; have HB1 := hide hb; clear hb)
    go_wp2_with (go_at_call 8; refine Calls.mono (awake_any (HT.out.keep HB1.out)) ?_; rintro e W2 ⟨rfl, hb⟩; have HB2 := hide (Go.Proofs.YteplklbpehkdjaaDoor.K.call HB1.out hb); clear hb)
    go_ret
    exact ⟨rfl, HB2.out⟩
end Go.Proofs.YteplklbpehkdjaaDoor
