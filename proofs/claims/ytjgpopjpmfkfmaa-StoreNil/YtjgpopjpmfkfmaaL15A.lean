/- Layer 15: lists of texts in memory; the document's Takes, All and Same. -/
import Derived.Test.YtjgpopjpmfkfmaaM15
import Derived.Test.YtjgpopjpmfkfmaaD13G
import Derived.Test.YtjgpopjpmfkfmaaSameBA
namespace Go.Proofs.Ytjgpopjpmfkfmaa
set_option maxRecDepth 100000
open Go.RowKit Go.Maps
attribute [local go_sem ↓] Go.wp_at_zero Go.wp_at_succ

/-- A list of texts, looked at. -/
structure Vw (w : World) (z : Option Addr) (L : List (List Nat)) : Prop where
  at_ : L = [] ∨ ∃ b o, z = some ⟨b, o, none⟩ ∧ ∀ i l, L[i]? = some l → ∃ x m c f, w.cell? ⟨b, o + i, none⟩ = some (.slice x m c) ∧ BA w x m f ∧ fl f m = l
theorem Vw.keep {w w' : World} {z : Option Addr} {L : List (List Nat)} (h : Vw w z L) (hb : Below w.heap.size w w') : Vw w' z L :=
  ⟨h.at_.imp id fun ⟨b, o, e, hr⟩ => ⟨b, o, e, fun i l hl => by
    obtain ⟨x, m, c, f, h1, h2, h3⟩ := hr i l hl
    exact ⟨x, m, c, f, later hb h1, h2.keep hb, h3⟩⟩⟩
theorem Vw.cells {w : World} {z : Option Addr} {L : List (List Nat)} (h : Vw w z L) (hn : 0 < L.length) : ∃ b o, z = some ⟨b, o, none⟩ ∧ ∀ i l, L[i]? = some l → ∃ x m c f, w.cell? ⟨b, o + i, none⟩ = some (.slice x m c) ∧ BA w x m f ∧ fl f m = l :=
  h.at_.resolve_left (fun e => by rw [e] at hn; cases hn)
/-- A list of one's own, whose row and texts lie in none of the blocks X. -/
structure Lst (w : World) (base : Nat) (X : Nat → Bool) (v : Value) (L : List (List Nat)) (cs : List Value) : Prop where
  o : w.ownsRow base 38 1 v L.length cs
  x : ∀ g, v.ownBlock = some g → X g = false
  e : ∀ (j : Nat) (l : List Nat), L[j]? = some l → ∃ x m c f, cs[j]? = some (Value.slice x m c) ∧ BA w x m f ∧ fl f m = l ∧ (0 < m → ∀ p, x = some p → X p.block = false ∧ v.ownBlock ≠ some p.block)
theorem ba_lt {w : World} {x : Option Addr} {m : Nat} {f : Nat → Nat} (h : BA w x m f) (hm : 0 < m) : ∃ b o, x = some ⟨b, o, none⟩ ∧ b < w.heap.size := by
  rcases h.at_ with h0 | ⟨b, o, e, hr⟩
  · omega
  · exact ⟨b, o, e, World.block_lt_of_cell? w _ (hr.c 0 hm)⟩
theorem ba_same {w w' : World} {x : Option Addr} {m : Nat} {f : Nat → Nat} (h : BA w x m f) (hb : 0 < m → ∀ p, x = some p → p.block < w.heap.size → w'.heap[p.block]? = w.heap[p.block]?) : BA w' x m f := by
  refine ⟨h.lt, h.at_.imp id fun ⟨b, o, e, hr⟩ => ⟨b, o, e, ⟨fun i hi => ?_⟩⟩⟩
  have hc := hr.c i hi
  have hh : w'.heap[b]? = w.heap[b]? := hb (by omega) _ e (World.block_lt_of_cell? w _ (hr.c 0 (by omega)))
  exact (World.cell?_of_block (w := w) hh).trans hc
theorem Lst.nil (w : World) (base : Nat) (X : Nat → Bool) : Lst w base X (.slice none 0 0) [] [] := ⟨World.ownsRow_nil w _ _ _, fun g hg => (by cases hg), fun j l h => (by simp at h)⟩
theorem Lst.kp {w w' : World} {base : Nat} {X : Nat → Bool} {v : Value} {L : List (List Nat)} {cs : List Value} (h : Lst w base X v L cs) (hK : Kp X w w') : Lst w' base X v L cs := by
  refine ⟨own_block h.o (fun g hg => hK.block g (h.o.lt g hg).2 (h.x g hg)), h.x, fun j l hl => ?_⟩
  obtain ⟨x, m, c, f, h1, h2, h3, h4⟩ := h.e j l hl
  exact ⟨x, m, c, f, h1, ba_same h2 (fun hm p hp hlt => hK.block _ hlt (h4 hm p hp).1), h3, h4⟩
theorem Lst.keep {w w' : World} {base : Nat} {X : Nat → Bool} {v : Value} {L : List (List Nat)} {cs : List Value} (h : Lst w base X v L cs) (hB : Below w.heap.size w w') : Lst w' base X v L cs := h.kp (Kp.of hB)
theorem Lst.sub {w : World} {base : Nat} {X Y : Nat → Bool} {v : Value} {L : List (List Nat)} {cs : List Value} (h : Lst w base X v L cs) (hY : ∀ k, Y k = true → X k = true) : Lst w base Y v L cs := by
  have hf : ∀ g, X g = false → Y g = false := fun g hg => by
    cases hy : Y g with
    | false => rfl
    | true => rw [hY g hy] at hg; cases hg
  refine ⟨h.o, fun g hg => hf g (h.x g hg), fun j l hl => ?_⟩
  obtain ⟨x, m, c, f, h1, h2, h3, h4⟩ := h.e j l hl
  exact ⟨x, m, c, f, h1, h2, h3, fun hm p hp => ⟨hf _ (h4 hm p hp).1, (h4 hm p hp).2⟩⟩
theorem Lst.shape {w : World} {base : Nat} {X : Nat → Bool} {v : Value} {L : List (List Nat)} {cs : List Value} (h : Lst w base X v L cs) : ∃ z c, v = .slice z L.length c ∧ Vw w z L := by
  have hlen : cs.length = L.length := by have := h.o.1; omega
  rcases h.o.2 with ⟨e1, e2⟩ | ⟨g, cap, cur, e, _, hg, _, _, _, hc⟩
  · exact ⟨none, 0, by rw [e1, e2], ⟨Or.inl (List.eq_nil_of_length_eq_zero e2)⟩⟩
  · refine ⟨some ⟨g, 0, none⟩, cap, e, ⟨Or.inr ⟨g, 0, rfl, fun i l hl => ?_⟩⟩⟩
    obtain ⟨x, m, c, f, h1, h2, h3, _⟩ := h.e i l hl
    refine ⟨x, m, c, f, ?_, h2, h3⟩
    have hi : i < L.length := (List.getElem?_eq_some_iff.1 hl).1
    unfold World.cell?
    simp only [hg, Nat.zero_add]
    rw [← hc, Nat.mul_one, List.getElem?_take, if_pos hi] at h1
    simpa using h1
/-- One text more. -/
theorem Lst.push {w w' : World} {base : Nat} {X : Nat → Bool} {v v' : Value} {L : List (List Nat)} {cs : List Value} (h : Lst w base X v L cs) (hX : ∀ k, X k = true → k < w.heap.size) {x : Option Addr} {m c : Nat} {f : Nat → Nat} (hb : BA w x m f) (hx : 0 < m → ∀ p, x = some p → X p.block = false ∧ v.ownBlock ≠ some p.block)
    (ho : w'.ownsRow base 38 1 v' (L.length + 1) (cs ++ [.slice x m c])) (hG : w.grownBy w' v.ownBlock) (hat : v'.ownBlock = v.ownBlock ∨ v'.ownBlock = some w.heap.size) : Lst w' base X v' (L ++ [fl f m]) (cs ++ [.slice x m c]) := by
  have hlen : cs.length = L.length := by have := h.o.1; omega
  have old : ∀ q, q < w.heap.size → v.ownBlock ≠ some q → v'.ownBlock ≠ some q := fun q hq hne e => by
    rcases hat with e2 | e2
    · exact hne (e2.symm.trans e)
    · rw [e2] at e
      have := Option.some.inj e
      omega
  have hk : ∀ {x : Option Addr} {m : Nat} {f : Nat → Nat}, BA w x m f → (0 < m → ∀ p, x = some p → X p.block = false ∧ v.ownBlock ≠ some p.block) → BA w' x m f ∧ (0 < m → ∀ p, x = some p → X p.block = false ∧ v'.ownBlock ≠ some p.block) := fun hb hx =>
    ⟨ba_same hb (fun hm p hp hlt => hG.block _ hlt (fun e => (hx hm p hp).2 e.symm)), fun hm p hp => ⟨(hx hm p hp).1, by
      obtain ⟨b, o, e, hlt⟩ := ba_lt hb hm
      rw [hp] at e
      obtain rfl := Option.some.inj e
      exact old b hlt (hx hm _ hp).2⟩⟩
  refine ⟨by rw [List.length_append]; exact ho, fun g hg => ?_, fun j l hl => ?_⟩
  · rcases hat with e | e
    · exact h.x g (e.symm.trans hg)
    · rw [e] at hg
      cases hg
      cases hq : X w.heap.size with
      | false => rfl
      | true => have := hX _ hq; omega
  · by_cases hj : j < L.length
    · rw [List.getElem?_append_left hj] at hl
      obtain ⟨x1, m1, c1, f1, h1, h2, h3, h4⟩ := h.e j l hl
      obtain ⟨k1, k2⟩ := hk h2 h4
      exact ⟨x1, m1, c1, f1, by rw [List.getElem?_append_left (by omega)]; exact h1, k1, h3, k2⟩
    · have hj2 : j = L.length := by
        have := (List.getElem?_eq_some_iff.1 hl).1
        rw [List.length_append] at this
        simp at this
        omega
      subst hj2
      rw [List.getElem?_append_right (Nat.le_refl _), Nat.sub_self] at hl
      have hl : some (fl f m) = some l := hl
      cases hl
      obtain ⟨k1, k2⟩ := hk hb hx
      exact ⟨x, m, c, f, by rw [← hlen, List.getElem?_append_right (Nat.le_refl _), Nat.sub_self]; rfl, k1, rfl, k2⟩
theorem takes_any {w : World} {z : Option Addr} {m c : Nat} (hm : m ≤ 1000000000) : Calls Try.prog 28 #[.slice z m c] w fun e w' => e = .returned (.int .i64 (tk m : Int)) ∧ w' = w := by
  have h1 : wrap64 ((m : Int) + 65) = (m : Int) + 65 := by unfold wrap64; omega
  go_enter Try.func28, Try.ntmps28
  go_wp2_with fail
  go_ret
  exact ⟨ret_int (by unfold tk; omega), rfl⟩
theorem tks_take : ∀ (L : List (List Nat)) (i : Nat) {l : List Nat}, L[i]? = some l → tks (L.take (i + 1)) = tks (L.take i) + tk l.length
  | [], i, l, h => by simp at h
  | b :: r, 0, l, h => by
    have h : some b = some l := by simpa using h
    cases h
    simp [tks]
  | b :: r, i + 1, l, h => by
    have h : r[i]? = some l := by simpa using h
    have := tks_take r i h
    show tk b.length + tks (r.take (i + 1)) = tk b.length + tks (r.take i) + _
    omega
/-- No text is longer than this. -/
def short (L : List (List Nat)) : Prop := ∀ l ∈ L, l.length ≤ 1000000
theorem short.at {L : List (List Nat)} (h : short L) {i : Nat} {l : List Nat} (hl : L[i]? = some l) : l.length ≤ 1000000 := h l (List.mem_of_getElem? hl)
theorem tks_short : ∀ {L : List (List Nat)}, short L → tks L ≤ 15626 * L.length
  | [], _ => Nat.le_refl _
  | b :: r, h => by
    have h1 := h b (by simp)
    have h2 := tks_short (L := r) (fun l hl => h l (by simp [hl]))
    show tk b.length + tks r ≤ 15626 * (r.length + 1)
    unfold tk
    omega
set_option maxRecDepth 100000 in
set_option maxHeartbeats 4000000 in
theorem all_any {w : World} {z : Option Addr} {c : Nat} {L : List (List Nat)} (h : Vw w z L) (hs : short L) (hn : L.length ≤ 1000000) : Calls Try.prog 50 #[.slice z L.length c] w fun e w' => e = .returned (.int .i64 (tks L : Int)) ∧ w' = w := by
  have HV := hide h
  have HS := hide hs
  clear h hs
  go_enter Try.func50, Try.ntmps50
  go_wp2_with fail
  go_loopg [3, 4] L.length (fun g' s3 s4 wr => ∃ i : Nat, g' = L.length - i ∧ i ≤ L.length ∧ s4 = .int .i64 (i : Int) ∧ s3 = .int .i64 (tks (L.take i) : Int) ∧ wr = w)
  case atStart => exact ⟨0, rfl, by omega, rfl, rfl, rfl⟩
  case round =>
    obtain ⟨i, rfl, hi, rfl, rfl, rfl⟩ := hrel
    by_cases hlt : i < L.length
    · obtain ⟨b, o, rfl, hc⟩ := HV.out.cells (by omega)
      obtain ⟨l, hl⟩ : ∃ l, L[i]? = some l := ⟨_, List.getElem?_eq_getElem hlt⟩
      obtain ⟨x, m, k, f, hcell, hb, hf⟩ := hc i l hl
      have hlt' : (i : Int) < (L.length : Int) := by omega
      have hm : m = l.length := by rw [← hf, fl_len]
      have HT := hide (tks_take L i hl)
      have h2 := tks_short (L := L.take i) (fun y hy => HS.out y (List.mem_of_mem_take hy))
      rw [List.length_take, Nat.min_eq_left (by omega)] at h2
      have hml := HS.out.at hl
      have hw : wrap64 ((tks (L.take i) : Int) + (tk m : Int)) = (tks (L.take i) : Int) + (tk m : Int) := by
        have : tk m ≤ 15626 := by unfold tk; omega
        unfold wrap64
        omega
      have HM := hide hm
      have hm9 : m ≤ 1000000000 := by omega
      clear hc hl hb hf h2 hml hm
      go_wp2_with (go_at_call 28; refine Calls.mono (takes_any hm9) ?_; rintro e W1 ⟨rfl, rfl⟩)
      go_roundg (L.length - (i + 1))
      case measure => omega
      case rel => exact ⟨i + 1, rfl, by omega, by simp, by rw [HT.out, ← HM.out]; simp [hw], rfl⟩
    · obtain rfl : i = L.length := by omega
      go_wp2_with fail
      go_ret
      exact ⟨by rw [List.take_length]; rfl, rfl⟩
theorem list_eq_of {L M : List (List Nat)} (hl : L.length = M.length) (h : ∀ i, i < L.length → L[i]? = M[i]?) : L = M := by
  apply List.ext_getElem?
  intro i
  by_cases hi : i < L.length
  · exact h i hi
  · rw [List.getElem?_eq_none (by omega), List.getElem?_eq_none (by omega)]
set_option maxRecDepth 100000 in
set_option maxHeartbeats 4000000 in
theorem same_lists {w : World} {z1 z2 : Option Addr} {c1 c2 : Nat} {L M : List (List Nat)} (h1 : Vw w z1 L) (h2 : Vw w z2 M) (hs : short L) (hn : L.length ≤ 1000000) : Calls Try.prog 25 #[.slice z1 L.length c1, .slice z2 M.length c2] w fun e w' => e = .returned (.bool (decide (L = M))) ∧ Below w.heap.size w w' := by
  have HV1 := hide h1
  have HV2 := hide h2
  have HS := hide hs
  clear h1 h2 hs
  by_cases hlen : L.length = M.length
  · have hne : ((L.length : Int) != (M.length : Int)) = false := by simp [hlen]
    go_enter Try.func25, Try.ntmps25
    go_wp2_with fail
    go_loopg [5] L.length (fun g' s5 wr => ∃ i : Nat, g' = L.length - i ∧ i ≤ L.length ∧ s5 = .int .i64 (i : Int) ∧ Below w.heap.size w wr ∧ Hid (∀ j, j < i → L[j]? = M[j]?))
    case atStart => exact ⟨0, rfl, by omega, rfl, Below.refl _ _, fun j hj => by omega⟩
    case round =>
      obtain ⟨i, rfl, hi, rfl, hB, HQ⟩ := hrel
      have HB := hide hB
      clear hB
      by_cases hlt : i < L.length
      · obtain ⟨b1, o1, rfl, hk1⟩ := HV1.out.cells (by omega)
        obtain ⟨b2, o2, rfl, hk2⟩ := HV2.out.cells (by omega)
        obtain ⟨l, hl⟩ : ∃ l, L[i]? = some l := ⟨_, List.getElem?_eq_getElem hlt⟩
        obtain ⟨l2, hl2⟩ : ∃ l, M[i]? = some l := ⟨_, List.getElem?_eq_getElem (by omega)⟩
        obtain ⟨x1, m1, k1, f1, hcell1, hb1, hf1⟩ := hk1 i l hl
        obtain ⟨x2, m2, k2, f2, hcell2, hb2, hf2⟩ := hk2 i l2 hl2
        have hlt1 : (i : Int) < (L.length : Int) := by omega
        have hlt2 : (i : Int) < (M.length : Int) := by omega
        have hc1 := later HB.out hcell1
        have hc2 := later HB.out hcell2
        have HC : Hid (∀ W, Below wr.heap.size wr W → Calls Try.prog 32 #[.slice x1 m1 k1, .slice x2 m2 k2] W fun e w' => e = .returned (.bool (decide (l = l2))) ∧ Below W.heap.size W w') := fun W hW => by
          have hm1 := HS.out.at hl
          rw [← hf1, fl_len] at hm1
          have h := same_fl (c := k1) (c2 := k2) ((hb1.keep HB.out).keep hW) ((hb2.keep HB.out).keep hW) hm1
          rwa [hf1, hf2] at h
        have HL := hide (And.intro hl hl2)
        clear hk1 hk2 hl hl2 hcell1 hcell2 hb1 hb2 hf1 hf2
        go_upto_region 6 with fail
        refine wp_region_noPanic ?_
        refine wp_region_held_drew (S := fun w' => w'.cell? ⟨b1, o1 + i, none⟩ = some (.slice x1 m1 k1) ∧ w'.cell? ⟨b2, o2 + i, none⟩ = some (.slice x2 m2 k2)) (by kernel_rfl) ⟨hc1, hc2⟩ (fun hS0 => ?_)
        refine wpAnyH_take (i := 0) (v := .slice (some ⟨b1, o1, none⟩) L.length c1) rfl (by kernel_rfl) (by kernel_rfl) (by kernel_rfl) (fun _ _ _ h => h) (Or.inl ⟨by rfl, fun w' _ => by go_simp⟩) hS0 ?_
        simp only [Act.put, List.getElem_toArray, List.getElem_cons_zero, List.setIfInBounds_toArray, List.set_cons_zero, List.set_cons_succ]
        refine wpAnyH_take (i := 1) (v := .int .i64 (i : Int)) rfl (by kernel_rfl) (by kernel_rfl) (by kernel_rfl) (fun _ _ _ h => h) (Or.inl ⟨by rfl, fun w' _ => by go_simp⟩) hS0 ?_
        simp only [Act.put, List.getElem_toArray, List.getElem_cons_zero, List.getElem_cons_succ, List.setIfInBounds_toArray, List.set_cons_zero, List.set_cons_succ]
        refine wpAnyH_take (i := 2) (v := .pointer (some ⟨b1, o1 + i, none⟩)) rfl (by kernel_rfl) (by kernel_rfl) (by kernel_rfl) (fun _ _ _ h => h) (Or.inl ⟨by rfl, fun w' _ => by go_simp⟩) hS0 ?_
        simp only [Act.put, List.getElem_toArray, List.getElem_cons_zero, List.getElem_cons_succ, List.setIfInBounds_toArray, List.set_cons_zero, List.set_cons_succ]
        refine wpAnyH_take (i := 3) (v := .slice x1 m1 k1) rfl (by kernel_rfl) (by kernel_rfl) (by kernel_rfl) (fun _ _ _ h => h) (Or.inl ⟨by rfl, fun w' hS => by have hc := hS.1; go_simp⟩) hS0 ?_
        simp only [Act.put, List.getElem_toArray, List.getElem_cons_zero, List.getElem_cons_succ, List.setIfInBounds_toArray, List.set_cons_zero, List.set_cons_succ]
        refine wpAnyH_take (i := 4) (v := .slice (some ⟨b2, o2, none⟩) M.length c2) rfl (by kernel_rfl) (by kernel_rfl) (by kernel_rfl) (fun _ _ _ h => h) (Or.inl ⟨by rfl, fun w' _ => by go_simp⟩) hS0 ?_
        simp only [Act.put, List.getElem_toArray, List.getElem_cons_zero, List.getElem_cons_succ, List.setIfInBounds_toArray, List.set_cons_zero, List.set_cons_succ]
        refine wpAnyH_take (i := 5) (v := .int .i64 (i : Int)) rfl (by kernel_rfl) (by kernel_rfl) (by kernel_rfl) (fun _ _ _ h => h) (Or.inl ⟨by rfl, fun w' _ => by go_simp⟩) hS0 ?_
        simp only [Act.put, List.getElem_toArray, List.getElem_cons_zero, List.getElem_cons_succ, List.setIfInBounds_toArray, List.set_cons_zero, List.set_cons_succ]
        refine wpAnyH_take (i := 6) (v := .pointer (some ⟨b2, o2 + i, none⟩)) rfl (by kernel_rfl) (by kernel_rfl) (by kernel_rfl) (fun _ _ _ h => h) (Or.inl ⟨by rfl, fun w' _ => by go_simp⟩) hS0 ?_
        simp only [Act.put, List.getElem_toArray, List.getElem_cons_zero, List.getElem_cons_succ, List.setIfInBounds_toArray, List.set_cons_zero, List.set_cons_succ]
        refine wpAnyH_take (i := 7) (v := .slice x2 m2 k2) rfl (by kernel_rfl) (by kernel_rfl) (by kernel_rfl) (fun _ _ _ h => h) (Or.inl ⟨by rfl, fun w' hS => by have hc := hS.2; go_simp⟩) hS0 ?_
        simp only [Act.put, List.getElem_toArray, List.getElem_cons_zero, List.getElem_cons_succ, List.setIfInBounds_toArray, List.set_cons_zero, List.set_cons_succ]
        refine wpAnyH_ready (rs := [8]) (by kernel_rfl) (by simp) (AllReadyH.cons rfl (fun Kt hK => ?_) AllReadyH.nil)
        refine wanted_pos rfl ?_
        refine wp_call (R := fun x w' => x = .bool (decide (l = l2)) ∧ Below wr.drew.heap.size wr.drew w') (vs := #[.slice x1 m1 k1, .slice x2 m2 k2]) rfl (by simp only [List.map_toArray, List.map_cons, List.map_nil]; rfl) (by go_simp) (Calls.mono (HC.out _ (K.drew (Below.refl _ _))) (fun e w' he => ⟨_, he.1, rfl, he.2⟩)) (fun x W6 hr => ?_)
        obtain ⟨hx, hb6⟩ := hr
        subst hx
        refine hK.out _ _ ⟨later hb6 hS0.1, later hb6 hS0.2⟩ (fun hS1 => ?_)
        clear hK Kt
        simp only [Act.put, List.getElem_toArray, List.getElem_cons_zero, List.getElem_cons_succ, List.setIfInBounds_toArray, List.set_cons_zero, List.set_cons_succ]
        refine wpAnyH_take (i := 9) (v := .bool (!decide (l = l2))) rfl (by kernel_rfl) (by kernel_rfl) (by kernel_rfl) (fun _ _ _ h => h) (Or.inl ⟨by rfl, fun w' _ => by go_simp⟩) hS1 ?_
        simp only [Act.put, List.getElem_toArray, List.getElem_cons_zero, List.getElem_cons_succ, List.setIfInBounds_toArray, List.set_cons_zero, List.set_cons_succ]
        refine wpAnyH_done (by kernel_rfl) ?_ _
        refine NoPanic.normal ?_
        have HB6 := hide (K.call (K.drew HB.out) hb6)
        clear hS0 hS1 hb6
        by_cases hq : l = l2
        · have hd : decide (l = l2) = true := decide_eq_true hq
          rw [hd]
          go_wp2_with fail
          go_roundg (L.length - (i + 1))
          case measure => omega
          case rel => exact ⟨i + 1, rfl, by omega, by simp, HB6.out, fun j hj => by
            by_cases e : j = i
            · subst e; rw [HL.out.1, HL.out.2, hq]
            · exact HQ.out j (by omega)⟩
        · have hd : decide (l = l2) = false := decide_eq_false hq
          rw [hd]
          have HR : Hid (decide (L = M) = false) := decide_eq_false (fun e => hq (by have h1 := HL.out.1; rw [e, HL.out.2] at h1; exact (Option.some.inj h1).symm))
          go_wp2_with fail
          go_ret
          exact ⟨by rw [HR.out]; rfl, HB6.out⟩
      · obtain rfl : i = L.length := by omega
        have HR : Hid (decide (L = M) = true) := decide_eq_true (list_eq_of hlen HQ.out)
        go_wp2_with fail
        go_ret
        exact ⟨by rw [HR.out]; rfl, HB.out⟩
  · have hne : ((L.length : Int) != (M.length : Int)) = true := by simp; omega
    have hne' : ((L.length : Int) == (M.length : Int)) = false := by simp; omega
    have HR : Hid (decide (L = M) = false) := decide_eq_false (fun e => hlen (by rw [e]))
    go_enter Try.func25, Try.ntmps25
    go_wp2_with fail
    go_ret
    exact ⟨by rw [HR.out]; rfl, Below.refl _ _⟩
end Go.Proofs.Ytjgpopjpmfkfmaa
