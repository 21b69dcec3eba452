/- Layer 15: the entries are read. -/
import Derived.Test.YtjgpopjpmfkfmaaP15E
namespace Go.Proofs.Ytjgpopjpmfkfmaa
open Go.RowKit Go.Maps
attribute [local go_sem ↓] Go.wp_at_zero Go.wp_at_succ

theorem holds_rd {C : Nat → List Nat} {p k : Nat} {f : Nat → Nat} (hk : elen C p = k) (hf : fl f k = ent C p k) (hm : k ≤ 200) : Holds C p (fl f k) := ⟨by rw [fl_len]; exact hk, by rw [fl_len, hf], by rw [fl_len]; exact hm⟩
/-- Blocks that are older. -/
def Xl (bs g : Nat) : Bool := decide (g < bs)
theorem Xl_of {bs g : Nat} : Xl bs g = true ↔ g < bs := decide_eq_true_iff
theorem Xl_not {bs g : Nat} (h : bs ≤ g) : Xl bs g = false := decide_eq_false (by omega)
theorem lst_empty (w : World) {base : Nat} {X : Nat → Bool} (hb : base ≤ w.heap.size) (hX : X w.heap.size = false) : Lst (w.alloc (.cells #[] 38)) base X (.slice (some ⟨w.heap.size, 0, none⟩) 0 0) [] [] :=
  ⟨World.ownsRow_made w #[] 0 hb (by decide) rfl, fun g hg => by cases hg; exact hX, fun j l h => by simp at h⟩
/-- What the entries are, if they take just so many sectors. -/
def prz (C : Nat → List Nat) (n u : Nat) : Option (List (List Nat)) := match prs C u n 0 with
  | some (l, e) => if e = u then some l else none
  | none => none
theorem prz_ok {C : Nat → List Nat} {n u : Nat} {l : List (List Nat)} (h : lays C 0 l) (hl : l.length = n) (hu : tks l = u) : prz C n u = some l := by
  unfold prz
  rw [← hl, prs_lays h (by omega), Nat.zero_add]
  exact if_pos hu
theorem prz_ne {C : Nat → List Nat} {n u : Nat} {l : List (List Nat)} (h : lays C 0 l) (hl : l.length = n) (hu : tks l ≤ u) (hne : tks l ≠ u) : prz C n u = none := by
  unfold prz
  rw [← hl, prs_lays h (by omega), Nat.zero_add]
  exact if_neg hne
theorem prz_no {C : Nat → List Nat} {n u : Nat} {l : List (List Nat)} (h : lays C 0 l) (hu : tks l ≤ u) (hl : l.length < n) (hc : ¬ ReY C (tks l) u) : prz C n u = none := by
  unfold prz
  rw [prs_fail h hu hl hc]
theorem tks_snoc (l : List (List Nat)) (f : Nat → Nat) (k : Nat) : tks (l ++ [fl f k]) = tks l + tk k := by rw [tks_app]; show tks l + (tk (fl f k).length + 0) = _; rw [fl_len]; rfl
/-- While the entries are read. -/
structure EsR (w wr : World) (C : Nat → List Nat) (v : Value) (l : List (List Nat)) (cs : List Value) (u : Nat) : Prop where
  s : Lst wr w.heap.size (Xl w.heap.size) v l cs
  h : lays C 0 l
  u : tks l ≤ u
  k : Below w.heap.size w wr
def EsP (w : World) (C : Nat → List Nat) (n u : Nat) (e : Ending) (w' : World) : Prop := Below w.heap.size w w' ∧ ((prz C n u = none ∧ e = .returned (.tuple #[.slice none 0 0, .int .i64 2])) ∨ ∃ l v cs, prz C n u = some l ∧ e = .returned (.tuple #[v, .int .i64 0]) ∧ Lst w' w.heap.size (Xl w.heap.size) v l cs ∧ lays C 0 l)
theorem EsR.next {w wr W1 W3 : World} {C : Nat → List Nat} {v v' : Value} {l : List (List Nat)} {cs : List Value} {u : Nat} (h : EsR w wr C v l cs u) (hB : Below wr.heap.size wr W1) {x : Option Addr} {k c : Nat} {f : Nat → Nat} (hb : BA W1 x k f) (hx : 0 < k → ∀ q, x = some q → wr.heap.size ≤ q.block) (hk : elen C (tks l) = k) (hf : fl f k = ent C (tks l) k) (hy : ReY C (tks l) u) {o : Obj}
    (ho : W3.ownsRow w.heap.size 38 1 v' (l.length + 1) (cs ++ [.slice x k c])) (hG : (W1.alloc o).grownBy W3 v.ownBlock) (hat : v'.ownBlock = v.ownBlock ∨ v'.ownBlock = some (W1.alloc o).heap.size) : EsR w W3 C v' (l ++ [fl f k]) (cs ++ [.slice x k c]) u := by
  have hlt : ∀ g, v.ownBlock = some g → g < wr.heap.size := fun g hg => (h.s.o.lt g hg).2
  have hB2 : Below W1.heap.size W1 (W1.alloc o) := K.alloc (Below.refl _ _) o
  have hkW : Below w.heap.size w (W1.alloc o) := (h.k.trans (hB.mono h.k.size)).trans (hB2.mono (Nat.le_trans h.k.size hB.size))
  have ht : tks (l ++ [fl f k]) = tks l + tk k := by rw [tks_app]; show tks l + (tk (fl f k).length + 0) = _; rw [fl_len]; rfl
  refine ⟨((h.s.keep hB).keep hB2).push (fun g hg => Nat.lt_of_lt_of_le (Xl_of.1 hg) hkW.size) (hb.keep hB2) (fun h0 p hp => ⟨Xl_not (Nat.le_trans h.k.size (hx h0 p hp)), fun e => ?_⟩) ho hG hat, ?_, ?_, hkW.grown hG hkW.size (fun g hg => (h.s.o.lt g hg).1)⟩
  · have h1 := hlt _ e
    have h2 := hx h0 p hp
    omega
  · rw [lays_app, Nat.zero_add]
    exact ⟨h.h, holds_rd hk hf (by rw [← hk]; exact hy.2.1), trivial⟩
  · rw [ht, ← hk]
    exact hy.2.2
set_option maxRecDepth 100000 in
set_option maxHeartbeats 8000000 in
theorem entries_n {w : World} {b lb mb : Nat} {D : DM} (h : Dsk w b lb mb D) (hd : D.dn = false) {n u z : Nat} (hz : z = 3 + u) (hn : 3 + u ≤ D.n) (hnn : n ≤ 4096) : Calls Try.prog 37 #[pp b, .int .i64 (n : Int), .int .i64 (z : Int)] w (EsP w D.cur n u) := by
  have HD := hide h
  have HN := hide (And.intro hn h.ok.n)
  have HDn := hide hd
  have HZ := hide hz
  have HE0 : Hid (EsR w (w.alloc (.cells #[] 38)) D.cur (.slice (some ⟨w.heap.size, 0, none⟩) 0 0) [] [] u) := ⟨lst_empty w (Nat.le_refl _) (Xl_not (Nat.le_refl _)), trivial, Nat.zero_le _, K.alloc (Below.refl _ _) _⟩
  clear h hd hz hn
  go_enter Try.func37, Try.ntmps37
  go_wp2_with fail
  go_loopg [8, 9, 14] n (fun g' s8 s9 s14 wr => ∃ (i a : Nat) (l : List (List Nat)) (cs : List Value), g' = n - i ∧ i ≤ n ∧ s14 = .int .i64 (i : Int) ∧ s9 = .int .i64 (a : Int) ∧ Hid (a = 3 + tks l ∧ l.length = i) ∧ EsR w wr D.cur s8 l cs u)
  case atStart => exact ⟨0, 3, [], [], rfl, Nat.zero_le _, rfl, rfl, ⟨rfl, rfl⟩, HE0.out⟩
  case round =>
    obtain ⟨i, a, l, cs, rfl, hi, rfl, rfl, HA, hE⟩ := hrel
    have HE := hide hE
    obtain ⟨zv, cv, ev, _⟩ := hE.s.shape
    clear hE HE0
    by_cases hlt : i < n
    · have hlt' : (i : Int) < (n : Int) := by omega
      have hw1 : wrap64 ((i : Int) + 1) = (i : Int) + 1 := w63 (by omega) (by omega)
      have HC := hide (entry_n (HD.out.keep HE.out.k) HDn.out (p := tks l) (u := u) HA.out.1 HZ.out HN.out.1)
      by_cases hY : ReY D.cur (tks l) u
      · obtain ⟨k, hk⟩ : ∃ k, k = elen D.cur (tks l) := ⟨_, rfl⟩
        have hk9 : k ≤ 1000000000 := by have := hY.2.1; omega
        have ht : tk k ≤ 4 := tk_4 (by rw [hk]; exact hY.2.1)
        have hw2 : wrap64 ((a : Int) + (tk k : Int)) = (a : Int) + (tk k : Int) := by have := HA.out.1; have := HE.out.u; have := HN.out; exact w63 (by omega) (by omega)
        have HC2 : Hid (Calls Try.prog 68 #[pp b, .int .i64 (a : Int), .int .i64 (z : Int)] wr fun e w' => ∃ x c f, e = .returned (.tuple #[.slice x k c, .int .i64 0]) ∧ BA w' x k f ∧ fl f k = ent D.cur (tks l) k ∧ (0 < k → ∀ q, x = some q → wr.heap.size ≤ q.block) ∧ Below wr.heap.size wr w') := by
          refine Calls.mono HC.out ?_
          rintro e w' ⟨hB, ⟨hn, _⟩ | ⟨_, x, c, f, rfl, h1, h2, h3⟩⟩
          · exact absurd hY hn
          · rw [← hk] at *
            exact ⟨x, c, f, rfl, h1, h2, h3, hB⟩
        have HK := hide hk
        have HY := hide hY
        have hLe : l.length ≤ 100000 := by have := HA.out.2; omega
        subst ev
        clear hk hY HC
        go_upto_region 8 with (go_at_call 68; refine Calls.mono HC2.out ?_; rintro e W1 ⟨x, c, f, rfl, hb, hf, hx, hB⟩; have HR := hide (And.intro hb (And.intro hf (And.intro hx hB))); clear hb hf hx hB)
        have HS1 : Hid (Lst (W1.alloc (.cells #[.slice x k c] 38)) w.heap.size (Xl w.heap.size) (.slice zv l.length cv) l cs) := (HE.out.s.keep HR.out.2.2.2).keep (K.alloc (Below.refl _ _) _)
        have HSz : Hid (w.heap.size ≤ (W1.alloc (.cells #[.slice x k c] 38)).heap.size) := Nat.le_trans (Nat.le_trans HE.out.k.size HR.out.2.2.2.size) (by simp)
        have HCe : Hid ((W1.alloc (.cells #[.slice x k c] 38)).cell? ⟨W1.heap.size, 0, none⟩ = some (.slice x k c)) := (Boxed.new W1 38 (.slice x k c)).cell
        go_upto_region 9 with (refine wpList_app1 rfl _ _ rfl rfl HS1.out.o rfl HCe.out rfl hLe HSz.out ?_; intro v3 W3 ho3 hG3 hat3; have HE3 := hide (HE.out.next HR.out.2.2.2 HR.out.1 HR.out.2.2.1 HK.out.symm HR.out.2.1 HY.out ho3 hG3 hat3); clear ho3 hG3 hat3)
        go_wp2_with (go_at_call 46; refine Calls.mono (takes_n hk9) ?_; rintro e W3 ⟨rfl, rfl⟩)
        go_roundg (n - (i + 1))
        case measure => omega
        case rel => exact ⟨i + 1, a + tk k, l ++ [fl f k], _, rfl, hlt, by simp, by simp [hw2], ⟨by rw [tks_snoc, HA.out.1]; omega, by rw [List.length_append, HA.out.2]; rfl⟩, HE3.out⟩
      · have HC2 : Hid (Calls Try.prog 68 #[pp b, .int .i64 (a : Int), .int .i64 (z : Int)] wr fun e w' => e = .returned (.tuple #[.slice none 0 0, .int .i64 2]) ∧ Below wr.heap.size wr w') := by
          refine Calls.mono HC.out ?_
          rintro e w' ⟨hB, ⟨_, rfl⟩ | ⟨hn, _⟩⟩
          · exact ⟨rfl, hB⟩
          · exact absurd hn hY
        have HY := hide hY
        subst ev
        clear hY HC
        go_wp2_with (go_at_call 68; refine Calls.mono HC2.out ?_; rintro e W1 ⟨rfl, hB⟩; have HB1 := hide hB; clear hB)
        exact bodyPost_ret (by simp [results, Try.results37]) rfl ⟨HE.out.k.trans (HB1.out.mono HE.out.k.size), Or.inl ⟨prz_no HE.out.h HE.out.u (by rw [HA.out.2]; exact hlt) HY.out, rfl⟩⟩
    · obtain rfl : i = n := by omega
      by_cases hu : tks l = u
      · have hne : ((a : Int) != (z : Int)) = false := by have h1 := HA.out.1; have h2 := HZ.out; rw [h1, h2, hu]; simp
        have HU := hide hu
        clear hu
        go_wp2_with fail
        exact bodyPost_ret (by simp [results, Try.results37]) rfl ⟨HE.out.k, Or.inr ⟨l, _, cs, prz_ok HE.out.h HA.out.2 HU.out, rfl, HE.out.s, HE.out.h⟩⟩
      · have hne : ((a : Int) != (z : Int)) = true := by have h1 := HA.out.1; have h2 := HZ.out; rw [h1, h2]; simp; omega
        have HU := hide hu
        clear hu
        go_wp2_with fail
        exact bodyPost_ret (by simp [results, Try.results37]) rfl ⟨HE.out.k, Or.inl ⟨prz_ne HE.out.h HA.out.2 HE.out.u HU.out, rfl⟩⟩
end Go.Proofs.Ytjgpopjpmfkfmaa
