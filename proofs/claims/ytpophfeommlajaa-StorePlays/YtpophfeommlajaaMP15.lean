/- Layer 13: the program's Read. -/
import Derived.Test.YtpophfeommlajaaMP14
namespace Go.Proofs.Ytpophfeommlajaa
set_option maxRecDepth 100000
open Go.RowKit Go.Maps
attribute [local go_sem ↓] Go.wp_at_zero Go.wp_at_succ

/-- New bytes: none, or in a block of their own. -/
def NewB (w w' : World) (v : Value) (l : List Nat) : Prop := (l = [] ∧ v = .slice none 0 0) ∨ ∃ g, v = .slice (some ⟨g, 0, none⟩) l.length l.length ∧ w.heap.size ≤ g ∧ g < w'.heap.size ∧ w'.rangeAt g 0 (cells8 l)
/-- What a sector has. -/
def DM.cur (D : DM) (i : Nat) : List Nat := (D.nw i).getD (D.la i)
theorem DM.cur_sec {D : DM} (h : D.ok) (i : Nat) : sec (D.cur i) := by
  unfold DM.cur
  cases hn : D.nw i with
  | none => exact h.la i
  | some l => exact (h.nw i l hn).2
/-- What Read answers: the bytes, and the error. -/
def DM.rdE (D : DM) (i : Int) : Int := if D.dn then 6 else if 0 ≤ i ∧ i < D.n then 0 else 3
def DM.rdB (D : DM) (i : Int) : List Nat := if D.dn then [] else if 0 ≤ i ∧ i < D.n then D.cur i.toNat else []
def RdP (w : World) (l : List Nat) (er : Int) (e : Ending) (w' : World) : Prop := ∃ v, e = .returned (.tuple #[v, .int .i64 er]) ∧ NewB w w' v l ∧ Below w.heap.size w w'
set_option maxHeartbeats 4000000 in
theorem read_any {w : World} {b lb mb : Nat} {D : DM} (h : Dsk w b lb mb D) (i : Int) : Calls Try.prog 73 #[pp b, .int .i64 i] w (RdP w (D.rdB i) (D.rdE i)) := by
  have HD := hide h
  cases hdn : D.dn with
  | true =>
    have e1 : D.rdB i = [] := if_pos hdn
    have e2 : D.rdE i = 6 := if_pos hdn
    rw [e1, e2]
    clear h e1 e2
    go_enter Try.func73, Try.ntmps73
    go_wp2_with (go_at_call 20; refine Calls.mono (down_any HD.out) ?_; rintro e w' ⟨rfl, rfl⟩)
    exact bodyPost_ret (by simp [results, Try.results73]) rfl ⟨_, rfl, Or.inl ⟨rfl, rfl⟩, Below.refl _ _⟩
  | false =>
    by_cases hi : 0 ≤ i ∧ i < D.n
    · obtain ⟨k, rfl⟩ : ∃ k : Nat, i = (k : Int) := ⟨i.toNat, by omega⟩
      have hk : k < D.n := by omega
      have e1 : D.rdB k = D.cur k := by
        unfold DM.rdB
        rw [if_neg (by simp [hdn]), if_pos hi]
        rfl
      have e2 : D.rdE k = 0 := by
        unfold DM.rdE
        rw [if_neg (by simp [hdn]), if_pos hi]
      have hC := DM.cur_sec h.ok k
      have HL := hide hC.1
      have hd : decide (0 ≤ (k : Int) ∧ (k : Int) < (D.n : Int)) = true := decide_eq_true hi
      have HK := hide (And.intro hk (Nat.lt_of_lt_of_le hk h.ok.n))
      rw [e1, e2]
      have h0 := h.c0
      have h1 := h.c1
      clear h e1 e2 hi
      cases hn : D.nw k with
      | some l =>
        have hl := HD.out.ok.nw k l hn
        have hcur : D.cur k = l := by unfold DM.cur; rw [hn]; rfl
        go_enter Try.func73, Try.ntmps73
        go_wp2_with (first
          | (go_at_call 20; refine Calls.mono (down_any HD.out) ?_; rintro e w' ⟨rfl, rfl⟩)
          | (go_at_call 54; refine Calls.mono (has_any HD.out _) ?_; rintro e w' ⟨rfl, rfl⟩)
          | (refine wpList_look_sec rfl _ _ true rfl HD.out.mp (by rfl) (by rfl) HK.out.2 ?_; rw [if_pos rfl, hn])
          | (refine wpList_alloc_sec rfl rfl ?_; intro W1 V1)
          | (refine wpList_store_sec rfl _ _ rfl (by rfl) (by rfl) hl.2 V1.t ?_; intro W2 hW2; have V2 := V1.put hl.2 hW2.out; clear hW2))
        exact bodyPost_ret (by simp [results, Try.results73]; rfl) rfl ⟨_, rfl, Or.inr ⟨_, by rw [HL.out], V2.ge, V2.lt, by rw [hcur]; exact V2.r⟩, V2.bl⟩
      | none =>
        have hl := HD.out.ok.la k
        have hcur : D.cur k = D.la k := by unfold DM.cur; rw [hn]; rfl
        have hkn : (k : Int) < (D.n : Int) := by omega
        go_enter Try.func73, Try.ntmps73
        go_wp2_with (first
          | (go_at_call 20; refine Calls.mono (down_any HD.out) ?_; rintro e w' ⟨rfl, rfl⟩)
          | (go_at_call 54; refine Calls.mono (has_any HD.out _) ?_; rintro e w' ⟨rfl, rfl⟩)
          | (refine wpList_look_sec rfl _ _ true rfl HD.out.mp (by rfl) (by rfl) HK.out.2 ?_; rw [if_pos rfl, hn])
          | (refine wpList_alloc_sec rfl rfl ?_; intro W1 V1)
          | (refine wpList_store_sec rfl _ _ rfl (by rfl) (by rfl) z64_sec V1.t ?_; intro W2 hW2; have V2 := V1.put z64_sec hW2.out; have h02 := (HD.out.keep V2.bl).c0; clear hW2)
          | (refine wpList_load_sec rfl _ rfl (by rfl) hl ((HD.out.keep V2.bl).rows k HK.out.1) ?_)
          | (refine wpList_store_sec rfl _ _ rfl (by rfl) (by rfl) hl V2.t ?_; intro W3 hW3; have V3 := V2.put hl hW3.out; clear hW3))
        exact bodyPost_ret (by simp [results, Try.results73]; rfl) rfl ⟨_, rfl, Or.inr ⟨_, by rw [HL.out], V3.ge, V3.lt, by rw [hcur]; exact V3.r⟩, V3.bl⟩
    · have e1 : D.rdB i = [] := by
        unfold DM.rdB
        rw [if_neg (by simp [hdn]), if_neg hi]
      have e2 : D.rdE i = 3 := by
        unfold DM.rdE
        rw [if_neg (by simp [hdn]), if_neg hi]
      have hd : decide (0 ≤ i ∧ i < (D.n : Int)) = false := decide_eq_false hi
      rw [e1, e2]
      clear h e1 e2 hi
      go_enter Try.func73, Try.ntmps73
      go_wp2_with (first
        | (go_at_call 20; refine Calls.mono (down_any HD.out) ?_; rintro e w' ⟨rfl, rfl⟩)
        | (go_at_call 54; refine Calls.mono (has_any HD.out _) ?_; rintro e w' ⟨rfl, rfl⟩))
      exact bodyPost_ret (by simp [results, Try.results73]) rfl ⟨_, rfl, Or.inl ⟨rfl, rfl⟩, Below.refl _ _⟩
end Go.Proofs.Ytpophfeommlajaa
