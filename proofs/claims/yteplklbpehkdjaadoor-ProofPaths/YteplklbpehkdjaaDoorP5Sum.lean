/- What the program's own Sum answers. -/
import Derived.Test.YteplklbpehkdjaaDoorP5DSum
namespace Go.Proofs.YteplklbpehkdjaaDoor
set_option maxRecDepth 100000
open Go.RowKit
attribute [local go_sem ↓] Go.wp_at_zero Go.wp_at_succ

/-- A list of parts in memory. -/
structure PL (w : World) (x : Option Addr) (k : Nat) (A : Nat → Option Addr) (L C : Nat → Nat) (G : Nat → Nat → Nat) : Prop where
  ba : ∀ i, i < k → BA w (A i) (L i) (G i)
  cp : ∀ i, i < k → L i ≤ C i ∧ C i ≤ maxLen
  at_ : k = 0 ∨ ∃ b o, x = some ⟨b, o, none⟩ ∧ ∀ i, i < k → w.cell? ⟨b, o + i, none⟩ = some (.slice (A i) (L i) (C i))
theorem PL.keep {W w1 : World} {x : Option Addr} {k : Nat} {A : Nat → Option Addr} {L C : Nat → Nat} {G : Nat → Nat → Nat} (h : PL W x k A L C G) (hb : Below W.heap.size W w1) : PL w1 x k A L C G :=
  ⟨fun i hi => (h.ba i hi).keep hb, h.cp, h.at_.elim Or.inl fun ⟨b, o, e, hc⟩ => Or.inr ⟨b, o, e, fun i hi => later hb (hc i hi)⟩⟩
def lenF (L : Nat → Nat) : Nat → Nat
  | 0 => 0
  | i + 1 => lenF L i + L i
def catF (L : Nat → Nat) (G : Nat → Nat → Nat) : Nat → Nat → Nat
  | 0 => fun _ => 0
  | i + 1 => cat (catF L G i) (lenF L i) (G i)
theorem lenF_mono (L : Nat → Nat) {i k : Nat} (h : i ≤ k) : lenF L i ≤ lenF L k := by
  induction k with
  | zero => obtain rfl : i = 0 := by omega
            exact Nat.le_refl _
  | succ k ih =>
    by_cases e : i = k + 1
    · rw [e]; exact Nat.le_refl _
    · have := ih (by omega)
      simp only [lenF]
      omega
set_option maxRecDepth 100000 in
set_option maxHeartbeats 8000000 in
theorem sum_any {w : World} {x : Option Addr} {k c : Nat} {A : Nat → Option Addr} {L C : Nat → Nat} {G : Nat → Nat → Nat} (hT : Tab w) (hP : PL w x k A L C G) (hk : k ≤ 1000000) (hl : lenF L k ≤ 800000) :
    Calls Tryd.prog 28 #[.slice x k c] w fun e w' => e = .returned (.agg (ab (hByte (hashS (catF L G k) (lenF L k))) 32).toArray) ∧ Below w.heap.size w w' := by
  have HT := hide hT
  have HL := hide hT.lt
  have HP := hide hP
  have HN := hide hl
  have hki : (k : Int) ≤ 1000000 := by omega
  clear hT hP hl
  have zD := fun W => zeroDig W
  go_enter Tryd.func28, Tryd.ntmps28
  go_upto_region 2 with fail
  refine wp_world (fun X hX => ?_)
  have hB : Below w.heap.size w X := by rw [hX]; exact K.alloc (K.alloc (Below.refl _ _) _) _
  have hH : RowB X w.heap.size 32 (fun _ => 0) := by
    rw [hX]
    have h := Row8.keep (RowB.made w 32 32 (fun _ => 0) _ zeros32) (K.alloc (Below.refl _ _) (.cells (dg st0 (fun _ => 0) 0).toArray 63))
    exact h
  have hZ : DigR X (w.heap.size + 1) st0 (fun _ => 0) 0 := by
    rw [hX]
    have h := DigR.made (w.alloc (.cells (ab (fun _ => 0) 32).toArray 32)) 63 st0 (fun _ => 0) 0 _ rfl
    rw [← zeros32] at h
    have e : ∀ o, (w.alloc o).heap.size = w.heap.size + 1 := fun o => by simp
    rw [e] at h
    exact h
  clear hX zD
  obtain ⟨b0, hb0⟩ : ∃ b0, w.heap.size = b0 := ⟨_, rfl⟩
  rw [hb0] at hB hH hZ HL ⊢
  have HH := hide hH
  have HZ := hide hZ
  have HB := hide hB
  clear hH hZ hB
  go_wp2_with fail
  go_loopg [8] k (fun g s8 wr => ∃ i : Nat, g = k - i ∧ i ≤ k ∧ s8 = .int .i64 i ∧ Dig wr (b0 + 1) (catF L G i) (lenF L i) ∧ RowB wr b0 32 (fun _ => 0) ∧ Below b0 w wr)
  case atStart => exact ⟨0, rfl, by omega, rfl, ⟨st0, fun _ => 0, HZ.out, Or.inl rfl, fun _ => by show 0 < 256; omega, fun i hi => by simp only [lenF] at hi; omega⟩, HH.out, HB.out⟩
  case round =>
    clear HH HZ HB
    obtain ⟨i, rfl, hi, rfl, hD, hH, hB⟩ := hrel
    have hB' : Below w.heap.size w wr := by rw [hb0]; exact hB
    have HT1 := hide (HT.out.keep hB')
    have HP1 := hide (HP.out.keep hB')
    clear hB'
    by_cases hlt : i < k
    · rcases HP1.out.at_ with h0 | ⟨pb, po, rfl, hc⟩
      · omega
      have ci := hc i hlt
      have hii : (i : Int) < (k : Int) := by omega
      have hcp := HP1.out.cp i hlt
      have hln : lenF L i + L i ≤ 800000 := by
        have h1 := HN.out
        have h2 : lenF L (i + 1) ≤ lenF L k := lenF_mono L hlt
        simp only [lenF] at h2
        omega
      have hDl : b0 + 1 < wr.heap.size := by obtain ⟨s, r, h, _⟩ := hD; exact h.lt
      have HW := hide (write_any (c := C i) HT1.out (by have := HL.out; omega) (HP1.out.ba i hlt) (fun hm p hp => by
        have h1 := (HP.out.ba i hlt).block hm p hp
        omega) hcp.1 hcp.2 hD (by omega))
      have HH := hide hH
      have HB := hide hB
      have HI := hide (And.intro hlt hDl)
      clear hc hcp hD hH hB hi hln hDl hlt
      go_wp2_with fail
      with_reducible refine Calls.mono HW.out ?_
      rintro e W2 ⟨⟨v, rfl⟩, hD2, hG2⟩
      have hH2 : RowB W2 b0 32 (fun _ => 0) := ⟨Nat.lt_of_lt_of_le HH.out.lt hG2.size, fun i hi => hG2.cell (HH.out.c i hi) (by simp), fun i hi => by
        rw [World.frozen?_of_block (w := wr) (hG2.block b0 HH.out.lt (by simp))]; exact HH.out.z i hi⟩
      have hB2 : Below b0 w W2 := HB.out.grown hG2 (by have := HI.out; omega) (fun k hk => by cases hk; omega)
      clear HW HH HB ci hG2
      go_wp2_with fail
      go_roundg (k - (i + 1))
      case measure => have := HI.out; omega
      case rel => exact ⟨i + 1, rfl, by have := HI.out; omega, by go_num, hD2, hH2, hB2⟩
    · obtain rfl : i = k := by omega
      have HS := hide (dsum_any HT1.out hD HN.out)
      have HH := hide hH
      have HB := hide hB
      clear hD hH hB hi hlt
      go_wp2_with fail
      with_reducible refine Calls.mono HS.out ?_
      rintro e W3 ⟨rfl, hb⟩
      have hH3 := Row8.keep HH.out hb
      have hB3 : Below b0 w W3 := by subst hb0; exact K.call HB.out hb
      have HTH := hide (RowB.there hH3 (hByte (hashS (catF L G i) (lenF L i))))
      have HST := hide (RowB.stored hH3 (hByte (hashS (catF L G i) (lenF L i))))
      have HB : Hid (Below b0 w (W3.setCells b0 0 (ab (hByte (hashS (catF L G i) (lenF L i))) 32).toArray.toList)) := by subst hb0; exact below_setCells _ _ hB3 (Nat.le_refl _)
      clear hb hH3 hB3 HH HS
      generalize hs2 : hashS (catF L G i) (lenF L i) = s2 at HTH HST HB ⊢
      have HS2 := hide hs2
      clear hs2
      go_wp2_with (refine wpList_store_mid rfl 32 _ _ rfl b0 0 (ab (hByte s2) 32).toArray rfl rfl HTH.out (inH _) (all_oneCell_toArray (ab_one _ _)) ?_; generalize W3.setCells b0 0 (ab (hByte s2) 32).toArray.toList = Z at HST HB ⊢)
      exact bodyPost_ret (results_cell_mid Tryd.results28 _ _ b0 (ab (hByte s2) 32) _ rfl (RowB.range HST.out) Tryd.underlying32 rfl (ilH _)) rfl ⟨by rw [HS2.out], by rw [hb0]; exact HB.out⟩
end Go.Proofs.YteplklbpehkdjaaDoor
