/- Layer 13: the document's Read and Write. -/
import Derived.Test.YtjgpopjpmfkfmaaR13A
namespace Go.Proofs.Ytjgpopjpmfkfmaa
set_option maxRecDepth 100000
open Go.RowKit Go.Maps
attribute [local go_sem ↓] Go.wp_at_zero Go.wp_at_succ

/-- A cell of the list of what was written is put anew. -/
theorem RDk.setn {w : World} {r la na cl cn : Nat} {zl zn : Option Addr} {D : DM} {G G' : Nat → Bool} (h : RDk w r la na cl cn zl zn D G) {i : Nat} (hi : i < D.n) {v : Value} {nv : Option (List Nat)} (hG : ∀ k, G k = true → G' k = true) (hl : ∀ k, G' k = true → k < w.heap.size)
    (hv : (nv = none ∧ v = .slice none 0 0) ∨ ∃ l, nv = some l ∧ sec l ∧ Sl w G' r la na v l) : RDk (w.setCell ⟨na, i, none⟩ v) r la na cl cn zl zn { D with nw := upd D.nw i nv } G' := by
  obtain ⟨a1, a2, a3, a4, a5⟩ := h.a (Nat.lt_of_le_of_lt (Nat.zero_le _) hi)
  have hb : ∀ k, k ≠ na → (w.setCell ⟨na, i, none⟩ v).heap[k]? = w.heap[k]? := fun k hk => Below.heap_setCell _ _ _ _ hk
  have er := hb r (Ne.symm a4)
  have el := hb la a5
  have sl : ∀ {v' l}, Sl w G' r la na v' l → Sl (w.setCell ⟨na, i, none⟩ v) G' r la na v' l := fun h' => h'.same (fun k _ hx => hb k (fun e => by rw [X3_of.2 (Or.inr (Or.inr e))] at hx; cases hx))
  have c1 : ∀ o, (w.setCell ⟨na, i, none⟩ v).cell? ⟨r, o, none⟩ = w.cell? ⟨r, o, none⟩ := fun o => World.cell?_of_block (w := w) er
  refine ⟨(c1 0).trans h.c0, (c1 1).trans h.c1, (c1 2).trans h.c2, (c1 3).trans h.c3, fun i hi => by rw [World.frozen?_setCell]; exact h.z i hi, h.a, fun i hi => by rw [World.frozen?_setCell]; exact h.lz i hi, fun i hi => by rw [World.frozen?_setCell]; exact h.nz i hi, fun j hj => ?_, fun j hj => ?_, fun k hk => hG k (h.gx k hk), fun k hk => by simpa using hl k hk, ⟨h.ok.n, h.ok.la, fun j l hj => ?_, h.ok.fu⟩⟩
  · obtain ⟨u, hu, hs⟩ := h.lv j hj
    exact ⟨u, (World.cell?_of_block (w := w) el).trans hu, sl (hs.more hG)⟩
  · obtain ⟨u, hu, hs⟩ := h.nv j hj
    by_cases e : j = i
    · subst e
      refine ⟨v, World.cell?_setCell_same _ _ _ hu, ?_⟩
      simp only [upd, if_true]
      exact hv.imp id fun ⟨l, e, _, hl⟩ => ⟨l, e, sl hl⟩
    · refine ⟨u, (World.cell?_setCell_other _ _ _ _ (fun e2 => e (congrArg Addr.off e2).symm)).trans hu, ?_⟩
      simp only [upd, if_neg e]
      exact hs.imp id fun ⟨l, e, hl⟩ => ⟨l, e, sl (hl.more hG)⟩
  · by_cases e : j = i
    · subst e
      simp only [upd, if_true] at hj
      rcases hv with ⟨e1, _⟩ | ⟨m, e1, hm, _⟩
      · rw [e1] at hj; cases hj
      · rw [e1] at hj; cases hj; exact ⟨hi, hm⟩
    · simp only [upd, if_neg e] at hj
      exact h.ok.nw j l hj
/-- .. and of what lasts. -/
theorem RDk.setl {w : World} {r la na cl cn : Nat} {zl zn : Option Addr} {D : DM} {G G' : Nat → Bool} (h : RDk w r la na cl cn zl zn D G) {i : Nat} (hi : i < D.n) {v : Value} {l : List Nat} (hG : ∀ k, G k = true → G' k = true) (hlt : ∀ k, G' k = true → k < w.heap.size)
    (hs : sec l) (hv : Sl w G' r la na v l) : RDk (w.setCell ⟨la, i, none⟩ v) r la na cl cn zl zn { D with la := upd D.la i l } G' := by
  obtain ⟨a1, a2, a3, a4, a5⟩ := h.a (Nat.lt_of_le_of_lt (Nat.zero_le _) hi)
  have hb : ∀ k, k ≠ la → (w.setCell ⟨la, i, none⟩ v).heap[k]? = w.heap[k]? := fun k hk => Below.heap_setCell _ _ _ _ hk
  have er := hb r (Ne.symm a3)
  have el := hb na (Ne.symm a5)
  have sl : ∀ {v' l}, Sl w G' r la na v' l → Sl (w.setCell ⟨la, i, none⟩ v) G' r la na v' l := fun h' => h'.same (fun k _ hx => hb k (fun e => by rw [X3_of.2 (Or.inr (Or.inl e))] at hx; cases hx))
  have c1 : ∀ o, (w.setCell ⟨la, i, none⟩ v).cell? ⟨r, o, none⟩ = w.cell? ⟨r, o, none⟩ := fun o => World.cell?_of_block (w := w) er
  refine ⟨(c1 0).trans h.c0, (c1 1).trans h.c1, (c1 2).trans h.c2, (c1 3).trans h.c3, fun i hi => by rw [World.frozen?_setCell]; exact h.z i hi, h.a, fun i hi => by rw [World.frozen?_setCell]; exact h.lz i hi, fun i hi => by rw [World.frozen?_setCell]; exact h.nz i hi, fun j hj => ?_, fun j hj => ?_, fun k hk => hG k (h.gx k hk), fun k hk => by simpa using hlt k hk, ⟨h.ok.n, fun j => ?_, h.ok.nw, h.ok.fu⟩⟩
  · obtain ⟨u, hu, hs⟩ := h.lv j hj
    by_cases e : j = i
    · subst e
      refine ⟨v, World.cell?_setCell_same _ _ _ hu, ?_⟩
      simp only [upd, if_true]
      exact sl hv
    · refine ⟨u, (World.cell?_setCell_other _ _ _ _ (fun e2 => e (congrArg Addr.off e2).symm)).trans hu, ?_⟩
      simp only [upd, if_neg e]
      exact sl (hs.more hG)
  · obtain ⟨u, hu, hs⟩ := h.nv j hj
    exact ⟨u, (World.cell?_of_block (w := w) el).trans hu, hs.imp id fun ⟨l, e, hl⟩ => ⟨l, e, sl (hl.more hG)⟩⟩
  · by_cases e : j = i
    · subst e; simp only [upd, if_true]; exact hs
    · simp only [upd, if_neg e]; exact h.ok.la j
/-- What the document's Read answers. -/
def RrP (w : World) (G : Nat → Bool) (r la na : Nat) (l : List Nat) (er : Int) (e : Ending) (w' : World) : Prop := ∃ v, e = .returned (.tuple #[v, .int .i64 er]) ∧ w' = w ∧ ((l = [] ∧ v = .slice none 0 0) ∨ sec l ∧ Sl w G r la na v l)
set_option maxRecDepth 100000 in
set_option maxHeartbeats 8000000 in
theorem ref_read {w : World} {r la na cl cn : Nat} {zl zn : Option Addr} {D : DM} {G : Nat → Bool} (h : RDk w r la na cl cn zl zn D G) (i : Int) : Calls Try.prog 41 #[pp r, .int .i64 i] w (RrP w G r la na (D.rdB i) (D.rdE i)) := by
  have HD := hide h
  have h0 := h.c0
  have h1 := h.c1
  have h3 := h.c3
  cases hdn : D.dn with
  | true =>
    have e1 : D.rdB i = [] := if_pos hdn
    have e2 : D.rdE i = 6 := if_pos hdn
    rw [e1, e2]
    clear h e1 e2
    go_enter Try.func41, Try.ntmps41
    go_wp2_with fail
    exact bodyPost_ret (by simp [results, Try.results41]) rfl ⟨_, rfl, rfl, Or.inl ⟨rfl, rfl⟩⟩
  | false =>
    have hdn' : ¬ D.dn = true := by simp [hdn]
    by_cases hi : 0 ≤ i ∧ i < D.n
    · obtain ⟨k, rfl⟩ : ∃ k : Nat, i = (k : Int) := ⟨i.toNat, by omega⟩
      have hk : k < D.n := by omega
      have e1 : D.rdB k = D.cur k := (if_neg hdn').trans (if_pos hi)
      have e2 : D.rdE k = 0 := (if_neg hdn').trans (if_pos hi)
      obtain ⟨rfl, rfl, _⟩ := h.a (by omega)
      obtain ⟨vl, hvl, sl⟩ := h.lv k hk
      obtain ⟨vn, hvn, sn⟩ := h.nv k hk
      have hk' : (k : Int) < (D.n : Int) := by omega
      have hkd : decide ((D.n : Int) ≤ (k : Int)) = false := decide_eq_false (by omega)
      rw [e1, e2]
      clear h e1 e2 hi hdn'
      rcases sn with ⟨en, rfl⟩ | ⟨l, en, sn⟩
      · have ec : D.cur k = D.la k := by unfold DM.cur; rw [en]; rfl
        rw [ec]
        have HS := hide sl
        clear sl ec
        go_enter Try.func41, Try.ntmps41
        go_wp2_with fail
        exact bodyPost_ret (by simp [results, Try.results41]) rfl ⟨_, rfl, rfl, Or.inr ⟨HD.out.ok.la k, HS.out⟩⟩
      · have ec : D.cur k = l := by unfold DM.cur; rw [en]; rfl
        rw [ec]
        have HS := hide sn
        obtain ⟨g, c, rfl, _⟩ := sn
        clear sl ec
        go_enter Try.func41, Try.ntmps41
        go_wp2_with fail
        exact bodyPost_ret (by simp [results, Try.results41]) rfl ⟨_, rfl, rfl, Or.inr ⟨(HD.out.ok.nw k l en).2, HS.out⟩⟩
    · have e1 : D.rdB i = [] := (if_neg hdn').trans (if_neg hi)
      have e2 : D.rdE i = 3 := (if_neg hdn').trans (if_neg hi)
      rw [e1, e2]
      by_cases h4 : i < 0
      · clear h e1 e2 hi
        go_enter Try.func41, Try.ntmps41
        go_wp2_with fail
        exact bodyPost_ret (by simp [results, Try.results41]) rfl ⟨_, rfl, rfl, Or.inl ⟨rfl, rfl⟩⟩
      · have h5 : decide (i < 0) = false := decide_eq_false h4
        have h6 : (D.n : Int) ≤ i := by omega
        clear h e1 e2 hi
        go_enter Try.func41, Try.ntmps41
        go_wp2_with fail
        exact bodyPost_ret (by simp [results, Try.results41]) rfl ⟨_, rfl, rfl, Or.inl ⟨rfl, rfl⟩⟩
end Go.Proofs.Ytjgpopjpmfkfmaa
