/- Layer 13: two disks beside each other, and what a crash keeps: the ground. -/
import Derived.Test.YtmifmgnlfjahmaaD13T
namespace Go.Proofs.Ytmifmgnlfjahmaa
open Go.RowKit Go.Maps
attribute [local go_sem ↓] Go.wp_at_zero Go.wp_at_succ

/-- Two disks, a row of truths, and bytes. -/
structure KeR (w wr : World) (b lb mb b2 lb2 mb2 gk gl k : Nat) (D D2 : DM) (kf : Nat → Bool) (lf : Nat → Nat) : Prop where
  f : FzR w wr b lb mb D
  g : FzR w wr b2 lb2 mb2 D2
  ap : ∀ q, X3 b lb mb q = true → X3 b2 lb2 mb2 q = false
  k1 : X3 b lb mb gk = false
  k2 : X3 b2 lb2 mb2 gk = false
  l1 : X3 b lb mb gl = false
  l2 : X3 b2 lb2 mb2 gl = false
  kl : gk < wr.heap.size
  ll : gl < wr.heap.size
  kg : w.heap.size ≤ gk
  lg : w.heap.size ≤ gl
  ne : gk ≠ gl
  kc : ∀ j, j < k → wr.cell? ⟨gk, j, none⟩ = some (.bool (kf j))
  kz : ∀ j, j < k → wr.frozen? ⟨gk, j, none⟩ = false
  lc : ∀ j, j < 41 → wr.cell? ⟨gl, j, none⟩ = some (.int .u8 (lf j : Int))
  lz : ∀ j, j < 41 → wr.frozen? ⟨gl, j, none⟩ = false
theorem FzR.lts {w wr : World} {b lb mb : Nat} {D : DM} (h : FzR w wr b lb mb D) {q : Nat} (hq : X3 b lb mb q = true) : q < wr.heap.size ∧ w.heap.size ≤ q := by
  have h1 := h.d.bl
  have h2 := h.d.ll
  have h3 := h.d.mp.lt
  have g1 := h.b
  have g2 := h.l
  have g3 := h.m
  rcases X3_of.1 hq with e | e | e <;> omega
/-- Where all its own stays, it stays. -/
theorem KeR.to {w wr w' : World} {b lb mb b2 lb2 mb2 gk gl k : Nat} {D D2 D' D2' : DM} {kf : Nat → Bool} {lf : Nat → Nat} (h : KeR w wr b lb mb b2 lb2 mb2 gk gl k D D2 kf lf) (hf : FzR w w' b lb mb D') (hg : FzR w w' b2 lb2 mb2 D2') (hs : wr.heap.size ≤ w'.heap.size) (e1 : w'.heap[gk]? = wr.heap[gk]?) (e2 : w'.heap[gl]? = wr.heap[gl]?) : KeR w w' b lb mb b2 lb2 mb2 gk gl k D' D2' kf lf :=
  ⟨hf, hg, h.ap, h.k1, h.k2, h.l1, h.l2, Nat.lt_of_lt_of_le h.kl hs, Nat.lt_of_lt_of_le h.ll hs, h.kg, h.lg, h.ne, fun j hj => (World.cell?_of_block (w := wr) e1).trans (h.kc j hj), fun j hj => (World.frozen?_of_block (w := wr) e1).trans (h.kz j hj), fun j hj => (World.cell?_of_block (w := wr) e2).trans (h.lc j hj), fun j hj => (World.frozen?_of_block (w := wr) e2).trans (h.lz j hj)⟩
theorem KeR.call1 {w wr w' : World} {b lb mb b2 lb2 mb2 gk gl k : Nat} {D D2 D' : DM} {kf : Nat → Bool} {lf : Nat → Nat} (h : KeR w wr b lb mb b2 lb2 mb2 gk gl k D D2 kf lf) (hD : Dsk w' b lb mb D') (hK : Kp (X3 b lb mb) wr w') : KeR w w' b lb mb b2 lb2 mb2 gk gl k D' D2 kf lf := by
  have hf := h.f.next hD hK
  refine h.to hf ⟨h.g.d.same hK.size (fun q hq => hK.block q (h.g.lts hq).1 ?_), h.g.b, h.g.l, h.g.m, hf.k⟩ hK.size (hK.block gk h.kl h.k1) (hK.block gl h.ll h.l1)
  cases hx : X3 b lb mb q with
  | false => rfl
  | true => rw [h.ap q hx] at hq; cases hq
theorem KeR.call2 {w wr w' : World} {b lb mb b2 lb2 mb2 gk gl k : Nat} {D D2 D' : DM} {kf : Nat → Bool} {lf : Nat → Nat} (h : KeR w wr b lb mb b2 lb2 mb2 gk gl k D D2 kf lf) (hD : Dsk w' b2 lb2 mb2 D') (hK : Kp (X3 b2 lb2 mb2) wr w') : KeR w w' b lb mb b2 lb2 mb2 gk gl k D D' kf lf := by
  have hg := h.g.next hD hK
  exact h.to ⟨h.f.d.same hK.size (fun q hq => hK.block q (h.f.lts hq).1 (h.ap q hq)), h.f.b, h.f.l, h.f.m, hg.k⟩ hg hK.size (hK.block gk h.kl h.k2) (hK.block gl h.ll h.l2)
theorem KeR.grow {w wr w' : World} {b lb mb b2 lb2 mb2 gk gl k : Nat} {D D2 : DM} {kf : Nat → Bool} {lf : Nat → Nat} (h : KeR w wr b lb mb b2 lb2 mb2 gk gl k D D2 kf lf) (hB : Below wr.heap.size wr w') : KeR w w' b lb mb b2 lb2 mb2 gk gl k D D2 kf lf :=
  h.to (h.f.grow hB) (h.g.grow hB) hB.size (hB.block gk h.kl) (hB.block gl h.ll)
theorem FzR.set {w wr : World} {b lb mb : Nat} {D : DM} (h : FzR w wr b lb mb D) {g o : Nat} {v : Value} (hg : w.heap.size ≤ g) (hx : X3 b lb mb g = false) : FzR w (wr.setCell ⟨g, o, none⟩ v) b lb mb D :=
  ⟨h.d.same (by simp) (fun q hq => Below.heap_setCell _ _ _ _ (fun e => by
    have e' : q = g := e
    rw [e', hx] at hq
    cases hq)), h.b, h.l, h.m, h.k.setCell (p := ⟨g, o, none⟩) hg v⟩
theorem KeR.setl {w wr : World} {b lb mb b2 lb2 mb2 gk gl k : Nat} {D D2 : DM} {kf : Nat → Bool} {lf : Nat → Nat} (h : KeR w wr b lb mb b2 lb2 mb2 gk gl k D D2 kf lf) {o : Nat} (ho : o < 41) (v : Nat) : KeR w (wr.setCell ⟨gl, o, none⟩ (.int .u8 (v : Int))) b lb mb b2 lb2 mb2 gk gl k D D2 kf (upd lf o v) := by
  have e1 : (wr.setCell ⟨gl, o, none⟩ (.int .u8 (v : Int))).heap[gk]? = wr.heap[gk]? := Below.heap_setCell _ _ _ _ h.ne
  refine ⟨h.f.set h.lg h.l1, h.g.set h.lg h.l2, h.ap, h.k1, h.k2, h.l1, h.l2, by simpa using h.kl, by simpa using h.ll, h.kg, h.lg, h.ne, fun j hj => (World.cell?_of_block (w := wr) e1).trans (h.kc j hj), fun j hj => (World.frozen?_of_block (w := wr) e1).trans (h.kz j hj), fun j hj => ?_, fun j hj => by rw [World.frozen?_setCell]; exact h.lz j hj⟩
  by_cases e : j = o
  · subst e
    rw [World.cell?_setCell_same _ _ _ (h.lc j hj)]
    simp [upd]
  · rw [World.cell?_setCell_other _ _ _ _ (fun e2 => e (congrArg Addr.off e2).symm), h.lc j hj]
    simp [upd, e]
theorem KeR.setk {w wr : World} {b lb mb b2 lb2 mb2 gk gl k : Nat} {D D2 : DM} {kf : Nat → Bool} {lf : Nat → Nat} (h : KeR w wr b lb mb b2 lb2 mb2 gk gl k D D2 kf lf) {o : Nat} (ho : o < k) : KeR w (wr.setCell ⟨gk, o, none⟩ (.bool true)) b lb mb b2 lb2 mb2 gk gl k D D2 (upd kf o true) lf := by
  have e1 : (wr.setCell ⟨gk, o, none⟩ (.bool true)).heap[gl]? = wr.heap[gl]? := Below.heap_setCell _ _ _ _ (Ne.symm h.ne)
  refine ⟨h.f.set h.kg h.k1, h.g.set h.kg h.k2, h.ap, h.k1, h.k2, h.l1, h.l2, by simpa using h.kl, by simpa using h.ll, h.kg, h.lg, h.ne, fun j hj => ?_, fun j hj => by rw [World.frozen?_setCell]; exact h.kz j hj, fun j hj => (World.cell?_of_block (w := wr) e1).trans (h.lc j hj), fun j hj => (World.frozen?_of_block (w := wr) e1).trans (h.lz j hj)⟩
  by_cases e : j = o
  · subst e
    rw [World.cell?_setCell_same _ _ _ (h.kc j hj)]
    simp [upd]
  · rw [World.cell?_setCell_other _ _ _ _ (fun e2 => e (congrArg Addr.off e2).symm), h.kc j hj]
    simp [upd, e]
/-- The sector with one byte at its end. -/
def zv (v : Nat) : List Nat := z64.set 63 v
theorem zv_sec {v : Nat} (h : v < 256) : sec (zv v) := by
  refine ⟨by simp [zv, z64], fun x hx => ?_⟩
  rcases List.mem_or_eq_of_mem_set hx with h1 | h1
  · exact z64_sec.2 x h1
  · omega
/-- What the law's writes leave: the disk, and the last byte of each sector. -/
structure KeM : Type where
  D : DM
  l : Nat → Nat
def ke (k : Nat) (f : Nat → Nat) (y : Nat) : Nat → KeM
  | 0 => ⟨DM.new k, fun _ => 0⟩
  | i + 1 => ⟨(ke k f y i).D.wr ((f i % k : Nat) : Int) (zv ((y + i) % 256)), upd (ke k f y i).l (f i % k) ((y + i) % 256)⟩
structure KeM.ok (M : KeM) (k : Nat) : Prop where
  dn : M.D.dn = false
  fu : M.D.fu = none
  n : M.D.n = k
  la : M.D.la = fun _ => z64
  v : ∀ j, M.l j < 256
  w : ∀ j, (M.D.nw j = none ∧ M.l j = 0) ∨ M.D.nw j = some (zv (M.l j))
theorem ke_ok {k : Nat} (hk : 0 < k) (f : Nat → Nat) (y : Nat) : ∀ i, (ke k f y i).ok k
  | 0 => ⟨rfl, rfl, rfl, rfl, fun _ => by show 0 < 256; omega, fun _ => Or.inl ⟨rfl, rfl⟩⟩
  | i + 1 => by
    have h := ke_ok hk f y i
    have hlt : f i % k < k := Nat.mod_lt _ hk
    have hv : (y + i) % 256 < 256 := Nat.mod_lt _ (by omega)
    have hd : ¬ (ke k f y i).D.dn = true := by simp [h.dn]
    have hb : (ke k f y i).D.burn = (ke k f y i).D := by unfold DM.burn; rw [h.fu]
    have hm : (ke k f y i).D.may = true := by unfold DM.may; rw [h.fu]
    have e : (ke k f y (i + 1)).D = { (ke k f y i).D.burn with nw := upd (ke k f y i).D.nw (f i % k) (some (zv ((y + i) % 256))) } := by
      show (ke k f y i).D.wr _ _ = _
      unfold DM.wr
      rw [if_neg hd, if_pos (by rw [h.n]; omega), if_pos (zv_sec hv).1, if_pos hm]
      rfl
    rw [hb] at e
    refine ⟨by rw [e]; exact h.dn, by rw [e]; exact h.fu, by rw [e]; exact h.n, by rw [e]; exact h.la, fun j => ?_, fun j => ?_⟩
    · show upd _ _ _ j < 256
      unfold upd
      split
      · exact hv
      · exact h.v j
    · rw [e]
      show (upd _ _ _ j = none ∧ upd _ _ _ j = 0) ∨ upd _ _ _ j = some (zv (upd (ke k f y i).l (f i % k) ((y + i) % 256) j))
      unfold upd
      by_cases e1 : j = f i % k
      · right; rw [if_pos e1, if_pos e1]
      · rw [if_neg e1, if_neg e1]; exact h.w j
theorem mix_all {s l : List Nat} (hs : sec s) (hl : sec l) : mix 64 s l = s := by
  unfold mix
  rw [List.take_of_length_le (by rw [hs.1]; omega), List.drop_eq_nil_of_le (by rw [hl.1]; omega), List.append_nil]
theorem ke_keeps {M : KeM} {k : Nat} (h : M.ok k) (hok : M.D.ok) (i : Nat) : (M.D.cr (List.replicate k true) (-1) 0).la i = zv (M.l i) := by
  show (match M.D.nw i with | none => M.D.la i | some s => mix (lv (List.replicate k true) (-1) 0 (rk M.D.nw i)) s (M.D.la i)) = _
  rcases h.w i with ⟨h1, h2⟩ | h1
  · rw [h1, h2]
    show M.D.la i = _
    rw [h.la]
    show z64 = zv 0
    decide
  · rw [h1]
    have hi := (hok.nw i _ h1).1
    have hr : rk M.D.nw i < k := by
      have := rk_lt (nw := M.D.nw) hi (by rw [h1]; rfl)
      have h3 := wrs_le M.D.n M.D.nw
      rw [h.n] at this h3
      omega
    have e : lv (List.replicate k true) (-1) 0 (rk M.D.nw i) = 64 := by
      unfold lv
      rw [if_neg (by omega), List.getD_eq_getElem?_getD, List.getElem?_replicate, if_pos hr]
      rfl
    show mix (lv (List.replicate k true) (-1) 0 (rk M.D.nw i)) (zv (M.l i)) (M.D.la i) = _
    rw [e]
    exact mix_all (zv_sec (h.v i)) (hok.la i)
theorem ke_none {M : KeM} {k : Nat} (h : M.ok k) (i : Nat) : (M.D.cr [] (-1) 0).la i = z64 := by
  show (match M.D.nw i with | none => M.D.la i | some s => mix (lv [] (-1) 0 (rk M.D.nw i)) s (M.D.la i)) = _
  have hl : M.D.la i = z64 := by rw [h.la]
  cases hn : M.D.nw i with
  | none => exact hl
  | some s =>
    have e : lv [] (-1) 0 (rk M.D.nw i) = 0 := by
      unfold lv
      rw [if_neg (by omega)]
      rfl
    show mix (lv [] (-1) 0 (rk M.D.nw i)) s (M.D.la i) = _
    rw [e, hl]
    rfl
end Go.Proofs.Ytmifmgnlfjahmaa
