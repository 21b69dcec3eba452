/- Layer 15: the document's Append. -/
import Derived.Test.YtpophfeommlajaaMP43
namespace Go.Proofs.Ytpophfeommlajaa
open Go.RowKit Go.Maps
attribute [local go_sem ↓] Go.wp_at_zero Go.wp_at_succ

section
variable {w : World} {bs t r : Nat} {Y : Nat → Bool} {vk vw : Value} {ck cw : List Value} {K Wt : List (List Nat)}
theorem append_over2 (h : RSt w bs t r Y vk vw ck cw K Wt true) (v : Value) : Calls Try.prog 12 #[pp t, v] w fun e w' => e = .returned (.int .i64 6) ∧ w' = w := by
  have h3 := h.c3
  clear h
  go_enter Try.func12, Try.ntmps12
  go_wp2_with fail
  go_ret
  exact ⟨rfl, rfl⟩
theorem append_long2 (h : RSt w bs t r Y vk vw ck cw K Wt false) {x : Option Addr} {m c : Nat} (hm : 200 < m) : Calls Try.prog 12 #[pp t, .slice x m c] w fun e w' => e = .returned (.int .i64 4) ∧ w' = w := by
  have h3 := h.c3
  have hm' : (200 : Int) < (m : Int) := by omega
  clear h
  go_enter Try.func12, Try.ntmps12
  go_wp2_with fail
  go_ret
  exact ⟨rfl, rfl⟩
theorem append_full2 {la na cl cn : Nat} {zl zn : Option Addr} {D : DM} {G : Nat → Bool} (h : RSt w bs t r Y vk vw ck cw K Wt false) (hd : RDk w r la na cl cn zl zn D G) (hk : short K ∧ K.length ≤ 1000000) (hw : short Wt ∧ Wt.length ≤ 1000000) {x : Option Addr} {m c : Nat} (hm : m ≤ 200) (hf : D.n < 3 + tks K + tks Wt + tk m) : Calls Try.prog 12 #[pp t, .slice x m c] w fun e w' => e = .returned (.int .i64 5) ∧ Below w.heap.size w w' := by
  have h3 := h.c3
  have HR := hide (ref_room h hd hk hw)
  have hm' : ¬ ((200 : Int) < (m : Int)) := by omega
  have hm9 : m ≤ 1000000000 := by omega
  have hlt : (D.n : Int) - 3 - (tks K : Int) - (tks Wt : Int) < (tk m : Int) := by omega
  clear h hd
  go_enter Try.func12, Try.ntmps12
  go_wp2_with (first
    | (go_at_call 45; refine Calls.mono (takes_any hm9) ?_; rintro e w ⟨rfl, rfl⟩)
    | (go_at_call 37; refine Calls.mono HR.out ?_; rintro e W1 ⟨rfl, hB1⟩; have HB1 := hide hB1; clear hB1))
  go_ret
  exact ⟨rfl, HB1.out⟩
end
/-- The row of an entry's bytes while noughts are put behind them. -/
structure PdR (w wr : World) (v : Value) (f : Nat → Nat) (m j : Nat) : Prop where
  k : Below w.heap.size w wr
  o : wr.ownsRow w.heap.size 5 1 v j (cells8 (fl (encf f m) j))
theorem PdR.step {w wr w1 : World} {v v' : Value} {f : Nat → Nat} {m j : Nat} (h : PdR w wr v f m j) (hj : 2 + m ≤ j) {o : Obj} (ho : w1.ownsRow w.heap.size 5 1 v' (j + 1) (cells8 (fl (encf f m) j ++ fl (fun _ => 0) 1))) (hg : (wr.alloc o).grownBy w1 v.ownBlock) : PdR w w1 v' f m (j + 1) := by
  refine ⟨below_append (K.alloc h.k o) (own_keep h.o (K.alloc (Below.refl _ _) _)) hg, ?_⟩
  rw [fl_succ]
  have e : encf f m j = 0 := by
    unfold encf pz
    rw [if_neg (by omega), if_neg (by omega), if_neg (by omega)]
  rw [e]
  exact ho
theorem mod64 {m j : Nat} (h1 : 2 + m ≤ j) : (j < 64 * tk m → ¬ j % 64 = 0) ∧ (64 * tk m) % 64 = 0 := by
  unfold tk at *
  omega
theorem enc_two (m : Nat) (f : Nat → Nat) : [m % 256, m / 256] ++ fl f m = fl (encf f m) (2 + m) := by
  apply List.ext_getElem?
  intro i
  by_cases h0 : i < 2 + m
  · rw [fl_at _ h0]
    unfold encf pz
    by_cases e0 : i = 0
    · subst e0; rfl
    · by_cases e1 : i = 1
      · subst e1; rfl
      · rw [if_neg e0, if_neg e1, if_pos (by omega), List.getElem?_append_right (by show 2 ≤ i; omega)]
        exact fl_at f (show i - 2 < m by omega)
  · rw [List.getElem?_eq_none (by rw [List.length_append, fl_len]; show 2 + m ≤ i; omega), List.getElem?_eq_none (by rw [fl_len]; omega)]
theorem two_own (w : World) {m : Nat} (hm : m ≤ 200) : (w.alloc (.cells #[.int .u8 (m : Int), .int .u8 0] 5)).ownsRow w.heap.size 5 1 (.slice (some ⟨w.heap.size, 0, none⟩) 2 2) 2 (cells8 [m % 256, m / 256]) := by
  have e1 : m % 256 = m := by omega
  have e2 : m / 256 = 0 := by omega
  rw [e1, e2]
  exact ⟨rfl, Or.inr ⟨w.heap.size, 2, _, rfl, Nat.le_refl _, heap_alloc_new w _, by decide, by decide, rfl, rfl⟩⟩
/-- One entry more waits. -/
theorem RSt.push {w0 W W3 : World} {bs t r : Nat} {Y : Nat → Bool} {vk vw v' : Value} {ck cw : List Value} {K Wt : List (List Nat)} (h0 : RSt w0 bs t r Y vk vw ck cw K Wt false) (hY : ∀ g, Y g = true → g < w0.heap.size) (hB : Below w0.heap.size w0 W) {x : Option Addr} {m c : Nat} {f : Nat → Nat} (hb : BA W x m f) (hx : 0 < m → ∀ p, x = some p → w0.heap.size ≤ p.block) {o : Obj}
    (ho : W3.ownsRow bs 38 1 v' (Wt.length + 1) (cw ++ [.slice x m c])) (hG : (W.alloc o).grownBy W3 vw.ownBlock) (hat : v'.ownBlock = vw.ownBlock ∨ v'.ownBlock = some (W.alloc o).heap.size) :
    RSt (W3.setCell ⟨t, 2, none⟩ v') bs t r Y vk v' ck (cw ++ [.slice x m c]) K (Wt ++ [fl f m]) false ∧ W3.cell? ⟨t, 2, none⟩ = some vw ∧ W3.frozen? ⟨t, 2, none⟩ = false := by
  have h1 := h0.keep (hB.trans ((Go.Proofs.Ytpophfeommlajaa.K.alloc (Below.refl _ W) o).mono hB.size))
  have htn : vw.ownBlock ≠ some t := fun e => by
    have := h0.s.x t e
    rw [Xu_of (Or.inr rfl)] at this
    cases this
  have e := hG.block t h1.tl (fun e => htn e.symm)
  have ec : ∀ i, W3.cell? ⟨t, i, none⟩ = (W.alloc o).cell? ⟨t, i, none⟩ := fun i => World.cell?_of_block (w := W.alloc o) e
  have ef : ∀ i, W3.frozen? ⟨t, i, none⟩ = (W.alloc o).frozen? ⟨t, i, none⟩ := fun i => World.frozen?_of_block (w := W.alloc o) e
  have hsz : w0.heap.size ≤ (W.alloc o).heap.size := Nat.le_trans hB.size (by simp)
  have hXu : ∀ k, Xu Y t k = true → k < w0.heap.size := fun k hk => by
    rcases Xu_inv hk with e1 | e1
    · exact hY k e1
    · rw [e1]; exact h0.tl
  have hbo := hb.keep (Go.Proofs.Ytpophfeommlajaa.K.alloc (Below.refl _ W) o)
  have hs : Lst W3 bs (Xu Y t) v' (Wt ++ [fl f m]) (cw ++ [.slice x m c]) := h1.s.push (fun k hk => Nat.lt_of_lt_of_le (hXu k hk) hsz) hbo (fun hm p hp => ⟨by
      cases hq : Xu Y t p.block with
      | false => rfl
      | true => have := hXu _ hq; have := hx hm p hp; omega, fun e1 => by have := (h0.s.o.lt _ e1).2; have := hx hm p hp; omega⟩) ho hG hat
  have hk : Lst W3 bs (Xt Y t v') vk K ck := by
    have a1 : Lst (W.alloc o) bs (fun k => Xt Y t vw k || decide (v'.ownBlock = some k)) vk K ck := h1.k.more (fun k hk => by
      rcases Bool.or_eq_true _ _ |>.mp hk with e1 | e1
      · exact Or.inl e1
      · rcases hat with e2 | e2
        · exact Or.inl (Xt_own (e2.symm.trans (of_decide_eq_true e1)))
        · refine Or.inr ?_
          have := e2.symm.trans (of_decide_eq_true e1)
          cases this
          exact Nat.le_refl _)
    refine (a1.kp (grown_kp hG (fun k hk => by show (Xt Y t vw k || _) = true; rw [Xt_own hk, Bool.true_or]))).sub (fun k hk => ?_)
    show (Xt Y t vw k || _) = true
    rcases Xt_inv hk with e1 | e1
    · rw [Xt_u e1, Bool.true_or]
    · rw [decide_eq_true e1, Bool.or_true]
  have hT : Xt Y t v' t = true := Xt_u (Xu_of (Or.inr rfl))
  have hU : Xu Y t t = true := Xu_of (Or.inr rfl)
  refine ⟨⟨(cell_oth (by decide)).trans ((ec 0).trans h1.c0), (cell_oth (by decide)).trans ((ec 1).trans h1.c1), cell_at ((ec 2).trans h1.c2), (cell_oth (by decide)).trans ((ec 3).trans h1.c3), fun i hi => by rw [World.frozen?_setCell, ef]; exact h1.z i hi, ?_, h1.ty, RSt.set hk hT, RSt.set hs hU⟩, (ec 2).trans h1.c2, (ef 2).trans (h1.z 2 (by decide))⟩
  have := h1.tl
  have := hG.size
  simp at *
  omega
def RaP (w : World) (bs t r la na cl cn : Nat) (zl zn : Option Addr) (Y G : Nat → Bool) (vk vw : Value) (ck : List Value) (D : DM) (er : Int) (K Wt : List (List Nat)) (ov : Bool) (e : Ending) (w' : World) : Prop := e = .returned (.int .i64 er) ∧ ∃ G' vw' cw', RDk w' r la na cl cn zl zn D G' ∧ (∀ k, G' k = true → G k = true ∨ w.heap.size ≤ k) ∧ RSt w' bs t r Y vk vw' ck cw' K Wt ov ∧ Kp (Xt (X3 r la na) t vw) w w' ∧ (vw'.ownBlock = vw.ownBlock ∨ ∃ g, vw'.ownBlock = some g ∧ w.heap.size ≤ g) ∧ ∀ g, vw'.ownBlock = some g → G' g = false
theorem rw1 {o i k : Nat} (h : o = 64 * i) (hi : i < k) (h4 : k ≤ 4) : wrap64 (64 * (i : Int)) = (o : Int) := (w63 (by omega) (by omega)).trans (by omega)
theorem rw2 {p a b c n i : Nat} (h : p = 3 + a + b) (h1 : 3 + a + b + c ≤ n) (h2 : n ≤ 4096) (hi : i < c) : wrap64 ((p : Int) + (i : Int)) = (p : Int) + (i : Int) := w63 (by omega) (by omega)
theorem rw3 {o i k : Nat} (h : o = 64 * i) (hi : i < k) (h4 : k ≤ 4) : wrap64 ((o : Int) + 64) = (o : Int) + 64 := w63 (by omega) (by omega)
theorem rw4 {o i k j : Nat} (hj : j = 64 * k) (h : o = 64 * i) (hi : i < k) : (o : Int) < (j : Int) := by omega
theorem rw5 {o i k j c : Nat} (hj : j = 64 * k) (h : o = 64 * i) (hi : i < k) (hc : j ≤ c) : o + 64 ≤ c := by omega
theorem rw6 {o c : Nat} (h : o + 64 ≤ c) : ¬ (c = o) := by omega
theorem rw7 {o i k : Nat} (h : o = 64 * i) (hi : i < k) : o + 64 ≤ 64 * k := by omega
theorem rw10 {q j cap o : Nat} (h : o + 64 ≤ cap) (w' : World) : (Instr.sliceAt 38 (.slice (some ⟨q, 0, none⟩) j cap) (some (.int .i64 (o : Int))) (some (.int .i64 ((o : Int) + 64))) none).run Try.prog w' = .ok (.slice (some ⟨q, o, none⟩) 64 (cap - o)) w' := by
  have e1 : ((o : Int) + 64).toNat = o + 64 := by omega
  have e2 : (0 : Int) ≤ (o : Int) + 64 ∧ (o : Int) + 64 ≤ (cap : Int) := by omega
  have e3 : ¬ (cap = o) := by omega
  have e4 : (o : Int) ≤ (o : Int) + 64 := by omega
  have e5 : o + 64 - o = 64 := by omega
  go_simp
theorem rw11 {j k i : Nat} (h : j = 64 * k) (hi : i = k) (h4 : k ≤ 4) : wrap64 (64 * (i : Int)) = (j : Int) := (w63 (by omega) (by omega)).trans (by omega)
theorem rw12 {m : Nat} (h : m ≤ 200) : 0 + m ≤ 1000000 := by omega
theorem rw13 {m : Nat} (h : m ≤ 100000) : m + 1 ≤ 1000000 := by omega
theorem rw9 {i k : Nat} (h : i < k) : k - (i + 1) < k - i := by omega
theorem rw8 {o i k q : Nat} (h : o = 64 * i) (hi : i < k) (hq : q < 64) : o + q < 64 * k := by omega
/-- While an entry is written on the document's disk. -/
structure RwI (w W5 wr : World) (t r la na cl cn : Nat) (zl zn : Option Addr) (G : Nat → Bool) (D : DM) (p : Nat) (f : Nat → Nat) (m i q cq : Nat) : Prop where
  d : ∃ G', RsR w wr r la na cl cn zl zn (apw D p f m i).1 G G'
  e : (apw D p f m i).2 = 0
  k : Kp (X3 r la na) W5 wr
  r : wr.rangeAt q 0 (cells8 (fl (encf f m) (64 * tk m)))
set_option maxRecDepth 100000 in
set_option maxHeartbeats 8000000 in
theorem append_n2 {w : World} {bs t r la na cl cn : Nat} {zl zn : Option Addr} {Y G : Nat → Bool} {vk vw : Value} {ck cw : List Value} {K Wt : List (List Nat)} {D : DM} (h : RSt w bs t r Y vk vw ck cw K Wt false) (hd : RDk w r la na cl cn zl zn D G) (hXY : ∀ g, X3 r la na g = true → Y g = true) (hY : ∀ g, Y g = true → g < w.heap.size) (hbs : bs ≤ w.heap.size) (hGt : G t = false) (hGv : ∀ g, vw.ownBlock = some g → G g = false) (hk : short K ∧ K.length ≤ 1000000) (hw : short Wt ∧ Wt.length ≤ 100000)
    {x : Option Addr} {m c : Nat} {f : Nat → Nat} (hb : BA w x m f) (hz : 0 < m → ∀ p, x = some p → X3 r la na p.block = false) (hm : m ≤ 200) (hf : 3 + tks K + tks Wt + tk m ≤ D.n) :
    Calls Try.prog 12 #[pp t, .slice x m c] w (RaP w bs t r la na cl cn zl zn Y G vk vw ck (apw D (3 + tks K + tks Wt) f m (tk m)).1 (apw D (3 + tks K + tks Wt) f m (tk m)).2 K (apW (apw D (3 + tks K + tks Wt) f m (tk m)).2 Wt (fl f m)) (cmO (apw D (3 + tks K + tks Wt) f m (tk m)).2)) := by
  have hn := hd.ok.n
  have h3 := h.c3
  have HRm := hide (ref_room h hd hk ⟨hw.1, by omega⟩)
  have hm' : ¬ ((200 : Int) < (m : Int)) := by omega
  have hm9 : m ≤ 1000000000 := by omega
  have hlt := ar_nn hf
  have HS := hide h
  have HD := hide hd
  have HBb := hide hb
  have HZ := hide hz
  have HX := hide (And.intro hXY (And.intro hY hbs))
  have HGt := hide hGt
  have HGv := hide hGv
  have HKw := hide (And.intro hk hw)
  have HF := hide (And.intro hf hn)
  have hm5 : (m : Int) % 256 = (m : Int) := by omega
  have hm6 : (m : Int) / 256 = 0 := by omega
  clear h hd hb hz hXY hY hbs hf hGt hGv hk hw
  go_enter Try.func12, Try.ntmps12
  go_upto_region 7 with (first
    | (go_at_call 45; refine Calls.mono (takes_any hm9) ?_; rintro e w ⟨rfl, rfl⟩)
    | (go_at_call 37; refine Calls.mono HRm.out ?_; rintro e W1 ⟨rfl, hB1⟩; have HB1 := hide hB1; clear hB1))
  go_upto_region 8 with fail
  obtain ⟨N', hN'⟩ : ∃ N', N' = 64 * tk m := ⟨_, rfl⟩
  have HN := hide hN'
  clear hN'
  have HTw := hide (two_own W1 hm)
  have HBa : Hid (BA (W1.alloc (.cells #[.int .u8 (m : Int), .int .u8 0] 5)) x m f) := HBb.out.keep (HB1.out.trans ((Go.Proofs.Ytpophfeommlajaa.K.alloc (Below.refl _ W1) _).mono HB1.out.size))
  have hsz : W1.heap.size ≤ (W1.alloc (.cells #[.int .u8 (m : Int), .int .u8 0] 5)).heap.size := by simp
  go_wp2_with (refine wpList_app (base := W1.heap.size) (l := [m % 256, m / 256]) rfl _ _ rfl rfl HTw.out rfl HBa.out (by omega) hsz ?_; intro v2 W2 hO2 hg2; rw [enc_two] at hO2; have HP2 : Hid (PdR W1 W2 v2 f m (2 + m)) := ⟨below_append (Go.Proofs.Ytpophfeommlajaa.K.alloc (Below.refl _ W1) _) HTw.out hg2, hO2⟩; clear hO2 hg2)
  clear hlt HRm HTw HBa
  go_loopg [5] (N' - (2 + m)) (fun g' s5 wr => ∃ j : Nat, g' = N' - j ∧ 2 + m ≤ j ∧ j ≤ N' ∧ PdR W1 wr s5 f m j)
  case atStart => exact ⟨2 + m, rfl, Nat.le_refl _, by rw [HN.out]; have := tk_m m; omega, HP2.out⟩
  case round =>
    clear HP2
    obtain ⟨j, rfl, hj1, hj2, hR⟩ := hrel
    obtain ⟨pa, cap, rfl, _, _⟩ := own_max hR.o
    have HR := hide hR
    clear hR
    by_cases hjl : j < N'
    · have hq : ((j : Int) % 64 != 0) = true := by have h5 := (mod64 hj1).1 (by rw [← HN.out]; exact hjl); simp; omega
      have hj9 : j + 1 ≤ 1000000 := by have := HN.out; have := tk_4 hm; omega
      go_wp2_with (refine wpList_app (base := W1.heap.size) rfl _ _ rfl rfl (own_keep HR.out.o (Go.Proofs.Ytpophfeommlajaa.K.alloc (Below.refl _ _) _)) rfl (one_made wr 0 (by omega)) hj9 (Go.Proofs.Ytpophfeommlajaa.K.alloc HR.out.k _).size ?_; intro v3 W3 hO3 hg3; have HR3 := hide (HR.out.step hj1 hO3 hg3); clear hO3 hg3)
      go_roundg (N' - (j + 1))
      case measure => omega
      case rel => exact ⟨j + 1, rfl, by omega, by omega, HR3.out⟩
    · obtain rfl : j = N' := by omega
      have hq : ((j : Int) % 64 != 0) = false := by have h5 := (mod64 hj1).2; rw [← HN.out] at h5; simp; omega
      go_upto_region 11 with fail
      obtain ⟨q, cq, e5, _⟩ := own_form HR.out.o (by have := tk_m m; have := HN.out; omega)
      cases e5
      obtain ⟨W5, hW5⟩ : ∃ W5, W5 = wr := ⟨_, rfl⟩
      rw [← hW5] at HR ⊢
      clear hW5 hq
      have HB5 : Hid (Below w.heap.size w W5) := HB1.out.trans (HR.out.k.mono HB1.out.size)
      have HB5d : Hid (Below w.heap.size w W5.drew) := Go.Proofs.Ytpophfeommlajaa.K.drew HB5.out
      have HS5 := hide (HS.out.keep HB5d.out)
      have HD5 := hide (HD.out.keep HB5d.out)
      obtain ⟨zk, kc, ek, hvk⟩ := HS5.out.k.shape
      obtain ⟨zw, wc, ew, hvw⟩ := HS5.out.s.shape
      have HA1 := hide (all_any (c := kc) hvk HKw.out.1.1 HKw.out.1.2)
      have HA2 := hide (all_any (c := wc) hvw HKw.out.2.1 (Nat.le_trans HKw.out.2.2 (by decide)))
      have hc1 : W5.cell? ⟨t, 1, none⟩ = some (.slice zk K.length kc) := by have h5 := later HB5.out HS.out.c1; rw [ek] at h5; exact h5
      have hc2 : W5.cell? ⟨t, 2, none⟩ = some (.slice zw Wt.length wc) := by have h5 := later HB5.out HS.out.c2; rw [ew] at h5; exact h5
      have HEk := hide (And.intro ek ew)
      clear hvk hvw ek ew
      obtain ⟨p, hp⟩ : ∃ p, p = 3 + tks K + tks Wt := ⟨_, rfl⟩
      have hp1 : wrap64 (3 + (tks K : Int)) = 3 + (tks K : Int) := by have h5 := HF.out; exact w63 (by omega) (by omega)
      have hp2 : wrap64 (3 + (tks K : Int) + (tks Wt : Int)) = (p : Int) := by have h5 := HF.out; exact (w63 (by omega) (by omega)).trans (by omega)
      have HPq : Hid (p = 3 + tks K + tks Wt) := hp
      clear hp
      refine wp_region_noPanic ?_
      refine wp_region_held_drew (S := fun w' => w'.cell? ⟨t, 1, none⟩ = some (.slice zk K.length kc) ∧ w'.cell? ⟨t, 2, none⟩ = some (.slice zw Wt.length wc)) (by kernel_rfl) ⟨hc1, hc2⟩ (fun hS0 => ?_)
      refine wpAnyH_take (i := 0) (v := pp t) rfl (by kernel_rfl) (by kernel_rfl) (by kernel_rfl) (fun _ _ _ h => h) (Or.inl ⟨by rfl, fun w' _ => by go_simp⟩) hS0 ?_
      simp only [Act.put, List.getElem_toArray, List.getElem_cons_zero, List.setIfInBounds_toArray, List.set_cons_zero, List.set_cons_succ]
      refine wpAnyH_take (i := 1) (v := pp t) rfl (by kernel_rfl) (by kernel_rfl) (by kernel_rfl) (fun _ _ _ h => h) (Or.inl ⟨by rfl, fun w' _ => by go_simp⟩) hS0 ?_
      simp only [Act.put, List.getElem_toArray, List.getElem_cons_zero, List.getElem_cons_succ, List.setIfInBounds_toArray, List.set_cons_zero, List.set_cons_succ]
      refine wpAnyH_take (i := 2) (v := .pointer (some ⟨t, 1, none⟩)) rfl (by kernel_rfl) (by kernel_rfl) (by kernel_rfl) (fun _ _ _ h => h) (Or.inl ⟨by rfl, fun w' _ => by go_simp⟩) hS0 ?_
      simp only [Act.put, List.getElem_toArray, List.getElem_cons_zero, List.getElem_cons_succ, List.setIfInBounds_toArray, List.set_cons_zero, List.set_cons_succ]
      refine wpAnyH_take (i := 3) (v := .slice zk K.length kc) rfl (by kernel_rfl) (by kernel_rfl) (by kernel_rfl) (fun _ _ _ h => h) (Or.inl ⟨by rfl, fun w' hS => by have hc := hS.1; go_simp⟩) hS0 ?_
      simp only [Act.put, List.getElem_toArray, List.getElem_cons_zero, List.getElem_cons_succ, List.setIfInBounds_toArray, List.set_cons_zero, List.set_cons_succ]
      refine wpAnyH_take (i := 6) (v := pp t) rfl (by kernel_rfl) (by kernel_rfl) (by kernel_rfl) (fun _ _ _ h => h) (Or.inl ⟨by rfl, fun w' _ => by go_simp⟩) hS0 ?_
      simp only [Act.put, List.getElem_toArray, List.getElem_cons_zero, List.getElem_cons_succ, List.setIfInBounds_toArray, List.set_cons_zero, List.set_cons_succ]
      refine wpAnyH_take (i := 7) (v := pp t) rfl (by kernel_rfl) (by kernel_rfl) (by kernel_rfl) (fun _ _ _ h => h) (Or.inl ⟨by rfl, fun w' _ => by go_simp⟩) hS0 ?_
      simp only [Act.put, List.getElem_toArray, List.getElem_cons_zero, List.getElem_cons_succ, List.setIfInBounds_toArray, List.set_cons_zero, List.set_cons_succ]
      refine wpAnyH_take (i := 8) (v := .pointer (some ⟨t, 2, none⟩)) rfl (by kernel_rfl) (by kernel_rfl) (by kernel_rfl) (fun _ _ _ h => h) (Or.inl ⟨by rfl, fun w' _ => by go_simp⟩) hS0 ?_
      simp only [Act.put, List.getElem_toArray, List.getElem_cons_zero, List.getElem_cons_succ, List.setIfInBounds_toArray, List.set_cons_zero, List.set_cons_succ]
      refine wpAnyH_take (i := 9) (v := .slice zw Wt.length wc) rfl (by kernel_rfl) (by kernel_rfl) (by kernel_rfl) (fun _ _ _ h => h) (Or.inl ⟨by rfl, fun w' hS => by have hc := hS.2; go_simp⟩) hS0 ?_
      simp only [Act.put, List.getElem_toArray, List.getElem_cons_zero, List.getElem_cons_succ, List.setIfInBounds_toArray, List.set_cons_zero, List.set_cons_succ]
      refine wpAnyH_ready (rs := [4]) (by kernel_rfl) (by simp) (AllReadyH.cons rfl (fun Kt hK => ?_) AllReadyH.nil)
      refine wanted_pos rfl ?_
      refine wp_call (R := fun x w' => x = .int .i64 (tks K : Int) ∧ w' = W5.drew) (vs := #[.slice zk K.length kc]) rfl (by simp only [List.map_toArray, List.map_cons, List.map_nil]; rfl) (by go_simp) (Calls.mono HA1.out (fun e w' he => ⟨_, he.1, rfl, he.2⟩)) (fun x W6 hr => ?_)
      obtain ⟨hx, rfl⟩ := hr
      subst hx
      refine hK.out _ _ hS0 (fun _ => ?_)
      clear hK Kt
      simp only [Act.put, List.getElem_toArray, List.getElem_cons_zero, List.getElem_cons_succ, List.setIfInBounds_toArray, List.set_cons_zero, List.set_cons_succ]
      refine wpAnyH_take (i := 5) (v := .int .i64 (3 + (tks K : Int))) rfl (by kernel_rfl) (by kernel_rfl) (by kernel_rfl) (fun _ _ _ h => h) (Or.inl ⟨by rfl, fun w' _ => by go_simp; exact (wrapI _).trans hp1⟩) hS0 ?_
      simp only [Act.put, List.getElem_toArray, List.getElem_cons_zero, List.getElem_cons_succ, List.setIfInBounds_toArray, List.set_cons_zero, List.set_cons_succ]
      refine wpAnyH_ready (rs := [10]) (by kernel_rfl) (by simp) (AllReadyH.cons rfl (fun Kt hK => ?_) AllReadyH.nil)
      refine wanted_pos rfl ?_
      refine wp_call (R := fun x w' => x = .int .i64 (tks Wt : Int) ∧ w' = W5.drew) (vs := #[.slice zw Wt.length wc]) rfl (by simp only [List.map_toArray, List.map_cons, List.map_nil]; rfl) (by go_simp) (Calls.mono HA2.out (fun e w' he => ⟨_, he.1, rfl, he.2⟩)) (fun x W6 hr => ?_)
      obtain ⟨hx, rfl⟩ := hr
      subst hx
      refine hK.out _ _ hS0 (fun _ => ?_)
      clear hK Kt
      simp only [Act.put, List.getElem_toArray, List.getElem_cons_zero, List.getElem_cons_succ, List.setIfInBounds_toArray, List.set_cons_zero, List.set_cons_succ]
      refine wpAnyH_take (i := 11) (v := .int .i64 (p : Int)) rfl (by kernel_rfl) (by kernel_rfl) (by kernel_rfl) (fun _ _ _ h => h) (Or.inl ⟨by rfl, fun w' _ => by go_simp; exact (wrapI _).trans hp2⟩) hS0 ?_
      simp only [Act.put, List.getElem_toArray, List.getElem_cons_zero, List.getElem_cons_succ, List.setIfInBounds_toArray, List.set_cons_zero, List.set_cons_succ]
      refine wpAnyH_take (i := 12) (v := .int .i64 (p : Int)) rfl (by kernel_rfl) (by kernel_rfl) (by kernel_rfl) (fun _ _ _ h => h) (Or.inl ⟨by rfl, fun w' _ => by go_simp⟩) hS0 ?_
      simp only [Act.put, List.getElem_toArray, List.getElem_cons_zero, List.getElem_cons_succ, List.setIfInBounds_toArray, List.set_cons_zero, List.set_cons_succ]
      refine wpAnyH_done (by kernel_rfl) ?_ _
      refine NoPanic.normal ?_
      obtain ⟨U, hU⟩ : ∃ U, U = W5.drew := ⟨_, rfl⟩
      rw [← hU]
      rw [← hU] at HB5d HS5 HD5
      have HRr : Hid (U.rangeAt q 0 (cells8 (fl (encf f m) (64 * tk m))) ∧ W1.heap.size ≤ q ∧ q < U.heap.size) := by
        obtain ⟨g1, g2, g3, _⟩ := own_rng HR.out.o
        rw [hU, ← HN.out]
        exact ⟨fun j v hv => later (Go.Proofs.Ytpophfeommlajaa.K.drew (Below.refl _ W5)) (g1 j v hv), g2, g3⟩
      clear hU hp1 hp2 hc1 hc2 HA1 HA2 hS0
      have HXq : Hid (X3 r la na q = false) := by
        cases hq : X3 r la na q with
        | false => rfl
        | true => exact absurd (HX.out.2.1 q (HX.out.1 q hq)) (Nat.not_lt.2 (Nat.le_trans HB1.out.size HRr.out.2.1))
      have HI0 : Hid (RwI w U U t r la na cl cn zl zn G D p f m 0 q cap) := ⟨⟨G, HD5.out, Kp.of HB5d.out, fun k hk => Or.inl hk⟩, rfl, Kp.refl _ _, HRr.out.1⟩
      have hTs : 0 < tk m := tk_pos m
      have HT4 := hide (tk_4 hm)
      go_wp2_with fail
      go_loopg [7] (tk m) (fun g' s7 wr2 => ∃ i : Nat, g' = tk m - i ∧ i ≤ tk m ∧ s7 = .int .i64 (i : Int) ∧ RwI w U wr2 t r la na cl cn zl zn G D p f m i q cap)
      case atStart => exact ⟨0, rfl, Nat.zero_le _, rfl, HI0.out⟩
      case round =>
        obtain ⟨i, rfl, hi, rfl, hI⟩ := hrel
        have HI := hide hI
        clear hI HI0
        by_cases hil : i < tk m
        · clear hj1 hj2
          obtain ⟨G2, hG2⟩ := HI.out.d
          have HG2 := hide hG2
          clear hG2
          obtain ⟨o, ho⟩ : ∃ o, o = 64 * i := ⟨_, rfl⟩
          have hwo : wrap64 (64 * (i : Int)) = (o : Int) := rw1 ho hil HT4.out
          have hwp : wrap64 ((p : Int) + (i : Int)) = (p : Int) + (i : Int) := rw2 HPq.out HF.out.1 HF.out.2 hil
          have hwo2 : wrap64 ((o : Int) + 64) = (o : Int) + 64 := rw3 ho hil HT4.out
          have hol : (o : Int) < (j : Int) := rw4 HN.out ho hil
          have hcapj : j ≤ cap := (own_rng HR.out.o).2.2.2.1
          have hol2 : o + 64 ≤ cap := rw5 HN.out ho hil hcapj
          have hone : ¬ (cap = o) := rw6 hol2
          have hsl : ∀ w' : World, (Instr.sliceAt 38 (.slice (some ⟨q, 0, none⟩) j cap) (some (.int .i64 (o : Int))) (some (.int .i64 ((o : Int) + 64))) none).run Try.prog w' = .ok (.slice (some ⟨q, o, none⟩) 64 (cap - o)) w' := fun w' => rw10 hol2 w'
          have hw1 : wrap64 ((i : Int) + 1) = (i : Int) + 1 := i_w hm hil
          have HOo := hide ho
          clear ho
          have HBs : Hid (BA wr.drew (some ⟨q, o, none⟩) 64 (fun k => encf f m (o + k))) := by
            have h5 := getD_ba HI.out.r (fun y hy => by obtain ⟨i2, _, rfl⟩ := List.mem_map.1 hy; exact encf_lt HBb.out.lt hm _) (o := o) (k := 64) (by rw [fl_len]; exact rw7 HOo.out hil)
            have h6 : BA wr (some ⟨q, o, none⟩) 64 (fun k => encf f m (o + k)) := by
              refine ⟨fun k => encf_lt HBb.out.lt hm _, h5.at_.imp id fun ⟨b1, o1, e1, hr⟩ => ⟨b1, o1, e1, ⟨fun k hk => ?_⟩⟩⟩
              have h7 := hr.c k hk
              rw [List.getD_eq_getElem?_getD, fl_at _ (rw8 HOo.out hil hk)] at h7
              exact h7
            exact h6.keep (Go.Proofs.Ytpophfeommlajaa.K.drew (Below.refl _ _))
          have HC : Hid (Calls Try.prog 19 #[pp r, .int .i64 ((p : Int) + (i : Int)), .slice (some ⟨q, o, none⟩) 64 (cap - o)] wr.drew (RwP wr.drew r la na cl cn zl zn (apw D p f m (i + 1)).1 G2 (apw D p f m (i + 1)).2)) := by
            rw [apw_step HI.out.e]
            have h5 := ref_write (HG2.out.d.keep (Go.Proofs.Ytpophfeommlajaa.K.drew (Below.refl _ _))) ((p : Int) + (i : Int)) (c := cap - o) HBs.out (fun _ a ha => by cases ha; exact HXq.out)
            rw [show fl (fun k => encf f m (o + k)) 64 = esec f m i by unfold esec; rw [HOo.out]] at h5
            exact h5
          have hc0 : wr.cell? ⟨t, 0, none⟩ = some (pp r) := by
            have h5 := HS5.out.c0
            exact (HI.out.k.cell (p := ⟨t, 0, none⟩) HS5.out.tl (by
              cases hq : X3 r la na t with
              | false => rfl
              | true => have h6 := HX.out.1 t hq; rw [HS.out.ty] at h6; cases h6)).trans h5
          have HTx : Hid (X3 r la na t = false) := by
            cases hq : X3 r la na t with
            | false => rfl
            | true => have h6 := HX.out.1 t hq; rw [HS.out.ty] at h6; cases h6
          go_upto_region 15 with fail
          refine wp_region_noPanic ?_
          refine wp_region_held_drew (S := fun w' => w'.cell? ⟨t, 0, none⟩ = some (pp r)) (by kernel_rfl) hc0 (fun hS0 => ?_)
          refine wpAnyH_take (i := 0) (v := pp t) rfl (by kernel_rfl) (by kernel_rfl) (by kernel_rfl) (fun _ _ _ h => h) (Or.inl ⟨by rfl, fun w' _ => by go_simp⟩) hS0 ?_
          simp only [Act.put, List.getElem_toArray, List.getElem_cons_zero, List.setIfInBounds_toArray, List.set_cons_zero, List.set_cons_succ]
          refine wpAnyH_take (i := 1) (v := pp t) rfl (by kernel_rfl) (by kernel_rfl) (by kernel_rfl) (fun _ _ _ h => h) (Or.inl ⟨by rfl, fun w' _ => by go_simp⟩) hS0 ?_
          simp only [Act.put, List.getElem_toArray, List.getElem_cons_zero, List.getElem_cons_succ, List.setIfInBounds_toArray, List.set_cons_zero, List.set_cons_succ]
          refine wpAnyH_take (i := 2) (v := .pointer (some ⟨t, 0, none⟩)) rfl (by kernel_rfl) (by kernel_rfl) (by kernel_rfl) (fun _ _ _ h => h) (Or.inl ⟨by rfl, fun w' _ => by go_simp⟩) hS0 ?_
          simp only [Act.put, List.getElem_toArray, List.getElem_cons_zero, List.getElem_cons_succ, List.setIfInBounds_toArray, List.set_cons_zero, List.set_cons_succ]
          refine wpAnyH_take (i := 3) (v := pp r) rfl (by kernel_rfl) (by kernel_rfl) (by kernel_rfl) (fun _ _ _ h => h) (Or.inl ⟨by rfl, fun w' hS => by have hc := hS; go_simp⟩) hS0 ?_
          simp only [Act.put, List.getElem_toArray, List.getElem_cons_zero, List.getElem_cons_succ, List.setIfInBounds_toArray, List.set_cons_zero, List.set_cons_succ]
          refine wpAnyH_take (i := 4) (v := .int .i64 (p : Int)) rfl (by kernel_rfl) (by kernel_rfl) (by kernel_rfl) (fun _ _ _ h => h) (Or.inl ⟨by rfl, fun w' _ => by go_simp⟩) hS0 ?_
          simp only [Act.put, List.getElem_toArray, List.getElem_cons_zero, List.getElem_cons_succ, List.setIfInBounds_toArray, List.set_cons_zero, List.set_cons_succ]
          refine wpAnyH_take (i := 5) (v := .int .i64 (i : Int)) rfl (by kernel_rfl) (by kernel_rfl) (by kernel_rfl) (fun _ _ _ h => h) (Or.inl ⟨by rfl, fun w' _ => by go_simp⟩) hS0 ?_
          simp only [Act.put, List.getElem_toArray, List.getElem_cons_zero, List.getElem_cons_succ, List.setIfInBounds_toArray, List.set_cons_zero, List.set_cons_succ]
          refine wpAnyH_take (i := 6) (v := .int .i64 ((p : Int) + (i : Int))) rfl (by kernel_rfl) (by kernel_rfl) (by kernel_rfl) (fun _ _ _ h => h) (Or.inl ⟨by rfl, fun w' _ => by go_simp; exact (wrapI _).trans hwp⟩) hS0 ?_
          simp only [Act.put, List.getElem_toArray, List.getElem_cons_zero, List.getElem_cons_succ, List.setIfInBounds_toArray, List.set_cons_zero, List.set_cons_succ]
          refine wpAnyH_take (i := 7) (v := .slice (some ⟨q, 0, none⟩) j cap) rfl (by kernel_rfl) (by kernel_rfl) (by kernel_rfl) (fun _ _ _ h => h) (Or.inl ⟨by rfl, fun w' _ => by go_simp⟩) hS0 ?_
          simp only [Act.put, List.getElem_toArray, List.getElem_cons_zero, List.getElem_cons_succ, List.setIfInBounds_toArray, List.set_cons_zero, List.set_cons_succ]
          refine wpAnyH_take (i := 8) (v := .int .i64 (i : Int)) rfl (by kernel_rfl) (by kernel_rfl) (by kernel_rfl) (fun _ _ _ h => h) (Or.inl ⟨by rfl, fun w' _ => by go_simp⟩) hS0 ?_
          simp only [Act.put, List.getElem_toArray, List.getElem_cons_zero, List.getElem_cons_succ, List.setIfInBounds_toArray, List.set_cons_zero, List.set_cons_succ]
          refine wpAnyH_take (i := 9) (v := .int .i64 (o : Int)) rfl (by kernel_rfl) (by kernel_rfl) (by kernel_rfl) (fun _ _ _ h => h) (Or.inl ⟨by rfl, fun w' _ => by go_simp; exact (wrapI _).trans hwo⟩) hS0 ?_
          simp only [Act.put, List.getElem_toArray, List.getElem_cons_zero, List.getElem_cons_succ, List.setIfInBounds_toArray, List.set_cons_zero, List.set_cons_succ]
          refine wpAnyH_take (i := 10) (v := .int .i64 (i : Int)) rfl (by kernel_rfl) (by kernel_rfl) (by kernel_rfl) (fun _ _ _ h => h) (Or.inl ⟨by rfl, fun w' _ => by go_simp⟩) hS0 ?_
          simp only [Act.put, List.getElem_toArray, List.getElem_cons_zero, List.getElem_cons_succ, List.setIfInBounds_toArray, List.set_cons_zero, List.set_cons_succ]
          refine wpAnyH_take (i := 11) (v := .int .i64 (o : Int)) rfl (by kernel_rfl) (by kernel_rfl) (by kernel_rfl) (fun _ _ _ h => h) (Or.inl ⟨by rfl, fun w' _ => by go_simp; exact (wrapI _).trans hwo⟩) hS0 ?_
          simp only [Act.put, List.getElem_toArray, List.getElem_cons_zero, List.getElem_cons_succ, List.setIfInBounds_toArray, List.set_cons_zero, List.set_cons_succ]
          refine wpAnyH_take (i := 12) (v := .int .i64 ((o : Int) + 64)) rfl (by kernel_rfl) (by kernel_rfl) (by kernel_rfl) (fun _ _ _ h => h) (Or.inl ⟨by rfl, fun w' _ => by go_simp; exact (wrapI _).trans hwo2⟩) hS0 ?_
          simp only [Act.put, List.getElem_toArray, List.getElem_cons_zero, List.getElem_cons_succ, List.setIfInBounds_toArray, List.set_cons_zero, List.set_cons_succ]
          refine wpAnyH_take (i := 13) (v := .slice (some ⟨q, o, none⟩) 64 (cap - o)) rfl (by kernel_rfl) (by kernel_rfl) (by kernel_rfl) (fun _ _ _ h => h) (Or.inl ⟨by rfl, fun w' _ => by have hc := hsl w'; go_simp⟩) hS0 ?_
          simp only [Act.put, List.getElem_toArray, List.getElem_cons_zero, List.getElem_cons_succ, List.setIfInBounds_toArray, List.set_cons_zero, List.set_cons_succ]
          refine wpAnyH_ready (rs := [14]) (by kernel_rfl) (by simp) (AllReadyH.cons rfl (fun Kt hK => ?_) AllReadyH.nil)
          refine wanted_pos rfl ?_
          obtain ⟨D6, er6, ha6⟩ : ∃ D6 er6, apw D p f m (i + 1) = (D6, er6) := ⟨_, _, rfl⟩
          have HA6 := hide ha6
          rw [ha6] at HC
          clear ha6
          refine wp_call (R := fun x w' => x = .int .i64 er6 ∧ ∃ G', RDk w' r la na cl cn zl zn D6 G' ∧ Kp (X3 r la na) wr.drew w' ∧ ∀ k, G' k = true → G2 k = true ∨ wr.drew.heap.size ≤ k) (vs := #[pp r, .int .i64 ((p : Int) + (i : Int)), .slice (some ⟨q, o, none⟩) 64 (cap - o)]) rfl (by simp only [List.map_toArray, List.map_cons, List.map_nil]; rfl) (by go_simp) (Calls.mono HC.out (fun e w' he => ⟨_, he.1, rfl, he.2⟩)) (fun x W6 hr => ?_)
          obtain ⟨hx, hr6⟩ := hr
          subst hx
          have HW6 := hide hr6
          have hc6 : W6.cell? ⟨t, 0, none⟩ = some (pp r) := by
            obtain ⟨G3, _, g2, _⟩ := hr6
            exact (g2.cell (p := ⟨t, 0, none⟩) (World.block_lt_of_cell? _ _ hS0) HTx.out).trans hS0
          clear hr6
          refine hK.out _ _ hc6 (fun hS6 => ?_)
          clear hK Kt
          simp only [Act.put, List.getElem_toArray, List.getElem_cons_zero, List.getElem_cons_succ, List.setIfInBounds_toArray, List.set_cons_zero, List.set_cons_succ]
          refine wpAnyH_take (i := 15) (v := .int .i64 er6) rfl (by kernel_rfl) (by kernel_rfl) (by kernel_rfl) (fun _ _ _ h => h) (Or.inl ⟨by rfl, fun w' _ => by go_simp⟩) hS6 ?_
          simp only [Act.put, List.getElem_toArray, List.getElem_cons_zero, List.getElem_cons_succ, List.setIfInBounds_toArray, List.set_cons_zero, List.set_cons_succ]
          refine wpAnyH_done (by kernel_rfl) ?_ _
          refine NoPanic.normal ?_
          clear hS0 hS6 hc6 hc0
          have HRs : Hid (∃ G3, RsR w W6 r la na cl cn zl zn D6 G G3) := by
            obtain ⟨G3, g1, g2, g3⟩ := HW6.out
            exact ⟨G3, (HG2.out.grow (Go.Proofs.Ytpophfeommlajaa.K.drew (Below.refl _ _))).next g1 g2 g3⟩
          have HK6 : Hid (Kp (X3 r la na) U W6) := by
            obtain ⟨G3, _, g2, _⟩ := HW6.out
            exact (HI.out.k.trans (Kp.of (Go.Proofs.Ytpophfeommlajaa.K.drew (Below.refl _ _)))).trans g2
          by_cases he : er6 = 0
          · have hq : (er6 != 0) = false := by rw [he]; rfl
            have HE := hide he
            clear he
            go_wp2_with fail
            go_roundg (tk m - (i + 1))
            case measure => exact rw9 hil
            case rel => exact ⟨i + 1, rfl, hil, by simp, by rw [HA6.out]; exact HRs.out, by rw [HA6.out]; exact HE.out, HK6.out, HK6.out.range HRr.out.1 HRr.out.2.2 HXq.out⟩
          · have hq : (er6 != 0) = true := bne_iff_ne.2 he
            have HE := hide he
            clear he
            have HS6 := hide (HS5.out.kp (HK6.out.mono HX.out.1))
            have hc3 := HS6.out.c3
            have hz3 := HS6.out.z 3 (by decide)
            have HAe : Hid (apw D p f m (tk m) = (D6, er6)) := by
              have h5 := apw_err (D := D) (p := p) (f := f) (m := m) (j := i + 1) (by rw [HA6.out]; exact HE.out) (tk m) hil
              rw [h5]
              exact HA6.out
            go_wp2_with fail
            go_ret
            rw [← HPq.out, HAe.out]
            obtain ⟨G3, hr3⟩ := HRs.out
            show RaP w bs t r la na cl cn zl zn Y G vk vw ck D6 er6 K (apW er6 Wt (fl f m)) (cmO er6) _ _
            rw [show apW er6 Wt (fl f m) = Wt from if_neg HE.out]
            exact ⟨rfl, G3, vw, cw, hr3.d.set (fun k hk e => by
              subst e
              rcases hr3.g _ hk with h5 | h5
              · rw [HGt.out] at h5; cases h5
              · exact absurd HS.out.tl (Nat.not_lt.2 h5)) _, hr3.g, HS6.out.over _, (hr3.k.mono (fun g hg => Xt_u (Xu_of (Or.inl hg)))).trans ((kp_t _).mono (fun g hg => Xt_u hg)), Or.inl rfl, fun g hg => by
              cases h6 : G3 g with
              | false => rfl
              | true =>
                rcases hr3.g _ h6 with h5 | h5
                · rw [HGv.out g hg] at h5; cases h5
                · exact absurd (HS.out.s.o.lt g hg).2 (Nat.not_lt.2 h5)⟩
        · have hit : i = tk m := Nat.le_antisymm hi (Nat.not_lt.1 hil)
          have hwo : wrap64 (64 * (i : Int)) = (j : Int) := rw11 HN.out hit HT4.out
          have HIt := hide hit
          clear hit hil hj1 hj2 hi
          obtain ⟨G2, hG2⟩ := HI.out.d
          have HG2 := hide hG2
          clear hG2
          have HS6 := hide (HS5.out.kp (HI.out.k.mono HX.out.1))
          have HBx : Hid (BA wr x m f) := by
            rcases Nat.eq_zero_or_pos m with h0 | h0
            · exact ⟨HBb.out.lt, Or.inl h0⟩
            · exact (HBb.out.keep HB5d.out).kp (HZ.out h0) HI.out.k
          have HO0 : Hid (wr.ownsRow wr.heap.size 5 1 (.slice none 0 0) 0 (cells8 [])) := World.ownsRow_nil _ _ _ _
          go_upto_region 21 with (at_builtin; refine wpList_app (base := wr.heap.size) (l := []) rfl _ _ rfl rfl HO0.out rfl HBx.out (rw12 hm) (Nat.le_refl _) ?_; intro v7 W7 hO7 hg7)
          rw [Nat.zero_add, List.nil_append] at hO7
          obtain ⟨a7, c7, rfl, _, _⟩ := own_max hO7
          have HB7 := hide (below_append (Below.refl _ wr) HO0.out hg7)
          have HA7 := hide (own_ba hO7 HBb.out.lt)
          have HX7 : Hid (0 < m → ∀ p, a7 = some p → wr.heap.size ≤ p.block) := fun hm0 p hp => by
            subst hp
            obtain ⟨q7, c8, e7, _⟩ := own_form hO7 hm0
            cases e7
            exact (hO7.lt _ rfl).1
          clear hO7 hg7 HO0 HBx
          have hc2 := later HB7.out HS6.out.c2
          have HSa := hide (HS6.out.keep (HB7.out.trans ((Go.Proofs.Ytpophfeommlajaa.K.alloc (Below.refl _ W7) (.cells #[.slice a7 m c7] 38)).mono HB7.out.size)))
          have HOn : Hid ((W7.alloc (.cells #[.slice a7 m c7] 38)).ownsRow W7.heap.size 38 1 (.slice (some ⟨W7.heap.size, 0, none⟩) 1 1) 1 [.slice a7 m c7]) :=
            ⟨rfl, Or.inr ⟨W7.heap.size, 1, _, rfl, Nat.le_refl _, heap_alloc_new W7 _, by decide, by decide, rfl, rfl⟩⟩
          have HYw : Hid (∀ g, Y g = true → g < wr.heap.size) := fun g hg => Nat.lt_of_lt_of_le (HX.out.2.1 g hg) (Nat.le_trans HB5d.out.size HI.out.k.size)
          have HBb2 : Hid (bs ≤ (W7.alloc (.cells #[.slice a7 m c7] 38)).heap.size) := Nat.le_trans HX.out.2.2 (Nat.le_trans (Nat.le_trans HB5d.out.size HI.out.k.size) (Nat.le_trans HB7.out.size (by simp)))
          go_wp2_with (at_builtin; refine wpList_appL rfl _ _ rfl rfl HSa.out.s.o rfl HOn.out (fun u hu => by rw [List.mem_singleton.1 hu]; rfl) (rw13 HKw.out.2.2) HBb2.out ?_; intro v8 W8 hO8 hg8 hat8; obtain ⟨lq, lc, e8, _⟩ := own_form hO8 (Nat.succ_pos _); subst e8; obtain ⟨hR8, hcc, hcz⟩ := RSt.push HS6.out HYw.out HB7.out HA7.out HX7.out hO8 hg8 hat8; have HR8 := hide hR8; have HG8 := hide hg8; have HAt := hide hat8; clear hR8 hO8 hg8 hat8)
          go_ret
          rw [← HPq.out, ← HIt.out, HI.out.e]
          show RaP w bs t r la na cl cn zl zn Y G vk vw ck (apw D p f m i).1 0 K (Wt ++ [fl f m]) false _ _
          have hvn : ∀ k, G2 k = true → vw.ownBlock ≠ some k := fun k hk e => by
            rcases HG2.out.g _ hk with h5 | h5
            · rw [HGv.out k e] at h5; cases h5
            · exact absurd (HS.out.s.o.lt k e).2 (Nat.not_lt.2 h5)
          have hK8 : Kp (Xt (X3 r la na) t vw) wr W8 := ((Kp.of HB7.out).trans (Kp.of (Go.Proofs.Ytpophfeommlajaa.K.alloc (Below.refl _ W7) _))).trans (grown_kp HG8.out (fun k hk => Xt_own hk))
          refine ⟨rfl, G2, _, _, RDk.set (HG2.out.d.same hK8.size (fun k hk => ?_)) (fun k hk e => ?_) _, HG2.out.g, HR8.out, ((HG2.out.k.mono (fun g hg => Xt_u (Xu_of (Or.inl hg)))).trans hK8).trans ((kp_t _).mono (fun g hg => Xt_u hg)), ?_, fun g hg => ?_⟩
          · have h5 := HG2.out.d.gl k hk
            rw [HG8.out.block k (Nat.lt_of_lt_of_le h5 (Nat.le_trans HB7.out.size (by simp))) (fun e => hvn k hk e.symm), (Go.Proofs.Ytpophfeommlajaa.K.alloc (Below.refl _ W7) _).block k (Nat.lt_of_lt_of_le h5 HB7.out.size)]
            exact HB7.out.block k h5
          · subst e
            rcases HG2.out.g _ hk with h5 | h5
            · rw [HGt.out] at h5; cases h5
            · exact absurd HS.out.tl (Nat.not_lt.2 h5)
          · rcases HAt.out with h5 | h5
            · exact Or.inl h5
            · exact Or.inr ⟨_, h5, Nat.le_trans (Nat.le_trans HB5d.out.size HI.out.k.size) (Nat.le_trans HB7.out.size (by simp))⟩
          · cases h6 : G2 g with
            | false => rfl
            | true =>
              rcases HAt.out with h5 | h5
              · exact absurd (h5.symm.trans hg) (hvn g h6)
              · have h7 := h5.symm.trans hg
                have h8 := Option.some.inj h7
                have h9 := HG2.out.d.gl g h6
                have h10 : wr.heap.size ≤ g := by rw [← h8]; exact Nat.le_trans HB7.out.size (by simp)
                exact absurd h9 (Nat.not_lt.2 h10)
end Go.Proofs.Ytpophfeommlajaa
