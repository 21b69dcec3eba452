/- Layer 20: the program's own down: the first pair that isn't the list's. -/
import Derived.Test.YtpokecijongkpaaDoorMD17
namespace Go.Proofs.YtpokecijongkpaaDoor
set_option maxRecDepth 100000
open Go.RowKit Go.Shelf
attribute [local go_sem] Oper.semAt_some
attribute [local go_sem ↓] Go.wp_at_zero Go.wp_at_succ

/-- What is found on the way down, as texts. -/
def DnP (w : World) (D : Option (HP × HP)) (e : Ending) (w' : World) : Prop :=
  match D with
  | none => e = .returned (.tuple #[.slice none 0 0, .slice none 0 0, .bool false]) ∧ Below w.heap.size w w'
  | some r => ∃ x c y d, e = .returned (.tuple #[.slice x 65 c, .slice y 65 d, .bool true]) ∧ BA w' x 65 (ndT r.2.1 r.2.2) ∧ BA w' y 65 (ndT r.1.1 r.1.2) ∧ Below w.heap.size w w'
theorem ba_own {W W' : World} {row : Option Nat} {x : Option Addr} {n : Nat} {f : Nat → Nat} (h : BA W x n f) (hg : W.grownBy W' row) (hr : ∀ r, row = some r → ∃ o : Obj, W.heap[r]? = some o ∧ o.isCells = false) : BA W' x n f :=
  ⟨h.1, h.2.imp id fun ⟨b, o, e, hc⟩ => ⟨b, o, e, ⟨fun i hi => cell_kept (hc.c i hi) hg hr⟩⟩⟩
theorem range_own {W W' : World} {row : Option Nat} {b o : Nat} {vs : List Value} (h : W.rangeAt b o vs) (hg : W.grownBy W' row) (hr : ∀ r, row = some r → ∃ o : Obj, W.heap[r]? = some o ∧ o.isCells = false) : W'.rangeAt b o vs := fun j v hv => cell_kept (h j v hv) hg hr
theorem ba_box {W : World} {B : Nat} {t : TypeId} {v : Value} {x : Option Addr} {n : Nat} {f : Nat → Nat} (h : BA W x (n + 1) f) (hb : Boxed W B t v) (hv : ∀ i, v ≠ .int .u8 i) : ∀ g o, x = some ⟨g, o, none⟩ → B ≠ g := fun g o e hBg => by
  subst hBg
  rcases h.2 with h0 | ⟨g', o', e', hc⟩
  · omega
  · rw [e] at e'
    cases e'
    have h1 := hc.c 0 (by omega)
    unfold World.cell? at h1
    rw [show W.heap[B]? = _ from hb] at h1
    rcases o with _ | o
    · simp at h1
      exact hv _ h1
    · simp at h1
structure Bx (w W : World) (s0 i1 r0 r1 r2 : Value) : Prop where
  b0 : Boxed W (w.heap.size) 22 s0
  b1 : Boxed W (w.heap.size + 1) 3 i1
  b2 : Boxed W (w.heap.size + 1 + 1) 28 r0
  b3 : Boxed W (w.heap.size + 1 + 1 + 1) 28 r1
  b4 : Boxed W (w.heap.size + 1 + 1 + 1 + 1) 4 r2
theorem Bx.bl {w W W' : World} {s0 i1 r0 r1 r2 : Value} (h : Bx w W s0 i1 r0 r1 r2) (hb : Below W.heap.size W W') : Bx w W' s0 i1 r0 r1 r2 := ⟨Boxed.bl h.b0 hb, Boxed.bl h.b1 hb, Boxed.bl h.b2 hb, Boxed.bl h.b3 hb, Boxed.bl h.b4 hb⟩
theorem Bx.own {w W W' : World} {s0 i1 r0 r1 r2 : Value} {row : Option Nat} (h : Bx w W s0 i1 r0 r1 r2) (hg : W.grownBy W' row) (hr : ∀ r, row = some r → ∃ o : Obj, W.heap[r]? = some o ∧ o.isCells = false) : Bx w W' s0 i1 r0 r1 r2 :=
  ⟨boxed_own _ _ (fun _ : Unit => s0) () W W' row h.b0 hg hr, boxed_own _ _ (fun _ : Unit => i1) () W W' row h.b1 hg hr, boxed_own _ _ (fun _ : Unit => r0) () W W' row h.b2 hg hr, boxed_own _ _ (fun _ : Unit => r1) () W W' row h.b3 hg hr, boxed_own _ _ (fun _ : Unit => r2) () W W' row h.b4 hg hr⟩
theorem Bx.set0 {w W : World} {s0 i1 r0 r1 r2 : Value} (h : Bx w W s0 i1 r0 r1 r2) (u : Value) : Bx w (W.setCell ⟨w.heap.size, 0, none⟩ u) u i1 r0 r1 r2 := ⟨Boxed.set _ h.b0, boxed_far h.b1 (by omega) _, boxed_far h.b2 (by omega) _, boxed_far h.b3 (by omega) _, boxed_far h.b4 (by omega) _⟩
theorem Bx.set1 {w W : World} {s0 i1 r0 r1 r2 : Value} (h : Bx w W s0 i1 r0 r1 r2) (u : Value) : Bx w (W.setCell ⟨w.heap.size + 1, 0, none⟩ u) s0 u r0 r1 r2 := ⟨boxed_far h.b0 (by omega) _, Boxed.set _ h.b1, boxed_far h.b2 (by omega) _, boxed_far h.b3 (by omega) _, boxed_far h.b4 (by omega) _⟩
theorem Bx.set2 {w W : World} {s0 i1 r0 r1 r2 : Value} (h : Bx w W s0 i1 r0 r1 r2) (u : Value) : Bx w (W.setCell ⟨w.heap.size + 1 + 1, 0, none⟩ u) s0 i1 u r1 r2 := ⟨boxed_far h.b0 (by omega) _, boxed_far h.b1 (by omega) _, Boxed.set _ h.b2, boxed_far h.b3 (by omega) _, boxed_far h.b4 (by omega) _⟩
theorem Bx.set3 {w W : World} {s0 i1 r0 r1 r2 : Value} (h : Bx w W s0 i1 r0 r1 r2) (u : Value) : Bx w (W.setCell ⟨w.heap.size + 1 + 1 + 1, 0, none⟩ u) s0 i1 r0 u r2 := ⟨boxed_far h.b0 (by omega) _, boxed_far h.b1 (by omega) _, boxed_far h.b2 (by omega) _, Boxed.set _ h.b3, boxed_far h.b4 (by omega) _⟩
theorem Bx.set4 {w W : World} {s0 i1 r0 r1 r2 : Value} (h : Bx w W s0 i1 r0 r1 r2) (u : Value) : Bx w (W.setCell ⟨w.heap.size + 1 + 1 + 1 + 1, 0, none⟩ u) s0 i1 r0 r1 u := ⟨boxed_far h.b0 (by omega) _, boxed_far h.b1 (by omega) _, boxed_far h.b2 (by omega) _, boxed_far h.b3 (by omega) _, Boxed.set _ h.b4⟩
theorem bx_new (w : World) (s0 i1 r0 r1 r2 : Value) : Bx w (((((w.alloc (.cells #[s0] 22)).alloc (.cells #[i1] 3)).alloc (.cells #[r0] 28)).alloc (.cells #[r1] 28)).alloc (.cells #[r2] 4)) s0 i1 r0 r1 r2 := by
  have e1 := Boxed.new (w.alloc (.cells #[s0] 22)) 3 i1
  have e2 := Boxed.new ((w.alloc (.cells #[s0] 22)).alloc (.cells #[i1] 3)) 28 r0
  have e3 := Boxed.new (((w.alloc (.cells #[s0] 22)).alloc (.cells #[i1] 3)).alloc (.cells #[r0] 28)) 28 r1
  have e4 := Boxed.new ((((w.alloc (.cells #[s0] 22)).alloc (.cells #[i1] 3)).alloc (.cells #[r0] 28)).alloc (.cells #[r1] 28)) 4 r2
  simp only [World.size_alloc] at e1 e2 e3 e4
  exact ⟨(((((Boxed.new w 22 s0).alloc _).alloc _).alloc _).alloc _), (((e1.alloc _).alloc _).alloc _), ((e2.alloc _).alloc _), e3.alloc _, e4⟩
/-- Between two rounds. -/
def DnI (w : World) (b l : Nat) (P : List HP) (n m : Nat) (F : Nat → Nat → Nat) (pre : List Nat) (W : World) : Prop :=
  (∃ n' m' F' o' c', (pre.map (prAt P)).foldl dstep (.inl (n, m, F)) = .inl (n', m', F') ∧ dpt (l - pre.length) n' m' ∧ n' ≤ c' ∧ c' ≤ maxLen ∧ n' ≤ 1000000 ∧ m' ≤ 1000000 ∧ HL w (some ⟨b, o', none⟩) n' F' ∧
    Bx w W (.slice (some ⟨b, o', none⟩) n' c') (.int .i64 (m' : Int)) (.slice none 0 0) (.slice none 0 0) (.bool false)) ∧ Below w.heap.size w W ∧ w.heap.size + 1 + 1 + 1 + 1 + 1 + 1 ≤ W.heap.size
/-- Behind a pair that isn't the list's. -/
def DnX (w : World) (P : List HP) (n m : Nat) (F : Nat → Nat → Nat) (c : Code) (pre : List Nat) (W : World) : Prop :=
  (∃ r s0 i1 x1 c1 x2 c2, c = .ret ∧ (pre.map (prAt P)).foldl dstep (.inl (n, m, F)) = .inr r ∧ Bx w W s0 i1 (.slice x1 65 c1) (.slice x2 65 c2) (.bool true) ∧ BA W x1 65 (ndT r.2.1 r.2.2) ∧ BA W x2 65 (ndT r.1.1 r.1.2)) ∧ Below w.heap.size w W
/-- The round's own variable. -/
def DnA (w W0 : World) (P : List HP) (b l n m c c2 o : Nat) (y : Option Addr) (x : Nat) (a' : Act) (W : World) : Prop :=
  ∃ yb, W0.heap.size ≤ yb ∧ yb < W.heap.size ∧ W.rangeAt yb 0 (pq (prAt P x)) ∧ a' = { tmps := #[.slice (some ⟨b, o, none⟩) n c, .int .i64 (m : Int), .slice y l c2, .pointer (some ⟨w.heap.size, 0, none⟩), .pointer (some ⟨w.heap.size + 1, 0, none⟩), undef, .pointer (some ⟨w.heap.size + 1 + 1, 0, none⟩), .pointer (some ⟨w.heap.size + 1 + 1 + 1, 0, none⟩), .pointer (some ⟨w.heap.size + 1 + 1 + 1 + 1, 0, none⟩), undef, .pointer (some ⟨yb, 0, none⟩), undef, undef, .slice y l c2, .func (.func 63) #[] #[.pointer (some ⟨w.heap.size + 1 + 1 + 1 + 1 + 1, 0, none⟩)], .int .i64 (x : Int), pval (prAt P x), undef, undef, undef, undef, undef, undef, undef, undef, undef, undef, undef, undef, undef, undef, undef, undef, undef, undef, undef, undef, undef, undef, undef, undef, undef, undef, undef, undef, undef, undef, undef], defers := [] }
theorem dnI_own {w : World} {b l : Nat} {P : List HP} {n m : Nat} {F : Nat → Nat → Nat} {B : Nat} (hB : w.heap.size ≤ B) : OwnFrom B (DnI w b l P n m F) := fun _ _ _ _ hs hg hr => by
  obtain ⟨⟨n', m', F', o', c', h1, h2, h3, h4, h5, h6, h7, h8⟩, h9, h10⟩ := hs
  exact ⟨⟨n', m', F', o', c', h1, h2, h3, h4, h5, h6, h7, h8.own hg (fun r e => (hr r e).2)⟩, h9.grown hg h9.size (fun k e => Nat.le_trans hB (hr k e).1), Nat.le_trans h10 hg.size⟩
theorem dnX_own {w : World} {P : List HP} {n m : Nat} {F : Nat → Nat → Nat} {B : Nat} (hB : w.heap.size ≤ B) (c : Code) : OwnFrom B (DnX w P n m F c) := fun _ _ _ _ hs hg hr => by
  obtain ⟨⟨r, s0, i1, x1, c1, x2, c2, h1, h2, h3, h4, h5⟩, h9⟩ := hs
  exact ⟨⟨r, s0, i1, x1, c1, x2, c2, h1, h2, h3.own hg (fun r e => (hr r e).2), ba_own h4 hg (fun r e => (hr r e).2), ba_own h5 hg (fun r e => (hr r e).2)⟩, h9.grown hg h9.size (fun k e => Nat.le_trans hB (hr k e).1)⟩
theorem dnA_own {w W0 : World} {P : List HP} {b l n m c c2 o : Nat} {y : Option Addr} {B : Nat} (x : Nat) (a' : Act) : OwnFrom B (fun (_ : Unit) W => DnA w W0 P b l n m c c2 o y x a' W) := fun _ _ _ _ hs hg hr => by
  obtain ⟨yb, h1, h2, h3, h4⟩ := hs
  exact ⟨yb, h1, Nat.lt_of_lt_of_le h2 hg.size, range_own h3 hg (fun r e => (hr r e).2), h4⟩
theorem two_set (T : Array Value) (a b : Value) (i j : Nat) : (#[i, j].zip #[a, b]).foldl (fun t (p, v) => t.setIfInBounds p v) T = (T.setIfInBounds i a).setIfInBounds j b := by simp
theorem meetW {G : Prop} {R P : World → Prop} (main : (∀ W, R W → P W) → G) (x : ∀ W, R W → P W) : G := main x
theorem RowC.putq {W : World} {b : Nat} {p : HP} (h : RowC W b (pq p)) (q : HP) : RowC (W.setCells b 0 (pq q)) b (pq q) := by
  have hp := h.put 0 (pq q) (by rw [pq_len, pq_len]; omega)
  have e : ov (pq p) 0 (pq q) = pq q := by
    unfold ov
    rw [List.take_zero, List.nil_append, List.drop_eq_nil_of_le (by rw [pq_len, pq_len]; omega), List.append_nil]
  rwa [e] at hp
theorem below_setB {b : Nat} {W0 w : World} (hb : Below W0.heap.size W0 w) (hB : W0.heap.size ≤ b) (vs : List Value) : Below W0.heap.size W0 (w.setCells b 0 vs) := below_setCells _ _ hb hB
section
variable {w : World} {o : Oper} {a : Act} {Q : Exit → Act → World → Prop} {Kt : Act → World → Prop}
theorem wp_alloc_q (hop : o.op = Op.alloc 78) (h : ∀ y W', w.heap.size ≤ y → RowC W' y (pq z20) → Below w.heap.size w W' → Kt (a.put o.dst (.pointer (some ⟨y, 0, none⟩))) W') : Oper.wp Tryd.prog o a w Kt Q := by
  unfold Oper.wp
  rw [run_alloc_q hop]
  exact h _ _ (Nat.le_refl _) (RowC.made w 78 _) (Go.Proofs.YtpokecijongkpaaDoor.K.alloc (Below.refl _ _) _)
theorem wpList_alloc_q {ops : Array Oper} {rest : List Oper} (hgd : o.guard = none) (hop : o.op = Op.alloc 78) (h : ∀ y W', w.heap.size ≤ y → RowC W' y (pq z20) → Below w.heap.size w W' → wpList Tryd.prog ops Q rest (a.put o.dst (.pointer (some ⟨y, 0, none⟩))) W') : wpList Tryd.prog ops Q (o :: rest) a w :=
  wpList_plain hgd fun _ hK => wp_alloc_q hop fun y W' h1 h2 h3 => hK _ _ (h y W' h1 h2 h3)
theorem wp_store_q (x y : Operand) (hop : o.op = Op.store 78 x y) {b : Nat} {W0 : World} {p q : HP} (hx : a.eval x = .pointer (some ⟨b, 0, none⟩)) (hy : a.eval y = pval q) (hr : RowC w b (pq p)) (hb : Below W0.heap.size W0 w) (hB : W0.heap.size ≤ b) (h : ∀ W', RowC W' b (pq q) → Below W0.heap.size W0 W' → Kt (a.put o.dst undef) W') : Oper.wp Tryd.prog o a w Kt Q :=
  wp_store_mid 78 x y hop b 0 (pq q).toArray hx hy (hr.there 0 _ (by rw [List.size_toArray, pq_len, pq_len]; omega)) (inQ _) (all_oneCell_toArray (pq_one _)) (h _ (hr.putq q) (below_setB hb hB _))
theorem wpList_store_q {ops : Array Oper} {rest : List Oper} (hgd : o.guard = none) (x y : Operand) (hop : o.op = Op.store 78 x y) {b : Nat} {W0 : World} {p q : HP} (hx : a.eval x = .pointer (some ⟨b, 0, none⟩)) (hy : a.eval y = pval q) (hr : RowC w b (pq p)) (hb : Below W0.heap.size W0 w) (hB : W0.heap.size ≤ b) (h : ∀ W', RowC W' b (pq q) → Below W0.heap.size W0 W' → wpList Tryd.prog ops Q rest (a.put o.dst undef) W') : wpList Tryd.prog ops Q (o :: rest) a w :=
  wpList_store_mid hgd 78 x y hop b 0 (pq q).toArray hx hy (hr.there 0 _ (by rw [List.size_toArray, pq_len, pq_len]; omega)) (inQ _) (all_oneCell_toArray (pq_one _)) (h _ (hr.putq q) (below_setB hb hB _))
end
set_option maxRecDepth 100000 in
set_option maxHeartbeats 16000000 in
theorem down_in {w : World} {b o n c m l c2 : Nat} {y : Option Addr} {F : Nat → Nat → Nat} {P : List HP} (hT : Tab w) (hx : HL w (some ⟨b, o, none⟩) n F) (hc : n ≤ c) (hcm : c ≤ maxLen) (hn : n ≤ 1000000) (hm : m ≤ 1000000) (hp : PrL w y P) (hl : P.length = l) (hl1 : l ≤ 1000) (hb : ∀ i, (∀ j, (prAt P i).1 j < 256) ∧ ∀ j, (prAt P i).2 j < 256) (hd : dpt l n m) :
    CallsIn Fence.wide 5 Tryd.prog 36 #[.slice (some ⟨b, o, none⟩) n c, .int .i64 (m : Int), .slice y l c2] w (DnP w (fnd (((List.range l).reverse.map (prAt P)).foldl dstep (.inl (n, m, F))))) := by
  have HT := hide hT
  have HBt := hide hb
  have HX := hide hx
  have HPp := hide hp
  have HD := hide hd
  have HCm := hide (And.intro hc (And.intro hcm (And.intro hn hm)))
  clear hT hb hx hp hd hc hcm hn hm
  refine callsIn_of_wp_marks Tryd.func36 rfl trivial ?_ rfl
  simp only [Tryd.ntmps36, List.size_toArray, List.length_cons, List.length_nil, Nat.reduceAdd, Nat.reduceSub, Array.replicate_succ, Array.replicate_zero, List.push_toArray, List.append_toArray, List.nil_append, List.cons_append]
  have HBx := hide (bx_new w (.slice (some ⟨b, o, none⟩) n c) (.int .i64 (m : Int)) (.slice none 0 0) (.slice none 0 0) (.bool false))
  have HB0 : Hid (Below w.heap.size w (((((w.alloc (.cells #[.slice (some ⟨b, o, none⟩) n c] 22)).alloc (.cells #[.int .i64 (m : Int)] 3)).alloc (.cells #[.slice none 0 0] 28)).alloc (.cells #[.slice none 0 0] 28)).alloc (.cells #[.bool false] 4))) := hide (Go.Proofs.YtpokecijongkpaaDoor.K.alloc (Go.Proofs.YtpokecijongkpaaDoor.K.alloc (Go.Proofs.YtpokecijongkpaaDoor.K.alloc (Go.Proofs.YtpokecijongkpaaDoor.K.alloc (Go.Proofs.YtpokecijongkpaaDoor.K.alloc (Below.refl _ _) _) _) _) _) _)
  have HSz : Hid ((((((w.alloc (.cells #[.slice (some ⟨b, o, none⟩) n c] 22)).alloc (.cells #[.int .i64 (m : Int)] 3)).alloc (.cells #[.slice none 0 0] 28)).alloc (.cells #[.slice none 0 0] 28)).alloc (.cells #[.bool false] 4)).heap.size = w.heap.size + 1 + 1 + 1 + 1 + 1) := hide (by simp only [World.size_alloc])
  gi_wp2_with (refine ⟨trivial, ?_⟩; gi_at_call 51; refine (back_call _ _).mono ?_; rintro e w' ⟨rfl, rfl⟩)
  generalize (((((w.alloc (.cells #[.slice (some ⟨b, o, none⟩) n c] 22)).alloc (.cells #[.int .i64 (m : Int)] 3)).alloc (.cells #[.slice none 0 0] 28)).alloc (.cells #[.slice none 0 0] 28)).alloc (.cells #[.bool false] 4)) = Y at HBx HB0 HSz ⊢
  have HBs := hide (Boxed.new Y 51 (.slice y l c2))
  rw [HSz.out] at HBs
  try rw [HSz.out]
  have HBx1 := hide (HBx.out.bl (Go.Proofs.YtpokecijongkpaaDoor.K.alloc (Below.refl _ _) (.cells #[.slice y l c2] 51)))
  have HB1 := hide (Go.Proofs.YtpokecijongkpaaDoor.K.alloc HB0.out (.cells #[.slice y l c2] 51))
  have HS1 : Hid ((Y.alloc (.cells #[.slice y l c2] 51)).heap.size = w.heap.size + 1 + 1 + 1 + 1 + 1 + 1) := hide (by rw [World.size_alloc, HSz.out])
  generalize Y.alloc (.cells #[.slice y l c2] 51) = W0 at HBs HBx1 HB1 HS1 ⊢
  clear HBx HB0 HSz
  refine wpIn_rangeFunc_ownH rfl (by decide) (gf := 63) (lb := #[.pointer (some ⟨w.heap.size + 1 + 1 + 1 + 1 + 1, 0, none⟩)]) rfl trivial (enters_of Tryd.func63 (by kernel_rfl) rfl)
    (back_stops _ HB1.out HBs.out.cell HBs.out.lt HPp.out hl hl1) (fun h k => Kq.trans h k) (kq_b (by rw [HS1.out]; omega) (by rw [HS1.out]; omega)) (Below.refl _ _) (fun _ => rfl)
    (DnI w b l P n m F) (DnX w P n m F) (dnI_own (by rw [HS1.out]; omega)) (fun c => dnX_own (by rw [HS1.out]; omega) c)
    ⟨⟨n, m, F, o, c, rfl, HD.out, HCm.out.1, HCm.out.2.1, HCm.out.2.2.1, HCm.out.2.2.2, HX.out, HBx1.out⟩, HB1.out, by rw [HS1.out]; exact Nat.le_refl _⟩
    (DnA w W0 P b l n m c c2 o y) dnA_own ?assign ?body ?done ?stop
  case assign =>
    intro lY pre x W K hI hK
    have HI := hide hI
    have HK := hide hK
    clear hI hK
    rw [two_set]
    simp only [List.setIfInBounds_toArray, List.set_cons_zero, List.set_cons_succ]
    refine wpIn_region_flat (by kernel_rfl) ?_
    refine wpList_alloc_q rfl rfl (fun yb W1 hle hr hb => ?_)
    simp only [Act.put, List.setIfInBounds_toArray, List.set_cons_zero, List.set_cons_succ]
    refine wpList_store_q rfl _ _ rfl (W0 := W) (p := z20) (q := prAt P x) (by rfl) (by rfl) hr hb hle (fun W2 hr2 hb2 => ?_)
    simp only [Act.put]
    refine wpList_nil ?_
    refine OnlyN.normal ?_
    obtain ⟨hd, hB, hsz⟩ := HI.out
    obtain ⟨n', m', F', o', c', h1, h2, h3, h4, h5, h6, h7, h8⟩ := hd
    exact HK.out _ _ (keeps_below hb2) ⟨hb2.mono hB.size, hb2.block _ (by omega)⟩ ⟨⟨n', m', F', o', c', h1, h2, h3, h4, h5, h6, h7, h8.bl hb2⟩, hB.trans (hb2.mono hB.size), Nat.le_trans hsz hb2.size⟩ ⟨yb, by rw [HS1.out]; omega, hr2.lt, hr2.c, rfl⟩
  case body =>
    rintro lY pre x a' W hlW _ ⟨⟨n', m', F', o', c', hst, hdp, hnc, hcm', hn', hm', hL, hBx⟩, hB, hsz⟩ ⟨yb, hyb, hyl, hyr, rfl⟩ hlt
    obtain ⟨d, hdk⟩ : ∃ d, l - pre.length = d + 1 := ⟨l - pre.length - 1, by omega⟩
    rw [hdk] at hdp
    have h2n := hdp.1
    have hlen : l - (pre ++ [x]).length = d := by rw [List.length_append, List.length_singleton]; omega
    have HdL : Hid (m' < sp n' → dpt (l - (pre ++ [x]).length) (sp n') m') := hide (fun h => by have := hdp.2; rw [if_pos h] at this; rw [hlen]; exact this)
    have HdU : Hid (¬ m' < sp n' → dpt (l - (pre ++ [x]).length) (n' - sp n') (m' - sp n')) := hide (fun h => by have := hdp.2; rw [if_neg h] at this; rw [hlen]; exact this)
    have hsn : ∀ s, ((pre ++ [x]).map (prAt P)).foldl dstep s = dstep ((pre.map (prAt P)).foldl dstep s) (prAt P x) := fun s => by rw [List.map_append, List.foldl_append]; rfl
    have HBq := hide (HBt.out x)
    have hsn' : ((pre ++ [x]).map (prAt P)).foldl dstep (.inl (n, m, F)) = dstep (.inl (n', m', F')) (prAt P x) := by rw [hsn, hst]
    have HSo := hide (fun h => hsn'.trans (dstep_off (p := prAt P x) (n := n') (m := m') (F := F') h))
    have HSl := hide (fun h hk => hsn'.trans (dstep_low (p := prAt P x) (n := n') (m := m') (F := F') h hk))
    have HSu := hide (fun h hk => hsn'.trans (dstep_up (p := prAt P x) (n := n') (m := m') (F := F') h hk))
    have HSP := hide (fun W => split_any W (k := (n' : Int)) (by omega) (by omega))
    rw [Int.toNat_natCast] at HSP
    have k1 := sp_lt h2n
    have k2 := sp_pos h2n
    have HRa : Hid (∀ W', Below W.heap.size W W' → Calls Tryd.prog 20 #[.slice (some ⟨b, o', none⟩) (sp n') c'] W' fun e w' => e = .returned (.agg (ab (rt F' (sp n')) 32).toArray) ∧ Below W'.heap.size W' w') :=
      hide (fun W' hb => root_any (sp n') (HT.out.keep (Go.Proofs.YtpokecijongkpaaDoor.K.call hB hb)) ((hL.head (sp n') (by omega)).keep (Go.Proofs.YtpokecijongkpaaDoor.K.call hB hb)) (by omega) hcm' (by omega))
    have HRb : Hid (∀ W', Below W.heap.size W W' → Calls Tryd.prog 20 #[.slice (some ⟨b, o' + sp n' * 32, none⟩) (n' - sp n') (c' - sp n')] W' fun e w' => e = .returned (.agg (ab (rt (fun i => F' (sp n' + i)) (n' - sp n')) 32).toArray) ∧ Below W'.heap.size W' w') :=
      hide (fun W' hb => root_any (n' - sp n') (HT.out.keep (Go.Proofs.YtpokecijongkpaaDoor.K.call hB hb)) ((hL.tail (sp n')).keep (Go.Proofs.YtpokecijongkpaaDoor.K.call hB hb)) (by omega) (by omega) (by omega))
    have HUb := hide (And.intro (rt_lt hL.lt (sp n')) (rt_lt (fun i => hL.lt (sp n' + i)) (n' - sp n')))
    have HLl := hide (hL.head (sp n') (by omega))
    have HLu := hide (hL.tail (sp n'))
    generalize rt F' (sp n') = u at HRa HSo HSl HSu HUb
    generalize rt (fun i => F' (sp n' + i)) (n' - sp n') = v at HRb HSo HSl HSu HUb
    generalize sp n' = k at *
    have hkc : k ≤ c' := by omega
    have hkn : k ≤ n' := by omega
    have hne : ¬ (c' = k) := by omega
    have HDC := hide (And.intro hnc (And.intro hcm' (And.intro hn' hm')))
    have HBx := hide hBx
    have HBw := hide (And.intro hB hsz)
    have HY := hide (And.intro hyb (And.intro hyl hyr))
    obtain ⟨t, ht⟩ : ∃ t, prAt P x = t := ⟨_, rfl⟩
    rw [ht] at HSo HSl HSu HBq HY ⊢
    have hcd := hBx.b0.cell
    have HCB := hide hcd
    clear hst hdp hsn hsn' hL hBx hB hsz hyb hyl hyr h2n k1 k2 hlen ht hdk
    refine wpIn_block ?_
    refine wpIn_seq ?_
    refine wpIn_region_flat (by kernel_rfl) ?_
    go_wp2_with (go_at_call 18; (with_reducible refine Calls.mono (HSP.out _) ?_); rintro e w1 ⟨rfl, hw⟩; replace hw := hw.symm; subst hw)
    refine OnlyN.normal ?_
    clear hcd HSP
    refine wpIn_seq ?_
    apply meetR (R := fun W' t => Below W.heap.size W W' ∧ W.heap.size ≤ t ∧ W'.rangeAt t 0 (pq (u, v)))
    · intro hcut
      refine wpIn_region_round (S := fun W' => Below W.heap.size W W') (by kernel_rfl) (by kernel_rfl) (Go.Proofs.YtpokecijongkpaaDoor.K.drew (Below.refl _ W)) (fun hS => ?_)
      refine wpAnyH_take (i := 0) (v := .slice (some ⟨b, o', none⟩) n' c') rfl (by kernel_rfl) (by kernel_rfl) (by kernel_rfl) (fun _ _ _ h => h) (Or.inl ⟨by rfl, fun w' hS => by have hc := later hS HCB.out; go_simp⟩) hS ?_
      simp only [Act.put, List.getElem_toArray, List.getElem_cons_zero, List.setIfInBounds_toArray, List.set_cons_zero, List.set_cons_succ]
      refine wpAnyH_take (i := 1) (v := .int .i64 (k : Int)) rfl (by kernel_rfl) (by kernel_rfl) (by kernel_rfl) (fun _ _ _ h => h) (Or.inl ⟨by rfl, fun w' _ => by go_simp⟩) hS ?_
      simp only [Act.put, List.getElem_toArray, List.getElem_cons_zero, List.getElem_cons_succ, List.setIfInBounds_toArray, List.set_cons_zero, List.set_cons_succ]
      refine wpAnyH_take (i := 2) (v := .slice (some ⟨b, o', none⟩) k c') rfl (by kernel_rfl) (by kernel_rfl) (by kernel_rfl) (fun _ _ _ h => h) (Or.inl ⟨by rfl, fun w' _ => by go_simp⟩) hS ?_
      simp only [Act.put, List.getElem_toArray, List.getElem_cons_zero, List.getElem_cons_succ, List.setIfInBounds_toArray, List.set_cons_zero, List.set_cons_succ]
      refine wpAnyH_take (i := 4) (v := .slice (some ⟨b, o', none⟩) n' c') rfl (by kernel_rfl) (by kernel_rfl) (by kernel_rfl) (fun _ _ _ h => h) (Or.inl ⟨by rfl, fun w' hS => by have hc := later hS HCB.out; go_simp⟩) hS ?_
      simp only [Act.put, List.getElem_toArray, List.getElem_cons_zero, List.getElem_cons_succ, List.setIfInBounds_toArray, List.set_cons_zero, List.set_cons_succ]
      refine wpAnyH_take (i := 5) (v := .int .i64 (k : Int)) rfl (by kernel_rfl) (by kernel_rfl) (by kernel_rfl) (fun _ _ _ h => h) (Or.inl ⟨by rfl, fun w' _ => by go_simp⟩) hS ?_
      simp only [Act.put, List.getElem_toArray, List.getElem_cons_zero, List.getElem_cons_succ, List.setIfInBounds_toArray, List.set_cons_zero, List.set_cons_succ]
      refine wpAnyH_take (i := 6) (v := .slice (some ⟨b, o' + k * 32, none⟩) (n' - k) (c' - k)) rfl (by kernel_rfl) (by kernel_rfl) (by kernel_rfl) (fun _ _ _ h => h) (Or.inl ⟨by rfl, fun w' _ => by go_simp⟩) hS ?_
      simp only [Act.put, List.getElem_toArray, List.getElem_cons_zero, List.getElem_cons_succ, List.setIfInBounds_toArray, List.set_cons_zero, List.set_cons_succ]
      refine wpAnyH_ready (rs := [3, 9]) (by kernel_rfl) (by simp) (AllReadyH.cons rfl (fun Kt hK => ?_) (AllReadyH.cons rfl (fun Kt hK => ?_) AllReadyH.nil))
      · refine wanted_pos rfl ?_
        refine wp_call (R := fun r w' => r = .agg (ab u 32).toArray ∧ Below W.drew.heap.size W.drew w') (vs := #[.slice (some ⟨b, o', none⟩) k c']) rfl (by simp only [List.map_toArray, List.map_cons, List.map_nil]; rfl) (by go_simp) (Calls.mono (HRa.out W.drew hS) (fun e w' h => ⟨_, h.1, rfl, h.2⟩)) (fun r W1 hr => ?_)
        obtain ⟨rfl, hbn⟩ := hr
        refine hK.out _ _ (Go.Proofs.YtpokecijongkpaaDoor.K.call hS hbn) (fun hS => ?_)
        clear hK Kt hbn
        simp only [Act.put, List.getElem_toArray, List.getElem_cons_zero, List.getElem_cons_succ, List.setIfInBounds_toArray, List.set_cons_zero, List.set_cons_succ]
        refine wpAnyH_ready (rs := [7, 9]) (by kernel_rfl) (by simp) (AllReadyH.cons rfl (fun Kt hK => ?_) (AllReadyH.cons rfl (fun Kt hK => ?_) AllReadyH.nil))
        · refine wanted_pos rfl ?_
          refine wp_call (R := fun r w' => r = .agg (ab v 32).toArray ∧ Below W1.heap.size W1 w') (vs := #[.slice (some ⟨b, o' + k * 32, none⟩) (n' - k) (c' - k)]) rfl (by simp only [List.map_toArray, List.map_cons, List.map_nil]; rfl) (by go_simp) (Calls.mono (HRb.out W1 hS) (fun e w' h => ⟨_, h.1, rfl, h.2⟩)) (fun r W2 hr => ?_)
          obtain ⟨rfl, hbn⟩ := hr
          refine hK.out _ _ (Go.Proofs.YtpokecijongkpaaDoor.K.call hS hbn) (fun hS => ?_)
          clear hK Kt hbn
          simp only [Act.put, List.getElem_toArray, List.getElem_cons_zero, List.getElem_cons_succ, List.setIfInBounds_toArray, List.set_cons_zero, List.set_cons_succ]
          refine wpAnyH_take (i := 8) (v := pval (u, v)) rfl (by kernel_rfl) (by kernel_rfl) (by kernel_rfl) (fun _ _ _ h => h) (yieldsIf_build_q (by rfl) _ _ rfl (by rfl) (by rfl)) hS ?_
          simp only [Act.put, List.getElem_toArray, List.getElem_cons_zero, List.getElem_cons_succ, List.setIfInBounds_toArray, List.set_cons_zero, List.set_cons_succ]
          refine wpAnyH_ready (rs := [9]) (by kernel_rfl) (by simp) (AllReadyH.cons rfl (fun Kt hK => ?_) AllReadyH.nil)
          refine wanted_pos rfl ?_
          refine wp_alloc_q rfl (fun tb W3 hle hrow hbn => ?_)
          have HRw := hide hrow
          have HLe := hide (Nat.le_trans hS.size hle)
          refine hK.out _ _ (Go.Proofs.YtpokecijongkpaaDoor.K.call hS hbn) (fun hS => ?_)
          clear hK Kt hbn hle hrow
          simp only [Act.put, List.getElem_toArray, List.getElem_cons_zero, List.getElem_cons_succ, List.setIfInBounds_toArray, List.set_cons_zero, List.set_cons_succ]
          refine wpAnyH_ready (rs := [10]) (by kernel_rfl) (by simp) (AllReadyH.cons rfl (fun Kt hK => ?_) AllReadyH.nil)
          refine wanted_pos rfl ?_
          refine wp_store_q _ _ rfl (W0 := W) (p := z20) (q := (u, v)) (by rfl) (by rfl) HRw.out hS HLe.out (fun Z hrz hbz => ?_)
          refine hK.out _ _ (hbz) (fun hS => ?_)
          clear hK Kt
          simp only [Act.put, List.getElem_toArray, List.getElem_cons_zero, List.getElem_cons_succ]
          refine wpAnyH_done (by kernel_rfl) ?_ _
          refine OnlyN.normal ?_
          exact hcut Z tb ⟨hbz, HLe.out, hrz.c⟩
        · refine wanted_pos rfl ?_
          refine wp_alloc_q rfl (fun tb W2 hle hrow hbn => ?_)
          have HRw := hide hrow
          have HLe := hide (Nat.le_trans hS.size hle)
          refine hK.out _ _ (Go.Proofs.YtpokecijongkpaaDoor.K.call hS hbn) (fun hS => ?_)
          clear hK Kt hbn hle hrow
          simp only [Act.put, List.getElem_toArray, List.getElem_cons_zero, List.getElem_cons_succ, List.setIfInBounds_toArray, List.set_cons_zero, List.set_cons_succ]
          refine wpAnyH_ready (rs := [7]) (by kernel_rfl) (by simp) (AllReadyH.cons rfl (fun Kt hK => ?_) AllReadyH.nil)
          refine wanted_pos rfl ?_
          refine wp_call (R := fun r w' => r = .agg (ab v 32).toArray ∧ Below W2.heap.size W2 w') (vs := #[.slice (some ⟨b, o' + k * 32, none⟩) (n' - k) (c' - k)]) rfl (by simp only [List.map_toArray, List.map_cons, List.map_nil]; rfl) (by go_simp) (Calls.mono (HRb.out W2 hS) (fun e w' h => ⟨_, h.1, rfl, h.2⟩)) (fun r W3 hr => ?_)
          obtain ⟨rfl, hbn⟩ := hr
          replace HRw := hide (HRw.out.keep hbn)
          refine hK.out _ _ (Go.Proofs.YtpokecijongkpaaDoor.K.call hS hbn) (fun hS => ?_)
          clear hK Kt hbn
          simp only [Act.put, List.getElem_toArray, List.getElem_cons_zero, List.getElem_cons_succ, List.setIfInBounds_toArray, List.set_cons_zero, List.set_cons_succ]
          refine wpAnyH_take (i := 8) (v := pval (u, v)) rfl (by kernel_rfl) (by kernel_rfl) (by kernel_rfl) (fun _ _ _ h => h) (yieldsIf_build_q (by rfl) _ _ rfl (by rfl) (by rfl)) hS ?_
          simp only [Act.put, List.getElem_toArray, List.getElem_cons_zero, List.getElem_cons_succ, List.setIfInBounds_toArray, List.set_cons_zero, List.set_cons_succ]
          refine wpAnyH_ready (rs := [10]) (by kernel_rfl) (by simp) (AllReadyH.cons rfl (fun Kt hK => ?_) AllReadyH.nil)
          refine wanted_pos rfl ?_
          refine wp_store_q _ _ rfl (W0 := W) (p := z20) (q := (u, v)) (by rfl) (by rfl) HRw.out hS HLe.out (fun Z hrz hbz => ?_)
          refine hK.out _ _ (hbz) (fun hS => ?_)
          clear hK Kt
          simp only [Act.put, List.getElem_toArray, List.getElem_cons_zero, List.getElem_cons_succ]
          refine wpAnyH_done (by kernel_rfl) ?_ _
          refine OnlyN.normal ?_
          exact hcut Z tb ⟨hbz, HLe.out, hrz.c⟩
      · refine wanted_pos rfl ?_
        refine wp_alloc_q rfl (fun tb W1 hle hrow hbn => ?_)
        have HRw := hide hrow
        have HLe := hide (Nat.le_trans hS.size hle)
        refine hK.out _ _ (Go.Proofs.YtpokecijongkpaaDoor.K.call hS hbn) (fun hS => ?_)
        clear hK Kt hbn hle hrow
        simp only [Act.put, List.getElem_toArray, List.getElem_cons_zero, List.getElem_cons_succ, List.setIfInBounds_toArray, List.set_cons_zero, List.set_cons_succ]
        refine wpAnyH_ready (rs := [3]) (by kernel_rfl) (by simp) (AllReadyH.cons rfl (fun Kt hK => ?_) AllReadyH.nil)
        refine wanted_pos rfl ?_
        refine wp_call (R := fun r w' => r = .agg (ab u 32).toArray ∧ Below W1.heap.size W1 w') (vs := #[.slice (some ⟨b, o', none⟩) k c']) rfl (by simp only [List.map_toArray, List.map_cons, List.map_nil]; rfl) (by go_simp) (Calls.mono (HRa.out W1 hS) (fun e w' h => ⟨_, h.1, rfl, h.2⟩)) (fun r W2 hr => ?_)
        obtain ⟨rfl, hbn⟩ := hr
        replace HRw := hide (HRw.out.keep hbn)
        refine hK.out _ _ (Go.Proofs.YtpokecijongkpaaDoor.K.call hS hbn) (fun hS => ?_)
        clear hK Kt hbn
        simp only [Act.put, List.getElem_toArray, List.getElem_cons_zero, List.getElem_cons_succ, List.setIfInBounds_toArray, List.set_cons_zero, List.set_cons_succ]
        refine wpAnyH_ready (rs := [7]) (by kernel_rfl) (by simp) (AllReadyH.cons rfl (fun Kt hK => ?_) AllReadyH.nil)
        refine wanted_pos rfl ?_
        refine wp_call (R := fun r w' => r = .agg (ab v 32).toArray ∧ Below W2.heap.size W2 w') (vs := #[.slice (some ⟨b, o' + k * 32, none⟩) (n' - k) (c' - k)]) rfl (by simp only [List.map_toArray, List.map_cons, List.map_nil]; rfl) (by go_simp) (Calls.mono (HRb.out W2 hS) (fun e w' h => ⟨_, h.1, rfl, h.2⟩)) (fun r W3 hr => ?_)
        obtain ⟨rfl, hbn⟩ := hr
        replace HRw := hide (HRw.out.keep hbn)
        refine hK.out _ _ (Go.Proofs.YtpokecijongkpaaDoor.K.call hS hbn) (fun hS => ?_)
        clear hK Kt hbn
        simp only [Act.put, List.getElem_toArray, List.getElem_cons_zero, List.getElem_cons_succ, List.setIfInBounds_toArray, List.set_cons_zero, List.set_cons_succ]
        refine wpAnyH_take (i := 8) (v := pval (u, v)) rfl (by kernel_rfl) (by kernel_rfl) (by kernel_rfl) (fun _ _ _ h => h) (yieldsIf_build_q (by rfl) _ _ rfl (by rfl) (by rfl)) hS ?_
        simp only [Act.put, List.getElem_toArray, List.getElem_cons_zero, List.getElem_cons_succ, List.setIfInBounds_toArray, List.set_cons_zero, List.set_cons_succ]
        refine wpAnyH_ready (rs := [10]) (by kernel_rfl) (by simp) (AllReadyH.cons rfl (fun Kt hK => ?_) AllReadyH.nil)
        refine wanted_pos rfl ?_
        refine wp_store_q _ _ rfl (W0 := W) (p := z20) (q := (u, v)) (by rfl) (by rfl) HRw.out hS HLe.out (fun Z hrz hbz => ?_)
        refine hK.out _ _ (hbz) (fun hS => ?_)
        clear hK Kt
        simp only [Act.put, List.getElem_toArray, List.getElem_cons_zero, List.getElem_cons_succ]
        refine wpAnyH_done (by kernel_rfl) ?_ _
        refine OnlyN.normal ?_
        exact hcut Z tb ⟨hbz, HLe.out, hrz.c⟩
    · intro W4 tb hR4
      obtain ⟨hB4, hle4, hr4⟩ := hR4
      have HBx4 := hide (HBx.out.bl hB4)
      have HB4 := hide (And.intro hB4 hle4)
      have HR4 := hide hr4
      have HY4 := hide (range_keep HY.out.2.2 hB4)
      have HN4 : Hid (w.heap.size + 1 + 1 + 1 + 1 < tb ∧ w.heap.size + 1 + 1 + 1 + 1 < yb) := hide (by have h1 := HBw.out.2; have h2 := HY.out.1; rw [HS1.out] at h2; omega)
      clear hB4 hle4 hr4 HCB HRa HRb
      show Code.wpIn _ _ _ _ _ _ _
      refine wpIn_seq ?_
      cases hc : eqB u t.1 32 && eqB v t.2 32 with
      | false =>
        refine wpIn_seq ?_
        refine wpIn_region_flat (by kernel_rfl) ?_
        refine wpList_load_q rfl _ rfl (by rfl) HR4.out ?_
        simp only [Act.put, List.setIfInBounds_toArray, List.set_cons_zero, List.set_cons_succ]
        refine wpList_load_q rfl _ rfl (by rfl) HY4.out ?_
        simp only [Act.put, List.setIfInBounds_toArray, List.set_cons_zero, List.set_cons_succ]
        refine wpList_neQ (by rfl) _ _ _ rfl (u, v) t _ (by rfl) (by rfl) hc ?_
        simp only [Act.put, List.setIfInBounds_toArray, List.set_cons_zero, List.set_cons_succ]
        refine wpList_nil ?_
        refine OnlyN.normal ?_
        show Code.wpIn _ _ _ _ _ _ _
        refine wpIn_cond_true (by rfl) ?_
        refine wpIn_seq ?_
        refine wpIn_region_round (S := fun W' => W'.rangeAt tb 0 (pq (u, v)) ∧ W'.rangeAt yb 0 (pq t)) (by kernel_rfl) (by kernel_rfl) ⟨HR4.out, HY4.out⟩ (fun hS => ?_)
        refine wpAnyH_take (i := 0) (v := pval (u, v)) rfl (by kernel_rfl) (by kernel_rfl) (by kernel_rfl) (fun _ _ _ h => h) (yieldsIf_load_mid (by rfl) 78 _ rfl tb 0 (by rfl) (pq (u, v)) _ (fun w' hS => hS.1) Tryd.underlying78 rfl (ilQ _)) hS ?_
        simp only [Act.put, List.getElem_toArray, List.getElem_cons_zero, List.setIfInBounds_toArray, List.set_cons_zero, List.set_cons_succ]
        refine wpAnyH_take (i := 2) (v := pval t) rfl (by kernel_rfl) (by kernel_rfl) (by kernel_rfl) (fun _ _ _ h => h) (yieldsIf_load_mid (by rfl) 78 _ rfl yb 0 (by rfl) (pq t) _ (fun w' hS => hS.2) Tryd.underlying78 rfl (ilQ _)) hS ?_
        simp only [Act.put, List.getElem_toArray, List.getElem_cons_zero, List.getElem_cons_succ, List.setIfInBounds_toArray, List.set_cons_zero, List.set_cons_succ]
        refine wpAnyH_ready (rs := [1]) (by kernel_rfl) (by simp) (AllReadyH.cons rfl (fun Kt hK => ?_) AllReadyH.nil)
        refine wanted_pos rfl ?_
        refine wp_call (R := fun r w' => ∃ a c, r = .slice a 65 c ∧ BA w' a 65 (ndT (u, v).1 (u, v).2) ∧ Below W4.drew.heap.size W4.drew w') (vs := #[pval (u, v)]) rfl (by simp only [List.map_toArray, List.map_cons, List.map_nil]; rfl) (by go_simp) (Calls.mono (pairText_any (w := W4.drew) (q := (u, v)) HUb.out.1 HUb.out.2) (fun e w' h => by obtain ⟨a, c, he, h1, h2⟩ := h; exact ⟨_, he, a, c, rfl, h1, h2⟩)) (fun r W5 hr => ?_)
        obtain ⟨x1, d1, rfl, hx1, hbn⟩ := hr
        have HX1 := hide hx1
        have HBx5 := hide (HBx4.out.bl ((Go.Proofs.YtpokecijongkpaaDoor.K.drew (Below.refl _ W4)).trans (hbn.mono (Nat.le_refl _))))
        have HK5 := hide (Go.Proofs.YtpokecijongkpaaDoor.K.call HB4.out.1 (Go.Proofs.YtpokecijongkpaaDoor.K.call (Go.Proofs.YtpokecijongkpaaDoor.K.drew (Below.refl _ W4)) hbn))
        refine hK.out _ _ (⟨range_keep hS.1 hbn, range_keep hS.2 hbn⟩) (fun hS => ?_)
        clear hK Kt hbn hx1
        simp only [Act.put, List.getElem_toArray, List.getElem_cons_zero, List.getElem_cons_succ, List.setIfInBounds_toArray, List.set_cons_zero, List.set_cons_succ]
        refine wpAnyH_ready (rs := [3]) (by kernel_rfl) (by simp) (AllReadyH.cons rfl (fun Kt hK => ?_) AllReadyH.nil)
        refine wanted_pos rfl ?_
        refine wp_call (R := fun r w' => ∃ a c, r = .slice a 65 c ∧ BA w' a 65 (ndT t.1 t.2) ∧ Below W5.heap.size W5 w') (vs := #[pval t]) rfl (by simp only [List.map_toArray, List.map_cons, List.map_nil]; rfl) (by go_simp) (Calls.mono (pairText_any (w := W5) (q := t) HBq.out.1 HBq.out.2) (fun e w' h => by obtain ⟨a, c, he, h1, h2⟩ := h; exact ⟨_, he, a, c, rfl, h1, h2⟩)) (fun r W6 hr => ?_)
        obtain ⟨x2, d2, rfl, hx2, hbn⟩ := hr
        have HX2 := hide hx2
        have HX1b := hide (HX1.out.keep hbn)
        have HBx6 := hide (HBx5.out.bl hbn)
        have HK6 := hide (Go.Proofs.YtpokecijongkpaaDoor.K.call HK5.out hbn)
        refine hK.out _ _ (⟨range_keep hS.1 hbn, range_keep hS.2 hbn⟩) (fun hS => ?_)
        clear hK Kt hbn hx2
        simp only [Act.put, List.getElem_toArray, List.getElem_cons_zero, List.getElem_cons_succ, List.setIfInBounds_toArray, List.set_cons_zero, List.set_cons_succ]
        refine wpAnyH_ready (rs := [4]) (by kernel_rfl) (by simp) (AllReadyH.cons rfl (fun Kt hK => ?_) AllReadyH.nil)
        refine wanted_pos rfl ?_
        refine wp_putBytes rfl (by rfl) (by rfl) HBx6.out.b2 ?_
        have HBx7 := hide (HBx6.out.set2 (.slice x1 65 d1))
        refine hK.out _ _ (⟨range_far hS.1 (by have := HN4.out; omega) _, range_far hS.2 (by have := HN4.out; omega) _⟩) (fun hS => ?_)
        clear hK Kt
        simp only [Act.put, List.getElem_toArray, List.getElem_cons_zero, List.getElem_cons_succ]
        refine wpAnyH_ready (rs := [5]) (by kernel_rfl) (by simp) (AllReadyH.cons rfl (fun Kt hK => ?_) AllReadyH.nil)
        refine wanted_pos rfl ?_
        refine wp_putBytes rfl (by rfl) (by rfl) HBx7.out.b3 ?_
        have HBx8 := hide (HBx7.out.set3 (.slice x2 65 d2))
        refine hK.out _ _ (⟨range_far hS.1 (by have := HN4.out; omega) _, range_far hS.2 (by have := HN4.out; omega) _⟩) (fun hS => ?_)
        clear hK Kt
        simp only [Act.put, List.getElem_toArray, List.getElem_cons_zero, List.getElem_cons_succ]
        refine wpAnyH_ready (rs := [6]) (by kernel_rfl) (by simp) (AllReadyH.cons rfl (fun Kt hK => ?_) AllReadyH.nil)
        refine wanted_pos rfl ?_
        refine wp_putBool rfl (by rfl) (by rfl) HBx8.out.b4 ?_
        have HBx9 := hide (HBx8.out.set4 (.bool true))
        refine hK.out _ _ (⟨range_far hS.1 (by have := HN4.out; omega) _, range_far hS.2 (by have := HN4.out; omega) _⟩) (fun hS => ?_)
        clear hK Kt
        simp only [Act.put, List.getElem_toArray, List.getElem_cons_zero, List.getElem_cons_succ]
        refine wpAnyH_done (by kernel_rfl) ?_ _
        refine OnlyN.normal ?_
        show Code.wpIn _ _ _ _ _ _ _
        refine wpIn_ret ?_
        have n2 : ∀ i, Value.slice none 0 0 ≠ .int .u8 i := fun i => (by intro e; cases e)
        have nb : ∀ i, Value.bool false ≠ .int .u8 i := fun i => (by intro e; cases e)
        refine ⟨((keeps_below HK6.out).trans (keeps_set _ _)).trans ((keeps_set _ _).trans (keeps_set _ _)), ⟨(t, (u, v)), _, _, x1, d1, x2, d2, rfl, HSo.out hc, HBx9.out, ?_, ?_⟩, ?_⟩
        · refine ba_far (ba_far (ba_far HX1b.out (ba_box HX1b.out HBx6.out.b2 n2) _) ?_ _) ?_ _
          · exact ba_box HX1b.out HBx6.out.b3 n2
          · exact ba_box HX1b.out HBx6.out.b4 nb
        · refine ba_far (ba_far (ba_far HX2.out (ba_box HX2.out HBx6.out.b2 n2) _) ?_ _) ?_ _
          · exact ba_box HX2.out HBx6.out.b3 n2
          · exact ba_box HX2.out HBx6.out.b4 nb
        · exact (((HBw.out.1.trans (HK6.out.mono HBw.out.1.size)).setCell (p := ⟨w.heap.size + 1 + 1, 0, none⟩) (by show _ ≤ w.heap.size + 1 + 1; omega) _).setCell (p := ⟨w.heap.size + 1 + 1 + 1, 0, none⟩) (by show _ ≤ w.heap.size + 1 + 1 + 1; omega) _).setCell (p := ⟨w.heap.size + 1 + 1 + 1 + 1, 0, none⟩) (by show _ ≤ w.heap.size + 1 + 1 + 1 + 1; omega) _
      | true =>
        refine wpIn_seq ?_
        refine wpIn_region_flat (by kernel_rfl) ?_
        refine wpList_load_q rfl _ rfl (by rfl) HR4.out ?_
        simp only [Act.put, List.setIfInBounds_toArray, List.set_cons_zero, List.set_cons_succ]
        refine wpList_load_q rfl _ rfl (by rfl) HY4.out ?_
        simp only [Act.put, List.setIfInBounds_toArray, List.set_cons_zero, List.set_cons_succ]
        refine wpList_neQ (by rfl) _ _ _ rfl (u, v) t _ (by rfl) (by rfl) hc ?_
        simp only [Act.put, List.setIfInBounds_toArray, List.set_cons_zero, List.set_cons_succ]
        refine wpList_nil ?_
        refine OnlyN.normal ?_
        show Code.wpIn _ _ _ _ _ _ _
        refine wpIn_cond_false (by rfl) ?_
        refine wpIn_skip ?_
        show Code.wpIn _ _ _ _ _ _ _
        have hci := HBx4.out.b1.cell
        have hcs := HBx4.out.b0.cell
        have hfi := HBx4.out.b1.frozen
        have hfs := HBx4.out.b0.frozen
        by_cases hk : m' < k
        · have hk' : (m' : Int) < (k : Int) := by omega
          refine wpIn_seq ?_
          refine wpIn_region_flat (by kernel_rfl) ?_
          go_wp2_with fail
          refine OnlyN.normal ?_
          refine wpIn_cond_true (by rfl) ?_
          refine wpIn_region_flat (by kernel_rfl) ?_
          go_wp2_with fail
          refine OnlyN.normal ?_
          have hsz4 := HB4.out.1.size
          have hs := HBw.out.2
          refine ⟨(keeps_below HB4.out.1).trans (keeps_set _ _), ⟨(HB4.out.1.mono HBw.out.1.size).setCell (p := ⟨w.heap.size, 0, none⟩) (Nat.le_refl _) _, (((grownBy_setCell' W4 w.heap.size _).block (w.heap.size + 1 + 1 + 1 + 1 + 1) (by omega) (by intro e; have := Option.some.inj e; omega)).trans (HB4.out.1.block _ (by omega)))⟩, ⟨k, m', F', o', c', HSl.out hc hk, HdL.out hk, hkc, HDC.out.2.1, by have := HDC.out.2.2.1; omega, HDC.out.2.2.2, HLl.out, HBx4.out.set0 _⟩, (HBw.out.1.trans (HB4.out.1.mono HBw.out.1.size)).setCell (p := ⟨w.heap.size, 0, none⟩) (Nat.le_refl _) _, by rw [World.size_setCell]; omega⟩
        · have hk' : ¬ ((m' : Int) < (k : Int)) := by omega
          refine wpIn_seq ?_
          refine wpIn_region_flat (by kernel_rfl) ?_
          go_wp2_with fail
          refine OnlyN.normal ?_
          refine wpIn_cond_false (by rfl) ?_
          obtain ⟨mk, hmk⟩ : ∃ d, m' - k = d := ⟨_, rfl⟩
          have hm1 : (m' : Int) - (k : Int) = (mk : Int) := by omega
          have hm2 : IntKind.i64.wrap (mk : Int) = (mk : Int) := by rw [IntKind.wrap_i64]; have := HDC.out.2.2.2; omega
          have hm3 : mk ≤ 1000000 := by have := HDC.out.2.2.2; omega
          have HST := hide (HSu.out hc hk)
          have HDD := hide (HdU.out hk)
          rw [hmk] at HST HDD
          clear hci hcs hfi hfs
          apply meetW (R := fun W' => W' = (W4.drew.setCell ⟨w.heap.size, 0, none⟩ (.slice (some ⟨b, o' + k * 32, none⟩) (n' - k) (c' - k))).setCell ⟨w.heap.size + 1, 0, none⟩ (.int .i64 (mk : Int)))
          · have HBd := hide (HBx4.out.bl (Go.Proofs.YtpokecijongkpaaDoor.K.drew (Below.refl _ W4)))
            intro hcut
            refine wpIn_region_round (S := fun _ => True) (by kernel_rfl) (by kernel_rfl) trivial (fun hS => ?_)
            refine wpAnyH_take (i := 1) (v := .int .i64 (k : Int)) rfl (by kernel_rfl) (by kernel_rfl) (by kernel_rfl) (fun _ _ _ h => h) (Or.inl ⟨by rfl, fun w' _ => by go_simp⟩) hS ?_
            simp only [Act.put, List.getElem_toArray, List.getElem_cons_zero, List.getElem_cons_succ, List.setIfInBounds_toArray, List.set_cons_zero, List.set_cons_succ]
            refine wpAnyH_take (i := 4) (v := .int .i64 (k : Int)) rfl (by kernel_rfl) (by kernel_rfl) (by kernel_rfl) (fun _ _ _ h => h) (Or.inl ⟨by rfl, fun w' _ => by go_simp⟩) hS ?_
            simp only [Act.put, List.getElem_toArray, List.getElem_cons_zero, List.getElem_cons_succ, List.setIfInBounds_toArray, List.set_cons_zero, List.set_cons_succ]
            refine wpAnyH_ready (rs := [0, 3]) (by kernel_rfl) (by simp) (AllReadyH.cons rfl (fun Kt hK => ?_) (AllReadyH.cons rfl (fun Kt hK => ?_) AllReadyH.nil))
            · refine wanted_pos rfl ?_
              refine wp_getHashes rfl (by rfl) HBd.out.b0 ?_
              refine hK.out _ _ (trivial) (fun hS => ?_)
              clear hK Kt
              simp only [Act.put, List.getElem_toArray, List.getElem_cons_zero, List.setIfInBounds_toArray, List.set_cons_zero, List.set_cons_succ]
              refine wpAnyH_take (i := 2) (v := .slice (some ⟨b, o' + k * 32, none⟩) (n' - k) (c' - k)) rfl (by kernel_rfl) (by kernel_rfl) (by kernel_rfl) (fun _ _ _ h => h) (Or.inl ⟨by rfl, fun w' _ => by go_simp⟩) hS ?_
              simp only [Act.put, List.getElem_toArray, List.getElem_cons_zero, List.getElem_cons_succ, List.setIfInBounds_toArray, List.set_cons_zero, List.set_cons_succ]
              refine wpAnyH_ready (rs := [3, 6]) (by kernel_rfl) (by simp) (AllReadyH.cons rfl (fun Kt hK => ?_) (AllReadyH.cons rfl (fun Kt hK => ?_) AllReadyH.nil))
              · refine wanted_pos rfl ?_
                refine wp_getInt rfl (by rfl) HBd.out.b1 ?_
                refine hK.out _ _ (trivial) (fun hS => ?_)
                clear hK Kt
                simp only [Act.put, List.getElem_toArray, List.getElem_cons_zero, List.getElem_cons_succ, List.setIfInBounds_toArray, List.set_cons_zero, List.set_cons_succ]
                refine wpAnyH_take (i := 5) (v := .int .i64 (mk : Int)) rfl (by kernel_rfl) (by kernel_rfl) (by kernel_rfl) (fun _ _ _ h => h) (Or.inl ⟨by rfl, fun w' _ => by go_simp⟩) hS ?_
                simp only [Act.put, List.getElem_toArray, List.getElem_cons_zero, List.getElem_cons_succ, List.setIfInBounds_toArray, List.set_cons_zero, List.set_cons_succ]
                refine wpAnyH_ready (rs := [6]) (by kernel_rfl) (by simp) (AllReadyH.cons rfl (fun Kt hK => ?_) AllReadyH.nil)
                refine wanted_pos rfl ?_
                refine wp_putHashes rfl (by rfl) (by rfl) HBd.out.b0 ?_
                refine hK.out _ _ (trivial) (fun hS => ?_)
                clear hK Kt
                simp only [Act.put, List.getElem_toArray, List.getElem_cons_zero, List.getElem_cons_succ]
                refine wpAnyH_ready (rs := [7]) (by kernel_rfl) (by simp) (AllReadyH.cons rfl (fun Kt hK => ?_) AllReadyH.nil)
                refine wanted_pos rfl ?_
                refine wp_putInt rfl (by rfl) (by rfl) (HBd.out.set0 (.slice (some ⟨b, o' + k * 32, none⟩) (n' - k) (c' - k))).b1 ?_
                refine hK.out _ _ (trivial) (fun hS => ?_)
                clear hK Kt
                simp only [Act.put, List.getElem_toArray, List.getElem_cons_zero, List.getElem_cons_succ]
                refine wpAnyH_done (by kernel_rfl) ?_ _
                refine OnlyN.normal ?_
                generalize hZ : (W4.drew.setCell ⟨w.heap.size, 0, none⟩ (.slice (some ⟨b, o' + k * 32, none⟩) (n' - k) (c' - k))).setCell ⟨w.heap.size + 1, 0, none⟩ (.int .i64 (mk : Int)) = Z
                exact hcut Z hZ.symm
              · refine wanted_pos rfl ?_
                refine wp_putHashes rfl (by rfl) (by rfl) HBd.out.b0 ?_
                refine hK.out _ _ (trivial) (fun hS => ?_)
                clear hK Kt
                simp only [Act.put, List.getElem_toArray, List.getElem_cons_zero, List.getElem_cons_succ]
                refine wpAnyH_ready (rs := [3]) (by kernel_rfl) (by simp) (AllReadyH.cons rfl (fun Kt hK => ?_) AllReadyH.nil)
                refine wanted_pos rfl ?_
                refine wp_getInt rfl (by rfl) (HBd.out.set0 (.slice (some ⟨b, o' + k * 32, none⟩) (n' - k) (c' - k))).b1 ?_
                refine hK.out _ _ (trivial) (fun hS => ?_)
                clear hK Kt
                simp only [Act.put, List.getElem_toArray, List.getElem_cons_zero, List.getElem_cons_succ, List.setIfInBounds_toArray, List.set_cons_zero, List.set_cons_succ]
                refine wpAnyH_take (i := 5) (v := .int .i64 (mk : Int)) rfl (by kernel_rfl) (by kernel_rfl) (by kernel_rfl) (fun _ _ _ h => h) (Or.inl ⟨by rfl, fun w' _ => by go_simp⟩) hS ?_
                simp only [Act.put, List.getElem_toArray, List.getElem_cons_zero, List.getElem_cons_succ, List.setIfInBounds_toArray, List.set_cons_zero, List.set_cons_succ]
                refine wpAnyH_ready (rs := [7]) (by kernel_rfl) (by simp) (AllReadyH.cons rfl (fun Kt hK => ?_) AllReadyH.nil)
                refine wanted_pos rfl ?_
                refine wp_putInt rfl (by rfl) (by rfl) (HBd.out.set0 (.slice (some ⟨b, o' + k * 32, none⟩) (n' - k) (c' - k))).b1 ?_
                refine hK.out _ _ (trivial) (fun hS => ?_)
                clear hK Kt
                simp only [Act.put, List.getElem_toArray, List.getElem_cons_zero, List.getElem_cons_succ]
                refine wpAnyH_done (by kernel_rfl) ?_ _
                refine OnlyN.normal ?_
                generalize hZ : (W4.drew.setCell ⟨w.heap.size, 0, none⟩ (.slice (some ⟨b, o' + k * 32, none⟩) (n' - k) (c' - k))).setCell ⟨w.heap.size + 1, 0, none⟩ (.int .i64 (mk : Int)) = Z
                exact hcut Z hZ.symm
            · refine wanted_pos rfl ?_
              refine wp_getInt rfl (by rfl) HBd.out.b1 ?_
              refine hK.out _ _ (trivial) (fun hS => ?_)
              clear hK Kt
              simp only [Act.put, List.getElem_toArray, List.getElem_cons_zero, List.getElem_cons_succ, List.setIfInBounds_toArray, List.set_cons_zero, List.set_cons_succ]
              refine wpAnyH_take (i := 5) (v := .int .i64 (mk : Int)) rfl (by kernel_rfl) (by kernel_rfl) (by kernel_rfl) (fun _ _ _ h => h) (Or.inl ⟨by rfl, fun w' _ => by go_simp⟩) hS ?_
              simp only [Act.put, List.getElem_toArray, List.getElem_cons_zero, List.getElem_cons_succ, List.setIfInBounds_toArray, List.set_cons_zero, List.set_cons_succ]
              refine wpAnyH_ready (rs := [0]) (by kernel_rfl) (by simp) (AllReadyH.cons rfl (fun Kt hK => ?_) AllReadyH.nil)
              refine wanted_pos rfl ?_
              refine wp_getHashes rfl (by rfl) HBd.out.b0 ?_
              refine hK.out _ _ (trivial) (fun hS => ?_)
              clear hK Kt
              simp only [Act.put, List.getElem_toArray, List.getElem_cons_zero, List.setIfInBounds_toArray, List.set_cons_zero, List.set_cons_succ]
              refine wpAnyH_take (i := 2) (v := .slice (some ⟨b, o' + k * 32, none⟩) (n' - k) (c' - k)) rfl (by kernel_rfl) (by kernel_rfl) (by kernel_rfl) (fun _ _ _ h => h) (Or.inl ⟨by rfl, fun w' _ => by go_simp⟩) hS ?_
              simp only [Act.put, List.getElem_toArray, List.getElem_cons_zero, List.getElem_cons_succ, List.setIfInBounds_toArray, List.set_cons_zero, List.set_cons_succ]
              refine wpAnyH_ready (rs := [6]) (by kernel_rfl) (by simp) (AllReadyH.cons rfl (fun Kt hK => ?_) AllReadyH.nil)
              refine wanted_pos rfl ?_
              refine wp_putHashes rfl (by rfl) (by rfl) HBd.out.b0 ?_
              refine hK.out _ _ (trivial) (fun hS => ?_)
              clear hK Kt
              simp only [Act.put, List.getElem_toArray, List.getElem_cons_zero, List.getElem_cons_succ]
              refine wpAnyH_ready (rs := [7]) (by kernel_rfl) (by simp) (AllReadyH.cons rfl (fun Kt hK => ?_) AllReadyH.nil)
              refine wanted_pos rfl ?_
              refine wp_putInt rfl (by rfl) (by rfl) (HBd.out.set0 (.slice (some ⟨b, o' + k * 32, none⟩) (n' - k) (c' - k))).b1 ?_
              refine hK.out _ _ (trivial) (fun hS => ?_)
              clear hK Kt
              simp only [Act.put, List.getElem_toArray, List.getElem_cons_zero, List.getElem_cons_succ]
              refine wpAnyH_done (by kernel_rfl) ?_ _
              refine OnlyN.normal ?_
              generalize hZ : (W4.drew.setCell ⟨w.heap.size, 0, none⟩ (.slice (some ⟨b, o' + k * 32, none⟩) (n' - k) (c' - k))).setCell ⟨w.heap.size + 1, 0, none⟩ (.int .i64 (mk : Int)) = Z
              exact hcut Z hZ.symm
          · intro W5 h5
            subst h5
            have hsz4 := HB4.out.1.size
            have hs := HBw.out.2
            have hKd := Go.Proofs.YtpokecijongkpaaDoor.K.call HB4.out.1 (Go.Proofs.YtpokecijongkpaaDoor.K.drew (Below.refl _ W4))
            refine ⟨((keeps_below hKd).trans (keeps_set _ _)).trans (keeps_set _ _), ⟨((hKd.mono HBw.out.1.size).setCell (p := ⟨w.heap.size, 0, none⟩) (Nat.le_refl _) _).setCell (p := ⟨w.heap.size + 1, 0, none⟩) (by show _ ≤ w.heap.size + 1; omega) _, ?_⟩, ⟨n' - k, mk, _, o' + k * 32, c' - k, HST.out, HDD.out, by have := HDC.out.1; omega, by have := HDC.out.2.1; omega, by have := HDC.out.2.2.1; omega, hm3, HLu.out, ((HBx4.out.bl (Go.Proofs.YtpokecijongkpaaDoor.K.drew (Below.refl _ W4))).set0 _).set1 _⟩, ((HBw.out.1.trans (hKd.mono HBw.out.1.size)).setCell (p := ⟨w.heap.size, 0, none⟩) (Nat.le_refl _) _).setCell (p := ⟨w.heap.size + 1, 0, none⟩) (by show _ ≤ w.heap.size + 1; omega) _, by rw [World.size_setCell, World.size_setCell]; show _ ≤ W4.heap.size; omega⟩
            refine ((grownBy_setCell' _ (w.heap.size + 1) _).block (w.heap.size + 1 + 1 + 1 + 1 + 1) (by rw [World.size_setCell]; show _ < W4.heap.size; omega) (by intro e; have := Option.some.inj e; omega)).trans ?_
            refine ((grownBy_setCell' _ w.heap.size _).block (w.heap.size + 1 + 1 + 1 + 1 + 1) (by show _ < W4.heap.size; omega) (by intro e; have := Option.some.inj e; omega)).trans ?_
            exact hKd.block _ (by omega)
  case done =>
    rintro D ys W hD rfl ⟨⟨n', m', F', o', c', h1, h2, h3, h4, h5, h6, h7, h8⟩, hB, hsz⟩ hK
    have h1' := hide h1
    have HDD : Hid (w.heap.size ≤ D) := hide (by rw [HS1.out] at hD; omega)
    have hx3 := hide (((h8.set2 (.slice none 0 0)).set3 (.slice none 0 0)).set4 (.bool false))
    have hK3 := hide ((((KeepsOthers.setCell W ⟨w.heap.size + 1 + 1, 0, none⟩ (.slice none 0 0)).trans (KeepsOthers.setCell _ ⟨w.heap.size + 1 + 1 + 1, 0, none⟩ (.slice none 0 0))).trans (KeepsOthers.setCell _ ⟨w.heap.size + 1 + 1 + 1 + 1, 0, none⟩ (.bool false))).same D _ hK rfl)
    have hB3 := hide (((hB.setCell (p := ⟨w.heap.size + 1 + 1, 0, none⟩) (by show _ ≤ w.heap.size + 1 + 1; omega) (.slice none 0 0)).setCell (p := ⟨w.heap.size + 1 + 1 + 1, 0, none⟩) (by show _ ≤ w.heap.size + 1 + 1 + 1; omega) (.slice none 0 0)).setCell (p := ⟨w.heap.size + 1 + 1 + 1 + 1, 0, none⟩) (by show _ ≤ w.heap.size + 1 + 1 + 1 + 1; omega) (.bool false))
    have e2 := h8.b2.cell
    have f2 := h8.b2.frozen
    have e3 := (h8.set2 (.slice none 0 0)).b3.cell
    have f3 := (h8.set2 (.slice none 0 0)).b3.frozen
    have e4 := ((h8.set2 (.slice none 0 0)).set3 (.slice none 0 0)).b4.cell
    have f4 := ((h8.set2 (.slice none 0 0)).set3 (.slice none 0 0)).b4.frozen
    clear h1 h2 h3 h4 h5 h6 h7 h8 hB hsz hK hD
    gi_wp2
    generalize ((W.setCell ⟨w.heap.size + 1 + 1, 0, none⟩ (.slice none 0 0)).setCell ⟨w.heap.size + 1 + 1 + 1, 0, none⟩ (.slice none 0 0)).setCell ⟨w.heap.size + 1 + 1 + 1 + 1, 0, none⟩ (.bool false) = Z at hx3 hK3 hB3 ⊢
    refine ⟨by simp, .inl ⟨_, _, rfl, run_takeDeferred hK3.out, ?_⟩⟩
    have hx4 := hx3.out.own (grownBy_putObj' Z D (.deferred none)) (fun r e => by cases e; exact ⟨_, hK3.out, rfl⟩)
    have g2 := hx4.b2.cell
    have g3 := hx4.b3.cell
    have g4 := hx4.b4.cell
    refine ⟨.tuple #[.slice none 0 0, .slice none 0 0, .bool false], ?_, ?_⟩
    · simp [results, Tryd.f36, go_sem, g2, g3, g4]
    · rw [h1'.out]
      exact ⟨rfl, hB3.out.trans (belowK_b (w := w) (Nat.le_refl _) Z D _ _ HDD.out hK3.out rfl rfl)⟩
  case stop =>
    rintro D cc pre W hD ⟨t, ht⟩ ⟨⟨r, s0, i1, x1, c1, x2, d2, rfl, h2, h3, h4, h5⟩, hB⟩ hK
    have HDD : Hid (w.heap.size ≤ D) := hide (by rw [HS1.out] at hD; omega)
    have h3' := hide h3
    have hK' := hide hK
    have h45 := hide (And.intro h4 h5)
    have hB' := hide hB
    have hF : Hid (fnd (((List.range l).reverse.map (prAt P)).foldl dstep (.inl (n, m, F))) = some r) := hide (by rw [← ht, List.map_append, fold_pre h2]; rfl)
    clear h2 h3 h4 h5 hB hK ht hD
    gi_wp2
    refine ⟨by simp, .inl ⟨_, _, rfl, run_takeDeferred hK'.out, ?_⟩⟩
    have hr : ∀ r, some D = some r → ∃ o : Obj, W.heap[r]? = some o ∧ o.isCells = false := fun r e => by cases e; exact ⟨_, hK'.out, rfl⟩
    have hx4 := h3'.out.own (grownBy_putObj' W D (.deferred none)) hr
    have g2 := hx4.b2.cell
    have g3 := hx4.b3.cell
    have g4 := hx4.b4.cell
    refine ⟨.tuple #[.slice x1 65 c1, .slice x2 65 d2, .bool true], ?_, ?_⟩
    · simp [results, Tryd.f36, go_sem, g2, g3, g4]
    · rw [hF.out]
      exact ⟨_, _, _, _, rfl, ba_own h45.out.1 (grownBy_putObj' W D (.deferred none)) hr, ba_own h45.out.2 (grownBy_putObj' W D (.deferred none)) hr, hB'.out.trans (belowK_b (w := w) (Nat.le_refl _) W D _ _ HDD.out hK'.out rfl rfl)⟩
end Go.Proofs.YtpokecijongkpaaDoor
