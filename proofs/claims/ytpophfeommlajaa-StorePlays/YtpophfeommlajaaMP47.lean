/- Layer 14: how the parameters of the laws are read before the call: fates, two texts, texts. Layer 15: the calls of a script, as they are handed in. Layer 15: few calls. Layer 15: calls on both stores, and on both disks. Layer 15: the fuse of both disks. Layer 15: what the walk of StorePlays wants besides. -/
import Derived.Test.YtpophfeommlajaaMP23
import Derived.Test.YtpophfeommlajaaMP28
import Derived.Test.YtpophfeommlajaaMP46
import Derived.Test.YtpophfeommlajaaMP35
namespace Go.Proofs.Ytpophfeommlajaa
set_option maxRecDepth 100000
open Go.ChangeShapes Go.WideShapes Go.ChangeAt Go.RowKit

/-- A fate in memory. -/
structure FtV : Type where
  z : Option Addr
  KL : List Bool
  k : Nat
  t : Int
  a : Int
def FtV.cells (o : FtV) : List Value := [.slice o.z o.KL.length o.k, .int .i64 o.t, .int .i64 o.a]
structure FtsAt (W : World) (z : Option Addr) (n : Nat) (O : Nat → FtV) : Prop where
  at_ : n = 0 ∨ ∃ b o, z = some ⟨b, o, none⟩ ∧ ∀ i, i < n → W.rangeAt b (o + i * 3) (O i).cells
  r : ∀ i, i < n → Kb W (O i).z (O i).KL
theorem FtsAt.keep {W w1 : World} {z : Option Addr} {n : Nat} {O : Nat → FtV} (h : FtsAt W z n O) (hb : Below W.heap.size W w1) : FtsAt w1 z n O :=
  ⟨h.at_.imp id fun ⟨b, o, e, hr⟩ => ⟨b, o, e, fun i hi j v hv => later hb (hr i hi j v hv)⟩, fun i hi => (h.r i hi).keep hb⟩
theorem FtsAt.cells {W : World} {z : Option Addr} {n : Nat} {O : Nat → FtV} (h : FtsAt W z n O) (hn : 0 < n) : ∃ b o, z = some ⟨b, o, none⟩ ∧ ∀ i, i < n → W.rangeAt b (o + i * 3) (O i).cells :=
  h.at_.elim (fun e => by omega) id
/-- A text in memory. -/
structure TxV : Type where
  x : Option Addr
  m : Nat
  c : Nat
  f : Nat → Nat
def TxV.v (o : TxV) : Value := .slice o.x o.m o.c
structure TxsAt (W : World) (z : Option Addr) (n : Nat) (O : Nat → TxV) : Prop where
  at_ : n = 0 ∨ ∃ b o, z = some ⟨b, o, none⟩ ∧ ∀ i, i < n → W.cell? ⟨b, o + i, none⟩ = some (O i).v
  r : ∀ i, i < n → BA W (O i).x (O i).m (O i).f
theorem TxsAt.keep {W w1 : World} {z : Option Addr} {n : Nat} {O : Nat → TxV} (h : TxsAt W z n O) (hb : Below W.heap.size W w1) : TxsAt w1 z n O :=
  ⟨h.at_.imp id fun ⟨b, o, e, hr⟩ => ⟨b, o, e, fun i hi => later hb (hr i hi)⟩, fun i hi => (h.r i hi).keep hb⟩
end Go.Proofs.Ytpophfeommlajaa
namespace Go.Proofs.Ytpophfeommlajaa
open Go.ChangeShapes Go.WideShapes Go.ChangeAt Go.RowKit

theorem cellsOp : Try.prog.cellsOf 43 = 6 := by kernel_rfl
theorem open_op_cells {H : Type} {enc : TypeId × Value → H} {W : World} {fuel : Nat} {x0 x1 x2 x3 x4 x5 : Value} {y : DataW H × List MemPlace} (hf : DataW.trod enc Try.prog W 0 (fun _ => true) true fuel 43 [x0, x1, x2, x3, x4, x5] = some y) :
    ∃ o : OpV, [x0, x1, x2, x3, x4, x5] = o.cells ∧ o.ok W := by
  cases fuel with
  | zero => simp [DataW.trod] at hf
  | succ fuel =>
    simp only [DataW.trod, Try.underlying43, cellsOp] at hf
    split at hf
    · simp only [Option.map_eq_some_iff, List.mapM_cons, List.mapM_nil, Option.bind_eq_bind, Option.bind_eq_some_iff, Option.pure_def, Option.some.injEq] at hf
      obtain ⟨ys, ⟨y0, h0, _, ⟨y1, h1, _, ⟨y2, h2, _, ⟨y3, h3, _, rfl, rfl⟩, rfl⟩, rfl⟩, rfl⟩, hx⟩ := hf
      obtain ⟨kd, e, rfl, wk⟩ := DataW.trod_int Try.underlying3 h0
      simp [cellsInt] at e
      subst e
      obtain ⟨i, e, rfl, wi⟩ := DataW.trod_int Try.underlying3 h1
      simp [cellsInt] at e
      subst e
      simp [cellsBytes] at h2
      obtain ⟨x, m, c, f, rfl, hb, _⟩ := open_byteslice h2
      simp [cellsFate] at h3
      obtain ⟨z, KL, k, t, a, rfl, rfl, rfl, hk, ht, ha⟩ := open_fate_cells h3
      exact ⟨⟨kd, i, x, m, c, f, z, KL, k, t, a⟩, rfl, ⟨i64_of wk, i64_of wi, hb, hk, ht, ha⟩⟩
    · cases hf
set_option maxRecDepth 100000 in
theorem open_ops_cells {H : Type} {enc : TypeId × Value → H} {W : World} {fuel : Nat} {c0 : Value} {y : DataW H × List MemPlace} (hf : DataW.trod enc Try.prog W 0 (fun _ => true) true fuel 22 [c0] = some y) :
    ∃ z n c O, c0 = .slice z n c ∧ OpsAt W z n O := by
  rcases Go.Deep.open_slice Try.underlying22 hf with ⟨hcs, _⟩ | ⟨a, len, cap, m, n, D, Pl, hcs, _, hl, _, hm, _, hx⟩
  · simp at hcs
    exact ⟨none, 0, 0, fun _ => ⟨0, 0, none, 0, 0, fun _ => 0, none, [], 0, 0, 0⟩, hcs, ⟨Or.inl rfl, fun i hi => by omega⟩⟩
  · simp at hcs
    simp only [if_true] at hm
    subst hm hcs
    rw [cellsOp] at hx
    have key : ∀ i, i < m → ∃ o : OpV, W.cells? 0 (a.add (i * 6)) 6 = some o.cells ∧ o.ok W := fun i hi => by
      obtain ⟨cs', h1, h2⟩ := hx i hi
      obtain ⟨_, hlen, _⟩ := World.cells?_some h1
      obtain ⟨x0, x1, x2, x3, x4, x5, rfl⟩ := list6 cs' hlen
      obtain ⟨o, e, ho⟩ := open_op_cells h2
      exact ⟨o, by rw [h1, e], ho⟩
    have hI : Inhabited OpV := ⟨⟨0, 0, none, 0, 0, fun _ => 0, none, [], 0, 0, 0⟩⟩
    obtain ⟨O, hO⟩ := Go.Deep.choose_lt key
    refine ⟨some a, len, m, O, rfl, ⟨?_, fun i hi => (hO i (by omega)).2⟩⟩
    by_cases h0 : len = 0
    · exact Or.inl h0
    · right
      obtain ⟨b, off, spot⟩ := a
      have hc : ∀ i j, i < len → j < 6 → W.cell? (((⟨b, off, spot⟩ : Addr).add (i * 6)).add j) = (O i).cells[j]? := fun i j hi hj => (World.cells?_some (hO i (by omega)).1).2.2 j hj
      have hspot : spot = none := by
        have h1 : W.cell? (((⟨b, off, spot⟩ : Addr).add (0 * 6)).add 0) = some (.int .i64 (O 0).kd) := hc 0 0 (by omega) (by omega)
        simpa [Addr.add] using World.cell?_spot h1
      subst hspot
      refine ⟨b, off, rfl, fun i hi j v hv => ?_⟩
      have hj : j < 6 := (List.getElem?_eq_some_iff.1 hv).1
      have := hc i j hi hj
      rw [Addr.add_mid, Addr.add_mid] at this
      rw [this]
      exact hv
set_option maxRecDepth 100000 in
theorem open_ops {H : Type} {enc : TypeId × Value → H} {W : World} {base : Nat} {v : Value} {d : DataW H} {p : List MemPlace}
    (hv : Value.okWide Try.prog W .any base 22 v) (h : DataW.Trod enc Try.prog W 0 (fun _ => true) true 22 v d p) :
    ∃ z n c O, v = .slice z n c ∧ OpsAt W z n O := by
  obtain ⟨a0, len, cap, rfl⟩ := okWide_slice Try.underlying22 hv
  obtain ⟨fuel, hf⟩ := h
  exact open_ops_cells hf
theorem sizeOp : (Try.prog.info? 43).map (·.size) = some 6 := by kernel_rfl
attribute [local go_sem ↓] Go.wp_at_zero Go.wp_at_succ
section
variable {w : World} {ops : Array Oper} {rest : List Oper} {o : Oper} {a : Act} {Q : Exit → Act → World → Prop}
theorem wpList_load_op (hgd : o.guard = none) (x : Operand) (hop : o.op = Op.load 43 x) {g off : Nat} {ov : OpV} (hx : a.eval x = .pointer (some ⟨g, off, none⟩)) (ht : w.rangeAt g off ov.cells) (hK : wpList Try.prog ops Q rest (a.put o.dst (.agg ov.cells.toArray)) w) : wpList Try.prog ops Q (o :: rest) a w :=
  wpList_load_mid hgd 43 x hop g off hx ov.cells _ ht Try.underlying43 rfl sizeOp hK
theorem wpList_alloc_op (hgd : o.guard = none) (hop : o.op = Op.alloc 43) (hK : ∀ w', Below w.heap.size w w' → w'.heap.size = w.heap.size + 1 → w'.there w.heap.size 0 6 → wpList Try.prog ops Q rest (a.put o.dst (pp w.heap.size)) w') : wpList Try.prog ops Q (o :: rest) a w := by
  refine wpList_plain hgd fun K' hK' => ?_
  unfold Oper.wp
  have hrun : (execOp a.eval o).run Try.prog w = .ok (.value (pp w.heap.size)) (w.alloc (.cells #[.int .i64 0, .int .i64 0, .slice none 0 0, .slice none 0 0, .int .i64 0, .int .i64 0] 43)) := by
    unfold execOp
    simp [hop, Instr.alloc, newVar, newRow, Result.andThen, Value.cells]
  rw [hrun]
  have hh : (w.alloc (.cells #[.int .i64 0, .int .i64 0, .slice none 0 0, .slice none 0 0, .int .i64 0, .int .i64 0] 43)).heap[w.heap.size]? = some (.cells #[.int .i64 0, .int .i64 0, .slice none 0 0, .slice none 0 0, .int .i64 0, .int .i64 0] 43) := heap_alloc_new w _
  refine hK' _ _ (hK _ (K.alloc (Below.refl _ _) _) (by simp) (fun j hj => ⟨?_, ?_⟩))
  · unfold World.cell?
    simp only [hh, Nat.zero_add]
    rw [Array.getElem?_eq_getElem (by exact hj)]
    rfl
  · unfold World.frozen?
    simp only [hh]
    simp
theorem wpList_store_op (hgd : o.guard = none) (x y : Operand) (hop : o.op = Op.store 43 x y) {g : Nat} {ov : OpV} {w0 : World} (hx : a.eval x = .pointer (some ⟨g, 0, none⟩)) (hy : a.eval y = .agg ov.cells.toArray) (hB : Below w0.heap.size w0 w) (hg : w0.heap.size ≤ g) (hl : g < w.heap.size) (ht : w.there g 0 6) (hK : ∀ w', VarO w0 w' g ov → wpList Try.prog ops Q rest (a.put o.dst undef) w') : wpList Try.prog ops Q (o :: rest) a w :=
  wpList_store_mid hgd 43 x y hop g 0 ov.cells.toArray hx hy ht sizeOp (all_oneCell_toArray (opcells_one ov)) (hK _ ⟨below_sets g hg _ _ _ hB, hg, by rw [size_sets]; exact hl, World.rangeAt_setCells_same _ _ _ _ ht⟩)
end
end Go.Proofs.Ytpophfeommlajaa
namespace Go.Proofs.Ytpophfeommlajaa
open Go.RowKit Go.Maps
attribute [local go_sem ↓] Go.wp_at_zero Go.wp_at_succ

theorem OpsAt.cells' {W : World} {z : Option Addr} {n : Nat} {O : Nat → OpV} (h : OpsAt W z n O) (hn : 0 < n) : ∃ b o, z = some ⟨b, o, none⟩ ∧ ∀ i, i < n → W.rangeAt b (o + i * 6) (O i).cells := h.at_.resolve_left (by omega)
/-- Calls of a size that is looked at. -/
def fewO (n : Nat) (O : Nat → OpV) : Prop := n ≤ 40 ∧ ∀ j, j < n → (O j).m ≤ 300 ∧ (O j).KL.length ≤ 200
def FeP (w : World) (r : Bool) (e : Ending) (w' : World) : Prop := e = .returned (.bool r) ∧ w' = w
theorem few_f {r : Bool} {n : Nat} {O : Nat → OpV} (hr : r = true ↔ fewO n O) (h : ¬ fewO n O) : r = false := by
  cases r with
  | false => rfl
  | true => exact absurd (hr.1 rfl) h
set_option maxRecDepth 100000 in
set_option maxHeartbeats 4000000 in
theorem few_n {w : World} {z : Option Addr} {n c : Nat} {O : Nat → OpV} (h : OpsAt w z n O) {r : Bool} (hr : r = true ↔ fewO n O) : Calls Try.prog 5 #[.slice z n c, .int .i64 40] w (FeP w r) := by
  have HO := hide h
  have HR := hide hr
  clear h hr
  go_enter Try.func5, Try.ntmps5
  go_wp2_with fail
  go_loopg [5] n (fun g' s5 wr => ∃ i : Nat, g' = n - i ∧ i ≤ n ∧ i ≤ 200 ∧ s5 = .int .i64 (i : Int) ∧ wr = w ∧ Hid (∀ j, j < i → (O j).m ≤ 300 ∧ (O j).KL.length ≤ 200))
  case atStart => exact ⟨0, rfl, Nat.zero_le _, Nat.zero_le _, rfl, rfl, fun j hj => absurd hj (by omega)⟩
  case round =>
    obtain ⟨i, rfl, hi, hi2, rfl, rfl, HJ⟩ := hrel
    by_cases hlt : i < n
    · have hlt' : (i : Int) < (n : Int) := by omega
      by_cases h2 : i < 200
      · have h2' : (i : Int) < 200 := by omega
        have hw1 : wrap64 ((i : Int) + 1) = (i : Int) + 1 := w63 (by omega) (by omega)
        obtain ⟨bb, oo, rfl, hc⟩ := HO.out.cells' (by omega)
        have c2 := hc i hlt 2 _ rfl
        have c3 := hc i hlt 3 _ rfl
        clear hc
        by_cases m1 : 300 < (O i).m
        · have m1' : (300 : Int) < ((O i).m : Int) := by omega
          go_wp2_with fail
          go_ret
          exact ⟨by rw [few_f HR.out (fun hh => by have := (hh.2 i hlt).1; omega)]; rfl, rfl⟩
        · have m1' : ¬ ((300 : Int) < ((O i).m : Int)) := by omega
          by_cases m2 : 200 < (O i).KL.length
          · have m2' : (200 : Int) < ((O i).KL.length : Int) := by omega
            go_wp2_with fail
            go_ret
            exact ⟨by rw [few_f HR.out (fun hh => by have := (hh.2 i hlt).2; omega)]; rfl, rfl⟩
          · have m2' : ¬ ((200 : Int) < ((O i).KL.length : Int)) := by omega
            have HJ2 : Hid (∀ j, j < i + 1 → (O j).m ≤ 300 ∧ (O j).KL.length ≤ 200) := fun j hj => by
              by_cases e : j = i
              · rw [e]; exact ⟨by omega, by omega⟩
              · exact HJ.out j (by omega)
            go_wp2_with fail
            go_roundg (n - (i + 1))
            case measure => omega
            case rel => exact ⟨i + 1, rfl, hlt, h2, by simp, rfl, HJ2⟩
      · have h2' : ¬ ((i : Int) < 200) := by omega
        have h3 : ¬ ((n : Int) ≤ 40) := by omega
        go_wp2_with fail
        go_ret
        exact ⟨by rw [few_f HR.out (fun hh => by have := hh.1; omega)]; rfl, rfl⟩
    · obtain rfl : i = n := by omega
      by_cases h3 : i ≤ 40
      · have h3' : (i : Int) ≤ 40 := by omega
        have er : r = true := HR.out.2 ⟨h3, HJ.out⟩
        go_wp2_with fail
        go_ret
        exact ⟨by rw [er]; rfl, rfl⟩
      · have h3' : ¬ ((i : Int) ≤ 40) := by omega
        go_wp2_with fail
        go_ret
        exact ⟨by rw [few_f HR.out (fun hh => h3 hh.1)]; rfl, rfl⟩
end Go.Proofs.Ytpophfeommlajaa
namespace Go.Proofs.Ytpophfeommlajaa
open Go.RowKit Go.Maps
attribute [local go_sem ↓] Go.wp_at_zero Go.wp_at_succ

/-- What is at hand between the program's call and the document's. -/
def MidC (w0 w : World) (ob : Option (Nat × OpV)) : Prop := Below w0.heap.size w0 w ∧ ∀ q o, ob = some (q, o) → w.rangeAt q 0 o.cells
theorem MidC.cells {w0 w : World} {q : Nat} {o : OpV} (h : MidC w0 w (some (q, o))) : w.rangeAt q 0 o.cells := h.2 q o rfl
def TwoI (w0 : World) (ob : Option (Nat × OpV)) (F : Nat) (args : Array Value) (er : Int) (Q : World → Prop) (e : Ending) (w' : World) : Prop := e = .returned (.int .i64 er) ∧ MidC w0 w' ob ∧ Calls Try.prog F args w' fun e w2 => e = .returned (.int .i64 er) ∧ Q w2
def TwoU (w0 : World) (ob : Option (Nat × OpV)) (F : Nat) (args : Array Value) (Q : World → Prop) (e : Ending) (w' : World) : Prop := (∃ y, e = .returned y) ∧ MidC w0 w' ob ∧ Calls Try.prog F args w' fun e w2 => (∃ y, e = .returned y) ∧ Q w2
def TwoO (w0 : World) (ob : Option (Nat × OpV)) (F : Nat) (args : Array Value) (Q : Value → Value → World → Prop) (e : Ending) (w' : World) : Prop := ∃ v er, e = .returned (.tuple #[v, .int .i64 er]) ∧ MidC w0 w' ob ∧ Calls Try.prog F args w' fun e w2 => ∃ x, e = .returned (.tuple #[x, .int .i64 er]) ∧ Q v x w2
section
variable {w0 w : World} {b lb mb r la na cl cn : Nat} {zl zn : Option Addr} {ob : Option (Nat × OpV)} {D : DM} {G O O2 Yp Yq : Nat → Bool} {t t2 : Nat} {s : SM} {v u : Value}
theorem DW.mid {E : DM} (h : DW w0 w b lb mb r la na cl cn zl zn D E G O O2 ob) : MidC w0 w ob := ⟨h.k, fun q o e => (h.oc q o e).1⟩
theorem QW.og (h : QW w r la na cl cn zl zn t G O Yq s) : ∀ k, G k = true → O k = true := by
  obtain ⟨bs, vk, vw, ck, cw, g⟩ := h
  exact g.og
theorem aps_any (hd : DW w0 w b lb mb r la na cl cn zl zn D D G O O2 ob) (hs : SW w b lb mb r la na cl cn zl zn t t2 G O O2 Yp Yq s s) (hD : s.D = D) {x : Option Addr} {m c : Nat} {f : Nat → Nat} (hb : BA w0 x m f) :
    Calls Try.prog 11 #[pp t, .slice x m c] w (TwoI w0 ob 12 #[pp t2, .slice x m c] (s.apE (fl f m)) (fun w2 => StS w0 w2 b lb mb r la na cl cn zl zn ob (pp t) (pp t2))) := by
  subst hD
  refine Calls.mono (ap_pw hs.p (hb.keep hd.k) (fun h0 p hp => (hd.ba hb h0 p hp).1)) ?_
  rintro e w1 ⟨rfl, hp, hK⟩
  have hd1 := hd.prog hp.dsk hK
  have hs1 := SW.prog hd hs hp hK
  refine ⟨rfl, hd1.mid, ?_⟩
  refine Calls.mono (ap_qw hs1.q (hb.keep hd1.k) (fun h0 p hp => (hd1.ba hb h0 p hp).2)) ?_
  rintro e w2 ⟨rfl, ⟨G', hq⟩, hK2⟩
  exact ⟨rfl, _, _, _, _, hd1.doc hq.rdk hK2 hq.og, Or.inr ⟨t, t2, _, _, _, rfl, rfl, rfl, SW.doc hd1 hs1 hq hK2⟩⟩
theorem cos_any (hd : DW w0 w b lb mb r la na cl cn zl zn D D G O O2 ob) (hs : SW w b lb mb r la na cl cn zl zn t t2 G O O2 Yp Yq s s) (hD : s.D = D) :
    Calls Try.prog 13 #[pp t] w (TwoI w0 ob 14 #[pp t2] s.coE (fun w2 => StS w0 w2 b lb mb r la na cl cn zl zn ob (pp t) (pp t2))) := by
  subst hD
  refine Calls.mono (co_pw hs.p) ?_
  rintro e w1 ⟨rfl, hp, hK⟩
  have hd1 := hd.prog hp.dsk hK
  have hs1 := SW.prog hd hs hp hK
  refine ⟨rfl, hd1.mid, ?_⟩
  refine Calls.mono (co_qw hs1.q) ?_
  rintro e w2 ⟨rfl, ⟨G', hq⟩, hK2⟩
  exact ⟨rfl, _, _, _, _, hd1.doc hq.rdk hK2 hq.og, Or.inr ⟨t, t2, _, _, _, rfl, rfl, rfl, SW.doc hd1 hs1 hq hK2⟩⟩
theorem kp_go {E : DM} {w1 : World} (hd : DW w0 w b lb mb r la na cl cn zl zn D E G O O2 ob) (hK : Kp (X3 r la na) w w1) : Kp O2 w w1 := hK.mono (fun k hk => hd.go k (hd.e.gx k hk))
theorem g_go {E E' : DM} {w1 : World} {G' : Nat → Bool} (hd : DW w0 w b lb mb r la na cl cn zl zn D E G O O2 ob) (he : RDk w1 r la na cl cn zl zn E' G') (hG : ∀ k, G' k = true → G k = true ∨ w.heap.size ≤ k) : ∀ k, G' k = true → grow O2 w w1 k = true := fun k hk => by
  rcases hG k hk with e | e
  · exact grow_of.2 (Or.inl (hd.go k e))
  · exact grow_of.2 (Or.inr ⟨e, he.gl k hk⟩)
theorem crs_any (h : DtS w0 w b lb mb r la na cl cn zl zn ob) {z : Option Addr} {KL : List Bool} {c : Nat} (hk : Kb w0 z KL) (t a : Int) :
    Calls Try.prog 16 #[pp b, .agg #[.slice z KL.length c, .int .i64 t, .int .i64 a]] w (TwoU w0 ob 17 #[pp r, .agg #[.slice z KL.length c, .int .i64 t, .int .i64 a]] (fun w2 => DtS w0 w2 b lb mb r la na cl cn zl zn ob)) := by
  obtain ⟨D, G, O, O2, hd⟩ := h
  refine Calls.mono (crash_any hd.d (hk.keep hd.k) (fun h0 p hp => (hd.kb hk h0 p hp).1) t a) ?_
  rintro e w1 ⟨⟨y, rfl⟩, hD, hK⟩
  have hd1 := hd.prog hD (hK.mono hd.xo)
  refine ⟨⟨y, rfl⟩, hd1.mid, ?_⟩
  refine Calls.mono (ref_crash hd1.e (hk.keep hd1.k) (fun h0 p hp => (hd1.kb hk h0 p hp).2) t a) ?_
  rintro e w2 ⟨⟨y2, rfl⟩, G', he, hK2, hG⟩
  exact ⟨⟨y2, rfl⟩, _, _, _, _, hd1.doc he (kp_go hd1 hK2) (g_go hd1 he hG)⟩
theorem wrs_any (h : DtS w0 w b lb mb r la na cl cn zl zn ob) {x : Option Addr} {m c : Nat} {f : Nat → Nat} (hb : BA w0 x m f) (i : Int) :
    ∃ er, Calls Try.prog 18 #[pp b, .int .i64 i, .slice x m c] w (TwoI w0 ob 19 #[pp r, .int .i64 i, .slice x m c] er (fun w2 => DtS w0 w2 b lb mb r la na cl cn zl zn ob)) := by
  obtain ⟨D, G, O, O2, hd⟩ := h
  refine ⟨D.wrE i m, Calls.mono (write_any hd.d i (hb.keep hd.k) (fun h0 p hp => (hd.ba hb h0 p hp).1)) ?_⟩
  rintro e w1 ⟨rfl, hD, hK⟩
  have hd1 := hd.prog hD (hK.mono hd.xo)
  refine ⟨rfl, hd1.mid, ?_⟩
  refine Calls.mono (ref_write hd1.e i (hb.keep hd1.k) (fun h0 p hp => (hd1.ba hb h0 p hp).2)) ?_
  rintro e w2 ⟨rfl, G', he, hK2, hG⟩
  exact ⟨rfl, _, _, _, _, hd1.doc he (kp_go hd1 hK2) (g_go hd1 he hG)⟩
theorem opens_any (h : DtS w0 w b lb mb r la na cl cn zl zn ob) :
    Calls Try.prog 8 #[pp b] w (TwoO w0 ob 9 #[pp r] (fun v x w2 => StS w0 w2 b lb mb r la na cl cn zl zn ob v x)) := by
  obtain ⟨D, G, O, O2, hd'⟩ := h
  have hd := hd'.small
  have hy1 : ∀ k, (X3 b lb mb k || G k) = true → k < w.heap.size := fun k hk => by
    rcases Bool.or_eq_true _ _ |>.mp hk with e | e
    · exact (hd.o1 k e).2
    · exact (hd.o2 k e).2
  refine Calls.mono (open_pw (Y := fun k => X3 b lb mb k || G k) hd.d (fun k hk => by show (_ || _) = true; rw [hk]; rfl) hy1) ?_
  rintro e w1 ⟨W, h1, h2, h3, h4⟩
  have hK : Kp (X3 b lb mb) w w1 := h2.trans (Kp.of h3)
  have hd1 := hd.prog (h1.keep h3) hK
  have hy2 : ∀ k, (X3 r la na k || grow (X3 b lb mb) w w1 k) = true → k < w1.heap.size := fun k hk => by
    rcases Bool.or_eq_true _ _ |>.mp hk with e | e
    · exact (hd1.o2 k (hd1.go k (hd1.e.gx k e))).2
    · exact (hd1.o1 k e).2
  have hq := fun hok => open_qw (Y := fun k => X3 r la na k || grow (X3 b lb mb) w w1 k) hd1.e (fun k hk => by show (_ || _) = true; rw [hk]; rfl) hy2 hok
  rcases h4 with ⟨ho, t, rfl, hp, _⟩ | ⟨ho, rfl⟩
  · refine ⟨pp t, 0, rfl, hd1.mid, Calls.mono (hq (fun _ => hp.ok)) ?_⟩
    rintro e w2 ⟨G', hG, hK2, he, h5⟩
    rcases h5 with ⟨_, t2, rfl, hq2⟩ | ⟨hne, _⟩
    · have hKO := kp_go hd1 hK2
      have hd2 := hd1.doc he hKO (fun k hk => by
        rcases hG k hk with e | e
        · exact grow_of.2 (Or.inl e)
        · exact grow_of.2 (Or.inr e))
      refine ⟨pp t2, rfl, _, _, _, _, hd2, Or.inr ⟨t, t2, grow (fun k => X3 b lb mb k || G k) w1 w2, _, _, rfl, rfl, rfl, ⟨hp.other hK2 (fun k hk => ⟨?_, hd1.xf (hd1.go k (hd1.e.gx k hk))⟩) (grow_y hK2.size hp.yl.1) (fun k hk => grow_of.2 (Or.inl (by show (_ || _) = true; rw [hk]; rfl))), hq2, grow_sub (fun k hk => by show (_ || _) = true; rw [hk, Bool.or_true]), fun k hk => by show (_ || _) = true; rw [hk, Bool.or_true]⟩⟩⟩
      show (_ || _) = true
      rw [hd1.e.gx k hk, Bool.or_true]
    · exact absurd ho hne
  · refine ⟨.pointer none, D.opE, rfl, hd1.mid, Calls.mono (hq (fun e => absurd e ho)) ?_⟩
    rintro e w2 ⟨G', hG, hK2, he, h5⟩
    rcases h5 with ⟨h6, _⟩ | ⟨_, rfl⟩
    · exact absurd h6 ho
    · exact ⟨_, rfl, _, _, _, _, hd1.doc he (kp_go hd1 hK2) (fun k hk => by
        rcases hG k hk with e | e
        · exact grow_of.2 (Or.inl e)
        · exact grow_of.2 (Or.inr e)), Or.inl ⟨rfl, rfl⟩⟩
theorem DtS.new {W1 W4 W5 : World} {k : Nat} (h1 : Below w.heap.size w W1) (hD : Dsk W4 b lb mb (.new k)) (g1 : W1.heap.size ≤ b) (g2 : W1.heap.size ≤ lb) (g3 : W1.heap.size ≤ mb) (hB : Below W1.heap.size W1 W4) (hR : RDk W5 r la na cl cn zl zn (.new k) G) (hB5 : Below W4.heap.size W4 W5) (hG : ∀ k, G k = true → W4.heap.size ≤ k) : DtS w W5 b lb mb r la na cl cn zl zn none := by
  have hx : ∀ k, X3 b lb mb k = true → W1.heap.size ≤ k ∧ k < W4.heap.size := fun k hk => by
    rcases X3_of.1 hk with rfl | rfl | rfl
    · exact ⟨g1, hD.bl⟩
    · exact ⟨g2, hD.ll⟩
    · exact ⟨g3, hD.mp.lt⟩
  have s1 := h1.size
  have s2 := hB.size
  have s3 := hB5.size
  refine ⟨_, G, X3 b lb mb, G, K.call (K.call h1 hB) hB5, hD.keep hB5, hR, fun _ hk => hk, fun _ hk => hk, fun k hk => ?_, fun k hk => ?_, fun k hk => ?_, fun q o e => by cases e⟩
  · have := hx k hk; omega
  · have := hG k hk; have := hR.gl k hk; omega
  · cases hq : G k with
    | false => rfl
    | true => have := hx k hk; have := hG k hq; omega
end
end Go.Proofs.Ytpophfeommlajaa
namespace Go.Proofs.Ytpophfeommlajaa
open Go.RowKit Go.Maps

theorem RDk.fuse {w : World} {r la na cl cn : Nat} {zl zn : Option Addr} {D : DM} {G : Nat → Bool} (hR : RDk w r la na cl cn zl zn D G) {i x : Int} (hi : i < 9223372036854775808) (h1 : 0 ≤ i → x = i) (h2 : ¬ 0 ≤ i → x = -1) : RDk (w.setCell ⟨r, 2, none⟩ (.int .i64 x)) r la na cl cn zl zn (D.fuse i) G := by
  refine hR.head (by simp) (fun k hk _ => Below.heap_setCell _ _ _ _ hk) (fun i => World.frozen?_setCell _ _ _ _) ?_ ?_ ?_ ?_ rfl rfl rfl ?_
  · exact (World.cell?_setCell_other _ _ _ _ (by simp)).trans hR.c0
  · exact (World.cell?_setCell_other _ _ _ _ (by simp)).trans hR.c1
  · refine (World.cell?_setCell_same _ _ _ hR.c2).trans ?_
    unfold fuI DM.fuse
    by_cases hn : 0 ≤ i
    · rw [h1 hn]
      simp [hn]
      omega
    · rw [h2 hn]
      simp [hn]
  · exact (World.cell?_setCell_other _ _ _ _ (by simp)).trans hR.c3
  · intro j hj
    unfold DM.fuse at hj
    simp only at hj
    split at hj
    · cases hj; omega
    · cases hj
section
variable {w0 w : World} {b lb mb r la na cl cn : Nat} {zl zn : Option Addr} {ob : Option (Nat × OpV)} {v u : Value}
def FuX (w0 : World) (b lb mb r la na cl cn : Nat) (zl zn : Option Addr) (ob : Option (Nat × OpV)) (v u : Value) (i : Int) (e : Ending) (w1 : World) : Prop := (∃ y, e = .returned y) ∧ MidC w0 w1 ob ∧ (∃ y, w1.cell? ⟨r, 2, none⟩ = some (.int .i64 y)) ∧ w1.frozen? ⟨r, 2, none⟩ = false ∧ ∀ x : Int, (0 ≤ i → x = i) → (¬ 0 ≤ i → x = -1) → StS w0 (w1.setCell ⟨r, 2, none⟩ (.int .i64 x)) b lb mb r la na cl cn zl zn ob v u
theorem fus_any (h : StS w0 w b lb mb r la na cl cn zl zn ob v u) {i : Int} (hi : i < 9223372036854775808) : Calls Try.prog 15 #[pp b, .int .i64 i] w (FuX w0 b lb mb r la na cl cn zl zn ob v u i) := by
  obtain ⟨D, G, O, O2, hd, hs⟩ := h
  refine Calls.mono (fuse_any hd.d i hi) ?_
  rintro e w1 ⟨⟨y, rfl⟩, hD, hK⟩
  have hKO := hK.mono hd.xo
  have hd1 := hd.prog hD hKO
  refine ⟨⟨y, rfl⟩, hd1.mid, ⟨_, hd1.e.c2⟩, hd1.e.z 2 (by omega), fun x h1 h2 => ?_⟩
  have hR := hd1.e.fuse hi h1 h2
  have hK2 : Kp (X3 r la na) w1 (w1.setCell ⟨r, 2, none⟩ (.int .i64 x)) := kp_set _ _
  have hG : ∀ k, G k = true → G k = true ∨ w1.heap.size ≤ k := fun k hk => Or.inl hk
  have hKO2 := kp_go hd1 hK2
  refine ⟨_, _, _, _, hd1.doc hR hKO2 (g_go hd1 hR hG), hs.imp id ?_⟩
  rintro ⟨t, t2, Yp, Yq, s, e1, e2, e3, hs'⟩
  subst e3
  have hp1 := hs'.p.disk hD hK (hs'.p.ok.fuse i)
  obtain ⟨bs, vk, vw, ck, cw, g⟩ := hp1
  have hp2 : PW w1 b lb mb t (grow O w w1) Yp { s with D := s.D.fuse i } := ⟨bs, vk, vw, ck, cw, g.d, g.p, g.m, g.xy, g.yl, g.bl, fun k hk => grow_of.2 (Or.inl (g.ok k hk)), fun k hk => grow_of.2 (Or.inl (g.ow k hk)), fun k hk => (hd1.o1 k hk).2⟩
  have hs1 := SW.prog hd hs' hp2 hKO
  exact ⟨t, t2, _, _, _, e1, e2, rfl, SW.doc hd1 hs1 (hs1.q.disk hR hK2 hG (hs'.q.ok.fuse i)) hKO2⟩
end
end Go.Proofs.Ytpophfeommlajaa
namespace Go.Proofs.Ytpophfeommlajaa
open Go.RowKit Go.Maps

section
variable {w0 w : World} {b lb mb r la na cl cn : Nat} {zl zn : Option Addr} {ob : Option (Nat × OpV)} {v u : Value}
theorem same_b (h : StS w0 w b lb mb r la na cl cn zl zn ob v u) : Calls Try.prog 10 #[v, u] w fun e w1 => e = .returned (.bool true) ∧ Below w.heap.size w w1 := by
  obtain ⟨D, G, O, O2, hd, hs⟩ := h
  rcases hs with ⟨rfl, rfl⟩ | ⟨t, t2, Yp, Yq, s, rfl, rfl, hD, hs⟩
  · refine Calls.mono (same_nils w) ?_
    rintro e w1 ⟨rfl, rfl⟩
    exact ⟨rfl, Below.refl _ _⟩
  · exact same_st hs.p hs.q
theorem DtS.down' (h : DtS w0 w b lb mb r la na cl cn zl zn ob) : ∃ d, (∀ W, Below w.heap.size w W → Calls Try.prog 20 #[pp b] W fun e w1 => e = .returned (.bool d) ∧ w1 = W) ∧ w.cell? ⟨r, 3, none⟩ = some (.bool d) := by
  obtain ⟨D, G, O, O2, hd⟩ := h
  exact ⟨D.dn, fun W hB => down_any (hd.d.keep hB), hd.e.c3⟩
end
/-- Ahead of a call of the script. -/
def LpS (w : World) (b lb mb r la na cl cn : Nat) (zl zn : Option Addr) (n g : Nat) (s9 s11 s13 : Value) (wr : World) : Prop := ∃ i : Nat, g = n - i ∧ i ≤ n ∧ s13 = .int .i64 (i : Int) ∧ ∃ v u, v = s9 ∧ u = s11 ∧ ∃ ob, StS w wr b lb mb r la na cl cn zl zn ob v u
theorem cell0 {W : World} {ob j : Nat} {v : Value} {o : OpV} (h : W.rangeAt ob 0 o.cells) (hv : o.cells[j]? = some v) : W.cell? ⟨ob, j, none⟩ = some v := by
  have := h j v hv
  rwa [Nat.zero_add] at this
end Go.Proofs.Ytpophfeommlajaa
