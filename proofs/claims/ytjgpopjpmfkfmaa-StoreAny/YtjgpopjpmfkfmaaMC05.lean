/- Layer 13: the program's Crash, walked. Layer 13: what a program that does nothing does not answer; the law of no disk. Layer 13: the law of the fuse. Layer 13: how the parameters of the laws are read before the call. Layer 13: whether a script is looked at. Two lists of bytes are the same. What the document's own Same answers, of all lists of bytes. Two lists of bytes held against each other by the document's own Same. Layer 13: the law of what lasts. -/
import Derived.Test.YtjgpopjpmfkfmaaMC04
import Derived.Test.YtjgpopjpmfkfmaaMC03
import Derived.Test.YtjgpopjpmfkfmaaMC01
import Derived.ProofKit
import Derived.Laws.IdiomArrays
import Derived.OpenShut
import Derived.Carry
import Derived.Deep.Grids
import Derived.Deep.LoopGhost
import Derived.Deep.DeepCutAuto
namespace Go.Proofs.Ytjgpopjpmfkfmaa
set_option maxRecDepth 100000
open Go.RowKit Go.Maps
attribute [local go_sem ↓] Go.wp_at_zero Go.wp_at_succ

theorem wp_let {P : Program} {c : Code} {Q : Exit → Act → World → Prop} {a : Act} {w : World} (h : ∀ X, X = w → Code.wp P c Q a X) : Code.wp P c Q a w := h w rfl
end Go.Proofs.Ytjgpopjpmfkfmaa
namespace Go.Proofs.Ytjgpopjpmfkfmaa
set_option maxRecDepth 100000
open Go.RowKit Go.Maps
attribute [local go_sem ↓] Go.wp_at_zero Go.wp_at_succ

/-- Sixty-four noughts that are made. -/
def o64 : Obj := .cells (madeCells #[.int .u8 0] 64) 5
theorem run_mk64 (w : World) : (Instr.makeSlice 38 (.int .i64 64) (.int .i64 64)).run Try.prog w = .ok (.slice (some ⟨w.heap.size, 0, none⟩) 64 64) (w.alloc o64) := by
  obtain ⟨i0, hi, hz0, hz1, hz2⟩ := info_parts info8
  have hr := run_make (P := Try.prog) w 38 5 i0 (.int .u8 0) Try.underlying38 hi hz0 .i64 .i64 64 64 (by omega) (by omega) (by rw [hz2]; omega) (by omega)
  rw [hz1] at hr
  exact hr
def OkT (w : World) (e : Ending) (w' : World) : Prop := e = .returned (.bool true) ∧ Below w.heap.size w w'
end Go.Proofs.Ytjgpopjpmfkfmaa
namespace Go.Proofs.Ytjgpopjpmfkfmaa
set_option maxRecDepth 100000
open Go.RowKit Go.Maps
attribute [local go_sem ↓] Go.wp_at_zero Go.wp_at_succ

structure FzR (w wr : World) (b lb mb : Nat) (D : DM) : Prop where
  d : Dsk wr b lb mb D
  b : w.heap.size ≤ b
  l : w.heap.size ≤ lb
  m : w.heap.size ≤ mb
  k : Below w.heap.size w wr
theorem Kp.own {w wr w' : World} {b lb mb : Nat} (h1 : w.heap.size ≤ b) (h2 : w.heap.size ≤ lb) (h3 : w.heap.size ≤ mb) (hB : Below w.heap.size w wr) (hK : Kp (X3 b lb mb) wr w') : Below w.heap.size w w' :=
  ⟨hK.os.trans hB.os, hK.tape.trans hB.tape, hK.output.trans hB.output, Nat.le_trans hB.size hK.size, fun k hk => (hK.block k (Nat.lt_of_lt_of_le hk hB.size) (by
    cases hx : X3 b lb mb k with
    | false => rfl
    | true => rcases X3_of.1 hx with e | e | e <;> omega)).trans (hB.block k hk)⟩
theorem FzR.next {w wr w' : World} {b lb mb : Nat} {D D' : DM} (h : FzR w wr b lb mb D) (hD : Dsk w' b lb mb D') (hK : Kp (X3 b lb mb) wr w') : FzR w w' b lb mb D' :=
  ⟨hD, h.b, h.l, h.m, Kp.own h.b h.l h.m h.k hK⟩
theorem FzR.grow {w wr w' : World} {b lb mb : Nat} {D : DM} (h : FzR w wr b lb mb D) (hB : Below wr.heap.size wr w') : FzR w w' b lb mb D :=
  ⟨h.d.keep hB, h.b, h.l, h.m, K.call h.k hB⟩
theorem FzR.out {w wr : World} {b lb mb : Nat} {D : DM} (h : FzR w wr b lb mb D) {g : Nat} (hg : wr.heap.size ≤ g) : X3 b lb mb g = false := by
  cases hx : X3 b lb mb g with
  | false => rfl
  | true =>
    have h1 := h.d.bl
    have h2 := h.d.ll
    have h3 := h.d.mp.lt
    rcases X3_of.1 hx with e | e | e <;> omega
end Go.Proofs.Ytjgpopjpmfkfmaa
namespace Go.Proofs.Ytjgpopjpmfkfmaa
set_option maxRecDepth 100000
open Go.ChangeShapes Go.WideShapes Go.ChangeAt Go.RowKit

theorem own : ownKnob Try.prog.godebug = none := by kernel_rfl
theorem Try.laidOut : laidOutB Try.prog = true := by kernel_rfl
theorem cellsU8 : Try.prog.cellsOf 5 = 1 := by kernel_rfl
theorem cellsBytes : Try.prog.cellsOf 38 = 1 := by kernel_rfl
theorem open_byteslice {H : Type} {enc : TypeId × Value → H} {W : World} {fuel : Nat} {c : Value} {y : DataW H × List MemPlace} (hf : DataW.trod enc Try.prog W 0 (fun _ => true) true fuel 38 [c] = some y) : ∃ a n k f, c = .slice a n k ∧ BA W a n f ∧ n ≤ k := by
  rcases open_ints Try.underlying38 Try.underlying5 cellsU8 hf with ⟨hcs, hx⟩ | ⟨a, len', cap', zs, hcs, _, hl, hm, hz, hx, hcell, hwz⟩
  · simp at hcs
    exact ⟨none, 0, 0, fun _ => 0, hcs, ⟨fun _ => by omega, Or.inl rfl⟩, by omega⟩
  · simp at hcs
    subst hcs
    simp only [if_true] at hz
    have hr : ∀ i, 0 ≤ zs.getD i 0 ∧ zs.getD i 0 < 256 := fun i => by
      have h := range_u8 hwz i
      simp only [List.getD_eq_getElem?_getD]
      omega
    refine ⟨some a, _, _, fun i => (zs.getD i 0).toNat, rfl, ⟨fun i => by have := hr i; omega, ?_⟩, hl⟩
    by_cases h0 : len' = 0
    · exact Or.inl h0
    · obtain ⟨b, off, rfl, hc⟩ := ints_at hcell (by omega)
      exact Or.inr ⟨b, off, rfl, ⟨fun i hi => by
        have := hr i
        rw [hc i (by omega), Int.toNat_of_nonneg this.1]⟩⟩
def i64 (x : Int) : Prop := -9223372036854775808 ≤ x ∧ x < 9223372036854775808
/-- A call of a script, as it lies in memory. -/
structure OpV : Type where
  kd : Int
  i : Int
  x : Option Addr
  m : Nat
  c : Nat
  f : Nat → Nat
  z : Option Addr
  KL : List Bool
  k : Nat
  t : Int
  a : Int
def OpV.cells (o : OpV) : List Value := [.int .i64 o.kd, .int .i64 o.i, .slice o.x o.m o.c, .slice o.z o.KL.length o.k, .int .i64 o.t, .int .i64 o.a]
structure OpV.ok (W : World) (o : OpV) : Prop where
  kd : i64 o.kd
  i : i64 o.i
  b : BA W o.x o.m o.f
  k : Kb W o.z o.KL
  t : i64 o.t
  a : i64 o.a
/-- A script in memory. -/
structure OpsAt (W : World) (z : Option Addr) (n : Nat) (O : Nat → OpV) : Prop where
  at_ : n = 0 ∨ ∃ b o, z = some ⟨b, o, none⟩ ∧ ∀ i, i < n → W.rangeAt b (o + i * 6) (O i).cells
  r : ∀ i, i < n → (O i).ok W
end Go.Proofs.Ytjgpopjpmfkfmaa
namespace Go.Proofs.Ytjgpopjpmfkfmaa
set_option maxRecDepth 100000
open Go.RowKit Go.Maps
attribute [local go_sem ↓] Go.wp_at_zero Go.wp_at_succ

theorem OpsAt.cells {W : World} {z : Option Addr} {n : Nat} {O : Nat → OpV} (h : OpsAt W z n O) (hn : 0 < n) : ∃ b o, z = some ⟨b, o, none⟩ ∧ ∀ i, i < n → W.rangeAt b (o + i * 6) (O i).cells :=
  h.at_.elim (fun e => by omega) id
theorem infoBy : (Try.prog.info? 38).map (fun i => (i.zero, i.size, i.bytes)) = some (some (.slice none 0 0), 1, 24) := by kernel_rfl
/-- One slice more at the end of a list of one's own. -/
theorem run_app1 {w : World} {base : Nat} {v : Value} {n : Nat} {xs : List Value} (hown : w.ownsRow base 38 1 v n xs) {q : Nat} {e : Value} (he : w.cell? ⟨q, 0, none⟩ = some e) (h1 : e.oneCell' = true) (hb : n ≤ 100000) (hbase : base ≤ w.heap.size) (ty : TypeId) :
    ∃ v' w', (Builtin.append_ #[47, 47] ty #[v, .slice (some ⟨q, 0, none⟩) 1 1]).run Try.prog w = .ok v' w' ∧ w'.ownsRow base 38 1 v' (n + 1) (xs ++ [e]) ∧ w.grownBy w' v.ownBlock ∧ (v'.ownBlock = v.ownBlock ∨ v'.ownBlock = some w.heap.size) := by
  obtain ⟨i0, hi, hz0, hz1, hz2⟩ := info_parts infoBy
  obtain ⟨v', w', h1', h2, h3, _, h5⟩ := run_append_own_at (P := Try.prog) w base 47 ty 38 i0 (.slice none 0 0) 1 24 Try.underlying47 hi hz0 hz1 hz2 rfl (by decide) v n _ hown ⟨q, 0, none⟩ 1 1 [e] rfl (fun j u hu => by
    have hj : j = 0 := by have := (List.getElem?_eq_some_iff.1 hu).1; simp at this; omega
    subst hj
    rw [Addr.add_mid]
    simp at hu
    rw [he, hu]) (fun x hx => by simp at hx; rw [hx]; exact h1) (by unfold maxLen; omega) (by omega) hbase
  exact ⟨v', w', h1', h2, h3, h5⟩
theorem wpList_app1 {w : World} {ops : Array Oper} {rest : List Oper} {o : Oper} {a : Act} {Q : Exit → Act → World → Prop} (hgd : o.guard = none) (s x : Operand) (hop : o.op = .call { callee := .builtin .append, args := #[s, x], argTypes := #[47, 47] })
    {base : Nat} {v : Value} {n : Nat} {xs : List Value} (hs : a.eval s = v) (hown : w.ownsRow base 38 1 v n xs) {q : Nat} (hx : a.eval x = .slice (some ⟨q, 0, none⟩) 1 1) {e : Value} (he : w.cell? ⟨q, 0, none⟩ = some e) (h1 : e.oneCell' = true) (hb : n ≤ 100000) (hbase : base ≤ w.heap.size)
    (hK : ∀ v' w', w'.ownsRow base 38 1 v' (n + 1) (xs ++ [e]) → w.grownBy w' v.ownBlock → (v'.ownBlock = v.ownBlock ∨ v'.ownBlock = some w.heap.size) → wpList Try.prog ops Q rest (a.put o.dst v') w') : wpList Try.prog ops Q (o :: rest) a w := by
  refine wpList_plain hgd fun K' hK' => ?_
  obtain ⟨v', w', hr, h2, h3, h4⟩ := run_app1 hown he h1 hb hbase o.type
  unfold Oper.wp execOp
  simp only [hop, resolve, invoke, builtin, Sem.run_bind, Sem.run_pure, Result.andThen_ok, List.map_toArray, List.map_cons, List.map_nil, hs, hx, hr]
  exact hK' _ _ (hK v' w' h2 h3 h4)
/-- Sectors that were read, gathered in a list. -/
structure AllR (w wr : World) (b lb mb : Nat) (v : Value) (m : Nat) (B : Nat → List Nat) (cs : List Value) : Prop where
  o : wr.ownsRow w.heap.size 38 1 v m cs
  x : ∀ g, v.ownBlock = some g → X3 b lb mb g = false
  e : ∀ j, j < m → ∃ g, cs[j]? = some (.slice (some ⟨g, 0, none⟩) 64 64) ∧ wr.rangeAt g 0 (cells8 (B j)) ∧ g < wr.heap.size ∧ X3 b lb mb g = false ∧ v.ownBlock ≠ some g
theorem own_block {w w' : World} {base n : Nat} {e : TypeId} {v : Value} {xs : List Value} (h : w.ownsRow base e 1 v n xs) (hb : ∀ g, v.ownBlock = some g → w'.heap[g]? = w.heap[g]?) : w'.ownsRow base e 1 v n xs := by
  refine ⟨h.1, ?_⟩
  rcases h.2 with h0 | ⟨g, cap, cur, rfl, hg, hh, r⟩
  · exact Or.inl h0
  · exact Or.inr ⟨g, cap, cur, rfl, hg, by rw [hb g rfl]; exact hh, r⟩
theorem AllR.kp {w wr w' : World} {b lb mb : Nat} {v : Value} {m : Nat} {B : Nat → List Nat} {cs : List Value} (h : AllR w wr b lb mb v m B cs) (hK : Kp (X3 b lb mb) wr w') : AllR w w' b lb mb v m B cs := by
  refine ⟨own_block h.o (fun g hg => hK.block g (h.o.lt g hg).2 (h.x g hg)), h.x, fun j hj => ?_⟩
  obtain ⟨g, h1, h2, h3, h4, h5⟩ := h.e j hj
  exact ⟨g, h1, fun q u hu => (World.cell?_of_block (w := wr) (hK.block g h3 h4)).trans (h2 q u hu), Nat.lt_of_lt_of_le h3 hK.size, h4, h5⟩
theorem AllR.nil (w wr : World) (b lb mb : Nat) (B : Nat → List Nat) : AllR w wr b lb mb (.slice none 0 0) 0 B [] :=
  ⟨World.ownsRow_nil _ _ _ _, fun g h => (by cases h), fun j hj => absurd hj (by omega)⟩
/-- One more. -/
theorem AllR.add {w wr w' : World} {b lb mb : Nat} {v v' : Value} {m : Nat} {B : Nat → List Nat} {cs : List Value} (h : AllR w wr b lb mb v m B cs) {g : Nat} (hr : wr.rangeAt g 0 (cells8 (B m))) (hg : g < wr.heap.size) (hx : X3 b lb mb g = false) (hne : v.ownBlock ≠ some g) (ho : w'.ownsRow w.heap.size 38 1 v' (m + 1) (cs ++ [.slice (some ⟨g, 0, none⟩) 64 64])) (hG : wr.grownBy w' v.ownBlock) (hat : v'.ownBlock = v.ownBlock ∨ v'.ownBlock = some wr.heap.size) (hX : X3 b lb mb wr.heap.size = false) : AllR w w' b lb mb v' (m + 1) B (cs ++ [.slice (some ⟨g, 0, none⟩) 64 64]) := by
  have hl : cs.length = m := by have := h.o.1; omega
  have old : ∀ k, k < wr.heap.size → v.ownBlock ≠ some k → v'.ownBlock ≠ some k := fun k hk hn e => by
    rcases hat with e2 | e2
    · exact hn (e2.symm.trans e)
    · rw [e2] at e; have := Option.some.inj e; omega
  refine ⟨ho, fun k hk => ?_, fun j hj => ?_⟩
  · rcases hat with e | e
    · exact h.x k (e.symm.trans hk)
    · rw [e] at hk; cases hk; exact hX
  · by_cases e : j < m
    · obtain ⟨q, h1, h2, h3, h4, h5⟩ := h.e j e
      exact ⟨q, by rw [List.getElem?_append_left (by omega)]; exact h1, fun i u hu => (World.cell?_of_block (w := wr) (hG.block q h3 (fun e2 => h5 e2.symm))).trans (h2 i u hu), Nat.lt_of_lt_of_le h3 hG.size, h4, old q h3 h5⟩
    · obtain rfl : j = m := by omega
      exact ⟨g, by rw [List.getElem?_append_right (by omega), hl, Nat.sub_self]; rfl, fun i u hu => (World.cell?_of_block (w := wr) (hG.block g hg (fun e2 => hne e2.symm))).trans (hr i u hu), Nat.lt_of_lt_of_le hg hG.size, hx, old g hg hne⟩
end Go.Proofs.Ytjgpopjpmfkfmaa
namespace Go.Proofs.Ytjgpopjpmfkfmaa
set_option maxRecDepth 100000

/-- Two lists of n bytes are the same. -/
def sameB (f g : Nat → Int) (n : Nat) : Bool := decide (∀ i, i < n → f i = g i)
theorem same_no {f g : Nat → Int} {n k : Nat} (h : k < n) (hne : f k ≠ g k) : sameB f g n = false := by
  unfold sameB
  rw [decide_eq_false_iff_not]
  exact fun hh => hne (hh k h)
theorem same_yes {f g : Nat → Int} {n : Nat} (h : ∀ i, i < n → f i = g i) : sameB f g n = true := decide_eq_true h

end Go.Proofs.Ytjgpopjpmfkfmaa
namespace Go.Proofs.Ytjgpopjpmfkfmaa
set_option maxRecDepth 100000
open Go.RowKit
attribute [local go_sem ↓] Go.wp_at_zero Go.wp_at_succ

set_option maxHeartbeats 1000000 in
theorem same_len (a1 a2 : Option Addr) (n1 n2 c1 c2 : Nat) (h : n1 ≠ n2) (w : World) :
    Calls Try.prog 32 #[.slice a1 n1 c1, .slice a2 n2 c2] w fun e w' => e = .returned (.bool false) ∧ w' = w := by
  have hb : ((n1 : Int) == (n2 : Int)) = false := beq_eq_false_iff_ne.2 (by omega)
  go_enter Try.func32, Try.ntmps32
  go_wp2_with fail
  go_ret
  exact ⟨rfl, rfl⟩
set_option maxHeartbeats 1000000 in
theorem same_none (a1 a2 : Option Addr) (c1 c2 : Nat) (w : World) :
    Calls Try.prog 32 #[.slice a1 0 c1, .slice a2 0 c2] w fun e w' => e = .returned (.bool true) ∧ w' = w := by
  go_enter Try.func32, Try.ntmps32
  go_wp2_with fail
  refine wp_loop_rounds 1 ?_
  rw [rounds_succ]
  go_wp2_with fail
  go_ret
  exact ⟨rfl, rfl⟩

set_option maxHeartbeats 2000000 in
theorem same_any {b o c b2 o2 c2 n : Nat} {f g : Nat → Int} (hn : n ≤ 1000000) {w : World} (h1 : Rd w b o n f) (h2 : Rd w b2 o2 n g) :
    Calls Try.prog 32 #[.slice (some ⟨b, o, none⟩) n c, .slice (some ⟨b2, o2, none⟩) n c2] w fun e w' => e = .returned (.bool (sameB f g n)) ∧ Below w.heap.size w w' := by
  have H1 : Hid (Rd w b o n f) := h1
  have H2 : Hid (Rd w b2 o2 n g) := h2
  clear h1 h2
  go_enter Try.func32, Try.ntmps32
  go_wp2_with fail
  go_loopg [5] n (fun gh s wr => ∃ k : Nat, gh = n - k ∧ k ≤ n ∧ s = .int .i64 k ∧ (∀ i, i < k → f i = g i) ∧ Below w.heap.size w wr)
  case atStart => exact ⟨0, rfl, by omega, rfl, fun i h => by omega, Below.refl _ _⟩
  case round =>
    obtain ⟨k, rfl, hk, rfl, hall, hB⟩ := hrel
    have HA : Hid (∀ i, i < k → f i = g i) := hall
    have HB : Hid (Below w.heap.size w wr) := hB
    by_cases hlt : k < n
    · have hc1 := (H1.out.keep hB).c k hlt
      have hc2 := (H2.out.keep hB).c k hlt
      clear hB hall
      by_cases he : f k = g k
      · have HS : Hid (∀ i, i < k + 1 → f i = g i) := fun i hi => by
          by_cases e : i = k
          · rw [e]; exact he
          · exact HA.out i (by omega)
        rw [← he] at hc2
        clear he
        go_upto_region 6 with fail
        go_quiet (fail)
        go_wp2_with fail
        go_roundg (n - (k + 1))
        case measure => omega
        case rel => exact ⟨k + 1, rfl, by omega, by go_num, HS.out, K.drewN HB.out _⟩
      · have hb : (f k == g k) = false := beq_eq_false_iff_ne.2 he
        have HS : Hid (sameB f g n = false) := same_no hlt he
        clear he
        go_upto_region 6 with fail
        go_quiet (fail)
        go_wp2_with fail
        go_ret
        exact ⟨ret_bool HS.out.symm, K.drewN HB.out _⟩
    · obtain rfl : k = n := by omega
      clear hall hB
      go_wp2_with fail
      go_ret
      exact ⟨ret_bool (same_yes HA.out).symm, HB.out⟩
end Go.Proofs.Ytjgpopjpmfkfmaa
namespace Go.Proofs.Ytjgpopjpmfkfmaa
set_option maxRecDepth 100000
open Go.RowKit

theorem same_ba {a a2 : Option Addr} {n n2 c c2 : Nat} {f g : Nat → Nat} {w : World} (h : BA w a n f) (h2 : BA w a2 n2 g) (hn : n ≤ 1000000) :
    Calls Try.prog 32 #[.slice a n c, .slice a2 n2 c2] w fun e w' => e = .returned (.bool (decide (n = n2 ∧ ∀ i, i < n → f i = g i))) ∧ Below w.heap.size w w' := by
  by_cases e : n = n2
  · subst e
    by_cases e0 : n = 0
    · subst e0
      refine (same_none a a2 c c2 w).mono ?_
      rintro e w1 ⟨rfl, rfl⟩
      exact ⟨ret_bool (decide_eq_true ⟨rfl, fun i hi => by omega⟩).symm, Below.refl _ _⟩
    · rcases h.at_ with h0 | ⟨b, o, rfl, hr⟩
      · omega
      rcases h2.at_ with h0 | ⟨b2, o2, rfl, hr2⟩
      · omega
      refine (same_any hn hr hr2).mono ?_
      rintro e w1 ⟨rfl, hb⟩
      refine ⟨ret_bool ?_, hb⟩
      unfold sameB
      rw [Bool.eq_iff_iff, decide_eq_true_eq, decide_eq_true_eq]
      exact ⟨fun hh => ⟨rfl, fun i hi => Int.ofNat_inj.1 (hh i hi)⟩, fun hh i hi => congrArg (fun (x : Nat) => (x : Int)) (hh.2 i hi)⟩
  · refine (same_len a a2 n n2 c c2 e w).mono ?_
    rintro e w1 ⟨rfl, rfl⟩
    exact ⟨ret_bool (decide_eq_false (fun hh => e hh.1)).symm, Below.refl _ _⟩
/-- .. as lists. -/
theorem same_fl {a a2 : Option Addr} {n n2 c c2 : Nat} {f g : Nat → Nat} {w : World} (h : BA w a n f) (h2 : BA w a2 n2 g) (hn : n ≤ 1000000) :
    Calls Try.prog 32 #[.slice a n c, .slice a2 n2 c2] w fun e w' => e = .returned (.bool (decide (fl f n = fl g n2))) ∧ Below w.heap.size w w' := by
  have e : decide (fl f n = fl g n2) = decide (n = n2 ∧ ∀ i, i < n → f i = g i) := by
    rw [decide_eq_decide]
    constructor
    · intro hh
      have e1 : n = n2 := by
        have := congrArg List.length hh
        rwa [fl_len, fl_len] at this
      subst e1
      refine ⟨rfl, fun i hi => ?_⟩
      have := congrArg (fun l => l[i]?) hh
      simpa [fl_at _ hi] using this
    · rintro ⟨e1, hh⟩
      subst e1
      apply List.ext_getElem?
      intro i
      rcases Nat.lt_or_ge i n with hi | hi
      · rw [fl_at _ hi, fl_at _ hi, hh i hi]
      · rw [List.getElem?_eq_none (by rw [fl_len]; exact hi), List.getElem?_eq_none (by rw [fl_len]; exact hi)]
  rw [e]
  exact same_ba h h2 hn
end Go.Proofs.Ytjgpopjpmfkfmaa
namespace Go.Proofs.Ytjgpopjpmfkfmaa
set_option maxRecDepth 100000
open Go.RowKit Go.Maps
attribute [local go_sem ↓] Go.wp_at_zero Go.wp_at_succ

/-- A call of a script, on a disk. -/
def DM.step (D : DM) (o : OpV) : DM := if o.kd = 1 then D.wr o.i (fl o.f o.m) else if o.kd = 2 then D.sy else if o.kd = 4 then D.cr o.KL o.t o.a else D
theorem ba_range {w : World} {g : Nat} {l : List Nat} (h : w.rangeAt g 0 (cells8 l)) (hl : ∀ x ∈ l, x < 256) : BA w (some ⟨g, 0, none⟩) l.length (fun i => l.getD i 0) := by
  refine ⟨fun i => getD_lt hl i, Or.inr ⟨g, 0, rfl, ⟨fun i hi => ?_⟩⟩⟩
  exact h i _ (cells8_at l i hi)
theorem fl_of {l : List Nat} {n : Nat} (h : l.length = n) : fl (fun i => l.getD i 0) n = l := by
  apply List.ext_getElem?
  intro i
  rcases Nat.lt_or_ge i n with hi | hi
  · rw [fl_at _ hi, List.getElem?_eq_getElem (by omega)]
    simp [List.getD_eq_getElem?_getD, List.getElem?_eq_getElem (show i < l.length by omega)]
  · rw [List.getElem?_eq_none (by rw [fl_len]; exact hi), List.getElem?_eq_none (by omega)]
theorem ba_sec {w : World} {g : Nat} {l : List Nat} (h : w.rangeAt g 0 (cells8 l)) (hl : sec l) : BA w (some ⟨g, 0, none⟩) 64 (fun i => l.getD i 0) := by
  have := ba_range h hl.2
  rwa [hl.1] at this
theorem OpV.ok.keep {W w1 : World} {o : OpV} (h : o.ok W) (hb : Below W.heap.size W w1) : o.ok w1 := ⟨h.kd, h.i, h.b.keep hb, h.k.keep hb, h.t, h.a⟩
theorem OpsAt.keep {W w1 : World} {z : Option Addr} {n : Nat} {O : Nat → OpV} (h : OpsAt W z n O) (hb : Below W.heap.size W w1) : OpsAt w1 z n O :=
  ⟨h.at_.imp id fun ⟨b, o, e, hr⟩ => ⟨b, o, e, fun i hi j v hv => later hb (hr i hi j v hv)⟩, fun i hi => (h.r i hi).keep hb⟩
section
variable {w : World} {ops : Array Oper} {rest : List Oper} {o : Oper} {a : Act} {Q : Exit → Act → World → Prop}
end
theorem own_form {w : World} {base n : Nat} {e : TypeId} {v : Value} {xs : List Value} (h : w.ownsRow base e 1 v n xs) (hn : 0 < n) : ∃ q cap, v = .slice (some ⟨q, 0, none⟩) n cap ∧ ∀ i, i < n → w.cell? ⟨q, i, none⟩ = xs[i]? := by
  rcases h.2 with ⟨_, h0⟩ | ⟨g, cap, cur, rfl, _⟩
  · omega
  · exact ⟨g, cap, rfl, fun i hi => by rw [h.cellAt i (by omega)]⟩
end Go.Proofs.Ytjgpopjpmfkfmaa
