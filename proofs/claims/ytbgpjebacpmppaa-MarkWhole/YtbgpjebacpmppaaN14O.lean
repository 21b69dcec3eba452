/- Layer 14: how the parameters of the laws are read before the call: fates, two texts, texts. -/
import Derived.Test.YtbgpjebacpmppaaD13O
namespace Go.Proofs.Ytbgpjebacpmppaa
open Go.ChangeShapes Go.WideShapes Go.ChangeAt Go.RowKit

/-- A fate in memory. -/
structure FtV : Type where
  z : Option Addr
  KL : List Bool
  k : Nat
  t : Int
  a : Int
def FtV.cells (o : FtV) : List Value := [.slice o.z o.KL.length o.k, .int .i64 o.t, .int .i64 o.a]
structure FtsAt (W : World) (z : Option Addr) (n : Nat) (O : Nat → FtV) : Prop where
  at_ : n = 0 ∨ ∃ b o, z = some ⟨b, o, none⟩ ∧ ∀ i, i < n → W.rangeAt b (o + i * 3) (O i).cells
  r : ∀ i, i < n → Kb W (O i).z (O i).KL
theorem FtsAt.keep {W w1 : World} {z : Option Addr} {n : Nat} {O : Nat → FtV} (h : FtsAt W z n O) (hb : Below W.heap.size W w1) : FtsAt w1 z n O :=
  ⟨h.at_.imp id fun ⟨b, o, e, hr⟩ => ⟨b, o, e, fun i hi j v hv => later hb (hr i hi j v hv)⟩, fun i hi => (h.r i hi).keep hb⟩
theorem FtsAt.cells {W : World} {z : Option Addr} {n : Nat} {O : Nat → FtV} (h : FtsAt W z n O) (hn : 0 < n) : ∃ b o, z = some ⟨b, o, none⟩ ∧ ∀ i, i < n → W.rangeAt b (o + i * 3) (O i).cells :=
  h.at_.elim (fun e => by omega) id
theorem list3' {α : Type} (l : List α) (h : l.length = 3) : ∃ a b c, l = [a, b, c] := by
  match l, h with
  | [a, b, c], _ => exact ⟨a, b, c, rfl⟩
theorem open_fates {H : Type} {enc : TypeId × Value → H} {W : World} {base : Nat} {v : Value} {d : DataW H} {p : List MemPlace}
    (hv : Value.okWide Try.prog W .any base 24 v) (h : DataW.Trod enc Try.prog W 0 (fun _ => true) true 24 v d p) :
    ∃ z n c O, v = .slice z n c ∧ FtsAt W z n O := by
  obtain ⟨a0, len0, cap0, rfl⟩ := okWide_slice Try.underlying24 hv
  obtain ⟨fuel, hf⟩ := h
  rcases Go.Deep.open_slice Try.underlying24 hf with ⟨hcs, _⟩ | ⟨a, len, cap, m, n, D, Pl, hcs, _, hl, _, hm, _, hx⟩
  · simp [Value.cells] at hcs
    exact ⟨_, 0, _, fun _ => ⟨none, [], 0, 0, 0⟩, by rw [hcs.1, hcs.2.1], ⟨Or.inl rfl, fun i hi => by omega⟩⟩
  · simp [Value.cells] at hcs
    obtain ⟨rfl, rfl, rfl⟩ := hcs
    simp only [if_true] at hm
    subst hm
    rw [cellsFate] at hx
    have key : ∀ i, i < m → ∃ o : FtV, W.cells? 0 (a.add (i * 3)) 3 = some o.cells ∧ Kb W o.z o.KL := fun i hi => by
      obtain ⟨cs', h1, h2⟩ := hx i hi
      obtain ⟨_, hlen, _⟩ := World.cells?_some h1
      obtain ⟨x0, x1, x2, rfl⟩ := list3' cs' hlen
      obtain ⟨z, KL, k, t, a', rfl, rfl, rfl, hk, _, _⟩ := open_fate_cells h2
      exact ⟨⟨z, KL, k, t, a'⟩, h1, hk⟩
    have hI : Inhabited FtV := ⟨⟨none, [], 0, 0, 0⟩⟩
    obtain ⟨O, hO⟩ := Go.Deep.choose_lt key
    refine ⟨some a, _, _, O, rfl, ⟨?_, fun i hi => (hO i (by omega)).2⟩⟩
    by_cases h0 : len0 = 0
    · exact Or.inl h0
    · right
      obtain ⟨b, off, spot⟩ := a
      have hc : ∀ i j, i < len0 → j < 3 → W.cell? (((⟨b, off, spot⟩ : Addr).add (i * 3)).add j) = (O i).cells[j]? := fun i j hi hj => (World.cells?_some (hO i (by omega)).1).2.2 j hj
      have hspot : spot = none := by
        have h1 : W.cell? (((⟨b, off, spot⟩ : Addr).add (0 * 3)).add 0) = some (.slice (O 0).z (O 0).KL.length (O 0).k) := hc 0 0 (by omega) (by omega)
        simpa [Addr.add] using World.cell?_spot h1
      subst hspot
      refine ⟨b, off, rfl, fun i hi j v hv => ?_⟩
      have hj : j < 3 := (List.getElem?_eq_some_iff.1 hv).1
      have := hc i j hi hj
      rw [Addr.add_mid, Addr.add_mid] at this
      rw [this]
      exact hv
/-- A text in memory. -/
structure TxV : Type where
  x : Option Addr
  m : Nat
  c : Nat
  f : Nat → Nat
def TxV.v (o : TxV) : Value := .slice o.x o.m o.c
structure TxsAt (W : World) (z : Option Addr) (n : Nat) (O : Nat → TxV) : Prop where
  at_ : n = 0 ∨ ∃ b o, z = some ⟨b, o, none⟩ ∧ ∀ i, i < n → W.cell? ⟨b, o + i, none⟩ = some (O i).v
  r : ∀ i, i < n → BA W (O i).x (O i).m (O i).f
theorem TxsAt.keep {W w1 : World} {z : Option Addr} {n : Nat} {O : Nat → TxV} (h : TxsAt W z n O) (hb : Below W.heap.size W w1) : TxsAt w1 z n O :=
  ⟨h.at_.imp id fun ⟨b, o, e, hr⟩ => ⟨b, o, e, fun i hi => later hb (hr i hi)⟩, fun i hi => (h.r i hi).keep hb⟩
theorem list1' {α : Type} (l : List α) (h : l.length = 1) : ∃ a, l = [a] := by
  match l, h with
  | [a], _ => exact ⟨a, rfl⟩
theorem open_texts {H : Type} {enc : TypeId × Value → H} {W : World} {base : Nat} {v : Value} {d : DataW H} {p : List MemPlace}
    (hv : Value.okWide Try.prog W .any base 47 v) (h : DataW.Trod enc Try.prog W 0 (fun _ => true) true 47 v d p) :
    ∃ z n c O, v = .slice z n c ∧ TxsAt W z n O := by
  obtain ⟨a0, len0, cap0, rfl⟩ := okWide_slice Try.underlying47 hv
  obtain ⟨fuel, hf⟩ := h
  rcases Go.Deep.open_slice Try.underlying47 hf with ⟨hcs, _⟩ | ⟨a, len, cap, m, n, D, Pl, hcs, _, hl, _, hm, _, hx⟩
  · simp [Value.cells] at hcs
    exact ⟨_, 0, _, fun _ => ⟨none, 0, 0, fun _ => 0⟩, by rw [hcs.1, hcs.2.1], ⟨Or.inl rfl, fun i hi => by omega⟩⟩
  · simp [Value.cells] at hcs
    obtain ⟨rfl, rfl, rfl⟩ := hcs
    simp only [if_true] at hm
    subst hm
    rw [cellsBytes] at hx
    have key : ∀ i, i < m → ∃ o : TxV, W.cells? 0 (a.add (i * 1)) 1 = some [o.v] ∧ BA W o.x o.m o.f := fun i hi => by
      obtain ⟨cs', h1, h2⟩ := hx i hi
      obtain ⟨_, hlen, _⟩ := World.cells?_some h1
      obtain ⟨x0, rfl⟩ := list1' cs' hlen
      obtain ⟨x, mm, c, f, rfl, hb, _⟩ := open_byteslice h2
      exact ⟨⟨x, mm, c, f⟩, h1, hb⟩
    have hI : Inhabited TxV := ⟨⟨none, 0, 0, fun _ => 0⟩⟩
    obtain ⟨O, hO⟩ := Go.Deep.choose_lt key
    refine ⟨some a, _, _, O, rfl, ⟨?_, fun i hi => (hO i (by omega)).2⟩⟩
    by_cases h0 : len0 = 0
    · exact Or.inl h0
    · right
      obtain ⟨b, off, spot⟩ := a
      have hc : ∀ i, i < len0 → W.cell? (((⟨b, off, spot⟩ : Addr).add (i * 1)).add 0) = some (O i).v := fun i hi => (World.cells?_some (hO i (by omega)).1).2.2 0 (by omega)
      have hspot : spot = none := by
        have h1 := hc 0 (by omega)
        simpa [Addr.add] using World.cell?_spot h1
      subst hspot
      refine ⟨b, off, rfl, fun i hi => ?_⟩
      have := hc i hi
      rw [Addr.add_mid, Addr.add_mid, Nat.mul_one] at this
      exact this
theorem cells2B : Try.prog.cellsOf 23 = 2 := by kernel_rfl
theorem list2' {α : Type} (l : List α) (h : (⟨l⟩ : Array α).size = 2) : ∃ a b, l = [a, b] := by
  match l, h with
  | [a, b], _ => exact ⟨a, b, rfl⟩
theorem open_two {H : Type} {enc : TypeId × Value → H} {W : World} {base : Nat} {v : Value} {d : DataW H} {p : List MemPlace}
    (hv : Value.okWide Try.prog W .any base 23 v) (h : DataW.Trod enc Try.prog W 0 (fun _ => true) true 23 v d p) :
    ∃ x m c f y n k g, v = .agg #[.slice x m c, .slice y n k] ∧ BA W x m f ∧ BA W y n g := by
  obtain ⟨cs, rfl, hsz, _⟩ : ∃ cs, v = .agg cs ∧ cs.size = Try.prog.cellsOf 23 ∧ Row.okWide Try.prog W .any base 23 cs := by
    simpa [Value.okWide, Try.underlying23] using hv
  rw [cells2B] at hsz
  obtain ⟨l⟩ := cs
  obtain ⟨x0, x1, rfl⟩ := list2' l hsz
  obtain ⟨fuel, hf⟩ := h
  cases fuel with
  | zero => simp [DataW.trod] at hf
  | succ fuel =>
    simp only [DataW.trod, Value.cells, Try.underlying23, cells2B] at hf
    rw [show (if [x0, x1].length = 2 then _ else none) = _ from if_pos rfl, show List.range 2 = [0, 1] from rfl] at hf
    simp only [Option.map_eq_some_iff, List.mapM_cons, List.mapM_nil, Option.bind_eq_bind, Option.bind_eq_some_iff, Option.pure_def, Option.some.injEq, cellsBytes] at hf
    obtain ⟨ys, ⟨y0, h0, _, ⟨y1, h1, _, rfl, rfl⟩, rfl⟩, hx⟩ := hf
    obtain ⟨x, m, c, f, e0, hb0, _⟩ := open_byteslice (c := x0) h0
    obtain ⟨y, n, k, g, e1, hb1, _⟩ := open_byteslice (c := x1) h1
    exact ⟨x, m, c, f, y, n, k, g, by rw [e0, e1], hb0, hb1⟩
end Go.Proofs.Ytbgpjebacpmppaa
