/- Layer 14: the program's small functions. -/
import Derived.Test.YtjgpopjpmfkfmaaM14
import Derived.Laws.BytesArg
import Derived.Lib.Bytes
namespace Go.Proofs.Ytjgpopjpmfkfmaa
set_option maxRecDepth 100000
open Go.RowKit Go.Maps
attribute [local go_sem ↓] Go.wp_at_zero Go.wp_at_succ

/-- Sixty-four bytes from a block's beginning on. -/
abbrev s64 (g : Nat) : Value := .slice (some ⟨g, 0, none⟩) 64 64
theorem conv64 {w : World} {g : Nat} {l : List Nat} (h : w.rangeAt g 0 (cells8 l)) (hl : sec l) : (convert 38 9 (s64 g)).run Try.prog w = .ok (.string (strOfNums (l.map fun (x : Nat) => (x : Int)))) w := by
  refine run_convert_bytes_arg (P := Try.prog) w 38 5 Try.underlying38 Try.underlying5 g 0 64 64 _ (by rw [List.length_map]; exact hl.1) (fun i hi => ?_) 9 Try.underlying9
  have hi' : i < l.length := by rw [hl.1]; exact hi
  rw [h i _ (cells8_at l i hi')]
  simp [List.getD_eq_getElem?_getD, List.getElem?_eq_getElem hi']
theorem str_eq {l m : List Nat} (hl : ∀ x ∈ l, x < 256) (hm : ∀ x ∈ m, x < 256) : ((strOfNums (l.map fun (x : Nat) => (x : Int))).toList == (strOfNums (m.map fun (x : Nat) => (x : Int))).toList) = decide (l = m) := by
  have e : ∀ l : List Nat, (∀ x ∈ l, x < 256) → ((strOfNums (l.map fun (x : Nat) => (x : Int))).toList).map UInt8.toNat = l := by
    intro l hl
    rw [Lib.strOfNums_toList, Lib.bytesOf, List.map_map, List.map_map]
    refine (List.map_congr_left (fun x hx => ?_)).trans (List.map_id l)
    have := hl x hx
    simp
    omega
  by_cases h : l = m
  · subst h; simp
  · rw [decide_eq_false h]
    exact beq_eq_false_iff_ne.2 (fun h2 => h (by rw [← e l hl, ← e m hm, h2]))
theorem eq_any {w : World} {g q : Nat} {l m : List Nat} (h : w.rangeAt g 0 (cells8 l)) (hl : sec l) (h2 : w.rangeAt q 0 (cells8 m)) (hm : sec m) :
    Calls Try.prog 63 #[s64 g, s64 q] w fun e w' => e = .returned (.bool (decide (l = m))) ∧ w' = w := by
  have c1 := conv64 h hl
  have c2 := conv64 h2 hm
  rw [← str_eq hl.2 hm.2]
  clear h h2
  go_enter Try.func63, Try.ntmps63
  go_wp2_with fail
  go_ret
  exact ⟨rfl, rfl⟩
theorem results_cell_mid {P : Program} {fn : Func} {p : Tmp} {ty : TypeId} (h : fn.results = #[.cell p ty]) (tmps : Array Value) (w : World) (b : Nat) (cs : List Value) (d : TypeDesc)
    (hp : tmps.getD p undef = .pointer (some ⟨b, 0, none⟩)) (hc : w.rangeAt b 0 cs) (hu : P.underlying ty = some d) (hd : d.isRow = true) (hi : (P.info? ty).map (·.size) = some cs.length) :
    (results fn tmps).run P w = .ok (.agg cs.toArray) w := by
  have hp' : tmps[p]?.getD undef = .pointer (some ⟨b, 0, none⟩) := by simpa using hp
  simp [results, h, hp', asAddr, run_loadVar_mid w b 0 ty cs d hc hu hd hi]
theorem results_cell_two {P : Program} {fn : Func} {p u : Tmp} {ty : TypeId} (h : fn.results = #[.cell p ty, .tmp u]) (tmps : Array Value) (w : World) (b : Nat) (cs : List Value) (d : TypeDesc)
    (hp : tmps.getD p undef = .pointer (some ⟨b, 0, none⟩)) (hc : w.rangeAt b 0 cs) (hu : P.underlying ty = some d) (hd : d.isRow = true) (hi : (P.info? ty).map (·.size) = some cs.length) :
    (results fn tmps).run P w = .ok (.tuple #[.agg cs.toArray, tmps.getD u undef]) w := by
  have hp' : tmps[p]?.getD undef = .pointer (some ⟨b, 0, none⟩) := by simpa using hp
  simp [results, h, hp', asAddr, run_loadVar_mid w b 0 ty cs d hc hu hd hi, Result.andThen]
theorem size3I : (Try.prog.info? 105).map (·.size) = some 3 := by kernel_rfl
theorem size3B : (Try.prog.info? 102).map (·.size) = some 3 := by kernel_rfl
theorem range_new (w : World) (cs : List Value) (t : TypeId) : (w.alloc (.cells cs.toArray t)).rangeAt w.heap.size 0 cs := fun j v hv => by
  have hh : (w.alloc (.cells cs.toArray t)).heap[w.heap.size]? = some (.cells cs.toArray t) := heap_alloc_new w _
  unfold World.cell?
  simp only [hh, Nat.zero_add]
  simpa using hv
/-- Places that do not wrap. -/
def few9 (i : Int) : Prop := -1000000 ≤ i ∧ i ≤ 1000000
theorem places_any (w : World) {i : Int} (hi : few9 i) : Calls Try.prog 62 #[.int .i64 i] w fun e w' => e = .returned (.agg #[.int .i64 i, .int .i64 (i + 1), .int .i64 (i + 2)]) ∧ Below w.heap.size w w' := by
  have w1 : wrap64 (i + 1) = i + 1 := by unfold few9 at hi; unfold wrap64; omega
  have w2 : wrap64 (i + 2) = i + 2 := by unfold few9 at hi; unfold wrap64; omega
  clear hi
  go_enter Try.func62, Try.ntmps62
  go_wp2_with fail
  exact bodyPost_ret (results_cell_mid Try.results62 _ _ w.heap.size [.int .i64 i, .int .i64 (i + 1), .int .i64 (i + 2)] _ rfl (range_new w _ _) Try.underlying105 rfl size3I) rfl ⟨rfl, K.alloc (Below.refl _ _) _⟩
/-- The value of three sectors, and where it lies. -/
def vl (l0 l1 l2 : List Nat) : List Nat := if l1 = l2 then l2 else l0
def vg (l1 l2 : List Nat) (g0 g2 : Nat) : Nat := if l1 = l2 then g2 else g0
theorem value_any {w : World} {g0 g1 g2 : Nat} {l1 l2 : List Nat} (h1 : w.rangeAt g1 0 (cells8 l1)) (s1 : sec l1) (h2 : w.rangeAt g2 0 (cells8 l2)) (s2 : sec l2) :
    Calls Try.prog 64 #[.agg #[s64 g0, s64 g1, s64 g2]] w fun e w' => e = .returned (s64 (vg l1 l2 g0 g2)) ∧ Below w.heap.size w w' := by
  have H1 := hide h1
  have H2 := hide h2
  have HS := hide (And.intro s1 s2)
  clear h1 h2 s1 s2
  have hle : ∀ {o : Obj}, Below w.heap.size w (w.alloc o) := fun {o} => K.alloc (Below.refl _ _) o
  by_cases e : l1 = l2
  · have HV : Hid (vg l1 l2 g0 g2 = g2) := if_pos e
    have hd : decide (l2 = l1) = true := decide_eq_true e.symm
    clear e
    go_enter Try.func64, Try.ntmps64
    go_wp2_with (go_at_call 63; refine Calls.mono (eq_any (fun j v hv => later hle (H2.out j v hv)) HS.out.2 (fun j v hv => later hle (H1.out j v hv)) HS.out.1) ?_; rintro e w' ⟨rfl, rfl⟩)
    go_ret
    exact ⟨by rw [HV.out]; rfl, hle⟩
  · have HV : Hid (vg l1 l2 g0 g2 = g0) := if_neg e
    have hd : decide (l2 = l1) = false := decide_eq_false (fun h => e h.symm)
    clear e
    go_enter Try.func64, Try.ntmps64
    go_wp2_with (go_at_call 63; refine Calls.mono (eq_any (fun j v hv => later hle (H2.out j v hv)) HS.out.2 (fun j v hv => later hle (H1.out j v hv)) HS.out.1) ?_; rintro e w' ⟨rfl, rfl⟩)
    go_ret
    exact ⟨by rw [HV.out]; rfl, hle⟩
/-- A Write, and a Sync behind it. -/
theorem put_any {w : World} {b lb mb : Nat} {D : DM} (h : Dsk w b lb mb D) (i : Int) {z : Option Addr} {m c : Nat} {f : Nat → Nat} (hb : BA w z m f) (hz : 0 < m → ∀ p, z = some p → X3 b lb mb p.block = false) :
    Calls Try.prog 65 #[pp b, .int .i64 i, .slice z m c] w (WrP w b lb mb (D.ws i (fl f m)) (D.wsE i (fl f m))) := by
  have HC := hide (write_any (c := c) h i hb hz)
  clear h hb hz
  by_cases he : D.wrE i m = 0
  · have e1 : D.ws i (fl f m) = (D.wr i (fl f m)).sy := if_pos (by rw [fl_len]; exact he)
    have e2 : D.wsE i (fl f m) = (D.wr i (fl f m)).syE := if_pos (by rw [fl_len]; exact he)
    rw [e1, e2]
    rw [he] at HC
    clear e1 e2 he
    go_enter Try.func65, Try.ntmps65
    go_wp2_with (first
      | (go_at_call 22; refine Calls.mono HC.out ?_; rintro e W1 ⟨rfl, hD1, hK1⟩; have HD1 := hide hD1; have HK1 := hide hK1; clear hD1 hK1)
      | (go_at_call 72; refine Calls.mono (sync_any HD1.out) ?_; rintro e W2 ⟨rfl, hD2, hK2⟩; have HD2 := hide hD2; have HK2 := hide hK2; clear hD2 hK2))
    go_ret
    exact ⟨rfl, HD2.out, HK1.out.trans HK2.out⟩
  · have e1 : D.ws i (fl f m) = D.wr i (fl f m) := if_neg (by rw [fl_len]; exact he)
    have e2 : D.wsE i (fl f m) = D.wrE i m := (if_neg (by rw [fl_len]; exact he)).trans (by rw [fl_len])
    rw [e1, e2]
    have hne : (D.wrE i m != 0) = true := by simp [he]
    have hne' : (D.wrE i m == 0) = false := by simp [he]
    clear e1 e2 he
    go_enter Try.func65, Try.ntmps65
    go_wp2_with (first
      | (go_at_call 22; refine Calls.mono HC.out ?_; rintro e W1 ⟨rfl, hD1, hK1⟩; have HD1 := hide hD1; have HK1 := hide hK1; clear hD1 hK1))
    go_ret
    exact ⟨rfl, HD1.out, HK1.out⟩
end Go.Proofs.Ytjgpopjpmfkfmaa
