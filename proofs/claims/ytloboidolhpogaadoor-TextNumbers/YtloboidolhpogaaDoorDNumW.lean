/- What text.Digits and text.Number answer. -/
import Derived.Test.YtloboidolhpogaaDoorDFmt
import Derived.Lib.ConvBytes
namespace Go.Proofs.YtloboidolhpogaaDoor
open Go.Shelf Go.RowKit Go.Sort Go.Lib
attribute [local go_sem ↓] Go.wp_at_zero Go.wp_at_succ

theorem tab_keep {W w1 : World} {name : String} {k : IntKind} {zs : List Int} (h : TabIs Tryd.prog W name k zs) (hb : Below W.heap.size W w1) : TabIs Tryd.prog w1 name k zs := by
  unfold TabIs World.var? at *
  cases hg : Tryd.prog.globalNamed name with
  | none => simp [hg] at h
  | some g =>
    simp only [hg, Option.bind_some] at h ⊢
    have hlt : g < W.heap.size := by
      rcases Nat.lt_or_ge g W.heap.size with h' | h'
      · exact h'
      · rw [Array.getElem?_eq_none h'] at h; simp at h
    rw [hb.block g hlt]
    exact h
/-- What the library's variables hold. -/
structure Tb (w : World) : Prop where
  tab : TabIs Tryd.prog w "internal/strconv.uint64pow10" .u64 pow10Tab
  e0 : ∃ ev, w.cell? ⟨0, 0, none⟩ = some ev ∧ (ev = .nilIface ∨ ∃ te pe, ev = .iface te pe)
  e1 : ∃ ev, w.cell? ⟨1, 0, none⟩ = some ev ∧ (ev = .nilIface ∨ ∃ te pe, ev = .iface te pe)
theorem Tb.keep {W w1 : World} (h : Tb W) (hb : Below W.heap.size W w1) : Tb w1 :=
  ⟨tab_keep h.tab hb, h.e0.elim fun ev ⟨h1, h2⟩ => ⟨ev, later hb h1, h2⟩, h.e1.elim fun ev ⟨h1, h2⟩ => ⟨ev, later hb h1, h2⟩⟩

set_option maxHeartbeats 1000000 in
theorem formatUint_any (u : Nat) (hu64 : u < 18446744073709551616) {w : World} (hT : Tb w) :
    Calls Tryd.prog 14 #[.int .u64 u, .int .i64 10] w fun e w' => e = .returned (.string (tx (digs u))) ∧ Below w.heap.size w w' := by
  go_enter Tryd.func14, Tryd.ntmps14
  go_wp2_with (go_at_call 20; with_reducible refine Calls.mono (formatUint_in u hu64 _ hT.tab) ?_; rintro e w' ⟨rfl, hb⟩)
  go_ret
  exact ⟨rfl, hb⟩
set_option maxHeartbeats 1000000 in
theorem digits_any (u : Nat) (hu64 : u < 18446744073709551616) {w : World} (hT : Tb w) :
    Calls Tryd.prog 8 #[.int .u64 u] w fun e w' => e = .returned (.string (tx (digs u))) ∧ Below w.heap.size w w' := by
  go_enter Tryd.func8, Tryd.ntmps8
  go_wp2_with (go_at_call 14; with_reducible refine Calls.mono (formatUint_any u hu64 hT) ?_; rintro e w' ⟨rfl, hb⟩)
  go_ret
  exact ⟨rfl, hb⟩
theorem parse_ok (s : ByteArray) (hmax : s.size ≤ 1000) (u : Nat) (h : parseUintB 64 s.data.toList = .ok u) (w : World) :
    Calls Tryd.prog 13 #[.string s, .int .i64 10, .int .i64 64] w fun e w' => e = .returned (.tuple #[.int .u64 u, .nilIface]) ∧ Below w.heap.size w w' := by
  refine Calls.mono (Any.strconv_ParseUint_10_at64_ok laysPu14 s (by omega) u h w) ?_
  rintro e w1 ⟨rfl, h1⟩
  refine ⟨rfl, ?_⟩
  rcases h1 with rfl | rfl
  · exact Below.refl _ _
  · exact ⟨rfl, rfl, rfl, by rw [bytesWorld_size]; omega, fun j hj => bytesWorld_at_old _ _ _ j hj⟩
theorem parse_bad (s : ByteArray) (hmax : s.size ≤ 1000) (h : ∀ u, parseUintB 64 s.data.toList ≠ .ok u) {w : World} (hT : Tb w) :
    Calls Tryd.prog 13 #[.string s, .int .i64 10, .int .i64 64] w fun e w' => (∃ u t p, e = .returned (.tuple #[.int .u64 u, .iface t p])) ∧ Below w.heap.size w w' := by
  cases hp : parseUintB 64 s.data.toList with
  | ok u => exact absurd hp (h u)
  | «syntax» =>
    obtain ⟨ev, h1, h2⟩ := hT.e0
    refine Calls.mono (Any.strconv_ParseUint_10_at64_syntax laysPu14 s (by omega) hp ev w h1 h2) ?_
    rintro e w1 ⟨N, rfl, _, _, hb⟩
    exact ⟨⟨_, _, _, rfl⟩, hb⟩
  | range =>
    obtain ⟨ev, h1, h2⟩ := hT.e1
    refine Calls.mono (Any.strconv_ParseUint_10_at64_range laysPu14 s (by omega) hp ev w h1 h2) ?_
    rintro e w1 ⟨N, rfl, _, _, hb⟩
    exact ⟨⟨_, _, _, rfl⟩, hb⟩
set_option maxHeartbeats 2000000 in
theorem number_any (l : List UInt8) (hl : l.length ≤ 1000) {w : World} (hT : Tb w) :
    Calls Tryd.prog 6 #[.string (tx l)] w fun e w' => e = .returned (numR l) ∧ Below w.heap.size w w' := by
  have hs : (tx l).size ≤ 1000 := by rw [tx_size]; exact hl
  have hd : (tx l).data.toList = l := rfl
  by_cases hp : ∃ u, parseUintB 64 l = .ok u
  · obtain ⟨u, hu⟩ := hp
    have hu64 := parse_lt hu
    have HP : Hid (Calls Tryd.prog 13 #[.string (tx l), .int .i64 10, .int .i64 64] w fun e w' => e = .returned (.tuple #[.int .u64 u, .nilIface]) ∧ Below w.heap.size w w') := parse_ok (tx l) hs u (by rw [hd]; exact hu) w
    by_cases he : digs u = l
    · have HR : Hid (numR l = .tuple #[.int .u64 u, .bool true]) := numR_yes hu64 he
      have hbe : ((tx (digs u)).toList == (tx l).toList) = true := by rw [he]; simp
      clear he hd
      go_enter Tryd.func6, Tryd.ntmps6
      go_wp2_with fail
      with_reducible refine Calls.mono HP.out ?_
      rintro e w1 ⟨rfl, hb1⟩
      go_wp2_with fail
      with_reducible refine Calls.mono (digits_any u hu64 (hT.keep hb1)) ?_
      rintro e w2 ⟨rfl, hb⟩
      have hb2 : Below w.heap.size w w2 := K.call hb1 hb
      clear hb hb1
      go_wp2_with fail
      go_ret2
      exact ⟨by rw [HR.out]; rfl, hb2⟩
    · have HR : Hid (numR l = .tuple #[.int .u64 0, .bool false]) := num_other hu he
      have hbe : ((tx (digs u)).toList == (tx l).toList) = false := by rw [tx_list, tx_list, Bool.eq_false_iff]; simpa using he
      clear he hd
      go_enter Tryd.func6, Tryd.ntmps6
      go_wp2_with fail
      with_reducible refine Calls.mono HP.out ?_
      rintro e w1 ⟨rfl, hb1⟩
      go_wp2_with fail
      with_reducible refine Calls.mono (digits_any u hu64 (hT.keep hb1)) ?_
      rintro e w2 ⟨rfl, hb⟩
      have hb2 : Below w.heap.size w w2 := K.call hb1 hb
      clear hb hb1
      go_wp2_with fail
      go_ret2
      exact ⟨by rw [HR.out]; rfl, hb2⟩
  · have hno : ∀ u, parseUintB 64 l ≠ .ok u := fun u h => hp ⟨u, h⟩
    have HR : Hid (numR l = .tuple #[.int .u64 0, .bool false]) := num_none hno
    have HP : Hid (Calls Tryd.prog 13 #[.string (tx l), .int .i64 10, .int .i64 64] w fun e w' => (∃ u t p, e = .returned (.tuple #[.int .u64 u, .iface t p])) ∧ Below w.heap.size w w') := parse_bad (tx l) hs (by rw [hd]; exact hno) hT
    clear hp hno hd
    go_enter Tryd.func6, Tryd.ntmps6
    go_wp2_with fail
    with_reducible refine Calls.mono HP.out ?_
    rintro e w1 ⟨⟨u, t, p, rfl⟩, hb1⟩
    go_wp2_with fail
    go_ret2
    exact ⟨by rw [HR.out]; rfl, hb1⟩
end Go.Proofs.YtloboidolhpogaaDoor
