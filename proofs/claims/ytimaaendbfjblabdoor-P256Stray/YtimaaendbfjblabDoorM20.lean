/- Multiples, as the document reckons them. What codec.Below answers. What the document's own Formed, lift, Add, Mul and Both answer. Multiples by the one formula for all cases, bit by bit from the highest on. What the program's own functions of layer 8 answer. -/
import Derived.Test.YtimaaendbfjblabDoorM19
import Derived.Test.YtimaaendbfjblabDoorM18
import Derived.Test.YtimaaendbfjblabDoorM14
import Derived.Test.YtimaaendbfjblabDoorM03
import Derived.Deep.RegionHeld3
namespace Go.Proofs.YtimaaendbfjblabDoor
open Go.RowKit

end Go.Proofs.YtimaaendbfjblabDoor
namespace Go.Proofs.YtimaaendbfjblabDoor
open Go.RowKit
attribute [local go_sem ↓] Go.wp_at_zero Go.wp_at_succ

set_option maxHeartbeats 2000000 in
theorem below_walk {k a m : Int} {c : Int} {w : World}
    (H1 : Hid (∀ w1, Below w.heap.size w w1 → Calls Tryd.prog 35 #[.int .i64 k] w1 fun e w' => e = .returned (.agg #[.int .u64 (L 0 m), .int .u64 (L 1 m), .int .u64 (L 2 m), .int .u64 (L 3 m)]) ∧ Below w1.heap.size w1 w'))
    (H2 : Hid (∀ w, Calls Tryd.prog 34 #[.agg #[.int .u64 (L 0 a), .int .u64 (L 1 a), .int .u64 (L 2 a), .int .u64 (L 3 a)], .agg #[.int .u64 (L 0 m), .int .u64 (L 1 m), .int .u64 (L 2 m), .int .u64 (L 3 m)]] w fun e w' => e = .returned (.int .i64 c) ∧ Below w.heap.size w w')) :
    Calls Tryd.prog 21 #[.int .i64 k, .agg #[.int .u64 (L 0 a), .int .u64 (L 1 a), .int .u64 (L 2 a), .int .u64 (L 3 a)]] w fun e w' => e = .returned (.bool (decide (c < 0))) ∧ Below w.heap.size w w' := by
  have A1 := Arr.new w w.heap.size rfl 24 (L 0 a) (L 1 a) (L 2 a) (L 3 a)
  have hw : Below w.heap.size w (w.alloc (.cells #[.int .u64 (L 0 a), .int .u64 (L 1 a), .int .u64 (L 2 a), .int .u64 (L 3 a)] 24)) := K.alloc (Below.refl _ _) _
  go_enter Tryd.func21, Tryd.ntmps21
  go_wp2_with fail
  generalize w.alloc (.cells #[.int .u64 (L 0 a), .int .u64 (L 1 a), .int .u64 (L 2 a), .int .u64 (L 3 a)] 24) = W0 at *
  have ⟨ka, ka0, ka1, ka2, ka3⟩ := A1
  have hS : Hid (∀ w', Below W0.heap.size W0 w' → (Below W0.heap.size W0 w' ∧ w'.cell? ⟨w.heap.size, 0, none⟩ = some (.int .u64 (L 0 a)) ∧ w'.cell? ⟨w.heap.size, 1, none⟩ = some (.int .u64 (L 1 a)) ∧ w'.cell? ⟨w.heap.size, 2, none⟩ = some (.int .u64 (L 2 a)) ∧ w'.cell? ⟨w.heap.size, 3, none⟩ = some (.int .u64 (L 3 a)))) := fun w' hB => ⟨hB, later hB ka0, later hB ka1, later hB ka2, later hB ka3⟩
  clear ka ka0 ka1 ka2 ka3
  go_region_held3 (fun w' => Below W0.heap.size W0 w' ∧ w'.cell? ⟨w.heap.size, 0, none⟩ = some (.int .u64 (L 0 a)) ∧ w'.cell? ⟨w.heap.size, 1, none⟩ = some (.int .u64 (L 1 a)) ∧ w'.cell? ⟨w.heap.size, 2, none⟩ = some (.int .u64 (L 2 a)) ∧ w'.cell? ⟨w.heap.size, 3, none⟩ = some (.int .u64 (L 3 a)))
    ((refine hS.out _ ?_; first | (with_reducible exact K.drew (Below.refl _ _)) | (with_reducible exact K.drew (K.alloc (Below.refl _ _) _)) | (with_reducible exact Below.refl _ _) | (with_reducible exact K.call (by go_split_ands; assumption) hk) | (with_reducible exact K.alloc (by go_split_ands; assumption) _) | (with_reducible exact K.again (by go_split_ands; assumption) (by omega) _) | (with_reducible exact K.set (by go_split_ands; assumption) (by first | omega | (simp; done) | (simp; omega)) _) | (with_reducible exact K.set (K.set (K.set (K.set (by go_split_ands; assumption) (by first | omega | (simp; done) | (simp; omega)) _) (by first | omega | (simp; done) | (simp; omega)) _) (by first | omega | (simp; done) | (simp; omega)) _) (by first | omega | (simp; done) | (simp; omega)) _)))
    (first
      | (go_at_call 35; with_reducible refine Calls.mono (H1.out _ (K.call hw (by go_split_ands; with_reducible assumption))) ?_; rintro e w' ⟨rfl, hk⟩)
      | (go_at_call 34; with_reducible refine Calls.mono (H2.out _) ?_; rintro e w' ⟨rfl, hk⟩))
  all_goals
    have hH := ‹Below _ _ _ ∧ _›
    go_wp2_with fail
    go_ret
    exact ⟨ret_bool (by simp), K.call hw hH.1⟩

theorem cmp_neg (a m : Int) : decide (cmp a m < 0) = decide (a < m) := by
  unfold cmp
  by_cases h : a < m
  · rw [if_pos h]; simp [h]
  · rw [if_neg h]; split <;> simp [h]
theorem below_any {k a : Int} (ha : Num a) {w : World} (hT : Tab w) :
    Calls Tryd.prog 21 #[.int .i64 k, .agg #[.int .u64 (L 0 a), .int .u64 (L 1 a), .int .u64 (L 2 a), .int .u64 (L 3 a)]] w fun e w' => e = .returned (.bool (decide (a < md k))) ∧ Below w.heap.size w w' := by
  have h := below_walk (k := k) (a := a) (m := md k) (c := cmp a (md k)) (w := w) (fun w1 hb => f_mod k (hT.keep hb)) (fun w => cmp_any ha (md_num k) w)
  rw [cmp_neg] at h
  exact h
end Go.Proofs.YtimaaendbfjblabDoor
namespace Go.Proofs.YtimaaendbfjblabDoor
open Go.RowKit

theorem fin_lt (x : Fin m0) : decide ((x.val : Int) < md 0) = true := by
  rw [md_m0]
  have := x.isLt
  exact decide_eq_true (by omega)
/-- Two points are held against each other, number by number. -/
theorem fields26 : Tryd.prog.fieldsOf 26 = #[{ name := "X", type := 24, offset := 0, embedded := false, tag := "", pkgPath := "", byteOffset := 0 }, { name := "Y", type := 24, offset := 4, embedded := false, tag := "", pkgPath := "", byteOffset := 32 }, { name := "None", type := 4, offset := 8, embedded := false, tag := "", pkgPath := "", byteOffset := 64 }] := by kernel_rfl
theorem isAgg24 (w : World) : (isAgg 24).run Tryd.prog w = .ok true w := by
  unfold isAgg
  rw [Sem.run_bind, run_underlying Tryd.underlying24 w]
  rfl
theorem isAgg4 (w : World) : (isAgg 4).run Tryd.prog w = .ok false w := by
  unfold isAgg
  rw [Sem.run_bind, run_underlying Tryd.underlying4 w]
  rfl
theorem size24 (w : World) : (sizeOf 24).run Tryd.prog w = .ok 4 w := by
  have h := i24
  cases hq : Tryd.prog.info? 24 with
  | none => rw [hq] at h; cases h
  | some i =>
    rw [hq] at h
    simp at h
    simp [sizeOf, typeInfo, hq, h]
theorem its_cons (xs ys : Array Value) (j : Nat) (js : List Nat) (x y : Int) (r : Bool) (hx : xs[j]? = some (.int .u64 x)) (hy : ys[j]? = some (.int .u64 y)) (w : World)
    (h : (Op.eqItems 9998 22 1 xs ys js).run Tryd.prog w = .ok r w) : (Op.eqItems 9998 22 1 xs ys (j :: js)).run Tryd.prog w = .ok (x == y && r) w := by
  have he : Tryd.prog.plainKey 22 = true := by kernel_rfl
  simp only [Op.eqItems, Sem.run_bind, Nat.mul_one, run_part_plain w he hx, run_part_plain w he hy, Result.andThen_ok, run_equalIn_int w 9997 22 .u64 .u64 x y Tryd.underlying22]
  cases x == y <;> simp [h]
theorem eq_in {a b : Int} (ha : Num a) (hb : Num b) (w : World) : (Op.equalIn 9999 24 (.agg (nc a).toArray) (.agg (nc b).toArray)).run Tryd.prog w = .ok (decide (a = b)) w := by
  rw [← nc_eq ha hb]
  obtain ⟨i, hi⟩ := Option.isSome_iff_exists.1 (show (Tryd.prog.info? 22).isSome = true by kernel_rfl)
  rw [run_equalIn_array w 9998 _ _ Tryd.underlying24 hi]
  have hc : Tryd.prog.cellsOf 22 = 1 := by kernel_rfl
  have r4 : List.range 4 = [0, 1, 2, 3] := rfl
  rw [hc, r4]
  exact its_cons _ _ 0 _ _ _ _ rfl rfl w (its_cons _ _ 1 _ _ _ _ rfl rfl w (its_cons _ _ 2 _ _ _ _ rfl rfl w (its_cons _ _ 3 _ _ _ _ rfl rfl w rfl)))
theorem eqf_cons {dd : Nat} {xs ys : Array Value} {f : Field} {fs : List Field} {a b : Value} {r s : Bool} {w : World} (hn : f.name ≠ "_") (h1 : (part f.type xs f.offset).run Tryd.prog w = .ok a w) (h2 : (part f.type ys f.offset).run Tryd.prog w = .ok b w) (h3 : (Op.equalIn dd f.type a b).run Tryd.prog w = .ok r w) (h4 : (Op.eqFields dd xs ys fs).run Tryd.prog w = .ok s w) : (Op.eqFields dd xs ys (f :: fs)).run Tryd.prog w = .ok (r && s) w := by
  rw [Op.eqFields, if_pos hn]
  simp only [Sem.run_bind, h1, h2, h3, Result.andThen_ok]
  cases r
  · rfl
  · exact h4
theorem eq_pt {a b c d : Int} (ha : Num a) (hb : Num b) (hc : Num c) (hd : Num d) (s t : Bool) (w : World) : (Op.equalIn 10000 26 (.agg (nc a ++ nc b ++ [Value.bool s]).toArray) (.agg (nc c ++ nc d ++ [Value.bool t]).toArray)).run Tryd.prog w = .ok (decide (a = c ∧ b = d ∧ s = t)) w := by
  have e1 : ∀ w, (part 24 (nc a ++ nc b ++ [Value.bool s]).toArray 0).run Tryd.prog w = .ok (.agg (nc a).toArray) w := fun w => by unfold part; simp only [Sem.run_bind, isAgg24, Result.andThen_ok, if_true, size24, Sem.run_pure]; rfl
  have e2 : ∀ w, (part 24 (nc c ++ nc d ++ [Value.bool t]).toArray 0).run Tryd.prog w = .ok (.agg (nc c).toArray) w := fun w => by unfold part; simp only [Sem.run_bind, isAgg24, Result.andThen_ok, if_true, size24, Sem.run_pure]; rfl
  have e3 : ∀ w, (part 24 (nc a ++ nc b ++ [Value.bool s]).toArray 4).run Tryd.prog w = .ok (.agg (nc b).toArray) w := fun w => by unfold part; simp only [Sem.run_bind, isAgg24, Result.andThen_ok, if_true, size24, Sem.run_pure]; rfl
  have e4 : ∀ w, (part 24 (nc c ++ nc d ++ [Value.bool t]).toArray 4).run Tryd.prog w = .ok (.agg (nc d).toArray) w := fun w => by unfold part; simp only [Sem.run_bind, isAgg24, Result.andThen_ok, if_true, size24, Sem.run_pure]; rfl
  have e5 : ∀ w, (part 4 (nc a ++ nc b ++ [Value.bool s]).toArray 8).run Tryd.prog w = .ok (.bool s) w := fun w => by unfold part; simp only [Sem.run_bind, isAgg4, Result.andThen_ok, Bool.false_eq_true, if_false]; rfl
  have e6 : ∀ w, (part 4 (nc c ++ nc d ++ [Value.bool t]).toArray 8).run Tryd.prog w = .ok (.bool t) w := fun w => by unfold part; simp only [Sem.run_bind, isAgg4, Result.andThen_ok, Bool.false_eq_true, if_false]; rfl
  have hf : Tryd.prog.underlying 26 = some (.struct (Tryd.prog.fieldsOf 26)) := by rw [fields26]; exact Tryd.underlying26
  rw [run_equalIn_struct w 9999 26 _ _ hf Tryd.stoodInHeld26, fields26]
  have hb' := fun w => run_equalIn_bool' (P := Tryd.prog) w 9998 4 s t Tryd.underlying4
  refine Eq.trans (eqf_cons (by decide) (e1 w) (e2 w) (eq_in ha hc w) (eqf_cons (by decide) (e3 w) (e4 w) (eq_in hb hd w) (eqf_cons (by decide) (e5 w) (e6 w) (hb' w) rfl))) ?_
  congr 1
  by_cases h1 : a = c
  · by_cases h2 : b = d
    · subst h1 h2
      cases s <;> cases t <;> simp
    · simp [h2]
  · simp [h1]
/-- The neutral point's numbers. -/
theorem eq_none {a b : Int} (ha : Num a) (hb : Num b) (w : World) : (Op.equalIn 10000 26 (.agg (nc a ++ nc b ++ [Value.bool true]).toArray) (.agg (nz ++ nz ++ [Value.bool true]).toArray)).run Tryd.prog w = .ok (decide (a = 0 ∧ b = 0)) w := by
  have h := eq_pt ha hb (c := 0) (d := 0) ⟨by decide, by decide⟩ ⟨by decide, by decide⟩ true true w
  rw [← nz_nc] at h
  rw [h]
  simp
theorem fc_one : fc 1 = [Value.int .u64 1] ++ [Value.int .u64 0] ++ [Value.int .u64 0] ++ [Value.int .u64 0] := by kernel_rfl
theorem on_tm (x y : Fin m0) : (y * y = x * (x * x) - tmN x 3 + wb) = (y * y = x * x * x - 3 * x + wb) := by
  rw [tm3, show x * (x * x) - (x + x + x) + wb = x * x * x - 3 * x + wb by grobner]
/-- The point that two numbers and a truth stand for. -/
def rp (X Y : Int) (t : Bool) : Wp m0 := if t = false ∧ X < md 0 ∧ Y < md 0 ∧ kc Y * kc Y = kc X * kc X * kc X - 3 * kc X + wb then some (kc X, kc Y) else none
theorem rp_on (X Y : Int) (t : Bool) : (rp X Y t).on wb := by
  unfold rp
  split
  · rename_i h; exact h.2.2.2
  · trivial
theorem nc_kc {X : Int} (h0 : 0 ≤ X) (h : X < md 0) : nc X = fc (kc X) := by
  rw [fc, kc_val, ← md_m0, Int.emod_eq_of_lt h0 h]
def rc (X Y : Int) (t : Bool) : List Value := nc X ++ nc Y ++ [Value.bool t]
theorem jl_on {a : Wp m0} (h : a.on wb) : (jdrop (jlift a)).on wb := by rw [jdrop_lift]; exact h
/-- Is it formed? -/
def fmd (X Y : Int) (t : Bool) : Bool := if t = true then decide (X = 0 ∧ Y = 0) else decide (X < md 0 ∧ Y < md 0 ∧ (kc Y : Fin m0) * kc Y = kc X * kc X * kc X - 3 * kc X + wb)
theorem pc_rc (a : Wp m0) : pc a = rc ((px a).val : Int) ((py a).val : Int) a.isNone := rfl
theorem eq_pc (a b : Wp m0) (w : World) : (Op.equalIn 10000 26 (.agg (pc a).toArray) (.agg (pc b).toArray)).run Tryd.prog w = .ok (decide ((px a).val = (px b).val ∧ (py a).val = (py b).val ∧ a.isNone = b.isNone)) w := by
  have h := eq_pt (fin_num (px a)) (fin_num (py a)) (fin_num (px b)) (fin_num (py b)) a.isNone b.isNone w
  refine h.trans ?_
  congr 1
  have : (((px a).val : Int) = ((px b).val : Int) ∧ ((py a).val : Int) = ((py b).val : Int) ∧ a.isNone = b.isNone) = ((px a).val = (px b).val ∧ (py a).val = (py b).val ∧ a.isNone = b.isNone) := by
    apply propext
    constructor
    · intro h; exact ⟨by omega, by omega, h.2.2⟩
    · intro h; exact ⟨by omega, by omega, h.2.2⟩
  simp only [this]
theorem eq_pc_same (a : Wp m0) (w : World) : (Op.equalIn 10000 26 (.agg (pc a).toArray) (.agg (pc a).toArray)).run Tryd.prog w = .ok true w := by
  rw [eq_pc]
  simp
theorem rp_pc {a : Wp m0} (h : a.on wb) : rp ((px a).val : Int) ((py a).val : Int) a.isNone = a := by
  cases a with
  | none => exact if_neg (fun h => by cases h.1)
  | some q =>
    obtain ⟨x, y⟩ := q
    have hc : y * y = x * x * x - 3 * x + wb := h
    have e : rp (x.val : Int) (y.val : Int) false = some (kc (x.val : Int), kc (y.val : Int)) := if_pos ⟨rfl, of_decide_eq_true (fin_lt x), of_decide_eq_true (fin_lt y), by rw [kc_self, kc_self]; exact hc⟩
    rw [kc_self, kc_self] at e
    exact e
theorem bPc (a b c d e f g h : Int) : Tryd.prog.built 26 [(0, .agg ([Value.int .u64 a] ++ [Value.int .u64 b] ++ [Value.int .u64 c] ++ [Value.int .u64 d]).toArray), (1, .agg ([Value.int .u64 e] ++ [Value.int .u64 f] ++ [Value.int .u64 g] ++ [Value.int .u64 h]).toArray)] = some ([Value.int .u64 a] ++ [Value.int .u64 b] ++ [Value.int .u64 c] ++ [Value.int .u64 d] ++ [Value.int .u64 e] ++ [Value.int .u64 f] ++ [Value.int .u64 g] ++ [Value.int .u64 h] ++ [Value.bool false]).toArray := by kernel_rfl
theorem pc_G : pc wG = [Value.int .u64 17627433388654248598] ++ [Value.int .u64 8575836109218198432] ++ [Value.int .u64 17923454489921339634] ++ [Value.int .u64 7716867327612699207] ++ [Value.int .u64 14678990851816772085] ++ [Value.int .u64 3156516839386865358] ++ [Value.int .u64 10297457778147434006] ++ [Value.int .u64 5756518291402817435] ++ [Value.bool false] := by kernel_rfl
set_option maxRecDepth 100000 in
set_option maxHeartbeats 4000000 in
theorem r_Base {w : World}  : Calls Tryd.prog 15 [].toArray w fun e w' => e = .returned (.agg (pc wG).toArray) ∧ Below w.heap.size w w' := by
  refine enter (args := []) Tryd.func15 rfl 4 rfl (lk rfl) (fun a h => ?_)
  refine go_region h hm [eN 0 (nz ++ nz ++ [Value.bool false])] (by kernel_rfl) ⟨
    fun L u => u_alloc u (gd0 rfl) 26 rfl 0 rfl rfl z26 _ rfl,
    trivial⟩ [(0, .ptr 0 0)] [(0, nz ++ nz ++ [Value.bool false])] ⟨rfl, trivial⟩ ⟨rfl, trivial⟩ rfl (fun a w h => ?_)
  refine go_region h hm [eS 1 (.val (.agg ([(Value.int IntKind.u64 17627433388654248598)] ++ [(Value.int IntKind.u64 8575836109218198432)] ++ [(Value.int IntKind.u64 17923454489921339634)] ++ [(Value.int IntKind.u64 7716867327612699207)]).toArray)), eS 2 (.val (.agg ([(Value.int IntKind.u64 14678990851816772085)] ++ [(Value.int IntKind.u64 3156516839386865358)] ++ [(Value.int IntKind.u64 10297457778147434006)] ++ [(Value.int IntKind.u64 5756518291402817435)]).toArray)), eS 3 (.val (.agg ([(Value.int IntKind.u64 17627433388654248598)] ++ [(Value.int IntKind.u64 8575836109218198432)] ++ [(Value.int IntKind.u64 17923454489921339634)] ++ [(Value.int IntKind.u64 7716867327612699207)] ++ [(Value.int IntKind.u64 14678990851816772085)] ++ [(Value.int IntKind.u64 3156516839386865358)] ++ [(Value.int IntKind.u64 10297457778147434006)] ++ [(Value.int IntKind.u64 5756518291402817435)] ++ [Value.bool false]).toArray)), eM 0 ([(Value.int IntKind.u64 17627433388654248598)] ++ [(Value.int IntKind.u64 8575836109218198432)] ++ [(Value.int IntKind.u64 17923454489921339634)] ++ [(Value.int IntKind.u64 7716867327612699207)] ++ [(Value.int IntKind.u64 14678990851816772085)] ++ [(Value.int IntKind.u64 3156516839386865358)] ++ [(Value.int IntKind.u64 10297457778147434006)] ++ [(Value.int IntKind.u64 5756518291402817435)] ++ [Value.bool false])] (by kernel_rfl) ⟨
    fun L u => u_build u (gd0 rfl) 1 rfl 24 #[(0, (.const (.int .u64 17627433388654248598))), (1, (.const (.int .u64 8575836109218198432))), (2, (.const (.int .u64 17923454489921339634))), (3, (.const (.int .u64 7716867327612699207)))] rfl [(0, (Value.int IntKind.u64 17627433388654248598)), (1, (Value.int IntKind.u64 8575836109218198432)), (2, (Value.int IntKind.u64 17923454489921339634)), (3, (Value.int IntKind.u64 7716867327612699207))] rfl ([(Value.int IntKind.u64 17627433388654248598)] ++ [(Value.int IntKind.u64 8575836109218198432)] ++ [(Value.int IntKind.u64 17923454489921339634)] ++ [(Value.int IntKind.u64 7716867327612699207)]) (bN4 _ _ _ _),
    fun L u => u_build u (gd0 rfl) 2 rfl 24 #[(0, (.const (.int .u64 14678990851816772085))), (1, (.const (.int .u64 3156516839386865358))), (2, (.const (.int .u64 10297457778147434006))), (3, (.const (.int .u64 5756518291402817435)))] rfl [(0, (Value.int IntKind.u64 14678990851816772085)), (1, (Value.int IntKind.u64 3156516839386865358)), (2, (Value.int IntKind.u64 10297457778147434006)), (3, (Value.int IntKind.u64 5756518291402817435))] rfl ([(Value.int IntKind.u64 14678990851816772085)] ++ [(Value.int IntKind.u64 3156516839386865358)] ++ [(Value.int IntKind.u64 10297457778147434006)] ++ [(Value.int IntKind.u64 5756518291402817435)]) (bN4 _ _ _ _),
    fun L u => u_build u (gd0 rfl) 3 rfl 26 #[(0, (.tmp 1)), (1, (.tmp 2))] rfl [(0, .agg ([(Value.int IntKind.u64 17627433388654248598)] ++ [(Value.int IntKind.u64 8575836109218198432)] ++ [(Value.int IntKind.u64 17923454489921339634)] ++ [(Value.int IntKind.u64 7716867327612699207)]).toArray), (1, .agg ([(Value.int IntKind.u64 14678990851816772085)] ++ [(Value.int IntKind.u64 3156516839386865358)] ++ [(Value.int IntKind.u64 10297457778147434006)] ++ [(Value.int IntKind.u64 5756518291402817435)]).toArray)] rfl ([(Value.int IntKind.u64 17627433388654248598)] ++ [(Value.int IntKind.u64 8575836109218198432)] ++ [(Value.int IntKind.u64 17923454489921339634)] ++ [(Value.int IntKind.u64 7716867327612699207)] ++ [(Value.int IntKind.u64 14678990851816772085)] ++ [(Value.int IntKind.u64 3156516839386865358)] ++ [(Value.int IntKind.u64 10297457778147434006)] ++ [(Value.int IntKind.u64 5756518291402817435)] ++ [Value.bool false]) (bPc _ _ _ _ _ _ _ _),
    fun L u => u_store u (gd0 rfl) 26 (.tmp 0) (.tmp 3) rfl rfl rfl (vs := [(Value.int IntKind.u64 17627433388654248598)] ++ [(Value.int IntKind.u64 8575836109218198432)] ++ [(Value.int IntKind.u64 17923454489921339634)] ++ [(Value.int IntKind.u64 7716867327612699207)] ++ [(Value.int IntKind.u64 14678990851816772085)] ++ [(Value.int IntKind.u64 3156516839386865358)] ++ [(Value.int IntKind.u64 10297457778147434006)] ++ [(Value.int IntKind.u64 5756518291402817435)] ++ [Value.bool false]) rfl rfl i26 (lk rfl) rfl _ rfl,
    trivial⟩ [(0, .ptr 0 0)] [(0, [(Value.int IntKind.u64 17627433388654248598)] ++ [(Value.int IntKind.u64 8575836109218198432)] ++ [(Value.int IntKind.u64 17923454489921339634)] ++ [(Value.int IntKind.u64 7716867327612699207)] ++ [(Value.int IntKind.u64 14678990851816772085)] ++ [(Value.int IntKind.u64 3156516839386865358)] ++ [(Value.int IntKind.u64 10297457778147434006)] ++ [(Value.int IntKind.u64 5756518291402817435)] ++ [Value.bool false])] ⟨rfl, trivial⟩ ⟨rfl, trivial⟩ rfl (fun a w h => ?_)
  refine wp_ret ?_
  refine ret_row h 0 26 rfl (lk rfl) 0 rfl ([(Value.int IntKind.u64 17627433388654248598)] ++ [(Value.int IntKind.u64 8575836109218198432)] ++ [(Value.int IntKind.u64 17923454489921339634)] ++ [(Value.int IntKind.u64 7716867327612699207)] ++ [(Value.int IntKind.u64 14678990851816772085)] ++ [(Value.int IntKind.u64 3156516839386865358)] ++ [(Value.int IntKind.u64 10297457778147434006)] ++ [(Value.int IntKind.u64 5756518291402817435)] ++ [Value.bool false]) rfl _ Tryd.underlying26 rfl i26 ?_
  exact ⟨by rw [pc_G], h.grows⟩
end Go.Proofs.YtimaaendbfjblabDoor
namespace Go.Proofs.YtimaaendbfjblabDoor

def wm (k : Nat) (P : P3 (Fin m0)) : Nat → P3 (Fin m0)
  | 0 => ⟨0, 1, 0⟩
  | n + 1 => if k / 2 ^ (255 - n) % 2 = 1 then wa wb (wa wb (wm k P n) (wm k P n)) P else wa wb (wm k P n) (wm k P n)
theorem o_on : On wb (⟨0, 1, 0⟩ : P3 (Fin m0)) := on_lift wk0 (a := Wp.o) trivial
theorem nm_o : nm fiv (⟨0, 1, 0⟩ : P3 (Fin m0)) = Wp.o := nm_lift fld0 Wp.o
theorem wa_nm {P Q : P3 (Fin m0)} (hP : On wb P) (hQ : On wb Q) : nm fiv (wa wb P Q) = wplus (nm fiv P) (nm fiv Q) := nm_wa wk0 hP hQ
theorem wm_on {k : Nat} {P : P3 (Fin m0)} (hP : On wb P) : ∀ n, On wb (wm k P n)
  | 0 => o_on
  | n + 1 => by
    have ih := wm_on (k := k) hP n
    have hd := on_wa wk0 ih ih
    by_cases hb : k / 2 ^ (255 - n) % 2 = 1
    · rw [show wm k P (n + 1) = wa wb (wa wb (wm k P n) (wm k P n)) P from if_pos hb]
      exact on_wa wk0 hd hP
    · rw [show wm k P (n + 1) = wa wb (wm k P n) (wm k P n) from if_neg hb]
      exact hd
theorem wm_mt {k : Nat} {P : P3 (Fin m0)} (hP : On wb P) : ∀ n, n ≤ 256 → nm fiv (wm k P n) = mt wplus Wp.o (nm fiv P) (k / 2 ^ (256 - n) % 2 ^ n)
  | 0, _ => by
    rw [show k / 2 ^ (256 - 0) % 2 ^ 0 = 0 by rw [Nat.pow_zero, Nat.mod_one]]
    exact nm_o
  | n + 1, hn => by
    have ih := wm_mt (k := k) hP n (by omega)
    have hon := wm_on (k := k) hP n
    have ho := on_nm wk0 hP
    have e1 : k / 2 ^ (256 - (n + 1)) % 2 ^ (n + 1) = 2 * (k / 2 ^ (256 - n) % 2 ^ n) + k / 2 ^ (255 - n) % 2 := by
      rw [show 256 - (n + 1) = 255 - n by omega]
      have e2 : k / 2 ^ (256 - n) = k / 2 ^ (255 - n) / 2 := by
        rw [Nat.div_div_eq_div_mul, ← Nat.pow_succ]
        congr 2
        omega
      rw [e2]
      generalize k / 2 ^ (255 - n) = m
      rw [Nat.pow_succ, Nat.mul_comm (2 ^ n) 2, Nat.mod_mul]
      omega
    have hd := wa_nm hon hon
    rw [e1]
    by_cases hb : k / 2 ^ (255 - n) % 2 = 1
    · rw [show wm k P (n + 1) = wa wb (wa wb (wm k P n) (wm k P n)) P from if_pos hb, wa_nm (on_wa wk0 hon hon) hP, hd, hb, ih]
      show _ = wplus (mt wplus Wp.o (nm fiv P) (2 * (k / 2 ^ (256 - n) % 2 ^ n))) (nm fiv P)
      rw [mt_two wgr ho]
    · rw [show wm k P (n + 1) = wa wb (wm k P n) (wm k P n) from if_neg hb, hd, ih, show k / 2 ^ (255 - n) % 2 = 0 by omega, Nat.add_zero, mt_two wgr ho]
theorem wm_all {k : Nat} (hk : k < 2 ^ 256) {P : P3 (Fin m0)} (hP : On wb P) : nm fiv (wm k P 256) = mt wplus Wp.o (nm fiv P) k := by
  rw [wm_mt hP 256 (Nat.le_refl _), Nat.sub_self, Nat.pow_zero, Nat.div_one, Nat.mod_eq_of_lt hk]
end Go.Proofs.YtimaaendbfjblabDoor
namespace Go.Proofs.YtimaaendbfjblabDoor
open Go.RowKit

theorem i39 : (Tryd.prog.info? 39).map (·.size) = some 12 := by kernel_rfl
theorem z39 : (Tryd.prog.info? 39).map (·.zero) = some (some (.agg (nz ++ nz ++ nz).toArray)) := by kernel_rfl
theorem bN1 : Tryd.prog.built 24 [(0, .int .u64 1)] = some (fc 1).toArray := by kernel_rfl
theorem bN1x {one : Fin m0} (h : one = 1) : Tryd.prog.built 24 [(0, .int .u64 1)] = some (fc one).toArray := by rw [h]; exact bN1
theorem l_none : jc (Wp.lift (none : Wp m0)) = fc 0 ++ fc 1 ++ fc 0 := rfl
theorem l_some (x y : Fin m0) : jc (Wp.lift (some (x, y))) = fc x ++ fc y ++ fc 1 := rfl
theorem bQ1 (y : Fin m0) : Tryd.prog.built 39 [(1, .agg (fc y).toArray)] = some (nz ++ fc y ++ nz).toArray := by kernel_rfl
theorem bQ3 (x y z : Fin m0) : Tryd.prog.built 39 [(0, .agg (fc x).toArray), (1, .agg (fc y).toArray), (2, .agg (fc z).toArray)] = some (fc x ++ fc y ++ fc z).toArray := by kernel_rfl
theorem Tab.wb {w : World} (h : Tab w) : w.rangeAt 0 0 (fc wb) := by
  rw [fc_wb]
  intro j v hj
  match j, hj with
  | 0, hj => cases hj; exact h.cb0
  | 1, hj => cases hj; exact h.cb1
  | 2, hj => cases hj; exact h.cb2
  | 3, hj => cases hj; exact h.cb3
  | j + 4, hj => cases hj
theorem cE33 (vs : List Value) : ∀ w, (callFunc 33 vs.toArray).run Tryd.prog w = .ok (.enter 33 vs.toArray) w := callFunc_enter Tryd.func33 (by kernel_rfl) (by kernel_rfl) _
theorem cE32 (vs : List Value) : ∀ w, (callFunc 32 vs.toArray).run Tryd.prog w = .ok (.enter 32 vs.toArray) w := callFunc_enter Tryd.func32 (by kernel_rfl) (by kernel_rfl) _
theorem cE22 (vs : List Value) : ∀ w, (callFunc 22 vs.toArray).run Tryd.prog w = .ok (.enter 22 vs.toArray) w := callFunc_enter Tryd.func22 (by kernel_rfl) (by kernel_rfl) _
theorem cE31 (vs : List Value) : ∀ w, (callFunc 31 vs.toArray).run Tryd.prog w = .ok (.enter 31 vs.toArray) w := callFunc_enter Tryd.func31 (by kernel_rfl) (by kernel_rfl) _
theorem cE30 (vs : List Value) : ∀ w, (callFunc 30 vs.toArray).run Tryd.prog w = .ok (.enter 30 vs.toArray) w := callFunc_enter Tryd.func30 (by kernel_rfl) (by kernel_rfl) _
theorem cE23 (vs : List Value) : ∀ w, (callFunc 23 vs.toArray).run Tryd.prog w = .ok (.enter 23 vs.toArray) w := callFunc_enter Tryd.func23 (by kernel_rfl) (by kernel_rfl) _
theorem cE20 (vs : List Value) : ∀ w, (callFunc 20 vs.toArray).run Tryd.prog w = .ok (.enter 20 vs.toArray) w := callFunc_enter Tryd.func20 (by kernel_rfl) (by kernel_rfl) _
theorem cE14 (vs : List Value) : ∀ w, (callFunc 14 vs.toArray).run Tryd.prog w = .ok (.enter 14 vs.toArray) w := callFunc_enter Tryd.func14 (by kernel_rfl) (by kernel_rfl) _
theorem cE12 (vs : List Value) : ∀ w, (callFunc 12 vs.toArray).run Tryd.prog w = .ok (.enter 12 vs.toArray) w := callFunc_enter Tryd.func12 (by kernel_rfl) (by kernel_rfl) _
theorem cE19 (vs : List Value) : ∀ w, (callFunc 19 vs.toArray).run Tryd.prog w = .ok (.enter 19 vs.toArray) w := callFunc_enter Tryd.func19 (by kernel_rfl) (by kernel_rfl) _
theorem cE13 (vs : List Value) : ∀ w, (callFunc 13 vs.toArray).run Tryd.prog w = .ok (.enter 13 vs.toArray) w := callFunc_enter Tryd.func13 (by kernel_rfl) (by kernel_rfl) _
theorem cE6 (vs : List Value) : ∀ w, (callFunc 6 vs.toArray).run Tryd.prog w = .ok (.enter 6 vs.toArray) w := callFunc_enter Tryd.func6 (by kernel_rfl) (by kernel_rfl) _
theorem cE10 (vs : List Value) : ∀ w, (callFunc 10 vs.toArray).run Tryd.prog w = .ok (.enter 10 vs.toArray) w := callFunc_enter Tryd.func10 (by kernel_rfl) (by kernel_rfl) _
theorem cE9 (vs : List Value) : ∀ w, (callFunc 9 vs.toArray).run Tryd.prog w = .ok (.enter 9 vs.toArray) w := callFunc_enter Tryd.func9 (by kernel_rfl) (by kernel_rfl) _
theorem cE5 (vs : List Value) : ∀ w, (callFunc 5 vs.toArray).run Tryd.prog w = .ok (.enter 5 vs.toArray) w := callFunc_enter Tryd.func5 (by kernel_rfl) (by kernel_rfl) _
theorem cE21 (vs : List Value) : ∀ w, (callFunc 21 vs.toArray).run Tryd.prog w = .ok (.enter 21 vs.toArray) w := callFunc_enter Tryd.func21 (by kernel_rfl) (by kernel_rfl) _
theorem cE34 (vs : List Value) : ∀ w, (callFunc 34 vs.toArray).run Tryd.prog w = .ok (.enter 34 vs.toArray) w := callFunc_enter Tryd.func34 (by kernel_rfl) (by kernel_rfl) _
theorem cE26 (vs : List Value) : ∀ w, (callFunc 26 vs.toArray).run Tryd.prog w = .ok (.enter 26 vs.toArray) w := callFunc_enter Tryd.func26 (by kernel_rfl) (by kernel_rfl) _
theorem cE35 (vs : List Value) : ∀ w, (callFunc 35 vs.toArray).run Tryd.prog w = .ok (.enter 35 vs.toArray) w := callFunc_enter Tryd.func35 (by kernel_rfl) (by kernel_rfl) _
set_option maxRecDepth 100000 in
set_option maxHeartbeats 4000000 in
theorem q_add {w : World} (hT : Tab w) (x y : Fin m0) : Calls Tryd.prog 33 [.agg (fc (x)).toArray, .agg (fc (y)).toArray].toArray w fun e w' => e = .returned (.agg (fc (x + y)).toArray) ∧ Below w.heap.size w w' := by
  refine enter (args := [.agg (fc (x)).toArray, .agg (fc (y)).toArray]) Tryd.func33 rfl 8 rfl (lk rfl) (fun a h => ?_)
  refine go_region h hm [eN 2 (fc (x)), eN 3 (fc (y)), eN 4 (nz)] (by kernel_rfl) ⟨
    fun L u => u_box u (gd0 rfl) 24 (.tmp 0) rfl 2 rfl rfl rfl _ rfl,
    fun L u => u_box u (gd0 rfl) 24 (.tmp 1) rfl 3 rfl rfl rfl _ rfl,
    fun L u => u_alloc u (gd0 rfl) 24 rfl 4 rfl rfl z24 _ rfl,
    trivial⟩ [(2, .ptr 2 0), (3, .ptr 3 0), (4, .ptr 4 0)] [(2, fc (x)), (3, fc (y)), (4, nz)] ⟨rfl, rfl, rfl, trivial⟩ ⟨rfl, rfl, rfl, trivial⟩ rfl (fun a w h => ?_)
  refine go_region h hm [eS 5 (.val (.agg (fc (x)).toArray)), eS 6 (.val (.agg (fc (y)).toArray)), eS 7 (.val (.agg (fc ((x) + (y))).toArray)), eM 4 (fc ((x) + (y)))] (by kernel_rfl) ⟨
    fun L u => u_load u (gd0 rfl) 5 rfl 24 (.tmp 2) rfl rfl rfl Tryd.underlying24 rfl i24 (lk rfl) _ rfl,
    fun L u => u_load u (gd0 rfl) 6 rfl 24 (.tmp 3) rfl rfl rfl Tryd.underlying24 rfl i24 (lk rfl) _ rfl,
    fun L u => u_call u (gd0 rfl) 7 rfl 41 #[(.const (.int .i64 0)), (.tmp 5), (.tmp 6)] #[3, 24, 24] rfl [(Value.int IntKind.i64 0), .agg (fc (x)).toArray, .agg (fc (y)).toArray] rfl (cE41 _) (.agg (fc ((x) + (y))).toArray) (fun w hb => c_add (hT.keep (Bs.kp_of hb)) _ _),
    fun L u => u_store u (gd0 rfl) 24 (.tmp 4) (.tmp 7) rfl rfl rfl (vs := fc ((x) + (y))) rfl rfl i24 (lk rfl) rfl _ rfl,
    trivial⟩ [(4, .ptr 4 0)] [(4, fc ((x) + (y)))] ⟨rfl, trivial⟩ ⟨rfl, trivial⟩ rfl (fun a w h => ?_)
  refine wp_ret ?_
  refine ret_row h 4 24 rfl (lk rfl) 4 rfl (fc ((x) + (y))) rfl _ Tryd.underlying24 rfl i24 ?_
  exact ⟨rfl, h.grows⟩
set_option maxRecDepth 100000 in
set_option maxHeartbeats 4000000 in
theorem q_sub {w : World} (hT : Tab w) (x y : Fin m0) : Calls Tryd.prog 32 [.agg (fc (x)).toArray, .agg (fc (y)).toArray].toArray w fun e w' => e = .returned (.agg (fc (x - y)).toArray) ∧ Below w.heap.size w w' := by
  refine enter (args := [.agg (fc (x)).toArray, .agg (fc (y)).toArray]) Tryd.func32 rfl 8 rfl (lk rfl) (fun a h => ?_)
  refine go_region h hm [eN 2 (fc (x)), eN 3 (fc (y)), eN 4 (nz)] (by kernel_rfl) ⟨
    fun L u => u_box u (gd0 rfl) 24 (.tmp 0) rfl 2 rfl rfl rfl _ rfl,
    fun L u => u_box u (gd0 rfl) 24 (.tmp 1) rfl 3 rfl rfl rfl _ rfl,
    fun L u => u_alloc u (gd0 rfl) 24 rfl 4 rfl rfl z24 _ rfl,
    trivial⟩ [(2, .ptr 2 0), (3, .ptr 3 0), (4, .ptr 4 0)] [(2, fc (x)), (3, fc (y)), (4, nz)] ⟨rfl, rfl, rfl, trivial⟩ ⟨rfl, rfl, rfl, trivial⟩ rfl (fun a w h => ?_)
  refine go_region h hm [eS 5 (.val (.agg (fc (x)).toArray)), eS 6 (.val (.agg (fc (y)).toArray)), eS 7 (.val (.agg (fc ((x) - (y))).toArray)), eM 4 (fc ((x) - (y)))] (by kernel_rfl) ⟨
    fun L u => u_load u (gd0 rfl) 5 rfl 24 (.tmp 2) rfl rfl rfl Tryd.underlying24 rfl i24 (lk rfl) _ rfl,
    fun L u => u_load u (gd0 rfl) 6 rfl 24 (.tmp 3) rfl rfl rfl Tryd.underlying24 rfl i24 (lk rfl) _ rfl,
    fun L u => u_call u (gd0 rfl) 7 rfl 40 #[(.const (.int .i64 0)), (.tmp 5), (.tmp 6)] #[3, 24, 24] rfl [(Value.int IntKind.i64 0), .agg (fc (x)).toArray, .agg (fc (y)).toArray] rfl (cE40 _) (.agg (fc ((x) - (y))).toArray) (fun w hb => c_sub (hT.keep (Bs.kp_of hb)) _ _),
    fun L u => u_store u (gd0 rfl) 24 (.tmp 4) (.tmp 7) rfl rfl rfl (vs := fc ((x) - (y))) rfl rfl i24 (lk rfl) rfl _ rfl,
    trivial⟩ [(4, .ptr 4 0)] [(4, fc ((x) - (y)))] ⟨rfl, trivial⟩ ⟨rfl, trivial⟩ rfl (fun a w h => ?_)
  refine wp_ret ?_
  refine ret_row h 4 24 rfl (lk rfl) 4 rfl (fc ((x) - (y))) rfl _ Tryd.underlying24 rfl i24 ?_
  exact ⟨rfl, h.grows⟩
set_option maxRecDepth 100000 in
set_option maxHeartbeats 4000000 in
theorem q_mul {w : World} (hT : Tab w) (x y : Fin m0) : Calls Tryd.prog 22 [.agg (fc (x)).toArray, .agg (fc (y)).toArray].toArray w fun e w' => e = .returned (.agg (fc (x * y)).toArray) ∧ Below w.heap.size w w' := by
  refine enter (args := [.agg (fc (x)).toArray, .agg (fc (y)).toArray]) Tryd.func22 rfl 8 rfl (lk rfl) (fun a h => ?_)
  refine go_region h hm [eN 2 (fc (x)), eN 3 (fc (y)), eN 4 (nz)] (by kernel_rfl) ⟨
    fun L u => u_box u (gd0 rfl) 24 (.tmp 0) rfl 2 rfl rfl rfl _ rfl,
    fun L u => u_box u (gd0 rfl) 24 (.tmp 1) rfl 3 rfl rfl rfl _ rfl,
    fun L u => u_alloc u (gd0 rfl) 24 rfl 4 rfl rfl z24 _ rfl,
    trivial⟩ [(2, .ptr 2 0), (3, .ptr 3 0), (4, .ptr 4 0)] [(2, fc (x)), (3, fc (y)), (4, nz)] ⟨rfl, rfl, rfl, trivial⟩ ⟨rfl, rfl, rfl, trivial⟩ rfl (fun a w h => ?_)
  refine go_region h hm [eS 5 (.val (.agg (fc (x)).toArray)), eS 6 (.val (.agg (fc (y)).toArray)), eS 7 (.val (.agg (fc ((x) * (y))).toArray)), eM 4 (fc ((x) * (y)))] (by kernel_rfl) ⟨
    fun L u => u_load u (gd0 rfl) 5 rfl 24 (.tmp 2) rfl rfl rfl Tryd.underlying24 rfl i24 (lk rfl) _ rfl,
    fun L u => u_load u (gd0 rfl) 6 rfl 24 (.tmp 3) rfl rfl rfl Tryd.underlying24 rfl i24 (lk rfl) _ rfl,
    fun L u => u_call u (gd0 rfl) 7 rfl 36 #[(.const (.int .i64 0)), (.tmp 5), (.tmp 6)] #[3, 24, 24] rfl [(Value.int IntKind.i64 0), .agg (fc (x)).toArray, .agg (fc (y)).toArray] rfl (cE36 _) (.agg (fc ((x) * (y))).toArray) (fun w hb => c_mul (hT.keep (Bs.kp_of hb)) _ _),
    fun L u => u_store u (gd0 rfl) 24 (.tmp 4) (.tmp 7) rfl rfl rfl (vs := fc ((x) * (y))) rfl rfl i24 (lk rfl) rfl _ rfl,
    trivial⟩ [(4, .ptr 4 0)] [(4, fc ((x) * (y)))] ⟨rfl, trivial⟩ ⟨rfl, trivial⟩ rfl (fun a w h => ?_)
  refine wp_ret ?_
  refine ret_row h 4 24 rfl (lk rfl) 4 rfl (fc ((x) * (y))) rfl _ Tryd.underlying24 rfl i24 ?_
  exact ⟨rfl, h.grows⟩
set_option maxRecDepth 100000 in
set_option maxHeartbeats 8000000 in
theorem q_triple {w : World} (hT : Tab w) (x : Fin m0) : Calls Tryd.prog 31 [.agg (fc (x)).toArray].toArray w fun e w' => e = .returned (.agg (fc (x + x + x)).toArray) ∧ Below w.heap.size w w' := by
  obtain ⟨v1, ev1⟩ : ∃ z, z = x + x := ⟨_, rfl⟩
  obtain ⟨v2, ev2⟩ : ∃ z, z = v1 + x := ⟨_, rfl⟩
  refine enter (args := [.agg (fc (x)).toArray]) Tryd.func31 rfl 8 rfl (lk rfl) (fun a h => ?_)
  refine go_region h hm [eN 1 (fc (x)), eN 2 (nz)] (by kernel_rfl) ⟨
    fun L u => u_box u (gd0 rfl) 24 (.tmp 0) rfl 1 rfl rfl rfl _ rfl,
    fun L u => u_alloc u (gd0 rfl) 24 rfl 2 rfl rfl z24 _ rfl,
    trivial⟩ [(1, .ptr 1 0), (2, .ptr 2 0)] [(1, fc (x)), (2, nz)] ⟨rfl, rfl, trivial⟩ ⟨rfl, rfl, trivial⟩ rfl (fun a w h => ?_)
  refine go_region h hm [eS 3 (.val (.agg (fc (x)).toArray)), eS 4 (.val (.agg (fc (x)).toArray)), eS 5 (.val (.agg (fc (v1)).toArray)), eS 6 (.val (.agg (fc (x)).toArray)), eS 7 (.val (.agg (fc (v2)).toArray)), eM 2 (fc (v2))] (by kernel_rfl) ⟨
    fun L u => u_load u (gd0 rfl) 3 rfl 24 (.tmp 1) rfl rfl rfl Tryd.underlying24 rfl i24 (lk rfl) _ rfl,
    fun L u => u_load u (gd0 rfl) 4 rfl 24 (.tmp 1) rfl rfl rfl Tryd.underlying24 rfl i24 (lk rfl) _ rfl,
    fun L u => u_call u (gd0 rfl) 5 rfl 33 #[(.tmp 3), (.tmp 4)] #[24, 24] rfl [.agg (fc (x)).toArray, .agg (fc (x)).toArray] rfl (cE33 _) (.agg (fc (v1)).toArray) (fun w hb => by have g := q_add (hT.keep (Bs.kp_of hb)) x x; rw [← ev1] at g; exact g),
    fun L u => u_load u (gd0 rfl) 6 rfl 24 (.tmp 1) rfl rfl rfl Tryd.underlying24 rfl i24 (lk rfl) _ rfl,
    fun L u => u_call u (gd0 rfl) 7 rfl 33 #[(.tmp 5), (.tmp 6)] #[24, 24] rfl [.agg (fc (v1)).toArray, .agg (fc (x)).toArray] rfl (cE33 _) (.agg (fc (v2)).toArray) (fun w hb => by have g := q_add (hT.keep (Bs.kp_of hb)) v1 x; rw [← ev2] at g; exact g),
    fun L u => u_store u (gd0 rfl) 24 (.tmp 2) (.tmp 7) rfl rfl rfl (vs := fc (v2)) rfl rfl i24 (lk rfl) rfl _ rfl,
    trivial⟩ [(2, .ptr 2 0)] [(2, fc (v2))] ⟨rfl, trivial⟩ ⟨rfl, trivial⟩ rfl (fun a w h => ?_)
  refine wp_ret ?_
  refine ret_row h 2 24 rfl (lk rfl) 2 rfl (fc (v2)) rfl _ Tryd.underlying24 rfl i24 ?_
  exact ⟨by rw [ev2, ev1], h.grows⟩
set_option maxRecDepth 100000 in
set_option maxHeartbeats 8000000 in
theorem q_cross {w : World} (hT : Tab w) (x1 x2 x3 x4 : Fin m0) : Calls Tryd.prog 30 [.agg (fc (x1)).toArray, .agg (fc (x2)).toArray, .agg (fc (x3)).toArray, .agg (fc (x4)).toArray].toArray w fun e w' => e = .returned (.agg (fc (x1 * x2 + x3 * x4)).toArray) ∧ Below w.heap.size w w' := by
  obtain ⟨v1, ev1⟩ : ∃ z, z = x1 * x2 := ⟨_, rfl⟩
  obtain ⟨v2, ev2⟩ : ∃ z, z = x3 * x4 := ⟨_, rfl⟩
  obtain ⟨v3, ev3⟩ : ∃ z, z = v1 + v2 := ⟨_, rfl⟩
  refine enter (args := [.agg (fc (x1)).toArray, .agg (fc (x2)).toArray, .agg (fc (x3)).toArray, .agg (fc (x4)).toArray]) Tryd.func30 rfl 16 rfl (lk rfl) (fun a h => ?_)
  refine go_region h hm [eN 4 (fc (x1)), eN 5 (fc (x2)), eN 6 (fc (x3)), eN 7 (fc (x4)), eN 8 (nz)] (by kernel_rfl) ⟨
    fun L u => u_box u (gd0 rfl) 24 (.tmp 0) rfl 4 rfl rfl rfl _ rfl,
    fun L u => u_box u (gd0 rfl) 24 (.tmp 1) rfl 5 rfl rfl rfl _ rfl,
    fun L u => u_box u (gd0 rfl) 24 (.tmp 2) rfl 6 rfl rfl rfl _ rfl,
    fun L u => u_box u (gd0 rfl) 24 (.tmp 3) rfl 7 rfl rfl rfl _ rfl,
    fun L u => u_alloc u (gd0 rfl) 24 rfl 8 rfl rfl z24 _ rfl,
    trivial⟩ [(4, .ptr 4 0), (5, .ptr 5 0), (6, .ptr 6 0), (7, .ptr 7 0), (8, .ptr 8 0)] [(4, fc (x1)), (5, fc (x2)), (6, fc (x3)), (7, fc (x4)), (8, nz)] ⟨rfl, rfl, rfl, rfl, rfl, trivial⟩ ⟨rfl, rfl, rfl, rfl, rfl, trivial⟩ rfl (fun a w h => ?_)
  refine go_region h hm [eS 9 (.val (.agg (fc (x1)).toArray)), eS 10 (.val (.agg (fc (x2)).toArray)), eS 11 (.val (.agg (fc (v1)).toArray)), eS 12 (.val (.agg (fc (x3)).toArray)), eS 13 (.val (.agg (fc (x4)).toArray)), eS 14 (.val (.agg (fc (v2)).toArray)), eS 15 (.val (.agg (fc (v3)).toArray)), eM 8 (fc (v3))] (by kernel_rfl) ⟨
    fun L u => u_load u (gd0 rfl) 9 rfl 24 (.tmp 4) rfl rfl rfl Tryd.underlying24 rfl i24 (lk rfl) _ rfl,
    fun L u => u_load u (gd0 rfl) 10 rfl 24 (.tmp 5) rfl rfl rfl Tryd.underlying24 rfl i24 (lk rfl) _ rfl,
    fun L u => u_call u (gd0 rfl) 11 rfl 22 #[(.tmp 9), (.tmp 10)] #[24, 24] rfl [.agg (fc (x1)).toArray, .agg (fc (x2)).toArray] rfl (cE22 _) (.agg (fc (v1)).toArray) (fun w hb => by have g := q_mul (hT.keep (Bs.kp_of hb)) x1 x2; rw [← ev1] at g; exact g),
    fun L u => u_load u (gd0 rfl) 12 rfl 24 (.tmp 6) rfl rfl rfl Tryd.underlying24 rfl i24 (lk rfl) _ rfl,
    fun L u => u_load u (gd0 rfl) 13 rfl 24 (.tmp 7) rfl rfl rfl Tryd.underlying24 rfl i24 (lk rfl) _ rfl,
    fun L u => u_call u (gd0 rfl) 14 rfl 22 #[(.tmp 12), (.tmp 13)] #[24, 24] rfl [.agg (fc (x3)).toArray, .agg (fc (x4)).toArray] rfl (cE22 _) (.agg (fc (v2)).toArray) (fun w hb => by have g := q_mul (hT.keep (Bs.kp_of hb)) x3 x4; rw [← ev2] at g; exact g),
    fun L u => u_call u (gd0 rfl) 15 rfl 33 #[(.tmp 11), (.tmp 14)] #[24, 24] rfl [.agg (fc (v1)).toArray, .agg (fc (v2)).toArray] rfl (cE33 _) (.agg (fc (v3)).toArray) (fun w hb => by have g := q_add (hT.keep (Bs.kp_of hb)) v1 v2; rw [← ev3] at g; exact g),
    fun L u => u_store u (gd0 rfl) 24 (.tmp 8) (.tmp 15) rfl rfl rfl (vs := fc (v3)) rfl rfl i24 (lk rfl) rfl _ rfl,
    trivial⟩ [(8, .ptr 8 0)] [(8, fc (v3))] ⟨rfl, trivial⟩ ⟨rfl, trivial⟩ rfl (fun a w h => ?_)
  refine wp_ret ?_
  refine ret_row h 8 24 rfl (lk rfl) 8 rfl (fc (v3)) rfl _ Tryd.underlying24 rfl i24 ?_
  exact ⟨by rw [ev3, ev2, ev1], h.grows⟩
set_option maxRecDepth 100000 in
set_option maxHeartbeats 8000000 in
theorem q_right {w : World} (hT : Tab w) (x : Fin m0) : Calls Tryd.prog 23 [.agg (fc (x)).toArray].toArray w fun e w' => e = .returned (.agg (fc (x * x * x - (x + x + x) + wb)).toArray) ∧ Below w.heap.size w w' := by
  obtain ⟨v1, ev1⟩ : ∃ z, z = x * x := ⟨_, rfl⟩
  obtain ⟨v2, ev2⟩ : ∃ z, z = v1 * x := ⟨_, rfl⟩
  obtain ⟨v3, ev3⟩ : ∃ z, z = x + x + x := ⟨_, rfl⟩
  obtain ⟨v4, ev4⟩ : ∃ z, z = v2 - v3 := ⟨_, rfl⟩
  obtain ⟨v5, ev5⟩ : ∃ z, z = v4 + wb := ⟨_, rfl⟩
  refine enter (args := [.agg (fc (x)).toArray]) Tryd.func23 rfl 13 rfl (lk rfl) (fun a h => ?_)
  refine go_region h hm [eN 1 (fc (x)), eN 2 (nz)] (by kernel_rfl) ⟨
    fun L u => u_box u (gd0 rfl) 24 (.tmp 0) rfl 1 rfl rfl rfl _ rfl,
    fun L u => u_alloc u (gd0 rfl) 24 rfl 2 rfl rfl z24 _ rfl,
    trivial⟩ [(1, .ptr 1 0), (2, .ptr 2 0)] [(1, fc (x)), (2, nz)] ⟨rfl, rfl, trivial⟩ ⟨rfl, rfl, trivial⟩ rfl (fun a w h => ?_)
  refine go_region h hm [eS 3 (.val (.agg (fc (x)).toArray)), eS 4 (.val (.agg (fc (x)).toArray)), eS 5 (.val (.agg (fc (v1)).toArray)), eS 6 (.val (.agg (fc (x)).toArray)), eS 7 (.val (.agg (fc (v2)).toArray)), eS 8 (.val (.agg (fc (x)).toArray)), eS 9 (.val (.agg (fc (v3)).toArray)), eS 10 (.val (.agg (fc (v4)).toArray)), eS 11 (.val (.agg (fc (wb)).toArray)), eS 12 (.val (.agg (fc (v5)).toArray)), eM 2 (fc (v5))] (by kernel_rfl) ⟨
    fun L u => u_load u (gd0 rfl) 3 rfl 24 (.tmp 1) rfl rfl rfl Tryd.underlying24 rfl i24 (lk rfl) _ rfl,
    fun L u => u_load u (gd0 rfl) 4 rfl 24 (.tmp 1) rfl rfl rfl Tryd.underlying24 rfl i24 (lk rfl) _ rfl,
    fun L u => u_call u (gd0 rfl) 5 rfl 22 #[(.tmp 3), (.tmp 4)] #[24, 24] rfl [.agg (fc (x)).toArray, .agg (fc (x)).toArray] rfl (cE22 _) (.agg (fc (v1)).toArray) (fun w hb => by have g := q_mul (hT.keep (Bs.kp_of hb)) x x; rw [← ev1] at g; exact g),
    fun L u => u_load u (gd0 rfl) 6 rfl 24 (.tmp 1) rfl rfl rfl Tryd.underlying24 rfl i24 (lk rfl) _ rfl,
    fun L u => u_call u (gd0 rfl) 7 rfl 22 #[(.tmp 5), (.tmp 6)] #[24, 24] rfl [.agg (fc (v1)).toArray, .agg (fc (x)).toArray] rfl (cE22 _) (.agg (fc (v2)).toArray) (fun w hb => by have g := q_mul (hT.keep (Bs.kp_of hb)) v1 x; rw [← ev2] at g; exact g),
    fun L u => u_load u (gd0 rfl) 8 rfl 24 (.tmp 1) rfl rfl rfl Tryd.underlying24 rfl i24 (lk rfl) _ rfl,
    fun L u => u_call u (gd0 rfl) 9 rfl 31 #[(.tmp 8)] #[24] rfl [.agg (fc (x)).toArray] rfl (cE31 _) (.agg (fc (v3)).toArray) (fun w hb => by have g := q_triple (hT.keep (Bs.kp_of hb)) x; rw [← ev3] at g; exact g),
    fun L u => u_call u (gd0 rfl) 10 rfl 32 #[(.tmp 7), (.tmp 9)] #[24, 24] rfl [.agg (fc (v2)).toArray, .agg (fc (v3)).toArray] rfl (cE32 _) (.agg (fc (v4)).toArray) (fun w hb => by have g := q_sub (hT.keep (Bs.kp_of hb)) v2 v3; rw [← ev4] at g; exact g),
    fun L u => u_loadXR u (gd0 rfl) 11 rfl 24 (.global 0) rfl rfl Tryd.underlying24 rfl (fc (wb)) i24 rfl (hT.wb) rfl,
    fun L u => u_call u (gd0 rfl) 12 rfl 33 #[(.tmp 10), (.tmp 11)] #[24, 24] rfl [.agg (fc (v4)).toArray, .agg (fc (wb)).toArray] rfl (cE33 _) (.agg (fc (v5)).toArray) (fun w hb => by have g := q_add (hT.keep (Bs.kp_of hb)) v4 wb; rw [← ev5] at g; exact g),
    fun L u => u_store u (gd0 rfl) 24 (.tmp 2) (.tmp 12) rfl rfl rfl (vs := fc (v5)) rfl rfl i24 (lk rfl) rfl _ rfl,
    trivial⟩ [(2, .ptr 2 0)] [(2, fc (v5))] ⟨rfl, trivial⟩ ⟨rfl, trivial⟩ rfl (fun a w h => ?_)
  refine wp_ret ?_
  refine ret_row h 2 24 rfl (lk rfl) 2 rfl (fc (v5)) rfl _ Tryd.underlying24 rfl i24 ?_
  exact ⟨by rw [ev5, ev4, ev3, ev2, ev1], h.grows⟩
set_option maxRecDepth 100000 in
set_option maxHeartbeats 4000000 in
theorem q_neutral {w : World}  : Calls Tryd.prog 20 [].toArray w fun e w' => e = .returned (.agg (nz ++ nz ++ [Value.bool true]).toArray) ∧ Below w.heap.size w w' := by
  refine enter (args := []) Tryd.func20 rfl 2 rfl (lk rfl) (fun a h => ?_)
  refine go_region h hm [eN 0 (nz ++ nz ++ [Value.bool false])] (by kernel_rfl) ⟨
    fun L u => u_alloc u (gd0 rfl) 26 rfl 0 rfl rfl z26 _ rfl,
    trivial⟩ [(0, .ptr 0 0)] [(0, nz ++ nz ++ [Value.bool false])] ⟨rfl, trivial⟩ ⟨rfl, trivial⟩ rfl (fun a w h => ?_)
  refine go_region h hm [eS 1 (.val (.agg (nz ++ nz ++ [Value.bool true]).toArray)), eM 0 (nz ++ nz ++ [Value.bool true])] (by kernel_rfl) ⟨
    fun L u => u_build u (gd0 rfl) 1 rfl 26 #[(2, (.const (.bool true)))] rfl [(2, Value.bool true)] rfl (nz ++ nz ++ [Value.bool true]) (bP1),
    fun L u => u_store u (gd0 rfl) 26 (.tmp 0) (.tmp 1) rfl rfl rfl (vs := nz ++ nz ++ [Value.bool true]) rfl rfl i26 (lk rfl) rfl _ rfl,
    trivial⟩ [(0, .ptr 0 0)] [(0, nz ++ nz ++ [Value.bool true])] ⟨rfl, trivial⟩ ⟨rfl, trivial⟩ rfl (fun a w h => ?_)
  refine wp_ret ?_
  refine ret_row h 0 26 rfl (lk rfl) 0 rfl (nz ++ nz ++ [Value.bool true]) rfl _ Tryd.underlying26 rfl i26 ?_
  exact ⟨rfl, h.grows⟩
theorem plus_poly {p : Nat} [NeZero p] (b x1 y1 z1 x2 y2 z2 : Fin p) {v1 : Fin p} (ev1 : v1 = x1 * x2) {v2 : Fin p} (ev2 : v2 = y1 * y2) {v3 : Fin p} (ev3 : v3 = z1 * z2) {v4 : Fin p} (ev4 : v4 = x1 * y2 + x2 * y1) {v5 : Fin p} (ev5 : v5 = x1 * z2 + x2 * z1) {v6 : Fin p} (ev6 : v6 = y1 * z2 + y2 * z1) {v7 : Fin p} (ev7 : v7 = b * v3) {v8 : Fin p} (ev8 : v8 = v5 - v7) {v9 : Fin p} (ev9 : v9 = v8 + v8 + v8) {v10 : Fin p} (ev10 : v10 = v2 + v9) {v11 : Fin p} (ev11 : v11 = v2 - v9) {v12 : Fin p} (ev12 : v12 = v1 - v3) {v13 : Fin p} (ev13 : v13 = v12 + v12 + v12) {v14 : Fin p} (ev14 : v14 = b * v5) {v15 : Fin p} (ev15 : v15 = v3 + v3 + v3) {v16 : Fin p} (ev16 : v16 = v14 - v15) {v17 : Fin p} (ev17 : v17 = v16 - v1) {v18 : Fin p} (ev18 : v18 = v17 + v17 + v17) {v19 : Fin p} (ev19 : v19 = v4 * v10) {v20 : Fin p} (ev20 : v20 = v6 * v18) {v21 : Fin p} (ev21 : v21 = v19 - v20) {v22 : Fin p} (ev22 : v22 = v10 * v11 + v13 * v18) {v23 : Fin p} (ev23 : v23 = v6 * v11 + v4 * v13) : (⟨v21, v22, v23⟩ : P3 (Fin p)) = wa b ⟨x1, y1, z1⟩ ⟨x2, y2, z2⟩ := by
  subst ev1 ev2 ev3 ev4 ev5 ev6 ev7 ev8 ev9 ev10 ev11 ev12 ev13 ev14 ev15 ev16 ev17 ev18 ev19 ev20 ev21 ev22 ev23
  rw [wa_eq]
  congr 1 <;> grobner
set_option maxRecDepth 100000 in
set_option maxHeartbeats 8000000 in
theorem q_plus {w : World} (hT : Tab w) (x1 y1 z1 x2 y2 z2 : Fin m0) : Calls Tryd.prog 19 [.agg (fc x1 ++ fc y1 ++ fc z1).toArray, .agg (fc x2 ++ fc y2 ++ fc z2).toArray].toArray w fun e w' => e = .returned (.agg (jc (wa wb ⟨x1, y1, z1⟩ ⟨x2, y2, z2⟩)).toArray) ∧ Below w.heap.size w w' := by
  obtain ⟨v1, ev1⟩ : ∃ z, z = x1 * x2 := ⟨_, rfl⟩
  obtain ⟨v2, ev2⟩ : ∃ z, z = y1 * y2 := ⟨_, rfl⟩
  obtain ⟨v3, ev3⟩ : ∃ z, z = z1 * z2 := ⟨_, rfl⟩
  obtain ⟨v4, ev4⟩ : ∃ z, z = x1 * y2 + x2 * y1 := ⟨_, rfl⟩
  obtain ⟨v5, ev5⟩ : ∃ z, z = x1 * z2 + x2 * z1 := ⟨_, rfl⟩
  obtain ⟨v6, ev6⟩ : ∃ z, z = y1 * z2 + y2 * z1 := ⟨_, rfl⟩
  obtain ⟨v7, ev7⟩ : ∃ z, z = wb * v3 := ⟨_, rfl⟩
  obtain ⟨v8, ev8⟩ : ∃ z, z = v5 - v7 := ⟨_, rfl⟩
  obtain ⟨v9, ev9⟩ : ∃ z, z = v8 + v8 + v8 := ⟨_, rfl⟩
  obtain ⟨v10, ev10⟩ : ∃ z, z = v2 + v9 := ⟨_, rfl⟩
  obtain ⟨v11, ev11⟩ : ∃ z, z = v2 - v9 := ⟨_, rfl⟩
  obtain ⟨v12, ev12⟩ : ∃ z, z = v1 - v3 := ⟨_, rfl⟩
  obtain ⟨v13, ev13⟩ : ∃ z, z = v12 + v12 + v12 := ⟨_, rfl⟩
  obtain ⟨v14, ev14⟩ : ∃ z, z = wb * v5 := ⟨_, rfl⟩
  obtain ⟨v15, ev15⟩ : ∃ z, z = v3 + v3 + v3 := ⟨_, rfl⟩
  obtain ⟨v16, ev16⟩ : ∃ z, z = v14 - v15 := ⟨_, rfl⟩
  obtain ⟨v17, ev17⟩ : ∃ z, z = v16 - v1 := ⟨_, rfl⟩
  obtain ⟨v18, ev18⟩ : ∃ z, z = v17 + v17 + v17 := ⟨_, rfl⟩
  obtain ⟨v19, ev19⟩ : ∃ z, z = v4 * v10 := ⟨_, rfl⟩
  obtain ⟨v20, ev20⟩ : ∃ z, z = v6 * v18 := ⟨_, rfl⟩
  obtain ⟨v21, ev21⟩ : ∃ z, z = v19 - v20 := ⟨_, rfl⟩
  obtain ⟨v22, ev22⟩ : ∃ z, z = v10 * v11 + v13 * v18 := ⟨_, rfl⟩
  obtain ⟨v23, ev23⟩ : ∃ z, z = v6 * v11 + v4 * v13 := ⟨_, rfl⟩
  have hpp := plus_poly wb x1 y1 z1 x2 y2 z2 ev1 ev2 ev3 ev4 ev5 ev6 ev7 ev8 ev9 ev10 ev11 ev12 ev13 ev14 ev15 ev16 ev17 ev18 ev19 ev20 ev21 ev22 ev23
  refine enter (args := [.agg (fc (x1) ++ fc (y1) ++ fc (z1)).toArray, .agg (fc (x2) ++ fc (y2) ++ fc (z2)).toArray]) Tryd.func19 rfl 101 rfl (lk rfl) (fun a h => ?_)
  refine go_region h hm [eN 2 (fc (x1) ++ fc (y1) ++ fc (z1)), eN 3 (fc (x2) ++ fc (y2) ++ fc (z2)), eN 4 (nz ++ nz ++ nz)] (by kernel_rfl) ⟨
    fun L u => u_box u (gd0 rfl) 39 (.tmp 0) rfl 2 rfl rfl rfl _ rfl,
    fun L u => u_box u (gd0 rfl) 39 (.tmp 1) rfl 3 rfl rfl rfl _ rfl,
    fun L u => u_alloc u (gd0 rfl) 39 rfl 4 rfl rfl z39 _ rfl,
    trivial⟩ [(2, .ptr 2 0), (3, .ptr 3 0), (4, .ptr 4 0)] [(2, fc (x1) ++ fc (y1) ++ fc (z1)), (3, fc (x2) ++ fc (y2) ++ fc (z2)), (4, nz ++ nz ++ nz)] ⟨rfl, rfl, rfl, trivial⟩ ⟨rfl, rfl, rfl, trivial⟩ rfl (fun a w h => ?_)
  refine go_region h hm [eS 16 (.ptr 2 0), eS 17 (.val (.agg (fc (x1)).toArray)), eS 18 (.ptr 3 0), eS 19 (.val (.agg (fc (x2)).toArray)), eS 20 (.val (.agg (fc (v1)).toArray)), eS 21 (.ptr 2 4), eS 22 (.val (.agg (fc (y1)).toArray)), eS 23 (.ptr 3 4), eS 24 (.val (.agg (fc (y2)).toArray)), eS 25 (.val (.agg (fc (v2)).toArray)), eS 26 (.ptr 2 8), eS 27 (.val (.agg (fc (z1)).toArray)), eS 28 (.ptr 3 8), eS 29 (.val (.agg (fc (z2)).toArray)), eS 30 (.val (.agg (fc (v3)).toArray)), eN 5 (nz), eN 6 (nz), eN 7 (nz), eM 5 (fc (v1)), eM 6 (fc (v2)), eM 7 (fc (v3))] (by kernel_rfl) ⟨
    fun L u => u_field u (gd0 rfl) 16 rfl 39 (.tmp 2) 0 rfl rfl rfl Tryd.underlying39 rfl i24 _ rfl,
    fun L u => u_load u (gd0 rfl) 17 rfl 24 (.tmp 16) rfl rfl rfl Tryd.underlying24 rfl i24 (lk rfl) _ rfl,
    fun L u => u_field u (gd0 rfl) 18 rfl 39 (.tmp 3) 0 rfl rfl rfl Tryd.underlying39 rfl i24 _ rfl,
    fun L u => u_load u (gd0 rfl) 19 rfl 24 (.tmp 18) rfl rfl rfl Tryd.underlying24 rfl i24 (lk rfl) _ rfl,
    fun L u => u_call u (gd0 rfl) 20 rfl 22 #[(.tmp 17), (.tmp 19)] #[24, 24] rfl [.agg (fc (x1)).toArray, .agg (fc (x2)).toArray] rfl (cE22 _) (.agg (fc (v1)).toArray) (fun w hb => by have g := q_mul (hT.keep (Bs.kp_of hb)) x1 x2; rw [← ev1] at g; exact g),
    fun L u => u_field u (gd0 rfl) 21 rfl 39 (.tmp 2) 1 rfl rfl rfl Tryd.underlying39 rfl i24 _ rfl,
    fun L u => u_load u (gd0 rfl) 22 rfl 24 (.tmp 21) rfl rfl rfl Tryd.underlying24 rfl i24 (lk rfl) _ rfl,
    fun L u => u_field u (gd0 rfl) 23 rfl 39 (.tmp 3) 1 rfl rfl rfl Tryd.underlying39 rfl i24 _ rfl,
    fun L u => u_load u (gd0 rfl) 24 rfl 24 (.tmp 23) rfl rfl rfl Tryd.underlying24 rfl i24 (lk rfl) _ rfl,
    fun L u => u_call u (gd0 rfl) 25 rfl 22 #[(.tmp 22), (.tmp 24)] #[24, 24] rfl [.agg (fc (y1)).toArray, .agg (fc (y2)).toArray] rfl (cE22 _) (.agg (fc (v2)).toArray) (fun w hb => by have g := q_mul (hT.keep (Bs.kp_of hb)) y1 y2; rw [← ev2] at g; exact g),
    fun L u => u_field u (gd0 rfl) 26 rfl 39 (.tmp 2) 2 rfl rfl rfl Tryd.underlying39 rfl i24 _ rfl,
    fun L u => u_load u (gd0 rfl) 27 rfl 24 (.tmp 26) rfl rfl rfl Tryd.underlying24 rfl i24 (lk rfl) _ rfl,
    fun L u => u_field u (gd0 rfl) 28 rfl 39 (.tmp 3) 2 rfl rfl rfl Tryd.underlying39 rfl i24 _ rfl,
    fun L u => u_load u (gd0 rfl) 29 rfl 24 (.tmp 28) rfl rfl rfl Tryd.underlying24 rfl i24 (lk rfl) _ rfl,
    fun L u => u_call u (gd0 rfl) 30 rfl 22 #[(.tmp 27), (.tmp 29)] #[24, 24] rfl [.agg (fc (z1)).toArray, .agg (fc (z2)).toArray] rfl (cE22 _) (.agg (fc (v3)).toArray) (fun w hb => by have g := q_mul (hT.keep (Bs.kp_of hb)) z1 z2; rw [← ev3] at g; exact g),
    fun L u => u_alloc u (gd0 rfl) 24 rfl 5 rfl rfl z24 _ rfl,
    fun L u => u_alloc u (gd0 rfl) 24 rfl 6 rfl rfl z24 _ rfl,
    fun L u => u_alloc u (gd0 rfl) 24 rfl 7 rfl rfl z24 _ rfl,
    fun L u => u_store u (gd0 rfl) 24 (.tmp 5) (.tmp 20) rfl rfl rfl (vs := fc (v1)) rfl rfl i24 (lk rfl) rfl _ rfl,
    fun L u => u_store u (gd0 rfl) 24 (.tmp 6) (.tmp 25) rfl rfl rfl (vs := fc (v2)) rfl rfl i24 (lk rfl) rfl _ rfl,
    fun L u => u_store u (gd0 rfl) 24 (.tmp 7) (.tmp 30) rfl rfl rfl (vs := fc (v3)) rfl rfl i24 (lk rfl) rfl _ rfl,
    trivial⟩ [(2, .ptr 2 0), (3, .ptr 3 0), (4, .ptr 4 0), (5, .ptr 5 0), (6, .ptr 6 0), (7, .ptr 7 0)] [(2, fc (x1) ++ fc (y1) ++ fc (z1)), (3, fc (x2) ++ fc (y2) ++ fc (z2)), (4, nz ++ nz ++ nz), (5, fc (v1)), (6, fc (v2)), (7, fc (v3))] ⟨rfl, rfl, rfl, rfl, rfl, rfl, trivial⟩ ⟨rfl, rfl, rfl, rfl, rfl, rfl, trivial⟩ rfl (fun a w h => ?_)
  refine go_region h hm [eS 31 (.ptr 2 0), eS 32 (.val (.agg (fc (x1)).toArray)), eS 33 (.ptr 3 4), eS 34 (.val (.agg (fc (y2)).toArray)), eS 35 (.ptr 3 0), eS 36 (.val (.agg (fc (x2)).toArray)), eS 37 (.ptr 2 4), eS 38 (.val (.agg (fc (y1)).toArray)), eS 39 (.val (.agg (fc (v4)).toArray)), eN 8 (nz), eM 8 (fc (v4))] (by kernel_rfl) ⟨
    fun L u => u_field u (gd0 rfl) 31 rfl 39 (.tmp 2) 0 rfl rfl rfl Tryd.underlying39 rfl i24 _ rfl,
    fun L u => u_load u (gd0 rfl) 32 rfl 24 (.tmp 31) rfl rfl rfl Tryd.underlying24 rfl i24 (lk rfl) _ rfl,
    fun L u => u_field u (gd0 rfl) 33 rfl 39 (.tmp 3) 1 rfl rfl rfl Tryd.underlying39 rfl i24 _ rfl,
    fun L u => u_load u (gd0 rfl) 34 rfl 24 (.tmp 33) rfl rfl rfl Tryd.underlying24 rfl i24 (lk rfl) _ rfl,
    fun L u => u_field u (gd0 rfl) 35 rfl 39 (.tmp 3) 0 rfl rfl rfl Tryd.underlying39 rfl i24 _ rfl,
    fun L u => u_load u (gd0 rfl) 36 rfl 24 (.tmp 35) rfl rfl rfl Tryd.underlying24 rfl i24 (lk rfl) _ rfl,
    fun L u => u_field u (gd0 rfl) 37 rfl 39 (.tmp 2) 1 rfl rfl rfl Tryd.underlying39 rfl i24 _ rfl,
    fun L u => u_load u (gd0 rfl) 38 rfl 24 (.tmp 37) rfl rfl rfl Tryd.underlying24 rfl i24 (lk rfl) _ rfl,
    fun L u => u_call u (gd0 rfl) 39 rfl 30 #[(.tmp 32), (.tmp 34), (.tmp 36), (.tmp 38)] #[24, 24, 24, 24] rfl [.agg (fc (x1)).toArray, .agg (fc (y2)).toArray, .agg (fc (x2)).toArray, .agg (fc (y1)).toArray] rfl (cE30 _) (.agg (fc (v4)).toArray) (fun w hb => by have g := q_cross (hT.keep (Bs.kp_of hb)) x1 y2 x2 y1; rw [← ev4] at g; exact g),
    fun L u => u_alloc u (gd0 rfl) 24 rfl 8 rfl rfl z24 _ rfl,
    fun L u => u_store u (gd0 rfl) 24 (.tmp 8) (.tmp 39) rfl rfl rfl (vs := fc (v4)) rfl rfl i24 (lk rfl) rfl _ rfl,
    trivial⟩ [(2, .ptr 2 0), (3, .ptr 3 0), (4, .ptr 4 0), (5, .ptr 5 0), (6, .ptr 6 0), (7, .ptr 7 0), (8, .ptr 8 0)] [(2, fc (x1) ++ fc (y1) ++ fc (z1)), (3, fc (x2) ++ fc (y2) ++ fc (z2)), (4, nz ++ nz ++ nz), (5, fc (v1)), (6, fc (v2)), (7, fc (v3)), (8, fc (v4))] ⟨rfl, rfl, rfl, rfl, rfl, rfl, rfl, trivial⟩ ⟨rfl, rfl, rfl, rfl, rfl, rfl, rfl, trivial⟩ rfl (fun a w h => ?_)
  refine go_region h hm [eS 40 (.ptr 2 0), eS 41 (.val (.agg (fc (x1)).toArray)), eS 42 (.ptr 3 8), eS 43 (.val (.agg (fc (z2)).toArray)), eS 44 (.ptr 3 0), eS 45 (.val (.agg (fc (x2)).toArray)), eS 46 (.ptr 2 8), eS 47 (.val (.agg (fc (z1)).toArray)), eS 48 (.val (.agg (fc (v5)).toArray)), eN 9 (nz), eM 9 (fc (v5))] (by kernel_rfl) ⟨
    fun L u => u_field u (gd0 rfl) 40 rfl 39 (.tmp 2) 0 rfl rfl rfl Tryd.underlying39 rfl i24 _ rfl,
    fun L u => u_load u (gd0 rfl) 41 rfl 24 (.tmp 40) rfl rfl rfl Tryd.underlying24 rfl i24 (lk rfl) _ rfl,
    fun L u => u_field u (gd0 rfl) 42 rfl 39 (.tmp 3) 2 rfl rfl rfl Tryd.underlying39 rfl i24 _ rfl,
    fun L u => u_load u (gd0 rfl) 43 rfl 24 (.tmp 42) rfl rfl rfl Tryd.underlying24 rfl i24 (lk rfl) _ rfl,
    fun L u => u_field u (gd0 rfl) 44 rfl 39 (.tmp 3) 0 rfl rfl rfl Tryd.underlying39 rfl i24 _ rfl,
    fun L u => u_load u (gd0 rfl) 45 rfl 24 (.tmp 44) rfl rfl rfl Tryd.underlying24 rfl i24 (lk rfl) _ rfl,
    fun L u => u_field u (gd0 rfl) 46 rfl 39 (.tmp 2) 2 rfl rfl rfl Tryd.underlying39 rfl i24 _ rfl,
    fun L u => u_load u (gd0 rfl) 47 rfl 24 (.tmp 46) rfl rfl rfl Tryd.underlying24 rfl i24 (lk rfl) _ rfl,
    fun L u => u_call u (gd0 rfl) 48 rfl 30 #[(.tmp 41), (.tmp 43), (.tmp 45), (.tmp 47)] #[24, 24, 24, 24] rfl [.agg (fc (x1)).toArray, .agg (fc (z2)).toArray, .agg (fc (x2)).toArray, .agg (fc (z1)).toArray] rfl (cE30 _) (.agg (fc (v5)).toArray) (fun w hb => by have g := q_cross (hT.keep (Bs.kp_of hb)) x1 z2 x2 z1; rw [← ev5] at g; exact g),
    fun L u => u_alloc u (gd0 rfl) 24 rfl 9 rfl rfl z24 _ rfl,
    fun L u => u_store u (gd0 rfl) 24 (.tmp 9) (.tmp 48) rfl rfl rfl (vs := fc (v5)) rfl rfl i24 (lk rfl) rfl _ rfl,
    trivial⟩ [(2, .ptr 2 0), (3, .ptr 3 0), (4, .ptr 4 0), (5, .ptr 5 0), (6, .ptr 6 0), (7, .ptr 7 0), (8, .ptr 8 0), (9, .ptr 9 0)] [(2, fc (x1) ++ fc (y1) ++ fc (z1)), (3, fc (x2) ++ fc (y2) ++ fc (z2)), (4, nz ++ nz ++ nz), (5, fc (v1)), (6, fc (v2)), (7, fc (v3)), (8, fc (v4)), (9, fc (v5))] ⟨rfl, rfl, rfl, rfl, rfl, rfl, rfl, rfl, trivial⟩ ⟨rfl, rfl, rfl, rfl, rfl, rfl, rfl, rfl, trivial⟩ rfl (fun a w h => ?_)
  refine go_region h hm [eS 49 (.ptr 2 4), eS 50 (.val (.agg (fc (y1)).toArray)), eS 51 (.ptr 3 8), eS 52 (.val (.agg (fc (z2)).toArray)), eS 53 (.ptr 3 4), eS 54 (.val (.agg (fc (y2)).toArray)), eS 55 (.ptr 2 8), eS 56 (.val (.agg (fc (z1)).toArray)), eS 57 (.val (.agg (fc (v6)).toArray)), eN 10 (nz), eM 10 (fc (v6))] (by kernel_rfl) ⟨
    fun L u => u_field u (gd0 rfl) 49 rfl 39 (.tmp 2) 1 rfl rfl rfl Tryd.underlying39 rfl i24 _ rfl,
    fun L u => u_load u (gd0 rfl) 50 rfl 24 (.tmp 49) rfl rfl rfl Tryd.underlying24 rfl i24 (lk rfl) _ rfl,
    fun L u => u_field u (gd0 rfl) 51 rfl 39 (.tmp 3) 2 rfl rfl rfl Tryd.underlying39 rfl i24 _ rfl,
    fun L u => u_load u (gd0 rfl) 52 rfl 24 (.tmp 51) rfl rfl rfl Tryd.underlying24 rfl i24 (lk rfl) _ rfl,
    fun L u => u_field u (gd0 rfl) 53 rfl 39 (.tmp 3) 1 rfl rfl rfl Tryd.underlying39 rfl i24 _ rfl,
    fun L u => u_load u (gd0 rfl) 54 rfl 24 (.tmp 53) rfl rfl rfl Tryd.underlying24 rfl i24 (lk rfl) _ rfl,
    fun L u => u_field u (gd0 rfl) 55 rfl 39 (.tmp 2) 2 rfl rfl rfl Tryd.underlying39 rfl i24 _ rfl,
    fun L u => u_load u (gd0 rfl) 56 rfl 24 (.tmp 55) rfl rfl rfl Tryd.underlying24 rfl i24 (lk rfl) _ rfl,
    fun L u => u_call u (gd0 rfl) 57 rfl 30 #[(.tmp 50), (.tmp 52), (.tmp 54), (.tmp 56)] #[24, 24, 24, 24] rfl [.agg (fc (y1)).toArray, .agg (fc (z2)).toArray, .agg (fc (y2)).toArray, .agg (fc (z1)).toArray] rfl (cE30 _) (.agg (fc (v6)).toArray) (fun w hb => by have g := q_cross (hT.keep (Bs.kp_of hb)) y1 z2 y2 z1; rw [← ev6] at g; exact g),
    fun L u => u_alloc u (gd0 rfl) 24 rfl 10 rfl rfl z24 _ rfl,
    fun L u => u_store u (gd0 rfl) 24 (.tmp 10) (.tmp 57) rfl rfl rfl (vs := fc (v6)) rfl rfl i24 (lk rfl) rfl _ rfl,
    trivial⟩ [(4, .ptr 4 0), (5, .ptr 5 0), (6, .ptr 6 0), (7, .ptr 7 0), (8, .ptr 8 0), (9, .ptr 9 0), (10, .ptr 10 0)] [(4, nz ++ nz ++ nz), (5, fc (v1)), (6, fc (v2)), (7, fc (v3)), (8, fc (v4)), (9, fc (v5)), (10, fc (v6))] ⟨rfl, rfl, rfl, rfl, rfl, rfl, rfl, trivial⟩ ⟨rfl, rfl, rfl, rfl, rfl, rfl, rfl, trivial⟩ rfl (fun a w h => ?_)
  refine go_region h hm [eS 58 (.val (.agg (fc (v5)).toArray)), eS 59 (.val (.agg (fc (wb)).toArray)), eS 60 (.val (.agg (fc (v3)).toArray)), eS 61 (.val (.agg (fc (v7)).toArray)), eS 62 (.val (.agg (fc (v8)).toArray)), eS 63 (.val (.agg (fc (v9)).toArray)), eN 11 (nz), eM 11 (fc (v9))] (by kernel_rfl) ⟨
    fun L u => u_load u (gd0 rfl) 58 rfl 24 (.tmp 9) rfl rfl rfl Tryd.underlying24 rfl i24 (lk rfl) _ rfl,
    fun L u => u_loadXR u (gd0 rfl) 59 rfl 24 (.global 0) rfl rfl Tryd.underlying24 rfl (fc (wb)) i24 rfl (hT.wb) rfl,
    fun L u => u_load u (gd0 rfl) 60 rfl 24 (.tmp 7) rfl rfl rfl Tryd.underlying24 rfl i24 (lk rfl) _ rfl,
    fun L u => u_call u (gd0 rfl) 61 rfl 22 #[(.tmp 59), (.tmp 60)] #[24, 24] rfl [.agg (fc (wb)).toArray, .agg (fc (v3)).toArray] rfl (cE22 _) (.agg (fc (v7)).toArray) (fun w hb => by have g := q_mul (hT.keep (Bs.kp_of hb)) wb v3; rw [← ev7] at g; exact g),
    fun L u => u_call u (gd0 rfl) 62 rfl 32 #[(.tmp 58), (.tmp 61)] #[24, 24] rfl [.agg (fc (v5)).toArray, .agg (fc (v7)).toArray] rfl (cE32 _) (.agg (fc (v8)).toArray) (fun w hb => by have g := q_sub (hT.keep (Bs.kp_of hb)) v5 v7; rw [← ev8] at g; exact g),
    fun L u => u_call u (gd0 rfl) 63 rfl 31 #[(.tmp 62)] #[24] rfl [.agg (fc (v8)).toArray] rfl (cE31 _) (.agg (fc (v9)).toArray) (fun w hb => by have g := q_triple (hT.keep (Bs.kp_of hb)) v8; rw [← ev9] at g; exact g),
    fun L u => u_alloc u (gd0 rfl) 24 rfl 11 rfl rfl z24 _ rfl,
    fun L u => u_store u (gd0 rfl) 24 (.tmp 11) (.tmp 63) rfl rfl rfl (vs := fc (v9)) rfl rfl i24 (lk rfl) rfl _ rfl,
    trivial⟩ [(4, .ptr 4 0), (5, .ptr 5 0), (6, .ptr 6 0), (7, .ptr 7 0), (8, .ptr 8 0), (9, .ptr 9 0), (10, .ptr 10 0), (11, .ptr 11 0)] [(4, nz ++ nz ++ nz), (5, fc (v1)), (6, fc (v2)), (7, fc (v3)), (8, fc (v4)), (9, fc (v5)), (10, fc (v6)), (11, fc (v9))] ⟨rfl, rfl, rfl, rfl, rfl, rfl, rfl, rfl, trivial⟩ ⟨rfl, rfl, rfl, rfl, rfl, rfl, rfl, rfl, trivial⟩ rfl (fun a w h => ?_)
  refine go_region h hm [eS 64 (.val (.agg (fc (v2)).toArray)), eS 65 (.val (.agg (fc (v9)).toArray)), eS 66 (.val (.agg (fc (v10)).toArray)), eS 67 (.val (.agg (fc (v2)).toArray)), eS 68 (.val (.agg (fc (v9)).toArray)), eS 69 (.val (.agg (fc (v11)).toArray)), eN 12 (nz), eN 13 (nz), eM 12 (fc (v10)), eM 13 (fc (v11))] (by kernel_rfl) ⟨
    fun L u => u_load u (gd0 rfl) 64 rfl 24 (.tmp 6) rfl rfl rfl Tryd.underlying24 rfl i24 (lk rfl) _ rfl,
    fun L u => u_load u (gd0 rfl) 65 rfl 24 (.tmp 11) rfl rfl rfl Tryd.underlying24 rfl i24 (lk rfl) _ rfl,
    fun L u => u_call u (gd0 rfl) 66 rfl 33 #[(.tmp 64), (.tmp 65)] #[24, 24] rfl [.agg (fc (v2)).toArray, .agg (fc (v9)).toArray] rfl (cE33 _) (.agg (fc (v10)).toArray) (fun w hb => by have g := q_add (hT.keep (Bs.kp_of hb)) v2 v9; rw [← ev10] at g; exact g),
    fun L u => u_load u (gd0 rfl) 67 rfl 24 (.tmp 6) rfl rfl rfl Tryd.underlying24 rfl i24 (lk rfl) _ rfl,
    fun L u => u_load u (gd0 rfl) 68 rfl 24 (.tmp 11) rfl rfl rfl Tryd.underlying24 rfl i24 (lk rfl) _ rfl,
    fun L u => u_call u (gd0 rfl) 69 rfl 32 #[(.tmp 67), (.tmp 68)] #[24, 24] rfl [.agg (fc (v2)).toArray, .agg (fc (v9)).toArray] rfl (cE32 _) (.agg (fc (v11)).toArray) (fun w hb => by have g := q_sub (hT.keep (Bs.kp_of hb)) v2 v9; rw [← ev11] at g; exact g),
    fun L u => u_alloc u (gd0 rfl) 24 rfl 12 rfl rfl z24 _ rfl,
    fun L u => u_alloc u (gd0 rfl) 24 rfl 13 rfl rfl z24 _ rfl,
    fun L u => u_store u (gd0 rfl) 24 (.tmp 12) (.tmp 66) rfl rfl rfl (vs := fc (v10)) rfl rfl i24 (lk rfl) rfl _ rfl,
    fun L u => u_store u (gd0 rfl) 24 (.tmp 13) (.tmp 69) rfl rfl rfl (vs := fc (v11)) rfl rfl i24 (lk rfl) rfl _ rfl,
    trivial⟩ [(4, .ptr 4 0), (5, .ptr 5 0), (7, .ptr 7 0), (8, .ptr 8 0), (9, .ptr 9 0), (10, .ptr 10 0), (12, .ptr 12 0), (13, .ptr 13 0)] [(4, nz ++ nz ++ nz), (5, fc (v1)), (7, fc (v3)), (8, fc (v4)), (9, fc (v5)), (10, fc (v6)), (12, fc (v10)), (13, fc (v11))] ⟨rfl, rfl, rfl, rfl, rfl, rfl, rfl, rfl, trivial⟩ ⟨rfl, rfl, rfl, rfl, rfl, rfl, rfl, rfl, trivial⟩ rfl (fun a w h => ?_)
  refine go_region h hm [eS 70 (.val (.agg (fc (v1)).toArray)), eS 71 (.val (.agg (fc (v3)).toArray)), eS 72 (.val (.agg (fc (v12)).toArray)), eS 73 (.val (.agg (fc (v13)).toArray)), eN 14 (nz), eM 14 (fc (v13))] (by kernel_rfl) ⟨
    fun L u => u_load u (gd0 rfl) 70 rfl 24 (.tmp 5) rfl rfl rfl Tryd.underlying24 rfl i24 (lk rfl) _ rfl,
    fun L u => u_load u (gd0 rfl) 71 rfl 24 (.tmp 7) rfl rfl rfl Tryd.underlying24 rfl i24 (lk rfl) _ rfl,
    fun L u => u_call u (gd0 rfl) 72 rfl 32 #[(.tmp 70), (.tmp 71)] #[24, 24] rfl [.agg (fc (v1)).toArray, .agg (fc (v3)).toArray] rfl (cE32 _) (.agg (fc (v12)).toArray) (fun w hb => by have g := q_sub (hT.keep (Bs.kp_of hb)) v1 v3; rw [← ev12] at g; exact g),
    fun L u => u_call u (gd0 rfl) 73 rfl 31 #[(.tmp 72)] #[24] rfl [.agg (fc (v12)).toArray] rfl (cE31 _) (.agg (fc (v13)).toArray) (fun w hb => by have g := q_triple (hT.keep (Bs.kp_of hb)) v12; rw [← ev13] at g; exact g),
    fun L u => u_alloc u (gd0 rfl) 24 rfl 14 rfl rfl z24 _ rfl,
    fun L u => u_store u (gd0 rfl) 24 (.tmp 14) (.tmp 73) rfl rfl rfl (vs := fc (v13)) rfl rfl i24 (lk rfl) rfl _ rfl,
    trivial⟩ [(4, .ptr 4 0), (5, .ptr 5 0), (7, .ptr 7 0), (8, .ptr 8 0), (9, .ptr 9 0), (10, .ptr 10 0), (12, .ptr 12 0), (13, .ptr 13 0), (14, .ptr 14 0)] [(4, nz ++ nz ++ nz), (5, fc (v1)), (7, fc (v3)), (8, fc (v4)), (9, fc (v5)), (10, fc (v6)), (12, fc (v10)), (13, fc (v11)), (14, fc (v13))] ⟨rfl, rfl, rfl, rfl, rfl, rfl, rfl, rfl, rfl, trivial⟩ ⟨rfl, rfl, rfl, rfl, rfl, rfl, rfl, rfl, rfl, trivial⟩ rfl (fun a w h => ?_)
  refine go_region h hm [eS 74 (.val (.agg (fc (wb)).toArray)), eS 75 (.val (.agg (fc (v5)).toArray)), eS 76 (.val (.agg (fc (v14)).toArray)), eS 77 (.val (.agg (fc (v3)).toArray)), eS 78 (.val (.agg (fc (v15)).toArray)), eS 79 (.val (.agg (fc (v16)).toArray)), eS 80 (.val (.agg (fc (v1)).toArray)), eS 81 (.val (.agg (fc (v17)).toArray)), eS 82 (.val (.agg (fc (v18)).toArray)), eN 15 (nz), eM 15 (fc (v18))] (by kernel_rfl) ⟨
    fun L u => u_loadXR u (gd0 rfl) 74 rfl 24 (.global 0) rfl rfl Tryd.underlying24 rfl (fc (wb)) i24 rfl (hT.wb) rfl,
    fun L u => u_load u (gd0 rfl) 75 rfl 24 (.tmp 9) rfl rfl rfl Tryd.underlying24 rfl i24 (lk rfl) _ rfl,
    fun L u => u_call u (gd0 rfl) 76 rfl 22 #[(.tmp 74), (.tmp 75)] #[24, 24] rfl [.agg (fc (wb)).toArray, .agg (fc (v5)).toArray] rfl (cE22 _) (.agg (fc (v14)).toArray) (fun w hb => by have g := q_mul (hT.keep (Bs.kp_of hb)) wb v5; rw [← ev14] at g; exact g),
    fun L u => u_load u (gd0 rfl) 77 rfl 24 (.tmp 7) rfl rfl rfl Tryd.underlying24 rfl i24 (lk rfl) _ rfl,
    fun L u => u_call u (gd0 rfl) 78 rfl 31 #[(.tmp 77)] #[24] rfl [.agg (fc (v3)).toArray] rfl (cE31 _) (.agg (fc (v15)).toArray) (fun w hb => by have g := q_triple (hT.keep (Bs.kp_of hb)) v3; rw [← ev15] at g; exact g),
    fun L u => u_call u (gd0 rfl) 79 rfl 32 #[(.tmp 76), (.tmp 78)] #[24, 24] rfl [.agg (fc (v14)).toArray, .agg (fc (v15)).toArray] rfl (cE32 _) (.agg (fc (v16)).toArray) (fun w hb => by have g := q_sub (hT.keep (Bs.kp_of hb)) v14 v15; rw [← ev16] at g; exact g),
    fun L u => u_load u (gd0 rfl) 80 rfl 24 (.tmp 5) rfl rfl rfl Tryd.underlying24 rfl i24 (lk rfl) _ rfl,
    fun L u => u_call u (gd0 rfl) 81 rfl 32 #[(.tmp 79), (.tmp 80)] #[24, 24] rfl [.agg (fc (v16)).toArray, .agg (fc (v1)).toArray] rfl (cE32 _) (.agg (fc (v17)).toArray) (fun w hb => by have g := q_sub (hT.keep (Bs.kp_of hb)) v16 v1; rw [← ev17] at g; exact g),
    fun L u => u_call u (gd0 rfl) 82 rfl 31 #[(.tmp 81)] #[24] rfl [.agg (fc (v17)).toArray] rfl (cE31 _) (.agg (fc (v18)).toArray) (fun w hb => by have g := q_triple (hT.keep (Bs.kp_of hb)) v17; rw [← ev18] at g; exact g),
    fun L u => u_alloc u (gd0 rfl) 24 rfl 15 rfl rfl z24 _ rfl,
    fun L u => u_store u (gd0 rfl) 24 (.tmp 15) (.tmp 82) rfl rfl rfl (vs := fc (v18)) rfl rfl i24 (lk rfl) rfl _ rfl,
    trivial⟩ [(4, .ptr 4 0), (8, .ptr 8 0), (10, .ptr 10 0), (12, .ptr 12 0), (13, .ptr 13 0), (14, .ptr 14 0), (15, .ptr 15 0)] [(4, nz ++ nz ++ nz), (8, fc (v4)), (10, fc (v6)), (12, fc (v10)), (13, fc (v11)), (14, fc (v13)), (15, fc (v18))] ⟨rfl, rfl, rfl, rfl, rfl, rfl, rfl, trivial⟩ ⟨rfl, rfl, rfl, rfl, rfl, rfl, rfl, trivial⟩ rfl (fun a w h => ?_)
  refine go_region h hm [eS 83 (.val (.agg (fc (v4)).toArray)), eS 84 (.val (.agg (fc (v10)).toArray)), eS 85 (.val (.agg (fc (v19)).toArray)), eS 86 (.val (.agg (fc (v6)).toArray)), eS 87 (.val (.agg (fc (v18)).toArray)), eS 88 (.val (.agg (fc (v20)).toArray)), eS 89 (.val (.agg (fc (v21)).toArray)), eS 90 (.val (.agg (fc (v10)).toArray)), eS 91 (.val (.agg (fc (v11)).toArray)), eS 92 (.val (.agg (fc (v13)).toArray)), eS 93 (.val (.agg (fc (v18)).toArray)), eS 94 (.val (.agg (fc (v22)).toArray)), eS 95 (.val (.agg (fc (v6)).toArray)), eS 96 (.val (.agg (fc (v11)).toArray)), eS 97 (.val (.agg (fc (v4)).toArray)), eS 98 (.val (.agg (fc (v13)).toArray)), eS 99 (.val (.agg (fc (v23)).toArray)), eS 100 (.val (.agg (fc (v21) ++ fc (v22) ++ fc (v23)).toArray)), eM 4 (fc (v21) ++ fc (v22) ++ fc (v23))] (by kernel_rfl) ⟨
    fun L u => u_load u (gd0 rfl) 83 rfl 24 (.tmp 8) rfl rfl rfl Tryd.underlying24 rfl i24 (lk rfl) _ rfl,
    fun L u => u_load u (gd0 rfl) 84 rfl 24 (.tmp 12) rfl rfl rfl Tryd.underlying24 rfl i24 (lk rfl) _ rfl,
    fun L u => u_call u (gd0 rfl) 85 rfl 22 #[(.tmp 83), (.tmp 84)] #[24, 24] rfl [.agg (fc (v4)).toArray, .agg (fc (v10)).toArray] rfl (cE22 _) (.agg (fc (v19)).toArray) (fun w hb => by have g := q_mul (hT.keep (Bs.kp_of hb)) v4 v10; rw [← ev19] at g; exact g),
    fun L u => u_load u (gd0 rfl) 86 rfl 24 (.tmp 10) rfl rfl rfl Tryd.underlying24 rfl i24 (lk rfl) _ rfl,
    fun L u => u_load u (gd0 rfl) 87 rfl 24 (.tmp 15) rfl rfl rfl Tryd.underlying24 rfl i24 (lk rfl) _ rfl,
    fun L u => u_call u (gd0 rfl) 88 rfl 22 #[(.tmp 86), (.tmp 87)] #[24, 24] rfl [.agg (fc (v6)).toArray, .agg (fc (v18)).toArray] rfl (cE22 _) (.agg (fc (v20)).toArray) (fun w hb => by have g := q_mul (hT.keep (Bs.kp_of hb)) v6 v18; rw [← ev20] at g; exact g),
    fun L u => u_call u (gd0 rfl) 89 rfl 32 #[(.tmp 85), (.tmp 88)] #[24, 24] rfl [.agg (fc (v19)).toArray, .agg (fc (v20)).toArray] rfl (cE32 _) (.agg (fc (v21)).toArray) (fun w hb => by have g := q_sub (hT.keep (Bs.kp_of hb)) v19 v20; rw [← ev21] at g; exact g),
    fun L u => u_load u (gd0 rfl) 90 rfl 24 (.tmp 12) rfl rfl rfl Tryd.underlying24 rfl i24 (lk rfl) _ rfl,
    fun L u => u_load u (gd0 rfl) 91 rfl 24 (.tmp 13) rfl rfl rfl Tryd.underlying24 rfl i24 (lk rfl) _ rfl,
    fun L u => u_load u (gd0 rfl) 92 rfl 24 (.tmp 14) rfl rfl rfl Tryd.underlying24 rfl i24 (lk rfl) _ rfl,
    fun L u => u_load u (gd0 rfl) 93 rfl 24 (.tmp 15) rfl rfl rfl Tryd.underlying24 rfl i24 (lk rfl) _ rfl,
    fun L u => u_call u (gd0 rfl) 94 rfl 30 #[(.tmp 90), (.tmp 91), (.tmp 92), (.tmp 93)] #[24, 24, 24, 24] rfl [.agg (fc (v10)).toArray, .agg (fc (v11)).toArray, .agg (fc (v13)).toArray, .agg (fc (v18)).toArray] rfl (cE30 _) (.agg (fc (v22)).toArray) (fun w hb => by have g := q_cross (hT.keep (Bs.kp_of hb)) v10 v11 v13 v18; rw [← ev22] at g; exact g),
    fun L u => u_load u (gd0 rfl) 95 rfl 24 (.tmp 10) rfl rfl rfl Tryd.underlying24 rfl i24 (lk rfl) _ rfl,
    fun L u => u_load u (gd0 rfl) 96 rfl 24 (.tmp 13) rfl rfl rfl Tryd.underlying24 rfl i24 (lk rfl) _ rfl,
    fun L u => u_load u (gd0 rfl) 97 rfl 24 (.tmp 8) rfl rfl rfl Tryd.underlying24 rfl i24 (lk rfl) _ rfl,
    fun L u => u_load u (gd0 rfl) 98 rfl 24 (.tmp 14) rfl rfl rfl Tryd.underlying24 rfl i24 (lk rfl) _ rfl,
    fun L u => u_call u (gd0 rfl) 99 rfl 30 #[(.tmp 95), (.tmp 96), (.tmp 97), (.tmp 98)] #[24, 24, 24, 24] rfl [.agg (fc (v6)).toArray, .agg (fc (v11)).toArray, .agg (fc (v4)).toArray, .agg (fc (v13)).toArray] rfl (cE30 _) (.agg (fc (v23)).toArray) (fun w hb => by have g := q_cross (hT.keep (Bs.kp_of hb)) v6 v11 v4 v13; rw [← ev23] at g; exact g),
    fun L u => u_build u (gd0 rfl) 100 rfl 39 #[(0, (.tmp 89)), (1, (.tmp 94)), (2, (.tmp 99))] rfl [(0, .agg (fc (v21)).toArray), (1, .agg (fc (v22)).toArray), (2, .agg (fc (v23)).toArray)] rfl (fc (v21) ++ fc (v22) ++ fc (v23)) (bQ3 _ _ _),
    fun L u => u_store u (gd0 rfl) 39 (.tmp 4) (.tmp 100) rfl rfl rfl (vs := fc (v21) ++ fc (v22) ++ fc (v23)) rfl rfl i39 (lk rfl) rfl _ rfl,
    trivial⟩ [(4, .ptr 4 0)] [(4, fc (v21) ++ fc (v22) ++ fc (v23))] ⟨rfl, trivial⟩ ⟨rfl, trivial⟩ rfl (fun a w h => ?_)
  refine wp_ret ?_
  refine ret_row h 4 39 rfl (lk rfl) 4 rfl (fc (v21) ++ fc (v22) ++ fc (v23)) rfl _ Tryd.underlying39 rfl i39 ?_
  exact ⟨by rw [← hpp]; rfl, h.grows⟩
end Go.Proofs.YtimaaendbfjblabDoor
