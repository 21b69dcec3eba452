/- Keys of 64 bytes; bytes that are copied (no function of layer 7 is named). -/
import Derived.Test.YtiahjnfopeiliaaDoorP5StepB
import Derived.Test.YtiahjnfopeiliaaDoorS7W
import Derived.Test.YtiahjnfopeiliaaDoorKStep
import Derived.Test.YtiahjnfopeiliaaDoorKApp1
namespace Go.Proofs.YtiahjnfopeiliaaDoor
open Go.RowKit

theorem infoKB : (Tryd.prog.info? 41).map (·.size) = some 64 := by kernel_rfl
theorem inKB (f : Nat → Nat) : (Tryd.prog.info? 41).map (·.size) = some (ab f 64).toArray.size := by rw [List.size_toArray, ab_len]; exact infoKB
theorem ilKB (f : Nat → Nat) : (Tryd.prog.info? 41).map (·.size) = some (ab f 64).length := by rw [ab_len]; exact infoKB
theorem zerosKB : (#[.int .u8 0, .int .u8 0, .int .u8 0, .int .u8 0, .int .u8 0, .int .u8 0, .int .u8 0, .int .u8 0, .int .u8 0, .int .u8 0, .int .u8 0, .int .u8 0, .int .u8 0, .int .u8 0, .int .u8 0, .int .u8 0, .int .u8 0, .int .u8 0, .int .u8 0, .int .u8 0, .int .u8 0, .int .u8 0, .int .u8 0, .int .u8 0, .int .u8 0, .int .u8 0, .int .u8 0, .int .u8 0, .int .u8 0, .int .u8 0, .int .u8 0, .int .u8 0, .int .u8 0, .int .u8 0, .int .u8 0, .int .u8 0, .int .u8 0, .int .u8 0, .int .u8 0, .int .u8 0, .int .u8 0, .int .u8 0, .int .u8 0, .int .u8 0, .int .u8 0, .int .u8 0, .int .u8 0, .int .u8 0, .int .u8 0, .int .u8 0, .int .u8 0, .int .u8 0, .int .u8 0, .int .u8 0, .int .u8 0, .int .u8 0, .int .u8 0, .int .u8 0, .int .u8 0, .int .u8 0, .int .u8 0, .int .u8 0, .int .u8 0, .int .u8 0] : Array Value) = (ab (fun _ => 0) 64).toArray := by kernel_rfl
theorem RowB.first {w : World} {b N n : Nat} {f : Nat → Nat} (h : RowB w b N f) (hn : n ≤ N) (g : Nat → Nat) : RowB (w.setCells b 0 (ab g n)) b N (fun i => if i < n then g i else f i) := by
  have ht : w.there b 0 (ab g n).length := fun j hj => by
    rw [ab_len] at hj
    rw [Nat.zero_add, h.c j (by omega), h.z j (by omega)]; exact ⟨rfl, rfl⟩
  have hr := World.rangeAt_setCells_same w b 0 (ab g n) ht
  refine ⟨by rw [size_setCells]; exact h.lt, fun i hi => ?_, fun i hi => by rw [World.frozen?_setCells]; exact h.z i hi⟩
  by_cases e : i < n
  · have := hr i _ (ab_at g e)
    rw [Nat.zero_add] at this
    rw [this]
    show _ = some (Value.int .u8 (((if i < n then g i else f i : Nat)) : Int))
    rw [if_pos e]
  · rw [World.cell?_setCells_out b _ 0 w _ (fun _ _ => Or.inr (by rw [ab_len]; simp only; omega)), h.c i hi]
    show _ = some (Value.int .u8 (((if i < n then g i else f i : Nat)) : Int))
    rw [if_neg e]
theorem RowB.thereN {w : World} {b N n : Nat} {f : Nat → Nat} (h : RowB w b N f) (hn : n ≤ N) : w.there b 0 n := fun j hj => by
  rw [Nat.zero_add, h.c j (by omega), h.z j (by omega)]; exact ⟨rfl, rfl⟩
/-- Bytes that are copied, whatever their address where there are none. -/
theorem run_copyBA {W : World} {b o dLen dCap n c k : Nat} {x : Option Addr} {g : Nat → Nat} (hx : BA W x n g) (hk : k = Nat.min n dLen) (ht : W.there b o k) (ty : TypeId) :
    (Builtin.copy_ #[22, 22] ty #[.slice (some ⟨b, o, none⟩) dLen dCap, .slice x n c]).run Tryd.prog W = .ok (goInt k) (W.setCells b o (ab g k)) := by
  rcases hx.at_ with h0 | ⟨xb, xo, rfl, hr⟩
  · have h := run_copy_none (P := Tryd.prog) W 22 22 ty 5 (some ⟨b, o, none⟩) x dLen dCap n c Tryd.underlying22 (by kernel_rfl) (by rw [h0]; exact Nat.zero_min _)
    have hk0 : k = 0 := by rw [hk, h0]; exact Nat.zero_min _
    subst hk0
    exact h
  · have h := run_copy_cells (P := Tryd.prog) W 22 22 ty 5 b o dLen dCap ⟨xb, xo, none⟩ n c (ab g k) Tryd.underlying22 (by kernel_rfl) (by rw [ab_len]; exact hk) (fun j v hv => by
      have hj : j < k := by
        rcases Nat.lt_or_ge j k with h' | h'
        · exact h'
        · rw [List.getElem?_eq_none (by rw [ab_len]; exact h')] at hv; cases hv
      rw [ab_at g hj] at hv
      have hkn : k ≤ n := by rw [hk]; exact Nat.min_le_left _ _
      rw [Addr.add_mid, hr.c j (by omega)]; exact hv) (fun j hj => (ht j (by rw [ab_len] at hj; exact hj)).1) (fun j hj => (ht j (by rw [ab_len] at hj; exact hj)).2) (ab_one _ _)
    rw [ab_len] at h
    exact h
theorem wp_copy {W : World} {op : Oper} {a : Act} {Kt : Act → World → Prop} {Q : Exit → Act → World → Prop} (d s : Operand)
    (ho : op.op = .call { callee := .builtin .copy, args := #[d, s], argTypes := #[22, 22] })
    {b o dLen dCap n c : Nat} {x : Option Addr} {g : Nat → Nat} (hd : a.eval d = .slice (some ⟨b, o, none⟩) dLen dCap) (hs : a.eval s = .slice x n c) (hx : BA W x n g) (k : Nat) (hk : k = Nat.min n dLen) (ht : W.there b o k)
    (h : Kt (a.put op.dst (goInt k)) (W.setCells b o (ab g k))) : Oper.wp Tryd.prog op a W Kt Q := by
  have hr := run_copyBA (c := c) (dCap := dCap) hx hk ht op.type
  unfold Oper.wp execOp
  simp only [ho, resolve, invoke, builtin, Sem.run_bind, Sem.run_pure, Result.andThen_ok, List.map_toArray, List.map_cons, List.map_nil, hd, hs, hr]
  exact h
theorem wpList_copy {W : World} {ops : Array Oper} {rest : List Oper} {op : Oper} {a : Act} {Q : Exit → Act → World → Prop} (hgd : op.guard = none) (d s : Operand)
    (ho : op.op = .call { callee := .builtin .copy, args := #[d, s], argTypes := #[22, 22] })
    {b o dLen dCap n c : Nat} {x : Option Addr} {g : Nat → Nat} (hd : a.eval d = .slice (some ⟨b, o, none⟩) dLen dCap) (hs : a.eval s = .slice x n c) (hx : BA W x n g) (k : Nat) (hk : k = Nat.min n dLen) (ht : W.there b o k)
    (h : wpList Tryd.prog ops Q rest (a.put op.dst (goInt k)) (W.setCells b o (ab g k))) : wpList Tryd.prog ops Q (op :: rest) a W :=
  wpList_plain hgd fun _ hK => wp_copy d s ho hd hs hx k hk ht (hK _ _ h)
end Go.Proofs.YtiahjnfopeiliaaDoor
