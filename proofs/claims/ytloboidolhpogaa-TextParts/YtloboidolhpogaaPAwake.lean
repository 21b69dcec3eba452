/- Bytes that are handed in; what text.Encode answers of them; awake. -/
import Derived.Test.YtloboidolhpogaaPEncW
import Derived.Lib.SlBytesConst
namespace Go.Proofs.Ytloboidolhpogaa
open Go.RowKit
attribute [local go_sem ↓] Go.wp_at_zero Go.wp_at_succ

/-- Some bytes: none, or n from an address on. -/
structure BA (w : World) (a : Option Addr) (n : Nat) (f : Nat → Nat) : Prop where
  lt : ∀ i, f i < 256
  at_ : n = 0 ∨ ∃ b o, a = some ⟨b, o, none⟩ ∧ Rd w b o n (fun i => ((f i : Nat) : Int))
theorem BA.keep {W w1 : World} {a : Option Addr} {n : Nat} {f : Nat → Nat} (h : BA W a n f) (hb : Below W.heap.size W w1) : BA w1 a n f :=
  ⟨h.lt, h.at_.elim Or.inl fun ⟨b, o, e, hr⟩ => Or.inr ⟨b, o, e, hr.keep hb⟩⟩
theorem encode_any {a : Option Addr} {n c : Nat} {f : Nat → Nat} {w : World} (h : BA w a n f) (hc : n ≤ c) (hn : n ≤ 1000) :
    Calls Try.prog 10 #[.slice a n c] w fun e w' => e = .returned (.string (tx (enc f n))) ∧ Below w.heap.size w w' := by
  rcases h.at_ with rfl | ⟨b, o, rfl, hr⟩
  · exact encode_none a c w
  · exact encode_some h.lt hn hc hr
def ab (i : Nat) : Nat := if i = 0 then 97 else 98
theorem enc_ab : enc ab 2 = [89, 87, 73, 61] := by decide +kernel
set_option maxHeartbeats 1000000 in
theorem awake_any (w : World) : Calls Try.prog 7 #[] w fun e w' => e = .returned (.bool true) ∧ Below w.heap.size w w' := by
  have hE := @encode_any (some ⟨w.heap.size, 0, none⟩) 2 2 ab (w.alloc (.cells #[.int .u8 97, .int .u8 98] 5 (2, 3))) ⟨fun i => by unfold ab; split <;> omega, Or.inr ⟨_, _, rfl, ⟨fun i hi => by
    rcases (show i = 0 ∨ i = 1 by omega) with rfl | rfl
    · rw [cell_of_row _ _ _ _ _ _ (heap_alloc_new w _)]; rfl
    · rw [cell_of_row _ _ _ _ _ _ (heap_alloc_new w _)]; rfl⟩⟩⟩ (by omega) (by omega)
  rw [enc_ab] at hE
  have hcv := Lib.run_convert_bytes_const (P := Try.prog) w 22 5 #[.int .u8 97, .int .u8 98] 2 2 Try.underlying22 Try.underlying5
  simp only [List.size_toArray, List.length_cons, List.length_nil, Nat.zero_add, Nat.reduceAdd] at hcv
  have hq : ((tx [89, 87, 73, 61]).toList == [89, 87, 73, 61]) = true := by rw [tx_list]; rfl
  go_enter Try.func7, Try.ntmps7
  go_wp2_with fail
  with_reducible refine Calls.mono hE ?_
  rintro e w1 ⟨rfl, hb⟩
  go_wp2_with fail
  go_ret
  exact ⟨rfl, K.call (K.alloc (Below.refl _ _) _) hb⟩
end Go.Proofs.Ytloboidolhpogaa
