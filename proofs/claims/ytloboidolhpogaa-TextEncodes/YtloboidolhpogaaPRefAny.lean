/- What the document's own Encode and Decode answer of all bytes and texts. -/
import Derived.Test.YtloboidolhpogaaPAny
import Derived.Test.YtloboidolhpogaaTDec
namespace Go.Proofs.Ytloboidolhpogaa
open Go.RowKit

theorem refEncode_ba {a : Option Addr} {n c : Nat} {f : Nat → Nat} {w : World} (h : BA w a n f) (hn : n ≤ 1000) :
    Calls Try.prog 11 #[.slice a n c] w fun e w' => e = .returned (.string (tx (enc f n))) ∧ Below w.heap.size w w' := by
  rcases h.at_ with rfl | ⟨b, o, rfl, hr⟩
  · refine (refEncode_none a c f w).mono ?_
    rintro e w1 ⟨rfl, rfl⟩
    exact ⟨rfl, Below.refl _ _⟩
  · exact refEncode_any h.lt hn hr
def DecV (l : List UInt8) (w : World) (e : Ending) (w' : World) : Prop := Below w.heap.size w w' ∧
  ((∃ a n c f, BA w' a n f ∧ enc f n = l ∧ e = .returned (.tuple #[.slice a n c, .bool true])) ∨
   ((∀ n f, (∀ i, f i < 256) → enc f n ≠ l) ∧ e = .returned (.tuple #[.slice none 0 0, .bool false])))
theorem refDecode_any (l : List UInt8) (hl : l.length ≤ 1000) (w : World) : Calls Try.prog 9 #[.string (tx l)] w fun e w' => DecV l w e w' := by
  have hs : (tx l).size = l.length := tx_size l
  have hd : (tx l).data.toList = l := rfl
  by_cases h0 : l = []
  · subst h0
    refine (refDecode_none (tx []) rfl w).mono ?_
    rintro e w1 ⟨rfl, hb⟩
    exact ⟨hb, Or.inl ⟨none, 0, 0, fun _ => 0, ⟨fun _ => by omega, Or.inl rfl⟩, rfl, rfl⟩⟩
  · have hp : 0 < l.length := List.length_pos_iff.2 h0
    by_cases h4 : l.length % 4 = 0
    · refine (refDecode_some (tx l) (by omega) (by omega) (by omega) w).mono ?_
      intro e w1 hpost
      unfold DecPost at hpost
      rw [hs, hd] at hpost
      rcases hpost with ⟨hb, ⟨he, g, cap, rfl, hr⟩ | ⟨he, rfl⟩⟩
      · exact ⟨hb, Or.inl ⟨_, _, cap, _, ⟨getD_lt (dl_lt l _), Or.inr ⟨g, 0, rfl, hr⟩⟩, he, rfl⟩⟩
      · exact ⟨hb, Or.inr ⟨dec_none hp he, rfl⟩⟩
    · refine (refDecode_odd (tx l) (by omega) w).mono ?_
      rintro e w1 ⟨rfl, rfl⟩
      refine ⟨Below.refl _ _, Or.inr ⟨fun n f _ he => h4 ?_, rfl⟩⟩
      rw [← he, enc_len]
      omega
end Go.Proofs.Ytloboidolhpogaa
