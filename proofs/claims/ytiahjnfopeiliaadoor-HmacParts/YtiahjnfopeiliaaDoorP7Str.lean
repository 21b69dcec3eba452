/- A stream in memory: its key, its value, whether a number was asked for; the program's own Mac of parts that lie somewhere. -/
import Derived.Test.YtiahjnfopeiliaaDoorP7Mac
import Derived.Test.YtiahjnfopeiliaaDoorS7NumR
namespace Go.Proofs.YtiahjnfopeiliaaDoor
open Go.RowKit

theorem mac_one_at {w : World} {q : Nat} {x y : Option Addr} {n c m d : Nat} {f g : Nat → Nat} (hT : Tab w) (hx : BA w x n f) (hc : n ≤ c) (hcm : c ≤ maxLen) (hn : n ≤ 800000) (hy : BA w y m g) (hd : m ≤ d) (hdm : d ≤ maxLen) (hm : m ≤ 700000) (hq : w.cell? ⟨q, 0, none⟩ = some (.slice y m d)) :
    Calls Tryd.prog 9 #[.slice x n c, .slice (some ⟨q, 0, none⟩) 1 1] w fun e w' => e = .returned (.agg (mA f n g m)) ∧ Below w.heap.size w w' := by
  have e1 : lenF (fun _ => m) 1 = m := by simp only [lenF]; omega
  have h := mac_any (d := 1) (y := some ⟨q, 0, none⟩) (k := 1) (A := fun _ => y) (L := fun _ => m) (C := fun _ => d) (G := fun _ => g) hT hx hc hcm hn ⟨fun i _ => hy, fun i _ => ⟨hd, hdm⟩, Or.inr ⟨_, _, rfl, fun i hi => by
    obtain rfl : i = 0 := by omega
    exact hq⟩⟩ (by omega) (by rw [e1]; exact hm)
  rw [e1] at h
  simp only [catF, lenF, cat_zero] at h
  exact h
theorem mac_two_at {w : World} {q : Nat} {x y z : Option Addr} {n c m d l r : Nat} {f g k : Nat → Nat} (hT : Tab w) (hx : BA w x n f) (hc : n ≤ c) (hcm : c ≤ maxLen) (hn : n ≤ 800000) (hy : BA w y m g) (hd : m ≤ d) (hdm : d ≤ maxLen) (hz : BA w z l k) (hr : l ≤ r) (hrm : r ≤ maxLen) (hm : m + l ≤ 700000) (hq : w.cell? ⟨q, 0, none⟩ = some (.slice y m d)) (hq2 : w.cell? ⟨q, 1, none⟩ = some (.slice z l r)) :
    Calls Tryd.prog 9 #[.slice x n c, .slice (some ⟨q, 0, none⟩) 2 2] w fun e w' => e = .returned (.agg (mA f n (cat g m k) (m + l))) ∧ Below w.heap.size w w' := by
  have e1 : lenF (fun i => if i = 0 then m else l) 2 = m + l := by simp [lenF]
  have e2 : catF (fun i => if i = 0 then m else l) (fun i => if i = 0 then g else k) 2 = cat g m k := by simp [catF, lenF, cat_zero]
  have h := mac_any (d := 2) (y := some ⟨q, 0, none⟩) (k := 2) (A := fun i => if i = 0 then y else z) (L := fun i => if i = 0 then m else l) (C := fun i => if i = 0 then d else r) (G := fun i => if i = 0 then g else k) hT hx hc hcm hn ⟨fun i hi => by
    rcases (show i = 0 ∨ i = 1 by omega) with rfl | rfl
    · exact hy
    · exact hz, fun i hi => by
    rcases (show i = 0 ∨ i = 1 by omega) with rfl | rfl
    · exact ⟨hd, hdm⟩
    · exact ⟨hr, hrm⟩, Or.inr ⟨_, _, rfl, fun i hi => by
    rcases (show i = 0 ∨ i = 1 by omega) with rfl | rfl
    · exact hq
    · exact hq2⟩⟩ (by omega) (by rw [e1]; exact hm)
  rw [e1, e2] at h
  exact h
theorem mac_none_at {w : World} {x : Option Addr} {n c : Nat} {f : Nat → Nat} (hT : Tab w) (hx : BA w x n f) (hc : n ≤ c) (hcm : c ≤ maxLen) (hn : n ≤ 800000) :
    Calls Tryd.prog 9 #[.slice x n c, .slice none 0 0] w fun e w' => e = .returned (.agg (mA f n (fun _ => 0) 0)) ∧ Below w.heap.size w w' :=
  mac_any (d := 0) (y := none) (k := 0) (A := fun _ => none) (L := fun _ => 0) (C := fun _ => 0) (G := fun _ _ => 0) hT hx hc hcm hn ⟨fun i hi => by omega, fun i hi => by omega, Or.inl rfl⟩ (by omega) (by simp only [lenF]; omega)
theorem macS_congr {f g h : Nat → Nat} {n m : Nat} (e : ∀ i, i < m → g i = h i) : macS f n g m = macS f n h m := by
  unfold macS
  rw [hashS_congr (f := cat (fun i => kpad f n i ^^^ 54) 64 g) (g := cat (fun i => kpad f n i ^^^ 54) 64 h) (fun i hi => by
    unfold cat
    by_cases h1 : i < 64
    · rw [if_pos h1, if_pos h1]
    · rw [if_neg h1, if_neg h1, e _ (by omega)])]
theorem mA_congr {f g h : Nat → Nat} {n m : Nat} (e : ∀ i, i < m → g i = h i) : mA f n g m = mA f n h m := by unfold mA; rw [macS_congr e]
def KV.ok (s : KV) : Prop := (∀ i, s.k i < 256) ∧ (∀ i, s.v i < 256)
theorem kvNext_ok {s : KV} (h : s.ok) : (kvNext s).ok := ⟨h.1, fun i => macB_lt _ _ _ _ i⟩
theorem kvStep_ok (s : KV) (b : Nat) (g : Nat → Nat) (m : Nat) : (kvStep s b g m).ok := ⟨fun i => macB_lt _ _ _ _ i, fun i => macB_lt _ _ _ _ i⟩
theorem kv0_ok : kv0.ok := ⟨fun _ => by show 0 < 256; omega, fun _ => by show 1 < 256; omega⟩
/-- A stream's cells. -/
def sc (s : KV) (t : Bool) : List Value := ab s.k 32 ++ (ab s.v 32 ++ [.bool t])
theorem sc_len (s : KV) (t : Bool) : (sc s t).length = 65 := by simp [sc, ab_len]
theorem sc_one (s : KV) (t : Bool) : ∀ v ∈ sc s t, v.oneCell' = true := by
  intro v hv
  simp only [sc, List.mem_append, List.mem_singleton] at hv
  rcases hv with h | h | rfl
  · exact ab_one _ _ v h
  · exact ab_one _ _ v h
  · rfl
theorem sc_k (s : KV) (t : Bool) {i : Nat} (h : i < 32) : (sc s t)[i]? = some (.int .u8 ((s.k i : Nat) : Int)) := by
  rw [sc, List.getElem?_append_left (by rw [ab_len]; exact h), ab_at _ h]
theorem sc_v (s : KV) (t : Bool) {i : Nat} (h : i < 32) : (sc s t)[32 + i]? = some (.int .u8 ((s.v i : Nat) : Int)) := by
  rw [sc, List.getElem?_append_right (by rw [ab_len]; omega), ab_len, List.getElem?_append_left (by rw [ab_len]; omega), show 32 + i - 32 = i by omega, ab_at _ h]
theorem sc_g (s : KV) (t : Bool) : (sc s t)[64]? = some (.bool t) := by
  rw [sc, List.getElem?_append_right (by rw [ab_len]; omega), ab_len, List.getElem?_append_right (by rw [ab_len]; omega), ab_len]; rfl
structure Stm (w : World) (b : Nat) (s : KV) (t : Bool) : Prop where
  lt : b < w.heap.size
  r : w.rangeAt b 0 (sc s t)
  z : ∀ i, i < 65 → w.frozen? ⟨b, i, none⟩ = false
theorem Stm.ck {w : World} {b : Nat} {s : KV} {t : Bool} (h : Stm w b s t) (i : Nat) (hi : i < 32) : w.cell? ⟨b, i, none⟩ = some (.int .u8 ((s.k i : Nat) : Int)) := by have := h.r i _ (sc_k s t hi); rwa [Nat.zero_add] at this
theorem Stm.cv {w : World} {b : Nat} {s : KV} {t : Bool} (h : Stm w b s t) (i : Nat) (hi : i < 32) : w.cell? ⟨b, 32 + i, none⟩ = some (.int .u8 ((s.v i : Nat) : Int)) := by have := h.r _ _ (sc_v s t hi); rwa [Nat.zero_add] at this
theorem Stm.cg {w : World} {b : Nat} {s : KV} {t : Bool} (h : Stm w b s t) : w.cell? ⟨b, 64, none⟩ = some (.bool t) := by have := h.r _ _ (sc_g s t); rwa [Nat.zero_add] at this
theorem Stm.of {w : World} {b : Nat} {s : KV} {t : Bool} (hl : b < w.heap.size) (hk : ∀ i, i < 32 → w.cell? ⟨b, i, none⟩ = some (.int .u8 ((s.k i : Nat) : Int))) (hv : ∀ i, i < 32 → w.cell? ⟨b, 32 + i, none⟩ = some (.int .u8 ((s.v i : Nat) : Int))) (hg : w.cell? ⟨b, 64, none⟩ = some (.bool t)) (hz : ∀ i, i < 65 → w.frozen? ⟨b, i, none⟩ = false) : Stm w b s t := by
  refine ⟨hl, fun j u hu => ?_, hz⟩
  rw [Nat.zero_add]
  rcases (show j < 32 ∨ (32 ≤ j ∧ j < 64) ∨ j = 64 ∨ 65 ≤ j by omega) with e | e | e | e
  · rw [sc_k s t e] at hu; rw [hk j e]; exact hu
  · obtain ⟨i, rfl⟩ : ∃ i, j = 32 + i := ⟨j - 32, by omega⟩
    rw [sc_v s t (by omega)] at hu; rw [hv i (by omega)]; exact hu
  · subst e; rw [sc_g] at hu; rw [hg]; exact hu
  · rw [List.getElem?_eq_none (by rw [sc_len]; exact e)] at hu; cases hu
theorem Stm.keep {W w1 : World} {b : Nat} {s : KV} {t : Bool} (h : Stm W b s t) (hb : Below W.heap.size W w1) : Stm w1 b s t :=
  Stm.of (Nat.lt_of_lt_of_le h.lt hb.size) (fun i hi => later hb (h.ck i hi)) (fun i hi => later hb (h.cv i hi)) (later hb h.cg) (fun i hi => (hb.frozen (p := ⟨b, i, none⟩) h.lt).trans (h.z i hi))
theorem Stm.keptO {W w1 : World} {b : Nat} {r : Option Nat} {s : KV} {t : Bool} (h : Stm W b s t) (hg : W.grownBy w1 r) (hr : some b ≠ r) : Stm w1 b s t := by
  have hb := hg.block b h.lt hr
  exact Stm.of (Nat.lt_of_lt_of_le h.lt hg.size) (fun i hi => by rw [World.cell?_of_block (w := W) hb]; exact h.ck i hi) (fun i hi => by rw [World.cell?_of_block (w := W) hb]; exact h.cv i hi) (by rw [World.cell?_of_block (w := W) hb]; exact h.cg) (fun i hi => by rw [World.frozen?_of_block (w := W) hb]; exact h.z i hi)
theorem Stm.there {w : World} {b : Nat} {s : KV} {t : Bool} (h : Stm w b s t) (o m : Nat) (hm : o + m ≤ 65) : w.there b o m := fun j hj => by
  refine ⟨?_, h.z (o + j) (by omega)⟩
  have hl : o + j < (sc s t).length := by rw [sc_len]; omega
  have := h.r (o + j) _ (List.getElem?_eq_getElem hl)
  rw [Nat.zero_add] at this
  rw [this]; rfl
theorem Stm.made (w : World) (ty : TypeId) (s : KV) (t : Bool) (cs : Array Value) (h : cs = (sc s t).toArray) : Stm (w.alloc (.cells cs ty)) w.heap.size s t := by
  subst h
  refine ⟨by simp, fun j v hv => ?_, fun i _ => frozen_of_row _ _ _ _ _ (heap_alloc_new w _)⟩
  rw [cell_of_row _ _ _ _ _ _ (heap_alloc_new w _), Nat.zero_add]
  simpa using hv
theorem Stm.rangeV {w : World} {b : Nat} {s : KV} {t : Bool} (h : Stm w b s t) : w.rangeAt b 32 (ab s.v 32) := fun j u hu => by
  have hj : j < 32 := by
    rcases Nat.lt_or_ge j 32 with h' | h'
    · exact h'
    · rw [List.getElem?_eq_none (by rw [ab_len]; exact h')] at hu; cases hu
  rw [ab_at _ hj] at hu
  rw [h.cv j hj]; exact hu
theorem Stm.setK {w : World} {b : Nat} {s : KV} {t : Bool} (h : Stm w b s t) (k : Nat → Nat) : Stm (w.setCells b 0 (ab k 32)) b ⟨k, s.v⟩ t := by
  have hr := World.rangeAt_setCells_same w b 0 (ab k 32) (by rw [ab_len]; exact h.there 0 32 (by omega))
  refine Stm.of (by rw [size_setCells]; exact h.lt) (fun i hi => ?_) (fun i hi => ?_) ?_ (fun i hi => by rw [World.frozen?_setCells]; exact h.z i hi)
  · have := hr i _ (ab_at k hi); rwa [Nat.zero_add] at this
  · rw [World.cell?_setCells_out b _ 0 w _ (fun _ _ => Or.inr (by rw [ab_len]; simp only; omega))]; exact h.cv i hi
  · rw [World.cell?_setCells_out b _ 0 w _ (fun _ _ => Or.inr (by rw [ab_len]; simp only; omega))]; exact h.cg
theorem Stm.setV {w : World} {b : Nat} {s : KV} {t : Bool} (h : Stm w b s t) (v : Nat → Nat) : Stm (w.setCells b 32 (ab v 32)) b ⟨s.k, v⟩ t := by
  have hr := World.rangeAt_setCells_same w b 32 (ab v 32) (by rw [ab_len]; exact h.there 32 32 (by omega))
  refine Stm.of (by rw [size_setCells]; exact h.lt) (fun i hi => ?_) (fun i hi => hr i _ (ab_at v hi)) ?_ (fun i hi => by rw [World.frozen?_setCells]; exact h.z i hi)
  · rw [World.cell?_setCells_out b _ 32 w _ (fun _ _ => Or.inl (by simp only; omega))]; exact h.ck i hi
  · rw [World.cell?_setCells_out b _ 32 w _ (fun _ _ => Or.inr (by rw [ab_len]; simp only; omega))]; exact h.cg
theorem Stm.setV1 {w : World} {b : Nat} {s : KV} {t : Bool} (h : Stm w b s t) (j : Nat) (hj : j < 32) (x : Nat) : Stm (w.setCell ⟨b, 32 + j, none⟩ (.int .u8 (x : Int))) b ⟨s.k, fun i => if i = j then x else s.v i⟩ t := by
  refine Stm.of (by simpa using h.lt) (fun i hi => ?_) (fun i hi => ?_) ?_ (fun i hi => by rw [World.frozen?_setCell]; exact h.z i hi)
  · rw [World.cell?_setCell_other _ _ _ _ (by simp only [ne_eq, Addr.mk.injEq, not_and]; omega)]; exact h.ck i hi
  · by_cases e : i = j
    · subst e
      show _ = some (Value.int .u8 (((if i = i then x else s.v i : Nat)) : Int))
      rw [if_pos rfl]
      exact World.cell?_setCell_same _ _ _ (h.cv i hi)
    · show _ = some (Value.int .u8 (((if i = j then x else s.v i : Nat)) : Int))
      rw [if_neg e, World.cell?_setCell_other _ _ _ _ (by simp only [ne_eq, Addr.mk.injEq, not_and]; omega)]; exact h.cv i hi
  · rw [World.cell?_setCell_other _ _ _ _ (by simp only [ne_eq, Addr.mk.injEq, not_and]; omega)]; exact h.cg
theorem Stm.setG {w : World} {b : Nat} {s : KV} {t : Bool} (h : Stm w b s t) (u : Bool) : Stm (w.setCell ⟨b, 64, none⟩ (.bool u)) b s u := by
  refine Stm.of (by simpa using h.lt) (fun i hi => ?_) (fun i hi => ?_) (World.cell?_setCell_same _ _ _ h.cg) (fun i hi => by rw [World.frozen?_setCell]; exact h.z i hi)
  · rw [World.cell?_setCell_other _ _ _ _ (by simp only [ne_eq, Addr.mk.injEq, not_and]; omega)]; exact h.ck i hi
  · rw [World.cell?_setCell_other _ _ _ _ (by simp only [ne_eq, Addr.mk.injEq, not_and]; omega)]; exact h.cv i hi
theorem Stm.baK {w : World} {b : Nat} {s : KV} {t : Bool} (h : Stm w b s t) (hs : s.ok) : BA w (some ⟨b, 0, none⟩) 32 s.k := ⟨hs.1, Or.inr ⟨b, 0, rfl, ⟨fun i hi => by rw [Nat.zero_add]; exact h.ck i hi⟩⟩⟩
theorem Stm.baV {w : World} {b : Nat} {s : KV} {t : Bool} (h : Stm w b s t) (hs : s.ok) : BA w (some ⟨b, 32, none⟩) 32 s.v := ⟨hs.2, Or.inr ⟨b, 32, rfl, ⟨fun i hi => h.cv i hi⟩⟩⟩
theorem Stm.congr {w : World} {b : Nat} {s r : KV} {t : Bool} (h : Stm w b s t) (hk : ∀ i, i < 32 → s.k i = r.k i) (hv : ∀ i, i < 32 → s.v i = r.v i) : Stm w b r t :=
  Stm.of h.lt (fun i hi => by rw [← hk i hi]; exact h.ck i hi) (fun i hi => by rw [← hv i hi]; exact h.cv i hi) h.cg h.z
end Go.Proofs.YtiahjnfopeiliaaDoor
