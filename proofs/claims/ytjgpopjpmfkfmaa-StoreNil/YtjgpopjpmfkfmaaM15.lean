/- Layer 15, pure: entries on a disk, over the disk's model. (Made ahead; it speaks of the model alone.) -/
import Derived.Test.YtjgpopjpmfkfmaaN14M
import Derived.Test.YtjgpopjpmfkfmaaN14F
namespace Go.Proofs.Ytjgpopjpmfkfmaa
set_option maxRecDepth 100000

/-- How many sectors an entry of m bytes takes. -/
def tk (m : Nat) : Nat := (m + 65) / 64
theorem tk_pos (m : Nat) : 1 ≤ tk m := by unfold tk; omega
/-- .. and some entries. -/
def tks : List (List Nat) → Nat
  | [] => 0
  | b :: r => tk b.length + tks r
theorem tks_app : ∀ (l r : List (List Nat)), tks (l ++ r) = tks l + tks r
  | [], r => by simp [tks]
  | b :: l, r => by
    show tk b.length + tks (l ++ r) = tk b.length + tks l + tks r
    rw [tks_app l r]
    omega
theorem tks_len : ∀ l : List (List Nat), l.length ≤ tks l
  | [] => Nat.le_refl _
  | b :: r => by
    have := tks_len r
    have := tk_pos b.length
    show r.length + 1 ≤ tk b.length + tks r
    omega
/-- The bytes of so many sectors, from one on. -/
def cat64 (C : Nat → List Nat) (p : Nat) : Nat → List Nat
  | 0 => []
  | j + 1 => cat64 C p j ++ C (p + j)
/-- The entry that begins at a place: how long it says it is; its bytes. -/
def elen (C : Nat → List Nat) (p : Nat) : Nat := (C (3 + p)).getD 0 0 + 256 * (C (3 + p)).getD 1 0
def ent (C : Nat → List Nat) (p k : Nat) : List Nat := ((cat64 C (3 + p) (tk k)).drop 2).take k
/-- n entries, in so many sectors, from a place on: what they are, and where they end. -/
def prs (C : Nat → List Nat) (u : Nat) : Nat → Nat → Option (List (List Nat) × Nat)
  | 0, p => some ([], p)
  | n + 1, p => if p < u ∧ elen C p ≤ 200 ∧ p + tk (elen C p) ≤ u then (prs C u n (p + tk (elen C p))).map fun x => (ent C p (elen C p) :: x.1, x.2) else none
/-- An entry stands at a place. -/
structure Holds (C : Nat → List Nat) (p : Nat) (b : List Nat) : Prop where
  k : elen C p = b.length
  e : ent C p b.length = b
  m : b.length ≤ 200
def lays (C : Nat → List Nat) : Nat → List (List Nat) → Prop
  | _, [] => True
  | p, b :: r => Holds C p b ∧ lays C (p + tk b.length) r
theorem prs_lays {C : Nat → List Nat} {u : Nat} : ∀ {l : List (List Nat)} {p : Nat}, lays C p l → p + tks l ≤ u → prs C u l.length p = some (l, p + tks l)
  | [], p, _, _ => rfl
  | b :: r, p, h, hu => by
    have hp := tk_pos b.length
    have e : tks (b :: r) = tk b.length + tks r := rfl
    have hk := h.1.k
    show (if p < u ∧ elen C p ≤ 200 ∧ p + tk (elen C p) ≤ u then (prs C u r.length (p + tk (elen C p))).map fun x => (ent C p (elen C p) :: x.1, x.2) else none) = _
    rw [hk, if_pos ⟨by omega, h.1.m, by omega⟩, prs_lays h.2 (by omega), h.1.e]
    show some _ = some _
    rw [e, Nat.add_assoc]
theorem lays_prs {C : Nat → List Nat} (hC : ∀ i, (C i).length = 64) {u : Nat} : ∀ {n p : Nat} {l : List (List Nat)} {e : Nat}, prs C u n p = some (l, e) → lays C p l ∧ l.length = n ∧ e = p + tks l
  | 0, p, l, e, h => by
    have h : some (([] : List (List Nat)), p) = some (l, e) := h
    cases h
    exact ⟨trivial, rfl, rfl⟩
  | n + 1, p, l, e, h => by
    have h : (if p < u ∧ elen C p ≤ 200 ∧ p + tk (elen C p) ≤ u then (prs C u n (p + tk (elen C p))).map fun x => (ent C p (elen C p) :: x.1, x.2) else none) = some (l, e) := h
    split at h
    · rename_i hh
      obtain ⟨⟨r, e2⟩, h1, h2⟩ := Option.map_eq_some_iff.1 h
      cases h2
      obtain ⟨g1, g2, g3⟩ := lays_prs hC h1
      have hl : ∀ j, (cat64 C (3 + p) j).length = 64 * j := fun j => by
        induction j with
        | zero => rfl
        | succ j ih => show (_ ++ _ : List Nat).length = _; rw [List.length_append, ih, hC]; omega
      have he : (ent C p (elen C p)).length = elen C p := by
        unfold ent
        rw [List.length_take, List.length_drop, hl]
        unfold tk
        omega
      refine ⟨⟨⟨he.symm, by rw [he], by rw [he]; exact hh.2.1⟩, by rw [he]; exact g1⟩, by rw [List.length_cons, g2], ?_⟩
      show e2 = p + (tk _ + tks r)
      rw [he, g3]
      omega
    · cases h
theorem cat64_congr {C C' : Nat → List Nat} {p : Nat} : ∀ {j : Nat}, (∀ i, p ≤ i → i < p + j → C i = C' i) → cat64 C p j = cat64 C' p j
  | 0, _ => rfl
  | j + 1, h => by
    show cat64 C p j ++ C (p + j) = cat64 C' p j ++ C' (p + j)
    rw [cat64_congr (fun i h1 h2 => h i h1 (by omega)), h (p + j) (by omega) (by omega)]
theorem Holds.congr {C C' : Nat → List Nat} {p : Nat} {b : List Nat} (h : Holds C p b) (hc : ∀ i, 3 + p ≤ i → i < 3 + p + tk b.length → C' i = C i) : Holds C' p b := by
  have e0 : C' (3 + p) = C (3 + p) := hc (3 + p) (Nat.le_refl _) (by have := tk_pos b.length; omega)
  refine ⟨?_, ?_, h.m⟩
  · unfold elen; rw [e0]; exact h.k
  · unfold ent
    rw [cat64_congr hc]
    exact h.e
theorem lays_congr {C C' : Nat → List Nat} : ∀ {l : List (List Nat)} {p : Nat}, lays C p l → (∀ i, 3 + p ≤ i → i < 3 + p + tks l → C' i = C i) → lays C' p l
  | [], _, _, _ => trivial
  | b :: r, p, h, hc => by
    have e : tks (b :: r) = tk b.length + tks r := rfl
    exact ⟨h.1.congr (fun i h1 h2 => hc i h1 (by omega)), lays_congr h.2 (fun i h1 h2 => hc i (by omega) (by omega))⟩
theorem lays_app {C : Nat → List Nat} : ∀ {l r : List (List Nat)} {p : Nat}, lays C p (l ++ r) ↔ lays C p l ∧ lays C (p + tks l) r
  | [], r, p => by simp [lays, tks]
  | b :: l, r, p => by
    have e : p + tks (b :: l) = p + tk b.length + tks l := by show p + (tk b.length + tks l) = _; omega
    rw [e]
    show Holds C p b ∧ lays C (p + tk b.length) (l ++ r) ↔ (Holds C p b ∧ lays C (p + tk b.length) l) ∧ lays C (p + tk b.length + tks l) r
    rw [lays_app, and_assoc]
/-- The bytes of an entry as it is written: its length, its bytes, noughts. -/
def encf (f : Nat → Nat) (m i : Nat) : Nat := if i = 0 then m % 256 else if i = 1 then m / 256 else pz f m (i - 2)
def esec (f : Nat → Nat) (m j : Nat) : List Nat := fl (fun i => encf f m (64 * j + i)) 64
theorem encf_lt {f : Nat → Nat} (h : ∀ i, f i < 256) {m : Nat} (hm : m ≤ 200) (i : Nat) : encf f m i < 256 := by
  unfold encf
  split
  · omega
  · split
    · omega
    · exact pz_lt h m _
theorem esec_sec {f : Nat → Nat} (h : ∀ i, f i < 256) {m : Nat} (hm : m ≤ 200) (j : Nat) : sec (esec f m j) := by
  refine ⟨fl_len _ _, fun x hx => ?_⟩
  obtain ⟨i, _, rfl⟩ := List.mem_map.1 hx
  exact encf_lt h hm _
theorem cat64_fl {C : Nat → List Nat} {p : Nat} {e : Nat → Nat} : ∀ {j : Nat}, (∀ i, i < j → C (p + i) = fl (fun k => e (64 * i + k)) 64) → cat64 C p j = fl e (64 * j)
  | 0, _ => rfl
  | j + 1, h => by
    show cat64 C p j ++ C (p + j) = _
    rw [cat64_fl (fun i hi => h i (by omega)), h j (by omega), fl_cat]
    rw [show 64 * j + 64 = 64 * (j + 1) by omega]
    refine fl_congr fun i _ => ?_
    unfold cat
    split
    · rfl
    · show e (64 * j + (i - 64 * j)) = e i
      congr 1
      omega
/-- What is written so, is there. -/
theorem Holds.of {C : Nat → List Nat} {p : Nat} {f : Nat → Nat} {m : Nat} (hm : m ≤ 200) (h : ∀ j, j < tk m → C (3 + p + j) = esec f m j) : Holds C p (fl f m) := by
  have h0 : C (3 + p) = esec f m 0 := h 0 (tk_pos m)
  have hx : ∀ i, i < 64 → (esec f m 0).getD i 0 = encf f m i := fun i hi => by
    unfold esec
    rw [List.getD_eq_getElem?_getD, fl_at _ hi]
    show encf f m (64 * 0 + i) = _
    rw [Nat.mul_zero, Nat.zero_add]
  refine ⟨?_, ?_, by rw [fl_len]; exact hm⟩
  · unfold elen
    rw [h0, hx 0 (by omega), hx 1 (by omega), fl_len]
    show m % 256 + 256 * (m / 256) = m
    omega
  · unfold ent
    rw [fl_len, cat64_fl (e := encf f m) h]
    apply List.ext_getElem?
    intro i
    by_cases hi : i < m
    · rw [List.getElem?_take, if_pos hi, List.getElem?_drop, fl_at f hi, fl_at _ (by unfold tk; omega)]
      show some (if 2 + i = 0 then _ else if 2 + i = 1 then _ else pz f m (2 + i - 2)) = _
      rw [if_neg (by omega), if_neg (by omega), show 2 + i - 2 = i by omega]
      show some (if i < m then f i else 0) = _
      rw [if_pos hi]
    · rw [List.getElem?_take, if_neg hi, List.getElem?_eq_none (by rw [fl_len]; omega)]
/-- The mark's bytes: how many entries, how many sectors. -/
def le8 (n i : Nat) : Nat := n / 256 ^ i % 256
def mkf (n u i : Nat) : Nat := if i < 8 then le8 n i else le8 u (i - 8)
theorem mkf_lt (n u i : Nat) : mkf n u i < 256 := by
  unfold mkf le8
  split <;> exact Nat.mod_lt _ (by decide)
def mkv (l : List (List Nat)) : List Nat := pd (mkf l.length (tks l)) 16
theorem mkv_sec (l : List (List Nat)) : sec (mkv l) := pd_sec (mkf_lt _ _) 16
/-- Eight bytes, the least first. -/
def num8 (g : Nat → Nat) : Nat := g 0 + 256 * (g 1 + 256 * (g 2 + 256 * (g 3 + 256 * (g 4 + 256 * (g 5 + 256 * (g 6 + 256 * g 7))))))
theorem num8_congr {g h : Nat → Nat} (e : ∀ i, i < 8 → g i = h i) : num8 g = num8 h := by
  unfold num8
  rw [e 0 (by omega), e 1 (by omega), e 2 (by omega), e 3 (by omega), e 4 (by omega), e 5 (by omega), e 6 (by omega), e 7 (by omega)]
theorem num8_le8 {n : Nat} (h : n < 18446744073709551616) : num8 (le8 n) = n := by
  unfold num8 le8
  simp only [Nat.pow_zero, Nat.div_one, show (256 : Nat) ^ 1 = 256 from rfl, show (256 : Nat) ^ 2 = 65536 from rfl, show (256 : Nat) ^ 3 = 16777216 from rfl, show (256 : Nat) ^ 4 = 4294967296 from rfl, show (256 : Nat) ^ 5 = 1099511627776 from rfl, show (256 : Nat) ^ 6 = 281474976710656 from rfl, show (256 : Nat) ^ 7 = 72057594037927936 from rfl]
  omega
theorem le8_num8 {g : Nat → Nat} (h : ∀ i, g i < 256) : ∀ i, i < 8 → le8 (num8 g) i = g i := by
  intro i hi
  have h0 := h 0
  have h1 := h 1
  have h2 := h 2
  have h3 := h 3
  have h4 := h 4
  have h5 := h 5
  have h6 := h 6
  have h7 := h 7
  have hc : i = 0 ∨ i = 1 ∨ i = 2 ∨ i = 3 ∨ i = 4 ∨ i = 5 ∨ i = 6 ∨ i = 7 := by omega
  unfold num8 le8
  rcases hc with rfl | rfl | rfl | rfl | rfl | rfl | rfl | rfl
  all_goals simp only [Nat.pow_zero, Nat.div_one, show (256 : Nat) ^ 1 = 256 from rfl, show (256 : Nat) ^ 2 = 65536 from rfl, show (256 : Nat) ^ 3 = 16777216 from rfl, show (256 : Nat) ^ 4 = 4294967296 from rfl, show (256 : Nat) ^ 5 = 1099511627776 from rfl, show (256 : Nat) ^ 6 = 281474976710656 from rfl, show (256 : Nat) ^ 7 = 72057594037927936 from rfl]
  all_goals omega
/-- What a mark's value says: so many entries, so many sectors. -/
def mkN (v : List Nat) : Nat := num8 fun i => v.getD i 0
def mkU (v : List Nat) : Nat := num8 fun i => v.getD (8 + i) 0
theorem mkN_of {n u : Nat} (h : n < 18446744073709551616) : mkN (pd (mkf n u) 16) = n := by
  have e : ∀ i, i < 8 → (pd (mkf n u) 16).getD i 0 = le8 n i := fun i hi => by
    unfold pd
    rw [List.getD_eq_getElem?_getD, fl_at _ (by omega)]
    show (if i < 16 then (if i < 8 then le8 n i else _) else 0) = _
    rw [if_pos (by omega), if_pos hi]
  exact (num8_congr e).trans (num8_le8 h)
theorem mkU_of {n u : Nat} (h : u < 18446744073709551616) : mkU (pd (mkf n u) 16) = u := by
  have e : ∀ i, i < 8 → (pd (mkf n u) 16).getD (8 + i) 0 = le8 u i := fun i hi => by
    unfold pd
    rw [List.getD_eq_getElem?_getD, fl_at _ (by omega)]
    show (if 8 + i < 16 then (if 8 + i < 8 then _ else le8 u (8 + i - 8)) else 0) = _
    rw [if_pos (by omega), if_neg (by omega), show 8 + i - 8 = i by omega]
  exact (num8_congr e).trans (num8_le8 h)
/-- What a store's disk tells: the mark's value, the sectors, how many there are. -/
def opn (v : List Nat) (C : Nat → List Nat) (N : Nat) : Option (List (List Nat)) :=
  if v = pd (mkf (mkN v) (mkU v)) 16 ∧ mkU v + 3 ≤ N then (match prs C (mkU v) (mkN v) 0 with
    | some (l, e) => if e = mkU v then some l else none
    | none => none) else none
theorem opn_lays {l : List (List Nat)} {C : Nat → List Nat} {N : Nat} (h : lays C 0 l) (hN : tks l + 3 ≤ N) (hb : N ≤ 4096) : opn (mkv l) C N = some l := by
  have hl := tks_len l
  have e1 : mkN (mkv l) = l.length := mkN_of (by omega)
  have e2 : mkU (mkv l) = tks l := mkU_of (by omega)
  unfold opn
  rw [e1, e2, if_pos ⟨rfl, hN⟩, prs_lays h (by omega), Nat.zero_add]
  exact if_pos rfl
theorem lays_opn {v : List Nat} {C : Nat → List Nat} {N : Nat} (hC : ∀ i, (C i).length = 64) {l : List (List Nat)} (h : opn v C N = some l) : lays C 0 l ∧ v = mkv l ∧ tks l + 3 ≤ N := by
  unfold opn at h
  split at h
  · rename_i hh
    split at h
    · rename_i l' e hp
      split at h
      · rename_i he
        cases h
        obtain ⟨g1, g2, g3⟩ := lays_prs hC hp
        rw [Nat.zero_add] at g3
        have e3 : mkU v = tks l := by rw [← he, g3]
        refine ⟨g1, ?_, by rw [← e3]; exact hh.2⟩
        unfold mkv
        rw [g2, ← e3]
        exact hh.1
      · cases h
    · cases h
  · cases h
end Go.Proofs.Ytjgpopjpmfkfmaa
