/- Layer 15: the document's numbers in bytes, and its mark. Layer 13: the document's disk in memory; its small methods. Layer 13: the document's Read and Write. -/
import Derived.Test.YtpophfeommlajaaMP30
import Derived.Test.YtpophfeommlajaaMP28
namespace Go.Proofs.Ytpophfeommlajaa
set_option maxRecDepth 100000
open Go.RowKit Go.Maps
attribute [local go_sem ↓] Go.wp_at_zero Go.wp_at_succ

def pn (f : Nat → Nat) : Nat → Nat
  | 0 => 0
  | i + 1 => pn f i + f i * 256 ^ i
theorem pn_lt {f : Nat → Nat} (h : ∀ i, f i < 256) : ∀ i, pn f i < 256 ^ i
  | 0 => Nat.one_pos
  | i + 1 => by
    have h1 := pn_lt h i
    have h2 := h i
    have h3 : f i * 256 ^ i ≤ 255 * 256 ^ i := Nat.mul_le_mul_right _ (by omega)
    show pn f i + f i * 256 ^ i < 256 ^ (i + 1)
    rw [Nat.pow_succ]
    omega
/-- The document's number of eight bytes: none above 2^30. -/
def numR (f : Nat → Nat) : Int := if num8 f ≤ 1073741824 then (num8 f : Int) else -1
theorem num8_high {f : Nat → Nat} {j : Nat} (h4 : 4 ≤ j) (h8 : j < 8) (hf : 0 < f j) : 4294967296 ≤ num8 f := by
  unfold num8
  have hc : j = 4 ∨ j = 5 ∨ j = 6 ∨ j = 7 := by omega
  rcases hc with rfl | rfl | rfl | rfl <;> omega
theorem num8_low {f : Nat → Nat} (h : ∀ j, 4 ≤ j → j < 8 → f j = 0) : num8 f = pn f 4 := by
  unfold num8
  rw [h 4 (by omega) (by omega), h 5 (by omega) (by omega), h 6 (by omega) (by omega), h 7 (by omega) (by omega)]
  simp only [pn, Nat.pow_zero, Nat.mul_one, Nat.pow_one, show (256 : Nat) ^ 2 = 65536 from rfl, show (256 : Nat) ^ 3 = 16777216 from rfl]
  omega
set_option maxRecDepth 100000 in
set_option maxHeartbeats 4000000 in
theorem number_any {w : World} {b o c : Nat} {f : Nat → Nat} (h : BA w (some ⟨b, o, none⟩) 8 f) : Calls Try.prog 29 #[.slice (some ⟨b, o, none⟩) 8 c] w fun e w' => e = .returned (.int .i64 (numR f)) ∧ w' = w := by
  have hl := h.lt
  have HC : Hid (∀ i, i < 8 → w.cell? ⟨b, o + i, none⟩ = some (.int .u8 ((f i : Nat) : Int))) := fun i hi => by
    rcases h.at_ with h0 | ⟨b', o', e, hr⟩
    · cases h0
    · cases e
      exact hr.c i hi
  have HL := hide hl
  clear h hl
  go_enter Try.func29, Try.ntmps29
  go_wp2_with fail
  go_loopg [3, 4, 5] 8 (fun g' s3 s4 s5 wr => ∃ i q : Nat, g' = 8 - i ∧ i ≤ 8 ∧ q = min i 4 ∧ s5 = .int .i64 (i : Int) ∧ s3 = .int .i64 (pn f q : Int) ∧ s4 = .int .i64 ((256 ^ q : Nat) : Int) ∧ wr = w ∧ Hid (∀ j, 4 ≤ j → j < i → f j = 0))
  case atStart => exact ⟨0, 0, rfl, by omega, rfl, rfl, rfl, rfl, rfl, fun j h1 h2 => by omega⟩
  case round =>
    obtain ⟨i, q, rfl, hi, hq, rfl, rfl, rfl, rfl, HZ⟩ := hrel
    by_cases hlt : i < 8
    · have hcell := HC.out i hlt
      have hlt' : (i : Int) < 8 := by omega
      by_cases h4 : i < 4
      · have hq' : q = i := by omega
        subst hq'
        clear hq
        have h3 : decide ((3 : Int) < (q : Int)) = false := decide_eq_false (by omega)
        have h4' : (q : Int) < 4 := by omega
        have hp := pn_lt HL.out q
        have hfi := HL.out q
        have hpw : 256 ^ q ≤ 16777216 := by
          have : (256 : Nat) ^ q ≤ 256 ^ 3 := Nat.pow_le_pow_right (by decide) (by omega)
          exact this
        have e1 : wrap64 ((f q : Int) * ((256 ^ q : Nat) : Int)) = ((f q * 256 ^ q : Nat) : Int) := by
          have h5 : f q * 256 ^ q ≤ 255 * 16777216 := Nat.mul_le_mul (by omega) hpw
          rw [← Int.natCast_mul]
          unfold wrap64
          omega
        have e2 : wrap64 ((pn f q : Int) + (f q : Int) * ((256 ^ q : Nat) : Int)) = (pn f (q + 1) : Int) := by
          rw [← Int.natCast_mul]
          have h5 : f q * 256 ^ q ≤ 255 * 16777216 := Nat.mul_le_mul (by omega) hpw
          show _ = ((pn f q + f q * 256 ^ q : Nat) : Int)
          unfold wrap64
          omega
        have e3 : wrap64 (((256 ^ q : Nat) : Int) * 256) = ((256 ^ (q + 1) : Nat) : Int) := by
          rw [Nat.pow_succ]
          unfold wrap64
          omega
        have e0 : wrap64 ((f q : Nat) : Int) = ((f q : Nat) : Int) := by unfold wrap64; omega
        clear hp hfi hpw
        obtain ⟨P, hP⟩ : ∃ P : Nat, P = 256 ^ q := ⟨_, rfl⟩
        rw [← hP] at e1 e2 e3
        rw [← hP]
        clear hP
        go_wp2_with fail
        go_roundg (8 - (q + 1))
        case measure => omega
        case rel => exact ⟨q + 1, q + 1, rfl, by omega, by omega, by simp, by simp [e2], by simp [e3], rfl, fun j h1 h2 => by omega⟩
      · have h3 : (3 : Int) < (i : Int) := by omega
        have h4' : decide ((i : Int) < 4) = false := decide_eq_false (by omega)
        obtain rfl : q = 4 := by omega
        clear hq
        by_cases hf : f i = 0
        · rw [hf] at hcell
          go_wp2_with fail
          go_roundg (8 - (i + 1))
          case measure => omega
          case rel => exact ⟨i + 1, 4, rfl, by omega, by omega, by simp, rfl, rfl, rfl, fun j h1 h2 => by
            by_cases e : j = i
            · subst e; exact hf
            · exact HZ.out j h1 (by omega)⟩
        · have hf' : (0 : Int) < ((f i : Nat) : Int) := by omega
          have HR : Hid (numR f = -1) := if_neg (by have := num8_high (f := f) (j := i) (by omega) hlt (by omega); omega)
          go_wp2_with fail
          go_ret
          exact ⟨by rw [HR.out]; rfl, rfl⟩
    · obtain rfl : i = 8 := by omega
      obtain rfl : q = 4 := by omega
      clear hq
      have HN := hide (num8_low (fun j h1 h2 => HZ.out j h1 h2))
      by_cases hb : pn f 4 ≤ 1073741824
      · have hb' : decide ((1073741824 : Int) < (pn f 4 : Int)) = false := decide_eq_false (by omega)
        have HR : Hid (numR f = (pn f 4 : Int)) := by show numR f = _; unfold numR; rw [HN.out, if_pos hb]
        go_wp2_with fail
        go_ret
        exact ⟨by rw [HR.out]; rfl, rfl⟩
      · have hb' : (1073741824 : Int) < (pn f 4 : Int) := by omega
        have HR : Hid (numR f = -1) := by show numR f = _; unfold numR; rw [HN.out, if_neg hb]
        go_wp2_with fail
        go_ret
        exact ⟨by rw [HR.out]; rfl, rfl⟩
/-- Bytes in a row that was made. -/
def OwP (w : World) (f : Nat → Nat) (m : Nat) (e : Ending) (w' : World) : Prop := ∃ z c, e = .returned (.slice z m c) ∧ w'.ownsRow w.heap.size 5 1 (.slice z m c) m (cells8 (fl f m)) ∧ Below w.heap.size w w'
structure OwR (w wr : World) (v : Value) (f : Nat → Nat) (j : Nat) : Prop where
  k : Below w.heap.size w wr
  o : wr.ownsRow w.heap.size 5 1 v j (cells8 (fl f j))
theorem OwR.step {w wr w1 : World} {v v' : Value} {f : Nat → Nat} {j : Nat} (h : OwR w wr v f j) {o : Obj} {x : Nat} (hx : x = f j) (ho : w1.ownsRow w.heap.size 5 1 v' (j + 1) (cells8 (fl f j ++ fl (fun _ => x) 1))) (hg : (wr.alloc o).grownBy w1 v.ownBlock) : OwR w w1 v' f (j + 1) := by
  refine ⟨below_append (K.alloc h.k o) (own_keep h.o (K.alloc (Below.refl _ _) _)) hg, ?_⟩
  rw [fl_succ]
  subst hx
  exact ho
set_option maxRecDepth 100000 in
set_option maxHeartbeats 4000000 in
theorem bytes_any (w : World) {n : Nat} (hn : n < 4611686018427387904) : Calls Try.prog 65 #[.int .i64 (n : Int)] w (OwP w (le8 n) 8) := by
  have HN := hide hn
  clear hn
  go_enter Try.func65, Try.ntmps65
  go_wp2_with fail
  go_loopg [0, 3, 4] 8 (fun g' s0 s3 s4 wr => ∃ i : Nat, g' = 8 - i ∧ i ≤ 8 ∧ s4 = .int .i64 (i : Int) ∧ s0 = .int .i64 ((n / 256 ^ i : Nat) : Int) ∧ OwR w wr s3 (le8 n) i)
  case atStart => exact ⟨0, rfl, by omega, rfl, by simp, ⟨Below.refl _ _, World.ownsRow_nil w _ _ _⟩⟩
  case round =>
    obtain ⟨i, rfl, hi, rfl, rfl, hR⟩ := hrel
    obtain ⟨p, cap, rfl, _, _⟩ := own_max hR.o
    have HR := hide hR
    clear hR
    by_cases hlt : i < 8
    · have hlt' : (i : Int) < 8 := by omega
      obtain ⟨q, hq⟩ : ∃ q, q = n / 256 ^ i := ⟨_, rfl⟩
      have hq2 : q < 4611686018427387904 := by rw [hq]; exact Nat.lt_of_le_of_lt (Nat.div_le_self _ _) HN.out
      obtain ⟨x, hx⟩ : ∃ x, x = q % 256 := ⟨_, rfl⟩
      have HX : Hid (x = le8 n i) := by show _ = n / 256 ^ i % 256; rw [hx, hq]
      have HQ : Hid (q / 256 = n / 256 ^ (i + 1)) := by show _ = _; rw [hq, Nat.div_div_eq_div_mul, Nat.pow_succ]
      rw [← hq]
      clear hq
      have hb : (q : Int) % 256 = (x : Int) := by omega
      have hx256 : x < 256 := by omega
      have hb2 : (x : Int) % 256 = (x : Int) := by omega
      clear hx
      go_upto_region 6 with (refine wpList_app (base := w.heap.size) rfl _ _ rfl rfl (own_keep HR.out.o (K.alloc (Below.refl _ _) _)) rfl (one_made wr x hx256) (by omega) (K.alloc HR.out.k _).size ?_; intro v1 w1 hO1 hg1; have HR1 := hide (HR.out.step HX.out hO1 hg1); clear hO1 hg1)
      go_wp2_with fail
      go_roundg (8 - (i + 1))
      case measure => omega
      case rel => exact ⟨i + 1, rfl, by omega, by simp, by rw [← HQ.out]; simp, HR1.out⟩
    · obtain rfl : i = 8 := by omega
      go_wp2_with fail
      go_ret
      exact ⟨p, cap, rfl, HR.out.o, HR.out.k⟩
theorem mark_fl (n u : Nat) : fl (le8 n) 8 ++ fl (le8 u) 8 = fl (mkf n u) 16 := by
  rw [fl_cat]
  exact fl_congr fun i _ => rfl
theorem short_bound {L : List (List Nat)} (hs : short L) (hn : L.length ≤ 1000000) : tks L < 4611686018427387904 := by
  have := tks_short hs
  omega
set_option maxRecDepth 100000 in
set_option maxHeartbeats 4000000 in
theorem mark_any {w : World} {z : Option Addr} {c : Nat} {L : List (List Nat)} (h : Vw w z L) (hs : short L) (hn : L.length ≤ 1000000) : Calls Try.prog 33 #[.slice z L.length c] w (OwP w (mkf L.length (tks L)) 16) := by
  have HV := hide h
  have HS := hide hs
  have HT := hide (short_bound hs hn)
  clear h hs
  go_enter Try.func33, Try.ntmps33
  go_wp2_with (first
    | (have hq := HO1.out; clear hq; go_at_call 65; refine Calls.mono (bytes_any _ HT.out) ?_; rintro e W2 ⟨z2, c2, rfl, hO2, hB2⟩; have HO2 := hide hO2; have HB2 := hide hB2; have HO12 := hide (own_keep HO1.out hB2); clear hO2 hB2)
    | (go_at_call 65; refine Calls.mono (bytes_any _ (by omega)) ?_; rintro e W1 ⟨z1, c1, rfl, hO1, hB1⟩; have HO1 := hide hO1; have HB1 := hide hB1; clear hO1 hB1)
    | (go_at_call 46; refine Calls.mono (all_any (HV.out.keep HB1.out) HS.out hn) ?_; rintro e W3 ⟨rfl, rfl⟩)
    | (refine wpList_app (base := w.heap.size) rfl _ _ rfl rfl HO12.out rfl (own_ba HO2.out (fun i => Nat.mod_lt _ (by decide))) (by omega) (K.call HB1.out HB2.out).size ?_; intro v3 W4 hO4 hg4; have HO4 := hide hO4; have HB4 := hide (below_append (K.call HB1.out HB2.out) HO12.out hg4); clear hO4 hg4))
  obtain ⟨z4, c4, e4, _, _⟩ := own_max HO4.out
  subst e4
  go_ret
  have ho := HO4.out
  rw [mark_fl] at ho
  exact ⟨z4, c4, rfl, ho, HB4.out⟩
end Go.Proofs.Ytpophfeommlajaa
namespace Go.Proofs.Ytpophfeommlajaa
set_option maxRecDepth 100000
open Go.RowKit Go.Maps
attribute [local go_sem ↓] Go.wp_at_zero Go.wp_at_succ

/-- A slice of a sector's bytes, which nobody writes any more. -/
def Sl (w : World) (G : Nat → Bool) (r la na : Nat) (v : Value) (l : List Nat) : Prop := ∃ g c, v = .slice (some ⟨g, 0, none⟩) 64 c ∧ w.rangeAt g 0 (cells8 l) ∧ G g = true ∧ X3 r la na g = false ∧ 64 ≤ c
def fuI (D : DM) : Int := match D.fu with
  | none => -1
  | some k => (k : Int)
/-- The document's disk. -/
structure RDk (w : World) (r la na cl cn : Nat) (zl zn : Option Addr) (D : DM) (G : Nat → Bool) : Prop where
  c0 : w.cell? ⟨r, 0, none⟩ = some (.slice zl D.n cl)
  c1 : w.cell? ⟨r, 1, none⟩ = some (.slice zn D.n cn)
  c2 : w.cell? ⟨r, 2, none⟩ = some (.int .i64 (fuI D))
  c3 : w.cell? ⟨r, 3, none⟩ = some (.bool D.dn)
  z : ∀ i, i < 4 → w.frozen? ⟨r, i, none⟩ = false
  a : 0 < D.n → zl = some ⟨la, 0, none⟩ ∧ zn = some ⟨na, 0, none⟩ ∧ la ≠ r ∧ na ≠ r ∧ la ≠ na
  lz : ∀ i, i < D.n → w.frozen? ⟨la, i, none⟩ = false
  nz : ∀ i, i < D.n → w.frozen? ⟨na, i, none⟩ = false
  lv : ∀ i, i < D.n → ∃ v, w.cell? ⟨la, i, none⟩ = some v ∧ Sl w G r la na v (D.la i)
  nv : ∀ i, i < D.n → ∃ v, w.cell? ⟨na, i, none⟩ = some v ∧ ((D.nw i = none ∧ v = .slice none 0 0) ∨ ∃ l, D.nw i = some l ∧ Sl w G r la na v l)
  gx : ∀ k, X3 r la na k = true → G k = true
  gl : ∀ k, G k = true → k < w.heap.size
  ok : D.ok
theorem RDk.rl {w : World} {r la na cl cn : Nat} {zl zn : Option Addr} {D : DM} {G : Nat → Bool} (h : RDk w r la na cl cn zl zn D G) : r < w.heap.size := h.gl r (h.gx r (X3_of.2 (Or.inl rfl)))
theorem Sl.same {w w' : World} {G : Nat → Bool} {r la na : Nat} {v : Value} {l : List Nat} (h : Sl w G r la na v l) (hb : ∀ k, G k = true → X3 r la na k = false → w'.heap[k]? = w.heap[k]?) : Sl w' G r la na v l := by
  obtain ⟨g, c, e, h1, h2, h3, h4⟩ := h
  exact ⟨g, c, e, fun j u hu => (World.cell?_of_block (w := w) (hb g h2 h3)).trans (h1 j u hu), h2, h3, h4⟩
theorem Sl.more {w : World} {G G' : Nat → Bool} {r la na : Nat} {v : Value} {l : List Nat} (h : Sl w G r la na v l) (hG : ∀ k, G k = true → G' k = true) : Sl w G' r la na v l := by
  obtain ⟨g, c, e, h1, h2, h3⟩ := h
  exact ⟨g, c, e, h1, hG g h2, h3⟩
/-- Where its own stays, it stays. -/
theorem RDk.same {w w' : World} {r la na cl cn : Nat} {zl zn : Option Addr} {D : DM} {G : Nat → Bool} (h : RDk w r la na cl cn zl zn D G) (hs : w.heap.size ≤ w'.heap.size) (hb : ∀ k, G k = true → w'.heap[k]? = w.heap[k]?) : RDk w' r la na cl cn zl zn D G := by
  have e1 := hb r (h.gx r (X3_of.2 (Or.inl rfl)))
  have e2 := hb la (h.gx la (X3_of.2 (Or.inr (Or.inl rfl))))
  have e3 := hb na (h.gx na (X3_of.2 (Or.inr (Or.inr rfl))))
  have c1 : ∀ o, w'.cell? ⟨r, o, none⟩ = w.cell? ⟨r, o, none⟩ := fun o => World.cell?_of_block (w := w) e1
  have c2 : ∀ o, w'.cell? ⟨la, o, none⟩ = w.cell? ⟨la, o, none⟩ := fun o => World.cell?_of_block (w := w) e2
  have c3 : ∀ o, w'.cell? ⟨na, o, none⟩ = w.cell? ⟨na, o, none⟩ := fun o => World.cell?_of_block (w := w) e3
  refine ⟨(c1 0).trans h.c0, (c1 1).trans h.c1, (c1 2).trans h.c2, (c1 3).trans h.c3, fun i hi => (World.frozen?_of_block (w := w) e1).trans (h.z i hi), h.a, fun i hi => (World.frozen?_of_block (w := w) e2).trans (h.lz i hi), fun i hi => (World.frozen?_of_block (w := w) e3).trans (h.nz i hi), fun i hi => ?_, fun i hi => ?_, h.gx, fun k hk => Nat.lt_of_lt_of_le (h.gl k hk) hs, h.ok⟩
  · obtain ⟨v, hv, hs⟩ := h.lv i hi
    exact ⟨v, (c2 i).trans hv, hs.same (fun k hk _ => hb k hk)⟩
  · obtain ⟨v, hv, hs⟩ := h.nv i hi
    exact ⟨v, (c3 i).trans hv, hs.imp id fun ⟨l, e, hl⟩ => ⟨l, e, hl.same (fun k hk _ => hb k hk)⟩⟩
/-- Its own cells have turned. -/
theorem RDk.head {w w' : World} {r la na cl cn : Nat} {zl zn : Option Addr} {D D' : DM} {G : Nat → Bool} (h : RDk w r la na cl cn zl zn D G) (hs : w.heap.size ≤ w'.heap.size) (hb : ∀ k, k ≠ r → k < w.heap.size → w'.heap[k]? = w.heap[k]?) (hz : ∀ i, w'.frozen? ⟨r, i, none⟩ = w.frozen? ⟨r, i, none⟩)
    (c0 : w'.cell? ⟨r, 0, none⟩ = some (.slice zl D.n cl)) (c1 : w'.cell? ⟨r, 1, none⟩ = some (.slice zn D.n cn)) (c2 : w'.cell? ⟨r, 2, none⟩ = some (.int .i64 (fuI D'))) (c3 : w'.cell? ⟨r, 3, none⟩ = some (.bool D'.dn))
    (e1 : D'.n = D.n) (e2 : D'.la = D.la) (e3 : D'.nw = D.nw) (hf : ∀ k, D'.fu = some k → k < 9223372036854775808) : RDk w' r la na cl cn zl zn D' G := by
  obtain ⟨n, dla, nw, fu, dn⟩ := D
  obtain ⟨n', la', nw', fu', dn'⟩ := D'
  simp only at e1 e2 e3
  subst e1 e2 e3
  have sl : ∀ {v l}, Sl w G r la na v l → Sl w' G r la na v l := fun h' => h'.same (fun k hk hx => hb k (fun e => by rw [X3_of.2 (Or.inl e)] at hx; cases hx) (h.gl k hk))
  refine ⟨c0, c1, c2, c3, fun i hi => (hz i).trans (h.z i hi), h.a, fun i hi => ?_, fun i hi => ?_, fun i hi => ?_, fun i hi => ?_, h.gx, fun k hk => Nat.lt_of_lt_of_le (h.gl k hk) hs, ⟨h.ok.n, h.ok.la, h.ok.nw, hf⟩⟩
  · obtain ⟨_, _, a3, a4, _⟩ := h.a (Nat.lt_of_le_of_lt (Nat.zero_le _) hi)
    exact (World.frozen?_of_block (w := w) (hb la a3 (h.gl la (h.gx la (X3_of.2 (Or.inr (Or.inl rfl))))))).trans (h.lz i hi)
  · obtain ⟨_, _, a3, a4, _⟩ := h.a (Nat.lt_of_le_of_lt (Nat.zero_le _) hi)
    exact (World.frozen?_of_block (w := w) (hb na a4 (h.gl na (h.gx na (X3_of.2 (Or.inr (Or.inr rfl))))))).trans (h.nz i hi)
  · obtain ⟨_, _, a3, a4, _⟩ := h.a (Nat.lt_of_le_of_lt (Nat.zero_le _) hi)
    obtain ⟨v, hv, hs⟩ := h.lv i hi
    exact ⟨v, (World.cell?_of_block (w := w) (hb la a3 (h.gl la (h.gx la (X3_of.2 (Or.inr (Or.inl rfl))))))).trans hv, sl hs⟩
  · obtain ⟨_, _, a3, a4, _⟩ := h.a (Nat.lt_of_le_of_lt (Nat.zero_le _) hi)
    obtain ⟨v, hv, hs⟩ := h.nv i hi
    exact ⟨v, (World.cell?_of_block (w := w) (hb na a4 (h.gl na (h.gx na (X3_of.2 (Or.inr (Or.inr rfl))))))).trans hv, hs.imp id fun ⟨l, e, hl⟩ => ⟨l, e, sl hl⟩⟩
theorem ref_op {w : World} {r la na cl cn : Nat} {zl zn : Option Addr} {D : DM} {G : Nat → Bool} (h : RDk w r la na cl cn zl zn D G) (hd : D.dn = false) : Calls Try.prog 56 #[pp r] w fun e w' => e = .returned (.bool D.may) ∧ RDk w' r la na cl cn zl zn D.burn G ∧ Kp (X3 r la na) w w' := by
  have HD := hide h
  obtain ⟨n, dla, nw, fu, dn⟩ := D
  have h0 := h.c0
  have h1 := h.c1
  have h2 := h.c2
  have h3 := h.c3
  have z2 := h.z 2 (by omega)
  have z3 := h.z 3 (by omega)
  have hf := h.ok.fu
  clear h
  simp only at h0 h1 h2 h3 hf hd
  subst hd
  cases fu with
  | none =>
    have h2' : w.cell? ⟨r, 2, none⟩ = some (.int .i64 (-1)) := h2
    clear h2
    go_enter Try.func56, Try.ntmps56
    go_wp2_with fail
    go_ret
    exact ⟨rfl, HD.out, Kp.refl _ _⟩
  | some k =>
    have h2' : w.cell? ⟨r, 2, none⟩ = some (.int .i64 (k : Int)) := h2
    clear h2
    cases k with
    | zero =>
      go_enter Try.func56, Try.ntmps56
      go_wp2_with fail
      go_ret
      refine ⟨rfl, HD.out.head (by simp) (fun k hk _ => Below.heap_setCell _ _ _ _ hk) (fun i => World.frozen?_setCell _ _ _ _) ?_ ?_ ?_ ?_ rfl rfl rfl hf, kp_set _ _⟩
      all_goals simp [go_sem, *, DM.burn, fuI]
    | succ k =>
      have hk := hf (k + 1) rfl
      obtain ⟨q, hq⟩ : ∃ q : Int, q = ((k + 1 : Nat) : Int) := ⟨_, rfl⟩
      rw [← hq] at h2'
      have hne : (q == 0) = false := by rw [hq]; simp; omega
      have hgt : 0 < q := by omega
      have hw : wrap64 (q - 1) = (k : Int) := by rw [hq]; unfold wrap64; omega
      clear hq
      go_enter Try.func56, Try.ntmps56
      go_wp2_with fail
      go_ret
      refine ⟨rfl, HD.out.head (by simp) (fun k hk _ => Below.heap_setCell _ _ _ _ hk) (fun i => World.frozen?_setCell _ _ _ _) ?_ ?_ ?_ ?_ rfl rfl rfl (fun j hj => by cases hj; omega), kp_set _ _⟩
      all_goals simp [go_sem, *, DM.burn, fuI]
end Go.Proofs.Ytpophfeommlajaa
namespace Go.Proofs.Ytpophfeommlajaa
set_option maxRecDepth 100000
open Go.RowKit Go.Maps
attribute [local go_sem ↓] Go.wp_at_zero Go.wp_at_succ

/-- A cell of the list of what was written is put anew. -/
theorem RDk.setn {w : World} {r la na cl cn : Nat} {zl zn : Option Addr} {D : DM} {G G' : Nat → Bool} (h : RDk w r la na cl cn zl zn D G) {i : Nat} (hi : i < D.n) {v : Value} {nv : Option (List Nat)} (hG : ∀ k, G k = true → G' k = true) (hl : ∀ k, G' k = true → k < w.heap.size)
    (hv : (nv = none ∧ v = .slice none 0 0) ∨ ∃ l, nv = some l ∧ sec l ∧ Sl w G' r la na v l) : RDk (w.setCell ⟨na, i, none⟩ v) r la na cl cn zl zn { D with nw := upd D.nw i nv } G' := by
  obtain ⟨a1, a2, a3, a4, a5⟩ := h.a (Nat.lt_of_le_of_lt (Nat.zero_le _) hi)
  have hb : ∀ k, k ≠ na → (w.setCell ⟨na, i, none⟩ v).heap[k]? = w.heap[k]? := fun k hk => Below.heap_setCell _ _ _ _ hk
  have er := hb r (Ne.symm a4)
  have el := hb la a5
  have sl : ∀ {v' l}, Sl w G' r la na v' l → Sl (w.setCell ⟨na, i, none⟩ v) G' r la na v' l := fun h' => h'.same (fun k _ hx => hb k (fun e => by rw [X3_of.2 (Or.inr (Or.inr e))] at hx; cases hx))
  have c1 : ∀ o, (w.setCell ⟨na, i, none⟩ v).cell? ⟨r, o, none⟩ = w.cell? ⟨r, o, none⟩ := fun o => World.cell?_of_block (w := w) er
  refine ⟨(c1 0).trans h.c0, (c1 1).trans h.c1, (c1 2).trans h.c2, (c1 3).trans h.c3, fun i hi => by rw [World.frozen?_setCell]; exact h.z i hi, h.a, fun i hi => by rw [World.frozen?_setCell]; exact h.lz i hi, fun i hi => by rw [World.frozen?_setCell]; exact h.nz i hi, fun j hj => ?_, fun j hj => ?_, fun k hk => hG k (h.gx k hk), fun k hk => by simpa using hl k hk, ⟨h.ok.n, h.ok.la, fun j l hj => ?_, h.ok.fu⟩⟩
  · obtain ⟨u, hu, hs⟩ := h.lv j hj
    exact ⟨u, (World.cell?_of_block (w := w) el).trans hu, sl (hs.more hG)⟩
  · obtain ⟨u, hu, hs⟩ := h.nv j hj
    by_cases e : j = i
    · subst e
      refine ⟨v, World.cell?_setCell_same _ _ _ hu, ?_⟩
      simp only [upd, if_true]
      exact hv.imp id fun ⟨l, e, _, hl⟩ => ⟨l, e, sl hl⟩
    · refine ⟨u, (World.cell?_setCell_other _ _ _ _ (fun e2 => e (congrArg Addr.off e2).symm)).trans hu, ?_⟩
      simp only [upd, if_neg e]
      exact hs.imp id fun ⟨l, e, hl⟩ => ⟨l, e, sl (hl.more hG)⟩
  · by_cases e : j = i
    · subst e
      simp only [upd, if_true] at hj
      rcases hv with ⟨e1, _⟩ | ⟨m, e1, hm, _⟩
      · rw [e1] at hj; cases hj
      · rw [e1] at hj; cases hj; exact ⟨hi, hm⟩
    · simp only [upd, if_neg e] at hj
      exact h.ok.nw j l hj
/-- .. and of what lasts. -/
theorem RDk.setl {w : World} {r la na cl cn : Nat} {zl zn : Option Addr} {D : DM} {G G' : Nat → Bool} (h : RDk w r la na cl cn zl zn D G) {i : Nat} (hi : i < D.n) {v : Value} {l : List Nat} (hG : ∀ k, G k = true → G' k = true) (hlt : ∀ k, G' k = true → k < w.heap.size)
    (hs : sec l) (hv : Sl w G' r la na v l) : RDk (w.setCell ⟨la, i, none⟩ v) r la na cl cn zl zn { D with la := upd D.la i l } G' := by
  obtain ⟨a1, a2, a3, a4, a5⟩ := h.a (Nat.lt_of_le_of_lt (Nat.zero_le _) hi)
  have hb : ∀ k, k ≠ la → (w.setCell ⟨la, i, none⟩ v).heap[k]? = w.heap[k]? := fun k hk => Below.heap_setCell _ _ _ _ hk
  have er := hb r (Ne.symm a3)
  have el := hb na (Ne.symm a5)
  have sl : ∀ {v' l}, Sl w G' r la na v' l → Sl (w.setCell ⟨la, i, none⟩ v) G' r la na v' l := fun h' => h'.same (fun k _ hx => hb k (fun e => by rw [X3_of.2 (Or.inr (Or.inl e))] at hx; cases hx))
  have c1 : ∀ o, (w.setCell ⟨la, i, none⟩ v).cell? ⟨r, o, none⟩ = w.cell? ⟨r, o, none⟩ := fun o => World.cell?_of_block (w := w) er
  refine ⟨(c1 0).trans h.c0, (c1 1).trans h.c1, (c1 2).trans h.c2, (c1 3).trans h.c3, fun i hi => by rw [World.frozen?_setCell]; exact h.z i hi, h.a, fun i hi => by rw [World.frozen?_setCell]; exact h.lz i hi, fun i hi => by rw [World.frozen?_setCell]; exact h.nz i hi, fun j hj => ?_, fun j hj => ?_, fun k hk => hG k (h.gx k hk), fun k hk => by simpa using hlt k hk, ⟨h.ok.n, fun j => ?_, h.ok.nw, h.ok.fu⟩⟩
  · obtain ⟨u, hu, hs⟩ := h.lv j hj
    by_cases e : j = i
    · subst e
      refine ⟨v, World.cell?_setCell_same _ _ _ hu, ?_⟩
      simp only [upd, if_true]
      exact sl hv
    · refine ⟨u, (World.cell?_setCell_other _ _ _ _ (fun e2 => e (congrArg Addr.off e2).symm)).trans hu, ?_⟩
      simp only [upd, if_neg e]
      exact sl (hs.more hG)
  · obtain ⟨u, hu, hs⟩ := h.nv j hj
    exact ⟨u, (World.cell?_of_block (w := w) el).trans hu, hs.imp id fun ⟨l, e, hl⟩ => ⟨l, e, sl (hl.more hG)⟩⟩
  · by_cases e : j = i
    · subst e; simp only [upd, if_true]; exact hs
    · simp only [upd, if_neg e]; exact h.ok.la j
/-- What the document's Read answers. -/
def RrP (w : World) (G : Nat → Bool) (r la na : Nat) (l : List Nat) (er : Int) (e : Ending) (w' : World) : Prop := ∃ v, e = .returned (.tuple #[v, .int .i64 er]) ∧ w' = w ∧ ((l = [] ∧ v = .slice none 0 0) ∨ sec l ∧ Sl w G r la na v l)
set_option maxRecDepth 100000 in
set_option maxHeartbeats 8000000 in
theorem ref_read {w : World} {r la na cl cn : Nat} {zl zn : Option Addr} {D : DM} {G : Nat → Bool} (h : RDk w r la na cl cn zl zn D G) (i : Int) : Calls Try.prog 30 #[pp r, .int .i64 i] w (RrP w G r la na (D.rdB i) (D.rdE i)) := by
  have HD := hide h
  have h0 := h.c0
  have h1 := h.c1
  have h3 := h.c3
  cases hdn : D.dn with
  | true =>
    have e1 : D.rdB i = [] := if_pos hdn
    have e2 : D.rdE i = 6 := if_pos hdn
    rw [e1, e2]
    clear h e1 e2
    go_enter Try.func30, Try.ntmps30
    go_wp2_with fail
    exact bodyPost_ret (by simp [results, Try.results30]) rfl ⟨_, rfl, rfl, Or.inl ⟨rfl, rfl⟩⟩
  | false =>
    have hdn' : ¬ D.dn = true := by simp [hdn]
    by_cases hi : 0 ≤ i ∧ i < D.n
    · obtain ⟨k, rfl⟩ : ∃ k : Nat, i = (k : Int) := ⟨i.toNat, by omega⟩
      have hk : k < D.n := by omega
      have e1 : D.rdB k = D.cur k := (if_neg hdn').trans (if_pos hi)
      have e2 : D.rdE k = 0 := (if_neg hdn').trans (if_pos hi)
      obtain ⟨rfl, rfl, _⟩ := h.a (by omega)
      obtain ⟨vl, hvl, sl⟩ := h.lv k hk
      obtain ⟨vn, hvn, sn⟩ := h.nv k hk
      have hk' : (k : Int) < (D.n : Int) := by omega
      have hkd : decide ((D.n : Int) ≤ (k : Int)) = false := decide_eq_false (by omega)
      rw [e1, e2]
      clear h e1 e2 hi hdn'
      rcases sn with ⟨en, rfl⟩ | ⟨l, en, sn⟩
      · have ec : D.cur k = D.la k := by unfold DM.cur; rw [en]; rfl
        rw [ec]
        have HS := hide sl
        clear sl ec
        go_enter Try.func30, Try.ntmps30
        go_wp2_with fail
        exact bodyPost_ret (by simp [results, Try.results30]) rfl ⟨_, rfl, rfl, Or.inr ⟨HD.out.ok.la k, HS.out⟩⟩
      · have ec : D.cur k = l := by unfold DM.cur; rw [en]; rfl
        rw [ec]
        have HS := hide sn
        obtain ⟨g, c, rfl, _⟩ := sn
        clear sl ec
        go_enter Try.func30, Try.ntmps30
        go_wp2_with fail
        exact bodyPost_ret (by simp [results, Try.results30]) rfl ⟨_, rfl, rfl, Or.inr ⟨(HD.out.ok.nw k l en).2, HS.out⟩⟩
    · have e1 : D.rdB i = [] := (if_neg hdn').trans (if_neg hi)
      have e2 : D.rdE i = 3 := (if_neg hdn').trans (if_neg hi)
      rw [e1, e2]
      by_cases h4 : i < 0
      · clear h e1 e2 hi
        go_enter Try.func30, Try.ntmps30
        go_wp2_with fail
        exact bodyPost_ret (by simp [results, Try.results30]) rfl ⟨_, rfl, rfl, Or.inl ⟨rfl, rfl⟩⟩
      · have h5 : decide (i < 0) = false := decide_eq_false h4
        have h6 : (D.n : Int) ≤ i := by omega
        clear h e1 e2 hi
        go_enter Try.func30, Try.ntmps30
        go_wp2_with fail
        exact bodyPost_ret (by simp [results, Try.results30]) rfl ⟨_, rfl, rfl, Or.inl ⟨rfl, rfl⟩⟩
end Go.Proofs.Ytpophfeommlajaa
