/- Layer 15: a copy; an entry is written; does it stand there? -/
import Derived.Test.YtjgpopjpmfkfmaaP15C
import Derived.Test.YtjgpopjpmfkfmaaM15C
import Derived.WalkSpells
namespace Go.Proofs.Ytjgpopjpmfkfmaa
open Go.RowKit Go.Maps
attribute [local go_sem ↓] Go.wp_at_zero Go.wp_at_succ

/-- A copy in memory that is new. -/
def ClnP (w : World) (f : Nat → Nat) (m : Nat) (e : Ending) (w' : World) : Prop := ∃ z c, e = .returned (.slice z m c) ∧ BA w' z m f ∧ (0 < m → ∀ p, z = some p → w.heap.size ≤ p.block) ∧ Below w.heap.size w w'
set_option maxRecDepth 100000 in
set_option maxHeartbeats 4000000 in
theorem clone_n {w : World} {x : Option Addr} {m c : Nat} {f : Nat → Nat} (hb : BA w x m f) (hm : m ≤ 1000000) : Calls Try.prog 49 #[.slice x m c] w (ClnP w f m) := by
  have HB := hide hb
  rcases x with _ | a
  · obtain rfl : m = 0 := by
      rcases hb.at_ with h1 | ⟨b, o, e, _⟩
      · exact h1
      · cases e
    have hq := Lib.run_eql_slice_nil (P := Try.prog) w 38 5 none 0 c 0 0 Try.underlying38
    simp at hq
    clear hb
    go_enter Try.func49, Try.ntmps49
    go_wp2_with fail
    go_ret
    exact ⟨none, 0, rfl, HB.out, fun h => absurd h (by omega), Below.refl _ _⟩
  · clear hb
    have HE := hide (own_empty w w.heap.size (Nat.le_refl _))
    have HB2 : Hid (BA (w.alloc (.cells #[] 5)) (some a) m f) := HB.out.keep (K.alloc (Below.refl _ _) _)
    have hq := Lib.run_eql_slice_nil (P := Try.prog) w 38 5 (some a) m c 0 0 Try.underlying38
    simp at hq
    have hsz : w.heap.size ≤ (w.alloc (.cells #[] 5)).heap.size := by simp
    go_enter Try.func49, Try.ntmps49
    go_wp2_with (refine wpList_app (base := w.heap.size) (l := []) rfl _ _ rfl rfl HE.out rfl HB2.out (by omega) hsz ?_; intro v1 w1 hO1 hg1; have HR := hide (And.intro hO1 hg1); clear hO1 hg1)
    obtain ⟨z, cp, rfl, _, _⟩ := own_max HR.out.1
    go_ret
    have ho := HR.out.1
    rw [Nat.zero_add] at ho
    have e2 : 0 + m = m := Nat.zero_add m
    refine ⟨z, cp, by rw [e2]; rfl, ?_, fun _ p hp => ?_, ?_⟩
    · rw [List.nil_append] at ho
      first | rw [e2] at ho | skip
      exact own_ba ho HB.out.lt
    · subst hp
      exact (ho.lt p.block rfl).1
    · exact below_append (K.alloc (Below.refl _ w) _) HE.out HR.out.2
theorem conv_o {w : World} {g o c : Nat} {l : List Nat} (h : w.rangeAt g o (cells8 l)) (hl : sec l) : (convert 38 9 (.slice (some ⟨g, o, none⟩) 64 c)).run Try.prog w = .ok (.string (strOfNums (l.map fun (x : Nat) => (x : Int)))) w := by
  refine run_convert_bytes_arg (P := Try.prog) w 38 5 Try.underlying38 Try.underlying5 g o 64 c _ (by rw [List.length_map]; exact hl.1) (fun i hi => ?_) 9 Try.underlying9
  have hi' : i < l.length := by rw [hl.1]; exact hi
  rw [h i _ (cells8_at l i hi')]
  simp [List.getD_eq_getElem?_getD, List.getElem?_eq_getElem hi']
theorem eq_o {w : World} {g q o c d : Nat} {l m : List Nat} (h : w.rangeAt g 0 (cells8 l)) (hl : sec l) (h2 : w.rangeAt q o (cells8 m)) (hm : sec m) :
    Calls Try.prog 63 #[.slice (some ⟨g, 0, none⟩) 64 c, .slice (some ⟨q, o, none⟩) 64 d] w fun e w' => e = .returned (.bool (decide (l = m))) ∧ w' = w := by
  have c1 := conv_o (c := c) h hl
  have c2 := conv_o (c := d) h2 hm
  rw [← str_eq hl.2 hm.2]
  clear h h2
  go_enter Try.func63, Try.ntmps63
  go_wp2_with fail
  go_ret
  exact ⟨rfl, rfl⟩
theorem apw_step {D : DM} {p : Nat} {f : Nat → Nat} {m j : Nat} (h : (apw D p f m j).2 = 0) : apw D p f m (j + 1) = ((apw D p f m j).1.wr ((p : Int) + (j : Int)) (esec f m j), (apw D p f m j).1.wrE ((p : Int) + (j : Int)) 64) := by
  show (if (apw D p f m j).2 = 0 then _ else _) = _
  rw [if_pos h, Int.natCast_add]
/-- While an entry is written. -/
structure WtR (w W1 wr : World) (b lb mb q g : Nat) (D : DM) (p : Nat) (f : Nat → Nat) (m i : Nat) : Prop where
  d : Dsk wr b lb mb (apw D p f m i).1
  e : (apw D p f m i).2 = 0
  k : Kp (X3 b lb mb) w wr
  c : ∀ j, j < tk m → wr.cell? ⟨q, j, none⟩ = some (pc64 g j)
  r : Rw wr g (64 * tk m) (encf f m)
  ql : q < wr.heap.size
  gl : g < wr.heap.size
theorem pc_lt {m i : Nat} (h : i < tk m) : 64 * i + 64 ≤ 64 * tk m := by omega
theorem pl_w {p i m : Nat} (hp : p ≤ 1000000) (hm : m ≤ 200) (hi : i < tk m) : wrap64 ((p : Int) + (i : Int)) = (p : Int) + (i : Int) := w_id (by omega) (by have := tk_4 hm; omega)
theorem i_w {i m : Nat} (hm : m ≤ 200) (hi : i < tk m) : wrap64 ((i : Int) + 1) = (i : Int) + 1 := w_id (by omega) (by have := tk_4 hm; omega)
set_option maxRecDepth 100000 in
set_option maxHeartbeats 4000000 in
theorem write_n {w : World} {b lb mb : Nat} {D : DM} (h : Dsk w b lb mb D) {p : Nat} (hp : p ≤ 1000000) {x : Option Addr} {m c : Nat} {f : Nat → Nat} (hb : BA w x m f) (hm : m ≤ 200) : Calls Try.prog 47 #[pp b, .int .i64 (p : Int), .slice x m c] w (WrP w b lb mb (apw D p f m (tk m)).1 (apw D p f m (tk m)).2) := by
  have HX : Hid (∀ k, w.heap.size ≤ k → X3 b lb mb k = false) := fun k hk => h.out hk
  have HD := hide h
  have HS := hide (sectors_n (c := c) hb hm)
  have HF := hide hb.lt
  clear h hb
  go_enter Try.func47, Try.ntmps47
  go_wp2_with (go_at_call 70; refine Calls.mono HS.out ?_; rintro e W1 ⟨q, cap, g, rfl, hR⟩; have HR := hide hR; clear hR)
  go_loopg [13] (tk m) (fun g' s13 wr => ∃ i : Nat, g' = tk m - i ∧ i ≤ tk m ∧ s13 = .int .i64 (i : Int) ∧ WtR w W1 wr b lb mb q g D p f m i)
  case atStart => exact ⟨0, rfl, by omega, rfl, HD.out.keep HR.out.k, rfl, Kp.of HR.out.k, HR.out.o, HR.out.r, HR.out.ql, HR.out.lt⟩
  case round =>
    obtain ⟨i, rfl, hi, rfl, hI⟩ := hrel
    have HI := hide hI
    clear hI
    by_cases hlt : i < tk m
    · have hcell := HI.out.c i hlt
      have hlt' : (i : Int) < (tk m : Int) := by omega
      have hw := pl_w hp hm hlt
      have hw1 : wrap64 ((i : Int) + 1) = (i : Int) + 1 := i_w hm hlt
      have HC : Hid (Calls Try.prog 22 #[pp b, .int .i64 ((p : Int) + (i : Int)), pc64 g i] wr (WrP wr b lb mb (apw D p f m (i + 1)).1 (apw D p f m (i + 1)).2)) := by
        rw [apw_step HI.out.e]
        exact write_any HI.out.d _ (HI.out.r.ba (pc_lt hlt)) (fun _ a ha => by cases ha; exact HX.out _ HR.out.ge)
      by_cases he : (apw D p f m (i + 1)).2 = 0
      · have HE := hide he
        rw [he] at HC
        clear he
        go_wp2_with (go_at_call 22; refine Calls.mono HC.out ?_; rintro e W2 ⟨rfl, hD2, hK2⟩; have HD2 := hide hD2; have HK2 := hide hK2; clear hD2 hK2)
        go_roundg (tk m - (i + 1))
        case measure => omega
        case rel => exact ⟨i + 1, rfl, by omega, by simp [hw1], HD2.out, HE.out, HI.out.k.trans HK2.out, fun j hj => (HK2.out.cell (p := ⟨q, j, none⟩) HI.out.ql (HX.out q HR.out.qe)).trans (HI.out.c j hj), HI.out.r.kp HK2.out HI.out.gl (HX.out g HR.out.ge), Nat.lt_of_lt_of_le HI.out.ql HK2.out.size, Nat.lt_of_lt_of_le HI.out.gl HK2.out.size⟩
      · have HE := hide (apw_err he (tk m) hlt)
        have hne : ((apw D p f m (i + 1)).2 != 0) = true := by simp [he]
        clear he
        obtain ⟨er, hr⟩ : ∃ er, er = (apw D p f m (i + 1)).2 := ⟨_, rfl⟩
        rw [← hr] at hne HC
        have HEr := hide hr
        clear hr
        go_wp2_with (go_at_call 22; refine Calls.mono HC.out ?_; rintro e W2 ⟨rfl, hD2, hK2⟩; have HD2 := hide hD2; have HK2 := hide hK2; clear hD2 hK2)
        go_ret
        rw [HE.out]
        exact ⟨by rw [← HEr.out]; rfl, HD2.out, HI.out.k.trans HK2.out⟩
    · obtain rfl : i = tk m := by omega
      have hz := HI.out.e
      go_wp2_with fail
      go_ret
      exact ⟨by rw [hz]; rfl, HI.out.d, HI.out.k⟩
/-- The entry stands there, sector by sector. -/
def Std (D : DM) (p : Nat) (f : Nat → Nat) (m : Nat) : Prop := ∀ j, j < tk m → p + j < D.n ∧ D.cur (p + j) = esec f m j
theorem Rw.at_ {w : World} {g N : Nat} {f : Nat → Nat} (r : Rw w g N f) {o : Nat} (h : o + 64 ≤ N) : w.rangeAt g o (cells8 (fl (fun i => f (o + i)) 64)) := fun j v hv => by
  have hj : j < 64 := by
    have := (List.getElem?_eq_some_iff.1 hv).1
    rw [cells8_len, fl_len] at this
    exact this
  rw [cells8_at _ j (by rw [fl_len]; exact hj)] at hv
  cases hv
  rw [r.c (o + j) (by omega), List.getD_eq_getElem?_getD, fl_at _ hj]
  rfl
set_option maxRecDepth 100000 in
set_option maxHeartbeats 4000000 in
theorem stands_yes {w : World} {b lb mb : Nat} {D : DM} (h : Dsk w b lb mb D) (hd : D.dn = false) {p : Nat} (hp : p ≤ 1000000) {x : Option Addr} {m c : Nat} {f : Nat → Nat} (hb : BA w x m f) (hm : m ≤ 200) (hs : Std D p f m) : Calls Try.prog 71 #[pp b, .int .i64 (p : Int), .slice x m c] w fun e w' => e = .returned (.bool true) ∧ Below w.heap.size w w' := by
  have HD := hide h
  have HS := hide (sectors_n (c := c) hb hm)
  have HF := hide hb.lt
  have HSt := hide hs
  have HDn := hide hd
  clear h hb hs hd
  go_enter Try.func71, Try.ntmps71
  go_wp2_with (go_at_call 70; refine Calls.mono HS.out ?_; rintro e W1 ⟨q, cap, g, rfl, hR⟩; have HR := hide hR; clear hR)
  go_loopg [14] (tk m) (fun g' s14 wr => ∃ i : Nat, g' = tk m - i ∧ i ≤ tk m ∧ s14 = .int .i64 (i : Int) ∧ Hid (Below W1.heap.size W1 wr))
  case atStart => exact ⟨0, rfl, by omega, rfl, Below.refl _ _⟩
  case round =>
    obtain ⟨i, rfl, hi, rfl, HI⟩ := hrel
    by_cases hlt : i < tk m
    · have hcell := later HI.out (HR.out.o i hlt)
      have hlt' : (i : Int) < (tk m : Int) := by omega
      have hw := pl_w hp hm hlt
      have hw1 : wrap64 ((i : Int) + 1) = (i : Int) + 1 := i_w hm hlt
      have HC : Hid (Calls Try.prog 77 #[pp b, .int .i64 ((p : Int) + (i : Int))] wr fun e w' => ∃ q2, e = .returned (.tuple #[s64 q2, .int .i64 0]) ∧ w'.rangeAt q2 0 (cells8 (esec f m i)) ∧ Below wr.heap.size wr w') := by
        have h1 := (HD.out.keep HR.out.k).keep HI.out
        have h2 := HSt.out i hlt
        have h3 := rd_up HDn.out h2.1
        rw [Int.natCast_add] at h3
        refine Calls.mono (read_any h1 _) ?_
        rintro e w' ⟨v, rfl, hn, hB⟩
        rw [h3.1, h3.2, h2.2] at *
        rcases hn with ⟨e0, _⟩ | ⟨q2, rfl, _, _, hr⟩
        · have := (esec_sec HF.out hm i).1
          rw [e0] at this
          cases this
        · rw [(esec_sec HF.out hm i).1]
          exact ⟨q2, rfl, hr, hB⟩
      go_upto_region 5 with (go_at_call 77; refine Calls.mono HC.out ?_; rintro e W2 ⟨q2, rfl, hr2, hB2⟩; have HR2 := hide hr2; have HB2 := hide hB2; clear hr2 hB2)
      have HQ : Hid (Calls Try.prog 63 #[s64 q2, pc64 g i] W2 fun e w' => e = .returned (.bool true) ∧ w' = W2) := by
        have h5 := eq_o (c := 64) (d := 64) HR2.out (esec_sec HF.out hm i) ((HR.out.r.keep (HI.out.trans (HB2.out.mono HI.out.size)) HR.out.lt).at_ (pc_lt hlt)) (esec_sec HF.out hm i)
        rw [show decide (esec f m i = fl (fun k => encf f m (64 * i + k)) 64) = true from decide_eq_true rfl] at h5
        exact h5
      go_wp2_with (go_at_call 63; refine Calls.mono HQ.out ?_; rintro e W2 ⟨rfl, rfl⟩)
      go_roundg (tk m - (i + 1))
      case measure => omega
      case rel => exact ⟨i + 1, rfl, by omega, by simp [hw1], HI.out.trans (HB2.out.mono HI.out.size)⟩
    · obtain rfl : i = tk m := by omega
      go_wp2_with fail
      go_ret
      exact ⟨rfl, HR.out.k.trans (HI.out.mono HR.out.k.size)⟩
set_option maxRecDepth 100000 in
set_option maxHeartbeats 4000000 in
theorem stands_down {w : World} {b lb mb : Nat} {D : DM} (h : Dsk w b lb mb D) (hd : D.dn = true) {p : Nat} (hp : p ≤ 1000000) {x : Option Addr} {m c : Nat} {f : Nat → Nat} (hb : BA w x m f) (hm : m ≤ 200) : Calls Try.prog 71 #[pp b, .int .i64 (p : Int), .slice x m c] w fun e w' => e = .returned (.bool false) ∧ Below w.heap.size w w' := by
  have HD := hide h
  have HS := hide (sectors_n (c := c) hb hm)
  have hE : ∀ i, D.rdE i = 6 := fun i => if_pos hd
  clear h hb hd
  go_enter Try.func71, Try.ntmps71
  go_wp2_with (go_at_call 70; refine Calls.mono HS.out ?_; rintro e W1 ⟨q, cap, g, rfl, hR⟩; have HR := hide hR; clear hR)
  go_loopg [14] 1 (fun g' s14 wr => g' = 1 ∧ s14 = .int .i64 0 ∧ wr = W1)
  case atStart => exact ⟨rfl, rfl, rfl⟩
  case round =>
    obtain ⟨rfl, rfl, rfl⟩ := hrel
    have hcell := HR.out.o 0 (tk_pos m)
    have hlt' : (0 : Int) < (tk m : Int) := by have := tk_pos m; omega
    have hw : wrap64 ((p : Int) + 0) = (p : Int) := by rw [Int.add_zero]; exact w_id (by omega) (by omega)
    have HC : Hid (Calls Try.prog 77 #[pp b, .int .i64 (p : Int)] wr fun e w' => (∃ v, e = .returned (.tuple #[v, .int .i64 6])) ∧ Below wr.heap.size wr w') := by
      refine Calls.mono (read_any (HD.out.keep HR.out.k) _) ?_
      rintro e w' ⟨v, rfl, hn, hB⟩
      rw [hE]
      exact ⟨⟨v, rfl⟩, hB⟩
    go_wp2_with (go_at_call 77; refine Calls.mono HC.out ?_; rintro e W2 ⟨⟨v2, rfl⟩, hB2⟩; have HB2 := hide hB2; clear hB2)
    go_ret
    exact ⟨rfl, HR.out.k.trans (HB2.out.mono HR.out.k.size)⟩
end Go.Proofs.Ytjgpopjpmfkfmaa
