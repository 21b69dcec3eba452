/- Layer 15: one entry is read. Layer 15: the entries are read. Layer 15: the document's store in memory; its Room. Layer 14: whether a mark is steady; what a program that does nothing does not answer; the law of what is refused. -/
import Derived.Test.YtpophfeommlajaaMP37
import Derived.Test.YtpophfeommlajaaMP35
import Derived.Test.YtpophfeommlajaaMP36
import Derived.Test.YtpophfeommlajaaMP30
import Derived.ArgAppend
namespace Go.Proofs.Ytpophfeommlajaa
open Go.RowKit Go.Maps
attribute [local go_sem ↓] Go.wp_at_zero Go.wp_at_succ

/-- Sectors that are gathered: just the first, as it was read, or a row of one's own. -/
structure AcR (wr : World) (base g cap : Nat) (L : List Nat) : Prop where
  ge : base ≤ g
  lt : g < wr.heap.size
  r : wr.rangeAt g 0 (cells8 L)
  le : L.length ≤ cap
  mx : cap ≤ maxLen
  o : cap = L.length ∨ wr.ownsRow base 5 1 (.slice (some ⟨g, 0, none⟩) L.length cap) L.length (cells8 L)
  b : ∀ x ∈ L, x < 256
theorem own_rng {w : World} {base g n cap : Nat} {L : List Nat} (h : w.ownsRow base 5 1 (.slice (some ⟨g, 0, none⟩) n cap) n (cells8 L)) : w.rangeAt g 0 (cells8 L) ∧ base ≤ g ∧ g < w.heap.size ∧ n ≤ cap ∧ cap ≤ maxLen := by
  have hlen : L.length = n := by have := h.1; rw [cells8_len] at this; omega
  rcases h.2 with ⟨e1, _⟩ | ⟨g', cp, cur, e, hb, hg, hle, hmx, _, hc⟩
  · cases e1
  · cases e
    refine ⟨fun j u hu => ?_, hb, (Array.getElem?_eq_some_iff.1 hg).1, hle, hmx⟩
    have hj : j < n := by have := (List.getElem?_eq_some_iff.1 hu).1; rw [cells8_len] at this; omega
    unfold World.cell?
    simp only [hg, Nat.zero_add]
    rw [← hc, Nat.mul_one, List.getElem?_take, if_pos hj] at hu
    simpa using hu
theorem run_ac {W : World} {base g cap : Nat} {L : List Nat} (h : AcR W base g cap L) {x : Option Addr} {m c : Nat} {f : Nat → Nat} (hx : BA W x m f) (hm : 0 < m) (hb : L.length + m ≤ 1000000) (hbase : base ≤ W.heap.size) (ty : TypeId) :
    ∃ g' cap' w', (Builtin.append_ #[38, 38] ty #[.slice (some ⟨g, 0, none⟩) L.length cap, .slice x m c]).run Try.prog W = .ok (.slice (some ⟨g', 0, none⟩) (L.length + m) cap') w' ∧ AcR w' base g' cap' (L ++ fl f m) ∧ ∃ row, W.grownBy w' row ∧ ∀ k, row = some k → base ≤ k := by
  have hbb : ∀ x ∈ L ++ fl f m, x < 256 := fun y hy => by
    rcases List.mem_append.1 hy with h1 | h1
    · exact h.b y h1
    · obtain ⟨i, _, rfl⟩ := List.mem_map.1 h1
      exact hx.lt i
  have fin : ∀ {v' : Value} {w' : World}, w'.ownsRow base 5 1 v' (L.length + m) (cells8 (L ++ fl f m)) → ∃ g' cap', v' = .slice (some ⟨g', 0, none⟩) (L.length + m) cap' ∧ AcR w' base g' cap' (L ++ fl f m) := fun {v'} {w'} ho => by
    rcases ho.2 with ⟨_, h0⟩ | ⟨g', cp, cur, e, _⟩
    · omega
    · subst e
      obtain ⟨h1, h2, h3, h4, h5⟩ := own_rng ho
      have hl : (L ++ fl f m).length = L.length + m := by rw [List.length_append, fl_len]
      refine ⟨g', cp, rfl, h2, h3, h1, by rw [hl]; exact h4, h5, Or.inr ?_, hbb⟩
      rw [hl]
      exact ho
  rcases h.o with e | ho
  · obtain ⟨i0, hi, hz0, hz1, hz2⟩ := info_parts info8
    rcases hx.at_ with h0 | ⟨b2, o2, rfl, hr⟩
    · omega
    · obtain ⟨v', w', h1, h2, h3⟩ := run_append_arg_grows (P := Try.prog) W 38 ty 5 i0 (.int .u8 0) 1 1 Try.underlying38 hi hz0 hz1 hz2 rfl (by decide) ⟨g, 0, none⟩ L.length cap (cells8 L) (by rw [cells8_len, Nat.mul_one]) (fun j u hu => by rw [Addr.add_mid]; exact h.r j u hu) ⟨b2, o2, none⟩ m c (cells8 (fl f m)) (by rw [cells8_len, fl_len, Nat.mul_one]) (fun j u hu => by
        have hj : j < m := by have := (List.getElem?_eq_some_iff.1 hu).1; rw [cells8_len, fl_len] at this; exact this
        rw [cells8_at _ j (by rw [fl_len]; exact hj), List.getD_eq_getElem?_getD, fl_at f hj] at hu
        rw [Addr.add_mid, hr.c j hj]
        simpa using hu) (by omega) (by unfold maxLen; omega) (by omega)
      have ho2 : w'.ownsRow base 5 1 v' (L.length + m) (cells8 (L ++ fl f m)) := by
        have e2 : cells8 (L ++ fl f m) = cells8 L ++ cells8 (fl f m) := by unfold cells8; rw [List.map_append]
        rw [e2]
        refine ⟨h2.1, ?_⟩
        rcases h2.2 with h0 | ⟨g', cp, cur, e', hb', r⟩
        · exact Or.inl h0
        · exact Or.inr ⟨g', cp, cur, e', Nat.le_trans hbase hb', r⟩
      obtain ⟨g', cp, rfl, hA⟩ := fin ho2
      exact ⟨g', cp, w', h1, hA, none, h3, fun k hk => by cases hk⟩
  · obtain ⟨v', w', h1, h2, h3, _⟩ := run_appA (c := c) ho hx hb hbase ty
    obtain ⟨g', cp, rfl, hA⟩ := fin h2
    exact ⟨g', cp, w', h1, hA, _, h3, fun k hk => by cases hk; exact h.ge⟩
theorem wpList_ac {W : World} {ops : Array Oper} {rest : List Oper} {op : Oper} {a : Act} {Q : Exit → Act → World → Prop} (hgd : op.guard = none) (s x : Operand)
    (ho : op.op = .call { callee := .builtin .append, args := #[s, x], argTypes := #[38, 38] })
    {base g cap n : Nat} {L : List Nat} (hs : a.eval s = .slice (some ⟨g, 0, none⟩) n cap) (hn : L.length = n) (hA : AcR W base g cap L) {y : Option Addr} {m c : Nat} {f : Nat → Nat} (hx : a.eval x = .slice y m c) (hy : BA W y m f) (hm : 0 < m) (hb : n + m ≤ 1000000) (hbase : base ≤ W.heap.size)
    (h : ∀ g' cap' w', AcR w' base g' cap' (L ++ fl f m) → (∃ row, W.grownBy w' row ∧ ∀ k, row = some k → base ≤ k) → wpList Try.prog ops Q rest (a.put op.dst (.slice (some ⟨g', 0, none⟩) (n + m) cap')) w') : wpList Try.prog ops Q (op :: rest) a W := by
  subst hn
  refine wpList_plain hgd fun K hK => ?_
  obtain ⟨g', cap', w', hr, h2, h3⟩ := run_ac (c := c) hA hy hm hb hbase op.type
  unfold Oper.wp execOp
  simp only [ho, resolve, invoke, builtin, Sem.run_bind, Sem.run_pure, Result.andThen_ok, List.map_toArray, List.map_cons, List.map_nil, hs, hx, hr]
  exact hK _ _ (h g' cap' w' h2 h3)
def ReY (C : Nat → List Nat) (p u : Nat) : Prop := p < u ∧ elen C p ≤ 200 ∧ p + tk (elen C p) ≤ u
def ReP (w : World) (C : Nat → List Nat) (p u : Nat) (e : Ending) (w' : World) : Prop := Below w.heap.size w w' ∧ ((¬ ReY C p u ∧ e = .returned (.tuple #[.slice none 0 0, .int .i64 2])) ∨ (ReY C p u ∧ ∃ x c f, e = .returned (.tuple #[.slice x (elen C p) c, .int .i64 0]) ∧ BA w' x (elen C p) f ∧ fl f (elen C p) = ent C p (elen C p) ∧ (0 < elen C p → ∀ q, x = some q → w.heap.size ≤ q.block)))
theorem pn2 {l : List Nat} : pn (fun i => l.getD (0 + i) 0) 2 = l.getD 0 0 + 256 * l.getD 1 0 := by
  show (0 + l.getD (0 + 0) 0 * 256 ^ 0) + l.getD (0 + 1) 0 * 256 ^ 1 = _
  simp only [Nat.zero_add, Nat.pow_zero, Nat.pow_one, Nat.mul_one]
  omega
/-- A sector that is there is read. -/
theorem read_up {w : World} {b lb mb : Nat} {D : DM} (h : Dsk w b lb mb D) (hd : D.dn = false) {i : Nat} (hi : i < D.n) : Calls Try.prog 73 #[pp b, .int .i64 (i : Int)] w fun e w' => ∃ g, e = .returned (.tuple #[s64 g, .int .i64 0]) ∧ Got w w' g (D.cur i) ∧ Below w.heap.size w w' := by
  have h3 := rd_up hd hi
  have hs := DM.cur_sec h.ok i
  refine Calls.mono (read_any h _) ?_
  rintro e w' ⟨v, rfl, hn, hB⟩
  rw [h3.1, h3.2] at *
  rcases hn with ⟨e0, _⟩ | ⟨q2, rfl, h1, h2, hr⟩
  · have := hs.1
    rw [e0] at this
    cases this
  · rw [hs.1]
    exact ⟨q2, rfl, ⟨h1, h2, hr⟩, hB⟩
/-- While an entry's sectors are read. -/
structure EnR (w wr : World) (g cap : Nat) (C : Nat → List Nat) (a i n : Nat) : Prop where
  n : n = 64 * i
  a : AcR wr w.heap.size g cap (cat64 C a i)
  k : Below w.heap.size w wr
theorem EnR.next {w wr W1 W2 : World} {g cap g' cap' : Nat} {C : Nat → List Nat} {a i n : Nat} (h : EnR w wr g cap C a i n) (hB : Below wr.heap.size wr W1) (hA : AcR W2 w.heap.size g' cap' (cat64 C a i ++ C (a + i))) (hg : ∃ row, W1.grownBy W2 row ∧ ∀ k, row = some k → w.heap.size ≤ k) : EnR w W2 g' cap' C a (i + 1) (n + 64) := by
  obtain ⟨row, h1, h2⟩ := hg
  exact ⟨by have := h.n; omega, hA, (h.k.trans (hB.mono h.k.size)).grown h1 (Nat.le_trans h.k.size hB.size) h2⟩
theorem AcR.keep {wr W : World} {base g cap : Nat} {L : List Nat} (h : AcR wr base g cap L) (hB : Below wr.heap.size wr W) : AcR W base g cap L :=
  ⟨h.ge, Nat.lt_of_lt_of_le h.lt hB.size, fun j v hv => later hB (h.r j v hv), h.le, h.mx, h.o.imp id (fun ho => own_keep ho hB), h.b⟩
theorem fl_getD (l : List Nat) : fl (fun i => l.getD (0 + i) 0) l.length = l := by
  apply List.ext_getElem?
  intro i
  by_cases hi : i < l.length
  · rw [fl_at _ hi, List.getElem?_eq_getElem hi, Nat.zero_add, List.getD_eq_getElem?_getD, List.getElem?_eq_getElem hi]
    rfl
  · rw [List.getElem?_eq_none (by rw [fl_len]; omega), List.getElem?_eq_none (by omega)]
theorem fl_cut (l : List Nat) {o k : Nat} (h : o + k ≤ l.length) : fl (fun i => l.getD (o + i) 0) k = (l.drop o).take k := by
  apply List.ext_getElem?
  intro i
  by_cases hi : i < k
  · rw [fl_at _ hi, List.getElem?_take, if_pos hi, List.getElem?_drop, List.getD_eq_getElem?_getD, List.getElem?_eq_getElem (by omega)]
    rfl
  · rw [List.getElem?_eq_none (by rw [fl_len]; omega), List.getElem?_take, if_neg hi]
theorem w63 {x : Int} (h1 : 0 ≤ x) (h2 : x ≤ 1000000000) : wrap64 x = x := w_id (by omega) (by omega)
set_option maxRecDepth 100000 in
set_option maxHeartbeats 8000000 in
theorem entry_n {w : World} {b lb mb : Nat} {D : DM} (h : Dsk w b lb mb D) (hd : D.dn = false) {p u a z : Nat} (ha : a = 3 + p) (hz : z = 3 + u) (hn : 3 + u ≤ D.n) : Calls Try.prog 64 #[pp b, .int .i64 (a : Int), .int .i64 (z : Int)] w (ReP w D.cur p u) := by
  have HD := hide h
  have HN := hide (And.intro hn h.ok.n)
  have HDn := hide hd
  have HP := hide (And.intro ha hz)
  have HSc : Hid (∀ i, sec (D.cur i)) := fun i => DM.cur_sec h.ok i
  by_cases hpu : p < u
  · have HR1 := hide (read_up h hd (i := a) (by omega))
    have hge : ¬ (z ≤ a) := by omega
    obtain ⟨k, hk⟩ : ∃ k, k = elen D.cur p := ⟨_, rfl⟩
    have HLi : Hid (∀ (g : Nat) (W : World), W.rangeAt g 0 (cells8 (D.cur a)) → Calls Try.prog 62 #[.slice (some ⟨g, 0, none⟩) 2 64] W fun e w' => e = .returned (.int .u64 (k : Int)) ∧ w' = W) := fun g W hr => by
      have h1 := little_n (c := 64) (getD_ba hr (DM.cur_sec h.ok a).2 (o := 0) (k := 2) (by rw [(DM.cur_sec h.ok a).1]; omega)) (by omega) (by omega)
      rw [pn2] at h1
      have e : (D.cur a).getD 0 0 + 256 * (D.cur a).getD 1 0 = k := by rw [hk, ha]; rfl
      rw [e] at h1
      exact h1
    have HK := hide hk
    clear h hd ha hz hn hk
    go_enter Try.func64, Try.ntmps64
    go_upto_region 6 with (go_at_call 73; refine Calls.mono HR1.out ?_; rintro e W1 ⟨g, rfl, hG, hB⟩; have HG := hide hG; have HB1 := hide hB; clear hG hB)
    have HLi1 := hide (HLi.out g W1 HG.out.r)
    by_cases hk2 : k ≤ 200
    · have hg2 : ¬ ((200 : Int) < (k : Int)) := by omega
      have hk9 : k ≤ 1000000000 := by omega
      have ht := tk_4 hk2
      have hwa : wrap64 ((a : Int) + (tk k : Int)) = (a : Int) + (tk k : Int) := by have := HN.out; have := HP.out; exact w63 (by omega) (by omega)
      by_cases htk : p + tk k ≤ u
      · have hg3 : ¬ ((z : Int) < (a : Int) + (tk k : Int)) := by have := HP.out; omega
        go_upto_region 9 with (first
          | (go_at_call 62; refine Calls.mono HLi1.out ?_; rintro e W1 ⟨rfl, rfl⟩)
          | (go_at_call 41; refine Calls.mono (takes_n hk9) ?_; rintro e W1 ⟨rfl, rfl⟩))
        have HE1 : Hid (EnR w W1 g 64 D.cur a 1 64) := by
          have e1 : cat64 D.cur a 1 = D.cur a := by show [] ++ D.cur (a + 0) = _; rw [List.nil_append, Nat.add_zero]
          have e2 := (HSc.out a).1
          exact ⟨rfl, by rw [e1]; exact ⟨HG.out.ge, HG.out.lt, HG.out.r, by rw [e2]; exact Nat.le_refl _, by decide, Or.inl e2.symm, (HSc.out a).2⟩, HB1.out⟩
        have HT1 := hide (tk_pos k)
        clear hge hg2 hg3 hwa HLi1 HR1
        go_wp2_with fail
        go_loopg [8, 11] (tk k - 1) (fun g' s8 s11 wr => ∃ i n gg cap : Nat, g' = tk k - i ∧ 1 ≤ i ∧ i ≤ tk k ∧ s11 = .int .i64 (i : Int) ∧ s8 = .slice (some ⟨gg, 0, none⟩) n cap ∧ EnR w wr gg cap D.cur a i n)
        case atStart => exact ⟨1, 64, g, 64, rfl, Nat.le_refl _, HT1.out, rfl, rfl, HE1.out⟩
        case round =>
          obtain ⟨i, n, gg, cap, rfl, hi1, hi, rfl, rfl, hE⟩ := hrel
          have HE := hide hE
          clear hE HE1
          by_cases hlt : i < tk k
          · have hlt' : (i : Int) < (tk k : Int) := by omega
            have han : a + i < D.n := by have := HN.out; have := HP.out; omega
            have hw1 : wrap64 ((a : Int) + (i : Int)) = (a : Int) + (i : Int) := by have := HN.out; exact w63 (by omega) (by omega)
            have hw2 : wrap64 ((i : Int) + 1) = (i : Int) + 1 := w63 (by omega) (by omega)
            have HC : Hid (Calls Try.prog 73 #[pp b, .int .i64 ((a : Int) + (i : Int))] wr fun e w' => ∃ g2, e = .returned (.tuple #[s64 g2, .int .i64 0]) ∧ Got wr w' g2 (D.cur (a + i)) ∧ Below wr.heap.size wr w') := by
              have h5 := read_up (HD.out.keep HE.out.k) HDn.out han
              rw [Int.natCast_add] at h5
              exact h5
            have hn4 : n + 64 ≤ 1000000 := by have := HE.out.n; omega
            go_upto_region 15 with (first
              | (go_at_call 41; refine Calls.mono (takes_n hk9) ?_; rintro e wr ⟨rfl, rfl⟩)
              | (go_at_call 73; refine Calls.mono HC.out ?_; rintro e W2 ⟨g2, rfl, hG2, hB2⟩; have HG2 := hide hG2; have HB2 := hide hB2; clear hG2 hB2))
            have HA2 := hide (HE.out.a.keep HB2.out)
            have HBa : Hid (BA W2 (some ⟨g2, 0, none⟩) 64 (fun j => (D.cur (a + i)).getD (0 + j) 0)) := getD_ba HG2.out.r (HSc.out _).2 (by rw [(HSc.out _).1]; omega)
            have HFl : Hid (fl (fun j => (D.cur (a + i)).getD (0 + j) 0) 64 = D.cur (a + i)) := by have h6 := fl_getD (D.cur (a + i)); rw [(HSc.out _).1] at h6; exact h6
            have HLn : Hid ((cat64 D.cur a i).length = n) := by rw [cat64_len (fun i => (HSc.out i).1)]; exact HE.out.n.symm
            have HSz : Hid (w.heap.size ≤ W2.heap.size) := Nat.le_trans HE.out.k.size HB2.out.size
            go_wp2_with (refine wpList_ac rfl _ _ rfl (L := cat64 D.cur a i) rfl HLn.out HA2.out rfl HBa.out (by omega) hn4 HSz.out ?_; intro g3 cap3 W3 hA3 hg3; rw [HFl.out] at hA3; have HE3 := hide (HE.out.next HB2.out hA3 hg3); clear hA3 hg3)
            go_roundg (tk k - (i + 1))
            case measure => omega
            case rel => exact ⟨i + 1, n + 64, g3, cap3, rfl, by omega, hlt, by simp, rfl, HE3.out⟩
          · obtain rfl : i = tk k := by omega
            have hL := cat64_len (fun i => (HSc.out i).1) a (tk k)
            have hkm := tk_m k
            have hcap : (2 : Int) + (k : Int) ≤ (cap : Int) := by have := HE.out.a.le; omega
            have hcap2 : ¬ (cap = 2) := by have := HE.out.a.le; omega
            have HBa : Hid (BA wr (some ⟨gg, 2, none⟩) k (fun j => (cat64 D.cur a (tk k)).getD (2 + j) 0)) := getD_ba HE.out.a.r HE.out.a.b (by omega)
            have HCl : Hid (Calls Try.prog 44 #[.slice (some ⟨gg, 2, none⟩) k (cap - 2)] wr (ClnP wr (fun j => (cat64 D.cur a (tk k)).getD (2 + j) 0) k)) := clone_n HBa.out (by omega)
            have HL := hide (And.intro hL hkm)
            clear hL hkm
            go_wp2_with (first
              | (go_at_call 41; refine Calls.mono (takes_n hk9) ?_; rintro e wr ⟨rfl, rfl⟩)
              | (go_at_call 44; refine Calls.mono HCl.out ?_; rintro e W2 ⟨z2, c2, rfl, hb2, hz2, hB2⟩; have HR2 := hide (And.intro hb2 (And.intro hz2 hB2)); clear hb2 hz2 hB2))
            have hRe : ReP w D.cur p u (.returned (.tuple #[.slice z2 k c2, .int .i64 0])) W2 := by
              unfold ReP ReY
              rw [← HK.out]
              refine ⟨HE.out.k.trans (HR2.out.2.2.mono HE.out.k.size), Or.inr ⟨⟨hpu, hk2, htk⟩, z2, c2, _, rfl, HR2.out.1, ?_, fun h0 q hq => Nat.le_trans HE.out.k.size (HR2.out.2.1 h0 q hq)⟩⟩
              rw [fl_cut _ (by have := HL.out; omega)]
              unfold ent
              rw [← HP.out.1]
            exact bodyPost_ret (by simp [results, Try.results64]) rfl hRe
      · have hg3 : ((z : Int) < (a : Int) + (tk k : Int)) := by have := HP.out; omega
        go_wp2_with (first
          | (go_at_call 62; refine Calls.mono HLi1.out ?_; rintro e W1 ⟨rfl, rfl⟩)
          | (go_at_call 41; refine Calls.mono (takes_n hk9) ?_; rintro e W1 ⟨rfl, rfl⟩))
        exact bodyPost_ret (by simp [results, Try.results64]) rfl ⟨HB1.out, Or.inl ⟨fun hh => htk (by rw [HK.out]; exact hh.2.2), rfl⟩⟩
    · have hg2 : ((200 : Int) < (k : Int)) := by omega
      go_wp2_with (go_at_call 62; refine Calls.mono HLi1.out ?_; rintro e W1 ⟨rfl, rfl⟩)
      exact bodyPost_ret (by simp [results, Try.results64]) rfl ⟨HB1.out, Or.inl ⟨fun hh => hk2 (by rw [HK.out]; exact hh.2.1), rfl⟩⟩
  · have hge : z ≤ a := by omega
    clear h hd ha hz hn
    go_enter Try.func64, Try.ntmps64
    go_wp2_with fail
    exact bodyPost_ret (by simp [results, Try.results64]) rfl ⟨Below.refl _ _, Or.inl ⟨fun hh => hpu hh.1, rfl⟩⟩
end Go.Proofs.Ytpophfeommlajaa
namespace Go.Proofs.Ytpophfeommlajaa
open Go.RowKit Go.Maps
attribute [local go_sem ↓] Go.wp_at_zero Go.wp_at_succ

theorem holds_rd {C : Nat → List Nat} {p k : Nat} {f : Nat → Nat} (hk : elen C p = k) (hf : fl f k = ent C p k) (hm : k ≤ 200) : Holds C p (fl f k) := ⟨by rw [fl_len]; exact hk, by rw [fl_len, hf], by rw [fl_len]; exact hm⟩
/-- Blocks that are older. -/
def Xl (bs g : Nat) : Bool := decide (g < bs)
theorem Xl_of {bs g : Nat} : Xl bs g = true ↔ g < bs := decide_eq_true_iff
theorem Xl_not {bs g : Nat} (h : bs ≤ g) : Xl bs g = false := decide_eq_false (by omega)
theorem lst_empty (w : World) {base : Nat} {X : Nat → Bool} (hb : base ≤ w.heap.size) (hX : X w.heap.size = false) : Lst (w.alloc (.cells #[] 38)) base X (.slice (some ⟨w.heap.size, 0, none⟩) 0 0) [] [] :=
  ⟨World.ownsRow_made w #[] 0 hb (by decide) rfl, fun g hg => by cases hg; exact hX, fun j l h => by simp at h⟩
/-- What the entries are, if they take just so many sectors. -/
def prz (C : Nat → List Nat) (n u : Nat) : Option (List (List Nat)) := match prs C u n 0 with
  | some (l, e) => if e = u then some l else none
  | none => none
theorem prz_ok {C : Nat → List Nat} {n u : Nat} {l : List (List Nat)} (h : lays C 0 l) (hl : l.length = n) (hu : tks l = u) : prz C n u = some l := by
  unfold prz
  rw [← hl, prs_lays h (by omega), Nat.zero_add]
  exact if_pos hu
theorem prz_ne {C : Nat → List Nat} {n u : Nat} {l : List (List Nat)} (h : lays C 0 l) (hl : l.length = n) (hu : tks l ≤ u) (hne : tks l ≠ u) : prz C n u = none := by
  unfold prz
  rw [← hl, prs_lays h (by omega), Nat.zero_add]
  exact if_neg hne
theorem prz_no {C : Nat → List Nat} {n u : Nat} {l : List (List Nat)} (h : lays C 0 l) (hu : tks l ≤ u) (hl : l.length < n) (hc : ¬ ReY C (tks l) u) : prz C n u = none := by
  unfold prz
  rw [prs_fail h hu hl hc]
theorem tks_snoc (l : List (List Nat)) (f : Nat → Nat) (k : Nat) : tks (l ++ [fl f k]) = tks l + tk k := by rw [tks_app]; show tks l + (tk (fl f k).length + 0) = _; rw [fl_len]; rfl
/-- While the entries are read. -/
structure EsR (w wr : World) (C : Nat → List Nat) (v : Value) (l : List (List Nat)) (cs : List Value) (u : Nat) : Prop where
  s : Lst wr w.heap.size (Xl w.heap.size) v l cs
  h : lays C 0 l
  u : tks l ≤ u
  k : Below w.heap.size w wr
def EsP (w : World) (C : Nat → List Nat) (n u : Nat) (e : Ending) (w' : World) : Prop := Below w.heap.size w w' ∧ ((prz C n u = none ∧ e = .returned (.tuple #[.slice none 0 0, .int .i64 2])) ∨ ∃ l v cs, prz C n u = some l ∧ e = .returned (.tuple #[v, .int .i64 0]) ∧ Lst w' w.heap.size (Xl w.heap.size) v l cs ∧ lays C 0 l)
theorem EsR.next {w wr W1 W3 : World} {C : Nat → List Nat} {v v' : Value} {l : List (List Nat)} {cs : List Value} {u : Nat} (h : EsR w wr C v l cs u) (hB : Below wr.heap.size wr W1) {x : Option Addr} {k c : Nat} {f : Nat → Nat} (hb : BA W1 x k f) (hx : 0 < k → ∀ q, x = some q → wr.heap.size ≤ q.block) (hk : elen C (tks l) = k) (hf : fl f k = ent C (tks l) k) (hy : ReY C (tks l) u) {o : Obj}
    (ho : W3.ownsRow w.heap.size 38 1 v' (l.length + 1) (cs ++ [.slice x k c])) (hG : (W1.alloc o).grownBy W3 v.ownBlock) (hat : v'.ownBlock = v.ownBlock ∨ v'.ownBlock = some (W1.alloc o).heap.size) : EsR w W3 C v' (l ++ [fl f k]) (cs ++ [.slice x k c]) u := by
  have hlt : ∀ g, v.ownBlock = some g → g < wr.heap.size := fun g hg => (h.s.o.lt g hg).2
  have hB2 : Below W1.heap.size W1 (W1.alloc o) := K.alloc (Below.refl _ _) o
  have hkW : Below w.heap.size w (W1.alloc o) := (h.k.trans (hB.mono h.k.size)).trans (hB2.mono (Nat.le_trans h.k.size hB.size))
  have ht : tks (l ++ [fl f k]) = tks l + tk k := by rw [tks_app]; show tks l + (tk (fl f k).length + 0) = _; rw [fl_len]; rfl
  refine ⟨((h.s.keep hB).keep hB2).push (fun g hg => Nat.lt_of_lt_of_le (Xl_of.1 hg) hkW.size) (hb.keep hB2) (fun h0 p hp => ⟨Xl_not (Nat.le_trans h.k.size (hx h0 p hp)), fun e => ?_⟩) ho hG hat, ?_, ?_, hkW.grown hG hkW.size (fun g hg => (h.s.o.lt g hg).1)⟩
  · have h1 := hlt _ e
    have h2 := hx h0 p hp
    omega
  · rw [lays_app, Nat.zero_add]
    exact ⟨h.h, holds_rd hk hf (by rw [← hk]; exact hy.2.1), trivial⟩
  · rw [ht, ← hk]
    exact hy.2.2
set_option maxRecDepth 100000 in
set_option maxHeartbeats 8000000 in
theorem entries_n {w : World} {b lb mb : Nat} {D : DM} (h : Dsk w b lb mb D) (hd : D.dn = false) {n u z : Nat} (hz : z = 3 + u) (hn : 3 + u ≤ D.n) (hnn : n ≤ 4096) : Calls Try.prog 26 #[pp b, .int .i64 (n : Int), .int .i64 (z : Int)] w (EsP w D.cur n u) := by
  have HD := hide h
  have HN := hide (And.intro hn h.ok.n)
  have HDn := hide hd
  have HZ := hide hz
  have HE0 : Hid (EsR w (w.alloc (.cells #[] 38)) D.cur (.slice (some ⟨w.heap.size, 0, none⟩) 0 0) [] [] u) := ⟨lst_empty w (Nat.le_refl _) (Xl_not (Nat.le_refl _)), trivial, Nat.zero_le _, K.alloc (Below.refl _ _) _⟩
  clear h hd hz hn
  go_enter Try.func26, Try.ntmps26
  go_wp2_with fail
  go_loopg [8, 9, 14] n (fun g' s8 s9 s14 wr => ∃ (i a : Nat) (l : List (List Nat)) (cs : List Value), g' = n - i ∧ i ≤ n ∧ s14 = .int .i64 (i : Int) ∧ s9 = .int .i64 (a : Int) ∧ Hid (a = 3 + tks l ∧ l.length = i) ∧ EsR w wr D.cur s8 l cs u)
  case atStart => exact ⟨0, 3, [], [], rfl, Nat.zero_le _, rfl, rfl, ⟨rfl, rfl⟩, HE0.out⟩
  case round =>
    obtain ⟨i, a, l, cs, rfl, hi, rfl, rfl, HA, hE⟩ := hrel
    have HE := hide hE
    obtain ⟨zv, cv, ev, _⟩ := hE.s.shape
    clear hE HE0
    by_cases hlt : i < n
    · have hlt' : (i : Int) < (n : Int) := by omega
      have hw1 : wrap64 ((i : Int) + 1) = (i : Int) + 1 := w63 (by omega) (by omega)
      have HC := hide (entry_n (HD.out.keep HE.out.k) HDn.out (p := tks l) (u := u) HA.out.1 HZ.out HN.out.1)
      by_cases hY : ReY D.cur (tks l) u
      · obtain ⟨k, hk⟩ : ∃ k, k = elen D.cur (tks l) := ⟨_, rfl⟩
        have hk9 : k ≤ 1000000000 := by have := hY.2.1; omega
        have ht : tk k ≤ 4 := tk_4 (by rw [hk]; exact hY.2.1)
        have hw2 : wrap64 ((a : Int) + (tk k : Int)) = (a : Int) + (tk k : Int) := by have := HA.out.1; have := HE.out.u; have := HN.out; exact w63 (by omega) (by omega)
        have HC2 : Hid (Calls Try.prog 64 #[pp b, .int .i64 (a : Int), .int .i64 (z : Int)] wr fun e w' => ∃ x c f, e = .returned (.tuple #[.slice x k c, .int .i64 0]) ∧ BA w' x k f ∧ fl f k = ent D.cur (tks l) k ∧ (0 < k → ∀ q, x = some q → wr.heap.size ≤ q.block) ∧ Below wr.heap.size wr w') := by
          refine Calls.mono HC.out ?_
          rintro e w' ⟨hB, ⟨hn, _⟩ | ⟨_, x, c, f, rfl, h1, h2, h3⟩⟩
          · exact absurd hY hn
          · rw [← hk] at *
            exact ⟨x, c, f, rfl, h1, h2, h3, hB⟩
        have HK := hide hk
        have HY := hide hY
        have hLe : l.length ≤ 100000 := by have := HA.out.2; omega
        subst ev
        clear hk hY HC
        go_upto_region 8 with (go_at_call 64; refine Calls.mono HC2.out ?_; rintro e W1 ⟨x, c, f, rfl, hb, hf, hx, hB⟩; have HR := hide (And.intro hb (And.intro hf (And.intro hx hB))); clear hb hf hx hB)
        have HS1 : Hid (Lst (W1.alloc (.cells #[.slice x k c] 38)) w.heap.size (Xl w.heap.size) (.slice zv l.length cv) l cs) := (HE.out.s.keep HR.out.2.2.2).keep (K.alloc (Below.refl _ _) _)
        have HSz : Hid (w.heap.size ≤ (W1.alloc (.cells #[.slice x k c] 38)).heap.size) := Nat.le_trans (Nat.le_trans HE.out.k.size HR.out.2.2.2.size) (by simp)
        have HCe : Hid ((W1.alloc (.cells #[.slice x k c] 38)).cell? ⟨W1.heap.size, 0, none⟩ = some (.slice x k c)) := (Boxed.new W1 38 (.slice x k c)).cell
        go_upto_region 9 with (refine wpList_app1 rfl _ _ rfl rfl HS1.out.o rfl HCe.out rfl hLe HSz.out ?_; intro v3 W3 ho3 hG3 hat3; have HE3 := hide (HE.out.next HR.out.2.2.2 HR.out.1 HR.out.2.2.1 HK.out.symm HR.out.2.1 HY.out ho3 hG3 hat3); clear ho3 hG3 hat3)
        go_wp2_with (go_at_call 41; refine Calls.mono (takes_n hk9) ?_; rintro e W3 ⟨rfl, rfl⟩)
        go_roundg (n - (i + 1))
        case measure => omega
        case rel => exact ⟨i + 1, a + tk k, l ++ [fl f k], _, rfl, hlt, by simp, by simp [hw2], ⟨by rw [tks_snoc, HA.out.1]; omega, by rw [List.length_append, HA.out.2]; rfl⟩, HE3.out⟩
      · have HC2 : Hid (Calls Try.prog 64 #[pp b, .int .i64 (a : Int), .int .i64 (z : Int)] wr fun e w' => e = .returned (.tuple #[.slice none 0 0, .int .i64 2]) ∧ Below wr.heap.size wr w') := by
          refine Calls.mono HC.out ?_
          rintro e w' ⟨hB, ⟨_, rfl⟩ | ⟨hn, _⟩⟩
          · exact ⟨rfl, hB⟩
          · exact absurd hn hY
        have HY := hide hY
        subst ev
        clear hY HC
        go_wp2_with (go_at_call 64; refine Calls.mono HC2.out ?_; rintro e W1 ⟨rfl, hB⟩; have HB1 := hide hB; clear hB)
        exact bodyPost_ret (by simp [results, Try.results26]) rfl ⟨HE.out.k.trans (HB1.out.mono HE.out.k.size), Or.inl ⟨prz_no HE.out.h HE.out.u (by rw [HA.out.2]; exact hlt) HY.out, rfl⟩⟩
    · obtain rfl : i = n := by omega
      by_cases hu : tks l = u
      · have hne : ((a : Int) != (z : Int)) = false := by have h1 := HA.out.1; have h2 := HZ.out; rw [h1, h2, hu]; simp
        have HU := hide hu
        clear hu
        go_wp2_with fail
        exact bodyPost_ret (by simp [results, Try.results26]) rfl ⟨HE.out.k, Or.inr ⟨l, _, cs, prz_ok HE.out.h HA.out.2 HU.out, rfl, HE.out.s, HE.out.h⟩⟩
      · have hne : ((a : Int) != (z : Int)) = true := by have h1 := HA.out.1; have h2 := HZ.out; rw [h1, h2]; simp; omega
        have HU := hide hu
        clear hu
        go_wp2_with fail
        exact bodyPost_ret (by simp [results, Try.results26]) rfl ⟨HE.out.k, Or.inl ⟨prz_ne HE.out.h HA.out.2 HE.out.u HU.out, rfl⟩⟩
end Go.Proofs.Ytpophfeommlajaa
namespace Go.Proofs.Ytpophfeommlajaa
set_option maxRecDepth 100000
open Go.RowKit Go.Maps
attribute [local go_sem ↓] Go.wp_at_zero Go.wp_at_succ

/-- Blocks that others change, the store's own, a row. -/
def Xu (Y : Nat → Bool) (t g : Nat) : Bool := Y g || Nat.beq g t
def Xt (Y : Nat → Bool) (t : Nat) (v : Value) (g : Nat) : Bool := Xu Y t g || decide (v.ownBlock = some g)
/-- The document's store: K is kept, Wt waits. -/
structure RSt (w : World) (bs t r : Nat) (Y : Nat → Bool) (vk vw : Value) (ck cw : List Value) (K Wt : List (List Nat)) (ov : Bool) : Prop where
  c0 : w.cell? ⟨t, 0, none⟩ = some (pp r)
  c1 : w.cell? ⟨t, 1, none⟩ = some vk
  c2 : w.cell? ⟨t, 2, none⟩ = some vw
  c3 : w.cell? ⟨t, 3, none⟩ = some (.bool ov)
  z : ∀ i, i < 4 → w.frozen? ⟨t, i, none⟩ = false
  tl : t < w.heap.size
  ty : Y t = false
  k : Lst w bs (Xt Y t vw) vk K ck
  s : Lst w bs (Xu Y t) vw Wt cw
section
variable {w w' : World} {bs t r : Nat} {Y : Nat → Bool} {vk vw : Value} {ck cw : List Value} {K Wt : List (List Nat)} {ov : Bool}
/-- Others go on. -/
theorem RSt.kp (h : RSt w bs t r Y vk vw ck cw K Wt ov) (hK : Kp Y w w') : RSt w' bs t r Y vk vw ck cw K Wt ov := by
  have e := hK.block t h.tl h.ty
  have sub : ∀ {X : Nat → Bool}, (∀ k, Y k = true → X k = true) → Kp X w w' := fun hX => ⟨hK.os, hK.tape, hK.output, hK.size, fun k hk hx => hK.block k hk (by
    cases hy : Y k with
    | false => rfl
    | true => rw [hX k hy] at hx; cases hx)⟩
  exact ⟨(World.cell?_of_block (w := w) e).trans h.c0, (World.cell?_of_block (w := w) e).trans h.c1, (World.cell?_of_block (w := w) e).trans h.c2, (World.cell?_of_block (w := w) e).trans h.c3, fun i hi => (World.frozen?_of_block (w := w) e).trans (h.z i hi), Nat.lt_of_lt_of_le h.tl hK.size, h.ty,
    h.k.kp (sub (fun k hk => by unfold Xt Xu; rw [hk, Bool.true_or, Bool.true_or])), h.s.kp (sub (fun k hk => by unfold Xu; rw [hk, Bool.true_or]))⟩
theorem RSt.keep (h : RSt w bs t r Y vk vw ck cw K Wt ov) (hB : Below w.heap.size w w') : RSt w' bs t r Y vk vw ck cw K Wt ov := h.kp (Kp.of hB)
/-- A store that was opened. -/
theorem OpR.st {W : World} (h : OpR W w t r vk K ck) (hY : ∀ g, Y g = true → g < W.heap.size) : RSt w W.heap.size t r Y vk (.slice none 0 0) ck [] K [] false := by
  have ht : Y t = false := by
    cases hy : Y t with
    | false => rfl
    | true => have := hY t hy; have := h.tg; omega
  refine ⟨h.c0, h.c1, h.c2, h.c3, h.z, h.tl, ht, h.s.sub (fun k hk => ?_), Lst.nil _ _ _⟩
  unfold Xt Xu at hk
  rcases Bool.or_eq_true _ _ |>.mp hk with h1 | h1
  · rcases Bool.or_eq_true _ _ |>.mp h1 with h2 | h2
    · exact Xo_of.2 (Or.inl (hY k h2))
    · exact Xo_of.2 (Or.inr (Nat.eq_of_beq_eq_true h2))
  · have := of_decide_eq_true h1; cases this
end
theorem room_arith {n a b : Nat} (hn : n ≤ 4096) (ha : a ≤ 1000000000000) (hb : b ≤ 1000000000000) : wrap64 ((n : Int) - 3) = (n : Int) - 3 ∧ wrap64 ((n : Int) - 3 - (a : Int)) = (n : Int) - 3 - (a : Int) ∧ wrap64 ((n : Int) - 3 - (a : Int) - (b : Int)) = (n : Int) - 3 - (a : Int) - (b : Int) :=
  ⟨w_id (by omega) (by omega), w_id (by omega) (by omega), w_id (by omega) (by omega)⟩
theorem tks_bound {L : List (List Nat)} (hs : short L) (hn : L.length ≤ 1000000) : tks L ≤ 1000000000000 := by
  have := tks_short hs
  omega
set_option maxRecDepth 100000 in
set_option maxHeartbeats 4000000 in
theorem ref_room {w : World} {bs t r la na cl cn : Nat} {zl zn : Option Addr} {Y G : Nat → Bool} {vk vw : Value} {ck cw : List Value} {K Wt : List (List Nat)} {ov : Bool} {D : DM} (h : RSt w bs t r Y vk vw ck cw K Wt ov) (hd : RDk w r la na cl cn zl zn D G) (hk : short K ∧ K.length ≤ 1000000) (hw : short Wt ∧ Wt.length ≤ 1000000) :
    Calls Try.prog 37 #[pp t] w fun e w' => e = .returned (.int .i64 ((D.n : Int) - 3 - (tks K : Int) - (tks Wt : Int))) ∧ Below w.heap.size w w' := by
  obtain ⟨zk, kc, ek, hvk⟩ := h.k.shape
  obtain ⟨zw, wc, ew, hvw⟩ := h.s.shape
  obtain ⟨w1, w2, w3⟩ := room_arith hd.ok.n (tks_bound hk.1 hk.2) (tks_bound hw.1 hw.2)
  have hc0 := h.c0
  have hc1 := h.c1
  have hc2 := h.c2
  have hr0 := hd.c0
  rw [ek] at hc1
  rw [ew] at hc2
  have hdr : Below w.heap.size w w.drew := Go.Proofs.Ytpophfeommlajaa.K.drew (Below.refl _ _)
  have HA1 := hide (all_any (c := kc) (hvk.keep hdr) hk.1 hk.2)
  have HA2 := hide (all_any (c := wc) (hvw.keep hdr) hw.1 hw.2)
  have HDr := hide hdr
  clear h hd hk hw hvk hvw ek ew hdr
  go_enter Try.func37, Try.ntmps37
  go_upto_region 1 with fail
  refine wp_region_noPanic ?_
  refine wp_region_held_drew (S := fun w' => w'.cell? ⟨t, 0, none⟩ = some (pp r) ∧ w'.cell? ⟨t, 1, none⟩ = some (.slice zk K.length kc) ∧ w'.cell? ⟨t, 2, none⟩ = some (.slice zw Wt.length wc) ∧ w'.cell? ⟨r, 0, none⟩ = some (.slice zl D.n cl)) (by kernel_rfl) ⟨hc0, hc1, hc2, hr0⟩ (fun hS0 => ?_)
  refine wpAnyH_take (i := 0) (v := pp t) rfl (by kernel_rfl) (by kernel_rfl) (by kernel_rfl) (fun _ _ _ h => h) (Or.inl ⟨by rfl, fun w' _ => by go_simp⟩) hS0 ?_
  simp only [Act.put, List.getElem_toArray, List.getElem_cons_zero, List.setIfInBounds_toArray, List.set_cons_zero, List.set_cons_succ]
  refine wpAnyH_take (i := 1) (v := pp t) rfl (by kernel_rfl) (by kernel_rfl) (by kernel_rfl) (fun _ _ _ h => h) (Or.inl ⟨by rfl, fun w' _ => by go_simp⟩) hS0 ?_
  simp only [Act.put, List.getElem_toArray, List.getElem_cons_zero, List.getElem_cons_succ, List.setIfInBounds_toArray, List.set_cons_zero, List.set_cons_succ]
  refine wpAnyH_take (i := 2) (v := .pointer (some ⟨t, 0, none⟩)) rfl (by kernel_rfl) (by kernel_rfl) (by kernel_rfl) (fun _ _ _ h => h) (Or.inl ⟨by rfl, fun w' _ => by go_simp⟩) hS0 ?_
  simp only [Act.put, List.getElem_toArray, List.getElem_cons_zero, List.getElem_cons_succ, List.setIfInBounds_toArray, List.set_cons_zero, List.set_cons_succ]
  refine wpAnyH_take (i := 3) (v := pp r) rfl (by kernel_rfl) (by kernel_rfl) (by kernel_rfl) (fun _ _ _ h => h) (Or.inl ⟨by rfl, fun w' hS => by have hc := hS.1; go_simp⟩) hS0 ?_
  simp only [Act.put, List.getElem_toArray, List.getElem_cons_zero, List.getElem_cons_succ, List.setIfInBounds_toArray, List.set_cons_zero, List.set_cons_succ]
  refine wpAnyH_take (i := 4) (v := pp r) rfl (by kernel_rfl) (by kernel_rfl) (by kernel_rfl) (fun _ _ _ h => h) (Or.inl ⟨by rfl, fun w' _ => by go_simp⟩) hS0 ?_
  simp only [Act.put, List.getElem_toArray, List.getElem_cons_zero, List.getElem_cons_succ, List.setIfInBounds_toArray, List.set_cons_zero, List.set_cons_succ]
  refine wpAnyH_take (i := 5) (v := .pointer (some ⟨r, 0, none⟩)) rfl (by kernel_rfl) (by kernel_rfl) (by kernel_rfl) (fun _ _ _ h => h) (Or.inl ⟨by rfl, fun w' _ => by go_simp⟩) hS0 ?_
  simp only [Act.put, List.getElem_toArray, List.getElem_cons_zero, List.getElem_cons_succ, List.setIfInBounds_toArray, List.set_cons_zero, List.set_cons_succ]
  refine wpAnyH_take (i := 6) (v := .slice zl D.n cl) rfl (by kernel_rfl) (by kernel_rfl) (by kernel_rfl) (fun _ _ _ h => h) (Or.inl ⟨by rfl, fun w' hS => by have hc := hS.2.2.2; go_simp⟩) hS0 ?_
  simp only [Act.put, List.getElem_toArray, List.getElem_cons_zero, List.getElem_cons_succ, List.setIfInBounds_toArray, List.set_cons_zero, List.set_cons_succ]
  refine wpAnyH_take (i := 7) (v := .int .i64 (D.n : Int)) rfl (by kernel_rfl) (by kernel_rfl) (by kernel_rfl) (fun _ _ _ h => h) (Or.inl ⟨by rfl, fun w' _ => by go_simp⟩) hS0 ?_
  simp only [Act.put, List.getElem_toArray, List.getElem_cons_zero, List.getElem_cons_succ, List.setIfInBounds_toArray, List.set_cons_zero, List.set_cons_succ]
  refine wpAnyH_take (i := 8) (v := .int .i64 ((D.n : Int) - 3)) rfl (by kernel_rfl) (by kernel_rfl) (by kernel_rfl) (fun _ _ _ h => h) (Or.inl ⟨by rfl, fun w' _ => by go_simp; exact (wrapI _).trans w1⟩) hS0 ?_
  simp only [Act.put, List.getElem_toArray, List.getElem_cons_zero, List.getElem_cons_succ, List.setIfInBounds_toArray, List.set_cons_zero, List.set_cons_succ]
  refine wpAnyH_take (i := 9) (v := pp t) rfl (by kernel_rfl) (by kernel_rfl) (by kernel_rfl) (fun _ _ _ h => h) (Or.inl ⟨by rfl, fun w' _ => by go_simp⟩) hS0 ?_
  simp only [Act.put, List.getElem_toArray, List.getElem_cons_zero, List.getElem_cons_succ, List.setIfInBounds_toArray, List.set_cons_zero, List.set_cons_succ]
  refine wpAnyH_take (i := 10) (v := pp t) rfl (by kernel_rfl) (by kernel_rfl) (by kernel_rfl) (fun _ _ _ h => h) (Or.inl ⟨by rfl, fun w' _ => by go_simp⟩) hS0 ?_
  simp only [Act.put, List.getElem_toArray, List.getElem_cons_zero, List.getElem_cons_succ, List.setIfInBounds_toArray, List.set_cons_zero, List.set_cons_succ]
  refine wpAnyH_take (i := 11) (v := .pointer (some ⟨t, 1, none⟩)) rfl (by kernel_rfl) (by kernel_rfl) (by kernel_rfl) (fun _ _ _ h => h) (Or.inl ⟨by rfl, fun w' _ => by go_simp⟩) hS0 ?_
  simp only [Act.put, List.getElem_toArray, List.getElem_cons_zero, List.getElem_cons_succ, List.setIfInBounds_toArray, List.set_cons_zero, List.set_cons_succ]
  refine wpAnyH_take (i := 12) (v := .slice zk K.length kc) rfl (by kernel_rfl) (by kernel_rfl) (by kernel_rfl) (fun _ _ _ h => h) (Or.inl ⟨by rfl, fun w' hS => by have hc := hS.2.1; go_simp⟩) hS0 ?_
  simp only [Act.put, List.getElem_toArray, List.getElem_cons_zero, List.getElem_cons_succ, List.setIfInBounds_toArray, List.set_cons_zero, List.set_cons_succ]
  refine wpAnyH_take (i := 15) (v := pp t) rfl (by kernel_rfl) (by kernel_rfl) (by kernel_rfl) (fun _ _ _ h => h) (Or.inl ⟨by rfl, fun w' _ => by go_simp⟩) hS0 ?_
  simp only [Act.put, List.getElem_toArray, List.getElem_cons_zero, List.getElem_cons_succ, List.setIfInBounds_toArray, List.set_cons_zero, List.set_cons_succ]
  refine wpAnyH_take (i := 16) (v := pp t) rfl (by kernel_rfl) (by kernel_rfl) (by kernel_rfl) (fun _ _ _ h => h) (Or.inl ⟨by rfl, fun w' _ => by go_simp⟩) hS0 ?_
  simp only [Act.put, List.getElem_toArray, List.getElem_cons_zero, List.getElem_cons_succ, List.setIfInBounds_toArray, List.set_cons_zero, List.set_cons_succ]
  refine wpAnyH_take (i := 17) (v := .pointer (some ⟨t, 2, none⟩)) rfl (by kernel_rfl) (by kernel_rfl) (by kernel_rfl) (fun _ _ _ h => h) (Or.inl ⟨by rfl, fun w' _ => by go_simp⟩) hS0 ?_
  simp only [Act.put, List.getElem_toArray, List.getElem_cons_zero, List.getElem_cons_succ, List.setIfInBounds_toArray, List.set_cons_zero, List.set_cons_succ]
  refine wpAnyH_take (i := 18) (v := .slice zw Wt.length wc) rfl (by kernel_rfl) (by kernel_rfl) (by kernel_rfl) (fun _ _ _ h => h) (Or.inl ⟨by rfl, fun w' hS => by have hc := hS.2.2.1; go_simp⟩) hS0 ?_
  simp only [Act.put, List.getElem_toArray, List.getElem_cons_zero, List.getElem_cons_succ, List.setIfInBounds_toArray, List.set_cons_zero, List.set_cons_succ]
  refine wpAnyH_ready (rs := [13]) (by kernel_rfl) (by simp) (AllReadyH.cons rfl (fun Kt hK => ?_) AllReadyH.nil)
  refine wanted_pos rfl ?_
  refine wp_call (R := fun x w' => x = .int .i64 (tks K : Int) ∧ w' = w.drew) (vs := #[.slice zk K.length kc]) rfl (by simp only [List.map_toArray, List.map_cons, List.map_nil]; rfl) (by go_simp) (Calls.mono HA1.out (fun e w' he => ⟨_, he.1, rfl, he.2⟩)) (fun x W6 hr => ?_)
  obtain ⟨hx, rfl⟩ := hr
  subst hx
  refine hK.out _ _ hS0 (fun _ => ?_)
  clear hK Kt
  simp only [Act.put, List.getElem_toArray, List.getElem_cons_zero, List.getElem_cons_succ, List.setIfInBounds_toArray, List.set_cons_zero, List.set_cons_succ]
  refine wpAnyH_take (i := 14) (v := .int .i64 ((D.n : Int) - 3 - (tks K : Int))) rfl (by kernel_rfl) (by kernel_rfl) (by kernel_rfl) (fun _ _ _ h => h) (Or.inl ⟨by rfl, fun w' _ => by go_simp; exact (wrapI _).trans w2⟩) hS0 ?_
  simp only [Act.put, List.getElem_toArray, List.getElem_cons_zero, List.getElem_cons_succ, List.setIfInBounds_toArray, List.set_cons_zero, List.set_cons_succ]
  refine wpAnyH_ready (rs := [19]) (by kernel_rfl) (by simp) (AllReadyH.cons rfl (fun Kt hK => ?_) AllReadyH.nil)
  refine wanted_pos rfl ?_
  refine wp_call (R := fun x w' => x = .int .i64 (tks Wt : Int) ∧ w' = w.drew) (vs := #[.slice zw Wt.length wc]) rfl (by simp only [List.map_toArray, List.map_cons, List.map_nil]; rfl) (by go_simp) (Calls.mono HA2.out (fun e w' he => ⟨_, he.1, rfl, he.2⟩)) (fun x W6 hr => ?_)
  obtain ⟨hx, rfl⟩ := hr
  subst hx
  refine hK.out _ _ hS0 (fun _ => ?_)
  clear hK Kt
  simp only [Act.put, List.getElem_toArray, List.getElem_cons_zero, List.getElem_cons_succ, List.setIfInBounds_toArray, List.set_cons_zero, List.set_cons_succ]
  refine wpAnyH_take (i := 20) (v := .int .i64 ((D.n : Int) - 3 - (tks K : Int) - (tks Wt : Int))) rfl (by kernel_rfl) (by kernel_rfl) (by kernel_rfl) (fun _ _ _ h => h) (Or.inl ⟨by rfl, fun w' _ => by go_simp; exact (wrapI _).trans w3⟩) hS0 ?_
  simp only [Act.put, List.getElem_toArray, List.getElem_cons_zero, List.getElem_cons_succ, List.setIfInBounds_toArray, List.set_cons_zero, List.set_cons_succ]
  refine wpAnyH_take (i := 21) (v := .int .i64 ((D.n : Int) - 3 - (tks K : Int) - (tks Wt : Int))) rfl (by kernel_rfl) (by kernel_rfl) (by kernel_rfl) (fun _ _ _ h => h) (Or.inl ⟨by rfl, fun w' _ => by go_simp⟩) hS0 ?_
  simp only [Act.put, List.getElem_toArray, List.getElem_cons_zero, List.getElem_cons_succ, List.setIfInBounds_toArray, List.set_cons_zero, List.set_cons_succ]
  refine wpAnyH_done (by kernel_rfl) ?_ _
  refine NoPanic.normal ?_
  go_wp2_with fail
  go_ret
  exact ⟨rfl, HDr.out⟩
end Go.Proofs.Ytpophfeommlajaa
namespace Go.Proofs.Ytpophfeommlajaa
set_option maxRecDepth 100000
open Go.RowKit Go.Maps
attribute [local go_sem ↓] Go.wp_at_zero Go.wp_at_succ

theorem ldB_sec {D : DM} (h : D.ok) {a : Int} (he : D.ldE a = 0) : sec (D.ldB a) := by
  obtain ⟨h0, h1, h2⟩ := ld_rd he
  rw [ldB_of he]
  exact vl_sec (rdB_sec h h0) (rdB_sec h h2)
theorem Got.ba {w wr : World} {g : Nat} {l : List Nat} (h : Got w wr g l) (hl : sec l) : BA wr (some ⟨g, 0, none⟩) 64 (fun i => l.getD i 0) := ba_sec h.r hl
end Go.Proofs.Ytpophfeommlajaa
