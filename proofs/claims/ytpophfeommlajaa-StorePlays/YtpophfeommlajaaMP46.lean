/- Layer 15, the laws: a new disk is opened; awake; what a store tells. Layer 15, the laws: what a store tells; the law of none. Layer 15: chroniclelaw15's own 'same'. Layer 15, pure: what crashes leave, along a script. Layer 15: both stores, and their disks, side by side. -/
import Derived.Test.YtpophfeommlajaaMP45
import Derived.Test.YtpophfeommlajaaMP34
import Derived.Lib.SlBytesConst
namespace Go.Proofs.Ytpophfeommlajaa
open Go.RowKit Go.Maps
attribute [local go_sem ↓] Go.wp_at_zero Go.wp_at_succ

theorem mkv_nil : mkv [] = z64 := by decide
theorem new_open {n : Nat} (h3 : 3 ≤ n) (h4 : n ≤ 4096) : (DM.new n).mendE 0 = 0 ∧ ((DM.new n).mendD 0).free ∧ ((DM.new n).mendD 0).n = n ∧ (DM.new n).opE = 0 ∧ (DM.new n).opL = [] ∧ (DM.new n).opO = some [] := by
  have hf := new_free n
  obtain ⟨m1, m2, m3⟩ := mend_free hf (DM.new_ok h4) (show 2 < n by omega)
  have hl := (ld_free hf (a := 0) (show 2 < n by omega)).2
  have hv : (DM.new n).ldB 0 = z64 := hl
  have hb : ((DM.new n).mendD 0).ldB 0 = z64 := (mend_ok (a := 0) m1).2.2.2.2.2.2.trans hv
  have ho : (DM.new n).opO = some [] := by
    unfold DM.opO
    rw [hb, ← mkv_nil]
    exact opn_lays trivial (show 0 + 3 ≤ n by omega) h4
  refine ⟨m1, m2, m3, ?_, ?_, ho⟩
  · unfold DM.opE
    rw [if_pos m1, ho]
    rfl
  · unfold DM.opL
    rw [ho]
    rfl
theorem ap_free {s : SM} (hf : s.D.free) (ho : s.o = false) {l : List Nat} (hl : ∀ x ∈ l, x < 256) (hm : l.length ≤ 200) (hn : 3 + tks s.K + tks s.W + tk l.length ≤ s.D.n) : s.apE l = 0 ∧ (s.ap l).D.free ∧ (s.ap l).D.n = s.D.n ∧ (s.ap l).K = s.K ∧ (s.ap l).W = s.W ++ [l] ∧ (s.ap l).o = false := by
  have ho' : ¬ (s.o = true) := by rw [ho]; decide
  obtain ⟨g1, g2, g3⟩ := apw_free hf (p := 3 + tks s.K + tks s.W) (f := fun i => l.getD i 0) (fun i => getD_lt hl i) hm (tk l.length) (by omega)
  have e1 : s.ap l = ⟨(apx s l).1, s.K, apW (apx s l).2 s.W l, cmO (apx s l).2⟩ := (if_neg ho').trans ((if_neg (by omega)).trans (if_neg (by omega)))
  have e2 : s.apE l = (apx s l).2 := (if_neg ho').trans ((if_neg (by omega)).trans (if_neg (by omega)))
  have e3 : (apx s l).2 = 0 := g1
  rw [e1, e2]
  refine ⟨e3, g2, g3, rfl, ?_, ?_⟩
  · show apW (apx s l).2 s.W l = _
    exact if_pos e3
  · show cmO (apx s l).2 = false
    rw [e3]
    decide
theorem co_free {s : SM} (hf : s.D.free) (ho : s.o = false) (hn : 2 < s.D.n) : s.coE = 0 ∧ s.co.D.free ∧ s.co.D.n = s.D.n ∧ s.co.K = s.K ++ s.W ∧ s.co.W = [] ∧ s.co.o = false := by
  have ho' : ¬ (s.o = true) := by rw [ho]; decide
  by_cases hw : s.W = []
  · have e1 : s.co = s := (if_neg ho').trans (if_pos hw)
    have e2 : s.coE = 0 := (if_neg ho').trans (if_pos hw)
    rw [e1, e2, hw, List.append_nil]
    exact ⟨rfl, hf, rfl, rfl, rfl, ho⟩
  · obtain ⟨g1, g2, g3⟩ := cm_free hf hn (s.K ++ s.W)
    have e1 : s.co = ⟨(cm s.D (s.K ++ s.W)).1, cmK (cm s.D (s.K ++ s.W)).2 s.K s.W, cmW (cm s.D (s.K ++ s.W)).2 s.W, cmO (cm s.D (s.K ++ s.W)).2⟩ := (if_neg ho').trans (if_neg hw)
    have e2 : s.coE = (cm s.D (s.K ++ s.W)).2 := (if_neg ho').trans (if_neg hw)
    rw [e1, e2]
    refine ⟨g1, g2, g3, ?_, ?_, ?_⟩
    · exact if_pos g1
    · exact if_pos g1
    · show cmO _ = false
      rw [g1]
      decide
theorem kp_below {X : Nat → Bool} {w w1 w2 : World} (hB : Below w.heap.size w w1) (hK : Kp X w1 w2) (hX : ∀ k, X k = true → w.heap.size ≤ k) : Below w.heap.size w w2 :=
  ⟨hK.os.trans hB.os, hK.tape.trans hB.tape, hK.output.trans hB.output, Nat.le_trans hB.size hK.size, fun k hk => (hK.block k (Nat.lt_of_lt_of_le hk hB.size) (by
    cases hx : X k with
    | false => rfl
    | true => have := hX k hx; omega)).trans (hB.block k hk)⟩
/-- The blocks of a disk are there. -/
theorem Dsk.xl {w : World} {b lb mb : Nat} {D : DM} (h : Dsk w b lb mb D) : ∀ g, X3 b lb mb g = true → g < w.heap.size := fun k hk => by
  rcases X3_of.1 hk with rfl | rfl | rfl
  · exact h.bl
  · exact h.ll
  · exact h.mp.lt
/-- A new disk that is opened. -/
def FrP (w : World) (b lb mb : Nat) (n : Nat) (e : Ending) (w' : World) : Prop := ∃ t s, e = .returned (.tuple #[pp t, .int .i64 0]) ∧ PW w' b lb mb t (grow (X3 b lb mb) w w') (X3 b lb mb) s ∧ s.D.free ∧ s.D.n = n ∧ s.K = [] ∧ s.W = [] ∧ s.o = false ∧ Kp (X3 b lb mb) w w'
theorem fresh_open {w : World} {b lb mb n : Nat} (h : Dsk w b lb mb (.new n)) (h3 : 3 ≤ n) (h4 : n ≤ 4096) : Calls Try.prog 8 #[pp b] w (FrP w b lb mb n) := by
  obtain ⟨_, m2, m3, m4, m5, _⟩ := new_open h3 h4
  refine Calls.mono (open_pw (Y := X3 b lb mb) h (fun _ hg => hg) h.xl) ?_
  rintro e w' ⟨W, h1, h2, h5, ⟨_, t, rfl, h6, _⟩ | ⟨hne, _⟩⟩
  · exact ⟨t, _, rfl, h6, m2, m3, m5, rfl, rfl, h2.trans (Kp.of h5)⟩
  · exact absurd m4 hne
theorem ba_a (w : World) : BA (w.alloc (.cells #[.int .u8 97] 5 (1, 2))) (some ⟨w.heap.size, 0, none⟩) 1 (fun _ => 97) :=
  ⟨fun _ => by decide, Or.inr ⟨_, _, rfl, ⟨fun i hi => by
    obtain rfl : i = 0 := by omega
    rw [cell_of_row _ _ _ _ _ _ (heap_alloc_new w _)]; rfl⟩⟩⟩
set_option maxRecDepth 100000 in
set_option maxHeartbeats 4000000 in
theorem awake_n (w : World) : Calls Try.prog 4 #[] w fun e w' => e = .returned (.bool true) ∧ Below w.heap.size w w' := by
  go_enter Try.func4, Try.ntmps4
  go_upto_region 2 with (go_at_call 6; refine Calls.mono (new_any (n := 9) (by omega) _) ?_; rintro e W1 ⟨b, lb, mb, rfl, hD, h1, h2, h3, hB⟩; have HD := hide hD; have HB1 := hide hB; have HG := hide (And.intro h1 (And.intro h2 h3)); clear hD hB h1 h2 h3)
  have HFo := hide (fresh_open HD.out (by omega) (by omega))
  go_upto_region 3 with (go_at_call 8; refine Calls.mono HFo.out ?_; rintro e W2 ⟨t, s, rfl, hP, hf, hn, hk, hw, ho, hK⟩; have HP := hide hP; have HS := hide (And.intro hf (And.intro hn (And.intro hk (And.intro hw ho)))); have HK2 := hide hK; clear hP hf hn hk hw ho hK)
  have HX : Hid (∀ k, X3 b lb mb k = true → w.heap.size ≤ k) := fun k hk => by
    rcases X3_of.1 hk with e | e | e
    · rw [e]; exact HG.out.1
    · rw [e]; exact HG.out.2.1
    · rw [e]; exact HG.out.2.2
  have HB2 : Hid (Below w.heap.size w W2) := kp_below HB1.out HK2.out HX.out
  have hcv : (convert 38 38 (.slice (some ⟨W2.heap.size, 0, none⟩) 1 1)).run Try.prog (W2.alloc (.cells #[.int .u8 97] 5)) = .ok (.slice (some ⟨W2.heap.size, 0, none⟩) 1 1) (W2.alloc (.cells #[.int .u8 97] 5 (1, 2))) := Lib.run_convert_bytes_const W2 38 5 #[.int .u8 97] 1 1 Try.underlying38 Try.underlying5
  have HP3 := hide (HP.out.keep (Go.Proofs.Ytpophfeommlajaa.K.alloc (Below.refl _ W2) (.cells #[.int .u8 97] 5 (1, 2))))
  have HAp : Hid (Calls Try.prog 11 #[pp t, .slice (some ⟨W2.heap.size, 0, none⟩) 1 1] (W2.alloc (.cells #[.int .u8 97] 5 (1, 2))) fun e w' => e = .returned (.int .i64 0) ∧ PW w' b lb mb t (grow (grow (X3 b lb mb) W1 W2) (W2.alloc (.cells #[.int .u8 97] 5 (1, 2))) w') (X3 b lb mb) (s.ap [97]) ∧ Kp (grow (X3 b lb mb) W1 W2) (W2.alloc (.cells #[.int .u8 97] 5 (1, 2))) w') := by
    have h5 := ap_pw (c := 1) HP3.out (ba_a W2) (fun _ p hp => by cases hp; exact HP.out.dsk.out (Nat.le_refl _))
    obtain ⟨q1, q2, q3, q4, q5⟩ := HS.out
    have h6 := (ap_free (s := s) (l := [97]) q1 q5 (fun x hx => by simp at hx; omega) (by decide) (by rw [q3, q4, q2]; decide)).1
    rw [show fl (fun _ => 97) 1 = [97] from rfl] at h5
    unfold ApW at h5
    rw [h6] at h5
    exact h5
  have HAf : Hid ((s.ap [97]).D.free ∧ (s.ap [97]).o = false ∧ (s.ap [97]).K = [] ∧ (s.ap [97]).W = [[97]] ∧ (s.ap [97]).D.n = 9) := by
    obtain ⟨q1, q2, q3, q4, q5⟩ := HS.out
    obtain ⟨_, g2, g3, g4, g5, g6⟩ := ap_free (s := s) (l := [97]) q1 q5 (fun x hx => by simp at hx; omega) (by decide) (by rw [q3, q4, q2]; decide)
    exact ⟨g2, g6, g4.trans q3, by rw [g5, q4]; rfl, g3.trans q2⟩
  obtain ⟨s1, hs1⟩ : ∃ s1, s1 = s.ap [97] := ⟨_, rfl⟩
  rw [← hs1] at HAp HAf
  clear hs1
  have HCf := hide (co_free HAf.out.1 HAf.out.2.1 (by rw [HAf.out.2.2.2.2]; decide))
  have HLn : Hid (s1.co.K.length = 1) := by show s1.co.K.length = 1; rw [HCf.out.2.2.2.1, HAf.out.2.2.1, HAf.out.2.2.2.1]; rfl
  have HCo : Hid (∀ (W : World) (O : Nat → Bool), PW W b lb mb t O (X3 b lb mb) s1 → Calls Try.prog 13 #[pp t] W fun e w' => e = .returned (.int .i64 0) ∧ PW w' b lb mb t (grow O W w') (X3 b lb mb) s1.co ∧ Kp O W w') := fun W O hW => by
    have h5 := co_pw hW
    unfold ApW at h5
    rw [HCf.out.1] at h5
    exact h5
  have HLe : Hid (∀ (W : World) (O : Nat → Bool), PW W b lb mb t O (X3 b lb mb) s1.co → Calls Try.prog 21 #[pp t] W fun e w' => e = .returned (.int .i64 1) ∧ w' = W) := fun W O hW => by
    have h5 := len_pw hW
    rw [HLn.out] at h5
    exact h5
  have HG2 : Hid (∀ k, grow (X3 b lb mb) W1 W2 k = true → w.heap.size ≤ k) := fun k hk => by
    rcases grow_of.1 hk with e | e
    · exact HX.out k e
    · exact Nat.le_trans HB1.out.size e.1
  go_wp2_with (first
    | (go_at_call 11; refine Calls.mono HAp.out ?_; rintro e W3 ⟨rfl, hP3, hK3⟩; have HP4 := hide hP3; have HK3 := hide hK3; have HCo3 := hide (HCo.out _ _ hP3); clear hP3 hK3)
    | (go_at_call 13; refine Calls.mono HCo3.out ?_; rintro e W4 ⟨rfl, hP5, hK5⟩; have HLe4 := hide (HLe.out _ _ hP5); have HK5 := hide hK5; clear hP5 hK5)
    | (go_at_call 21; refine Calls.mono HLe4.out ?_; rintro e W4 ⟨rfl, rfl⟩))
  go_ret
  have hB3 : Below w.heap.size w W3 := kp_below (HB2.out.trans ((Go.Proofs.Ytpophfeommlajaa.K.alloc (Below.refl _ W2) _).mono HB2.out.size)) HK3.out HG2.out
  exact ⟨rfl, kp_below hB3 HK5.out (fun k hk => by
    rcases grow_of.1 hk with e | e
    · exact HG2.out k e
    · exact Nat.le_trans HB2.out.size (Nat.le_trans (by simp) e.1))⟩
end Go.Proofs.Ytpophfeommlajaa
namespace Go.Proofs.Ytpophfeommlajaa
open Go.RowKit Go.Maps
attribute [local go_sem ↓] Go.wp_at_zero Go.wp_at_succ

def KeP (w : World) (K : List (List Nat)) (e : Ending) (w' : World) : Prop := ∃ v cs, e = .returned v ∧ Lst w' w.heap.size (Xl w.heap.size) v K cs ∧ Below w.heap.size w w'
structure KeR (w wr : World) (v : Value) (l : List (List Nat)) (cs : List Value) : Prop where
  s : Lst wr w.heap.size (Xl w.heap.size) v l cs
  k : Below w.heap.size w wr
theorem KeR.next {w wr W1 W3 : World} {v v' : Value} {l : List (List Nat)} {cs : List Value} (h : KeR w wr v l cs) (hB : Below wr.heap.size wr W1) {x : Option Addr} {k c : Nat} {f : Nat → Nat} (hb : BA W1 x k f) (hx : 0 < k → ∀ q, x = some q → wr.heap.size ≤ q.block) {o : Obj}
    (ho : W3.ownsRow w.heap.size 38 1 v' (l.length + 1) (cs ++ [.slice x k c])) (hG : (W1.alloc o).grownBy W3 v.ownBlock) (hat : v'.ownBlock = v.ownBlock ∨ v'.ownBlock = some (W1.alloc o).heap.size) : KeR w W3 v' (l ++ [fl f k]) (cs ++ [.slice x k c]) := by
  have hlt : ∀ g, v.ownBlock = some g → g < wr.heap.size := fun g hg => (h.s.o.lt g hg).2
  have hB2 : Below W1.heap.size W1 (W1.alloc o) := K.alloc (Below.refl _ _) o
  have hkW : Below w.heap.size w (W1.alloc o) := (h.k.trans (hB.mono h.k.size)).trans (hB2.mono (Nat.le_trans h.k.size hB.size))
  refine ⟨((h.s.keep hB).keep hB2).push (fun g hg => Nat.lt_of_lt_of_le (Xl_of.1 hg) hkW.size) (hb.keep hB2) (fun h0 p hp => ⟨Xl_not (Nat.le_trans h.k.size (hx h0 p hp)), fun e => ?_⟩) ho hG hat, hkW.grown hG hkW.size (fun g hg => (h.s.o.lt g hg).1)⟩
  have h1 := hlt _ e
  have h2 := hx h0 p hp
  omega
theorem take_snoc {K : List (List Nat)} {i : Nat} {l : List Nat} (h : K[i]? = some l) : K.take (i + 1) = K.take i ++ [l] := by
  rw [List.take_add_one, h]
  rfl
set_option maxRecDepth 100000 in
set_option maxHeartbeats 4000000 in
theorem kept_n {w : World} {b lb mb t : Nat} {O Y : Nat → Bool} {s : SM} (h : PW w b lb mb t O Y s) : Calls Try.prog 39 #[pp t] w (KeP w s.K) := by
  have HP := hide h
  have hl : s.K.length ≤ 4096 := by
    obtain ⟨bs, vk, vw, ck, cw, g⟩ := h
    exact (g.m.sizes (Nat.le_refl _) g.d.ok.n).2.2.1
  clear h
  go_enter Try.func39, Try.ntmps39
  go_wp2_with fail
  go_loopg [3, 4] s.K.length (fun g' s3 s4 wr => ∃ (i : Nat) (cs : List Value), g' = s.K.length - i ∧ i ≤ s.K.length ∧ s4 = .int .i64 (i : Int) ∧ KeR w wr s3 (s.K.take i) cs)
  case atStart => exact ⟨0, [], rfl, Nat.zero_le _, rfl, Lst.nil _ _ _, Below.refl _ _⟩
  case round =>
    obtain ⟨i, cs, rfl, hi, rfl, hR⟩ := hrel
    have HR := hide hR
    obtain ⟨zv, cv, ev, _⟩ := hR.s.shape
    have hlen : (s.K.take i).length = i := by rw [List.length_take, Nat.min_eq_left hi]
    rw [hlen] at ev
    subst ev
    clear hR
    have HLe := hide (len_pw (HP.out.keep HR.out.k))
    by_cases hlt : i < s.K.length
    · obtain ⟨l, hl2⟩ : ∃ l, s.K[i]? = some l := ⟨_, List.getElem?_eq_getElem hlt⟩
      have hlt' : (i : Int) < (s.K.length : Int) := by omega
      have hw1 : wrap64 ((i : Int) + 1) = (i : Int) + 1 := w63 (by omega) (by omega)
      have HEn := hide (entry_pw (HP.out.keep HR.out.k) hl2)
      have HTk := hide (take_snoc hl2)
      have HLn := hide hlen
      clear hl2 hlen
      go_upto_region 6 with (first
        | (go_at_call 21; refine Calls.mono HLe.out ?_; rintro e wr ⟨rfl, rfl⟩)
        | (go_at_call 34; refine Calls.mono HEn.out ?_; rintro e W1 ⟨z1, c1, f1, rfl, hb, hf, hz, hB⟩; have HE := hide (And.intro hb (And.intro hf (And.intro hz hB))); clear hb hf hz hB))
      have HS1 : Hid (Lst (W1.alloc (.cells #[.slice z1 l.length c1] 38)) w.heap.size (Xl w.heap.size) (.slice zv i cv) (s.K.take i) cs) := (HR.out.s.keep HE.out.2.2.2).keep (K.alloc (Below.refl _ _) _)
      have HO1 : Hid ((W1.alloc (.cells #[.slice z1 l.length c1] 38)).ownsRow w.heap.size 38 1 (.slice zv i cv) i cs) := by have := HS1.out.o; rw [HLn.out] at this; exact this
      have HSz : Hid (w.heap.size ≤ (W1.alloc (.cells #[.slice z1 l.length c1] 38)).heap.size) := Nat.le_trans (Nat.le_trans HR.out.k.size HE.out.2.2.2.size) (by simp)
      have HCe : Hid ((W1.alloc (.cells #[.slice z1 l.length c1] 38)).cell? ⟨W1.heap.size, 0, none⟩ = some (.slice z1 l.length c1)) := (Boxed.new W1 38 (.slice z1 l.length c1)).cell
      have hLe : i ≤ 100000 := by omega
      have HN : Hid (∀ v3 W3, W3.ownsRow w.heap.size 38 1 v3 (i + 1) (cs ++ [.slice z1 l.length c1]) → (W1.alloc (.cells #[.slice z1 l.length c1] 38)).grownBy W3 (Value.slice zv i cv).ownBlock → (v3.ownBlock = (Value.slice zv i cv).ownBlock ∨ v3.ownBlock = some (W1.alloc (.cells #[.slice z1 l.length c1] 38)).heap.size) → KeR w W3 v3 (s.K.take (i + 1)) (cs ++ [.slice z1 l.length c1])) := fun v3 W3 ho hG hat => by
        have h9 := HR.out.next HE.out.2.2.2 HE.out.1 HE.out.2.2.1 (by rw [HLn.out]; exact ho) hG hat
        rw [HE.out.2.1, ← HTk.out] at h9
        exact h9
      go_wp2_with (refine wpList_app1 rfl _ _ rfl rfl HO1.out rfl HCe.out rfl hLe HSz.out ?_; intro v3 W3 ho3 hG3 hat3; have HR3 := hide (HN.out v3 W3 ho3 hG3 hat3); clear ho3 hG3 hat3)
      go_roundg (s.K.length - (i + 1))
      case measure => omega
      case rel => exact ⟨i + 1, _, rfl, hlt, by simp, HR3.out⟩
    · obtain rfl : i = s.K.length := by omega
      go_wp2_with (go_at_call 21; refine Calls.mono HLe.out ?_; rintro e wr ⟨rfl, rfl⟩)
      go_ret
      have h9 := HR.out.s
      rw [List.take_length] at h9
      exact ⟨_, cs, rfl, h9, HR.out.k⟩
end Go.Proofs.Ytpophfeommlajaa
namespace Go.Proofs.Ytpophfeommlajaa
open Go.RowKit Go.Maps
attribute [local go_sem ↓] Go.wp_at_zero Go.wp_at_succ

theorem same_self {w : World} {z1 z2 : Option Addr} {c1 c2 : Nat} {L : List (List Nat)} (h1 : Vw w z1 L) (h2 : Vw w z2 L) (hs : short L) (hn : L.length ≤ 1000000) : Calls Try.prog 38 #[.slice z1 L.length c1, .slice z2 L.length c2] w fun e w' => e = .returned (.bool true) ∧ Below w.heap.size w w' := by
  have h := same_lists (c1 := c1) (c2 := c2) h1 h2 hs hn
  rw [decide_eq_true rfl] at h
  exact h
theorem same_nils (w : World) : Calls Try.prog 10 #[.pointer none, .pointer none] w fun e w' => e = .returned (.bool true) ∧ w' = w := by
  go_enter Try.func10, Try.ntmps10
  go_wp2_with fail
  go_ret
  exact ⟨rfl, rfl⟩
set_option maxRecDepth 100000 in
set_option maxHeartbeats 1000000 in
theorem same_st {w : World} {b lb mb t r la na cl cn t2 : Nat} {zl zn : Option Addr} {O Yp G O2 Yq : Nat → Bool} {s : SM} (hp : PW w b lb mb t O Yp s) (hq : QW w r la na cl cn zl zn t2 G O2 Yq s) : Calls Try.prog 10 #[pp t, pp t2] w fun e w' => e = .returned (.bool true) ∧ Below w.heap.size w w' := by
  have HP := hide hp
  obtain ⟨rm, hrm⟩ : ∃ rm, rm = (s.D.n : Int) - 3 - (tks s.K : Int) - (tks s.W : Int) := ⟨_, rfl⟩
  have HR1 := hide (fun W (h : Below w.heap.size w W) => room_pw (hp.keep h))
  have HR2 := hide (fun W (h : Below w.heap.size w W) => room_qw (hq.keep h))
  rw [← hrm] at HR1 HR2
  obtain ⟨bs, vk, vw, ck, cw, g⟩ := hq
  obtain ⟨z1, z2, z3, z4, z5⟩ := g.m.sizes (Nat.le_refl _) g.d.ok.n
  have HN : Hid (short s.K ∧ s.K.length ≤ 1000000) := ⟨SM.short g.m, by omega⟩
  obtain ⟨zk, kc, ek, hvk⟩ := g.p.k.shape
  obtain ⟨zw, wc, ew, _⟩ := g.p.s.shape
  have HVk := hide hvk
  have HC1 : Hid (w.cell? ⟨t2, 1, none⟩ = some (.slice zk s.K.length kc)) := by rw [← ek]; exact g.p.c1
  have HC2 : Hid (w.cell? ⟨t2, 2, none⟩ = some (.slice zw s.W.length wc)) := by rw [← ew]; exact g.p.c2
  have HE1 := hide (entry_out_pw HP.out (i := (s.K.length : Int)) (Or.inr (by omega)))
  have HE2 := hide (entry_out_pw HP.out (i := -1) (Or.inl (by omega)))
  have HL := hide (len_pw HP.out)
  clear hp hrm g hvk ek ew z1 z2 z3 z4 z5
  go_enter Try.func10, Try.ntmps10
  go_upto_region 4 with (first
    | (go_at_call 21; with_reducible refine Calls.mono HL.out ?_; rintro e w1 ⟨rfl, hw⟩; replace hw := hw.symm; subst hw)
    | (go_at_call 34; with_reducible refine Calls.mono HE1.out ?_; rintro e w1 ⟨rfl, hw⟩; replace hw := hw.symm; subst hw))
  go_upto_region 5 with (go_at_call 34; with_reducible refine Calls.mono HE2.out ?_; rintro e w1 ⟨rfl, hw⟩; replace hw := hw.symm; subst hw)
  refine wp_region_noPanic ?_
  refine wp_region_held_drew (S := fun w' => Below w.heap.size w w') (by kernel_rfl) (Go.Proofs.Ytpophfeommlajaa.K.drew (Below.refl _ w)) (fun hS0 => ?_)
  refine wpAnyH_take (i := 0) (v := .bool false) rfl (by kernel_rfl) (by kernel_rfl) (by kernel_rfl) (fun _ _ _ h => h) (Or.inl ⟨by rfl, fun w' _ => by go_simp⟩) hS0 ?_
  simp only [Act.put, List.getElem_toArray, List.getElem_cons_zero, List.setIfInBounds_toArray, List.set_cons_zero, List.set_cons_succ]
  refine wpAnyH_take (i := 1) (v := .bool true) rfl (by kernel_rfl) (by kernel_rfl) (by kernel_rfl) (fun _ _ _ h => h) (Or.inl ⟨by rfl, fun w' _ => by go_simp⟩) hS0 ?_
  simp only [Act.put, List.getElem_toArray, List.getElem_cons_zero, List.getElem_cons_succ, List.setIfInBounds_toArray, List.set_cons_zero, List.set_cons_succ]
  refine wpAnyH_take (i := 2) (v := .bool true) rfl (by kernel_rfl) (by kernel_rfl) (by kernel_rfl) (fun _ _ _ h => h) (Or.inl ⟨by rfl, fun w' _ => by go_simp⟩) hS0 ?_
  simp only [Act.put, List.getElem_toArray, List.getElem_cons_zero, List.getElem_cons_succ, List.setIfInBounds_toArray, List.set_cons_zero, List.set_cons_succ]
  refine wpAnyH_take (i := 3) (v := .bool false) rfl (by kernel_rfl) (by kernel_rfl) (by kernel_rfl) (fun _ _ _ h => h) (Or.inl ⟨by rfl, fun w' _ => by go_simp⟩) hS0 ?_
  simp only [Act.put, List.getElem_toArray, List.getElem_cons_zero, List.getElem_cons_succ, List.setIfInBounds_toArray, List.set_cons_zero, List.set_cons_succ]
  refine wpAnyH_take (i := 4) (v := .bool true) rfl (by kernel_rfl) (by kernel_rfl) (by kernel_rfl) (fun _ _ _ h => h) (Or.inl ⟨by rfl, fun w' _ => by go_simp⟩) hS0 ?_
  simp only [Act.put, List.getElem_toArray, List.getElem_cons_zero, List.getElem_cons_succ, List.setIfInBounds_toArray, List.set_cons_zero, List.set_cons_succ]
  refine wpAnyH_take (i := 5) (v := .bool true) rfl (by kernel_rfl) (by kernel_rfl) (by kernel_rfl) (fun _ _ _ h => h) (Or.inl ⟨by rfl, fun w' _ => by go_simp⟩) hS0 ?_
  simp only [Act.put, List.getElem_toArray, List.getElem_cons_zero, List.getElem_cons_succ, List.setIfInBounds_toArray, List.set_cons_zero, List.set_cons_succ]
  refine wpAnyH_take (i := 6) (v := .bool true) rfl (by kernel_rfl) (by kernel_rfl) (by kernel_rfl) (fun _ _ _ h => h) (Or.inl ⟨by rfl, fun w' _ => by go_simp⟩) hS0 ?_
  simp only [Act.put, List.getElem_toArray, List.getElem_cons_zero, List.getElem_cons_succ, List.setIfInBounds_toArray, List.set_cons_zero, List.set_cons_succ]
  refine wpAnyH_take (i := 7) (v := pp t) rfl (by kernel_rfl) (by kernel_rfl) (by kernel_rfl) (fun _ _ _ h => h) (Or.inl ⟨by rfl, fun w' _ => by go_simp⟩) hS0 ?_
  simp only [Act.put, List.getElem_toArray, List.setIfInBounds_toArray]
  refine wpAnyH_take (i := 9) (v := pp t2) rfl (by kernel_rfl) (by kernel_rfl) (by kernel_rfl) (fun _ _ _ h => h) (Or.inl ⟨by rfl, fun w' _ => by go_simp⟩) hS0 ?_
  simp only [Act.put, List.getElem_toArray, List.getElem_cons_zero, List.getElem_cons_succ, List.setIfInBounds_toArray, List.set_cons_zero, List.set_cons_succ]
  refine wpAnyH_take (i := 10) (v := pp t2) rfl (by kernel_rfl) (by kernel_rfl) (by kernel_rfl) (fun _ _ _ h => h) (Or.inl ⟨by rfl, fun w' _ => by go_simp⟩) hS0 ?_
  simp only [Act.put, List.getElem_toArray, List.getElem_cons_zero, List.getElem_cons_succ, List.setIfInBounds_toArray, List.set_cons_zero, List.set_cons_succ]
  refine wpAnyH_take (i := 11) (v := .pointer (some ⟨t2, 2, none⟩)) rfl (by kernel_rfl) (by kernel_rfl) (by kernel_rfl) (fun _ _ _ h => h) (Or.inl ⟨by rfl, fun w' _ => by go_simp⟩) hS0 ?_
  simp only [Act.put, List.getElem_toArray, List.getElem_cons_zero, List.getElem_cons_succ, List.setIfInBounds_toArray, List.set_cons_zero, List.set_cons_succ]
  refine wpAnyH_take (i := 12) (v := .slice zw s.W.length wc) rfl (by kernel_rfl) (by kernel_rfl) (by kernel_rfl) (fun _ _ _ h => h) (Or.inl ⟨by rfl, fun w' hS => by have hc := later hS HC2.out; go_simp⟩) hS0 ?_
  simp only [Act.put, List.getElem_toArray, List.getElem_cons_zero, List.getElem_cons_succ, List.setIfInBounds_toArray, List.set_cons_zero, List.set_cons_succ]
  refine wpAnyH_take (i := 13) (v := .int .i64 (s.W.length : Int)) rfl (by kernel_rfl) (by kernel_rfl) (by kernel_rfl) (fun _ _ _ h => h) (Or.inl ⟨by rfl, fun w' _ => by go_simp⟩) hS0 ?_
  simp only [Act.put, List.getElem_toArray, List.getElem_cons_zero, List.getElem_cons_succ, List.setIfInBounds_toArray, List.set_cons_zero, List.set_cons_succ]
  refine wpAnyH_ready (rs := [8]) (by kernel_rfl) (by simp) (AllReadyH.cons rfl (fun Kt hK => ?_) AllReadyH.nil)
  refine wanted_pos rfl ?_
  refine wp_call (R := fun r w' => r = .int .i64 (s.W.length : Int) ∧ Below w.heap.size w w') (vs := #[pp t]) rfl (by simp only [List.map_toArray, List.map_cons, List.map_nil]; rfl) (by go_simp) (Calls.mono (waits_pw (HP.out.keep hS0)) (fun e w' ⟨he, hw⟩ => ⟨_, he, rfl, by rw [hw]; exact hS0⟩)) (fun r V1 ⟨hr, hb⟩ => ?_)
  subst hr
  refine hK.out _ _ hb (fun hS1 => ?_)
  clear hK Kt hb
  simp only [Act.put, List.getElem_toArray, List.getElem_cons_zero, List.getElem_cons_succ, List.setIfInBounds_toArray, List.set_cons_zero, List.set_cons_succ]
  refine wpAnyH_take (i := 14) (v := .bool true) rfl (by kernel_rfl) (by kernel_rfl) (by kernel_rfl) (fun _ _ _ h => h) (Or.inl ⟨by rfl, fun w' _ => by go_simp⟩) hS1 ?_
  simp only [Act.put, List.getElem_toArray, List.getElem_cons_zero, List.getElem_cons_succ, List.setIfInBounds_toArray, List.set_cons_zero, List.set_cons_succ]
  refine wpAnyH_take (i := 15) (v := .bool true) rfl (by kernel_rfl) (by kernel_rfl) (by kernel_rfl) (fun _ _ _ h => h) (Or.inl ⟨by rfl, fun w' _ => by go_simp⟩) hS1 ?_
  simp only [Act.put, List.getElem_toArray, List.getElem_cons_zero, List.getElem_cons_succ, List.setIfInBounds_toArray, List.set_cons_zero, List.set_cons_succ]
  refine wpAnyH_take (i := 16) (v := .bool true) rfl (by kernel_rfl) (by kernel_rfl) (by kernel_rfl) (fun _ _ _ h => h) (Or.inl ⟨by rfl, fun w' _ => by go_simp⟩) hS1 ?_
  simp only [Act.put, List.getElem_toArray, List.getElem_cons_zero, List.getElem_cons_succ, List.setIfInBounds_toArray, List.set_cons_zero, List.set_cons_succ]
  refine wpAnyH_take (i := 17) (v := pp t) rfl (by kernel_rfl) (by kernel_rfl) (by kernel_rfl) (fun _ _ _ h => h) (Or.inl ⟨by rfl, fun w' _ => by go_simp⟩) hS1 ?_
  simp only [Act.put, List.getElem_toArray, List.getElem_cons_zero, List.getElem_cons_succ, List.setIfInBounds_toArray, List.set_cons_zero, List.set_cons_succ]
  refine wpAnyH_take (i := 19) (v := pp t2) rfl (by kernel_rfl) (by kernel_rfl) (by kernel_rfl) (fun _ _ _ h => h) (Or.inl ⟨by rfl, fun w' _ => by go_simp⟩) hS1 ?_
  simp only [Act.put, List.getElem_toArray, List.getElem_cons_zero, List.getElem_cons_succ, List.setIfInBounds_toArray, List.set_cons_zero, List.set_cons_succ]
  refine wpAnyH_ready (rs := [18]) (by kernel_rfl) (by simp) (AllReadyH.cons rfl (fun Kt hK => ?_) AllReadyH.nil)
  refine wanted_pos rfl ?_
  refine wp_call (R := fun r w' => r = .int .i64 rm ∧ Below w.heap.size w w') (vs := #[pp t]) rfl (by simp only [List.map_toArray, List.map_cons, List.map_nil]; rfl) (by go_simp) (Calls.mono (HR1.out _ hS1) (fun e w' ⟨he, hb⟩ => ⟨_, he, rfl, K.call hS1 hb⟩)) (fun r V2 ⟨hr, hb⟩ => ?_)
  subst hr
  refine hK.out _ _ hb (fun hS2 => ?_)
  clear hK Kt hb
  simp only [Act.put, List.getElem_toArray, List.getElem_cons_zero, List.getElem_cons_succ, List.setIfInBounds_toArray, List.set_cons_zero, List.set_cons_succ]
  refine wpAnyH_ready (rs := [20]) (by kernel_rfl) (by simp) (AllReadyH.cons rfl (fun Kt hK => ?_) AllReadyH.nil)
  refine wanted_pos rfl ?_
  refine wp_call (R := fun r w' => r = .int .i64 rm ∧ Below w.heap.size w w') (vs := #[pp t2]) rfl (by simp only [List.map_toArray, List.map_cons, List.map_nil]; rfl) (by go_simp) (Calls.mono (HR2.out _ hS2) (fun e w' ⟨he, hb⟩ => ⟨_, he, rfl, K.call hS2 hb⟩)) (fun r V3 ⟨hr, hb⟩ => ?_)
  subst hr
  refine hK.out _ _ hb (fun hS3 => ?_)
  clear hK Kt hb
  simp only [Act.put, List.getElem_toArray, List.getElem_cons_zero, List.getElem_cons_succ, List.setIfInBounds_toArray, List.set_cons_zero, List.set_cons_succ]
  refine wpAnyH_take (i := 21) (v := .bool true) rfl (by kernel_rfl) (by kernel_rfl) (by kernel_rfl) (fun _ _ _ h => h) (Or.inl ⟨by rfl, fun w' _ => by go_simp⟩) hS3 ?_
  simp only [Act.put, List.getElem_toArray, List.getElem_cons_zero, List.getElem_cons_succ, List.setIfInBounds_toArray, List.set_cons_zero, List.set_cons_succ]
  refine wpAnyH_take (i := 22) (v := .bool true) rfl (by kernel_rfl) (by kernel_rfl) (by kernel_rfl) (fun _ _ _ h => h) (Or.inl ⟨by rfl, fun w' _ => by go_simp⟩) hS3 ?_
  simp only [Act.put, List.getElem_toArray, List.getElem_cons_zero, List.getElem_cons_succ, List.setIfInBounds_toArray, List.set_cons_zero, List.set_cons_succ]
  refine wpAnyH_take (i := 23) (v := .bool true) rfl (by kernel_rfl) (by kernel_rfl) (by kernel_rfl) (fun _ _ _ h => h) (Or.inl ⟨by rfl, fun w' _ => by go_simp⟩) hS3 ?_
  simp only [Act.put, List.getElem_toArray, List.getElem_cons_zero, List.getElem_cons_succ, List.setIfInBounds_toArray, List.set_cons_zero, List.set_cons_succ]
  refine wpAnyH_take (i := 24) (v := pp t) rfl (by kernel_rfl) (by kernel_rfl) (by kernel_rfl) (fun _ _ _ h => h) (Or.inl ⟨by rfl, fun w' _ => by go_simp⟩) hS3 ?_
  simp only [Act.put, List.getElem_toArray, List.getElem_cons_zero, List.getElem_cons_succ, List.setIfInBounds_toArray, List.set_cons_zero, List.set_cons_succ]
  refine wpAnyH_take (i := 26) (v := pp t2) rfl (by kernel_rfl) (by kernel_rfl) (by kernel_rfl) (fun _ _ _ h => h) (Or.inl ⟨by rfl, fun w' _ => by go_simp⟩) hS3 ?_
  simp only [Act.put, List.getElem_toArray, List.getElem_cons_zero, List.getElem_cons_succ, List.setIfInBounds_toArray, List.set_cons_zero, List.set_cons_succ]
  refine wpAnyH_take (i := 27) (v := pp t2) rfl (by kernel_rfl) (by kernel_rfl) (by kernel_rfl) (fun _ _ _ h => h) (Or.inl ⟨by rfl, fun w' _ => by go_simp⟩) hS3 ?_
  simp only [Act.put, List.getElem_toArray, List.getElem_cons_zero, List.getElem_cons_succ, List.setIfInBounds_toArray, List.set_cons_zero, List.set_cons_succ]
  refine wpAnyH_take (i := 28) (v := .pointer (some ⟨t2, 1, none⟩)) rfl (by kernel_rfl) (by kernel_rfl) (by kernel_rfl) (fun _ _ _ h => h) (Or.inl ⟨by rfl, fun w' _ => by go_simp⟩) hS3 ?_
  simp only [Act.put, List.getElem_toArray, List.getElem_cons_zero, List.getElem_cons_succ, List.setIfInBounds_toArray, List.set_cons_zero, List.set_cons_succ]
  refine wpAnyH_take (i := 29) (v := .slice zk s.K.length kc) rfl (by kernel_rfl) (by kernel_rfl) (by kernel_rfl) (fun _ _ _ h => h) (Or.inl ⟨by rfl, fun w' hS => by have hc := later hS HC1.out; go_simp⟩) hS3 ?_
  simp only [Act.put, List.getElem_toArray, List.getElem_cons_zero, List.getElem_cons_succ, List.setIfInBounds_toArray, List.set_cons_zero, List.set_cons_succ]
  refine wpAnyH_ready (rs := [25]) (by kernel_rfl) (by simp) (AllReadyH.cons rfl (fun Kt hK => ?_) AllReadyH.nil)
  refine wanted_pos rfl ?_
  refine wp_call (R := fun x w' => ∃ z c, x = .slice z s.K.length c ∧ Vw w' z s.K ∧ Below w.heap.size w w') (vs := #[pp t]) rfl (by simp only [List.map_toArray, List.map_cons, List.map_nil]; rfl) (by go_simp) (Calls.mono (kept_n (HP.out.keep hS3)) (fun e w' hkp => by obtain ⟨v, cs, he, hl, hb⟩ := hkp; obtain ⟨z, c, ev, hv⟩ := hl.shape; exact ⟨v, he, z, c, ev, hv, K.call hS3 hb⟩)) (fun x V4 hx => ?_)
  obtain ⟨z3, c3, hr, hv3, hb⟩ := hx
  subst hr
  have HV3 := hide hv3
  refine hK.out _ _ hb (fun hS4 => ?_)
  clear hK Kt hb hv3
  simp only [Act.put, List.getElem_toArray, List.getElem_cons_zero, List.getElem_cons_succ, List.setIfInBounds_toArray, List.set_cons_zero, List.set_cons_succ]
  refine wpAnyH_ready (rs := [30]) (by kernel_rfl) (by simp) (AllReadyH.cons rfl (fun Kt hK => ?_) AllReadyH.nil)
  refine wanted_pos rfl ?_
  refine wp_call (R := fun r w' => r = .bool true ∧ Below w.heap.size w w') (vs := #[.slice z3 s.K.length c3, .slice zk s.K.length kc]) rfl (by simp only [List.map_toArray, List.map_cons, List.map_nil]; rfl) (by go_simp) (Calls.mono (same_self (c1 := c3) (c2 := kc) HV3.out (HVk.out.keep hS4) HN.out.1 HN.out.2) (fun e w' ⟨he, hb⟩ => ⟨_, he, rfl, K.call hS4 hb⟩)) (fun r V5 ⟨hr, hb⟩ => ?_)
  subst hr
  refine hK.out _ _ hb (fun hS5 => ?_)
  clear hK Kt hb
  simp only [Act.put, List.getElem_toArray, List.getElem_cons_zero, List.getElem_cons_succ, List.setIfInBounds_toArray, List.set_cons_zero, List.set_cons_succ]
  refine wpAnyH_take (i := 31) (v := .bool true) rfl (by kernel_rfl) (by kernel_rfl) (by kernel_rfl) (fun _ _ _ h => h) (Or.inl ⟨by rfl, fun w' _ => by go_simp⟩) hS5 ?_
  simp only [Act.put, List.getElem_toArray, List.getElem_cons_zero, List.getElem_cons_succ, List.setIfInBounds_toArray, List.set_cons_zero, List.set_cons_succ]
  refine wpAnyH_take (i := 32) (v := .bool true) rfl (by kernel_rfl) (by kernel_rfl) (by kernel_rfl) (fun _ _ _ h => h) (Or.inl ⟨by rfl, fun w' _ => by go_simp⟩) hS5 ?_
  simp only [Act.put, List.getElem_toArray, List.getElem_cons_zero, List.getElem_cons_succ, List.setIfInBounds_toArray, List.set_cons_zero, List.set_cons_succ]
  refine wpAnyH_done (by kernel_rfl) ?_ _
  refine NoPanic.normal ?_
  go_wp2_with fail
  go_ret
  exact ⟨rfl, hS5⟩
end Go.Proofs.Ytpophfeommlajaa
namespace Go.Proofs.Ytpophfeommlajaa

/-- S is sure, M may be: the store's disk is at work, or the power went within the Commit of M. -/
structure CrM (N : Nat) (s : SM) (S M : List (List Nat)) : Prop where
  k : s.K = S
  w : s.K ++ s.W = M
  h : WkA N s.D S M ∨ (s.o = true ∧ WkB N s.D S M)
theorem CrM.ap {N : Nat} {s : SM} {S M : List (List Nat)} (h : CrM N s S M) (l : List Nat) : (s.apE l = 0 → CrM N (s.ap l) S (M ++ [l])) ∧ (s.apE l ≠ 0 → CrM N (s.ap l) S M) := by
  have e0 : fl (fun i => l.getD i 0) l.length = l := by have := fl_getD l; simp only [Nat.zero_add] at this; exact this
  cases ho : s.o with
  | true =>
    have e1 : s.ap l = s := if_pos ho
    have e2 : s.apE l = 6 := if_pos ho
    rw [e1, e2]
    exact ⟨fun hh => (by cases hh), fun _ => h⟩
  | false =>
    have ho' : ¬ (s.o = true) := by rw [ho]; decide
    have hA : WkA N s.D S M := by
      rcases h.h with h1 | h1
      · exact h1
      · exact absurd h1.1 ho'
    by_cases hm : 200 < l.length
    · have e1 : s.ap l = s := (if_neg ho').trans (if_pos hm)
      have e2 : s.apE l = 4 := (if_neg ho').trans (if_pos hm)
      rw [e1, e2]
      exact ⟨fun hh => (by cases hh), fun _ => h⟩
    · by_cases hf : s.D.n < 3 + tks s.K + tks s.W + tk l.length
      · have e1 : s.ap l = s := (if_neg ho').trans ((if_neg hm).trans (if_pos hf))
        have e2 : s.apE l = 5 := (if_neg ho').trans ((if_neg hm).trans (if_pos hf))
        rw [e1, e2]
        exact ⟨fun hh => (by cases hh), fun _ => h⟩
      · have e1 : s.ap l = ⟨(apx s l).1, s.K, apW (apx s l).2 s.W l, cmO (apx s l).2⟩ := (if_neg ho').trans ((if_neg hm).trans (if_neg hf))
        have e2 : s.apE l = (apx s l).2 := (if_neg ho').trans ((if_neg hm).trans (if_neg hf))
        have hM : tks M = tks s.K + tks s.W := by rw [← h.w, tks_app]
        have ep : apx s l = apw s.D (3 + tks M) (fun i => l.getD i 0) l.length (tk l.length) := by unfold apx; rw [hM, Nat.add_assoc]
        rw [e1, e2]
        refine ⟨fun hh => ?_, fun hh => ?_⟩
        · have ew : apW (apx s l).2 s.W l = s.W ++ [l] := if_pos hh
          have hh' := hh
          rw [ep] at hh'
          have hd : s.D.dn = false := by
            cases hq : s.D.dn with
            | false => rfl
            | true => rw [apw_down hq] at hh'; cases hh'
          have h9 := hA.app_ok (f := fun i => l.getD i 0) (m := l.length) (by omega) hd (by have := hA.n; omega) hh'
          rw [e0] at h9
          refine ⟨h.k, ?_, Or.inl ?_⟩
          · show s.K ++ apW (apx s l).2 s.W l = _
            rw [ew, ← List.append_assoc, h.w]
          · show WkA N (apx s l).1 _ _
            rw [ep]
            exact h9
        · have ew : apW (apx s l).2 s.W l = s.W := if_neg hh
          refine ⟨h.k, ?_, Or.inl ?_⟩
          · show s.K ++ apW (apx s l).2 s.W l = _
            rw [ew, h.w]
          · show WkA N (apx s l).1 _ _
            rw [ep]
            exact hA.app _ _ _
theorem CrM.co {N : Nat} {s : SM} {S M : List (List Nat)} (h : CrM N s S M) (hok : s.ok) : (s.coE = 0 → CrM N s.co M M) ∧ (s.coE ≠ 0 → CrM N s.co S M) := by
  cases ho : s.o with
  | true =>
    have e1 : s.co = s := if_pos ho
    have e2 : s.coE = 6 := if_pos ho
    rw [e1, e2]
    exact ⟨fun hh => (by cases hh), fun _ => h⟩
  | false =>
    have ho' : ¬ (s.o = true) := by rw [ho]; decide
    have hA : WkA N s.D S M := by
      rcases h.h with h1 | h1
      · exact h1
      · exact absurd h1.1 ho'
    by_cases hw : s.W = []
    · have e1 : s.co = s := (if_neg ho').trans (if_pos hw)
      have e2 : s.coE = 0 := (if_neg ho').trans (if_pos hw)
      have e3 : S = M := by have := h.w; rw [hw, List.append_nil, h.k] at this; exact this
      rw [e1, e2]
      subst e3
      exact ⟨fun _ => h, fun hh => absurd rfl hh⟩
    · have e1 : s.co = ⟨(cm s.D (s.K ++ s.W)).1, cmK (cm s.D (s.K ++ s.W)).2 s.K s.W, cmW (cm s.D (s.K ++ s.W)).2 s.W, cmO (cm s.D (s.K ++ s.W)).2⟩ := (if_neg ho').trans (if_neg hw)
      have e2 : s.coE = (cm s.D (s.K ++ s.W)).2 := (if_neg ho').trans (if_neg hw)
      rw [e1, e2, h.w]
      have hn : 2 < s.D.n := by have := hok.n; omega
      by_cases hs : s.D.syE = 0
      · obtain ⟨_, hc, h1, _⟩ := sy_ok hs
        have hl : s.D.sy.ldE 0 = 0 := (ld_up hc.dn (a := 0) (by rw [h1]; exact hn)).1
        have q1 : s.D.sy.saveD 0 (mkf M.length (tks M)) 16 = (cm s.D M).1 := by
          unfold DM.saveD cm
          rw [if_neg (by decide), if_pos hl, if_pos hs]
          rfl
        have q2 : s.D.sy.saveE 0 (mkf M.length (tks M)) 16 = (cm s.D M).2 := by
          unfold DM.saveE cm
          rw [if_neg (by decide), if_pos hl, if_pos hs]
          rfl
        have hcm := hA.commit hs
        rw [q1, q2] at hcm
        rcases hcm with ⟨g1, g2, _⟩ | ⟨g1, g2⟩
        · refine ⟨fun _ => ⟨?_, ?_, Or.inl g2⟩, fun hh => absurd g1 hh⟩
          · show cmK (cm s.D M).2 s.K s.W = M
            exact (if_pos g1).trans h.w
          · show cmK (cm s.D M).2 s.K s.W ++ cmW (cm s.D M).2 s.W = M
            rw [show cmK (cm s.D M).2 s.K s.W = M from (if_pos g1).trans h.w, show cmW (cm s.D M).2 s.W = [] from if_pos g1, List.append_nil]
        · have hne : (cm s.D M).2 ≠ 0 := by rw [g1]; decide
          refine ⟨fun hh => absurd hh hne, fun _ => ⟨?_, ?_, Or.inr ⟨?_, g2⟩⟩⟩
          · show cmK (cm s.D M).2 s.K s.W = S
            exact (if_neg hne).trans h.k
          · show cmK (cm s.D M).2 s.K s.W ++ cmW (cm s.D M).2 s.W = M
            rw [show cmK (cm s.D M).2 s.K s.W = s.K from if_neg hne, show cmW (cm s.D M).2 s.W = s.W from if_neg hne]
            exact h.w
          · show cmO (cm s.D M).2 = true
            rw [g1]
            decide
      · have ec : cm s.D M = (s.D.sy, s.D.syE) := cm_not hs M
        have hne : (cm s.D M).2 ≠ 0 := by rw [ec]; exact hs
        refine ⟨fun hh => absurd hh hne, fun _ => ⟨?_, ?_, Or.inl ?_⟩⟩
        · show cmK (cm s.D M).2 s.K s.W = S
          exact (if_neg hne).trans h.k
        · show cmK (cm s.D M).2 s.K s.W ++ cmW (cm s.D M).2 s.W = M
          rw [show cmK (cm s.D M).2 s.K s.W = s.K from if_neg hne, show cmW (cm s.D M).2 s.W = s.W from if_neg hne]
          exact h.w
        · show WkA N (cm s.D M).1 S M
          rw [ec]
          exact hA.sync_not hs
theorem CrM.fuse {N : Nat} {s : SM} {S M : List (List Nat)} (h : CrM N s S M) (i : Int) : CrM N { s with D := s.D.fuse i } S M :=
  ⟨h.k, h.w, h.h.imp (fun h1 => h1.fuse i) (fun h1 => ⟨h1.1, h1.2.fuse i⟩)⟩
theorem SM.ok.fuse {s : SM} (h : s.ok) (i : Int) : SM.ok { s with D := s.D.fuse i } := ⟨h.n, h.k, h.w, fun ho hd => stl_congr (D := s.D) (D' := s.D.fuse i) rfl (h.s ho hd) (fun _ _ _ => rfl)⟩
/-- Behind a crash. -/
def PsM (N : Nat) (D : DM) (S M : List (List Nat)) : Prop := ∃ S' T', (S' = S ∨ S' = M) ∧ (T' = S ∨ T' = M) ∧ Pst N D S' T'
theorem CrM.crash {N : Nat} {s : SM} {S M : List (List Nat)} (h : CrM N s S M) (K : List Bool) (t a : Int) : PsM N (s.D.cr K t a) S M := by
  rcases h.h with h1 | h1
  · exact ⟨S, S, Or.inl rfl, Or.inl rfl, h1.crash K t a⟩
  · exact ⟨S, M, Or.inl rfl, Or.inr rfl, h1.2.crash K t a⟩
theorem PsM.round {N : Nat} {D : DM} {S M : List (List Nat)} (h : PsM N D S M) (hN : N ≤ 4096) (i : Int) (K : List Bool) (t a : Int) : PsM N (((D.fuse i).mendD 0).cr K t a) S M := by
  obtain ⟨S', T', h1, h2, h3⟩ := h
  have h4 := h3.fuse i
  by_cases he : (D.fuse i).mendE 0 = 0
  · obtain ⟨Z, hz, h5, _⟩ := h4.open_ok hN he
    have hZ : Z = S ∨ Z = M := by
      rcases hz with e | e
      · rw [e]; exact h1
      · rw [e]; exact h2
    exact ⟨Z, Z, hZ, hZ, h5.crash K t a⟩
  · exact ⟨S', T', h1, h2, (h4.open_not he).crash K t a⟩
theorem PsM.opened {N : Nat} {D : DM} {S M : List (List Nat)} (h : PsM N D S M) (hN : N ≤ 4096) (hf : D.fu = none) : ∃ Z, (Z = S ∨ Z = M) ∧ D.opE = 0 ∧ D.opL = Z ∧ WkA N (D.mendD 0) Z Z ∧ (D.mendD 0).opE = 0 ∧ (D.mendD 0).opL = Z ∧ (D.mendD 0).mendD 0 = D.mendD 0 := by
  obtain ⟨S', T', h1, h2, h3⟩ := h
  have he := h3.free_ok hf
  obtain ⟨Z, hz, h5, _, h6, h7⟩ := h3.open_ok hN he
  obtain ⟨_, a2, a3, a4⟩ := op_again he
  have hZ : Z = S ∨ Z = M := by
    rcases hz with e | e
    · rw [e]; exact h1
    · rw [e]; exact h2
  refine ⟨Z, hZ, h7, ?_, h5, a4.trans h7, ?_, a2⟩
  · unfold DM.opL; rw [h6]; rfl
  · unfold DM.opL; rw [a3, h6]; rfl
theorem CrM.new {N : Nat} {D : DM} {Z : List (List Nat)} (h : WkA N D Z Z) : CrM N ⟨D, Z, [], false⟩ Z Z := ⟨rfl, List.append_nil _, Or.inl h⟩
end Go.Proofs.Ytpophfeommlajaa
namespace Go.Proofs.Ytpophfeommlajaa
open Go.RowKit Go.Maps

theorem kp_old {w0 w w' : World} {O : Nat → Bool} (hB : Below w0.heap.size w0 w) (hK : Kp O w w') (hO : ∀ k, O k = true → w0.heap.size ≤ k) : Below w0.heap.size w0 w' :=
  ⟨hK.os.trans hB.os, hK.tape.trans hB.tape, hK.output.trans hB.output, Nat.le_trans hB.size hK.size, fun k hk => (hK.block k (Nat.lt_of_lt_of_le hk hB.size) (by
    cases hx : O k with
    | false => rfl
    | true => have := hO k hx; omega)).trans (hB.block k hk)⟩
/-- Both disks side by side, the blocks of each, and a call's variable. -/
structure DW (w0 w : World) (b lb mb r la na cl cn : Nat) (zl zn : Option Addr) (D E : DM) (G O O2 : Nat → Bool) (ob : Option (Nat × OpV)) : Prop where
  k : Below w0.heap.size w0 w
  d : Dsk w b lb mb D
  e : RDk w r la na cl cn zl zn E G
  xo : ∀ k, X3 b lb mb k = true → O k = true
  go : ∀ k, G k = true → O2 k = true
  o1 : ∀ k, O k = true → w0.heap.size ≤ k ∧ k < w.heap.size
  o2 : ∀ k, O2 k = true → w0.heap.size ≤ k ∧ k < w.heap.size
  di : ∀ k, O k = true → O2 k = false
  oc : ∀ q o, ob = some (q, o) → w.rangeAt q 0 o.cells ∧ O q = false ∧ O2 q = false ∧ q < w.heap.size
theorem grow_f {O : Nat → Bool} {w w' : World} {k : Nat} (h : O k = false) (hk : k < w.heap.size) : grow O w w' k = false := by
  cases hq : grow O w w' k with
  | false => rfl
  | true =>
    rcases grow_of.1 hq with e | e
    · rw [h] at e; cases e
    · omega
section
variable {w0 w w' : World} {b lb mb r la na cl cn : Nat} {zl zn : Option Addr} {D E D' E' : DM} {G G' O O2 : Nat → Bool} {ob : Option (Nat × OpV)}
theorem DW.gf (h : DW w0 w b lb mb r la na cl cn zl zn D E G O O2 ob) {k : Nat} (hk : O k = true) : G k = false := by
  cases hq : G k with
  | false => rfl
  | true => have h5 := h.go k hq; rw [h.di k hk] at h5; cases h5
theorem DW.xf (h : DW w0 w b lb mb r la na cl cn zl zn D E G O O2 ob) {k : Nat} (hk : O2 k = true) : X3 b lb mb k = false := by
  cases hq : X3 b lb mb k with
  | false => rfl
  | true => have h5 := h.di k (h.xo k hq); rw [hk] at h5; cases h5
theorem oc_kp {ob : Nat} {o : OpV} (hK : Kp O w w') (hl : ob < w.heap.size) (hf : O ob = false) (hc : w.rangeAt ob 0 o.cells) : w'.rangeAt ob 0 o.cells := fun j v hv => (hK.cell (p := ⟨ob, 0 + j, none⟩) hl hf).trans (hc j v hv)
/-- The program's own call. -/
theorem DW.prog (h : DW w0 w b lb mb r la na cl cn zl zn D E G O O2 ob) (hd : Dsk w' b lb mb D') (hK : Kp O w w') : DW w0 w' b lb mb r la na cl cn zl zn D' E G (grow O w w') O2 ob :=
  ⟨kp_old h.k hK (fun k hk => (h.o1 k hk).1), hd, h.e.same hK.size (fun k hk => hK.block k (h.e.gl k hk) (by
    cases hq : O k with
    | false => rfl
    | true => have h5 := h.gf hq; rw [hk] at h5; cases h5)), fun k hk => grow_of.2 (Or.inl (h.xo k hk)), h.go, fun k hk => by
    have h5 := h.k.size
    have h6 := hK.size
    rcases grow_of.1 hk with e | e
    · have := h.o1 k e; omega
    · omega, fun k hk => ⟨(h.o2 k hk).1, Nat.lt_of_lt_of_le (h.o2 k hk).2 hK.size⟩, fun k hk => by
    rcases grow_of.1 hk with e | e
    · exact h.di k e
    · cases hq : O2 k with
      | false => rfl
      | true => have := (h.o2 k hq).2; omega, fun q o e => by
    obtain ⟨c, f1, f2, hl⟩ := h.oc q o e
    exact ⟨oc_kp hK hl f1 c, grow_f f1 hl, f2, Nat.lt_of_lt_of_le hl hK.size⟩⟩
/-- The document's. -/
theorem DW.doc (h : DW w0 w b lb mb r la na cl cn zl zn D E G O O2 ob) (he : RDk w' r la na cl cn zl zn E' G') (hK : Kp O2 w w') (hG : ∀ k, G' k = true → grow O2 w w' k = true) : DW w0 w' b lb mb r la na cl cn zl zn D E' G' O (grow O2 w w') ob :=
  ⟨kp_old h.k hK (fun k hk => (h.o2 k hk).1), h.d.same hK.size (fun k hk => hK.block k (h.o1 k (h.xo k hk)).2 (by
    cases hq : O2 k with
    | false => rfl
    | true => have h5 := h.xf hq; rw [hk] at h5; cases h5)), he, h.xo, hG, fun k hk => ⟨(h.o1 k hk).1, Nat.lt_of_lt_of_le (h.o1 k hk).2 hK.size⟩, fun k hk => by
    have h5 := h.k.size
    have h6 := hK.size
    rcases grow_of.1 hk with e | e
    · have := h.o2 k e; omega
    · omega, fun k hk => grow_f (h.di k hk) (h.o1 k hk).2, fun q o e => by
    obtain ⟨c, f1, f2, hl⟩ := h.oc q o e
    exact ⟨oc_kp hK hl f2 c, f1, grow_f f2 hl, Nat.lt_of_lt_of_le hl hK.size⟩⟩
theorem DW.keep (h : DW w0 w b lb mb r la na cl cn zl zn D E G O O2 ob) (hB : Below w.heap.size w w') : DW w0 w' b lb mb r la na cl cn zl zn D E G O O2 ob :=
  ⟨K.call h.k hB, h.d.same hB.size (fun k hk => hB.block k (h.o1 k (h.xo k hk)).2), h.e.keep hB, h.xo, h.go, fun k hk => ⟨(h.o1 k hk).1, Nat.lt_of_lt_of_le (h.o1 k hk).2 hB.size⟩, fun k hk => ⟨(h.o2 k hk).1, Nat.lt_of_lt_of_le (h.o2 k hk).2 hB.size⟩, h.di, fun q o e => by
    obtain ⟨c, f1, f2, hl⟩ := h.oc q o e
    exact ⟨fun j v hv => later hB (c j v hv), f1, f2, Nat.lt_of_lt_of_le hl hB.size⟩⟩
/-- The stores are thrown away. -/
theorem DW.small (h : DW w0 w b lb mb r la na cl cn zl zn D E G O O2 ob) : DW w0 w b lb mb r la na cl cn zl zn D E G (X3 b lb mb) G ob := by
  refine ⟨h.k, h.d, h.e, fun _ hk => hk, fun _ hk => hk, fun k hk => h.o1 k (h.xo k hk), fun k hk => h.o2 k (h.go k hk), fun k hk => h.gf (h.xo k hk), fun q o e => ?_⟩
  obtain ⟨c, f1, f2, hl⟩ := h.oc q o e
  refine ⟨c, ?_, ?_, hl⟩
  · cases hq : X3 b lb mb q with
    | false => rfl
    | true =>
      have h5 := h.xo q hq
      rw [f1] at h5
      cases h5
  · cases hq : G q with
    | false => rfl
    | true =>
      have h5 := h.go q hq
      rw [f2] at h5
      cases h5
theorem DW.old (h : DW w0 w b lb mb r la na cl cn zl zn D E G O O2 ob) {k : Nat} (hk : k < w0.heap.size) : X3 b lb mb k = false ∧ X3 r la na k = false := by
  refine ⟨?_, ?_⟩
  · cases hq : X3 b lb mb k with
    | false => rfl
    | true => have := (h.o1 k (h.xo k hq)).1; omega
  · cases hq : X3 r la na k with
    | false => rfl
    | true => have := (h.o2 k (h.go k (h.e.gx k hq))).1; omega
theorem DW.ba (h : DW w0 w b lb mb r la na cl cn zl zn D E G O O2 ob) {x : Option Addr} {m : Nat} {f : Nat → Nat} (hb : BA w0 x m f) : 0 < m → ∀ p, x = some p → X3 b lb mb p.block = false ∧ X3 r la na p.block = false := fun hm p hp => by
  rcases hb.at_ with h0 | ⟨q, o, e, hr⟩
  · omega
  · rw [hp] at e
    obtain rfl := Option.some.inj e
    exact h.old (World.block_lt_of_cell? w0 _ (hr.c 0 hm))
theorem DW.kb (h : DW w0 w b lb mb r la na cl cn zl zn D E G O O2 ob) {z : Option Addr} {K : List Bool} (hk : Kb w0 z K) : K ≠ [] → ∀ p, z = some p → X3 b lb mb p.block = false ∧ X3 r la na p.block = false := fun hK p hp => by
  rcases hk with h0 | ⟨q, o, e, hr⟩
  · exact absurd h0 hK
  · rw [hp] at e
    obtain rfl := Option.some.inj e
    cases K with
    | nil => exact absurd rfl hK
    | cons x r => exact h.old (World.block_lt_of_cell? w0 _ (hr 0 x rfl))
/-- Both stores. -/
structure SW (w : World) (b lb mb r la na cl cn : Nat) (zl zn : Option Addr) (t t2 : Nat) (G O O2 Yp Yq : Nat → Bool) (s s2 : SM) : Prop where
  p : PW w b lb mb t O Yp s
  q : QW w r la na cl cn zl zn t2 G O2 Yq s2
  yp : ∀ k, O2 k = true → Yp k = true
  yq : ∀ k, O k = true → Yq k = true
theorem PW.yl {t : Nat} {O Y : Nat → Bool} {s : SM} (h : PW w b lb mb t O Y s) : (∀ k, Y k = true → k < w.heap.size) ∧ ∀ k, X3 b lb mb k = true → Y k = true := by
  obtain ⟨bs, vk, vw, ck, cw, h⟩ := h
  exact ⟨h.yl, h.xy⟩
theorem QW.yl {t : Nat} {O Y : Nat → Bool} {s : SM} (h : QW w r la na cl cn zl zn t G O Y s) : (∀ k, Y k = true → k < w.heap.size) ∧ ∀ k, X3 r la na k = true → Y k = true := by
  obtain ⟨bs, vk, vw, ck, cw, h⟩ := h
  exact ⟨h.yl, h.xy⟩
theorem grow_y {Y : Nat → Bool} (hs : w.heap.size ≤ w'.heap.size) (hy : ∀ k, Y k = true → k < w.heap.size) : ∀ k, grow Y w w' k = true → (Y k = true ∨ w.heap.size ≤ k) ∧ k < w'.heap.size := fun k hk => by
  rcases grow_of.1 hk with e | e
  · exact ⟨Or.inl e, Nat.lt_of_lt_of_le (hy k e) hs⟩
  · exact ⟨Or.inr e.1, e.2⟩
theorem grow_sub {A Y : Nat → Bool} (h : ∀ k, A k = true → Y k = true) : ∀ k, grow A w w' k = true → grow Y w w' k = true := fun k hk => by
  rcases grow_of.1 hk with e | e
  · exact grow_of.2 (Or.inl (h k e))
  · exact grow_of.2 (Or.inr e)
variable {t t2 : Nat} {Yp Yq : Nat → Bool} {s s2 s' s2' : SM}
theorem SW.prog (hd : DW w0 w b lb mb r la na cl cn zl zn D E G O O2 ob) (h : SW w b lb mb r la na cl cn zl zn t t2 G O O2 Yp Yq s s2) (hp : PW w' b lb mb t (grow O w w') Yp s') (hK : Kp O w w') : SW w' b lb mb r la na cl cn zl zn t t2 G (grow O w w') O2 Yp (grow Yq w w') s' s2 :=
  ⟨hp, h.q.other hK (fun k hk => ⟨h.yq k hk, hd.gf hk⟩) (grow_y hK.size h.q.yl.1) (fun k hk => grow_of.2 (Or.inl (h.q.yl.2 k hk))), h.yp, grow_sub h.yq⟩
theorem SW.doc (hd : DW w0 w b lb mb r la na cl cn zl zn D E G O O2 ob) (h : SW w b lb mb r la na cl cn zl zn t t2 G O O2 Yp Yq s s2) (hq : QW w' r la na cl cn zl zn t2 G' (grow O2 w w') Yq s2') (hK : Kp O2 w w') : SW w' b lb mb r la na cl cn zl zn t t2 G' O (grow O2 w w') (grow Yp w w') Yq s s2' :=
  ⟨h.p.other hK (fun k hk => ⟨h.yp k hk, hd.xf hk⟩) (grow_y hK.size h.p.yl.1) (fun k hk => grow_of.2 (Or.inl (h.p.yl.2 k hk))), hq, grow_sub h.yp, h.yq⟩
theorem SW.keep (h : SW w b lb mb r la na cl cn zl zn t t2 G O O2 Yp Yq s s2) (hB : Below w.heap.size w w') : SW w' b lb mb r la na cl cn zl zn t t2 G O O2 Yp Yq s s2 := ⟨h.p.keep hB, h.q.keep hB, h.yp, h.yq⟩
end
/-- What is at hand ahead of a call: the stores (none, or both the same), and their disks. -/
def StS (w0 w : World) (b lb mb r la na cl cn : Nat) (zl zn : Option Addr) (ob : Option (Nat × OpV)) (v u : Value) : Prop :=
  ∃ D G O O2, DW w0 w b lb mb r la na cl cn zl zn D D G O O2 ob ∧ ((v = .pointer none ∧ u = .pointer none) ∨ ∃ t t2 Yp Yq s, v = pp t ∧ u = pp t2 ∧ s.D = D ∧ SW w b lb mb r la na cl cn zl zn t t2 G O O2 Yp Yq s s)
/-- The disks alone. -/
def DtS (w0 w : World) (b lb mb r la na cl cn : Nat) (zl zn : Option Addr) (ob : Option (Nat × OpV)) : Prop := ∃ D G O O2, DW w0 w b lb mb r la na cl cn zl zn D D G O O2 ob
section
variable {w0 w w' : World} {b lb mb r la na cl cn : Nat} {zl zn : Option Addr} {ob : Option (Nat × OpV)} {v u : Value}
theorem StS.disks (h : StS w0 w b lb mb r la na cl cn zl zn ob v u) : DtS w0 w b lb mb r la na cl cn zl zn ob := by
  obtain ⟨D, G, O, O2, h, _⟩ := h
  exact ⟨D, G, O, O2, h⟩
theorem StS.keep (h : StS w0 w b lb mb r la na cl cn zl zn ob v u) (hB : Below w.heap.size w w') : StS w0 w' b lb mb r la na cl cn zl zn ob v u := by
  obtain ⟨D, G, O, O2, h, hs⟩ := h
  refine ⟨D, G, O, O2, h.keep hB, hs.imp id ?_⟩
  rintro ⟨t, t2, Yp, Yq, s, e1, e2, e3, hs⟩
  exact ⟨t, t2, Yp, Yq, s, e1, e2, e3, hs.keep hB⟩
theorem DtS.keep (h : DtS w0 w b lb mb r la na cl cn zl zn ob) (hB : Below w.heap.size w w') : DtS w0 w' b lb mb r la na cl cn zl zn ob := by
  obtain ⟨D, G, O, O2, h⟩ := h
  exact ⟨D, G, O, O2, h.keep hB⟩
theorem DtS.below (h : DtS w0 w b lb mb r la na cl cn zl zn ob) : Below w0.heap.size w0 w := by
  obtain ⟨D, G, O, O2, h⟩ := h
  exact h.k
theorem DtS.cells {q : Nat} {o : OpV} (h : DtS w0 w b lb mb r la na cl cn zl zn (some (q, o))) : w.rangeAt q 0 o.cells := by
  obtain ⟨D, G, O, O2, h⟩ := h
  exact (h.oc q o rfl).1
/-- Another call's variable. -/
theorem StS.var {q : Nat} {o : OpV} (h : StS w0 w b lb mb r la na cl cn zl zn ob v u) (hB : Below w.heap.size w w') (h1 : w.heap.size ≤ q) (h2 : q < w'.heap.size) (hc : w'.rangeAt q 0 o.cells) : StS w0 w' b lb mb r la na cl cn zl zn (some (q, o)) v u := by
  obtain ⟨D, G, O, O2, h, hs⟩ := h
  have g := h.keep hB
  have f1 : O q = false := by
    cases hq : O q with
    | false => rfl
    | true => have := (h.o1 _ hq).2; omega
  have f2 : O2 q = false := by
    cases hq : O2 q with
    | false => rfl
    | true => have := (h.o2 _ hq).2; omega
  refine ⟨D, G, O, O2, ⟨g.k, g.d, g.e, g.xo, g.go, g.o1, g.o2, g.di, fun q' o' e => by cases e; exact ⟨hc, f1, f2, h2⟩⟩, hs.imp id ?_⟩
  rintro ⟨t, t2, Yp, Yq, s, e1, e2, e3, hs⟩
  exact ⟨t, t2, Yp, Yq, s, e1, e2, e3, hs.keep hB⟩
end
end Go.Proofs.Ytpophfeommlajaa
