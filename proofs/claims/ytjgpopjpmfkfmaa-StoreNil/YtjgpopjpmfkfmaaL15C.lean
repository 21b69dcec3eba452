/- Layer 15, the laws: what a store tells; the law of none. -/
import Derived.Test.YtjgpopjpmfkfmaaL15B
namespace Go.Proofs.Ytjgpopjpmfkfmaa
open Go.RowKit Go.Maps
attribute [local go_sem ↓] Go.wp_at_zero Go.wp_at_succ

def KeP (w : World) (K : List (List Nat)) (e : Ending) (w' : World) : Prop := ∃ v cs, e = .returned v ∧ Lst w' w.heap.size (Xl w.heap.size) v K cs ∧ Below w.heap.size w w'
structure KeR (w wr : World) (v : Value) (l : List (List Nat)) (cs : List Value) : Prop where
  s : Lst wr w.heap.size (Xl w.heap.size) v l cs
  k : Below w.heap.size w wr
theorem KeR.next {w wr W1 W3 : World} {v v' : Value} {l : List (List Nat)} {cs : List Value} (h : KeR w wr v l cs) (hB : Below wr.heap.size wr W1) {x : Option Addr} {k c : Nat} {f : Nat → Nat} (hb : BA W1 x k f) (hx : 0 < k → ∀ q, x = some q → wr.heap.size ≤ q.block) {o : Obj}
    (ho : W3.ownsRow w.heap.size 38 1 v' (l.length + 1) (cs ++ [.slice x k c])) (hG : (W1.alloc o).grownBy W3 v.ownBlock) (hat : v'.ownBlock = v.ownBlock ∨ v'.ownBlock = some (W1.alloc o).heap.size) : KeR w W3 v' (l ++ [fl f k]) (cs ++ [.slice x k c]) := by
  have hlt : ∀ g, v.ownBlock = some g → g < wr.heap.size := fun g hg => (h.s.o.lt g hg).2
  have hB2 : Below W1.heap.size W1 (W1.alloc o) := K.alloc (Below.refl _ _) o
  have hkW : Below w.heap.size w (W1.alloc o) := (h.k.trans (hB.mono h.k.size)).trans (hB2.mono (Nat.le_trans h.k.size hB.size))
  refine ⟨((h.s.keep hB).keep hB2).push (fun g hg => Nat.lt_of_lt_of_le (Xl_of.1 hg) hkW.size) (hb.keep hB2) (fun h0 p hp => ⟨Xl_not (Nat.le_trans h.k.size (hx h0 p hp)), fun e => ?_⟩) ho hG hat, hkW.grown hG hkW.size (fun g hg => (h.s.o.lt g hg).1)⟩
  have h1 := hlt _ e
  have h2 := hx h0 p hp
  omega
theorem take_snoc {K : List (List Nat)} {i : Nat} {l : List Nat} (h : K[i]? = some l) : K.take (i + 1) = K.take i ++ [l] := by
  rw [List.take_add_one, h]
  rfl
set_option maxRecDepth 100000 in
set_option maxHeartbeats 4000000 in
theorem kept_n {w : World} {b lb mb t : Nat} {O Y : Nat → Bool} {s : SM} (h : PW w b lb mb t O Y s) : Calls Try.prog 26 #[pp t] w (KeP w s.K) := by
  have HP := hide h
  have hl : s.K.length ≤ 4096 := by
    obtain ⟨bs, vk, vw, ck, cw, g⟩ := h
    exact (g.m.sizes (Nat.le_refl _) g.d.ok.n).2.2.1
  clear h
  go_enter Try.func26, Try.ntmps26
  go_wp2_with fail
  go_loopg [3, 4] s.K.length (fun g' s3 s4 wr => ∃ (i : Nat) (cs : List Value), g' = s.K.length - i ∧ i ≤ s.K.length ∧ s4 = .int .i64 (i : Int) ∧ KeR w wr s3 (s.K.take i) cs)
  case atStart => exact ⟨0, [], rfl, Nat.zero_le _, rfl, Lst.nil _ _ _, Below.refl _ _⟩
  case round =>
    obtain ⟨i, cs, rfl, hi, rfl, hR⟩ := hrel
    have HR := hide hR
    obtain ⟨zv, cv, ev, _⟩ := hR.s.shape
    have hlen : (s.K.take i).length = i := by rw [List.length_take, Nat.min_eq_left hi]
    rw [hlen] at ev
    subst ev
    clear hR
    have HLe := hide (len_pw (HP.out.keep HR.out.k))
    by_cases hlt : i < s.K.length
    · obtain ⟨l, hl2⟩ : ∃ l, s.K[i]? = some l := ⟨_, List.getElem?_eq_getElem hlt⟩
      have hlt' : (i : Int) < (s.K.length : Int) := by omega
      have hw1 : wrap64 ((i : Int) + 1) = (i : Int) + 1 := w63 (by omega) (by omega)
      have HEn := hide (entry_pw (HP.out.keep HR.out.k) hl2)
      have HTk := hide (take_snoc hl2)
      have HLn := hide hlen
      clear hl2 hlen
      go_upto_region 6 with (first
        | (go_at_call 30; refine Calls.mono HLe.out ?_; rintro e wr ⟨rfl, rfl⟩)
        | (go_at_call 31; refine Calls.mono HEn.out ?_; rintro e W1 ⟨z1, c1, f1, rfl, hb, hf, hz, hB⟩; have HE := hide (And.intro hb (And.intro hf (And.intro hz hB))); clear hb hf hz hB))
      have HS1 : Hid (Lst (W1.alloc (.cells #[.slice z1 l.length c1] 38)) w.heap.size (Xl w.heap.size) (.slice zv i cv) (s.K.take i) cs) := (HR.out.s.keep HE.out.2.2.2).keep (K.alloc (Below.refl _ _) _)
      have HO1 : Hid ((W1.alloc (.cells #[.slice z1 l.length c1] 38)).ownsRow w.heap.size 38 1 (.slice zv i cv) i cs) := by have := HS1.out.o; rw [HLn.out] at this; exact this
      have HSz : Hid (w.heap.size ≤ (W1.alloc (.cells #[.slice z1 l.length c1] 38)).heap.size) := Nat.le_trans (Nat.le_trans HR.out.k.size HE.out.2.2.2.size) (by simp)
      have HCe : Hid ((W1.alloc (.cells #[.slice z1 l.length c1] 38)).cell? ⟨W1.heap.size, 0, none⟩ = some (.slice z1 l.length c1)) := (Boxed.new W1 38 (.slice z1 l.length c1)).cell
      have hLe : i ≤ 100000 := by omega
      have HN : Hid (∀ v3 W3, W3.ownsRow w.heap.size 38 1 v3 (i + 1) (cs ++ [.slice z1 l.length c1]) → (W1.alloc (.cells #[.slice z1 l.length c1] 38)).grownBy W3 (Value.slice zv i cv).ownBlock → (v3.ownBlock = (Value.slice zv i cv).ownBlock ∨ v3.ownBlock = some (W1.alloc (.cells #[.slice z1 l.length c1] 38)).heap.size) → KeR w W3 v3 (s.K.take (i + 1)) (cs ++ [.slice z1 l.length c1])) := fun v3 W3 ho hG hat => by
        have h9 := HR.out.next HE.out.2.2.2 HE.out.1 HE.out.2.2.1 (by rw [HLn.out]; exact ho) hG hat
        rw [HE.out.2.1, ← HTk.out] at h9
        exact h9
      go_wp2_with (refine wpList_app1 rfl _ _ rfl rfl HO1.out rfl HCe.out rfl hLe HSz.out ?_; intro v3 W3 ho3 hG3 hat3; have HR3 := hide (HN.out v3 W3 ho3 hG3 hat3); clear ho3 hG3 hat3)
      go_roundg (s.K.length - (i + 1))
      case measure => omega
      case rel => exact ⟨i + 1, _, rfl, hlt, by simp, HR3.out⟩
    · obtain rfl : i = s.K.length := by omega
      go_wp2_with (go_at_call 30; refine Calls.mono HLe.out ?_; rintro e wr ⟨rfl, rfl⟩)
      go_ret
      have h9 := HR.out.s
      rw [List.take_length] at h9
      exact ⟨_, cs, rfl, h9, HR.out.k⟩
/-- A copy that may be written. -/
theorem clone_w {w : World} {x : Option Addr} {m c : Nat} {f : Nat → Nat} (hb : BA w x m f) (hm : m ≤ 1000000) (h0 : 0 < m) : Calls Try.prog 49 #[.slice x m c] w fun e w' => ∃ g cp, e = .returned (.slice (some ⟨g, 0, none⟩) m cp) ∧ Rw w' g m f ∧ w.heap.size ≤ g ∧ g < w'.heap.size ∧ Below w.heap.size w w' := by
  have HB := hide hb
  rcases x with _ | a
  · have := hb.none0 rfl
    omega
  · clear hb
    have HE := hide (own_empty w w.heap.size (Nat.le_refl _))
    have HB2 : Hid (BA (w.alloc (.cells #[] 5)) (some a) m f) := HB.out.keep (K.alloc (Below.refl _ _) _)
    have hq := Lib.run_eql_slice_nil (P := Try.prog) w 38 5 (some a) m c 0 0 Try.underlying38
    simp at hq
    have hsz : w.heap.size ≤ (w.alloc (.cells #[] 5)).heap.size := by simp
    go_enter Try.func49, Try.ntmps49
    go_wp2_with (refine wpList_app (base := w.heap.size) (l := []) rfl _ _ rfl rfl HE.out rfl HB2.out (by omega) hsz ?_; intro v1 w1 hO1 hg1; have HR := hide (And.intro hO1 hg1); clear hO1 hg1)
    have ho := HR.out.1
    rw [Nat.zero_add, List.nil_append] at ho
    rcases ho.2 with ⟨_, e2⟩ | ⟨g, cap, cur, e, hbg, hg, hr⟩
    · omega
    · subst e
      go_ret
      obtain ⟨h1, h2, h3, _, _⟩ := own_rng ho
      refine ⟨g, cap, rfl, ⟨fun i hi => ?_, fun i hi => ?_, HB.out.lt⟩, h2, h3, below_append (K.alloc (Below.refl _ w) _) HE.out HR.out.2⟩
      · have h5 := rng_c h1 (i := i) (by rw [fl_len]; exact hi)
        rw [h5, List.getD_eq_getElem?_getD, fl_at f hi]
        rfl
      · unfold World.frozen?
        simp only [hg]
        show (decide (0 ≤ i) && decide (i < 0)) = false
        simp
def EnW (w : World) (l : List Nat) (e : Ending) (w' : World) : Prop := ∃ g c f, e = .returned (.tuple #[.slice (some ⟨g, 0, none⟩) l.length c, .bool true]) ∧ Rw w' g l.length f ∧ fl f l.length = l ∧ w.heap.size ≤ g ∧ g < w'.heap.size ∧ Below w.heap.size w w'
set_option maxRecDepth 100000 in
set_option maxHeartbeats 4000000 in
theorem entry_w {w : World} {b lb mb t : Nat} {O Y : Nat → Bool} {s : SM} (h : PW w b lb mb t O Y s) {i : Nat} {l : List Nat} (hl : s.K[i]? = some l) (h0 : 0 < l.length) : Calls Try.prog 31 #[pp t, .int .i64 (i : Int)] w (EnW w l) := by
  have HL := hide (len_pw h)
  have hsh := SM.short h.ok
  obtain ⟨bs, vk, vw, ck, cw, g⟩ := h
  obtain ⟨x, m, c, f, hcs, hb, hf, _⟩ := g.p.k.e i l hl
  have hi : i < s.K.length := (List.getElem?_eq_some_iff.1 hl).1
  obtain ⟨q, cap, rfl, _, _, hcell⟩ := row_cells g.p.k.o (by omega)
  have hc1 := g.p.c1
  have hce := hcell i _ hcs
  have hml : m = l.length := by rw [← hf, fl_len]
  subst hml
  have HCl := hide (clone_w (c := c) hb (hsh.at hl) h0)
  have hi' : (i : Int) < (s.K.length : Int) := by omega
  have hi2 : ¬ ((s.K.length : Int) ≤ (i : Int)) := by omega
  have HF := hide hf
  clear g hsh hl hcs hb hf hcell
  go_enter Try.func31, Try.ntmps31
  go_wp2_with (first
    | (go_at_call 30; refine Calls.mono HL.out ?_; rintro e w ⟨rfl, rfl⟩)
    | (go_at_call 49; refine Calls.mono HCl.out ?_; rintro e W2 ⟨g2, c2, rfl, hr2⟩; have HR2 := hide hr2; clear hr2))
  have hP : EnW w l (.returned (.tuple #[.slice (some ⟨g2, 0, none⟩) l.length c2, .bool true])) W2 := ⟨g2, c2, f, rfl, HR2.out.1, HF.out, HR2.out.2⟩
  exact bodyPost_ret (by simp [results, Try.results31]) rfl hP
theorem open_nil (w : World) : Calls Try.prog 12 #[.pointer none] w fun e w' => e = .returned (.tuple #[.pointer none, .int .i64 1]) ∧ Below w.heap.size w w' := by
  go_enter Try.func12, Try.ntmps12
  go_wp2_with (go_at_call 33; refine Calls.mono (mend_nil _ _) ?_; rintro e W1 ⟨rfl, hB⟩; have HB := hide hB; clear hB)
  exact bodyPost_ret (by simp [results, Try.results12]) rfl ⟨rfl, HB.out⟩
end Go.Proofs.Ytjgpopjpmfkfmaa
