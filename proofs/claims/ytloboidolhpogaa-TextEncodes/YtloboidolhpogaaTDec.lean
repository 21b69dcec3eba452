/- What the document's own Decode answers. -/
import Derived.Test.YtloboidolhpogaaTDecB
import Derived.Test.YtloboidolhpogaaTVal
import Derived.Test.YtloboidolhpogaaTSame
namespace Go.Proofs.Ytloboidolhpogaa
open Go.RowKit
attribute [local go_sem ↓] Go.wp_at_zero Go.wp_at_succ

theorem text_bytes (w : World) (t : ByteArray) : ∃ W c, (convert 9 22 (.string t)).run Try.prog w = .ok (.slice (some ⟨w.heap.size, 0, none⟩) t.size c) W ∧ Rd W w.heap.size 0 t.size (fun i => ((t.data.toList.getD i 0).toNat : Int)) ∧ Below w.heap.size w W :=
  ⟨_, _, run_bytes_of_string w 9 22 5 t Try.underlying9 Try.underlying22 Try.underlying5, rd_bytes w t _ _, K.alloc (K.drew (Below.refl _ _)) _⟩
/-- What is told of a text of some signs: the bytes, if that is their text; else nothing. -/
def DecPost (s : ByteArray) (w : World) (e : Ending) (w' : World) : Prop := Below w.heap.size w w' ∧
  ((enc (fun i => (dl s.data.toList (s.size / 4)).getD i 0) (3 * (s.size / 4) - eqs s.data.toList) = s.data.toList ∧ ∃ g cap, e = .returned (.tuple #[.slice (some ⟨g, 0, none⟩) (3 * (s.size / 4) - eqs s.data.toList) cap, .bool true]) ∧ Rd w' g 0 (3 * (s.size / 4) - eqs s.data.toList) (fun i => (((dl s.data.toList (s.size / 4)).getD i 0 : Nat) : Int))) ∨
   (enc (fun i => (dl s.data.toList (s.size / 4)).getD i 0) (3 * (s.size / 4) - eqs s.data.toList) ≠ s.data.toList ∧ e = .returned (.tuple #[.slice none 0 0, .bool false])))

set_option maxRecDepth 100000 in
set_option maxHeartbeats 8000000 in
theorem refDecode_some (s : ByteArray) (hs : s.size ≤ 1000) (h4 : s.size % 4 = 0) (h0 : 0 < s.size) (w : World) :
    Calls Try.prog 9 #[.string s] w fun e w' => DecPost s w e w' := by
  obtain ⟨i0, hi, hz0, hz1, hz2⟩ := info_parts info8
  have h4i : (s.size : Int) % 4 = 0 := by omega
  have HZ : Hid (0 < s.size ∧ s.size % 4 = 0) := ⟨h0, h4⟩
  clear h0
  go_enter Try.func9, Try.ntmps9
  go_wp2_with fail
  go_loopg [4, 5] (s.size / 4) (fun g v i wr => ∃ (j : Nat) (u : Value), u = v ∧ g = s.size / 4 - j ∧ 4 * j ≤ s.size ∧ i = .int .i64 ((4 * j : Nat) : Int) ∧ wr.ownsRow w.heap.size 5 1 u (3 * j) (cells8 (dl s.data.toList j)) ∧ Below w.heap.size w wr)
  case atStart => exact ⟨0, _, rfl, rfl, by omega, rfl, World.ownsRow_nil _ _ _ _, Below.refl _ _⟩
  case round =>
    obtain ⟨j, u, hu, rfl, hj, rfl, hO, hB⟩ := hrel
    subst hu
    by_cases hlt : 4 * j < s.size
    · obtain ⟨m, hm⟩ : ∃ m, m = 4 * j := ⟨_, rfl⟩
      have HJ : Hid (4 * j = m ∧ m + 4 ≤ s.size ∧ 4 * (j + 1) = m + 4) := ⟨by omega, by omega, by omega⟩
      rw [← hm]
      have hmi : (m : Int) + 4 ≤ s.size := by omega
      have hml : m < s.size := by omega
      have hsi : (s.size : Int) ≤ 1000 := by omega
      have HO : Hid (wr.ownsRow w.heap.size 5 1 u (3 * j) (cells8 (dl s.data.toList j))) := hO
      clear hm hj hlt hO h4 h4i
      go_wp2_with fail
      go_loopg [6, 7] 4 (fun g n k wr => ∃ r : Nat, g = 4 - r ∧ r ≤ 4 ∧ k = .int .i64 ((m + r : Nat) : Int) ∧ n = .int .i64 (part s.data.toList m r) ∧ wr.ownsRow w.heap.size 5 1 u (3 * j) (cells8 (dl s.data.toList j)) ∧ Below w.heap.size w wr)
      case atStart => exact ⟨0, rfl, by omega, by go_num, rfl, HO.out, hB⟩
      case round =>
        clear hB HO
        obtain ⟨r, rfl, hr, rfl, rfl, hO, hB⟩ := hrel
        have hp := part_lt s.data.toList m r
        have hp4 : 64 ^ r ≤ 64 ^ 4 := Nat.pow_le_pow_right (by omega) hr
        have hpi : ((part s.data.toList m r : Nat) : Int) < 16777216 := by omega
        by_cases hlt : r < 4
        · obtain ⟨q, hq⟩ : ∃ q, q = m + r := ⟨_, rfl⟩
          have HP : Hid (((part s.data.toList m (r + 1) : Nat) : Int) = ((part s.data.toList m r : Nat) : Int) * 64 + ((vz (s.data.toList.getD (m + r) 0) : Nat) : Int)) := by show _ = _; simp only [part]; omega
          have hp0 : (0 : Int) ≤ ((part s.data.toList m r : Nat) : Int) := by omega
          have hp3 : 64 ^ r ≤ 64 ^ 3 := Nat.pow_le_pow_right (by omega) (by omega)
          have hpj : ((part s.data.toList m r : Nat) : Int) < 262144 := by omega
          rw [← hq] at HP ⊢
          have hql : q < s.size := by have := HJ.out; omega
          have hqi : (q : Int) < s.size := by omega
          have HG : Hid (s.data.toList.getD q 0 = s[q]) := by
            show _ = _
            rw [List.getD_eq_getElem?_getD, List.getElem?_eq_getElem (by simpa using hql)]
            rfl
          have HQ : Hid (q = m + r ∧ r < 4) := ⟨hq, hlt⟩
          have HO : Hid (wr.ownsRow w.heap.size 5 1 u (3 * j) (cells8 (dl s.data.toList j))) := hO
          have HB : Hid (Below w.heap.size w wr) := hB
          have hmq : (q : Int) < (m : Int) + 4 := by omega
          clear hq hlt hr hp hp4 hp3 hO hB
          generalize ((part s.data.toList m r : Nat) : Int) = pr at *
          go_wp2_with fail
          with_reducible refine Calls.mono (refValue_any s[q] _) ?_
          rintro e w1 ⟨v, rfl, hv, hb⟩
          have hO1 := own_keep HO.out hb
          have hB1 : Below w.heap.size w w1 := K.call HB.out hb
          clear hb
          have hv2 : (0 ≤ v ∧ v < 64 ∧ ((vz s[q] : Nat) : Int) = v) ∨ (v = -1 ∧ ∀ n, n < 64 → sgn n ≠ s[q]) := by
            rcases hv with ⟨n, hn, rfl, hsg⟩ | h
            · exact Or.inl ⟨by omega, by omega, by rw [← hsg, vz_sgn n hn]⟩
            · exact Or.inr h
          clear hv
          rcases hv2 with ⟨hv0, hv1, hvz⟩ | ⟨rfl, hno⟩
          · have HV : Hid (((vz s[q] : Nat) : Int) = v) := hvz
            clear hvz
            go_wp2_with fail
            go_roundg (4 - (r + 1))
            case measure => have := HQ.out; omega
            case rel => exact ⟨r + 1, rfl, by have := HQ.out; omega, congrArg (Value.int .i64) (by have := HQ.out; omega), congrArg (Value.int .i64) (by rw [HP.out, HG.out, HV.out]), hO1, hB1⟩
          · have HV : Hid (vz s[q] = 0) := vz_none hno
            clear hno
            go_wp2_with fail
            go_roundg (4 - (r + 1))
            case measure => have := HQ.out; omega
            case rel => exact ⟨r + 1, rfl, by have := HQ.out; omega, congrArg (Value.int .i64) (by have := HQ.out; omega), congrArg (Value.int .i64) (by rw [HP.out, HG.out, HV.out]; omega), hO1, hB1⟩
        · obtain rfl : r = 4 := by omega
          have HD : Hid (dl s.data.toList (j + 1) = dl s.data.toList j ++ [part s.data.toList m 4 / 65536, part s.data.toList m 4 / 256 % 256, part s.data.toList m 4 % 256]) := by
            show _ = _
            rw [← HJ.out.1]; rfl
          clear hp hp4 hlt
          generalize part s.data.toList m 4 = pn at *
          have hj3 : 3 * j + 3 ≤ 1000 := by have := HJ.out; omega
          go_wp2_with (at_builtin; refine wpList_append_own _ rfl _ _ 22 rfl w.heap.size 5 i0 (.int .u8 0) 1 1 Try.underlying22 hi hz0 hz1 hz2 rfl (by decide) _ _ _ rfl (hO.alloc _) ⟨wr.heap.size, 0, none⟩ 3 3 [.int .u8 ((pn : Int) / 65536), .int .u8 ((pn : Int) / 256 % 256), .int .u8 ((pn : Int) % 256)] rfl rfl ?c1 ?c2 ?c3 ?c4 ?c5 ?_)
          case c1 =>
            intro i x hx
            match i, hx with
            | 0, hx => simp at hx; subst hx; simp [Addr.add]
            | 1, hx => simp at hx; subst hx; simp [Addr.add]
            | 2, hx => simp at hx; subst hx; simp [Addr.add]
          case c2 => intro x hx; simp at hx; rcases hx with rfl | rfl | rfl <;> rfl
          case c3 => unfold maxLen; omega
          case c4 => omega
          case c5 => have := hB.size; simp; omega
          intro v' w1 hown' hgrow _
          have R1 : Below w.heap.size w w1 := (K.alloc hB _).grown hgrow (K.alloc hB _).size (fun k hk => (hO.lt k hk).1)
          have R2 : w1.ownsRow w.heap.size 5 1 v' (3 * (j + 1)) (cells8 (dl s.data.toList (j + 1))) := by
            rw [HD.out, show 3 * (j + 1) = 3 * j + 3 by omega]
            unfold cells8 at hown' ⊢
            rw [List.map_append]
            exact hown'
          clear hown' hgrow hO hB
          go_wp2_with fail
          go_roundg (s.size / 4 - (j + 1))
          case measure => have := HJ.out; omega
          case rel => exact ⟨j + 1, _, rfl, rfl, by have := HJ.out; omega, congrArg (Value.int .i64) (by have := HJ.out; omega), R2, R1⟩
    · have hsz : s.size = 4 * j := by omega
      have hj1 : 1 ≤ j := by have := HZ.out; omega
      obtain ⟨gb, cap, rfl, _, hR⟩ := own_rd (f := fun i => (((dl s.data.toList j).getD i 0 : Nat) : Int)) hO (fun i hi' => cells8_at _ i (by rw [dl_len]; exact hi')) (by omega)
      have hcap := own_cap hO
      have HR : Hid (Row8 wr gb (3 * j) (fun i => (((dl s.data.toList j).getD i 0 : Nat) : Int))) := hR
      have HB : Hid (Below w.heap.size w wr) := hB
      have HJ : Hid (s.size = 4 * j) := hsz
      have hls : s.data.toList.length = s.size := Array.length_toList
      obtain ⟨m, hm⟩ : ∃ m, m = 4 * j := ⟨_, rfl⟩
      have hml : ¬ m < s.size := by omega
      have hmi : ¬ (m : Int) < s.size := by omega
      rw [← hm]
      clear hm
      have hjs : 4 * j ≤ 1000 := by omega
      clear hO hR hB hi hz0 hz1 hz2 h4 hlt hsz
      go_wp2_with fail
      go_loopg [4, 9] 2 (fun g s4 s9 wr' => wr' = wr ∧ ∃ k : Nat, g = 2 - k ∧ k ≤ 2 ∧ s9 = .int .i64 k ∧ s4 = .slice (some ⟨gb, 0, none⟩) (3 * j - k) cap ∧ ∀ i, i < k → s.data.toList.getD (s.size - 1 - i) 0 = 61)
      case atStart => exact ⟨rfl, 0, rfl, by omega, rfl, rfl, fun i h => by omega⟩
      case round =>
        obtain ⟨rfl, k, rfl, hk, rfl, rfl, hall⟩ := hrel
        by_cases hk2 : k < 2
        · obtain ⟨q, hq⟩ : ∃ q, q = s.size - 1 - k := ⟨_, rfl⟩
          obtain ⟨p, hp⟩ : ∃ p, p = 3 * j - k := ⟨_, rfl⟩
          have hql : q < s.size := by have := HJ.out; omega
          have hqs : (s.size : Int) - 1 - (k : Int) = (q : Int) := by have := HJ.out; omega
          have hqi : (q : Int) < s.size := by omega
          have HG : Hid (s.data.toList.getD (s.size - 1 - k) 0 = s[q]) := by
            show _ = _
            rw [← hq, List.getD_eq_getElem?_getD, List.getElem?_eq_getElem (by simpa using hql)]
            rfl
          have hpi : (0 : Int) < (3 * j - k : Nat) := by omega
          have hpc : (3 * j - k : Nat) ≤ cap := by omega
          by_cases hc : s[q] = 61
          · have hcb : ((s[q].toNat : Int) == 61) = true := by rw [hc]; rfl
            have HN : Hid (∀ i, i < k + 1 → s.data.toList.getD (s.size - 1 - i) 0 = 61) := fun i hi => by
              by_cases e : i = k
              · rw [e, HG.out]; exact hc
              · exact hall i (by omega)
            clear hc hall hq hp
            go_wp2_with fail
            go_roundg (2 - (k + 1))
            case measure => omega
            case rel => exact ⟨rfl, k + 1, rfl, by omega, by go_num, by first | rfl | (congr 1; omega), HN.out⟩
          · have HKK : eqs s.data.toList = k := by
              have hne : s.data.toList.getD (s.size - 1 - k) 0 ≠ 61 := by rw [HG.out]; exact hc
              rcases (show k = 0 ∨ k = 1 by omega) with rfl | rfl
              · unfold eqs
                rw [hls]
                exact if_neg hne
              · have e1 : s.data.toList.getD (s.size - 1) 0 = 61 := hall 0 (by omega)
                unfold eqs
                rw [hls, if_pos e1]
                exact if_neg hne
            have hcn : s[q].toNat ≠ 61 := fun h => hc (UInt8.toNat_inj.1 (h.trans rfl))
            have hcb : ((s[q].toNat : Int) == 61) = false := beq_eq_false_iff_ne.2 (by omega)
            clear hc hcn hq hp hall
            have HK : Hid (eqs s.data.toList = k) := HKK
            have HF : Hid (∀ i, (dl s.data.toList j).getD i 0 < 256) := getD_lt (dl_lt s.data.toList j)
            have HRd : Hid (Rd wr gb 0 (3 * j - k) (fun i => (((dl s.data.toList j).getD i 0 : Nat) : Int))) := HR.out.rd.first _ (by omega)
            have hel : (enc (fun i => (dl s.data.toList j).getD i 0) (3 * j - k)).length = s.size := by have := HJ.out; rw [enc_len]; omega
            have htl : (tx (enc (fun i => (dl s.data.toList j).getD i 0) (3 * j - k))).size = s.size := by rw [tx_size]; exact hel
            have hpn : 3 * j - k ≤ 1000 := by omega
            clear HKK
            obtain ⟨ET, hET⟩ : ∃ ET, ET = enc (fun i => (dl s.data.toList j).getD i 0) (3 * j - k) := ⟨_, rfl⟩
            have HET : Hid (ET = enc (fun i => (dl s.data.toList j).getD i 0) (3 * j - k)) := hET
            have HENC : Hid (Calls Try.prog 11 #[.slice (some ⟨gb, 0, none⟩) (3 * j - k) cap] wr fun e w' => e = .returned (.string (tx ET)) ∧ Below wr.heap.size wr w') := by
              rw [hET]; exact refEncode_any HF.out hpn HRd.out
            rw [← hET] at hel htl
            clear hET
            go_wp2_with fail
            with_reducible refine Calls.mono HENC.out ?_
            rintro e w1 ⟨rfl, hb⟩
            have HRd1 : Hid (Rd w1 gb 0 (3 * j - k) (fun i => (((dl s.data.toList j).getD i 0 : Nat) : Int))) := HRd.out.keep hb
            have hB1 : Below w.heap.size w w1 := K.call HB.out hb
            clear hb
            have H4 : Hid (s.size / 4 = j) := by have := HJ.out; show s.size / 4 = j; omega
            obtain ⟨W2, c2, hcv1, hRd2, hb2⟩ := text_bytes w1 (tx ET)
            rw [htl] at hcv1 hRd2
            obtain ⟨W3, c3, hcv2, hRd3, hb3⟩ := text_bytes W2 s
            have HR2 : Hid (Rd W3 w1.heap.size 0 s.size (fun i => ((ET.getD i 0).toNat : Int))) := hRd2.keep hb3
            have HR3 : Hid (Rd W3 W2.heap.size 0 s.size (fun i => ((s.data.toList.getD i 0).toNat : Int))) := hRd3
            have hB3 : Below w.heap.size w W3 := K.call (K.call hB1 hb2) hb3
            have HO3 : Hid (Rd W3 gb 0 (3 * j - k) (fun i => (((dl s.data.toList j).getD i 0 : Nat) : Int))) := (HRd1.out.keep hb2).keep hb3
            have hsb := sameB_texts hel hls
            have hs6 : s.size ≤ 1000000 := by omega
            have HJK : Hid (3 * (s.size / 4) - eqs s.data.toList = 3 * j - k) := by show _ = _; rw [H4.out, HK.out]
            clear hRd2 hRd3 hb2 hb3 hel htl
            by_cases heq : ET = s.data.toList
            · have HEQ : Hid ((enc (fun i => (dl s.data.toList j).getD i 0) (3 * j - k)) = s.data.toList) := by have h := HET.out; rw [h] at heq; exact heq
              rw [decide_eq_true heq] at hsb
              clear heq
              go_wp2_with fail
              with_reducible refine Calls.mono (same_any hs6 HR2.out HR3.out) ?_
              rw [hsb]
              clear hsb
              rintro e w4 ⟨rfl, hb4⟩
              have HB4 : Hid (Below w.heap.size w w4) := K.call hB3 hb4
              have HO4 : Hid (Rd w4 gb 0 (3 * j - k) (fun i => (((dl s.data.toList j).getD i 0 : Nat) : Int))) := HO3.out.keep hb4
              clear hb4 hB3
              go_wp2_with fail
              go_ret2
              unfold DecPost
              rw [HJK.out, H4.out]
              exact ⟨HB4.out, Or.inl ⟨HEQ.out, gb, cap, rfl, HO4.out⟩⟩
            · have HEQ : Hid ((enc (fun i => (dl s.data.toList j).getD i 0) (3 * j - k)) ≠ s.data.toList) := by have h := HET.out; rw [h] at heq; exact heq
              rw [decide_eq_false heq] at hsb
              clear heq
              go_wp2_with fail
              with_reducible refine Calls.mono (same_any hs6 HR2.out HR3.out) ?_
              rw [hsb]
              clear hsb
              rintro e w4 ⟨rfl, hb4⟩
              have HB4 : Hid (Below w.heap.size w w4) := K.call hB3 hb4
              clear hb4 hB3
              go_wp2_with fail
              go_ret2
              unfold DecPost
              rw [HJK.out, H4.out]
              exact ⟨HB4.out, Or.inr ⟨HEQ.out, rfl⟩⟩
        · obtain rfl : k = 2 := by omega
          have HKK : eqs s.data.toList = 2 := by
            have e1 : s.data.toList.getD (s.size - 1) 0 = 61 := hall 0 (by omega)
            have e2 : s.data.toList.getD (s.size - 1 - 1) 0 = 61 := hall 1 (by omega)
            unfold eqs
            rw [hls, if_pos e1, if_pos e2]
          have HK : Hid (eqs s.data.toList = 2) := HKK
          have HF : Hid (∀ i, (dl s.data.toList j).getD i 0 < 256) := getD_lt (dl_lt s.data.toList j)
          have HRd : Hid (Rd wr gb 0 (3 * j - 2) (fun i => (((dl s.data.toList j).getD i 0 : Nat) : Int))) := HR.out.rd.first _ (by omega)
          have hel : (enc (fun i => (dl s.data.toList j).getD i 0) (3 * j - 2)).length = s.size := by have := HJ.out; rw [enc_len]; omega
          have htl : (tx (enc (fun i => (dl s.data.toList j).getD i 0) (3 * j - 2))).size = s.size := by rw [tx_size]; exact hel
          have hpn : 3 * j - 2 ≤ 1000 := by omega
          clear HKK
          obtain ⟨ET, hET⟩ : ∃ ET, ET = enc (fun i => (dl s.data.toList j).getD i 0) (3 * j - 2) := ⟨_, rfl⟩
          have HET : Hid (ET = enc (fun i => (dl s.data.toList j).getD i 0) (3 * j - 2)) := hET
          have HENC : Hid (Calls Try.prog 11 #[.slice (some ⟨gb, 0, none⟩) (3 * j - 2) cap] wr fun e w' => e = .returned (.string (tx ET)) ∧ Below wr.heap.size wr w') := by
            rw [hET]; exact refEncode_any HF.out hpn HRd.out
          rw [← hET] at hel htl
          clear hET
          go_wp2_with fail
          with_reducible refine Calls.mono HENC.out ?_
          rintro e w1 ⟨rfl, hb⟩
          have HRd1 : Hid (Rd w1 gb 0 (3 * j - 2) (fun i => (((dl s.data.toList j).getD i 0 : Nat) : Int))) := HRd.out.keep hb
          have hB1 : Below w.heap.size w w1 := K.call HB.out hb
          clear hb
          have H4 : Hid (s.size / 4 = j) := by have := HJ.out; show s.size / 4 = j; omega
          obtain ⟨W2, c2, hcv1, hRd2, hb2⟩ := text_bytes w1 (tx ET)
          rw [htl] at hcv1 hRd2
          obtain ⟨W3, c3, hcv2, hRd3, hb3⟩ := text_bytes W2 s
          have HR2 : Hid (Rd W3 w1.heap.size 0 s.size (fun i => ((ET.getD i 0).toNat : Int))) := hRd2.keep hb3
          have HR3 : Hid (Rd W3 W2.heap.size 0 s.size (fun i => ((s.data.toList.getD i 0).toNat : Int))) := hRd3
          have hB3 : Below w.heap.size w W3 := K.call (K.call hB1 hb2) hb3
          have HO3 : Hid (Rd W3 gb 0 (3 * j - 2) (fun i => (((dl s.data.toList j).getD i 0 : Nat) : Int))) := (HRd1.out.keep hb2).keep hb3
          have hsb := sameB_texts hel hls
          have hs6 : s.size ≤ 1000000 := by omega
          have HJK : Hid (3 * (s.size / 4) - eqs s.data.toList = 3 * j - 2) := by show _ = _; rw [H4.out, HK.out]
          clear hRd2 hRd3 hb2 hb3 hel htl
          by_cases heq : ET = s.data.toList
          · have HEQ : Hid ((enc (fun i => (dl s.data.toList j).getD i 0) (3 * j - 2)) = s.data.toList) := by have h := HET.out; rw [h] at heq; exact heq
            rw [decide_eq_true heq] at hsb
            clear heq
            go_wp2_with fail
            with_reducible refine Calls.mono (same_any hs6 HR2.out HR3.out) ?_
            rw [hsb]
            clear hsb
            rintro e w4 ⟨rfl, hb4⟩
            have HB4 : Hid (Below w.heap.size w w4) := K.call hB3 hb4
            have HO4 : Hid (Rd w4 gb 0 (3 * j - 2) (fun i => (((dl s.data.toList j).getD i 0 : Nat) : Int))) := HO3.out.keep hb4
            clear hb4 hB3
            go_wp2_with fail
            go_ret2
            unfold DecPost
            rw [HJK.out, H4.out]
            exact ⟨HB4.out, Or.inl ⟨HEQ.out, gb, cap, rfl, HO4.out⟩⟩
          · have HEQ : Hid ((enc (fun i => (dl s.data.toList j).getD i 0) (3 * j - 2)) ≠ s.data.toList) := by have h := HET.out; rw [h] at heq; exact heq
            rw [decide_eq_false heq] at hsb
            clear heq
            go_wp2_with fail
            with_reducible refine Calls.mono (same_any hs6 HR2.out HR3.out) ?_
            rw [hsb]
            clear hsb
            rintro e w4 ⟨rfl, hb4⟩
            have HB4 : Hid (Below w.heap.size w w4) := K.call hB3 hb4
            clear hb4 hB3
            go_wp2_with fail
            go_ret2
            unfold DecPost
            rw [HJK.out, H4.out]
            exact ⟨HB4.out, Or.inr ⟨HEQ.out, rfl⟩⟩

set_option maxHeartbeats 1000000 in
theorem refDecode_odd (s : ByteArray) (h4 : s.size % 4 ≠ 0) (w : World) :
    Calls Try.prog 9 #[.string s] w fun e w' => e = .returned (.tuple #[.slice none 0 0, .bool false]) ∧ w' = w := by
  have hb : ((s.size : Int) % 4 == 0) = false := beq_eq_false_iff_ne.2 (by omega)
  go_enter Try.func9, Try.ntmps9
  go_wp2_with fail
  go_ret2
  exact ⟨rfl, rfl⟩

set_option maxHeartbeats 2000000 in
theorem refDecode_none (s : ByteArray) (h0 : s.size = 0) (w : World) :
    Calls Try.prog 9 #[.string s] w fun e w' => e = .returned (.tuple #[.slice none 0 0, .bool true]) ∧ Below w.heap.size w w' := by
  obtain ⟨ET, hET⟩ : ∃ ET, ET = enc (fun _ => 0) 0 := ⟨_, rfl⟩
  have HENC : Hid (∀ w, Calls Try.prog 11 #[.slice none 0 0] w fun e w' => e = .returned (.string (tx ET)) ∧ w' = w) := fun w => by
    rw [hET]; exact refEncode_none none 0 (fun _ => 0) w
  have htl : (tx ET).size = 0 := by rw [hET]; rfl
  clear hET
  go_enter Try.func9, Try.ntmps9
  go_wp2_with fail
  refine wp_loop_rounds 1 ?_
  rw [rounds_succ]
  go_wp2_with fail
  refine wp_loop_rounds 1 ?_
  rw [rounds_succ]
  go_wp2_with fail
  with_reducible refine Calls.mono (HENC.out _) ?_
  rintro e w1 ⟨rfl, rfl⟩
  obtain ⟨W2, c2, hcv1, _, hb2⟩ := text_bytes w1 (tx ET)
  rw [htl] at hcv1
  obtain ⟨W3, c3, hcv2, _, hb3⟩ := text_bytes W2 s
  rw [h0] at hcv2
  have HB3 : Hid (Below w1.heap.size w1 W3) := K.call hb2 hb3
  clear hb2 hb3
  go_wp2_with fail
  with_reducible refine Calls.mono (same_none _ _ _ _ _) ?_
  rintro e w4 ⟨rfl, rfl⟩
  go_wp2_with fail
  go_ret2
  exact ⟨rfl, HB3.out⟩
end Go.Proofs.Ytloboidolhpogaa
