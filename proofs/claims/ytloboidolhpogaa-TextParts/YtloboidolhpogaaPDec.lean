/- What text.Decode answers. -/
import Derived.Test.YtloboidolhpogaaPDecP
namespace Go.Proofs.Ytloboidolhpogaa
open Go.RowKit
attribute [local go_sem ↓] Go.wp_at_zero Go.wp_at_succ
attribute [local go_sem] tx_size

set_option maxRecDepth 100000 in
set_option maxHeartbeats 8000000 in
theorem decode_some (l : List UInt8) (hs : l.length ≤ 1000) (h4 : l.length % 4 = 0) (h0 : 0 < l.length) (w : World) :
    Calls Try.prog 8 #[.string (tx l)] w fun e w' => DecP l w e w' := by
  obtain ⟨i0, hi, hz0, hz1, hz2⟩ := info_parts info8
  have hE := eqs_le l
  have htr := tr_two (l := l) (by omega)
  obtain ⟨q, hq⟩ : ∃ q, q = l.length - eqs l := ⟨_, rfl⟩
  obtain ⟨Kq, hK⟩ : ∃ Kq, Kq = l.length / 4 := ⟨_, rfl⟩
  obtain ⟨N, hN⟩ : ∃ N, N = 3 * Kq - eqs l := ⟨_, rfl⟩
  rw [← hq] at htr
  have hlast : ∀ i, q ≤ i → i < l.length → l.getD i 0 = 61 := by rw [hq]; exact eqs_last (by omega)
  have HLA : Hid (∀ i, q ≤ i → i < l.length → l.getD i 0 = 61) := hlast
  have HY : Hid (∀ g cap w', N ≤ cap → Below w.heap.size w w' → (∀ j, j < Kq → okG l q j) → Rd w' g 0 N (fun i => (((dl l Kq).getD i 0 : Nat) : Int)) → DecP l w (.returned (.tuple #[.slice (some ⟨g, 0, none⟩) N cap, .bool true])) w') := by
    intro g cap w' hc hb hok hr
    unfold DecP
    rw [← hK, ← hN]
    refine ⟨hb, Or.inl ⟨?_, g, cap, hc, rfl, hr⟩⟩
    rw [hN]
    exact enc_dl (by omega) (by omega) (by rw [← hq]; exact hok)
  have HX : Hid (∀ j w', j < Kq → ¬ okG l q j → Below w.heap.size w w' → DecP l w (.returned (.tuple #[.slice none 0 0, .bool false])) w') := by
    intro j w' hj hno hb
    unfold DecP
    rw [← hK, ← hN]
    refine ⟨hb, Or.inr ⟨?_, rfl⟩⟩
    rw [hN]
    exact enc_not (by omega) (by omega) hj (by rw [← hq]; exact hno)
  have HN : Hid (l.length = 4 * Kq ∧ 0 < Kq ∧ q ≤ 4 * Kq ∧ 4 * Kq ≤ q + 2 ∧ N + 4 * Kq = 3 * Kq + q) := ⟨by omega, by omega, by omega, by omega, by omega⟩
  have h4i : (l.length : Int) % 4 = 0 := by omega
  have hsi : (l.length : Int) ≤ 1000 := by omega
  have hT1 : Hid (∀ w, Calls Try.prog 13 #[.string (tx l), .string ⟨#[61]⟩] w fun e w' => e = .returned (.string (tx (tr l))) ∧ w' = w) := fun w => trim_any l (by omega) w
  have htl : (tr l).length ≤ l.length := by unfold tr; split <;> simp
  have hT2 : Hid (∀ w, Calls Try.prog 13 #[.string (tx (tr l)), .string ⟨#[61]⟩] w fun e w' => e = .returned (.string (tx (l.take q))) ∧ w' = w) := fun w => by rw [← htr]; exact trim_any (tr l) (by omega) w
  have hBl : (l.take q).length = q := by rw [List.length_take]; omega
  have HBX : Hid (∀ m G, m + G ≤ q → (tx (l.take q)).extract m (m + G) = tx (grpS l m G)) := fun m G h => grpS_cut h
  clear htl htr hlast hq hK hN hE h4
  generalize tr l = T1 at *
  generalize l.take q = B at *
  have hBs : (tx B).size = q := by rw [tx_size, hBl]
  go_enter Try.func8, Try.ntmps8
  go_wp2_with fail
  with_reducible refine Calls.mono (hT1.out _) ?_
  rintro e w1 ⟨rfl, rfl⟩
  go_wp2_with fail
  with_reducible refine Calls.mono (hT2.out _) ?_
  rintro e w2 ⟨rfl, rfl⟩
  go_wp2_with (at_make; refine wpList_make_own _ rfl _ _ 22 rfl w2.heap.size 5 i0 (.int .u8 0) 1 Try.underlying22 hi hz0 hz1 .i64 .i64 _ (l.length / 4 * 3) rfl rfl (by omega) (by rw [hz2]; omega) (by unfold maxLen; omega) (by simp) ?_; intro w1 hown hgrow)
  have hO1 : w1.ownsRow w2.heap.size 5 1 (.slice (some ⟨w2.heap.size, 0, none⟩) 0 (l.length / 4 * 3)) 0 [] := hown
  have hB1 : Below w2.heap.size w2 w1 := (Below.refl _ w2).grown hgrow (Nat.le_refl _) (fun k hk => by cases hk)
  clear hown hgrow hT1 hT2
  go_loopg [5, 6] Kq (fun g v i wr => ∃ (j : Nat) (u : Value), u = v ∧ g = Kq - j ∧ j ≤ Kq ∧ i = .int .i64 ((4 * j : Nat) : Int) ∧ wr.ownsRow w2.heap.size 5 1 u (min (3 * j) N) (cells8 (rowD l N j)) ∧ (∀ t, t < j → okG l q t) ∧ Below w2.heap.size w2 wr)
  case atStart => exact ⟨0, _, rfl, rfl, by omega, rfl, by simp only [Nat.mul_zero, Nat.zero_min, rowD, dl, List.take_nil]; exact hO1, fun t h => by omega, hB1⟩
  case round =>
    clear hO1 hB1 w1
    obtain ⟨j, u, hu, rfl, hj, rfl, hO, hok, hB⟩ := hrel
    subst hu
    have HOK : Hid (∀ t, t < j → okG l q t) := hok
    by_cases hlt : j < Kq
    · obtain ⟨m, hm⟩ : ∃ m, m = 4 * j := ⟨_, rfl⟩
      obtain ⟨G, hG⟩ : ∃ G, G = min 4 (q - 4 * j) := ⟨_, rfl⟩
      have HK : Hid (m = 4 * j ∧ j < Kq ∧ 2 ≤ G ∧ G ≤ 4 ∧ m + G ≤ q ∧ m < q ∧ G = min 4 (q - 4 * j) ∧ 3 * j ≤ N ∧ min (3 * (j + 1)) N = 3 * j + (G - 1)) := by
        have := HN.out
        refine ⟨hm, hlt, ?_, ?_, ?_, ?_, hG, ?_, ?_⟩ <;> omega
      rw [rowD_low (by have := HK.out; omega), show min (3 * j) N = 3 * j by have := HK.out; omega] at hO
      have hmi : (m : Int) < q := by have := HK.out; omega
      have hmq : (m : Int) ≤ 1000 ∧ (q : Int) ≤ 1000 := by have := HN.out; have := HK.out; omega
      have hcut := HBX.out m G (by have := HK.out; omega)
      have HGS := gatherSigns_any (grpS l m G) (by rw [grpS_len (by have := HK.out; have := HN.out; omega)]; have := HK.out; omega)
      have HGL : Hid ((grpS l m G).length = G ∧ ∀ r, r < G → (grpS l m G).getD r 0 = l.getD (m + r) 0) := ⟨grpS_len (by have := HK.out; have := HN.out; omega), fun r hr => grpS_at hr⟩
      have HV : Hid (gs (grpS l m G) G = part l m 4) := gs_part (by have := HK.out; omega) (by have := HK.out; omega) (fun r h1 h2 => HLA.out _ (by have := HK.out; omega) (by have := HK.out; have := HN.out; omega))
      rw [← hm]
      generalize grpS l m G = GL at *
      have HGS : Hid (∀ w, Calls Try.prog 14 #[.string (tx GL)] w fun e w' => GsPost GL w e w') := HGS
      have HO : Hid (wr.ownsRow w2.heap.size 5 1 u (3 * j) (cells8 (dl l j))) := hO
      have HB : Hid (Below w2.heap.size w2 wr) := hB
      have hgl : GL.length = G := HGL.out.1
      clear hm hG hj hlt hok hO hB hs h0
      have eABC : ((m : Int) + 4 ≤ q ∧ G = 4) ∨ (¬ (m : Int) + 4 ≤ q ∧ G = 2 ∧ q = m + 2) ∨ (¬ (m : Int) + 4 ≤ q ∧ G = 3 ∧ q = m + 3) := by have := HK.out; omega
      rcases eABC with ⟨hc, hG⟩ | ⟨hc, hG, eL⟩ | ⟨hc, hG, eL⟩
      · subst hG
        have hcut2 : (tx B).extract m ((m : Int) + 4).toNat = tx GL := by rw [show ((m : Int) + 4).toNat = m + 4 by omega]; exact hcut
        go_wp2_with fail
        clear hcut2
        with_reducible refine Calls.mono (HGS.out _) ?_
        rintro e w3 ⟨rfl, hpost⟩
        clear hc
        rcases hpost with ⟨hall, rfl⟩ | ⟨⟨r, hr, hne⟩, rfl⟩
        · rw [hgl, HV.out]
          have HALL : Hid (∀ r, r < 4 → sgn (vz (GL.getD r 0)) = GL.getD r 0) := by rw [hgl] at hall; exact hall
          have hVb : part l m 4 < 16777216 := part_lt l m 4
          obtain ⟨V, hV⟩ : ∃ V, V = part l m 4 := ⟨_, rfl⟩
          have HVP : Hid (V = part l m 4) := hV
          rw [← hV] at hVb ⊢
          clear hV hall HV
          by_cases hp : V % 1 = 0
          · have HOK2 : Hid (∀ t, t < j + 1 → okG l q t) := fun t ht => by
              by_cases e : t = j
              · rw [e]
                unfold okG
                have hk := HK.out
                rw [show min 4 (q - 4 * j) = 4 by omega, ← hk.1]
                exact ⟨fun r hr => by rw [← HGL.out.2 r hr]; exact HALL.out r hr, by rw [← HVP.out]; exact hp⟩
              · exact HOK.out t (by omega)
            have hpi : (V : Int) % 1 = 0 := by omega
            clear hp HX HGS hcut
            go_wp2_with fail
            clear hpi
            go_loopg [5, 58] 3 (fun g v i wr => ∃ (p : Nat) (u : Value), u = v ∧ g = 3 - p ∧ p ≤ 3 ∧ i = .int .i64 p ∧ wr.ownsRow w2.heap.size 5 1 u (3 * j + p) (cells8 (dl l j ++ [V / 65536, V / 256 % 256, V % 256].take p)) ∧ Below w2.heap.size w2 wr)
            case atStart => exact ⟨0, _, rfl, rfl, by omega, rfl, by simp only [List.take_zero, List.append_nil]; exact HO.out, HB.out⟩
            case round =>
              clear HO HB
              obtain ⟨p, u, hu, rfl, hp, rfl, hO, hB⟩ := hrel
              subst hu
              by_cases hpl : p < 3
              · have hpli : (p : Int) < 3 := by omega
                obtain ⟨c, hcE⟩ : ∃ c, c = V / 256 ^ (2 - p) % 256 := ⟨_, rfl⟩
                have hcl : (c : Int) < 256 := by omega
                have HC : Hid (Calls Try.prog 15 #[.int .u32 (V : Int), .int .i64 (p : Int), .int .i64 8] wr fun e w' => e = .returned (.int .u32 (c : Int)) ∧ Below wr.heap.size wr w') := by
                  rw [hcE]; exact cut8_any V hVb p (by omega) wr
                have HE : Hid (dl l j ++ [V / 65536, V / 256 % 256, V % 256].take (p + 1) = (dl l j ++ [V / 65536, V / 256 % 256, V % 256].take p) ++ [c]) := by
                  show _ = _
                  rw [take_more hVb (by omega), ← hcE, List.append_assoc]
                have hbd : 3 * j + p + 1 ≤ 2000 := by have := HK.out; have := HN.out; omega
                clear hcE
                generalize dl l j ++ [V / 65536, V / 256 % 256, V % 256].take p = E at *
                go_wp2_with fail
                with_reducible refine Calls.mono HC.out ?_
                rintro e w1 ⟨rfl, hb⟩
                have hO1 := own_keep hO hb
                have hB1 : Below w2.heap.size w2 w1 := K.call hB hb
                clear hb hO hB HC
                go_wp2_with (at_builtin; refine wpList_append_own _ rfl _ _ 22 rfl w2.heap.size 5 i0 (.int .u8 0) 1 1 Try.underlying22 hi hz0 hz1 hz2 rfl (by decide) _ _ _ rfl (hO1.alloc _) ⟨w1.heap.size, 0, none⟩ 1 1 [.int .u8 (c : Int)] rfl rfl ?c1 ?c2 ?c3 ?c4 ?c5 ?_)
                case c1 =>
                  intro i x hx
                  match i, hx with
                  | 0, hx =>
                    simp only [List.getElem?_cons_zero, Option.some.injEq] at hx
                    subst hx
                    simp [Addr.add]
                case c2 => intro x hx; simp only [List.mem_cons, List.not_mem_nil, or_false] at hx; rw [hx]; rfl
                case c3 => unfold maxLen; omega
                case c4 => omega
                case c5 => have := hB1.size; simp; omega
                intro v' w3 hown' hgrow _
                have R1 : Below w2.heap.size w2 w3 := (K.alloc hB1 _).grown hgrow (K.alloc hB1 _).size (fun k hk => (hO1.lt k hk).1)
                have R2 : w3.ownsRow w2.heap.size 5 1 v' (3 * j + (p + 1)) (cells8 (dl l j ++ [V / 65536, V / 256 % 256, V % 256].take (p + 1))) := by
                  rw [HE.out, cells8_append]
                  exact hown'
                clear hown' hgrow hO1 hB1
                go_wp2_with fail
                go_roundg (3 - (p + 1))
                case measure => omega
                case rel => exact ⟨p + 1, _, rfl, rfl, by omega, by go_num, R2, R1⟩
              · obtain rfl : p = 3 := by omega
                have R2 : wr.ownsRow w2.heap.size 5 1 u (min (3 * (j + 1)) N) (cells8 (rowD l N (j + 1))) := by
                  have hk := HK.out
                  rw [rowD_step (S := 3) (by omega) (by omega) (by omega), show min (3 * (j + 1)) N = 3 * j + 3 by omega, ← hk.1, ← HVP.out]
                  exact hO
                clear hO hpl hp
                go_wp2_with fail
                go_roundg (Kq - (j + 1))
                case measure => have := HK.out; omega
                case rel => exact ⟨j + 1, _, rfl, rfl, by have := HK.out; omega, congrArg (Value.int .i64) (by have := HK.out; omega), R2, HOK2.out, hB⟩
          · exact absurd (Nat.mod_one V) hp
        · have HD : Hid (DecP l w2 (.returned (.tuple #[.slice none 0 0, .bool false])) w3) := HX.out j w3 (by have := HK.out; omega) (fun hh => by
            have hk := HK.out
            have h1 := hh.1 r (by omega)
            rw [← hk.1, ← HGL.out.2 r (by omega)] at h1
            exact hne h1) HB.out
          clear hne hr HX HY hcut
          go_wp2_with fail
          go_ret2
          exact HD.out
      · subst hG
        go_wp2_with fail
        with_reducible refine Calls.mono (HGS.out _) ?_
        rintro e w3 ⟨rfl, hpost⟩
        clear hc
        rcases hpost with ⟨hall, rfl⟩ | ⟨⟨r, hr, hne⟩, rfl⟩
        · rw [hgl, HV.out]
          have HALL : Hid (∀ r, r < 2 → sgn (vz (GL.getD r 0)) = GL.getD r 0) := by rw [hgl] at hall; exact hall
          have hVb : part l m 4 < 16777216 := part_lt l m 4
          obtain ⟨V, hV⟩ : ∃ V, V = part l m 4 := ⟨_, rfl⟩
          have HVP : Hid (V = part l m 4) := hV
          rw [← hV] at hVb ⊢
          clear hV hall HV
          by_cases hp : V % 65536 = 0
          · have HOK2 : Hid (∀ t, t < j + 1 → okG l q t) := fun t ht => by
              by_cases e : t = j
              · rw [e]
                unfold okG
                have hk := HK.out
                rw [show min 4 (q - 4 * j) = 2 by omega, ← hk.1]
                exact ⟨fun r hr => by rw [← HGL.out.2 r hr]; exact HALL.out r hr, by rw [← HVP.out]; exact hp⟩
              · exact HOK.out t (by omega)
            have hpi : (V : Int) % 65536 = 0 := by omega
            clear hp HX HGS hcut
            go_wp2_with fail
            clear hpi
            go_loopg [5, 58] 1 (fun g v i wr => ∃ (p : Nat) (u : Value), u = v ∧ g = 1 - p ∧ p ≤ 1 ∧ i = .int .i64 p ∧ wr.ownsRow w2.heap.size 5 1 u (3 * j + p) (cells8 (dl l j ++ [V / 65536, V / 256 % 256, V % 256].take p)) ∧ Below w2.heap.size w2 wr)
            case atStart => exact ⟨0, _, rfl, rfl, by omega, rfl, by simp only [List.take_zero, List.append_nil]; exact HO.out, HB.out⟩
            case round =>
              clear HO HB
              obtain ⟨p, u, hu, rfl, hp, rfl, hO, hB⟩ := hrel
              subst hu
              by_cases hpl : p < 1
              · have hpli : (p : Int) < 1 := by omega
                obtain ⟨c, hcE⟩ : ∃ c, c = V / 256 ^ (2 - p) % 256 := ⟨_, rfl⟩
                have hcl : (c : Int) < 256 := by omega
                have HC : Hid (Calls Try.prog 15 #[.int .u32 (V : Int), .int .i64 (p : Int), .int .i64 8] wr fun e w' => e = .returned (.int .u32 (c : Int)) ∧ Below wr.heap.size wr w') := by
                  rw [hcE]; exact cut8_any V hVb p (by omega) wr
                have HE : Hid (dl l j ++ [V / 65536, V / 256 % 256, V % 256].take (p + 1) = (dl l j ++ [V / 65536, V / 256 % 256, V % 256].take p) ++ [c]) := by
                  show _ = _
                  rw [take_more hVb (by omega), ← hcE, List.append_assoc]
                have hbd : 3 * j + p + 1 ≤ 2000 := by have := HK.out; have := HN.out; omega
                clear hcE
                generalize dl l j ++ [V / 65536, V / 256 % 256, V % 256].take p = E at *
                go_wp2_with fail
                with_reducible refine Calls.mono HC.out ?_
                rintro e w1 ⟨rfl, hb⟩
                have hO1 := own_keep hO hb
                have hB1 : Below w2.heap.size w2 w1 := K.call hB hb
                clear hb hO hB HC
                go_wp2_with (at_builtin; refine wpList_append_own _ rfl _ _ 22 rfl w2.heap.size 5 i0 (.int .u8 0) 1 1 Try.underlying22 hi hz0 hz1 hz2 rfl (by decide) _ _ _ rfl (hO1.alloc _) ⟨w1.heap.size, 0, none⟩ 1 1 [.int .u8 (c : Int)] rfl rfl ?c1 ?c2 ?c3 ?c4 ?c5 ?_)
                case c1 =>
                  intro i x hx
                  match i, hx with
                  | 0, hx =>
                    simp only [List.getElem?_cons_zero, Option.some.injEq] at hx
                    subst hx
                    simp [Addr.add]
                case c2 => intro x hx; simp only [List.mem_cons, List.not_mem_nil, or_false] at hx; rw [hx]; rfl
                case c3 => unfold maxLen; omega
                case c4 => omega
                case c5 => have := hB1.size; simp; omega
                intro v' w3 hown' hgrow _
                have R1 : Below w2.heap.size w2 w3 := (K.alloc hB1 _).grown hgrow (K.alloc hB1 _).size (fun k hk => (hO1.lt k hk).1)
                have R2 : w3.ownsRow w2.heap.size 5 1 v' (3 * j + (p + 1)) (cells8 (dl l j ++ [V / 65536, V / 256 % 256, V % 256].take (p + 1))) := by
                  rw [HE.out, cells8_append]
                  exact hown'
                clear hown' hgrow hO1 hB1
                go_wp2_with fail
                go_roundg (1 - (p + 1))
                case measure => omega
                case rel => exact ⟨p + 1, _, rfl, rfl, by omega, by go_num, R2, R1⟩
              · obtain rfl : p = 1 := by omega
                have R2 : wr.ownsRow w2.heap.size 5 1 u (min (3 * (j + 1)) N) (cells8 (rowD l N (j + 1))) := by
                  have hk := HK.out
                  rw [rowD_step (S := 1) (by omega) (by omega) (by omega), show min (3 * (j + 1)) N = 3 * j + 1 by omega, ← hk.1, ← HVP.out]
                  exact hO
                clear hO hpl hp
                go_wp2_with fail
                go_roundg (Kq - (j + 1))
                case measure => have := HK.out; omega
                case rel => exact ⟨j + 1, _, rfl, rfl, by have := HK.out; omega, congrArg (Value.int .i64) (by have := HK.out; omega), R2, HOK2.out, hB⟩
          · have HD : Hid (DecP l w2 (.returned (.tuple #[.slice none 0 0, .bool false])) w3) := HX.out j w3 (by have := HK.out; omega) (fun hh => by
              have h2 := hh.2
              have hk := HK.out
              rw [show min 4 (q - 4 * j) = 2 by omega, ← hk.1, ← HVP.out] at h2
              exact hp h2) HB.out
            have hpi : ((V : Int) % 65536 == 0) = false := beq_eq_false_iff_ne.2 (by omega)
            clear hp HX HGS hcut HY
            go_wp2_with fail
            go_ret2
            exact HD.out
        · have HD : Hid (DecP l w2 (.returned (.tuple #[.slice none 0 0, .bool false])) w3) := HX.out j w3 (by have := HK.out; omega) (fun hh => by
            have hk := HK.out
            have h1 := hh.1 r (by omega)
            rw [← hk.1, ← HGL.out.2 r (by omega)] at h1
            exact hne h1) HB.out
          clear hne hr HX HY hcut
          go_wp2_with fail
          go_ret2
          exact HD.out
      · subst hG
        go_wp2_with fail
        with_reducible refine Calls.mono (HGS.out _) ?_
        rintro e w3 ⟨rfl, hpost⟩
        clear hc
        rcases hpost with ⟨hall, rfl⟩ | ⟨⟨r, hr, hne⟩, rfl⟩
        · rw [hgl, HV.out]
          have HALL : Hid (∀ r, r < 3 → sgn (vz (GL.getD r 0)) = GL.getD r 0) := by rw [hgl] at hall; exact hall
          have hVb : part l m 4 < 16777216 := part_lt l m 4
          obtain ⟨V, hV⟩ : ∃ V, V = part l m 4 := ⟨_, rfl⟩
          have HVP : Hid (V = part l m 4) := hV
          rw [← hV] at hVb ⊢
          clear hV hall HV
          by_cases hp : V % 256 = 0
          · have HOK2 : Hid (∀ t, t < j + 1 → okG l q t) := fun t ht => by
              by_cases e : t = j
              · rw [e]
                unfold okG
                have hk := HK.out
                rw [show min 4 (q - 4 * j) = 3 by omega, ← hk.1]
                exact ⟨fun r hr => by rw [← HGL.out.2 r hr]; exact HALL.out r hr, by rw [← HVP.out]; exact hp⟩
              · exact HOK.out t (by omega)
            have hpi : (V : Int) % 256 = 0 := by omega
            clear hp HX HGS hcut
            go_wp2_with fail
            clear hpi
            go_loopg [5, 58] 2 (fun g v i wr => ∃ (p : Nat) (u : Value), u = v ∧ g = 2 - p ∧ p ≤ 2 ∧ i = .int .i64 p ∧ wr.ownsRow w2.heap.size 5 1 u (3 * j + p) (cells8 (dl l j ++ [V / 65536, V / 256 % 256, V % 256].take p)) ∧ Below w2.heap.size w2 wr)
            case atStart => exact ⟨0, _, rfl, rfl, by omega, rfl, by simp only [List.take_zero, List.append_nil]; exact HO.out, HB.out⟩
            case round =>
              clear HO HB
              obtain ⟨p, u, hu, rfl, hp, rfl, hO, hB⟩ := hrel
              subst hu
              by_cases hpl : p < 2
              · have hpli : (p : Int) < 2 := by omega
                obtain ⟨c, hcE⟩ : ∃ c, c = V / 256 ^ (2 - p) % 256 := ⟨_, rfl⟩
                have hcl : (c : Int) < 256 := by omega
                have HC : Hid (Calls Try.prog 15 #[.int .u32 (V : Int), .int .i64 (p : Int), .int .i64 8] wr fun e w' => e = .returned (.int .u32 (c : Int)) ∧ Below wr.heap.size wr w') := by
                  rw [hcE]; exact cut8_any V hVb p (by omega) wr
                have HE : Hid (dl l j ++ [V / 65536, V / 256 % 256, V % 256].take (p + 1) = (dl l j ++ [V / 65536, V / 256 % 256, V % 256].take p) ++ [c]) := by
                  show _ = _
                  rw [take_more hVb (by omega), ← hcE, List.append_assoc]
                have hbd : 3 * j + p + 1 ≤ 2000 := by have := HK.out; have := HN.out; omega
                clear hcE
                generalize dl l j ++ [V / 65536, V / 256 % 256, V % 256].take p = E at *
                go_wp2_with fail
                with_reducible refine Calls.mono HC.out ?_
                rintro e w1 ⟨rfl, hb⟩
                have hO1 := own_keep hO hb
                have hB1 : Below w2.heap.size w2 w1 := K.call hB hb
                clear hb hO hB HC
                go_wp2_with (at_builtin; refine wpList_append_own _ rfl _ _ 22 rfl w2.heap.size 5 i0 (.int .u8 0) 1 1 Try.underlying22 hi hz0 hz1 hz2 rfl (by decide) _ _ _ rfl (hO1.alloc _) ⟨w1.heap.size, 0, none⟩ 1 1 [.int .u8 (c : Int)] rfl rfl ?c1 ?c2 ?c3 ?c4 ?c5 ?_)
                case c1 =>
                  intro i x hx
                  match i, hx with
                  | 0, hx =>
                    simp only [List.getElem?_cons_zero, Option.some.injEq] at hx
                    subst hx
                    simp [Addr.add]
                case c2 => intro x hx; simp only [List.mem_cons, List.not_mem_nil, or_false] at hx; rw [hx]; rfl
                case c3 => unfold maxLen; omega
                case c4 => omega
                case c5 => have := hB1.size; simp; omega
                intro v' w3 hown' hgrow _
                have R1 : Below w2.heap.size w2 w3 := (K.alloc hB1 _).grown hgrow (K.alloc hB1 _).size (fun k hk => (hO1.lt k hk).1)
                have R2 : w3.ownsRow w2.heap.size 5 1 v' (3 * j + (p + 1)) (cells8 (dl l j ++ [V / 65536, V / 256 % 256, V % 256].take (p + 1))) := by
                  rw [HE.out, cells8_append]
                  exact hown'
                clear hown' hgrow hO1 hB1
                go_wp2_with fail
                go_roundg (2 - (p + 1))
                case measure => omega
                case rel => exact ⟨p + 1, _, rfl, rfl, by omega, by go_num, R2, R1⟩
              · obtain rfl : p = 2 := by omega
                have R2 : wr.ownsRow w2.heap.size 5 1 u (min (3 * (j + 1)) N) (cells8 (rowD l N (j + 1))) := by
                  have hk := HK.out
                  rw [rowD_step (S := 2) (by omega) (by omega) (by omega), show min (3 * (j + 1)) N = 3 * j + 2 by omega, ← hk.1, ← HVP.out]
                  exact hO
                clear hO hpl hp
                go_wp2_with fail
                go_roundg (Kq - (j + 1))
                case measure => have := HK.out; omega
                case rel => exact ⟨j + 1, _, rfl, rfl, by have := HK.out; omega, congrArg (Value.int .i64) (by have := HK.out; omega), R2, HOK2.out, hB⟩
          · have HD : Hid (DecP l w2 (.returned (.tuple #[.slice none 0 0, .bool false])) w3) := HX.out j w3 (by have := HK.out; omega) (fun hh => by
              have h2 := hh.2
              have hk := HK.out
              rw [show min 4 (q - 4 * j) = 3 by omega, ← hk.1, ← HVP.out] at h2
              exact hp h2) HB.out
            have hpi : ((V : Int) % 256 == 0) = false := beq_eq_false_iff_ne.2 (by omega)
            clear hp HX HGS hcut HY
            go_wp2_with fail
            go_ret2
            exact HD.out
        · have HD : Hid (DecP l w2 (.returned (.tuple #[.slice none 0 0, .bool false])) w3) := HX.out j w3 (by have := HK.out; omega) (fun hh => by
            have hk := HK.out
            have h1 := hh.1 r (by omega)
            rw [← hk.1, ← HGL.out.2 r (by omega)] at h1
            exact hne h1) HB.out
          clear hne hr HX HY hcut
          go_wp2_with fail
          go_ret2
          exact HD.out
    · obtain rfl : j = Kq := by have := HN.out; omega
      have hjK : min (3 * j) N = N := by have := HN.out; omega
      rw [hjK] at hO
      obtain ⟨g, cap, rfl, _, hR⟩ := own_rd (f := fun i => (((dl l j).getD i 0 : Nat) : Int)) hO (fun i hi' => by
        rw [cells8_at _ i (by unfold rowD; rw [List.length_take, dl_len]; have := HN.out; omega)]
        unfold rowD
        rw [List.getD_eq_getElem?_getD, List.getElem?_take_of_lt hi', ← List.getD_eq_getElem?_getD]) (by have := HN.out; omega)
      have hcap := own_cap hO
      have HD : Hid (DecP l w2 (.returned (.tuple #[.slice (some ⟨g, 0, none⟩) N cap, .bool true])) wr) := HY.out g cap wr hcap hB HOK.out hR.rd
      obtain ⟨m, hm⟩ : ∃ m, m = 4 * j := ⟨_, rfl⟩
      have hmi : ¬ (m : Int) < q := by have := HN.out; omega
      rw [← hm]
      clear hm hO hR hB hok hlt hj HX HY HBX
      go_wp2_with fail
      go_ret2
      exact HD.out
end Go.Proofs.Ytloboidolhpogaa
