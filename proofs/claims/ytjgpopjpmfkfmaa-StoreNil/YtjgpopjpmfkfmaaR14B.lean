/- Layer 14: the document's own Mend. -/
import Derived.Test.YtjgpopjpmfkfmaaR14A
namespace Go.Proofs.Ytjgpopjpmfkfmaa
set_option maxRecDepth 100000
open Go.RowKit Go.Maps
attribute [local go_sem ↓] Go.wp_at_zero Go.wp_at_succ

theorem ba_kp {X : Nat → Bool} {w w' : World} {g n : Nat} {f : Nat → Nat} (h : BA w (some ⟨g, 0, none⟩) n f) (hx : X g = false) (hK : Kp X w w') : BA w' (some ⟨g, 0, none⟩) n f := h.kp (fun p hp => by cases hp; exact hx) hK
/-- While the three are mended. -/
structure RmR (w wr : World) (r la na cl cn gv : Nat) (zl zn : Option Addr) (E : DM) (G G' : Nat → Bool) (v : List Nat) : Prop where
  s : RsR w wr r la na cl cn zl zn E G G'
  b : BA wr (some ⟨gv, 0, none⟩) 64 (fun i => v.getD i 0)
  x : X3 r la na gv = false
def RmQ (w wr : World) (r la na cl cn gv : Nat) (zl zn : Option Addr) (E : DM) (G : Nat → Bool) (v : List Nat) : Prop := ∃ G', RmR w wr r la na cl cn gv zl zn E G G' v
theorem RmR.grow {w wr w' : World} {r la na cl cn gv : Nat} {zl zn : Option Addr} {E : DM} {G G' : Nat → Bool} {v : List Nat} (h : RmR w wr r la na cl cn gv zl zn E G G' v) (hB : Below wr.heap.size wr w') : RmR w w' r la na cl cn gv zl zn E G G' v := ⟨h.s.grow hB, h.b.keep hB, h.x⟩
theorem RmR.next {w wr w' : World} {r la na cl cn gv : Nat} {zl zn : Option Addr} {E E' : DM} {G G' G2 : Nat → Bool} {v : List Nat} (h : RmR w wr r la na cl cn gv zl zn E G G' v) (hd : RDk w' r la na cl cn zl zn E' G2) (hK : Kp (X3 r la na) wr w') (hg : ∀ k, G2 k = true → G' k = true ∨ wr.heap.size ≤ k) : RmR w w' r la na cl cn gv zl zn E' G G2 v := ⟨h.s.next hd hK hg, ba_kp h.b h.x hK, h.x⟩
set_option maxRecDepth 100000 in
set_option maxHeartbeats 4000000 in
theorem ref_mend {w : World} {r la na cl cn : Nat} {zl zn : Option Addr} {D : DM} {G : Nat → Bool} (h : RDk w r la na cl cn zl zn D G) {a : Nat} (ha : a ≤ 1000) : Calls Try.prog 38 #[pp r, .int .i64 (a : Int)] w (RwP w r la na cl cn zl zn (D.mendD (a : Int)) G (D.mendE (a : Int))) := by
  have HD := hide h
  have HC := hide (ref_load h (a := (a : Int)) ⟨by omega, by omega⟩)
  have HA := hide ha
  clear h ha
  by_cases he : D.ldE (a : Int) = 0
  · have e1 : D.mendD (a : Int) = (md2 D a (D.three a) (D.ldB (a : Int)) 3).1 := if_pos he
    have e2 : D.mendE (a : Int) = (md2 D a (D.three a) (D.ldB (a : Int)) 3).2 := if_pos he
    rw [e1, e2]
    have HLs : Hid (sec (D.ldB (a : Int))) := by
      obtain ⟨h0, h1, h2⟩ := ld_rd he
      show sec (D.ldB (a : Int))
      rw [ldB_of he]
      exact vl_sec (rdB_sec HD.out.ok h0) (rdB_sec HD.out.ok h2)
    have HI := hide (ld_inv he)
    have HT : Hid (∀ q, q < 3 → D.three a q = D.cur (a + q)) := fun q hq => three_cur he hq
    rw [he] at HC
    obtain ⟨v, hv⟩ : ∃ v, v = D.ldB (a : Int) := ⟨_, rfl⟩
    obtain ⟨B, hB⟩ : ∃ B, B = D.three a := ⟨_, rfl⟩
    rw [← hv] at HC HLs
    rw [← hB] at HT
    rw [← hv, ← hB]
    clear e1 e2 he hv hB
    go_enter Try.func38, Try.ntmps38
    go_upto_region 4 with (go_at_call 39; refine Calls.mono HC.out ?_; rintro e W1 ⟨v1, rfl, hB1, hv1⟩; obtain ⟨gv, cv, rfl, hba, hxv⟩ := (hv1.resolve_left (fun h => by have := HLs.out.1; rw [h.1] at this; cases this)).2.ba HLs.out; have HR1 : Hid (RmR w W1 r la na cl cn gv zl zn D G G v) := ⟨⟨HD.out.keep hB1, Kp.of hB1, fun k hk => Or.inl hk⟩, hba, hxv⟩; clear hB1 hv1 hba hxv)
    go_wp2_with fail
    go_loopg [7] 3 (fun g' s7 wr => ∃ i : Nat, g' = 3 - i ∧ i ≤ 3 ∧ s7 = .int .i64 (i : Int) ∧ (md2 D a B v i).2 = 0 ∧ RmQ w wr r la na cl cn gv zl zn (md2 D a B v i).1 G v)
    case atStart => exact ⟨0, rfl, by omega, rfl, rfl, G, HR1.out⟩
    case round =>
      clear HR1
      obtain ⟨i, rfl, hi3, rfl, hz, G', hR⟩ := hrel
      have HR := hide hR
      have HZ := hide hz
      clear hR hz
      by_cases hlt : i < 3
      · have hlt' : (i : Int) < 3 := by omega
        have hw : wrap64 ((a : Int) + (i : Int)) = (a : Int) + (i : Int) := by have := HA.out; unfold wrap64; omega
        have HRd : Hid ((md2 D a B v i).1.rdE ((a : Int) + (i : Int)) = 0 ∧ (md2 D a B v i).1.rdB ((a : Int) + (i : Int)) = B i) := by
          obtain ⟨h1, h2, h3⟩ := md2_ok HI.out.1 HT.out i (by omega) HZ.out
          have c : ((a : Int) + (i : Int)) = ((a + i : Nat) : Int) := by omega
          obtain ⟨r1, r2⟩ := rd_up h1 (i := a + i) (by rw [h2]; have := HI.out.2; omega)
          rw [c]
          exact ⟨r1, by rw [r2, h3, if_neg (by omega)]; exact (HT.out i hlt).symm⟩
        have HCR := hide (ref_got HR.out.s.d HRd.out.1)
        rw [HRd.out.2] at HCR
        have HBs : Hid (sec (B i)) := by have := rdB_sec HR.out.s.d.ok HRd.out.1; rw [HRd.out.2] at this; exact this
        obtain ⟨E, hE⟩ : ∃ E, E = (md2 D a B v i).1 := ⟨_, rfl⟩
        have HEq := hide hE
        rw [← hE] at HR
        clear hE HRd
        go_upto_region 10 with (go_at_call 41; refine Calls.mono HCR.out ?_; rintro e W2 ⟨g1, c1, rfl, rfl, hs⟩; have HS1 := hide hs; clear hs)
        have HCS : Hid (Calls Try.prog 32 #[.slice (some ⟨g1, 0, none⟩) 64 c1, .slice (some ⟨gv, 0, none⟩) 64 cv] W2 fun e w' => e = .returned (.bool (decide (B i = v))) ∧ Below W2.heap.size W2 w') := by
          obtain ⟨g1', c1', q1, b1, _⟩ := HS1.out.ba HBs.out
          cases q1
          have h := same_fl (c := c1) (c2 := cv) b1 HR.out.b (by omega)
          rw [fl_of HBs.out.1, fl_of HLs.out.1] at h
          exact h
        by_cases hs : B i = v
        · rw [decide_eq_true hs] at HCS
          have HN : Hid (md2 D a B v (i + 1) = md2 D a B v i) := (if_pos HZ.out).trans (if_pos hs)
          clear hs
          go_wp2_with (go_at_call 32; refine Calls.mono HCS.out ?_; rintro e W3 ⟨rfl, hB3⟩; have HR3 := hide (HR.out.grow hB3); clear hB3)
          go_roundg (3 - (i + 1))
          case measure => omega
          case rel => exact ⟨i + 1, rfl, by omega, by simp, by rw [HN.out]; exact HZ.out, G', by rw [HN.out, ← HEq.out]; exact HR3.out⟩
        · rw [decide_eq_false hs] at HCS
          have HN : Hid (md2 D a B v (i + 1) = (E.ws ((a : Int) + (i : Int)) v, E.wsE ((a : Int) + (i : Int)) v)) := by
            have : md2 D a B v (i + 1) = ((md2 D a B v i).1.ws ((a : Int) + (i : Int)) v, (md2 D a B v i).1.wsE ((a : Int) + (i : Int)) v) := (if_pos HZ.out).trans (if_neg hs)
            show _ = _
            rw [this, ← HEq.out]
          have HV := hide (fl_of HLs.out.1)
          clear hs
          go_upto_region 11 with (go_at_call 32; refine Calls.mono HCS.out ?_; rintro e W3 ⟨rfl, hB3⟩; have HR3 := hide (HR.out.grow hB3); clear hB3)
          clear HCS HS1 HR
          have HCW := hide (ref_write (c := cv) HR3.out.s.d ((a : Int) + (i : Int)) HR3.out.b (fun _ p hp => by cases hp; exact HR3.out.x))
          rw [HV.out] at HCW
          by_cases he : E.wrE ((a : Int) + (i : Int)) 64 = 0
          · have e1 : E.ws ((a : Int) + (i : Int)) v = (E.wr ((a : Int) + (i : Int)) v).sy := if_pos (by rw [HLs.out.1]; exact he)
            have e2 : E.wsE ((a : Int) + (i : Int)) v = (E.wr ((a : Int) + (i : Int)) v).syE := if_pos (by rw [HLs.out.1]; exact he)
            rw [e1, e2] at HN
            rw [he] at HCW
            clear e1 e2 he
            by_cases hs : (E.wr ((a : Int) + (i : Int)) v).syE = 0
            · have HS := hide hs
              clear hs
              go_wp2_with (first
                | (go_at_call 23; refine Calls.mono HCW.out ?_; rintro e W4 ⟨rfl, G2, hd2, hK2, hg2⟩; have HR4 := hide (HR3.out.next hd2 hK2 hg2); clear hd2 hK2 hg2)
                | (go_at_call 52; refine Calls.mono (ref_sync HR4.out.s.d) ?_; rw [HS.out]; rintro e W5 ⟨rfl, G3, hd3, hK3, hg3⟩; have HR5 := hide (HR4.out.next hd3 hK3 hg3); clear hd3 hK3 hg3))
              go_roundg (3 - (i + 1))
              case measure => omega
              case rel => exact ⟨i + 1, rfl, by omega, by simp, by rw [HN.out]; exact HS.out, G3, by rw [HN.out]; exact HR5.out⟩
            · have HS := hide hs
              have hne : ((E.wr ((a : Int) + (i : Int)) v).syE != 0) = true := by simp [hs]
              have hne' : ((E.wr ((a : Int) + (i : Int)) v).syE == 0) = false := by simp [hs]
              clear hs
              go_wp2_with (first
                | (go_at_call 23; refine Calls.mono HCW.out ?_; rintro e W4 ⟨rfl, G2, hd2, hK2, hg2⟩; have HR4 := hide (HR3.out.next hd2 hK2 hg2); clear hd2 hK2 hg2)
                | (go_at_call 52; refine Calls.mono (ref_sync HR4.out.s.d) ?_; rintro e W5 ⟨rfl, G3, hd3, hK3, hg3⟩; have HR5 := hide (HR4.out.next hd3 hK3 hg3); clear hd3 hK3 hg3))
              go_ret
              have e3 : md2 D a B v 3 = md2 D a B v (i + 1) := md2_err (by rw [HN.out]; exact HS.out) 3 (by omega)
              rw [HN.out] at e3
              rw [e3]
              exact HR5.out.s.post rfl
          · have e1 : E.ws ((a : Int) + (i : Int)) v = E.wr ((a : Int) + (i : Int)) v := if_neg (by rw [HLs.out.1]; exact he)
            have e2 : E.wsE ((a : Int) + (i : Int)) v = E.wrE ((a : Int) + (i : Int)) 64 := (if_neg (by rw [HLs.out.1]; exact he)).trans (by rw [HLs.out.1])
            rw [e1, e2] at HN
            have HE := hide he
            have hne : (E.wrE ((a : Int) + (i : Int)) 64 != 0) = true := by simp [he]
            have hne' : (E.wrE ((a : Int) + (i : Int)) 64 == 0) = false := by simp [he]
            clear e1 e2 he
            go_wp2_with (first
              | (go_at_call 23; refine Calls.mono HCW.out ?_; rintro e W4 ⟨rfl, G2, hd2, hK2, hg2⟩; have HR4 := hide (HR3.out.next hd2 hK2 hg2); clear hd2 hK2 hg2))
            go_ret
            have e3 : md2 D a B v 3 = md2 D a B v (i + 1) := md2_err (by rw [HN.out]; exact HE.out) 3 (by omega)
            rw [HN.out] at e3
            rw [e3]
            exact HR4.out.s.post rfl
      · obtain rfl : i = 3 := by omega
        go_wp2_with fail
        go_ret
        exact HR.out.s.post (by rw [HZ.out]; rfl)
  · have e1 : D.mendD (a : Int) = D := if_neg he
    have e2 : D.mendE (a : Int) = D.ldE (a : Int) := if_neg he
    rw [e1, e2]
    have hne : (D.ldE (a : Int) != 0) = true := by simp [he]
    have hne' : (D.ldE (a : Int) == 0) = false := by simp [he]
    clear e1 e2 he
    go_enter Try.func38, Try.ntmps38
    go_wp2_with (go_at_call 39; refine Calls.mono HC.out ?_; rintro e W1 ⟨v1, rfl, hB1, hv1⟩; have HB1 := hide hB1; clear hB1 hv1)
    go_ret
    exact ⟨rfl, G, HD.out.keep HB1.out, Kp.of HB1.out, fun k hk => Or.inl hk⟩
end Go.Proofs.Ytjgpopjpmfkfmaa
