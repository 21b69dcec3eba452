/- EdBytes, over what Encode and Decode answer. What the program's own PutLittle answers. Walks by states: bits of bytes and words. -/
import Derived.Test.YtolehamdaceikaaDoorB22
import Derived.Test.YtolehamdaceikaaDoorB24
import Derived.Test.YtolehamdaceikaaDoorB23
import Derived.Deep.LoopGhost
import Derived.Deep.DeepCutAuto
import Derived.Deep.RegionWith
import Derived.OwnWalk
namespace Go.Proofs.YtolehamdaceikaaDoor
open Go.RowKit

theorem cE22 (vs : List Value) : ∀ w, (callFunc 22 vs.toArray).run Tryd.prog w = .ok (.enter 22 vs.toArray) w := callFunc_enter Tryd.func22 (by kernel_rfl) (by kernel_rfl) _
theorem cE24 (vs : List Value) : ∀ w, (callFunc 24 vs.toArray).run Tryd.prog w = .ok (.enter 24 vs.toArray) w := callFunc_enter Tryd.func24 (by kernel_rfl) (by kernel_rfl) _
/-- Some bytes that a call made. -/
def Made (m : Nat) (e : Nat → Nat) (r : Value) (w1 w2 : World) : Prop := ∃ g c, r = .slice (some ⟨g, 0, none⟩) m c ∧ w1.heap.size ≤ g ∧ BA w2 (some ⟨g, 0, none⟩) m e ∧ m ≤ c
theorem same_ba {w : World} {a b : Option Addr} {n c d : Nat} {f : Nat → Nat} (hn : n ≤ 1000) (h1 : BA w a n f) (h2 : BA w b n f) : Calls Tryd.prog 25 [.slice a n c, .slice b n d].toArray w fun e w' => e = .returned (.bool true) ∧ Below w.heap.size w w' := by
  rcases h1.at_ with rfl | ⟨b1, o1, rfl, r1⟩
  · exact Calls.mono (same_none a b c d w) (fun e w' ⟨he, hw⟩ => ⟨he, by rw [hw]; exact Below.refl _ _⟩)
  · rcases h2.at_ with rfl | ⟨b2, o2, rfl, r2⟩
    · exact Calls.mono (same_none _ b c d w) (fun e w' ⟨he, hw⟩ => ⟨he, by rw [hw]; exact Below.refl _ _⟩)
    · have h := same_any (c := c) (c2 := d) (by omega) r1 r2
      rw [same_yes (fun i _ => rfl)] at h
      exact h
theorem bOne : Tryd.prog.built 24 [(0, .int .u64 1), (1, .int .u64 0), (2, .int .u64 0), (3, .int .u64 0)] = some (gc (Ep.o m2).y).toArray := by kernel_rfl
theorem eq_pcE_o (w : World) : (Op.equalIn 10000 26 (.agg (pcE (Ep.o m2)).toArray) (.agg (nz ++ gc (Ep.o m2).y ++ [Value.bool false]).toArray)).run Tryd.prog w = .ok true w := by
  rw [nz_gc]
  exact eq_pcE_same (Ep.o m2) w
theorem t_neq_same {P : Program} (ty : TypeId) (hu : P.underlying ty = some .bool) (a : Bool) (w : World) : (binOp .neq ty (.bool a) (.bool a)).run P w = .ok (.bool false) w := by
  have h : (Op.equalIn 10000 ty (.bool a) (.bool a)).run P w = .ok (a == a) w := run_equalIn_bool' (P := P) w 9999 ty a a hu
  have e : (a == a) = true := by cases a <;> rfl
  rw [e] at h
  simp only [binOp, Op.equal, show Op.maxDepth = 10000 from rfl, Sem.run_bind, h, Result.andThen_ok, Sem.run_pure, Bool.not_true]
set_option maxRecDepth 100000 in
set_option maxHeartbeats 8000000 in
theorem ebytes_true_true {w0 : World} (hT : Tab w0) {a0 : Ep m2} (HFM : ∀ {w : World}, Tab w → Calls Tryd.prog 11 [.agg (pcE (a0)).toArray].toArray w fun e w' => e = .returned (.bool true) ∧ Below w.heap.size w w') {A : Option Addr} {n c : Nat} {f : Nat → Nat} (hba : BA w0 A n f) (hn : n ≤ 100) (D : Ep m2) {eb : Nat → Nat}
    (CD1 : ∀ w, (Bs.of w0).kp w → Calls Tryd.prog 22 [.slice A n c].toArray w fun e w' => e = .returned (.tuple [.agg (pcE D).toArray, .bool true].toArray) ∧ Below w.heap.size w w')
    (CD2 : ∀ w, (Bs.of w0).kp w → Calls Tryd.prog 23 [.slice A n c].toArray w fun e w' => e = .returned (.tuple [.agg (pcE D).toArray, .bool true].toArray) ∧ Below w.heap.size w w')
    (CE1 : ∀ w, (Bs.of w0).kp w → Calls Tryd.prog 24 [.agg (pcE (a0)).toArray].toArray w fun e w' => ∃ r, e = .returned r ∧ Made 32 eb r w w' ∧ Below w.heap.size w w')
    (CE2 : ∀ w, (Bs.of w0).kp w → Calls Tryd.prog 26 [.agg (pcE (a0)).toArray].toArray w fun e w' => ∃ r, e = .returned r ∧ Made 32 eb r w w' ∧ Below w.heap.size w w')
    (CD3 : ∀ w g d, (Bs.of w0).kp w → BA w (some ⟨g, 0, none⟩) 32 eb → 32 ≤ d → Calls Tryd.prog 22 [.slice (some ⟨g, 0, none⟩) 32 d].toArray w fun e w' => e = .returned (.tuple [.agg (pcE a0).toArray, .bool true].toArray) ∧ Below w.heap.size w w')
    (CE3 : ∀ w, (Bs.of w0).kp w → Calls Tryd.prog 24 [.agg (pcE D).toArray].toArray w fun e w' => ∃ r, e = .returned r ∧ Made n f r w w' ∧ Below w.heap.size w w') : Calls Tryd.prog 8 [.agg (pcE (a0)).toArray, .slice A n c].toArray w0 fun e w' => e = .returned (.bool true) ∧ Below w0.heap.size w0 w' := by
  have KK : ∀ w2, (Bs.of w0).kp w2 → (Bs.of w0).kp w2 := fun _ h => h
  have HX : ∀ k, (Bs.of w0).X k = true → k < (Bs.of w0).w.heap.size := fun k hk => by cases hk
  have hn1000 : n ≤ 1000 := by omega
  refine enter (args := [.agg (pcE (a0)).toArray, Value.slice (A) (n) (c)]) Tryd.func8 rfl 83 rfl (lk rfl) (fun a h => ?_)
  refine go_region h hm [eN 2 (pcE (a0)), eS 4 (.val (Value.bool false))] (by kernel_rfl) ⟨
    fun L u => u_box u (gd0 rfl) 26 (.tmp 0) rfl 2 rfl rfl rfl _ rfl,
    fun L u => u_move u (gd0 rfl) 4 rfl (.const (.bool false)) (Or.inr rfl) rfl,
    trivial⟩ [(1, .val (Value.slice (A) (n) (c))), (2, .ptr 2 0)] [(2, pcE (a0))] ⟨rfl, rfl, trivial⟩ ⟨rfl, trivial⟩ rfl (fun a w h => ?_)
  refine wp_seq ?_
  refine go_region h hm [eS 12 (.val (Value.bool true)), eS 13 (.val (Value.bool false)), eS 14 (.val (Value.bool false)), eS 15 (.val (Value.slice (A) (n) (c))), eS 16 (.val (Value.int .i64 ((n : Nat) : Int))), eS 17 (.val (Value.bool false)), eS 18 (.val (Value.bool false))] (by kernel_rfl) ⟨
    fun L u => u_call u (gd0 rfl) 12 rfl 9 #[] #[] rfl [] rfl (cE9 _) (Value.bool true) (fun w hb => awakeE_any (hT.keep (Bs.kp_of (KK _ hb)))),
    fun L u => u_not u (gd0 rfl) 13 rfl 4 (.tmp 12) rfl rfl _ rfl,
    fun L u => u_move u (gd0 rfl) 14 rfl (.tmp 13) (Or.inl rfl) rfl,
    fun L u => u_move u (gd1 u 2 false rfl 14 rfl (lk rfl) rfl) 15 rfl (.tmp 1) (Or.inl rfl) rfl,
    fun L u => u_lenV u (gd1 u 2 false rfl 14 rfl (lk rfl) rfl) 16 rfl (.tmp 15) 43 rfl rfl Tryd.underlying43,
    fun L u => u_bin u (gd1 u 2 false rfl 14 rfl (lk rfl) rfl) 17 rfl .gtr 3 3 (.tmp 16) (.const (.int .i64 100)) rfl rfl rfl (eqg_int _ _ _ _ _ _ _ _) (Value.bool false) (no_of (fun w => i_gtr _ _ _ _ w) (by omega)),
    fun L u => u_pick u (gd0 rfl) 18 rfl (.tmp 14) (.const (.bool true)) (.tmp 17) rfl rfl rfl rfl _ rfl,
    trivial⟩ [(1, .val (Value.slice (A) (n) (c))), (2, .ptr 2 0), (18, .val (Value.bool false))] [(2, pcE (a0))] ⟨rfl, rfl, rfl, trivial⟩ ⟨rfl, trivial⟩ rfl (fun a w h => ?_)
  refine go_cond h false rfl (fun ht => ?_) (fun hf => ?_)
  case refine_1 => cases ht
  refine wp_skip ?_
  refine then_norm ?_
  refine go_region h hm [eS 21 (.val (Value.slice (A) (n) (c))), eS 22 (.val (.tuple [.agg (pcE (D)).toArray, Value.bool true].toArray)), eS 20 (.val (.tuple [.agg (pcE (D)).toArray, Value.bool true].toArray)), eS 23 (.val (.agg (pcE (D)).toArray)), eS 24 (.val (Value.bool true)), eN 5 (nz ++ nz ++ [Value.bool false]), eM 5 (pcE (D)), eS 6 (.val (Value.bool true))] (by kernel_rfl) ⟨
    fun L u => u_move u (gd0 rfl) 21 rfl (.tmp 1) (Or.inl rfl) rfl,
    fun L u => u_call u (gd0 rfl) 22 rfl 22 #[(.tmp 21)] #[43] rfl [Value.slice (A) (n) (c)] rfl (cE22 _) (.tuple [.agg (pcE (D)).toArray, Value.bool true].toArray) (fun w hb => CD1 _ (KK _ hb)),
    fun L u => u_move u (gd0 rfl) 20 rfl (.tmp 22) (Or.inl rfl) rfl,
    fun L u => u_part u (gd0 rfl) 23 rfl (.tmp 20) 0 rfl (vs := [.agg (pcE (D)).toArray, Value.bool true]) rfl _ rfl,
    fun L u => u_part u (gd0 rfl) 24 rfl (.tmp 20) 1 rfl (vs := [.agg (pcE (D)).toArray, Value.bool true]) rfl _ rfl,
    fun L u => u_alloc u (gd0 rfl) 26 rfl 5 rfl rfl z26 _ rfl,
    fun L u => u_store u (gd0 rfl) 26 (.tmp 5) (.tmp 23) rfl rfl rfl (vs := pcE (D)) rfl rfl i26 (lk rfl) rfl _ rfl,
    fun L u => u_move u (gd0 rfl) 6 rfl (.tmp 24) (Or.inr rfl) rfl,
    trivial⟩ [(1, .val (Value.slice (A) (n) (c))), (2, .ptr 2 0), (5, .ptr 5 0), (6, .val (Value.bool true))] [(2, pcE (a0)), (5, pcE (D))] ⟨rfl, rfl, rfl, rfl, trivial⟩ ⟨rfl, rfl, trivial⟩ rfl (fun a w h => ?_)
  refine go_region h hm [eS 26 (.val (Value.slice (A) (n) (c))), eS 27 (.val (.tuple [.agg (pcE (D)).toArray, Value.bool true].toArray)), eS 25 (.val (.tuple [.agg (pcE (D)).toArray, Value.bool true].toArray)), eS 28 (.val (.agg (pcE (D)).toArray)), eS 29 (.val (Value.bool true)), eN 7 (nz ++ nz ++ [Value.bool false]), eM 7 (pcE (D)), eS 8 (.val (Value.bool true))] (by kernel_rfl) ⟨
    fun L u => u_move u (gd0 rfl) 26 rfl (.tmp 1) (Or.inl rfl) rfl,
    fun L u => u_call u (gd0 rfl) 27 rfl 23 #[(.tmp 26)] #[43] rfl [Value.slice (A) (n) (c)] rfl (cE23 _) (.tuple [.agg (pcE (D)).toArray, Value.bool true].toArray) (fun w hb => CD2 _ (KK _ hb)),
    fun L u => u_move u (gd0 rfl) 25 rfl (.tmp 27) (Or.inl rfl) rfl,
    fun L u => u_part u (gd0 rfl) 28 rfl (.tmp 25) 0 rfl (vs := [.agg (pcE (D)).toArray, Value.bool true]) rfl _ rfl,
    fun L u => u_part u (gd0 rfl) 29 rfl (.tmp 25) 1 rfl (vs := [.agg (pcE (D)).toArray, Value.bool true]) rfl _ rfl,
    fun L u => u_alloc u (gd0 rfl) 26 rfl 7 rfl rfl z26 _ rfl,
    fun L u => u_store u (gd0 rfl) 26 (.tmp 7) (.tmp 28) rfl rfl rfl (vs := pcE (D)) rfl rfl i26 (lk rfl) rfl _ rfl,
    fun L u => u_move u (gd0 rfl) 8 rfl (.tmp 29) (Or.inr rfl) rfl,
    trivial⟩ [(1, .val (Value.slice (A) (n) (c))), (2, .ptr 2 0), (5, .ptr 5 0), (6, .val (Value.bool true)), (7, .ptr 7 0), (8, .val (Value.bool true))] [(2, pcE (a0)), (5, pcE (D)), (7, pcE (D))] ⟨rfl, rfl, rfl, rfl, rfl, rfl, trivial⟩ ⟨rfl, rfl, rfl, trivial⟩ rfl (fun a w h => ?_)
  refine wp_seq ?_
  refine sq_begin [0, 1, 2] rfl ?_
  refine sq_step h (i := 0) rfl (u_load (xs := []) (up_seq (i := 0) (by kernel_rfl) rfl) (gd0 rfl) 30 rfl 26 (.tmp 2) rfl rfl rfl Tryd.underlying26 rfl i26 (lk rfl) _ rfl) (fun a w h => ?_)
  refine sq_call h HX (i := 1) rfl (gq0 rfl) 31 rfl 24 #[(.tmp 30)] #[26] rfl [.agg (pcE (a0)).toArray] rfl (cE24 _) (fun r w1 w2 => Made 32 eb r w1 w2) (fun hb => Calls.mono (CE1 _ (KK _ hb)) (fun _ _ ⟨r, h1, h2, h3⟩ => ⟨r, h1, h2, h3⟩)) (fun r a w W2 hR KW HN HX2 hw h => ?_)
  obtain ⟨g1, c1, rfl, hge1, hB1, hc1⟩ := hR
  have HG1 : ∀ w2, W2.kp w2 → BA w2 (some ⟨g1, 0, none⟩) 32 eb := fun w2 h2 => BA.re hw h2 hB1 (fun p hp => by cases hp; exact HN _ hge1)
  replace KK : ∀ w2, W2.kp w2 → (Bs.of w0).kp w2 := fun w2 h2 => KK w2 (KW w2 h2)
  replace HX := HX2
  clear KW HN HX2 hw hB1 hge1
  replace h := h.keep [(1, .val (Value.slice (A) (n) (c))), (2, .ptr 2 0), (5, .ptr 5 0), (6, .val (Value.bool true)), (7, .ptr 7 0), (8, .val (Value.bool true)), (30, .val (.agg (pcE (a0)).toArray)), (31, .val (Value.slice (some ⟨g1, 0, none⟩) (32) (c1)))] [(2, pcE (a0)), (5, pcE (D)), (7, pcE (D))] ⟨rfl, rfl, rfl, rfl, rfl, rfl, rfl, rfl, trivial⟩ ⟨rfl, rfl, rfl, trivial⟩ rfl
  refine sq_step h (i := 2) rfl (u_move (xs := []) (up_seq (i := 2) (by kernel_rfl) rfl) (gd0 rfl) 9 rfl (.tmp 31) (Or.inr rfl) rfl) (fun a w h => ?_)
  replace h := h.keep [(1, .val (Value.slice (A) (n) (c))), (2, .ptr 2 0), (5, .ptr 5 0), (6, .val (Value.bool true)), (7, .ptr 7 0), (8, .val (Value.bool true)), (9, .val (Value.slice (some ⟨g1, 0, none⟩) (32) (c1)))] [(2, pcE (a0)), (5, pcE (D)), (7, pcE (D))] ⟨rfl, rfl, rfl, rfl, rfl, rfl, rfl, trivial⟩ ⟨rfl, rfl, rfl, trivial⟩ rfl
  refine sq_end ?_
  refine then_norm ?_
  refine go_region h hm [eS 33 (.val (Value.slice (some ⟨g1, 0, none⟩) (32) (c1))), eS 34 (.val (.tuple [.agg (pcE (a0)).toArray, Value.bool true].toArray)), eS 32 (.val (.tuple [.agg (pcE (a0)).toArray, Value.bool true].toArray)), eS 35 (.val (.agg (pcE (a0)).toArray)), eS 36 (.val (Value.bool true)), eN 10 (nz ++ nz ++ [Value.bool false]), eM 10 (pcE (a0)), eS 11 (.val (Value.bool true))] (by kernel_rfl) ⟨
    fun L u => u_move u (gd0 rfl) 33 rfl (.tmp 9) (Or.inl rfl) rfl,
    fun L u => u_call u (gd0 rfl) 34 rfl 22 #[(.tmp 33)] #[43] rfl [Value.slice (some ⟨g1, 0, none⟩) (32) (c1)] rfl (cE22 _) (.tuple [.agg (pcE (a0)).toArray, Value.bool true].toArray) (fun w hb => CD3 _ _ _ (KK _ hb) (HG1 _ hb) hc1),
    fun L u => u_move u (gd0 rfl) 32 rfl (.tmp 34) (Or.inl rfl) rfl,
    fun L u => u_part u (gd0 rfl) 35 rfl (.tmp 32) 0 rfl (vs := [.agg (pcE (a0)).toArray, Value.bool true]) rfl _ rfl,
    fun L u => u_part u (gd0 rfl) 36 rfl (.tmp 32) 1 rfl (vs := [.agg (pcE (a0)).toArray, Value.bool true]) rfl _ rfl,
    fun L u => u_alloc u (gd0 rfl) 26 rfl 10 rfl rfl z26 _ rfl,
    fun L u => u_store u (gd0 rfl) 26 (.tmp 10) (.tmp 35) rfl rfl rfl (vs := pcE (a0)) rfl rfl i26 (lk rfl) rfl _ rfl,
    fun L u => u_move u (gd0 rfl) 11 rfl (.tmp 36) (Or.inr rfl) rfl,
    trivial⟩ [(1, .val (Value.slice (A) (n) (c))), (2, .ptr 2 0), (5, .ptr 5 0), (6, .val (Value.bool true)), (7, .ptr 7 0), (8, .val (Value.bool true)), (9, .val (Value.slice (some ⟨g1, 0, none⟩) (32) (c1))), (10, .ptr 10 0), (11, .val (Value.bool true))] [(2, pcE (a0)), (5, pcE (D)), (7, pcE (D)), (10, pcE (a0))] ⟨rfl, rfl, rfl, rfl, rfl, rfl, rfl, rfl, rfl, trivial⟩ ⟨rfl, rfl, rfl, rfl, trivial⟩ rfl (fun a w h => ?_)
  refine wp_seq ?_
  refine wp_seq ?_
  refine sq_begin [0, 1, 2, 3, 4, 5, 6, 7, 8, 9, 10, 11, 12, 13, 14, 15, 16, 17, 18, 19, 20, 21, 22, 23, 24] rfl ?_
  refine sq_step h (i := 0) rfl (u_load (xs := []) (up_seq (i := 0) (by kernel_rfl) rfl) (gd0 rfl) 37 rfl 26 (.tmp 5) rfl rfl rfl Tryd.underlying26 rfl i26 (lk rfl) _ rfl) (fun a w h => ?_)
  refine sq_step h (i := 1) rfl (u_load (xs := []) (up_seq (i := 1) (by kernel_rfl) rfl) (gd0 rfl) 38 rfl 26 (.tmp 7) rfl rfl rfl Tryd.underlying26 rfl i26 (lk rfl) _ rfl) (fun a w h => ?_)
  refine sq_step h (i := 2) rfl (u_neq (xs := []) (up_seq (i := 2) (by kernel_rfl) rfl) (gd0 rfl) 39 rfl 26 26 (.tmp 37) (.tmp 38) rfl rfl rfl Tryd.eqGuardType26 (true) (fun w => eq_pcE_same _ w)) (fun a w h => ?_)
  refine sq_step h (i := 3) rfl (u_move (xs := []) (up_seq (i := 3) (by kernel_rfl) rfl) (gd0 rfl) 40 rfl (.tmp 39) (Or.inl rfl) rfl) (fun a w h => ?_)
  refine sq_step h (i := 4) rfl (u_move (xs := []) (up_seq (i := 4) (by kernel_rfl) rfl) (gd1 (xs := []) (up_seq (i := 4) (by kernel_rfl) rfl) 3 false rfl 40 rfl (lk rfl) rfl) 41 rfl (.tmp 6) (Or.inl rfl) rfl) (fun a w h => ?_)
  refine sq_step h (i := 5) rfl (u_move (xs := []) (up_seq (i := 5) (by kernel_rfl) rfl) (gd1 (xs := []) (up_seq (i := 5) (by kernel_rfl) rfl) 3 false rfl 40 rfl (lk rfl) rfl) 42 rfl (.tmp 8) (Or.inl rfl) rfl) (fun a w h => ?_)
  refine sq_step h (i := 6) rfl (u_bin (xs := []) (up_seq (i := 6) (by kernel_rfl) rfl) (gd1 (xs := []) (up_seq (i := 6) (by kernel_rfl) rfl) 3 false rfl 40 rfl (lk rfl) rfl) 43 rfl .neq 4 4 (.tmp 41) (.tmp 42) rfl rfl rfl (eqg_bool _ _ _ _ _ _) (Value.bool false) (t_neq_same _ Tryd.underlying4 _)) (fun a w h => ?_)
  refine sq_step h (i := 7) rfl (u_pick (xs := []) (up_seq (i := 7) (by kernel_rfl) rfl) (gd0 rfl) 44 rfl (.tmp 40) (.const (.bool true)) (.tmp 43) rfl rfl rfl rfl _ rfl) (fun a w h => ?_)
  refine sq_step h (i := 8) rfl (u_move (xs := []) (up_seq (i := 8) (by kernel_rfl) rfl) (gd0 rfl) 45 rfl (.tmp 44) (Or.inl rfl) rfl) (fun a w h => ?_)
  refine sq_step h (i := 9) rfl (u_move (xs := []) (up_seq (i := 9) (by kernel_rfl) rfl) (gd1 (xs := []) (up_seq (i := 9) (by kernel_rfl) rfl) 8 false rfl 45 rfl (lk rfl) rfl) 46 rfl (.tmp 9) (Or.inl rfl) rfl) (fun a w h => ?_)
  refine sq_step h (i := 10) rfl (u_load (xs := []) (up_seq (i := 10) (by kernel_rfl) rfl) (gd1 (xs := []) (up_seq (i := 10) (by kernel_rfl) rfl) 8 false rfl 45 rfl (lk rfl) rfl) 47 rfl 26 (.tmp 2) rfl rfl rfl Tryd.underlying26 rfl i26 (lk rfl) _ rfl) (fun a w h => ?_)
  refine sq_call h HX (i := 11) rfl (gq1 8 false rfl rfl) 48 rfl 26 #[(.tmp 47)] #[26] rfl [.agg (pcE (a0)).toArray] rfl (cE26 _) (fun r w1 w2 => Made 32 eb r w1 w2) (fun hb => Calls.mono (CE2 _ (KK _ hb)) (fun _ _ ⟨r, h1, h2, h3⟩ => ⟨r, h1, h2, h3⟩)) (fun r a w W2 hR KW HN HX2 hw h => ?_)
  obtain ⟨g2, c2, rfl, hge2, hB2, hc2⟩ := hR
  have HG2 : ∀ w2, W2.kp w2 → BA w2 (some ⟨g2, 0, none⟩) 32 eb := fun w2 h2 => BA.re hw h2 hB2 (fun p hp => by cases hp; exact HN _ hge2)
  replace HG1 : ∀ w2, W2.kp w2 → BA w2 (some ⟨g1, 0, none⟩) 32 eb := fun w2 h2 => HG1 w2 (KW w2 h2)
  replace KK : ∀ w2, W2.kp w2 → (Bs.of w0).kp w2 := fun w2 h2 => KK w2 (KW w2 h2)
  replace HX := HX2
  clear KW HN HX2 hw hB2 hge2
  replace h := h.keep [(1, .val (Value.slice (A) (n) (c))), (2, .ptr 2 0), (5, .ptr 5 0), (6, .val (Value.bool true)), (7, .ptr 7 0), (8, .val (Value.bool true)), (9, .val (Value.slice (some ⟨g1, 0, none⟩) (32) (c1))), (10, .ptr 10 0), (11, .val (Value.bool true)), (37, .val (.agg (pcE (D)).toArray)), (38, .val (.agg (pcE (D)).toArray)), (39, .val (Value.bool false)), (40, .val (Value.bool false)), (41, .val (Value.bool true)), (42, .val (Value.bool true)), (43, .val (Value.bool false)), (44, .val (Value.bool false)), (45, .val (Value.bool false)), (46, .val (Value.slice (some ⟨g1, 0, none⟩) (32) (c1))), (47, .val (.agg (pcE (a0)).toArray)), (48, .val (Value.slice (some ⟨g2, 0, none⟩) (32) (c2)))] [(2, pcE (a0)), (5, pcE (D)), (7, pcE (D)), (10, pcE (a0))] ⟨rfl, rfl, rfl, rfl, rfl, rfl, rfl, rfl, rfl, rfl, rfl, rfl, rfl, rfl, rfl, rfl, rfl, rfl, rfl, rfl, rfl, trivial⟩ ⟨rfl, rfl, rfl, rfl, trivial⟩ rfl
  refine sq_step h (i := 12) rfl (u_call (xs := []) (up_seq (i := 12) (by kernel_rfl) rfl) (gd1 (xs := []) (up_seq (i := 12) (by kernel_rfl) rfl) 8 false rfl 45 rfl (lk rfl) rfl) 49 rfl 25 #[(.tmp 46), (.tmp 48)] #[43, 43] rfl [Value.slice (some ⟨g1, 0, none⟩) (32) (c1), Value.slice (some ⟨g2, 0, none⟩) (32) (c2)] rfl (cE25 _) (Value.bool true) (fun w hb => same_ba (by omega) (HG1 _ hb) (HG2 _ hb))) (fun a w h => ?_)
  refine sq_step h (i := 13) rfl (u_not (xs := []) (up_seq (i := 13) (by kernel_rfl) rfl) (gd1 (xs := []) (up_seq (i := 13) (by kernel_rfl) rfl) 8 false rfl 45 rfl (lk rfl) rfl) 50 rfl 4 (.tmp 49) rfl rfl _ rfl) (fun a w h => ?_)
  refine sq_step h (i := 14) rfl (u_pick (xs := []) (up_seq (i := 14) (by kernel_rfl) rfl) (gd0 rfl) 51 rfl (.tmp 45) (.const (.bool true)) (.tmp 50) rfl rfl rfl rfl _ rfl) (fun a w h => ?_)
  refine sq_step h (i := 15) rfl (u_move (xs := []) (up_seq (i := 15) (by kernel_rfl) rfl) (gd0 rfl) 52 rfl (.tmp 51) (Or.inl rfl) rfl) (fun a w h => ?_)
  refine sq_step h (i := 16) rfl (u_move (xs := []) (up_seq (i := 16) (by kernel_rfl) rfl) (gd1 (xs := []) (up_seq (i := 16) (by kernel_rfl) rfl) 15 false rfl 52 rfl (lk rfl) rfl) 53 rfl (.tmp 6) (Or.inl rfl) rfl) (fun a w h => ?_)
  refine sq_step h (i := 17) rfl (u_move (xs := []) (up_seq (i := 17) (by kernel_rfl) rfl) (gd1 (xs := []) (up_seq (i := 17) (by kernel_rfl) rfl) 15 false rfl 52 rfl (lk rfl) rfl) 54 rfl (.tmp 53) (Or.inl rfl) rfl) (fun a w h => ?_)
  refine sq_step h (i := 18) rfl (u_load (xs := []) (up_seq (i := 18) (by kernel_rfl) rfl) (gd1 (xs := []) (up_seq (i := 18) (by kernel_rfl) rfl) 17 true rfl 54 rfl (lk rfl) rfl) 55 rfl 26 (.tmp 5) rfl rfl rfl Tryd.underlying26 rfl i26 (lk rfl) _ rfl) (fun a w h => ?_)
  refine sq_call h HX (i := 19) rfl (gq1 17 true rfl rfl) 56 rfl 24 #[(.tmp 55)] #[26] rfl [.agg (pcE (D)).toArray] rfl (cE24 _) (fun r w1 w2 => Made n f r w1 w2) (fun hb => Calls.mono (CE3 _ (KK _ hb)) (fun _ _ ⟨r, h1, h2, h3⟩ => ⟨r, h1, h2, h3⟩)) (fun r a w W2 hR KW HN HX2 hw h => ?_)
  obtain ⟨g3, c3, rfl, hge3, hB3, hc3⟩ := hR
  have HG3 : ∀ w2, W2.kp w2 → BA w2 (some ⟨g3, 0, none⟩) n f := fun w2 h2 => BA.re hw h2 hB3 (fun p hp => by cases hp; exact HN _ hge3)
  replace HG1 : ∀ w2, W2.kp w2 → BA w2 (some ⟨g1, 0, none⟩) 32 eb := fun w2 h2 => HG1 w2 (KW w2 h2)
  replace HG2 : ∀ w2, W2.kp w2 → BA w2 (some ⟨g2, 0, none⟩) 32 eb := fun w2 h2 => HG2 w2 (KW w2 h2)
  replace KK : ∀ w2, W2.kp w2 → (Bs.of w0).kp w2 := fun w2 h2 => KK w2 (KW w2 h2)
  replace HX := HX2
  clear KW HN HX2 hw hB3 hge3
  replace h := h.keep [(1, .val (Value.slice (A) (n) (c))), (2, .ptr 2 0), (5, .ptr 5 0), (6, .val (Value.bool true)), (7, .ptr 7 0), (8, .val (Value.bool true)), (9, .val (Value.slice (some ⟨g1, 0, none⟩) (32) (c1))), (10, .ptr 10 0), (11, .val (Value.bool true)), (37, .val (.agg (pcE (D)).toArray)), (38, .val (.agg (pcE (D)).toArray)), (39, .val (Value.bool false)), (40, .val (Value.bool false)), (41, .val (Value.bool true)), (42, .val (Value.bool true)), (43, .val (Value.bool false)), (44, .val (Value.bool false)), (45, .val (Value.bool false)), (46, .val (Value.slice (some ⟨g1, 0, none⟩) (32) (c1))), (47, .val (.agg (pcE (a0)).toArray)), (48, .val (Value.slice (some ⟨g2, 0, none⟩) (32) (c2))), (49, .val (Value.bool true)), (50, .val (Value.bool false)), (51, .val (Value.bool false)), (52, .val (Value.bool false)), (53, .val (Value.bool true)), (54, .val (Value.bool true)), (55, .val (.agg (pcE (D)).toArray)), (56, .val (Value.slice (some ⟨g3, 0, none⟩) (n) (c3)))] [(2, pcE (a0)), (5, pcE (D)), (7, pcE (D)), (10, pcE (a0))] ⟨rfl, rfl, rfl, rfl, rfl, rfl, rfl, rfl, rfl, rfl, rfl, rfl, rfl, rfl, rfl, rfl, rfl, rfl, rfl, rfl, rfl, rfl, rfl, rfl, rfl, rfl, rfl, rfl, rfl, trivial⟩ ⟨rfl, rfl, rfl, rfl, trivial⟩ rfl
  refine sq_step h (i := 20) rfl (u_move (xs := []) (up_seq (i := 20) (by kernel_rfl) rfl) (gd1 (xs := []) (up_seq (i := 20) (by kernel_rfl) rfl) 17 true rfl 54 rfl (lk rfl) rfl) 57 rfl (.tmp 1) (Or.inl rfl) rfl) (fun a w h => ?_)
  refine sq_step h (i := 21) rfl (u_call (xs := []) (up_seq (i := 21) (by kernel_rfl) rfl) (gd1 (xs := []) (up_seq (i := 21) (by kernel_rfl) rfl) 17 true rfl 54 rfl (lk rfl) rfl) 58 rfl 25 #[(.tmp 56), (.tmp 57)] #[43, 43] rfl [Value.slice (some ⟨g3, 0, none⟩) (n) (c3), Value.slice (A) (n) (c)] rfl (cE25 _) (Value.bool true) (fun w hb => same_ba hn1000 (HG3 _ hb) (hba.keep (Bs.kp_of (KK _ hb))))) (fun a w h => ?_)
  refine sq_step h (i := 22) rfl (u_not (xs := []) (up_seq (i := 22) (by kernel_rfl) rfl) (gd1 (xs := []) (up_seq (i := 22) (by kernel_rfl) rfl) 17 true rfl 54 rfl (lk rfl) rfl) 59 rfl 4 (.tmp 58) rfl rfl _ rfl) (fun a w h => ?_)
  refine sq_step h (i := 23) rfl (u_pick (xs := []) (up_seq (i := 23) (by kernel_rfl) rfl) (gd1 (xs := []) (up_seq (i := 23) (by kernel_rfl) rfl) 15 false rfl 52 rfl (lk rfl) rfl) 60 rfl (.tmp 54) (.tmp 59) (.const (.bool false)) rfl rfl rfl rfl _ rfl) (fun a w h => ?_)
  refine sq_step h (i := 24) rfl (u_pick (xs := []) (up_seq (i := 24) (by kernel_rfl) rfl) (gd0 rfl) 61 rfl (.tmp 52) (.const (.bool true)) (.tmp 60) rfl rfl rfl rfl _ rfl) (fun a w h => ?_)
  replace h := h.keep [(2, .ptr 2 0), (10, .ptr 10 0), (11, .val (Value.bool true)), (61, .val (Value.bool false))] [(2, pcE (a0)), (10, pcE (a0))] ⟨rfl, rfl, rfl, rfl, trivial⟩ ⟨rfl, rfl, trivial⟩ rfl
  refine sq_end ?_
  refine then_norm ?_
  refine go_cond h false rfl (fun ht => ?_) (fun hf => ?_)
  case refine_1 => cases ht
  refine wp_skip ?_
  refine then_norm ?_
  refine go_region h hm [eS 62 (.val (Value.bool true)), eS 63 (.val (Value.bool true)), eS 64 (.val (.agg (pcE (a0)).toArray)), eS 65 (.val (Value.bool true)), eS 66 (.val (Value.bool false)), eS 67 (.val (Value.bool false)), eS 68 (.val (.agg (pcE (a0)).toArray)), eS 69 (.val (.agg (pcE (a0)).toArray)), eS 70 (.val (Value.bool true)), eS 71 (.val (Value.bool true)), eS 72 (.val (Value.bool true)), eS 73 (.val (Value.bool true)), eS 74 (.val (.agg (pcE (a0)).toArray)), eS 75 (.val (Value.bool true)), eS 76 (.val (Value.bool true)), eS 77 (.val undef), eS 78 (.val undef), eS 79 (.val undef), eS 80 (.val undef), eS 81 (.val (Value.bool true)), eS 82 (.val (Value.bool true)), eS 4 (.val (Value.bool true))] (by kernel_rfl) ⟨
    fun L u => u_move u (gd0 rfl) 62 rfl (.tmp 11) (Or.inl rfl) rfl,
    fun L u => u_move u (gd0 rfl) 63 rfl (.tmp 62) (Or.inl rfl) rfl,
    fun L u => u_load u (gd1 u 1 true rfl 63 rfl (lk rfl) rfl) 64 rfl 26 (.tmp 2) rfl rfl rfl Tryd.underlying26 rfl i26 (lk rfl) _ rfl,
    fun L u => u_call u (gd1 u 1 true rfl 63 rfl (lk rfl) rfl) 65 rfl 11 #[(.tmp 64)] #[26] rfl [.agg (pcE (a0)).toArray] rfl (cE11 _) (Value.bool true) (fun w hb => HFM (hT.keep (Bs.kp_of (KK _ hb)))),
    fun L u => u_not u (gd1 u 1 true rfl 63 rfl (lk rfl) rfl) 66 rfl 4 (.tmp 65) rfl rfl _ rfl,
    fun L u => u_move u (gd1 u 1 true rfl 63 rfl (lk rfl) rfl) 67 rfl (.tmp 66) (Or.inl rfl) rfl,
    fun L u => u_load u (gd1 u 5 false rfl 67 rfl (lk rfl) rfl) 68 rfl 26 (.tmp 10) rfl rfl rfl Tryd.underlying26 rfl i26 (lk rfl) _ rfl,
    fun L u => u_load u (gd1 u 5 false rfl 67 rfl (lk rfl) rfl) 69 rfl 26 (.tmp 2) rfl rfl rfl Tryd.underlying26 rfl i26 (lk rfl) _ rfl,
    fun L u => u_eql u (gd1 u 5 false rfl 67 rfl (lk rfl) rfl) 70 rfl 26 26 (.tmp 68) (.tmp 69) rfl rfl rfl Tryd.eqGuardType26 (true) (fun w => eq_pcE_same _ w),
    fun L u => u_pick u (gd1 u 1 true rfl 63 rfl (lk rfl) rfl) 71 rfl (.tmp 67) (.const (.bool true)) (.tmp 70) rfl rfl rfl rfl _ rfl,
    fun L u => u_pick u (gd0 rfl) 72 rfl (.tmp 63) (.tmp 71) (.const (.bool false)) rfl rfl rfl rfl _ rfl,
    fun L u => u_move u (gd0 rfl) 73 rfl (.tmp 72) (Or.inl rfl) rfl,
    fun L u => u_load u (gd1 u 11 true rfl 73 rfl (lk rfl) rfl) 74 rfl 26 (.tmp 2) rfl rfl rfl Tryd.underlying26 rfl i26 (lk rfl) _ rfl,
    fun L u => u_call u (gd1 u 11 true rfl 73 rfl (lk rfl) rfl) 75 rfl 11 #[(.tmp 74)] #[26] rfl [.agg (pcE (a0)).toArray] rfl (cE11 _) (Value.bool true) (fun w hb => HFM (hT.keep (Bs.kp_of (KK _ hb)))),
    fun L u => u_move u (gd1 u 11 true rfl 73 rfl (lk rfl) rfl) 76 rfl (.tmp 75) (Or.inl rfl) rfl,
    fun L u => u_no u 14 false rfl 76 rfl (lk rfl) rfl 77 rfl,
    fun L u => u_no u 14 false rfl 76 rfl (lk rfl) rfl 78 rfl,
    fun L u => u_no u 14 false rfl 76 rfl (lk rfl) rfl 79 rfl,
    fun L u => u_no u 14 false rfl 76 rfl (lk rfl) rfl 80 rfl,
    fun L u => u_pick u (gd1 u 11 true rfl 73 rfl (lk rfl) rfl) 81 rfl (.tmp 76) (.const (.bool true)) (.tmp 80) rfl rfl rfl rfl _ rfl,
    fun L u => u_pick u (gd0 rfl) 82 rfl (.tmp 73) (.tmp 81) (.const (.bool false)) rfl rfl rfl rfl _ rfl,
    fun L u => u_move u (gd0 rfl) 4 rfl (.tmp 82) (Or.inr rfl) rfl,
    trivial⟩ [(4, .val (Value.bool true))] [] ⟨rfl, trivial⟩ trivial rfl (fun a w h => ?_)
  refine wp_ret ?_
  refine ret_slot h 4 rfl (lk rfl) (Value.bool true) rfl ?_
  exact ⟨rfl, Bs.kp_of (KK _ h.below)⟩
set_option maxRecDepth 100000 in
set_option maxHeartbeats 8000000 in
theorem ebytes_true_false {w0 : World} (hT : Tab w0) {X Y : Int} {t : Bool} (HFM : ∀ {w : World}, Tab w → Calls Tryd.prog 11 [.agg (rc X Y t).toArray].toArray w fun e w' => e = .returned (.bool false) ∧ Below w.heap.size w w') {A : Option Addr} {n c : Nat} {f : Nat → Nat} (hba : BA w0 A n f) (hn : n ≤ 100) (D : Ep m2) {eb : Nat → Nat}
    (CD1 : ∀ w, (Bs.of w0).kp w → Calls Tryd.prog 22 [.slice A n c].toArray w fun e w' => e = .returned (.tuple [.agg (pcE D).toArray, .bool true].toArray) ∧ Below w.heap.size w w')
    (CD2 : ∀ w, (Bs.of w0).kp w → Calls Tryd.prog 23 [.slice A n c].toArray w fun e w' => e = .returned (.tuple [.agg (pcE D).toArray, .bool true].toArray) ∧ Below w.heap.size w w')
    (CE1 : ∀ w, (Bs.of w0).kp w → Calls Tryd.prog 24 [.agg (rc X Y t).toArray].toArray w fun e w' => ∃ r, e = .returned r ∧ Made 32 eb r w w' ∧ Below w.heap.size w w')
    (CE2 : ∀ w, (Bs.of w0).kp w → Calls Tryd.prog 26 [.agg (rc X Y t).toArray].toArray w fun e w' => ∃ r, e = .returned r ∧ Made 32 eb r w w' ∧ Below w.heap.size w w')
    (CD3 : ∀ w g d, (Bs.of w0).kp w → BA w (some ⟨g, 0, none⟩) 32 eb → 32 ≤ d → Calls Tryd.prog 22 [.slice (some ⟨g, 0, none⟩) 32 d].toArray w fun e w' => e = .returned (.tuple [.agg (pcE (Ep.o m2)).toArray, .bool true].toArray) ∧ Below w.heap.size w w')
    (CE3 : ∀ w, (Bs.of w0).kp w → Calls Tryd.prog 24 [.agg (pcE D).toArray].toArray w fun e w' => ∃ r, e = .returned r ∧ Made n f r w w' ∧ Below w.heap.size w w') : Calls Tryd.prog 8 [.agg (rc X Y t).toArray, .slice A n c].toArray w0 fun e w' => e = .returned (.bool true) ∧ Below w0.heap.size w0 w' := by
  have KK : ∀ w2, (Bs.of w0).kp w2 → (Bs.of w0).kp w2 := fun _ h => h
  have HX : ∀ k, (Bs.of w0).X k = true → k < (Bs.of w0).w.heap.size := fun k hk => by cases hk
  have hn1000 : n ≤ 1000 := by omega
  refine enter (args := [.agg (rc X Y t).toArray, Value.slice (A) (n) (c)]) Tryd.func8 rfl 83 rfl (lk rfl) (fun a h => ?_)
  refine go_region h hm [eN 2 (rc X Y t), eS 4 (.val (Value.bool false))] (by kernel_rfl) ⟨
    fun L u => u_box u (gd0 rfl) 26 (.tmp 0) rfl 2 rfl rfl rfl _ rfl,
    fun L u => u_move u (gd0 rfl) 4 rfl (.const (.bool false)) (Or.inr rfl) rfl,
    trivial⟩ [(1, .val (Value.slice (A) (n) (c))), (2, .ptr 2 0)] [(2, rc X Y t)] ⟨rfl, rfl, trivial⟩ ⟨rfl, trivial⟩ rfl (fun a w h => ?_)
  refine wp_seq ?_
  refine go_region h hm [eS 12 (.val (Value.bool true)), eS 13 (.val (Value.bool false)), eS 14 (.val (Value.bool false)), eS 15 (.val (Value.slice (A) (n) (c))), eS 16 (.val (Value.int .i64 ((n : Nat) : Int))), eS 17 (.val (Value.bool false)), eS 18 (.val (Value.bool false))] (by kernel_rfl) ⟨
    fun L u => u_call u (gd0 rfl) 12 rfl 9 #[] #[] rfl [] rfl (cE9 _) (Value.bool true) (fun w hb => awakeE_any (hT.keep (Bs.kp_of (KK _ hb)))),
    fun L u => u_not u (gd0 rfl) 13 rfl 4 (.tmp 12) rfl rfl _ rfl,
    fun L u => u_move u (gd0 rfl) 14 rfl (.tmp 13) (Or.inl rfl) rfl,
    fun L u => u_move u (gd1 u 2 false rfl 14 rfl (lk rfl) rfl) 15 rfl (.tmp 1) (Or.inl rfl) rfl,
    fun L u => u_lenV u (gd1 u 2 false rfl 14 rfl (lk rfl) rfl) 16 rfl (.tmp 15) 43 rfl rfl Tryd.underlying43,
    fun L u => u_bin u (gd1 u 2 false rfl 14 rfl (lk rfl) rfl) 17 rfl .gtr 3 3 (.tmp 16) (.const (.int .i64 100)) rfl rfl rfl (eqg_int _ _ _ _ _ _ _ _) (Value.bool false) (no_of (fun w => i_gtr _ _ _ _ w) (by omega)),
    fun L u => u_pick u (gd0 rfl) 18 rfl (.tmp 14) (.const (.bool true)) (.tmp 17) rfl rfl rfl rfl _ rfl,
    trivial⟩ [(1, .val (Value.slice (A) (n) (c))), (2, .ptr 2 0), (18, .val (Value.bool false))] [(2, rc X Y t)] ⟨rfl, rfl, rfl, trivial⟩ ⟨rfl, trivial⟩ rfl (fun a w h => ?_)
  refine go_cond h false rfl (fun ht => ?_) (fun hf => ?_)
  case refine_1 => cases ht
  refine wp_skip ?_
  refine then_norm ?_
  refine go_region h hm [eS 21 (.val (Value.slice (A) (n) (c))), eS 22 (.val (.tuple [.agg (pcE (D)).toArray, Value.bool true].toArray)), eS 20 (.val (.tuple [.agg (pcE (D)).toArray, Value.bool true].toArray)), eS 23 (.val (.agg (pcE (D)).toArray)), eS 24 (.val (Value.bool true)), eN 5 (nz ++ nz ++ [Value.bool false]), eM 5 (pcE (D)), eS 6 (.val (Value.bool true))] (by kernel_rfl) ⟨
    fun L u => u_move u (gd0 rfl) 21 rfl (.tmp 1) (Or.inl rfl) rfl,
    fun L u => u_call u (gd0 rfl) 22 rfl 22 #[(.tmp 21)] #[43] rfl [Value.slice (A) (n) (c)] rfl (cE22 _) (.tuple [.agg (pcE (D)).toArray, Value.bool true].toArray) (fun w hb => CD1 _ (KK _ hb)),
    fun L u => u_move u (gd0 rfl) 20 rfl (.tmp 22) (Or.inl rfl) rfl,
    fun L u => u_part u (gd0 rfl) 23 rfl (.tmp 20) 0 rfl (vs := [.agg (pcE (D)).toArray, Value.bool true]) rfl _ rfl,
    fun L u => u_part u (gd0 rfl) 24 rfl (.tmp 20) 1 rfl (vs := [.agg (pcE (D)).toArray, Value.bool true]) rfl _ rfl,
    fun L u => u_alloc u (gd0 rfl) 26 rfl 5 rfl rfl z26 _ rfl,
    fun L u => u_store u (gd0 rfl) 26 (.tmp 5) (.tmp 23) rfl rfl rfl (vs := pcE (D)) rfl rfl i26 (lk rfl) rfl _ rfl,
    fun L u => u_move u (gd0 rfl) 6 rfl (.tmp 24) (Or.inr rfl) rfl,
    trivial⟩ [(1, .val (Value.slice (A) (n) (c))), (2, .ptr 2 0), (5, .ptr 5 0), (6, .val (Value.bool true))] [(2, rc X Y t), (5, pcE (D))] ⟨rfl, rfl, rfl, rfl, trivial⟩ ⟨rfl, rfl, trivial⟩ rfl (fun a w h => ?_)
  refine go_region h hm [eS 26 (.val (Value.slice (A) (n) (c))), eS 27 (.val (.tuple [.agg (pcE (D)).toArray, Value.bool true].toArray)), eS 25 (.val (.tuple [.agg (pcE (D)).toArray, Value.bool true].toArray)), eS 28 (.val (.agg (pcE (D)).toArray)), eS 29 (.val (Value.bool true)), eN 7 (nz ++ nz ++ [Value.bool false]), eM 7 (pcE (D)), eS 8 (.val (Value.bool true))] (by kernel_rfl) ⟨
    fun L u => u_move u (gd0 rfl) 26 rfl (.tmp 1) (Or.inl rfl) rfl,
    fun L u => u_call u (gd0 rfl) 27 rfl 23 #[(.tmp 26)] #[43] rfl [Value.slice (A) (n) (c)] rfl (cE23 _) (.tuple [.agg (pcE (D)).toArray, Value.bool true].toArray) (fun w hb => CD2 _ (KK _ hb)),
    fun L u => u_move u (gd0 rfl) 25 rfl (.tmp 27) (Or.inl rfl) rfl,
    fun L u => u_part u (gd0 rfl) 28 rfl (.tmp 25) 0 rfl (vs := [.agg (pcE (D)).toArray, Value.bool true]) rfl _ rfl,
    fun L u => u_part u (gd0 rfl) 29 rfl (.tmp 25) 1 rfl (vs := [.agg (pcE (D)).toArray, Value.bool true]) rfl _ rfl,
    fun L u => u_alloc u (gd0 rfl) 26 rfl 7 rfl rfl z26 _ rfl,
    fun L u => u_store u (gd0 rfl) 26 (.tmp 7) (.tmp 28) rfl rfl rfl (vs := pcE (D)) rfl rfl i26 (lk rfl) rfl _ rfl,
    fun L u => u_move u (gd0 rfl) 8 rfl (.tmp 29) (Or.inr rfl) rfl,
    trivial⟩ [(1, .val (Value.slice (A) (n) (c))), (2, .ptr 2 0), (5, .ptr 5 0), (6, .val (Value.bool true)), (7, .ptr 7 0), (8, .val (Value.bool true))] [(2, rc X Y t), (5, pcE (D)), (7, pcE (D))] ⟨rfl, rfl, rfl, rfl, rfl, rfl, trivial⟩ ⟨rfl, rfl, rfl, trivial⟩ rfl (fun a w h => ?_)
  refine wp_seq ?_
  refine sq_begin [0, 1, 2] rfl ?_
  refine sq_step h (i := 0) rfl (u_load (xs := []) (up_seq (i := 0) (by kernel_rfl) rfl) (gd0 rfl) 30 rfl 26 (.tmp 2) rfl rfl rfl Tryd.underlying26 rfl i26 (lk rfl) _ rfl) (fun a w h => ?_)
  refine sq_call h HX (i := 1) rfl (gq0 rfl) 31 rfl 24 #[(.tmp 30)] #[26] rfl [.agg (rc X Y t).toArray] rfl (cE24 _) (fun r w1 w2 => Made 32 eb r w1 w2) (fun hb => Calls.mono (CE1 _ (KK _ hb)) (fun _ _ ⟨r, h1, h2, h3⟩ => ⟨r, h1, h2, h3⟩)) (fun r a w W2 hR KW HN HX2 hw h => ?_)
  obtain ⟨g1, c1, rfl, hge1, hB1, hc1⟩ := hR
  have HG1 : ∀ w2, W2.kp w2 → BA w2 (some ⟨g1, 0, none⟩) 32 eb := fun w2 h2 => BA.re hw h2 hB1 (fun p hp => by cases hp; exact HN _ hge1)
  replace KK : ∀ w2, W2.kp w2 → (Bs.of w0).kp w2 := fun w2 h2 => KK w2 (KW w2 h2)
  replace HX := HX2
  clear KW HN HX2 hw hB1 hge1
  replace h := h.keep [(1, .val (Value.slice (A) (n) (c))), (2, .ptr 2 0), (5, .ptr 5 0), (6, .val (Value.bool true)), (7, .ptr 7 0), (8, .val (Value.bool true)), (30, .val (.agg (rc X Y t).toArray)), (31, .val (Value.slice (some ⟨g1, 0, none⟩) (32) (c1)))] [(2, rc X Y t), (5, pcE (D)), (7, pcE (D))] ⟨rfl, rfl, rfl, rfl, rfl, rfl, rfl, rfl, trivial⟩ ⟨rfl, rfl, rfl, trivial⟩ rfl
  refine sq_step h (i := 2) rfl (u_move (xs := []) (up_seq (i := 2) (by kernel_rfl) rfl) (gd0 rfl) 9 rfl (.tmp 31) (Or.inr rfl) rfl) (fun a w h => ?_)
  replace h := h.keep [(1, .val (Value.slice (A) (n) (c))), (2, .ptr 2 0), (5, .ptr 5 0), (6, .val (Value.bool true)), (7, .ptr 7 0), (8, .val (Value.bool true)), (9, .val (Value.slice (some ⟨g1, 0, none⟩) (32) (c1)))] [(2, rc X Y t), (5, pcE (D)), (7, pcE (D))] ⟨rfl, rfl, rfl, rfl, rfl, rfl, rfl, trivial⟩ ⟨rfl, rfl, rfl, trivial⟩ rfl
  refine sq_end ?_
  refine then_norm ?_
  refine go_region h hm [eS 33 (.val (Value.slice (some ⟨g1, 0, none⟩) (32) (c1))), eS 34 (.val (.tuple [.agg (pcE (Ep.o m2)).toArray, Value.bool true].toArray)), eS 32 (.val (.tuple [.agg (pcE (Ep.o m2)).toArray, Value.bool true].toArray)), eS 35 (.val (.agg (pcE (Ep.o m2)).toArray)), eS 36 (.val (Value.bool true)), eN 10 (nz ++ nz ++ [Value.bool false]), eM 10 (pcE (Ep.o m2)), eS 11 (.val (Value.bool true))] (by kernel_rfl) ⟨
    fun L u => u_move u (gd0 rfl) 33 rfl (.tmp 9) (Or.inl rfl) rfl,
    fun L u => u_call u (gd0 rfl) 34 rfl 22 #[(.tmp 33)] #[43] rfl [Value.slice (some ⟨g1, 0, none⟩) (32) (c1)] rfl (cE22 _) (.tuple [.agg (pcE (Ep.o m2)).toArray, Value.bool true].toArray) (fun w hb => CD3 _ _ _ (KK _ hb) (HG1 _ hb) hc1),
    fun L u => u_move u (gd0 rfl) 32 rfl (.tmp 34) (Or.inl rfl) rfl,
    fun L u => u_part u (gd0 rfl) 35 rfl (.tmp 32) 0 rfl (vs := [.agg (pcE (Ep.o m2)).toArray, Value.bool true]) rfl _ rfl,
    fun L u => u_part u (gd0 rfl) 36 rfl (.tmp 32) 1 rfl (vs := [.agg (pcE (Ep.o m2)).toArray, Value.bool true]) rfl _ rfl,
    fun L u => u_alloc u (gd0 rfl) 26 rfl 10 rfl rfl z26 _ rfl,
    fun L u => u_store u (gd0 rfl) 26 (.tmp 10) (.tmp 35) rfl rfl rfl (vs := pcE (Ep.o m2)) rfl rfl i26 (lk rfl) rfl _ rfl,
    fun L u => u_move u (gd0 rfl) 11 rfl (.tmp 36) (Or.inr rfl) rfl,
    trivial⟩ [(1, .val (Value.slice (A) (n) (c))), (2, .ptr 2 0), (5, .ptr 5 0), (6, .val (Value.bool true)), (7, .ptr 7 0), (8, .val (Value.bool true)), (9, .val (Value.slice (some ⟨g1, 0, none⟩) (32) (c1))), (10, .ptr 10 0), (11, .val (Value.bool true))] [(2, rc X Y t), (5, pcE (D)), (7, pcE (D)), (10, pcE (Ep.o m2))] ⟨rfl, rfl, rfl, rfl, rfl, rfl, rfl, rfl, rfl, trivial⟩ ⟨rfl, rfl, rfl, rfl, trivial⟩ rfl (fun a w h => ?_)
  refine wp_seq ?_
  refine wp_seq ?_
  refine sq_begin [0, 1, 2, 3, 4, 5, 6, 7, 8, 9, 10, 11, 12, 13, 14, 15, 16, 17, 18, 19, 20, 21, 22, 23, 24] rfl ?_
  refine sq_step h (i := 0) rfl (u_load (xs := []) (up_seq (i := 0) (by kernel_rfl) rfl) (gd0 rfl) 37 rfl 26 (.tmp 5) rfl rfl rfl Tryd.underlying26 rfl i26 (lk rfl) _ rfl) (fun a w h => ?_)
  refine sq_step h (i := 1) rfl (u_load (xs := []) (up_seq (i := 1) (by kernel_rfl) rfl) (gd0 rfl) 38 rfl 26 (.tmp 7) rfl rfl rfl Tryd.underlying26 rfl i26 (lk rfl) _ rfl) (fun a w h => ?_)
  refine sq_step h (i := 2) rfl (u_neq (xs := []) (up_seq (i := 2) (by kernel_rfl) rfl) (gd0 rfl) 39 rfl 26 26 (.tmp 37) (.tmp 38) rfl rfl rfl Tryd.eqGuardType26 (true) (fun w => eq_pcE_same _ w)) (fun a w h => ?_)
  refine sq_step h (i := 3) rfl (u_move (xs := []) (up_seq (i := 3) (by kernel_rfl) rfl) (gd0 rfl) 40 rfl (.tmp 39) (Or.inl rfl) rfl) (fun a w h => ?_)
  refine sq_step h (i := 4) rfl (u_move (xs := []) (up_seq (i := 4) (by kernel_rfl) rfl) (gd1 (xs := []) (up_seq (i := 4) (by kernel_rfl) rfl) 3 false rfl 40 rfl (lk rfl) rfl) 41 rfl (.tmp 6) (Or.inl rfl) rfl) (fun a w h => ?_)
  refine sq_step h (i := 5) rfl (u_move (xs := []) (up_seq (i := 5) (by kernel_rfl) rfl) (gd1 (xs := []) (up_seq (i := 5) (by kernel_rfl) rfl) 3 false rfl 40 rfl (lk rfl) rfl) 42 rfl (.tmp 8) (Or.inl rfl) rfl) (fun a w h => ?_)
  refine sq_step h (i := 6) rfl (u_bin (xs := []) (up_seq (i := 6) (by kernel_rfl) rfl) (gd1 (xs := []) (up_seq (i := 6) (by kernel_rfl) rfl) 3 false rfl 40 rfl (lk rfl) rfl) 43 rfl .neq 4 4 (.tmp 41) (.tmp 42) rfl rfl rfl (eqg_bool _ _ _ _ _ _) (Value.bool false) (t_neq_same _ Tryd.underlying4 _)) (fun a w h => ?_)
  refine sq_step h (i := 7) rfl (u_pick (xs := []) (up_seq (i := 7) (by kernel_rfl) rfl) (gd0 rfl) 44 rfl (.tmp 40) (.const (.bool true)) (.tmp 43) rfl rfl rfl rfl _ rfl) (fun a w h => ?_)
  refine sq_step h (i := 8) rfl (u_move (xs := []) (up_seq (i := 8) (by kernel_rfl) rfl) (gd0 rfl) 45 rfl (.tmp 44) (Or.inl rfl) rfl) (fun a w h => ?_)
  refine sq_step h (i := 9) rfl (u_move (xs := []) (up_seq (i := 9) (by kernel_rfl) rfl) (gd1 (xs := []) (up_seq (i := 9) (by kernel_rfl) rfl) 8 false rfl 45 rfl (lk rfl) rfl) 46 rfl (.tmp 9) (Or.inl rfl) rfl) (fun a w h => ?_)
  refine sq_step h (i := 10) rfl (u_load (xs := []) (up_seq (i := 10) (by kernel_rfl) rfl) (gd1 (xs := []) (up_seq (i := 10) (by kernel_rfl) rfl) 8 false rfl 45 rfl (lk rfl) rfl) 47 rfl 26 (.tmp 2) rfl rfl rfl Tryd.underlying26 rfl i26 (lk rfl) _ rfl) (fun a w h => ?_)
  refine sq_call h HX (i := 11) rfl (gq1 8 false rfl rfl) 48 rfl 26 #[(.tmp 47)] #[26] rfl [.agg (rc X Y t).toArray] rfl (cE26 _) (fun r w1 w2 => Made 32 eb r w1 w2) (fun hb => Calls.mono (CE2 _ (KK _ hb)) (fun _ _ ⟨r, h1, h2, h3⟩ => ⟨r, h1, h2, h3⟩)) (fun r a w W2 hR KW HN HX2 hw h => ?_)
  obtain ⟨g2, c2, rfl, hge2, hB2, hc2⟩ := hR
  have HG2 : ∀ w2, W2.kp w2 → BA w2 (some ⟨g2, 0, none⟩) 32 eb := fun w2 h2 => BA.re hw h2 hB2 (fun p hp => by cases hp; exact HN _ hge2)
  replace HG1 : ∀ w2, W2.kp w2 → BA w2 (some ⟨g1, 0, none⟩) 32 eb := fun w2 h2 => HG1 w2 (KW w2 h2)
  replace KK : ∀ w2, W2.kp w2 → (Bs.of w0).kp w2 := fun w2 h2 => KK w2 (KW w2 h2)
  replace HX := HX2
  clear KW HN HX2 hw hB2 hge2
  replace h := h.keep [(1, .val (Value.slice (A) (n) (c))), (2, .ptr 2 0), (5, .ptr 5 0), (6, .val (Value.bool true)), (7, .ptr 7 0), (8, .val (Value.bool true)), (9, .val (Value.slice (some ⟨g1, 0, none⟩) (32) (c1))), (10, .ptr 10 0), (11, .val (Value.bool true)), (37, .val (.agg (pcE (D)).toArray)), (38, .val (.agg (pcE (D)).toArray)), (39, .val (Value.bool false)), (40, .val (Value.bool false)), (41, .val (Value.bool true)), (42, .val (Value.bool true)), (43, .val (Value.bool false)), (44, .val (Value.bool false)), (45, .val (Value.bool false)), (46, .val (Value.slice (some ⟨g1, 0, none⟩) (32) (c1))), (47, .val (.agg (rc X Y t).toArray)), (48, .val (Value.slice (some ⟨g2, 0, none⟩) (32) (c2)))] [(2, rc X Y t), (5, pcE (D)), (7, pcE (D)), (10, pcE (Ep.o m2))] ⟨rfl, rfl, rfl, rfl, rfl, rfl, rfl, rfl, rfl, rfl, rfl, rfl, rfl, rfl, rfl, rfl, rfl, rfl, rfl, rfl, rfl, trivial⟩ ⟨rfl, rfl, rfl, rfl, trivial⟩ rfl
  refine sq_step h (i := 12) rfl (u_call (xs := []) (up_seq (i := 12) (by kernel_rfl) rfl) (gd1 (xs := []) (up_seq (i := 12) (by kernel_rfl) rfl) 8 false rfl 45 rfl (lk rfl) rfl) 49 rfl 25 #[(.tmp 46), (.tmp 48)] #[43, 43] rfl [Value.slice (some ⟨g1, 0, none⟩) (32) (c1), Value.slice (some ⟨g2, 0, none⟩) (32) (c2)] rfl (cE25 _) (Value.bool true) (fun w hb => same_ba (by omega) (HG1 _ hb) (HG2 _ hb))) (fun a w h => ?_)
  refine sq_step h (i := 13) rfl (u_not (xs := []) (up_seq (i := 13) (by kernel_rfl) rfl) (gd1 (xs := []) (up_seq (i := 13) (by kernel_rfl) rfl) 8 false rfl 45 rfl (lk rfl) rfl) 50 rfl 4 (.tmp 49) rfl rfl _ rfl) (fun a w h => ?_)
  refine sq_step h (i := 14) rfl (u_pick (xs := []) (up_seq (i := 14) (by kernel_rfl) rfl) (gd0 rfl) 51 rfl (.tmp 45) (.const (.bool true)) (.tmp 50) rfl rfl rfl rfl _ rfl) (fun a w h => ?_)
  refine sq_step h (i := 15) rfl (u_move (xs := []) (up_seq (i := 15) (by kernel_rfl) rfl) (gd0 rfl) 52 rfl (.tmp 51) (Or.inl rfl) rfl) (fun a w h => ?_)
  refine sq_step h (i := 16) rfl (u_move (xs := []) (up_seq (i := 16) (by kernel_rfl) rfl) (gd1 (xs := []) (up_seq (i := 16) (by kernel_rfl) rfl) 15 false rfl 52 rfl (lk rfl) rfl) 53 rfl (.tmp 6) (Or.inl rfl) rfl) (fun a w h => ?_)
  refine sq_step h (i := 17) rfl (u_move (xs := []) (up_seq (i := 17) (by kernel_rfl) rfl) (gd1 (xs := []) (up_seq (i := 17) (by kernel_rfl) rfl) 15 false rfl 52 rfl (lk rfl) rfl) 54 rfl (.tmp 53) (Or.inl rfl) rfl) (fun a w h => ?_)
  refine sq_step h (i := 18) rfl (u_load (xs := []) (up_seq (i := 18) (by kernel_rfl) rfl) (gd1 (xs := []) (up_seq (i := 18) (by kernel_rfl) rfl) 17 true rfl 54 rfl (lk rfl) rfl) 55 rfl 26 (.tmp 5) rfl rfl rfl Tryd.underlying26 rfl i26 (lk rfl) _ rfl) (fun a w h => ?_)
  refine sq_call h HX (i := 19) rfl (gq1 17 true rfl rfl) 56 rfl 24 #[(.tmp 55)] #[26] rfl [.agg (pcE (D)).toArray] rfl (cE24 _) (fun r w1 w2 => Made n f r w1 w2) (fun hb => Calls.mono (CE3 _ (KK _ hb)) (fun _ _ ⟨r, h1, h2, h3⟩ => ⟨r, h1, h2, h3⟩)) (fun r a w W2 hR KW HN HX2 hw h => ?_)
  obtain ⟨g3, c3, rfl, hge3, hB3, hc3⟩ := hR
  have HG3 : ∀ w2, W2.kp w2 → BA w2 (some ⟨g3, 0, none⟩) n f := fun w2 h2 => BA.re hw h2 hB3 (fun p hp => by cases hp; exact HN _ hge3)
  replace HG1 : ∀ w2, W2.kp w2 → BA w2 (some ⟨g1, 0, none⟩) 32 eb := fun w2 h2 => HG1 w2 (KW w2 h2)
  replace HG2 : ∀ w2, W2.kp w2 → BA w2 (some ⟨g2, 0, none⟩) 32 eb := fun w2 h2 => HG2 w2 (KW w2 h2)
  replace KK : ∀ w2, W2.kp w2 → (Bs.of w0).kp w2 := fun w2 h2 => KK w2 (KW w2 h2)
  replace HX := HX2
  clear KW HN HX2 hw hB3 hge3
  replace h := h.keep [(1, .val (Value.slice (A) (n) (c))), (2, .ptr 2 0), (5, .ptr 5 0), (6, .val (Value.bool true)), (7, .ptr 7 0), (8, .val (Value.bool true)), (9, .val (Value.slice (some ⟨g1, 0, none⟩) (32) (c1))), (10, .ptr 10 0), (11, .val (Value.bool true)), (37, .val (.agg (pcE (D)).toArray)), (38, .val (.agg (pcE (D)).toArray)), (39, .val (Value.bool false)), (40, .val (Value.bool false)), (41, .val (Value.bool true)), (42, .val (Value.bool true)), (43, .val (Value.bool false)), (44, .val (Value.bool false)), (45, .val (Value.bool false)), (46, .val (Value.slice (some ⟨g1, 0, none⟩) (32) (c1))), (47, .val (.agg (rc X Y t).toArray)), (48, .val (Value.slice (some ⟨g2, 0, none⟩) (32) (c2))), (49, .val (Value.bool true)), (50, .val (Value.bool false)), (51, .val (Value.bool false)), (52, .val (Value.bool false)), (53, .val (Value.bool true)), (54, .val (Value.bool true)), (55, .val (.agg (pcE (D)).toArray)), (56, .val (Value.slice (some ⟨g3, 0, none⟩) (n) (c3)))] [(2, rc X Y t), (5, pcE (D)), (7, pcE (D)), (10, pcE (Ep.o m2))] ⟨rfl, rfl, rfl, rfl, rfl, rfl, rfl, rfl, rfl, rfl, rfl, rfl, rfl, rfl, rfl, rfl, rfl, rfl, rfl, rfl, rfl, rfl, rfl, rfl, rfl, rfl, rfl, rfl, rfl, trivial⟩ ⟨rfl, rfl, rfl, rfl, trivial⟩ rfl
  refine sq_step h (i := 20) rfl (u_move (xs := []) (up_seq (i := 20) (by kernel_rfl) rfl) (gd1 (xs := []) (up_seq (i := 20) (by kernel_rfl) rfl) 17 true rfl 54 rfl (lk rfl) rfl) 57 rfl (.tmp 1) (Or.inl rfl) rfl) (fun a w h => ?_)
  refine sq_step h (i := 21) rfl (u_call (xs := []) (up_seq (i := 21) (by kernel_rfl) rfl) (gd1 (xs := []) (up_seq (i := 21) (by kernel_rfl) rfl) 17 true rfl 54 rfl (lk rfl) rfl) 58 rfl 25 #[(.tmp 56), (.tmp 57)] #[43, 43] rfl [Value.slice (some ⟨g3, 0, none⟩) (n) (c3), Value.slice (A) (n) (c)] rfl (cE25 _) (Value.bool true) (fun w hb => same_ba hn1000 (HG3 _ hb) (hba.keep (Bs.kp_of (KK _ hb))))) (fun a w h => ?_)
  refine sq_step h (i := 22) rfl (u_not (xs := []) (up_seq (i := 22) (by kernel_rfl) rfl) (gd1 (xs := []) (up_seq (i := 22) (by kernel_rfl) rfl) 17 true rfl 54 rfl (lk rfl) rfl) 59 rfl 4 (.tmp 58) rfl rfl _ rfl) (fun a w h => ?_)
  refine sq_step h (i := 23) rfl (u_pick (xs := []) (up_seq (i := 23) (by kernel_rfl) rfl) (gd1 (xs := []) (up_seq (i := 23) (by kernel_rfl) rfl) 15 false rfl 52 rfl (lk rfl) rfl) 60 rfl (.tmp 54) (.tmp 59) (.const (.bool false)) rfl rfl rfl rfl _ rfl) (fun a w h => ?_)
  refine sq_step h (i := 24) rfl (u_pick (xs := []) (up_seq (i := 24) (by kernel_rfl) rfl) (gd0 rfl) 61 rfl (.tmp 52) (.const (.bool true)) (.tmp 60) rfl rfl rfl rfl _ rfl) (fun a w h => ?_)
  replace h := h.keep [(2, .ptr 2 0), (10, .ptr 10 0), (11, .val (Value.bool true)), (61, .val (Value.bool false))] [(2, rc X Y t), (10, pcE (Ep.o m2))] ⟨rfl, rfl, rfl, rfl, trivial⟩ ⟨rfl, rfl, trivial⟩ rfl
  refine sq_end ?_
  refine then_norm ?_
  refine go_cond h false rfl (fun ht => ?_) (fun hf => ?_)
  case refine_1 => cases ht
  refine wp_skip ?_
  refine then_norm ?_
  refine go_region h hm [eS 62 (.val (Value.bool true)), eS 63 (.val (Value.bool true)), eS 64 (.val (.agg (rc X Y t).toArray)), eS 65 (.val (Value.bool false)), eS 66 (.val (Value.bool true)), eS 67 (.val (Value.bool true)), eS 68 (.val undef), eS 69 (.val undef), eS 70 (.val undef), eS 71 (.val (Value.bool true)), eS 72 (.val (Value.bool true)), eS 73 (.val (Value.bool true)), eS 74 (.val (.agg (rc X Y t).toArray)), eS 75 (.val (Value.bool false)), eS 76 (.val (Value.bool false)), eS 77 (.val (.agg (pcE (Ep.o m2)).toArray)), eS 78 (.val (.agg (gc ((Ep.o m2).y)).toArray)), eS 79 (.val (.agg (nz ++ gc ((Ep.o m2).y) ++ [Value.bool false]).toArray)), eS 80 (.val (Value.bool true)), eS 81 (.val (Value.bool true)), eS 82 (.val (Value.bool true)), eS 4 (.val (Value.bool true))] (by kernel_rfl) ⟨
    fun L u => u_move u (gd0 rfl) 62 rfl (.tmp 11) (Or.inl rfl) rfl,
    fun L u => u_move u (gd0 rfl) 63 rfl (.tmp 62) (Or.inl rfl) rfl,
    fun L u => u_load u (gd1 u 1 true rfl 63 rfl (lk rfl) rfl) 64 rfl 26 (.tmp 2) rfl rfl rfl Tryd.underlying26 rfl i26 (lk rfl) _ rfl,
    fun L u => u_call u (gd1 u 1 true rfl 63 rfl (lk rfl) rfl) 65 rfl 11 #[(.tmp 64)] #[26] rfl [.agg (rc X Y t).toArray] rfl (cE11 _) (Value.bool false) (fun w hb => HFM (hT.keep (Bs.kp_of (KK _ hb)))),
    fun L u => u_not u (gd1 u 1 true rfl 63 rfl (lk rfl) rfl) 66 rfl 4 (.tmp 65) rfl rfl _ rfl,
    fun L u => u_move u (gd1 u 1 true rfl 63 rfl (lk rfl) rfl) 67 rfl (.tmp 66) (Or.inl rfl) rfl,
    fun L u => u_no u 5 false rfl 67 rfl (lk rfl) rfl 68 rfl,
    fun L u => u_no u 5 false rfl 67 rfl (lk rfl) rfl 69 rfl,
    fun L u => u_no u 5 false rfl 67 rfl (lk rfl) rfl 70 rfl,
    fun L u => u_pick u (gd1 u 1 true rfl 63 rfl (lk rfl) rfl) 71 rfl (.tmp 67) (.const (.bool true)) (.tmp 70) rfl rfl rfl rfl _ rfl,
    fun L u => u_pick u (gd0 rfl) 72 rfl (.tmp 63) (.tmp 71) (.const (.bool false)) rfl rfl rfl rfl _ rfl,
    fun L u => u_move u (gd0 rfl) 73 rfl (.tmp 72) (Or.inl rfl) rfl,
    fun L u => u_load u (gd1 u 11 true rfl 73 rfl (lk rfl) rfl) 74 rfl 26 (.tmp 2) rfl rfl rfl Tryd.underlying26 rfl i26 (lk rfl) _ rfl,
    fun L u => u_call u (gd1 u 11 true rfl 73 rfl (lk rfl) rfl) 75 rfl 11 #[(.tmp 74)] #[26] rfl [.agg (rc X Y t).toArray] rfl (cE11 _) (Value.bool false) (fun w hb => HFM (hT.keep (Bs.kp_of (KK _ hb)))),
    fun L u => u_move u (gd1 u 11 true rfl 73 rfl (lk rfl) rfl) 76 rfl (.tmp 75) (Or.inl rfl) rfl,
    fun L u => u_load u (gd1 u 14 false rfl 76 rfl (lk rfl) rfl) 77 rfl 26 (.tmp 10) rfl rfl rfl Tryd.underlying26 rfl i26 (lk rfl) _ rfl,
    fun L u => u_build u (gd1 u 14 false rfl 76 rfl (lk rfl) rfl) 78 rfl 24 #[(0, (.const (.int .u64 1))), (1, (.const (.int .u64 0))), (2, (.const (.int .u64 0))), (3, (.const (.int .u64 0)))] rfl [(0, (Value.int IntKind.u64 1)), (1, (Value.int IntKind.u64 0)), (2, (Value.int IntKind.u64 0)), (3, (Value.int IntKind.u64 0))] rfl (gc ((Ep.o m2).y)) (bOne),
    fun L u => u_build u (gd1 u 14 false rfl 76 rfl (lk rfl) rfl) 79 rfl 26 #[(1, (.tmp 78))] rfl [(1, .agg (gc ((Ep.o m2).y)).toArray)] rfl (nz ++ gc ((Ep.o m2).y) ++ [Value.bool false]) (g_bY _),
    fun L u => u_eql u (gd1 u 14 false rfl 76 rfl (lk rfl) rfl) 80 rfl 26 26 (.tmp 77) (.tmp 79) rfl rfl rfl Tryd.eqGuardType26 (true) (fun w => eq_pcE_o w),
    fun L u => u_pick u (gd1 u 11 true rfl 73 rfl (lk rfl) rfl) 81 rfl (.tmp 76) (.const (.bool true)) (.tmp 80) rfl rfl rfl rfl _ rfl,
    fun L u => u_pick u (gd0 rfl) 82 rfl (.tmp 73) (.tmp 81) (.const (.bool false)) rfl rfl rfl rfl _ rfl,
    fun L u => u_move u (gd0 rfl) 4 rfl (.tmp 82) (Or.inr rfl) rfl,
    trivial⟩ [(4, .val (Value.bool true))] [] ⟨rfl, trivial⟩ trivial rfl (fun a w h => ?_)
  refine wp_ret ?_
  refine ret_slot h 4 rfl (lk rfl) (Value.bool true) rfl ?_
  exact ⟨rfl, Bs.kp_of (KK _ h.below)⟩
set_option maxRecDepth 100000 in
set_option maxHeartbeats 8000000 in
theorem ebytes_false_true {w0 : World} (hT : Tab w0) {a0 : Ep m2} (HFM : ∀ {w : World}, Tab w → Calls Tryd.prog 11 [.agg (pcE (a0)).toArray].toArray w fun e w' => e = .returned (.bool true) ∧ Below w.heap.size w w') {A : Option Addr} {n c : Nat} (hn : n ≤ 100) (D : Ep m2) {eb : Nat → Nat}
    (CD1 : ∀ w, (Bs.of w0).kp w → Calls Tryd.prog 22 [.slice A n c].toArray w fun e w' => e = .returned (.tuple [.agg (pcE D).toArray, .bool false].toArray) ∧ Below w.heap.size w w')
    (CD2 : ∀ w, (Bs.of w0).kp w → Calls Tryd.prog 23 [.slice A n c].toArray w fun e w' => e = .returned (.tuple [.agg (pcE D).toArray, .bool false].toArray) ∧ Below w.heap.size w w')
    (CE1 : ∀ w, (Bs.of w0).kp w → Calls Tryd.prog 24 [.agg (pcE (a0)).toArray].toArray w fun e w' => ∃ r, e = .returned r ∧ Made 32 eb r w w' ∧ Below w.heap.size w w')
    (CE2 : ∀ w, (Bs.of w0).kp w → Calls Tryd.prog 26 [.agg (pcE (a0)).toArray].toArray w fun e w' => ∃ r, e = .returned r ∧ Made 32 eb r w w' ∧ Below w.heap.size w w')
    (CD3 : ∀ w g d, (Bs.of w0).kp w → BA w (some ⟨g, 0, none⟩) 32 eb → 32 ≤ d → Calls Tryd.prog 22 [.slice (some ⟨g, 0, none⟩) 32 d].toArray w fun e w' => e = .returned (.tuple [.agg (pcE a0).toArray, .bool true].toArray) ∧ Below w.heap.size w w') : Calls Tryd.prog 8 [.agg (pcE (a0)).toArray, .slice A n c].toArray w0 fun e w' => e = .returned (.bool true) ∧ Below w0.heap.size w0 w' := by
  have KK : ∀ w2, (Bs.of w0).kp w2 → (Bs.of w0).kp w2 := fun _ h => h
  have HX : ∀ k, (Bs.of w0).X k = true → k < (Bs.of w0).w.heap.size := fun k hk => by cases hk
  refine enter (args := [.agg (pcE (a0)).toArray, Value.slice (A) (n) (c)]) Tryd.func8 rfl 83 rfl (lk rfl) (fun a h => ?_)
  refine go_region h hm [eN 2 (pcE (a0)), eS 4 (.val (Value.bool false))] (by kernel_rfl) ⟨
    fun L u => u_box u (gd0 rfl) 26 (.tmp 0) rfl 2 rfl rfl rfl _ rfl,
    fun L u => u_move u (gd0 rfl) 4 rfl (.const (.bool false)) (Or.inr rfl) rfl,
    trivial⟩ [(1, .val (Value.slice (A) (n) (c))), (2, .ptr 2 0)] [(2, pcE (a0))] ⟨rfl, rfl, trivial⟩ ⟨rfl, trivial⟩ rfl (fun a w h => ?_)
  refine wp_seq ?_
  refine go_region h hm [eS 12 (.val (Value.bool true)), eS 13 (.val (Value.bool false)), eS 14 (.val (Value.bool false)), eS 15 (.val (Value.slice (A) (n) (c))), eS 16 (.val (Value.int .i64 ((n : Nat) : Int))), eS 17 (.val (Value.bool false)), eS 18 (.val (Value.bool false))] (by kernel_rfl) ⟨
    fun L u => u_call u (gd0 rfl) 12 rfl 9 #[] #[] rfl [] rfl (cE9 _) (Value.bool true) (fun w hb => awakeE_any (hT.keep (Bs.kp_of (KK _ hb)))),
    fun L u => u_not u (gd0 rfl) 13 rfl 4 (.tmp 12) rfl rfl _ rfl,
    fun L u => u_move u (gd0 rfl) 14 rfl (.tmp 13) (Or.inl rfl) rfl,
    fun L u => u_move u (gd1 u 2 false rfl 14 rfl (lk rfl) rfl) 15 rfl (.tmp 1) (Or.inl rfl) rfl,
    fun L u => u_lenV u (gd1 u 2 false rfl 14 rfl (lk rfl) rfl) 16 rfl (.tmp 15) 43 rfl rfl Tryd.underlying43,
    fun L u => u_bin u (gd1 u 2 false rfl 14 rfl (lk rfl) rfl) 17 rfl .gtr 3 3 (.tmp 16) (.const (.int .i64 100)) rfl rfl rfl (eqg_int _ _ _ _ _ _ _ _) (Value.bool false) (no_of (fun w => i_gtr _ _ _ _ w) (by omega)),
    fun L u => u_pick u (gd0 rfl) 18 rfl (.tmp 14) (.const (.bool true)) (.tmp 17) rfl rfl rfl rfl _ rfl,
    trivial⟩ [(1, .val (Value.slice (A) (n) (c))), (2, .ptr 2 0), (18, .val (Value.bool false))] [(2, pcE (a0))] ⟨rfl, rfl, rfl, trivial⟩ ⟨rfl, trivial⟩ rfl (fun a w h => ?_)
  refine go_cond h false rfl (fun ht => ?_) (fun hf => ?_)
  case refine_1 => cases ht
  refine wp_skip ?_
  refine then_norm ?_
  refine go_region h hm [eS 21 (.val (Value.slice (A) (n) (c))), eS 22 (.val (.tuple [.agg (pcE (D)).toArray, Value.bool false].toArray)), eS 20 (.val (.tuple [.agg (pcE (D)).toArray, Value.bool false].toArray)), eS 23 (.val (.agg (pcE (D)).toArray)), eS 24 (.val (Value.bool false)), eN 5 (nz ++ nz ++ [Value.bool false]), eM 5 (pcE (D)), eS 6 (.val (Value.bool false))] (by kernel_rfl) ⟨
    fun L u => u_move u (gd0 rfl) 21 rfl (.tmp 1) (Or.inl rfl) rfl,
    fun L u => u_call u (gd0 rfl) 22 rfl 22 #[(.tmp 21)] #[43] rfl [Value.slice (A) (n) (c)] rfl (cE22 _) (.tuple [.agg (pcE (D)).toArray, Value.bool false].toArray) (fun w hb => CD1 _ (KK _ hb)),
    fun L u => u_move u (gd0 rfl) 20 rfl (.tmp 22) (Or.inl rfl) rfl,
    fun L u => u_part u (gd0 rfl) 23 rfl (.tmp 20) 0 rfl (vs := [.agg (pcE (D)).toArray, Value.bool false]) rfl _ rfl,
    fun L u => u_part u (gd0 rfl) 24 rfl (.tmp 20) 1 rfl (vs := [.agg (pcE (D)).toArray, Value.bool false]) rfl _ rfl,
    fun L u => u_alloc u (gd0 rfl) 26 rfl 5 rfl rfl z26 _ rfl,
    fun L u => u_store u (gd0 rfl) 26 (.tmp 5) (.tmp 23) rfl rfl rfl (vs := pcE (D)) rfl rfl i26 (lk rfl) rfl _ rfl,
    fun L u => u_move u (gd0 rfl) 6 rfl (.tmp 24) (Or.inr rfl) rfl,
    trivial⟩ [(1, .val (Value.slice (A) (n) (c))), (2, .ptr 2 0), (5, .ptr 5 0), (6, .val (Value.bool false))] [(2, pcE (a0)), (5, pcE (D))] ⟨rfl, rfl, rfl, rfl, trivial⟩ ⟨rfl, rfl, trivial⟩ rfl (fun a w h => ?_)
  refine go_region h hm [eS 26 (.val (Value.slice (A) (n) (c))), eS 27 (.val (.tuple [.agg (pcE (D)).toArray, Value.bool false].toArray)), eS 25 (.val (.tuple [.agg (pcE (D)).toArray, Value.bool false].toArray)), eS 28 (.val (.agg (pcE (D)).toArray)), eS 29 (.val (Value.bool false)), eN 7 (nz ++ nz ++ [Value.bool false]), eM 7 (pcE (D)), eS 8 (.val (Value.bool false))] (by kernel_rfl) ⟨
    fun L u => u_move u (gd0 rfl) 26 rfl (.tmp 1) (Or.inl rfl) rfl,
    fun L u => u_call u (gd0 rfl) 27 rfl 23 #[(.tmp 26)] #[43] rfl [Value.slice (A) (n) (c)] rfl (cE23 _) (.tuple [.agg (pcE (D)).toArray, Value.bool false].toArray) (fun w hb => CD2 _ (KK _ hb)),
    fun L u => u_move u (gd0 rfl) 25 rfl (.tmp 27) (Or.inl rfl) rfl,
    fun L u => u_part u (gd0 rfl) 28 rfl (.tmp 25) 0 rfl (vs := [.agg (pcE (D)).toArray, Value.bool false]) rfl _ rfl,
    fun L u => u_part u (gd0 rfl) 29 rfl (.tmp 25) 1 rfl (vs := [.agg (pcE (D)).toArray, Value.bool false]) rfl _ rfl,
    fun L u => u_alloc u (gd0 rfl) 26 rfl 7 rfl rfl z26 _ rfl,
    fun L u => u_store u (gd0 rfl) 26 (.tmp 7) (.tmp 28) rfl rfl rfl (vs := pcE (D)) rfl rfl i26 (lk rfl) rfl _ rfl,
    fun L u => u_move u (gd0 rfl) 8 rfl (.tmp 29) (Or.inr rfl) rfl,
    trivial⟩ [(1, .val (Value.slice (A) (n) (c))), (2, .ptr 2 0), (5, .ptr 5 0), (6, .val (Value.bool false)), (7, .ptr 7 0), (8, .val (Value.bool false))] [(2, pcE (a0)), (5, pcE (D)), (7, pcE (D))] ⟨rfl, rfl, rfl, rfl, rfl, rfl, trivial⟩ ⟨rfl, rfl, rfl, trivial⟩ rfl (fun a w h => ?_)
  refine wp_seq ?_
  refine sq_begin [0, 1, 2] rfl ?_
  refine sq_step h (i := 0) rfl (u_load (xs := []) (up_seq (i := 0) (by kernel_rfl) rfl) (gd0 rfl) 30 rfl 26 (.tmp 2) rfl rfl rfl Tryd.underlying26 rfl i26 (lk rfl) _ rfl) (fun a w h => ?_)
  refine sq_call h HX (i := 1) rfl (gq0 rfl) 31 rfl 24 #[(.tmp 30)] #[26] rfl [.agg (pcE (a0)).toArray] rfl (cE24 _) (fun r w1 w2 => Made 32 eb r w1 w2) (fun hb => Calls.mono (CE1 _ (KK _ hb)) (fun _ _ ⟨r, h1, h2, h3⟩ => ⟨r, h1, h2, h3⟩)) (fun r a w W2 hR KW HN HX2 hw h => ?_)
  obtain ⟨g1, c1, rfl, hge1, hB1, hc1⟩ := hR
  have HG1 : ∀ w2, W2.kp w2 → BA w2 (some ⟨g1, 0, none⟩) 32 eb := fun w2 h2 => BA.re hw h2 hB1 (fun p hp => by cases hp; exact HN _ hge1)
  replace KK : ∀ w2, W2.kp w2 → (Bs.of w0).kp w2 := fun w2 h2 => KK w2 (KW w2 h2)
  replace HX := HX2
  clear KW HN HX2 hw hB1 hge1
  replace h := h.keep [(1, .val (Value.slice (A) (n) (c))), (2, .ptr 2 0), (5, .ptr 5 0), (6, .val (Value.bool false)), (7, .ptr 7 0), (8, .val (Value.bool false)), (30, .val (.agg (pcE (a0)).toArray)), (31, .val (Value.slice (some ⟨g1, 0, none⟩) (32) (c1)))] [(2, pcE (a0)), (5, pcE (D)), (7, pcE (D))] ⟨rfl, rfl, rfl, rfl, rfl, rfl, rfl, rfl, trivial⟩ ⟨rfl, rfl, rfl, trivial⟩ rfl
  refine sq_step h (i := 2) rfl (u_move (xs := []) (up_seq (i := 2) (by kernel_rfl) rfl) (gd0 rfl) 9 rfl (.tmp 31) (Or.inr rfl) rfl) (fun a w h => ?_)
  replace h := h.keep [(1, .val (Value.slice (A) (n) (c))), (2, .ptr 2 0), (5, .ptr 5 0), (6, .val (Value.bool false)), (7, .ptr 7 0), (8, .val (Value.bool false)), (9, .val (Value.slice (some ⟨g1, 0, none⟩) (32) (c1)))] [(2, pcE (a0)), (5, pcE (D)), (7, pcE (D))] ⟨rfl, rfl, rfl, rfl, rfl, rfl, rfl, trivial⟩ ⟨rfl, rfl, rfl, trivial⟩ rfl
  refine sq_end ?_
  refine then_norm ?_
  refine go_region h hm [eS 33 (.val (Value.slice (some ⟨g1, 0, none⟩) (32) (c1))), eS 34 (.val (.tuple [.agg (pcE (a0)).toArray, Value.bool true].toArray)), eS 32 (.val (.tuple [.agg (pcE (a0)).toArray, Value.bool true].toArray)), eS 35 (.val (.agg (pcE (a0)).toArray)), eS 36 (.val (Value.bool true)), eN 10 (nz ++ nz ++ [Value.bool false]), eM 10 (pcE (a0)), eS 11 (.val (Value.bool true))] (by kernel_rfl) ⟨
    fun L u => u_move u (gd0 rfl) 33 rfl (.tmp 9) (Or.inl rfl) rfl,
    fun L u => u_call u (gd0 rfl) 34 rfl 22 #[(.tmp 33)] #[43] rfl [Value.slice (some ⟨g1, 0, none⟩) (32) (c1)] rfl (cE22 _) (.tuple [.agg (pcE (a0)).toArray, Value.bool true].toArray) (fun w hb => CD3 _ _ _ (KK _ hb) (HG1 _ hb) hc1),
    fun L u => u_move u (gd0 rfl) 32 rfl (.tmp 34) (Or.inl rfl) rfl,
    fun L u => u_part u (gd0 rfl) 35 rfl (.tmp 32) 0 rfl (vs := [.agg (pcE (a0)).toArray, Value.bool true]) rfl _ rfl,
    fun L u => u_part u (gd0 rfl) 36 rfl (.tmp 32) 1 rfl (vs := [.agg (pcE (a0)).toArray, Value.bool true]) rfl _ rfl,
    fun L u => u_alloc u (gd0 rfl) 26 rfl 10 rfl rfl z26 _ rfl,
    fun L u => u_store u (gd0 rfl) 26 (.tmp 10) (.tmp 35) rfl rfl rfl (vs := pcE (a0)) rfl rfl i26 (lk rfl) rfl _ rfl,
    fun L u => u_move u (gd0 rfl) 11 rfl (.tmp 36) (Or.inr rfl) rfl,
    trivial⟩ [(1, .val (Value.slice (A) (n) (c))), (2, .ptr 2 0), (5, .ptr 5 0), (6, .val (Value.bool false)), (7, .ptr 7 0), (8, .val (Value.bool false)), (9, .val (Value.slice (some ⟨g1, 0, none⟩) (32) (c1))), (10, .ptr 10 0), (11, .val (Value.bool true))] [(2, pcE (a0)), (5, pcE (D)), (7, pcE (D)), (10, pcE (a0))] ⟨rfl, rfl, rfl, rfl, rfl, rfl, rfl, rfl, rfl, trivial⟩ ⟨rfl, rfl, rfl, rfl, trivial⟩ rfl (fun a w h => ?_)
  refine wp_seq ?_
  refine wp_seq ?_
  refine sq_begin [0, 1, 2, 3, 4, 5, 6, 7, 8, 9, 10, 11, 12, 13, 14, 15, 16, 17, 18, 19, 20, 21, 22, 23, 24] rfl ?_
  refine sq_step h (i := 0) rfl (u_load (xs := []) (up_seq (i := 0) (by kernel_rfl) rfl) (gd0 rfl) 37 rfl 26 (.tmp 5) rfl rfl rfl Tryd.underlying26 rfl i26 (lk rfl) _ rfl) (fun a w h => ?_)
  refine sq_step h (i := 1) rfl (u_load (xs := []) (up_seq (i := 1) (by kernel_rfl) rfl) (gd0 rfl) 38 rfl 26 (.tmp 7) rfl rfl rfl Tryd.underlying26 rfl i26 (lk rfl) _ rfl) (fun a w h => ?_)
  refine sq_step h (i := 2) rfl (u_neq (xs := []) (up_seq (i := 2) (by kernel_rfl) rfl) (gd0 rfl) 39 rfl 26 26 (.tmp 37) (.tmp 38) rfl rfl rfl Tryd.eqGuardType26 (true) (fun w => eq_pcE_same _ w)) (fun a w h => ?_)
  refine sq_step h (i := 3) rfl (u_move (xs := []) (up_seq (i := 3) (by kernel_rfl) rfl) (gd0 rfl) 40 rfl (.tmp 39) (Or.inl rfl) rfl) (fun a w h => ?_)
  refine sq_step h (i := 4) rfl (u_move (xs := []) (up_seq (i := 4) (by kernel_rfl) rfl) (gd1 (xs := []) (up_seq (i := 4) (by kernel_rfl) rfl) 3 false rfl 40 rfl (lk rfl) rfl) 41 rfl (.tmp 6) (Or.inl rfl) rfl) (fun a w h => ?_)
  refine sq_step h (i := 5) rfl (u_move (xs := []) (up_seq (i := 5) (by kernel_rfl) rfl) (gd1 (xs := []) (up_seq (i := 5) (by kernel_rfl) rfl) 3 false rfl 40 rfl (lk rfl) rfl) 42 rfl (.tmp 8) (Or.inl rfl) rfl) (fun a w h => ?_)
  refine sq_step h (i := 6) rfl (u_bin (xs := []) (up_seq (i := 6) (by kernel_rfl) rfl) (gd1 (xs := []) (up_seq (i := 6) (by kernel_rfl) rfl) 3 false rfl 40 rfl (lk rfl) rfl) 43 rfl .neq 4 4 (.tmp 41) (.tmp 42) rfl rfl rfl (eqg_bool _ _ _ _ _ _) (Value.bool false) (t_neq_same _ Tryd.underlying4 _)) (fun a w h => ?_)
  refine sq_step h (i := 7) rfl (u_pick (xs := []) (up_seq (i := 7) (by kernel_rfl) rfl) (gd0 rfl) 44 rfl (.tmp 40) (.const (.bool true)) (.tmp 43) rfl rfl rfl rfl _ rfl) (fun a w h => ?_)
  refine sq_step h (i := 8) rfl (u_move (xs := []) (up_seq (i := 8) (by kernel_rfl) rfl) (gd0 rfl) 45 rfl (.tmp 44) (Or.inl rfl) rfl) (fun a w h => ?_)
  refine sq_step h (i := 9) rfl (u_move (xs := []) (up_seq (i := 9) (by kernel_rfl) rfl) (gd1 (xs := []) (up_seq (i := 9) (by kernel_rfl) rfl) 8 false rfl 45 rfl (lk rfl) rfl) 46 rfl (.tmp 9) (Or.inl rfl) rfl) (fun a w h => ?_)
  refine sq_step h (i := 10) rfl (u_load (xs := []) (up_seq (i := 10) (by kernel_rfl) rfl) (gd1 (xs := []) (up_seq (i := 10) (by kernel_rfl) rfl) 8 false rfl 45 rfl (lk rfl) rfl) 47 rfl 26 (.tmp 2) rfl rfl rfl Tryd.underlying26 rfl i26 (lk rfl) _ rfl) (fun a w h => ?_)
  refine sq_call h HX (i := 11) rfl (gq1 8 false rfl rfl) 48 rfl 26 #[(.tmp 47)] #[26] rfl [.agg (pcE (a0)).toArray] rfl (cE26 _) (fun r w1 w2 => Made 32 eb r w1 w2) (fun hb => Calls.mono (CE2 _ (KK _ hb)) (fun _ _ ⟨r, h1, h2, h3⟩ => ⟨r, h1, h2, h3⟩)) (fun r a w W2 hR KW HN HX2 hw h => ?_)
  obtain ⟨g2, c2, rfl, hge2, hB2, hc2⟩ := hR
  have HG2 : ∀ w2, W2.kp w2 → BA w2 (some ⟨g2, 0, none⟩) 32 eb := fun w2 h2 => BA.re hw h2 hB2 (fun p hp => by cases hp; exact HN _ hge2)
  replace HG1 : ∀ w2, W2.kp w2 → BA w2 (some ⟨g1, 0, none⟩) 32 eb := fun w2 h2 => HG1 w2 (KW w2 h2)
  replace KK : ∀ w2, W2.kp w2 → (Bs.of w0).kp w2 := fun w2 h2 => KK w2 (KW w2 h2)
  replace HX := HX2
  clear KW HN HX2 hw hB2 hge2
  replace h := h.keep [(1, .val (Value.slice (A) (n) (c))), (2, .ptr 2 0), (5, .ptr 5 0), (6, .val (Value.bool false)), (7, .ptr 7 0), (8, .val (Value.bool false)), (9, .val (Value.slice (some ⟨g1, 0, none⟩) (32) (c1))), (10, .ptr 10 0), (11, .val (Value.bool true)), (37, .val (.agg (pcE (D)).toArray)), (38, .val (.agg (pcE (D)).toArray)), (39, .val (Value.bool false)), (40, .val (Value.bool false)), (41, .val (Value.bool false)), (42, .val (Value.bool false)), (43, .val (Value.bool false)), (44, .val (Value.bool false)), (45, .val (Value.bool false)), (46, .val (Value.slice (some ⟨g1, 0, none⟩) (32) (c1))), (47, .val (.agg (pcE (a0)).toArray)), (48, .val (Value.slice (some ⟨g2, 0, none⟩) (32) (c2)))] [(2, pcE (a0)), (5, pcE (D)), (7, pcE (D)), (10, pcE (a0))] ⟨rfl, rfl, rfl, rfl, rfl, rfl, rfl, rfl, rfl, rfl, rfl, rfl, rfl, rfl, rfl, rfl, rfl, rfl, rfl, rfl, rfl, trivial⟩ ⟨rfl, rfl, rfl, rfl, trivial⟩ rfl
  refine sq_step h (i := 12) rfl (u_call (xs := []) (up_seq (i := 12) (by kernel_rfl) rfl) (gd1 (xs := []) (up_seq (i := 12) (by kernel_rfl) rfl) 8 false rfl 45 rfl (lk rfl) rfl) 49 rfl 25 #[(.tmp 46), (.tmp 48)] #[43, 43] rfl [Value.slice (some ⟨g1, 0, none⟩) (32) (c1), Value.slice (some ⟨g2, 0, none⟩) (32) (c2)] rfl (cE25 _) (Value.bool true) (fun w hb => same_ba (by omega) (HG1 _ hb) (HG2 _ hb))) (fun a w h => ?_)
  refine sq_step h (i := 13) rfl (u_not (xs := []) (up_seq (i := 13) (by kernel_rfl) rfl) (gd1 (xs := []) (up_seq (i := 13) (by kernel_rfl) rfl) 8 false rfl 45 rfl (lk rfl) rfl) 50 rfl 4 (.tmp 49) rfl rfl _ rfl) (fun a w h => ?_)
  refine sq_step h (i := 14) rfl (u_pick (xs := []) (up_seq (i := 14) (by kernel_rfl) rfl) (gd0 rfl) 51 rfl (.tmp 45) (.const (.bool true)) (.tmp 50) rfl rfl rfl rfl _ rfl) (fun a w h => ?_)
  refine sq_step h (i := 15) rfl (u_move (xs := []) (up_seq (i := 15) (by kernel_rfl) rfl) (gd0 rfl) 52 rfl (.tmp 51) (Or.inl rfl) rfl) (fun a w h => ?_)
  refine sq_step h (i := 16) rfl (u_move (xs := []) (up_seq (i := 16) (by kernel_rfl) rfl) (gd1 (xs := []) (up_seq (i := 16) (by kernel_rfl) rfl) 15 false rfl 52 rfl (lk rfl) rfl) 53 rfl (.tmp 6) (Or.inl rfl) rfl) (fun a w h => ?_)
  refine sq_step h (i := 17) rfl (u_move (xs := []) (up_seq (i := 17) (by kernel_rfl) rfl) (gd1 (xs := []) (up_seq (i := 17) (by kernel_rfl) rfl) 15 false rfl 52 rfl (lk rfl) rfl) 54 rfl (.tmp 53) (Or.inl rfl) rfl) (fun a w h => ?_)
  refine sq_step h (i := 18) rfl (u_no (xs := []) (up_seq (i := 18) (by kernel_rfl) rfl) 17 true rfl 54 rfl (lk rfl) rfl 55 rfl) (fun a w h => ?_)
  refine sq_step h (i := 19) rfl (u_no (xs := []) (up_seq (i := 19) (by kernel_rfl) rfl) 17 true rfl 54 rfl (lk rfl) rfl 56 rfl) (fun a w h => ?_)
  refine sq_step h (i := 20) rfl (u_no (xs := []) (up_seq (i := 20) (by kernel_rfl) rfl) 17 true rfl 54 rfl (lk rfl) rfl 57 rfl) (fun a w h => ?_)
  refine sq_step h (i := 21) rfl (u_no (xs := []) (up_seq (i := 21) (by kernel_rfl) rfl) 17 true rfl 54 rfl (lk rfl) rfl 58 rfl) (fun a w h => ?_)
  refine sq_step h (i := 22) rfl (u_no (xs := []) (up_seq (i := 22) (by kernel_rfl) rfl) 17 true rfl 54 rfl (lk rfl) rfl 59 rfl) (fun a w h => ?_)
  refine sq_step h (i := 23) rfl (u_pick (xs := []) (up_seq (i := 23) (by kernel_rfl) rfl) (gd1 (xs := []) (up_seq (i := 23) (by kernel_rfl) rfl) 15 false rfl 52 rfl (lk rfl) rfl) 60 rfl (.tmp 54) (.tmp 59) (.const (.bool false)) rfl rfl rfl rfl _ rfl) (fun a w h => ?_)
  refine sq_step h (i := 24) rfl (u_pick (xs := []) (up_seq (i := 24) (by kernel_rfl) rfl) (gd0 rfl) 61 rfl (.tmp 52) (.const (.bool true)) (.tmp 60) rfl rfl rfl rfl _ rfl) (fun a w h => ?_)
  replace h := h.keep [(2, .ptr 2 0), (10, .ptr 10 0), (11, .val (Value.bool true)), (61, .val (Value.bool false))] [(2, pcE (a0)), (10, pcE (a0))] ⟨rfl, rfl, rfl, rfl, trivial⟩ ⟨rfl, rfl, trivial⟩ rfl
  refine sq_end ?_
  refine then_norm ?_
  refine go_cond h false rfl (fun ht => ?_) (fun hf => ?_)
  case refine_1 => cases ht
  refine wp_skip ?_
  refine then_norm ?_
  refine go_region h hm [eS 62 (.val (Value.bool true)), eS 63 (.val (Value.bool true)), eS 64 (.val (.agg (pcE (a0)).toArray)), eS 65 (.val (Value.bool true)), eS 66 (.val (Value.bool false)), eS 67 (.val (Value.bool false)), eS 68 (.val (.agg (pcE (a0)).toArray)), eS 69 (.val (.agg (pcE (a0)).toArray)), eS 70 (.val (Value.bool true)), eS 71 (.val (Value.bool true)), eS 72 (.val (Value.bool true)), eS 73 (.val (Value.bool true)), eS 74 (.val (.agg (pcE (a0)).toArray)), eS 75 (.val (Value.bool true)), eS 76 (.val (Value.bool true)), eS 77 (.val undef), eS 78 (.val undef), eS 79 (.val undef), eS 80 (.val undef), eS 81 (.val (Value.bool true)), eS 82 (.val (Value.bool true)), eS 4 (.val (Value.bool true))] (by kernel_rfl) ⟨
    fun L u => u_move u (gd0 rfl) 62 rfl (.tmp 11) (Or.inl rfl) rfl,
    fun L u => u_move u (gd0 rfl) 63 rfl (.tmp 62) (Or.inl rfl) rfl,
    fun L u => u_load u (gd1 u 1 true rfl 63 rfl (lk rfl) rfl) 64 rfl 26 (.tmp 2) rfl rfl rfl Tryd.underlying26 rfl i26 (lk rfl) _ rfl,
    fun L u => u_call u (gd1 u 1 true rfl 63 rfl (lk rfl) rfl) 65 rfl 11 #[(.tmp 64)] #[26] rfl [.agg (pcE (a0)).toArray] rfl (cE11 _) (Value.bool true) (fun w hb => HFM (hT.keep (Bs.kp_of (KK _ hb)))),
    fun L u => u_not u (gd1 u 1 true rfl 63 rfl (lk rfl) rfl) 66 rfl 4 (.tmp 65) rfl rfl _ rfl,
    fun L u => u_move u (gd1 u 1 true rfl 63 rfl (lk rfl) rfl) 67 rfl (.tmp 66) (Or.inl rfl) rfl,
    fun L u => u_load u (gd1 u 5 false rfl 67 rfl (lk rfl) rfl) 68 rfl 26 (.tmp 10) rfl rfl rfl Tryd.underlying26 rfl i26 (lk rfl) _ rfl,
    fun L u => u_load u (gd1 u 5 false rfl 67 rfl (lk rfl) rfl) 69 rfl 26 (.tmp 2) rfl rfl rfl Tryd.underlying26 rfl i26 (lk rfl) _ rfl,
    fun L u => u_eql u (gd1 u 5 false rfl 67 rfl (lk rfl) rfl) 70 rfl 26 26 (.tmp 68) (.tmp 69) rfl rfl rfl Tryd.eqGuardType26 (true) (fun w => eq_pcE_same _ w),
    fun L u => u_pick u (gd1 u 1 true rfl 63 rfl (lk rfl) rfl) 71 rfl (.tmp 67) (.const (.bool true)) (.tmp 70) rfl rfl rfl rfl _ rfl,
    fun L u => u_pick u (gd0 rfl) 72 rfl (.tmp 63) (.tmp 71) (.const (.bool false)) rfl rfl rfl rfl _ rfl,
    fun L u => u_move u (gd0 rfl) 73 rfl (.tmp 72) (Or.inl rfl) rfl,
    fun L u => u_load u (gd1 u 11 true rfl 73 rfl (lk rfl) rfl) 74 rfl 26 (.tmp 2) rfl rfl rfl Tryd.underlying26 rfl i26 (lk rfl) _ rfl,
    fun L u => u_call u (gd1 u 11 true rfl 73 rfl (lk rfl) rfl) 75 rfl 11 #[(.tmp 74)] #[26] rfl [.agg (pcE (a0)).toArray] rfl (cE11 _) (Value.bool true) (fun w hb => HFM (hT.keep (Bs.kp_of (KK _ hb)))),
    fun L u => u_move u (gd1 u 11 true rfl 73 rfl (lk rfl) rfl) 76 rfl (.tmp 75) (Or.inl rfl) rfl,
    fun L u => u_no u 14 false rfl 76 rfl (lk rfl) rfl 77 rfl,
    fun L u => u_no u 14 false rfl 76 rfl (lk rfl) rfl 78 rfl,
    fun L u => u_no u 14 false rfl 76 rfl (lk rfl) rfl 79 rfl,
    fun L u => u_no u 14 false rfl 76 rfl (lk rfl) rfl 80 rfl,
    fun L u => u_pick u (gd1 u 11 true rfl 73 rfl (lk rfl) rfl) 81 rfl (.tmp 76) (.const (.bool true)) (.tmp 80) rfl rfl rfl rfl _ rfl,
    fun L u => u_pick u (gd0 rfl) 82 rfl (.tmp 73) (.tmp 81) (.const (.bool false)) rfl rfl rfl rfl _ rfl,
    fun L u => u_move u (gd0 rfl) 4 rfl (.tmp 82) (Or.inr rfl) rfl,
    trivial⟩ [(4, .val (Value.bool true))] [] ⟨rfl, trivial⟩ trivial rfl (fun a w h => ?_)
  refine wp_ret ?_
  refine ret_slot h 4 rfl (lk rfl) (Value.bool true) rfl ?_
  exact ⟨rfl, Bs.kp_of (KK _ h.below)⟩
set_option maxRecDepth 100000 in
set_option maxHeartbeats 8000000 in
theorem ebytes_false_false {w0 : World} (hT : Tab w0) {X Y : Int} {t : Bool} (HFM : ∀ {w : World}, Tab w → Calls Tryd.prog 11 [.agg (rc X Y t).toArray].toArray w fun e w' => e = .returned (.bool false) ∧ Below w.heap.size w w') {A : Option Addr} {n c : Nat} (hn : n ≤ 100) (D : Ep m2) {eb : Nat → Nat}
    (CD1 : ∀ w, (Bs.of w0).kp w → Calls Tryd.prog 22 [.slice A n c].toArray w fun e w' => e = .returned (.tuple [.agg (pcE D).toArray, .bool false].toArray) ∧ Below w.heap.size w w')
    (CD2 : ∀ w, (Bs.of w0).kp w → Calls Tryd.prog 23 [.slice A n c].toArray w fun e w' => e = .returned (.tuple [.agg (pcE D).toArray, .bool false].toArray) ∧ Below w.heap.size w w')
    (CE1 : ∀ w, (Bs.of w0).kp w → Calls Tryd.prog 24 [.agg (rc X Y t).toArray].toArray w fun e w' => ∃ r, e = .returned r ∧ Made 32 eb r w w' ∧ Below w.heap.size w w')
    (CE2 : ∀ w, (Bs.of w0).kp w → Calls Tryd.prog 26 [.agg (rc X Y t).toArray].toArray w fun e w' => ∃ r, e = .returned r ∧ Made 32 eb r w w' ∧ Below w.heap.size w w')
    (CD3 : ∀ w g d, (Bs.of w0).kp w → BA w (some ⟨g, 0, none⟩) 32 eb → 32 ≤ d → Calls Tryd.prog 22 [.slice (some ⟨g, 0, none⟩) 32 d].toArray w fun e w' => e = .returned (.tuple [.agg (pcE (Ep.o m2)).toArray, .bool true].toArray) ∧ Below w.heap.size w w') : Calls Tryd.prog 8 [.agg (rc X Y t).toArray, .slice A n c].toArray w0 fun e w' => e = .returned (.bool true) ∧ Below w0.heap.size w0 w' := by
  have KK : ∀ w2, (Bs.of w0).kp w2 → (Bs.of w0).kp w2 := fun _ h => h
  have HX : ∀ k, (Bs.of w0).X k = true → k < (Bs.of w0).w.heap.size := fun k hk => by cases hk
  refine enter (args := [.agg (rc X Y t).toArray, Value.slice (A) (n) (c)]) Tryd.func8 rfl 83 rfl (lk rfl) (fun a h => ?_)
  refine go_region h hm [eN 2 (rc X Y t), eS 4 (.val (Value.bool false))] (by kernel_rfl) ⟨
    fun L u => u_box u (gd0 rfl) 26 (.tmp 0) rfl 2 rfl rfl rfl _ rfl,
    fun L u => u_move u (gd0 rfl) 4 rfl (.const (.bool false)) (Or.inr rfl) rfl,
    trivial⟩ [(1, .val (Value.slice (A) (n) (c))), (2, .ptr 2 0)] [(2, rc X Y t)] ⟨rfl, rfl, trivial⟩ ⟨rfl, trivial⟩ rfl (fun a w h => ?_)
  refine wp_seq ?_
  refine go_region h hm [eS 12 (.val (Value.bool true)), eS 13 (.val (Value.bool false)), eS 14 (.val (Value.bool false)), eS 15 (.val (Value.slice (A) (n) (c))), eS 16 (.val (Value.int .i64 ((n : Nat) : Int))), eS 17 (.val (Value.bool false)), eS 18 (.val (Value.bool false))] (by kernel_rfl) ⟨
    fun L u => u_call u (gd0 rfl) 12 rfl 9 #[] #[] rfl [] rfl (cE9 _) (Value.bool true) (fun w hb => awakeE_any (hT.keep (Bs.kp_of (KK _ hb)))),
    fun L u => u_not u (gd0 rfl) 13 rfl 4 (.tmp 12) rfl rfl _ rfl,
    fun L u => u_move u (gd0 rfl) 14 rfl (.tmp 13) (Or.inl rfl) rfl,
    fun L u => u_move u (gd1 u 2 false rfl 14 rfl (lk rfl) rfl) 15 rfl (.tmp 1) (Or.inl rfl) rfl,
    fun L u => u_lenV u (gd1 u 2 false rfl 14 rfl (lk rfl) rfl) 16 rfl (.tmp 15) 43 rfl rfl Tryd.underlying43,
    fun L u => u_bin u (gd1 u 2 false rfl 14 rfl (lk rfl) rfl) 17 rfl .gtr 3 3 (.tmp 16) (.const (.int .i64 100)) rfl rfl rfl (eqg_int _ _ _ _ _ _ _ _) (Value.bool false) (no_of (fun w => i_gtr _ _ _ _ w) (by omega)),
    fun L u => u_pick u (gd0 rfl) 18 rfl (.tmp 14) (.const (.bool true)) (.tmp 17) rfl rfl rfl rfl _ rfl,
    trivial⟩ [(1, .val (Value.slice (A) (n) (c))), (2, .ptr 2 0), (18, .val (Value.bool false))] [(2, rc X Y t)] ⟨rfl, rfl, rfl, trivial⟩ ⟨rfl, trivial⟩ rfl (fun a w h => ?_)
  refine go_cond h false rfl (fun ht => ?_) (fun hf => ?_)
  case refine_1 => cases ht
  refine wp_skip ?_
  refine then_norm ?_
  refine go_region h hm [eS 21 (.val (Value.slice (A) (n) (c))), eS 22 (.val (.tuple [.agg (pcE (D)).toArray, Value.bool false].toArray)), eS 20 (.val (.tuple [.agg (pcE (D)).toArray, Value.bool false].toArray)), eS 23 (.val (.agg (pcE (D)).toArray)), eS 24 (.val (Value.bool false)), eN 5 (nz ++ nz ++ [Value.bool false]), eM 5 (pcE (D)), eS 6 (.val (Value.bool false))] (by kernel_rfl) ⟨
    fun L u => u_move u (gd0 rfl) 21 rfl (.tmp 1) (Or.inl rfl) rfl,
    fun L u => u_call u (gd0 rfl) 22 rfl 22 #[(.tmp 21)] #[43] rfl [Value.slice (A) (n) (c)] rfl (cE22 _) (.tuple [.agg (pcE (D)).toArray, Value.bool false].toArray) (fun w hb => CD1 _ (KK _ hb)),
    fun L u => u_move u (gd0 rfl) 20 rfl (.tmp 22) (Or.inl rfl) rfl,
    fun L u => u_part u (gd0 rfl) 23 rfl (.tmp 20) 0 rfl (vs := [.agg (pcE (D)).toArray, Value.bool false]) rfl _ rfl,
    fun L u => u_part u (gd0 rfl) 24 rfl (.tmp 20) 1 rfl (vs := [.agg (pcE (D)).toArray, Value.bool false]) rfl _ rfl,
    fun L u => u_alloc u (gd0 rfl) 26 rfl 5 rfl rfl z26 _ rfl,
    fun L u => u_store u (gd0 rfl) 26 (.tmp 5) (.tmp 23) rfl rfl rfl (vs := pcE (D)) rfl rfl i26 (lk rfl) rfl _ rfl,
    fun L u => u_move u (gd0 rfl) 6 rfl (.tmp 24) (Or.inr rfl) rfl,
    trivial⟩ [(1, .val (Value.slice (A) (n) (c))), (2, .ptr 2 0), (5, .ptr 5 0), (6, .val (Value.bool false))] [(2, rc X Y t), (5, pcE (D))] ⟨rfl, rfl, rfl, rfl, trivial⟩ ⟨rfl, rfl, trivial⟩ rfl (fun a w h => ?_)
  refine go_region h hm [eS 26 (.val (Value.slice (A) (n) (c))), eS 27 (.val (.tuple [.agg (pcE (D)).toArray, Value.bool false].toArray)), eS 25 (.val (.tuple [.agg (pcE (D)).toArray, Value.bool false].toArray)), eS 28 (.val (.agg (pcE (D)).toArray)), eS 29 (.val (Value.bool false)), eN 7 (nz ++ nz ++ [Value.bool false]), eM 7 (pcE (D)), eS 8 (.val (Value.bool false))] (by kernel_rfl) ⟨
    fun L u => u_move u (gd0 rfl) 26 rfl (.tmp 1) (Or.inl rfl) rfl,
    fun L u => u_call u (gd0 rfl) 27 rfl 23 #[(.tmp 26)] #[43] rfl [Value.slice (A) (n) (c)] rfl (cE23 _) (.tuple [.agg (pcE (D)).toArray, Value.bool false].toArray) (fun w hb => CD2 _ (KK _ hb)),
    fun L u => u_move u (gd0 rfl) 25 rfl (.tmp 27) (Or.inl rfl) rfl,
    fun L u => u_part u (gd0 rfl) 28 rfl (.tmp 25) 0 rfl (vs := [.agg (pcE (D)).toArray, Value.bool false]) rfl _ rfl,
    fun L u => u_part u (gd0 rfl) 29 rfl (.tmp 25) 1 rfl (vs := [.agg (pcE (D)).toArray, Value.bool false]) rfl _ rfl,
    fun L u => u_alloc u (gd0 rfl) 26 rfl 7 rfl rfl z26 _ rfl,
    fun L u => u_store u (gd0 rfl) 26 (.tmp 7) (.tmp 28) rfl rfl rfl (vs := pcE (D)) rfl rfl i26 (lk rfl) rfl _ rfl,
    fun L u => u_move u (gd0 rfl) 8 rfl (.tmp 29) (Or.inr rfl) rfl,
    trivial⟩ [(1, .val (Value.slice (A) (n) (c))), (2, .ptr 2 0), (5, .ptr 5 0), (6, .val (Value.bool false)), (7, .ptr 7 0), (8, .val (Value.bool false))] [(2, rc X Y t), (5, pcE (D)), (7, pcE (D))] ⟨rfl, rfl, rfl, rfl, rfl, rfl, trivial⟩ ⟨rfl, rfl, rfl, trivial⟩ rfl (fun a w h => ?_)
  refine wp_seq ?_
  refine sq_begin [0, 1, 2] rfl ?_
  refine sq_step h (i := 0) rfl (u_load (xs := []) (up_seq (i := 0) (by kernel_rfl) rfl) (gd0 rfl) 30 rfl 26 (.tmp 2) rfl rfl rfl Tryd.underlying26 rfl i26 (lk rfl) _ rfl) (fun a w h => ?_)
  refine sq_call h HX (i := 1) rfl (gq0 rfl) 31 rfl 24 #[(.tmp 30)] #[26] rfl [.agg (rc X Y t).toArray] rfl (cE24 _) (fun r w1 w2 => Made 32 eb r w1 w2) (fun hb => Calls.mono (CE1 _ (KK _ hb)) (fun _ _ ⟨r, h1, h2, h3⟩ => ⟨r, h1, h2, h3⟩)) (fun r a w W2 hR KW HN HX2 hw h => ?_)
  obtain ⟨g1, c1, rfl, hge1, hB1, hc1⟩ := hR
  have HG1 : ∀ w2, W2.kp w2 → BA w2 (some ⟨g1, 0, none⟩) 32 eb := fun w2 h2 => BA.re hw h2 hB1 (fun p hp => by cases hp; exact HN _ hge1)
  replace KK : ∀ w2, W2.kp w2 → (Bs.of w0).kp w2 := fun w2 h2 => KK w2 (KW w2 h2)
  replace HX := HX2
  clear KW HN HX2 hw hB1 hge1
  replace h := h.keep [(1, .val (Value.slice (A) (n) (c))), (2, .ptr 2 0), (5, .ptr 5 0), (6, .val (Value.bool false)), (7, .ptr 7 0), (8, .val (Value.bool false)), (30, .val (.agg (rc X Y t).toArray)), (31, .val (Value.slice (some ⟨g1, 0, none⟩) (32) (c1)))] [(2, rc X Y t), (5, pcE (D)), (7, pcE (D))] ⟨rfl, rfl, rfl, rfl, rfl, rfl, rfl, rfl, trivial⟩ ⟨rfl, rfl, rfl, trivial⟩ rfl
  refine sq_step h (i := 2) rfl (u_move (xs := []) (up_seq (i := 2) (by kernel_rfl) rfl) (gd0 rfl) 9 rfl (.tmp 31) (Or.inr rfl) rfl) (fun a w h => ?_)
  replace h := h.keep [(1, .val (Value.slice (A) (n) (c))), (2, .ptr 2 0), (5, .ptr 5 0), (6, .val (Value.bool false)), (7, .ptr 7 0), (8, .val (Value.bool false)), (9, .val (Value.slice (some ⟨g1, 0, none⟩) (32) (c1)))] [(2, rc X Y t), (5, pcE (D)), (7, pcE (D))] ⟨rfl, rfl, rfl, rfl, rfl, rfl, rfl, trivial⟩ ⟨rfl, rfl, rfl, trivial⟩ rfl
  refine sq_end ?_
  refine then_norm ?_
  refine go_region h hm [eS 33 (.val (Value.slice (some ⟨g1, 0, none⟩) (32) (c1))), eS 34 (.val (.tuple [.agg (pcE (Ep.o m2)).toArray, Value.bool true].toArray)), eS 32 (.val (.tuple [.agg (pcE (Ep.o m2)).toArray, Value.bool true].toArray)), eS 35 (.val (.agg (pcE (Ep.o m2)).toArray)), eS 36 (.val (Value.bool true)), eN 10 (nz ++ nz ++ [Value.bool false]), eM 10 (pcE (Ep.o m2)), eS 11 (.val (Value.bool true))] (by kernel_rfl) ⟨
    fun L u => u_move u (gd0 rfl) 33 rfl (.tmp 9) (Or.inl rfl) rfl,
    fun L u => u_call u (gd0 rfl) 34 rfl 22 #[(.tmp 33)] #[43] rfl [Value.slice (some ⟨g1, 0, none⟩) (32) (c1)] rfl (cE22 _) (.tuple [.agg (pcE (Ep.o m2)).toArray, Value.bool true].toArray) (fun w hb => CD3 _ _ _ (KK _ hb) (HG1 _ hb) hc1),
    fun L u => u_move u (gd0 rfl) 32 rfl (.tmp 34) (Or.inl rfl) rfl,
    fun L u => u_part u (gd0 rfl) 35 rfl (.tmp 32) 0 rfl (vs := [.agg (pcE (Ep.o m2)).toArray, Value.bool true]) rfl _ rfl,
    fun L u => u_part u (gd0 rfl) 36 rfl (.tmp 32) 1 rfl (vs := [.agg (pcE (Ep.o m2)).toArray, Value.bool true]) rfl _ rfl,
    fun L u => u_alloc u (gd0 rfl) 26 rfl 10 rfl rfl z26 _ rfl,
    fun L u => u_store u (gd0 rfl) 26 (.tmp 10) (.tmp 35) rfl rfl rfl (vs := pcE (Ep.o m2)) rfl rfl i26 (lk rfl) rfl _ rfl,
    fun L u => u_move u (gd0 rfl) 11 rfl (.tmp 36) (Or.inr rfl) rfl,
    trivial⟩ [(1, .val (Value.slice (A) (n) (c))), (2, .ptr 2 0), (5, .ptr 5 0), (6, .val (Value.bool false)), (7, .ptr 7 0), (8, .val (Value.bool false)), (9, .val (Value.slice (some ⟨g1, 0, none⟩) (32) (c1))), (10, .ptr 10 0), (11, .val (Value.bool true))] [(2, rc X Y t), (5, pcE (D)), (7, pcE (D)), (10, pcE (Ep.o m2))] ⟨rfl, rfl, rfl, rfl, rfl, rfl, rfl, rfl, rfl, trivial⟩ ⟨rfl, rfl, rfl, rfl, trivial⟩ rfl (fun a w h => ?_)
  refine wp_seq ?_
  refine wp_seq ?_
  refine sq_begin [0, 1, 2, 3, 4, 5, 6, 7, 8, 9, 10, 11, 12, 13, 14, 15, 16, 17, 18, 19, 20, 21, 22, 23, 24] rfl ?_
  refine sq_step h (i := 0) rfl (u_load (xs := []) (up_seq (i := 0) (by kernel_rfl) rfl) (gd0 rfl) 37 rfl 26 (.tmp 5) rfl rfl rfl Tryd.underlying26 rfl i26 (lk rfl) _ rfl) (fun a w h => ?_)
  refine sq_step h (i := 1) rfl (u_load (xs := []) (up_seq (i := 1) (by kernel_rfl) rfl) (gd0 rfl) 38 rfl 26 (.tmp 7) rfl rfl rfl Tryd.underlying26 rfl i26 (lk rfl) _ rfl) (fun a w h => ?_)
  refine sq_step h (i := 2) rfl (u_neq (xs := []) (up_seq (i := 2) (by kernel_rfl) rfl) (gd0 rfl) 39 rfl 26 26 (.tmp 37) (.tmp 38) rfl rfl rfl Tryd.eqGuardType26 (true) (fun w => eq_pcE_same _ w)) (fun a w h => ?_)
  refine sq_step h (i := 3) rfl (u_move (xs := []) (up_seq (i := 3) (by kernel_rfl) rfl) (gd0 rfl) 40 rfl (.tmp 39) (Or.inl rfl) rfl) (fun a w h => ?_)
  refine sq_step h (i := 4) rfl (u_move (xs := []) (up_seq (i := 4) (by kernel_rfl) rfl) (gd1 (xs := []) (up_seq (i := 4) (by kernel_rfl) rfl) 3 false rfl 40 rfl (lk rfl) rfl) 41 rfl (.tmp 6) (Or.inl rfl) rfl) (fun a w h => ?_)
  refine sq_step h (i := 5) rfl (u_move (xs := []) (up_seq (i := 5) (by kernel_rfl) rfl) (gd1 (xs := []) (up_seq (i := 5) (by kernel_rfl) rfl) 3 false rfl 40 rfl (lk rfl) rfl) 42 rfl (.tmp 8) (Or.inl rfl) rfl) (fun a w h => ?_)
  refine sq_step h (i := 6) rfl (u_bin (xs := []) (up_seq (i := 6) (by kernel_rfl) rfl) (gd1 (xs := []) (up_seq (i := 6) (by kernel_rfl) rfl) 3 false rfl 40 rfl (lk rfl) rfl) 43 rfl .neq 4 4 (.tmp 41) (.tmp 42) rfl rfl rfl (eqg_bool _ _ _ _ _ _) (Value.bool false) (t_neq_same _ Tryd.underlying4 _)) (fun a w h => ?_)
  refine sq_step h (i := 7) rfl (u_pick (xs := []) (up_seq (i := 7) (by kernel_rfl) rfl) (gd0 rfl) 44 rfl (.tmp 40) (.const (.bool true)) (.tmp 43) rfl rfl rfl rfl _ rfl) (fun a w h => ?_)
  refine sq_step h (i := 8) rfl (u_move (xs := []) (up_seq (i := 8) (by kernel_rfl) rfl) (gd0 rfl) 45 rfl (.tmp 44) (Or.inl rfl) rfl) (fun a w h => ?_)
  refine sq_step h (i := 9) rfl (u_move (xs := []) (up_seq (i := 9) (by kernel_rfl) rfl) (gd1 (xs := []) (up_seq (i := 9) (by kernel_rfl) rfl) 8 false rfl 45 rfl (lk rfl) rfl) 46 rfl (.tmp 9) (Or.inl rfl) rfl) (fun a w h => ?_)
  refine sq_step h (i := 10) rfl (u_load (xs := []) (up_seq (i := 10) (by kernel_rfl) rfl) (gd1 (xs := []) (up_seq (i := 10) (by kernel_rfl) rfl) 8 false rfl 45 rfl (lk rfl) rfl) 47 rfl 26 (.tmp 2) rfl rfl rfl Tryd.underlying26 rfl i26 (lk rfl) _ rfl) (fun a w h => ?_)
  refine sq_call h HX (i := 11) rfl (gq1 8 false rfl rfl) 48 rfl 26 #[(.tmp 47)] #[26] rfl [.agg (rc X Y t).toArray] rfl (cE26 _) (fun r w1 w2 => Made 32 eb r w1 w2) (fun hb => Calls.mono (CE2 _ (KK _ hb)) (fun _ _ ⟨r, h1, h2, h3⟩ => ⟨r, h1, h2, h3⟩)) (fun r a w W2 hR KW HN HX2 hw h => ?_)
  obtain ⟨g2, c2, rfl, hge2, hB2, hc2⟩ := hR
  have HG2 : ∀ w2, W2.kp w2 → BA w2 (some ⟨g2, 0, none⟩) 32 eb := fun w2 h2 => BA.re hw h2 hB2 (fun p hp => by cases hp; exact HN _ hge2)
  replace HG1 : ∀ w2, W2.kp w2 → BA w2 (some ⟨g1, 0, none⟩) 32 eb := fun w2 h2 => HG1 w2 (KW w2 h2)
  replace KK : ∀ w2, W2.kp w2 → (Bs.of w0).kp w2 := fun w2 h2 => KK w2 (KW w2 h2)
  replace HX := HX2
  clear KW HN HX2 hw hB2 hge2
  replace h := h.keep [(1, .val (Value.slice (A) (n) (c))), (2, .ptr 2 0), (5, .ptr 5 0), (6, .val (Value.bool false)), (7, .ptr 7 0), (8, .val (Value.bool false)), (9, .val (Value.slice (some ⟨g1, 0, none⟩) (32) (c1))), (10, .ptr 10 0), (11, .val (Value.bool true)), (37, .val (.agg (pcE (D)).toArray)), (38, .val (.agg (pcE (D)).toArray)), (39, .val (Value.bool false)), (40, .val (Value.bool false)), (41, .val (Value.bool false)), (42, .val (Value.bool false)), (43, .val (Value.bool false)), (44, .val (Value.bool false)), (45, .val (Value.bool false)), (46, .val (Value.slice (some ⟨g1, 0, none⟩) (32) (c1))), (47, .val (.agg (rc X Y t).toArray)), (48, .val (Value.slice (some ⟨g2, 0, none⟩) (32) (c2)))] [(2, rc X Y t), (5, pcE (D)), (7, pcE (D)), (10, pcE (Ep.o m2))] ⟨rfl, rfl, rfl, rfl, rfl, rfl, rfl, rfl, rfl, rfl, rfl, rfl, rfl, rfl, rfl, rfl, rfl, rfl, rfl, rfl, rfl, trivial⟩ ⟨rfl, rfl, rfl, rfl, trivial⟩ rfl
  refine sq_step h (i := 12) rfl (u_call (xs := []) (up_seq (i := 12) (by kernel_rfl) rfl) (gd1 (xs := []) (up_seq (i := 12) (by kernel_rfl) rfl) 8 false rfl 45 rfl (lk rfl) rfl) 49 rfl 25 #[(.tmp 46), (.tmp 48)] #[43, 43] rfl [Value.slice (some ⟨g1, 0, none⟩) (32) (c1), Value.slice (some ⟨g2, 0, none⟩) (32) (c2)] rfl (cE25 _) (Value.bool true) (fun w hb => same_ba (by omega) (HG1 _ hb) (HG2 _ hb))) (fun a w h => ?_)
  refine sq_step h (i := 13) rfl (u_not (xs := []) (up_seq (i := 13) (by kernel_rfl) rfl) (gd1 (xs := []) (up_seq (i := 13) (by kernel_rfl) rfl) 8 false rfl 45 rfl (lk rfl) rfl) 50 rfl 4 (.tmp 49) rfl rfl _ rfl) (fun a w h => ?_)
  refine sq_step h (i := 14) rfl (u_pick (xs := []) (up_seq (i := 14) (by kernel_rfl) rfl) (gd0 rfl) 51 rfl (.tmp 45) (.const (.bool true)) (.tmp 50) rfl rfl rfl rfl _ rfl) (fun a w h => ?_)
  refine sq_step h (i := 15) rfl (u_move (xs := []) (up_seq (i := 15) (by kernel_rfl) rfl) (gd0 rfl) 52 rfl (.tmp 51) (Or.inl rfl) rfl) (fun a w h => ?_)
  refine sq_step h (i := 16) rfl (u_move (xs := []) (up_seq (i := 16) (by kernel_rfl) rfl) (gd1 (xs := []) (up_seq (i := 16) (by kernel_rfl) rfl) 15 false rfl 52 rfl (lk rfl) rfl) 53 rfl (.tmp 6) (Or.inl rfl) rfl) (fun a w h => ?_)
  refine sq_step h (i := 17) rfl (u_move (xs := []) (up_seq (i := 17) (by kernel_rfl) rfl) (gd1 (xs := []) (up_seq (i := 17) (by kernel_rfl) rfl) 15 false rfl 52 rfl (lk rfl) rfl) 54 rfl (.tmp 53) (Or.inl rfl) rfl) (fun a w h => ?_)
  refine sq_step h (i := 18) rfl (u_no (xs := []) (up_seq (i := 18) (by kernel_rfl) rfl) 17 true rfl 54 rfl (lk rfl) rfl 55 rfl) (fun a w h => ?_)
  refine sq_step h (i := 19) rfl (u_no (xs := []) (up_seq (i := 19) (by kernel_rfl) rfl) 17 true rfl 54 rfl (lk rfl) rfl 56 rfl) (fun a w h => ?_)
  refine sq_step h (i := 20) rfl (u_no (xs := []) (up_seq (i := 20) (by kernel_rfl) rfl) 17 true rfl 54 rfl (lk rfl) rfl 57 rfl) (fun a w h => ?_)
  refine sq_step h (i := 21) rfl (u_no (xs := []) (up_seq (i := 21) (by kernel_rfl) rfl) 17 true rfl 54 rfl (lk rfl) rfl 58 rfl) (fun a w h => ?_)
  refine sq_step h (i := 22) rfl (u_no (xs := []) (up_seq (i := 22) (by kernel_rfl) rfl) 17 true rfl 54 rfl (lk rfl) rfl 59 rfl) (fun a w h => ?_)
  refine sq_step h (i := 23) rfl (u_pick (xs := []) (up_seq (i := 23) (by kernel_rfl) rfl) (gd1 (xs := []) (up_seq (i := 23) (by kernel_rfl) rfl) 15 false rfl 52 rfl (lk rfl) rfl) 60 rfl (.tmp 54) (.tmp 59) (.const (.bool false)) rfl rfl rfl rfl _ rfl) (fun a w h => ?_)
  refine sq_step h (i := 24) rfl (u_pick (xs := []) (up_seq (i := 24) (by kernel_rfl) rfl) (gd0 rfl) 61 rfl (.tmp 52) (.const (.bool true)) (.tmp 60) rfl rfl rfl rfl _ rfl) (fun a w h => ?_)
  replace h := h.keep [(2, .ptr 2 0), (10, .ptr 10 0), (11, .val (Value.bool true)), (61, .val (Value.bool false))] [(2, rc X Y t), (10, pcE (Ep.o m2))] ⟨rfl, rfl, rfl, rfl, trivial⟩ ⟨rfl, rfl, trivial⟩ rfl
  refine sq_end ?_
  refine then_norm ?_
  refine go_cond h false rfl (fun ht => ?_) (fun hf => ?_)
  case refine_1 => cases ht
  refine wp_skip ?_
  refine then_norm ?_
  refine go_region h hm [eS 62 (.val (Value.bool true)), eS 63 (.val (Value.bool true)), eS 64 (.val (.agg (rc X Y t).toArray)), eS 65 (.val (Value.bool false)), eS 66 (.val (Value.bool true)), eS 67 (.val (Value.bool true)), eS 68 (.val undef), eS 69 (.val undef), eS 70 (.val undef), eS 71 (.val (Value.bool true)), eS 72 (.val (Value.bool true)), eS 73 (.val (Value.bool true)), eS 74 (.val (.agg (rc X Y t).toArray)), eS 75 (.val (Value.bool false)), eS 76 (.val (Value.bool false)), eS 77 (.val (.agg (pcE (Ep.o m2)).toArray)), eS 78 (.val (.agg (gc ((Ep.o m2).y)).toArray)), eS 79 (.val (.agg (nz ++ gc ((Ep.o m2).y) ++ [Value.bool false]).toArray)), eS 80 (.val (Value.bool true)), eS 81 (.val (Value.bool true)), eS 82 (.val (Value.bool true)), eS 4 (.val (Value.bool true))] (by kernel_rfl) ⟨
    fun L u => u_move u (gd0 rfl) 62 rfl (.tmp 11) (Or.inl rfl) rfl,
    fun L u => u_move u (gd0 rfl) 63 rfl (.tmp 62) (Or.inl rfl) rfl,
    fun L u => u_load u (gd1 u 1 true rfl 63 rfl (lk rfl) rfl) 64 rfl 26 (.tmp 2) rfl rfl rfl Tryd.underlying26 rfl i26 (lk rfl) _ rfl,
    fun L u => u_call u (gd1 u 1 true rfl 63 rfl (lk rfl) rfl) 65 rfl 11 #[(.tmp 64)] #[26] rfl [.agg (rc X Y t).toArray] rfl (cE11 _) (Value.bool false) (fun w hb => HFM (hT.keep (Bs.kp_of (KK _ hb)))),
    fun L u => u_not u (gd1 u 1 true rfl 63 rfl (lk rfl) rfl) 66 rfl 4 (.tmp 65) rfl rfl _ rfl,
    fun L u => u_move u (gd1 u 1 true rfl 63 rfl (lk rfl) rfl) 67 rfl (.tmp 66) (Or.inl rfl) rfl,
    fun L u => u_no u 5 false rfl 67 rfl (lk rfl) rfl 68 rfl,
    fun L u => u_no u 5 false rfl 67 rfl (lk rfl) rfl 69 rfl,
    fun L u => u_no u 5 false rfl 67 rfl (lk rfl) rfl 70 rfl,
    fun L u => u_pick u (gd1 u 1 true rfl 63 rfl (lk rfl) rfl) 71 rfl (.tmp 67) (.const (.bool true)) (.tmp 70) rfl rfl rfl rfl _ rfl,
    fun L u => u_pick u (gd0 rfl) 72 rfl (.tmp 63) (.tmp 71) (.const (.bool false)) rfl rfl rfl rfl _ rfl,
    fun L u => u_move u (gd0 rfl) 73 rfl (.tmp 72) (Or.inl rfl) rfl,
    fun L u => u_load u (gd1 u 11 true rfl 73 rfl (lk rfl) rfl) 74 rfl 26 (.tmp 2) rfl rfl rfl Tryd.underlying26 rfl i26 (lk rfl) _ rfl,
    fun L u => u_call u (gd1 u 11 true rfl 73 rfl (lk rfl) rfl) 75 rfl 11 #[(.tmp 74)] #[26] rfl [.agg (rc X Y t).toArray] rfl (cE11 _) (Value.bool false) (fun w hb => HFM (hT.keep (Bs.kp_of (KK _ hb)))),
    fun L u => u_move u (gd1 u 11 true rfl 73 rfl (lk rfl) rfl) 76 rfl (.tmp 75) (Or.inl rfl) rfl,
    fun L u => u_load u (gd1 u 14 false rfl 76 rfl (lk rfl) rfl) 77 rfl 26 (.tmp 10) rfl rfl rfl Tryd.underlying26 rfl i26 (lk rfl) _ rfl,
    fun L u => u_build u (gd1 u 14 false rfl 76 rfl (lk rfl) rfl) 78 rfl 24 #[(0, (.const (.int .u64 1))), (1, (.const (.int .u64 0))), (2, (.const (.int .u64 0))), (3, (.const (.int .u64 0)))] rfl [(0, (Value.int IntKind.u64 1)), (1, (Value.int IntKind.u64 0)), (2, (Value.int IntKind.u64 0)), (3, (Value.int IntKind.u64 0))] rfl (gc ((Ep.o m2).y)) (bOne),
    fun L u => u_build u (gd1 u 14 false rfl 76 rfl (lk rfl) rfl) 79 rfl 26 #[(1, (.tmp 78))] rfl [(1, .agg (gc ((Ep.o m2).y)).toArray)] rfl (nz ++ gc ((Ep.o m2).y) ++ [Value.bool false]) (g_bY _),
    fun L u => u_eql u (gd1 u 14 false rfl 76 rfl (lk rfl) rfl) 80 rfl 26 26 (.tmp 77) (.tmp 79) rfl rfl rfl Tryd.eqGuardType26 (true) (fun w => eq_pcE_o w),
    fun L u => u_pick u (gd1 u 11 true rfl 73 rfl (lk rfl) rfl) 81 rfl (.tmp 76) (.const (.bool true)) (.tmp 80) rfl rfl rfl rfl _ rfl,
    fun L u => u_pick u (gd0 rfl) 82 rfl (.tmp 73) (.tmp 81) (.const (.bool false)) rfl rfl rfl rfl _ rfl,
    fun L u => u_move u (gd0 rfl) 4 rfl (.tmp 82) (Or.inr rfl) rfl,
    trivial⟩ [(4, .val (Value.bool true))] [] ⟨rfl, trivial⟩ trivial rfl (fun a w h => ?_)
  refine wp_ret ?_
  refine ret_slot h 4 rfl (lk rfl) (Value.bool true) rfl ?_
  exact ⟨rfl, Bs.kp_of (KK _ h.below)⟩
set_option maxRecDepth 100000 in
set_option maxHeartbeats 8000000 in
theorem ebytes_long {w : World} (hT : Tab w) {X Y : Int} (t : Bool) {A : Option Addr} {n c : Nat} (hn : 100 < n) : Calls Tryd.prog 8 [.agg (rc X Y t).toArray, .slice A n c].toArray w fun e w' => e = .returned (.bool true) ∧ Below w.heap.size w w' := by
  refine enter (args := [.agg (rc X Y t).toArray, Value.slice (A) (n) (c)]) Tryd.func8 rfl 83 rfl (lk rfl) (fun a h => ?_)
  refine go_region h hm [eN 2 (rc X Y t), eS 4 (.val (Value.bool false))] (by kernel_rfl) ⟨
    fun L u => u_box u (gd0 rfl) 26 (.tmp 0) rfl 2 rfl rfl rfl _ rfl,
    fun L u => u_move u (gd0 rfl) 4 rfl (.const (.bool false)) (Or.inr rfl) rfl,
    trivial⟩ [(1, .val (Value.slice (A) (n) (c))), (2, .ptr 2 0)] [(2, rc X Y t)] ⟨rfl, rfl, trivial⟩ ⟨rfl, trivial⟩ rfl (fun a w h => ?_)
  refine wp_seq ?_
  refine go_region h hm [eS 12 (.val (Value.bool true)), eS 13 (.val (Value.bool false)), eS 14 (.val (Value.bool false)), eS 15 (.val (Value.slice (A) (n) (c))), eS 16 (.val (Value.int .i64 ((n : Nat) : Int))), eS 17 (.val (Value.bool true)), eS 18 (.val (Value.bool true))] (by kernel_rfl) ⟨
    fun L u => u_call u (gd0 rfl) 12 rfl 9 #[] #[] rfl [] rfl (cE9 _) (Value.bool true) (fun w hb => awakeE_any (hT.keep (Bs.kp_of hb))),
    fun L u => u_not u (gd0 rfl) 13 rfl 4 (.tmp 12) rfl rfl _ rfl,
    fun L u => u_move u (gd0 rfl) 14 rfl (.tmp 13) (Or.inl rfl) rfl,
    fun L u => u_move u (gd1 u 2 false rfl 14 rfl (lk rfl) rfl) 15 rfl (.tmp 1) (Or.inl rfl) rfl,
    fun L u => u_lenV u (gd1 u 2 false rfl 14 rfl (lk rfl) rfl) 16 rfl (.tmp 15) 43 rfl rfl Tryd.underlying43,
    fun L u => u_bin u (gd1 u 2 false rfl 14 rfl (lk rfl) rfl) 17 rfl .gtr 3 3 (.tmp 16) (.const (.int .i64 100)) rfl rfl rfl (eqg_int _ _ _ _ _ _ _ _) (Value.bool true) (yes_of (fun w => i_gtr _ _ _ _ w) (by omega)),
    fun L u => u_pick u (gd0 rfl) 18 rfl (.tmp 14) (.const (.bool true)) (.tmp 17) rfl rfl rfl rfl _ rfl,
    trivial⟩ [(1, .val (Value.slice (A) (n) (c))), (2, .ptr 2 0), (18, .val (Value.bool true))] [(2, rc X Y t)] ⟨rfl, rfl, rfl, trivial⟩ ⟨rfl, trivial⟩ rfl (fun a w h => ?_)
  refine go_cond h true rfl (fun ht => ?_) (fun hf => ?_)
  case refine_2 => cases hf
  refine go_region h hm [eS 19 (.val (Value.bool true)), eS 4 (.val (Value.bool true))] (by kernel_rfl) ⟨
    fun L u => u_call u (gd0 rfl) 19 rfl 9 #[] #[] rfl [] rfl (cE9 _) (Value.bool true) (fun w hb => awakeE_any (hT.keep (Bs.kp_of hb))),
    fun L u => u_move u (gd0 rfl) 4 rfl (.tmp 19) (Or.inr rfl) rfl,
    trivial⟩ [(4, .val (Value.bool true))] [] ⟨rfl, trivial⟩ trivial rfl (fun a w h => ?_)
  refine wp_ret ?_
  refine then_ret ?_
  refine ret_slot h 4 rfl (lk rfl) (Value.bool true) rfl ?_
  exact ⟨rfl, h.grows⟩
end Go.Proofs.YtolehamdaceikaaDoor
namespace Go.Proofs.YtolehamdaceikaaDoor
open Go.RowKit
attribute [local go_sem ↓] Go.wp_at_zero Go.wp_at_succ

theorem rest8 (k : Nat) : k % 8 = 0 ∨ k % 8 = 1 ∨ k % 8 = 2 ∨ k % 8 = 3 ∨ k % 8 = 4 ∨ k % 8 = 5 ∨ k % 8 = 6 ∨ k % 8 = 7 := by omega

set_option maxRecDepth 100000 in
set_option maxHeartbeats 1000000 in
theorem drop_any (x : Int) (h0 : 0 ≤ x) (h1 : x < 18446744073709551616) (k : Nat) (hk : k < 64) (w : World) :
    Calls Tryd.prog 78 #[.int .u64 x, .int .i64 k] w fun e w' => e = .returned (.int .u8 (x / 256 ^ (k % 8) % 256)) ∧ w' = w := by
  rcases rest8 k with hr | hr | hr | hr | hr | hr | hr | hr
  all_goals
    rw [hr]
    have hri : (k : Int) % 8 = ((k % 8 : Nat) : Int) := by omega
    rw [hr] at hri
    clear hr
    go_enter Tryd.func78, Tryd.ntmps78
    go_wp2
    go_ret
    exact ⟨ret_int (by first | (simp; done) | (simp; omega)), rfl⟩

/-- A row that was made. -/
theorem row_made {w : World} {base b n : Nat} (h : w.ownsRow base 5 1 (.slice (some ⟨b, 0, none⟩) n n) n (madeCells (Value.int .u8 0).cells (n * 1)).toList) : Row8 w b n (fun _ => 0) := by
  have hlt := h.lt b rfl
  refine ⟨hlt.2, fun i hi => ?_, fun i _ => h.frozenAt i⟩
  rw [h.cellAt i (by omega), Nat.mul_one, show (Value.int .u8 0).cells = #[.int .u8 0] from rfl, toList_madeCells_one, List.getElem?_replicate, if_pos hi]
theorem Arr.set1 {W : World} {n b o : Nat} {y0 y1 y2 y3 : Int} {v : Value} (h : Arr W b y0 y1 y2 y3) (hn : b ≠ n) : Arr (W.setCell ⟨n, o, none⟩ v) b y0 y1 y2 y3 :=
  ⟨by have := h.lt; simpa using this, by simp [go_sem, h.c0], by simp [go_sem, h.c1], by simp [go_sem, h.c2], by simp [go_sem, h.c3]⟩
theorem size_alloc1 (w : World) (o : Obj) : (w.alloc o).heap.size = w.heap.size + 1 := by simp
theorem below_grown {w w0 w1 : World} (h : Below w.heap.size w w0) (hg : w0.grownBy w1 none) : Below w.heap.size w w1 :=
  h.grown hg h.size (fun k hk => by cases hk)

set_option maxRecDepth 100000 in
set_option maxHeartbeats 2000000 in
theorem putLittle_any (a : Int) (w : World) :
    Calls Tryd.prog 61 #[.agg #[.int .u64 (L 0 a), .int .u64 (L 1 a), .int .u64 (L 2 a), .int .u64 (L 3 a)]] w fun e w' => e = .returned (.slice (some ⟨w.heap.size + 1, 0, none⟩) 32 32) ∧ Row8 w' (w.heap.size + 1) 32 (fun i => Y i a) ∧ Below w.heap.size w w' := by
  obtain ⟨i0, hi, hz0, hz1, hz2⟩ := info_parts info8
  have hA0 := Arr.new w w.heap.size rfl 24 (L 0 a) (L 1 a) (L 2 a) (L 3 a)
  go_enter Tryd.func61, Tryd.ntmps61
  go_wp2_with (at_make; refine wpList_make_full _ rfl _ _ 43 rfl (w.heap.size + 1) 5 i0 (.int .u8 0) 1 Tryd.underlying43 hi hz0 hz1 .i64 .i64 32 32 32 rfl rfl rfl rfl (by rw [hz2]; decide) (by decide) (by simp) ?_; intro w1 hown hgrow)
  have hR1 : Row8 w1 (w.heap.size + 1) 32 (fun _ => 0) := by have h := row_made hown; rw [size_alloc1] at h; exact h
  have hB1 : Below w.heap.size w w1 := below_grown (K.alloc (Below.refl _ w) _) hgrow
  have hA1 := hA0.keep ((Below.refl _ _).grown hgrow (Nat.le_refl _) (fun k hk => by cases hk))
  clear hown hgrow hA0 hi hz0 hz1 hz2
  go_loopg [6] 32 (fun g s6 wr => ∃ k : Nat, g = 32 - k ∧ k ≤ 32 ∧ s6 = .int .i64 k ∧ Row8 wr (w.heap.size + 1) 32 (fun i => if i < k then Y i a else 0) ∧ Arr wr w.heap.size (L 0 a) (L 1 a) (L 2 a) (L 3 a) ∧ Below w.heap.size w wr)
  case atStart => exact ⟨0, rfl, by omega, rfl, hR1.congr (fun i hi => by simp), hA1, hB1⟩
  case round =>
    clear hR1 hA1 hB1 w1
    obtain ⟨k, rfl, hk, rfl, hR, hA, hB⟩ := hrel
    by_cases hlt : k < 32
    · have HR : Hid (Row8 wr (w.heap.size + 1) 32 (fun i => if i < k then Y i a else 0)) := hR
      have HA : Hid (Arr wr w.heap.size (L 0 a) (L 1 a) (L 2 a) (L 3 a)) := hA
      have HB : Hid (Below w.heap.size w wr) := hB
      have hcell := hR.c k (by omega)
      have hfree := hR.z k (by omega)
      have ⟨al, a0, a1, a2, a3⟩ := hA
      have hrl := hR.lt
      have hq : (k : Int) / 8 = 0 ∨ (k : Int) / 8 = 1 ∨ (k : Int) / 8 = 2 ∨ (k : Int) / 8 = 3 := by omega
      clear hR hA hB
      rcases hq with hq | hq | hq | hq
      · have l1 := L_lo 0 a
        have l2 := L_hi 0 a
        go_wp2_with (go_at_call 78; with_reducible refine Calls.mono (drop_any (L 0 a) (by omega) (by omega) k (by omega) _) ?_; rintro e w' ⟨rfl, rfl⟩)
        go_roundg (32 - (k + 1))
        case measure => omega
        case rel => exact ⟨k + 1, rfl, by omega, by go_num, (HR.out.store k (by omega) _).congr (fun i hi => by rw [byte_word a 0 (k % 8) (by omega), show 8 * 0 + k % 8 = k by omega]; (repeat' split) <;> first | rfl | (congr 1; omega) | omega), HA.out.set1 (by omega), K.set HB.out (by simp) _⟩
      · have l1 := L_lo 1 a
        have l2 := L_hi 1 a
        go_wp2_with (go_at_call 78; with_reducible refine Calls.mono (drop_any (L 1 a) (by omega) (by omega) k (by omega) _) ?_; rintro e w' ⟨rfl, rfl⟩)
        go_roundg (32 - (k + 1))
        case measure => omega
        case rel => exact ⟨k + 1, rfl, by omega, by go_num, (HR.out.store k (by omega) _).congr (fun i hi => by rw [byte_word a 1 (k % 8) (by omega), show 8 * 1 + k % 8 = k by omega]; (repeat' split) <;> first | rfl | (congr 1; omega) | omega), HA.out.set1 (by omega), K.set HB.out (by simp) _⟩
      · have l1 := L_lo 2 a
        have l2 := L_hi 2 a
        go_wp2_with (go_at_call 78; with_reducible refine Calls.mono (drop_any (L 2 a) (by omega) (by omega) k (by omega) _) ?_; rintro e w' ⟨rfl, rfl⟩)
        go_roundg (32 - (k + 1))
        case measure => omega
        case rel => exact ⟨k + 1, rfl, by omega, by go_num, (HR.out.store k (by omega) _).congr (fun i hi => by rw [byte_word a 2 (k % 8) (by omega), show 8 * 2 + k % 8 = k by omega]; (repeat' split) <;> first | rfl | (congr 1; omega) | omega), HA.out.set1 (by omega), K.set HB.out (by simp) _⟩
      · have l1 := L_lo 3 a
        have l2 := L_hi 3 a
        go_wp2_with (go_at_call 78; with_reducible refine Calls.mono (drop_any (L 3 a) (by omega) (by omega) k (by omega) _) ?_; rintro e w' ⟨rfl, rfl⟩)
        go_roundg (32 - (k + 1))
        case measure => omega
        case rel => exact ⟨k + 1, rfl, by omega, by go_num, (HR.out.store k (by omega) _).congr (fun i hi => by rw [byte_word a 3 (k % 8) (by omega), show 8 * 3 + k % 8 = k by omega]; (repeat' split) <;> first | rfl | (congr 1; omega) | omega), HA.out.set1 (by omega), K.set HB.out (by simp) _⟩
    · go_wp2_with fail
      obtain rfl : k = 32 := by omega
      go_ret
      exact ⟨rfl, hR.congr (fun i hi => if_pos (by omega)), hB⟩

theorem e_PutC (a : Int) (w : World) :
    Calls Tryd.prog 61 #[.agg #[.int .u64 (L 0 a), .int .u64 (L 1 a), .int .u64 (L 2 a), .int .u64 (L 3 a)]] w fun e w' => NewC (fun i => Y i a) w e w' :=
  Calls.mono (putLittle_any a w) (fun _ _ ⟨he, hr, hb⟩ => newC_row he (by omega) hr hb)
theorem e_PutL (a : Int) (w : World) :
    Calls Tryd.prog 61 #[.agg #[.int .u64 (L 0 a), .int .u64 (L 1 a), .int .u64 (L 2 a), .int .u64 (L 3 a)]] w fun e w' => New32 (fun i => Y i a) w e w' :=
  Calls.mono (putLittle_any a w) (fun _ _ ⟨he, hr, hb⟩ => new32_row he (by omega) (by omega) hr hb)
end Go.Proofs.YtolehamdaceikaaDoor
namespace Go.Proofs.YtolehamdaceikaaDoor
open Go.RowKit

theorem or_top8 : ∀ a : Fin 128, (BitVec.ofInt 8 (a.val : Int) ||| BitVec.ofInt 8 128).toNat = a.val + 128 := by decide +kernel
theorem i_orB {P : Program} (ty : TypeId) (a c : Int) (h0 : 0 ≤ a) (h1 : a < 128) (hc : c = a + 128) (w : World) : (binOp .or ty (.int .u8 a) (.int .u8 128)).run P w = .ok (.int .u8 c) w := by
  have h := or_top8 ⟨a.toNat, by omega⟩
  simp only [Int.toNat_of_nonneg h0] at h
  have e : (Op.intBits .or .u8 a 128).run P w = .ok (.int .u8 c) w := by
    show Result.ok (Value.int .u8 (IntKind.u8.wrap ((BitVec.ofInt 8 a ||| BitVec.ofInt 8 128).toNat : Int))) w = _
    rw [h]
    have : ((a.toNat + 128 : Nat) : Int) = c := by omega
    rw [this, wrapB (by omega)]
  simpa [binOp] using e
theorem i_and63 {P : Program} (ty : TypeId) (a c : Int) (h0 : 0 ≤ a) (h1 : a < 18446744073709551616) (hc : c = a % 9223372036854775808) (w : World) : (binOp .and ty (.int .u64 a) (.int .u64 9223372036854775807)).run P w = .ok (.int .u64 c) w := by
  have h : (BitVec.ofInt 64 a &&& BitVec.ofInt 64 9223372036854775807).toNat = a.toNat % 9223372036854775808 := by
    rw [BitVec.toNat_and]
    have e1 : (BitVec.ofInt 64 a).toNat = a.toNat := by
      rw [BitVec.toNat_ofInt]
      congr 1
      rw [Int.emod_eq_of_lt h0 (by simpa using h1)]
    have e2 : (BitVec.ofInt 64 9223372036854775807).toNat = 2 ^ 63 - 1 := by decide +kernel
    rw [e1, e2, Nat.and_two_pow_sub_one_eq_mod]
  have e : (Op.intBits .and .u64 a 9223372036854775807).run P w = .ok (.int .u64 c) w := by
    show Result.ok (Value.int .u64 (IntKind.u64.wrap ((BitVec.ofInt 64 a &&& BitVec.ofInt 64 9223372036854775807).toNat : Int))) w = _
    rw [h]
    have : ((a.toNat % 9223372036854775808 : Nat) : Int) = c := by omega
    rw [this, wrapW (by omega)]
  simpa [binOp] using e
theorem i_shr63 {P : Program} (ty : TypeId) (a c : Int) (hc : c = a / 9223372036854775808) (w : World) : (binOp .shr ty (.int .u64 a) (.int .u64 63)).run P w = .ok (.int .u64 c) w := by
  have e : a.fdiv 9223372036854775808 = c := by rw [hc, Int.fdiv_eq_ediv_of_nonneg _ (by decide)]
  simp [binOp, Op.shift, IntKind.bits, e]
end Go.Proofs.YtolehamdaceikaaDoor
