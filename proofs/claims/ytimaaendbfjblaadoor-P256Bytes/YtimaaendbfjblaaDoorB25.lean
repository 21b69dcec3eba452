/- P256Bytes, over what Encode and Decode answer. Texts, one behind the other; rows of bytes of one's own, as bytes that are handed on. What the document's own Encode answers. Rows that are made with room behind them. -/
import Derived.Test.YtimaaendbfjblaaDoorB24
import Derived.Test.YtimaaendbfjblaaDoorB22
namespace Go.Proofs.YtimaaendbfjblaaDoor
open Go.RowKit

theorem cE22 (vs : List Value) : ∀ w, (callFunc 22 vs.toArray).run Tryd.prog w = .ok (.enter 22 vs.toArray) w := callFunc_enter Tryd.func22 (by kernel_rfl) (by kernel_rfl) _
theorem cE24 (vs : List Value) : ∀ w, (callFunc 24 vs.toArray).run Tryd.prog w = .ok (.enter 24 vs.toArray) w := callFunc_enter Tryd.func24 (by kernel_rfl) (by kernel_rfl) _
theorem cE23 (vs : List Value) : ∀ w, (callFunc 23 vs.toArray).run Tryd.prog w = .ok (.enter 23 vs.toArray) w := callFunc_enter Tryd.func23 (by kernel_rfl) (by kernel_rfl) _
theorem cE26 (vs : List Value) : ∀ w, (callFunc 26 vs.toArray).run Tryd.prog w = .ok (.enter 26 vs.toArray) w := callFunc_enter Tryd.func26 (by kernel_rfl) (by kernel_rfl) _
theorem cE25 (vs : List Value) : ∀ w, (callFunc 25 vs.toArray).run Tryd.prog w = .ok (.enter 25 vs.toArray) w := callFunc_enter Tryd.func25 (by kernel_rfl) (by kernel_rfl) _
theorem eq_rc_same {U V : Int} (hU : Num U) (hV : Num V) (s : Bool) (w : World) : (Op.equalIn 10000 26 (.agg (rc U V s).toArray) (.agg (rc U V s).toArray)).run Tryd.prog w = .ok true w := by
  have h := eq_pt hU hV hU hV s s w
  rw [decide_eq_true ⟨rfl, rfl, rfl⟩] at h
  exact h
theorem num_nil : Num 0 := ⟨by decide, by decide⟩
theorem eq_rc_none (w : World) : (Op.equalIn 10000 26 (.agg (rc 0 0 true).toArray) (.agg (nz ++ nz ++ [Value.bool true]).toArray)).run Tryd.prog w = .ok true w := by
  have h := eq_none num_nil num_nil w
  rw [decide_eq_true ⟨rfl, rfl⟩] at h
  exact h
/-- Some bytes that a call made. -/
def Made (m : Nat) (e : Nat → Nat) (r : Value) (w1 w2 : World) : Prop := ∃ g c, r = .slice (some ⟨g, 0, none⟩) m c ∧ w1.heap.size ≤ g ∧ BA w2 (some ⟨g, 0, none⟩) m e ∧ m ≤ c ∧ c ≤ maxLen
theorem same_ba {w : World} {a b : Option Addr} {n c d : Nat} {f : Nat → Nat} (hn : n ≤ 1000) (h1 : BA w a n f) (h2 : BA w b n f) : Calls Tryd.prog 25 [.slice a n c, .slice b n d].toArray w fun e w' => e = .returned (.bool true) ∧ Below w.heap.size w w' := by
  rcases h1.at_ with rfl | ⟨b1, o1, rfl, r1⟩
  · exact Calls.mono (same_none a b c d w) (fun e w' ⟨he, hw⟩ => ⟨he, by rw [hw]; exact Below.refl _ _⟩)
  · rcases h2.at_ with rfl | ⟨b2, o2, rfl, r2⟩
    · exact Calls.mono (same_none _ b c d w) (fun e w' ⟨he, hw⟩ => ⟨he, by rw [hw]; exact Below.refl _ _⟩)
    · have h := same_any (c := c) (c2 := d) (by omega) r1 r2
      rw [same_yes (fun i _ => rfl)] at h
      exact h
theorem t_neq_same {P : Program} (ty : TypeId) (hu : P.underlying ty = some .bool) (a : Bool) (w : World) : (binOp .neq ty (.bool a) (.bool a)).run P w = .ok (.bool false) w := by
  have h : (Op.equalIn 10000 ty (.bool a) (.bool a)).run P w = .ok (a == a) w := run_equalIn_bool' (P := P) w 9999 ty a a hu
  have e : (a == a) = true := by cases a <;> rfl
  rw [e] at h
  simp only [binOp, Op.equal, show Op.maxDepth = 10000 from rfl, Sem.run_bind, h, Result.andThen_ok, Sem.run_pure, Bool.not_true]
set_option maxRecDepth 100000 in
set_option maxHeartbeats 8000000 in
theorem bytes_true_true {w0 : World} (hT : Tab w0) {X Y : Int} (hX : Num X) (hY : Num Y) (t : Bool) (hfm : fmd X Y t = true) {A : Option Addr} {n c : Nat} {f : Nat → Nat} (hba : BA w0 A n f) (hn : n ≤ 100) {U V : Int} (hU : Num U) (hV : Num V) (s : Bool) {m : Nat} {eb : Nat → Nat} (hmm : m ≤ 100)
    (CD1 : ∀ w, (Bs.of w0).kp w → Calls Tryd.prog 22 [.slice A n c].toArray w fun e w' => e = .returned (.tuple [.agg (rc U V s).toArray, .bool true].toArray) ∧ Below w.heap.size w w')
    (CD2 : ∀ w, (Bs.of w0).kp w → Calls Tryd.prog 23 [.slice A n c].toArray w fun e w' => e = .returned (.tuple [.agg (rc U V s).toArray, .bool true].toArray) ∧ Below w.heap.size w w')
    (CE1 : ∀ w, (Bs.of w0).kp w → Calls Tryd.prog 24 [.agg (rc X Y t).toArray].toArray w fun e w' => ∃ r, e = .returned r ∧ Made m eb r w w' ∧ Below w.heap.size w w')
    (CE2 : ∀ w, (Bs.of w0).kp w → Calls Tryd.prog 26 [.agg (rc X Y t).toArray].toArray w fun e w' => ∃ r, e = .returned r ∧ Made m eb r w w' ∧ Below w.heap.size w w')
    (CD3 : ∀ w g d, (Bs.of w0).kp w → BA w (some ⟨g, 0, none⟩) m eb → m ≤ d → d ≤ maxLen → Calls Tryd.prog 22 [.slice (some ⟨g, 0, none⟩) m d].toArray w fun e w' => e = .returned (.tuple [.agg (rc X Y t).toArray, .bool true].toArray) ∧ Below w.heap.size w w')
    (CE3 : ∀ w, (Bs.of w0).kp w → Calls Tryd.prog 24 [.agg (rc U V s).toArray].toArray w fun e w' => ∃ r, e = .returned r ∧ Made n f r w w' ∧ Below w.heap.size w w') : Calls Tryd.prog 8 [.agg (rc X Y t).toArray, .slice A n c].toArray w0 fun e w' => e = .returned (.bool true) ∧ Below w0.heap.size w0 w' := by
  have KK : ∀ w2, (Bs.of w0).kp w2 → (Bs.of w0).kp w2 := fun _ h => h
  have HX : ∀ k, (Bs.of w0).X k = true → k < (Bs.of w0).w.heap.size := fun k hk => by cases hk
  have hm1000 : m ≤ 1000 := by omega
  have hn1000 : n ≤ 1000 := by omega
  refine enter (args := [.agg (rc X Y t).toArray, Value.slice (A) (n) (c)]) Tryd.func8 rfl 82 rfl (lk rfl) (fun a h => ?_)
  refine go_region h hm [eN 2 (rc X Y t), eS 4 (.val (Value.bool false))] (by kernel_rfl) ⟨
    fun L u => u_box u (gd0 rfl) 26 (.tmp 0) rfl 2 rfl rfl rfl _ rfl,
    fun L u => u_move u (gd0 rfl) 4 rfl (.const (.bool false)) (Or.inr rfl) rfl,
    trivial⟩ [(1, .val (Value.slice (A) (n) (c))), (2, .ptr 2 0)] [(2, rc X Y t)] ⟨rfl, rfl, trivial⟩ ⟨rfl, trivial⟩ rfl (fun a w h => ?_)
  refine wp_seq ?_
  refine go_region h hm [eS 12 (.val (Value.bool true)), eS 13 (.val (Value.bool false)), eS 14 (.val (Value.bool false)), eS 15 (.val (Value.slice (A) (n) (c))), eS 16 (.val (Value.int .i64 ((n : Nat) : Int))), eS 17 (.val (Value.bool false)), eS 18 (.val (Value.bool false))] (by kernel_rfl) ⟨
    fun L u => u_call u (gd0 rfl) 12 rfl 9 #[] #[] rfl [] rfl (cE9 _) (Value.bool true) (fun w hb => awake_any (hT.keep (Bs.kp_of (KK _ hb)))),
    fun L u => u_not u (gd0 rfl) 13 rfl 4 (.tmp 12) rfl rfl _ rfl,
    fun L u => u_move u (gd0 rfl) 14 rfl (.tmp 13) (Or.inl rfl) rfl,
    fun L u => u_move u (gd1 u 2 false rfl 14 rfl (lk rfl) rfl) 15 rfl (.tmp 1) (Or.inl rfl) rfl,
    fun L u => u_lenV u (gd1 u 2 false rfl 14 rfl (lk rfl) rfl) 16 rfl (.tmp 15) 43 rfl rfl Tryd.underlying43,
    fun L u => u_bin u (gd1 u 2 false rfl 14 rfl (lk rfl) rfl) 17 rfl .gtr 3 3 (.tmp 16) (.const (.int .i64 100)) rfl rfl rfl (eqg_int _ _ _ _ _ _ _ _) (Value.bool false) (no_of (fun w => i_gtr _ _ _ _ w) (by omega)),
    fun L u => u_pick u (gd0 rfl) 18 rfl (.tmp 14) (.const (.bool true)) (.tmp 17) rfl rfl rfl rfl _ rfl,
    trivial⟩ [(1, .val (Value.slice (A) (n) (c))), (2, .ptr 2 0), (18, .val (Value.bool false))] [(2, rc X Y t)] ⟨rfl, rfl, rfl, trivial⟩ ⟨rfl, trivial⟩ rfl (fun a w h => ?_)
  refine go_cond h false rfl (fun ht => ?_) (fun hf => ?_)
  case refine_1 => cases ht
  refine wp_skip ?_
  refine then_norm ?_
  refine go_region h hm [eS 21 (.val (Value.slice (A) (n) (c))), eS 22 (.val (.tuple [.agg (rc U V s).toArray, Value.bool true].toArray)), eS 20 (.val (.tuple [.agg (rc U V s).toArray, Value.bool true].toArray)), eS 23 (.val (.agg (rc U V s).toArray)), eS 24 (.val (Value.bool true)), eN 5 (nz ++ nz ++ [Value.bool false]), eM 5 (rc U V s), eS 6 (.val (Value.bool true))] (by kernel_rfl) ⟨
    fun L u => u_move u (gd0 rfl) 21 rfl (.tmp 1) (Or.inl rfl) rfl,
    fun L u => u_call u (gd0 rfl) 22 rfl 22 #[(.tmp 21)] #[43] rfl [Value.slice (A) (n) (c)] rfl (cE22 _) (.tuple [.agg (rc U V s).toArray, Value.bool true].toArray) (fun w hb => CD1 _ (KK _ hb)),
    fun L u => u_move u (gd0 rfl) 20 rfl (.tmp 22) (Or.inl rfl) rfl,
    fun L u => u_part u (gd0 rfl) 23 rfl (.tmp 20) 0 rfl (vs := [.agg (rc U V s).toArray, Value.bool true]) rfl _ rfl,
    fun L u => u_part u (gd0 rfl) 24 rfl (.tmp 20) 1 rfl (vs := [.agg (rc U V s).toArray, Value.bool true]) rfl _ rfl,
    fun L u => u_alloc u (gd0 rfl) 26 rfl 5 rfl rfl z26 _ rfl,
    fun L u => u_store u (gd0 rfl) 26 (.tmp 5) (.tmp 23) rfl rfl rfl (vs := rc U V s) rfl rfl i26 (lk rfl) rfl _ rfl,
    fun L u => u_move u (gd0 rfl) 6 rfl (.tmp 24) (Or.inr rfl) rfl,
    trivial⟩ [(1, .val (Value.slice (A) (n) (c))), (2, .ptr 2 0), (5, .ptr 5 0), (6, .val (Value.bool true))] [(2, rc X Y t), (5, rc U V s)] ⟨rfl, rfl, rfl, rfl, trivial⟩ ⟨rfl, rfl, trivial⟩ rfl (fun a w h => ?_)
  refine go_region h hm [eS 26 (.val (Value.slice (A) (n) (c))), eS 27 (.val (.tuple [.agg (rc U V s).toArray, Value.bool true].toArray)), eS 25 (.val (.tuple [.agg (rc U V s).toArray, Value.bool true].toArray)), eS 28 (.val (.agg (rc U V s).toArray)), eS 29 (.val (Value.bool true)), eN 7 (nz ++ nz ++ [Value.bool false]), eM 7 (rc U V s), eS 8 (.val (Value.bool true))] (by kernel_rfl) ⟨
    fun L u => u_move u (gd0 rfl) 26 rfl (.tmp 1) (Or.inl rfl) rfl,
    fun L u => u_call u (gd0 rfl) 27 rfl 23 #[(.tmp 26)] #[43] rfl [Value.slice (A) (n) (c)] rfl (cE23 _) (.tuple [.agg (rc U V s).toArray, Value.bool true].toArray) (fun w hb => CD2 _ (KK _ hb)),
    fun L u => u_move u (gd0 rfl) 25 rfl (.tmp 27) (Or.inl rfl) rfl,
    fun L u => u_part u (gd0 rfl) 28 rfl (.tmp 25) 0 rfl (vs := [.agg (rc U V s).toArray, Value.bool true]) rfl _ rfl,
    fun L u => u_part u (gd0 rfl) 29 rfl (.tmp 25) 1 rfl (vs := [.agg (rc U V s).toArray, Value.bool true]) rfl _ rfl,
    fun L u => u_alloc u (gd0 rfl) 26 rfl 7 rfl rfl z26 _ rfl,
    fun L u => u_store u (gd0 rfl) 26 (.tmp 7) (.tmp 28) rfl rfl rfl (vs := rc U V s) rfl rfl i26 (lk rfl) rfl _ rfl,
    fun L u => u_move u (gd0 rfl) 8 rfl (.tmp 29) (Or.inr rfl) rfl,
    trivial⟩ [(1, .val (Value.slice (A) (n) (c))), (2, .ptr 2 0), (5, .ptr 5 0), (6, .val (Value.bool true)), (7, .ptr 7 0), (8, .val (Value.bool true))] [(2, rc X Y t), (5, rc U V s), (7, rc U V s)] ⟨rfl, rfl, rfl, rfl, rfl, rfl, trivial⟩ ⟨rfl, rfl, rfl, trivial⟩ rfl (fun a w h => ?_)
  refine wp_seq ?_
  refine sq_begin [0, 1, 2] rfl ?_
  refine sq_step h (i := 0) rfl (u_load (xs := []) (up_seq (i := 0) (by kernel_rfl) rfl) (gd0 rfl) 30 rfl 26 (.tmp 2) rfl rfl rfl Tryd.underlying26 rfl i26 (lk rfl) _ rfl) (fun a w h => ?_)
  refine sq_call h HX (i := 1) rfl (gq0 rfl) 31 rfl 24 #[(.tmp 30)] #[26] rfl [.agg (rc X Y t).toArray] rfl (cE24 _) (fun r w1 w2 => Made m eb r w1 w2) (fun hb => Calls.mono (CE1 _ (KK _ hb)) (fun _ _ ⟨r, h1, h2, h3⟩ => ⟨r, h1, h2, h3⟩)) (fun r a w W2 hR KW HN HX2 hw h => ?_)
  obtain ⟨g1, c1, rfl, hge1, hB1, hc1, hm1⟩ := hR
  have HG1 : ∀ w2, W2.kp w2 → BA w2 (some ⟨g1, 0, none⟩) m eb := fun w2 h2 => BA.re hw h2 hB1 (fun p hp => by cases hp; exact HN _ hge1)
  replace KK : ∀ w2, W2.kp w2 → (Bs.of w0).kp w2 := fun w2 h2 => KK w2 (KW w2 h2)
  replace HX := HX2
  clear KW HN HX2 hw hB1 hge1
  replace h := h.keep [(1, .val (Value.slice (A) (n) (c))), (2, .ptr 2 0), (5, .ptr 5 0), (6, .val (Value.bool true)), (7, .ptr 7 0), (8, .val (Value.bool true)), (30, .val (.agg (rc X Y t).toArray)), (31, .val (Value.slice (some ⟨g1, 0, none⟩) (m) (c1)))] [(2, rc X Y t), (5, rc U V s), (7, rc U V s)] ⟨rfl, rfl, rfl, rfl, rfl, rfl, rfl, rfl, trivial⟩ ⟨rfl, rfl, rfl, trivial⟩ rfl
  refine sq_step h (i := 2) rfl (u_move (xs := []) (up_seq (i := 2) (by kernel_rfl) rfl) (gd0 rfl) 9 rfl (.tmp 31) (Or.inr rfl) rfl) (fun a w h => ?_)
  replace h := h.keep [(1, .val (Value.slice (A) (n) (c))), (2, .ptr 2 0), (5, .ptr 5 0), (6, .val (Value.bool true)), (7, .ptr 7 0), (8, .val (Value.bool true)), (9, .val (Value.slice (some ⟨g1, 0, none⟩) (m) (c1)))] [(2, rc X Y t), (5, rc U V s), (7, rc U V s)] ⟨rfl, rfl, rfl, rfl, rfl, rfl, rfl, trivial⟩ ⟨rfl, rfl, rfl, trivial⟩ rfl
  refine sq_end ?_
  refine then_norm ?_
  refine go_region h hm [eS 33 (.val (Value.slice (some ⟨g1, 0, none⟩) (m) (c1))), eS 34 (.val (.tuple [.agg (rc X Y t).toArray, Value.bool true].toArray)), eS 32 (.val (.tuple [.agg (rc X Y t).toArray, Value.bool true].toArray)), eS 35 (.val (.agg (rc X Y t).toArray)), eS 36 (.val (Value.bool true)), eN 10 (nz ++ nz ++ [Value.bool false]), eM 10 (rc X Y t), eS 11 (.val (Value.bool true))] (by kernel_rfl) ⟨
    fun L u => u_move u (gd0 rfl) 33 rfl (.tmp 9) (Or.inl rfl) rfl,
    fun L u => u_call u (gd0 rfl) 34 rfl 22 #[(.tmp 33)] #[43] rfl [Value.slice (some ⟨g1, 0, none⟩) (m) (c1)] rfl (cE22 _) (.tuple [.agg (rc X Y t).toArray, Value.bool true].toArray) (fun w hb => CD3 _ _ _ (KK _ hb) (HG1 _ hb) hc1 hm1),
    fun L u => u_move u (gd0 rfl) 32 rfl (.tmp 34) (Or.inl rfl) rfl,
    fun L u => u_part u (gd0 rfl) 35 rfl (.tmp 32) 0 rfl (vs := [.agg (rc X Y t).toArray, Value.bool true]) rfl _ rfl,
    fun L u => u_part u (gd0 rfl) 36 rfl (.tmp 32) 1 rfl (vs := [.agg (rc X Y t).toArray, Value.bool true]) rfl _ rfl,
    fun L u => u_alloc u (gd0 rfl) 26 rfl 10 rfl rfl z26 _ rfl,
    fun L u => u_store u (gd0 rfl) 26 (.tmp 10) (.tmp 35) rfl rfl rfl (vs := rc X Y t) rfl rfl i26 (lk rfl) rfl _ rfl,
    fun L u => u_move u (gd0 rfl) 11 rfl (.tmp 36) (Or.inr rfl) rfl,
    trivial⟩ [(1, .val (Value.slice (A) (n) (c))), (2, .ptr 2 0), (5, .ptr 5 0), (6, .val (Value.bool true)), (7, .ptr 7 0), (8, .val (Value.bool true)), (9, .val (Value.slice (some ⟨g1, 0, none⟩) (m) (c1))), (10, .ptr 10 0), (11, .val (Value.bool true))] [(2, rc X Y t), (5, rc U V s), (7, rc U V s), (10, rc X Y t)] ⟨rfl, rfl, rfl, rfl, rfl, rfl, rfl, rfl, rfl, trivial⟩ ⟨rfl, rfl, rfl, rfl, trivial⟩ rfl (fun a w h => ?_)
  refine wp_seq ?_
  refine wp_seq ?_
  refine sq_begin [0, 1, 2, 3, 4, 5, 6, 7, 8, 9, 10, 11, 12, 13, 14, 15, 16, 17, 18, 19, 20, 21, 22, 23, 24] rfl ?_
  refine sq_step h (i := 0) rfl (u_load (xs := []) (up_seq (i := 0) (by kernel_rfl) rfl) (gd0 rfl) 37 rfl 26 (.tmp 5) rfl rfl rfl Tryd.underlying26 rfl i26 (lk rfl) _ rfl) (fun a w h => ?_)
  refine sq_step h (i := 1) rfl (u_load (xs := []) (up_seq (i := 1) (by kernel_rfl) rfl) (gd0 rfl) 38 rfl 26 (.tmp 7) rfl rfl rfl Tryd.underlying26 rfl i26 (lk rfl) _ rfl) (fun a w h => ?_)
  refine sq_step h (i := 2) rfl (u_neq (xs := []) (up_seq (i := 2) (by kernel_rfl) rfl) (gd0 rfl) 39 rfl 26 26 (.tmp 37) (.tmp 38) rfl rfl rfl Tryd.eqGuardType26 (true) (fun w => eq_rc_same hU hV s w)) (fun a w h => ?_)
  refine sq_step h (i := 3) rfl (u_move (xs := []) (up_seq (i := 3) (by kernel_rfl) rfl) (gd0 rfl) 40 rfl (.tmp 39) (Or.inl rfl) rfl) (fun a w h => ?_)
  refine sq_step h (i := 4) rfl (u_move (xs := []) (up_seq (i := 4) (by kernel_rfl) rfl) (gd1 (xs := []) (up_seq (i := 4) (by kernel_rfl) rfl) 3 false rfl 40 rfl (lk rfl) rfl) 41 rfl (.tmp 6) (Or.inl rfl) rfl) (fun a w h => ?_)
  refine sq_step h (i := 5) rfl (u_move (xs := []) (up_seq (i := 5) (by kernel_rfl) rfl) (gd1 (xs := []) (up_seq (i := 5) (by kernel_rfl) rfl) 3 false rfl 40 rfl (lk rfl) rfl) 42 rfl (.tmp 8) (Or.inl rfl) rfl) (fun a w h => ?_)
  refine sq_step h (i := 6) rfl (u_bin (xs := []) (up_seq (i := 6) (by kernel_rfl) rfl) (gd1 (xs := []) (up_seq (i := 6) (by kernel_rfl) rfl) 3 false rfl 40 rfl (lk rfl) rfl) 43 rfl .neq 4 4 (.tmp 41) (.tmp 42) rfl rfl rfl (eqg_bool _ _ _ _ _ _) (Value.bool false) (t_neq_same _ Tryd.underlying4 _)) (fun a w h => ?_)
  refine sq_step h (i := 7) rfl (u_pick (xs := []) (up_seq (i := 7) (by kernel_rfl) rfl) (gd0 rfl) 44 rfl (.tmp 40) (.const (.bool true)) (.tmp 43) rfl rfl rfl rfl _ rfl) (fun a w h => ?_)
  refine sq_step h (i := 8) rfl (u_move (xs := []) (up_seq (i := 8) (by kernel_rfl) rfl) (gd0 rfl) 45 rfl (.tmp 44) (Or.inl rfl) rfl) (fun a w h => ?_)
  refine sq_step h (i := 9) rfl (u_move (xs := []) (up_seq (i := 9) (by kernel_rfl) rfl) (gd1 (xs := []) (up_seq (i := 9) (by kernel_rfl) rfl) 8 false rfl 45 rfl (lk rfl) rfl) 46 rfl (.tmp 9) (Or.inl rfl) rfl) (fun a w h => ?_)
  refine sq_step h (i := 10) rfl (u_load (xs := []) (up_seq (i := 10) (by kernel_rfl) rfl) (gd1 (xs := []) (up_seq (i := 10) (by kernel_rfl) rfl) 8 false rfl 45 rfl (lk rfl) rfl) 47 rfl 26 (.tmp 2) rfl rfl rfl Tryd.underlying26 rfl i26 (lk rfl) _ rfl) (fun a w h => ?_)
  refine sq_call h HX (i := 11) rfl (gq1 8 false rfl rfl) 48 rfl 26 #[(.tmp 47)] #[26] rfl [.agg (rc X Y t).toArray] rfl (cE26 _) (fun r w1 w2 => Made m eb r w1 w2) (fun hb => Calls.mono (CE2 _ (KK _ hb)) (fun _ _ ⟨r, h1, h2, h3⟩ => ⟨r, h1, h2, h3⟩)) (fun r a w W2 hR KW HN HX2 hw h => ?_)
  obtain ⟨g2, c2, rfl, hge2, hB2, hc2, hm2⟩ := hR
  have HG2 : ∀ w2, W2.kp w2 → BA w2 (some ⟨g2, 0, none⟩) m eb := fun w2 h2 => BA.re hw h2 hB2 (fun p hp => by cases hp; exact HN _ hge2)
  replace HG1 : ∀ w2, W2.kp w2 → BA w2 (some ⟨g1, 0, none⟩) m eb := fun w2 h2 => HG1 w2 (KW w2 h2)
  replace KK : ∀ w2, W2.kp w2 → (Bs.of w0).kp w2 := fun w2 h2 => KK w2 (KW w2 h2)
  replace HX := HX2
  clear KW HN HX2 hw hB2 hge2
  replace h := h.keep [(1, .val (Value.slice (A) (n) (c))), (2, .ptr 2 0), (5, .ptr 5 0), (6, .val (Value.bool true)), (7, .ptr 7 0), (8, .val (Value.bool true)), (9, .val (Value.slice (some ⟨g1, 0, none⟩) (m) (c1))), (10, .ptr 10 0), (11, .val (Value.bool true)), (37, .val (.agg (rc U V s).toArray)), (38, .val (.agg (rc U V s).toArray)), (39, .val (Value.bool false)), (40, .val (Value.bool false)), (41, .val (Value.bool true)), (42, .val (Value.bool true)), (43, .val (Value.bool false)), (44, .val (Value.bool false)), (45, .val (Value.bool false)), (46, .val (Value.slice (some ⟨g1, 0, none⟩) (m) (c1))), (47, .val (.agg (rc X Y t).toArray)), (48, .val (Value.slice (some ⟨g2, 0, none⟩) (m) (c2)))] [(2, rc X Y t), (5, rc U V s), (7, rc U V s), (10, rc X Y t)] ⟨rfl, rfl, rfl, rfl, rfl, rfl, rfl, rfl, rfl, rfl, rfl, rfl, rfl, rfl, rfl, rfl, rfl, rfl, rfl, rfl, rfl, trivial⟩ ⟨rfl, rfl, rfl, rfl, trivial⟩ rfl
  refine sq_step h (i := 12) rfl (u_call (xs := []) (up_seq (i := 12) (by kernel_rfl) rfl) (gd1 (xs := []) (up_seq (i := 12) (by kernel_rfl) rfl) 8 false rfl 45 rfl (lk rfl) rfl) 49 rfl 25 #[(.tmp 46), (.tmp 48)] #[43, 43] rfl [Value.slice (some ⟨g1, 0, none⟩) (m) (c1), Value.slice (some ⟨g2, 0, none⟩) (m) (c2)] rfl (cE25 _) (Value.bool true) (fun w hb => same_ba hm1000 (HG1 _ hb) (HG2 _ hb))) (fun a w h => ?_)
  refine sq_step h (i := 13) rfl (u_not (xs := []) (up_seq (i := 13) (by kernel_rfl) rfl) (gd1 (xs := []) (up_seq (i := 13) (by kernel_rfl) rfl) 8 false rfl 45 rfl (lk rfl) rfl) 50 rfl 4 (.tmp 49) rfl rfl _ rfl) (fun a w h => ?_)
  refine sq_step h (i := 14) rfl (u_pick (xs := []) (up_seq (i := 14) (by kernel_rfl) rfl) (gd0 rfl) 51 rfl (.tmp 45) (.const (.bool true)) (.tmp 50) rfl rfl rfl rfl _ rfl) (fun a w h => ?_)
  refine sq_step h (i := 15) rfl (u_move (xs := []) (up_seq (i := 15) (by kernel_rfl) rfl) (gd0 rfl) 52 rfl (.tmp 51) (Or.inl rfl) rfl) (fun a w h => ?_)
  refine sq_step h (i := 16) rfl (u_move (xs := []) (up_seq (i := 16) (by kernel_rfl) rfl) (gd1 (xs := []) (up_seq (i := 16) (by kernel_rfl) rfl) 15 false rfl 52 rfl (lk rfl) rfl) 53 rfl (.tmp 6) (Or.inl rfl) rfl) (fun a w h => ?_)
  refine sq_step h (i := 17) rfl (u_move (xs := []) (up_seq (i := 17) (by kernel_rfl) rfl) (gd1 (xs := []) (up_seq (i := 17) (by kernel_rfl) rfl) 15 false rfl 52 rfl (lk rfl) rfl) 54 rfl (.tmp 53) (Or.inl rfl) rfl) (fun a w h => ?_)
  refine sq_step h (i := 18) rfl (u_load (xs := []) (up_seq (i := 18) (by kernel_rfl) rfl) (gd1 (xs := []) (up_seq (i := 18) (by kernel_rfl) rfl) 17 true rfl 54 rfl (lk rfl) rfl) 55 rfl 26 (.tmp 5) rfl rfl rfl Tryd.underlying26 rfl i26 (lk rfl) _ rfl) (fun a w h => ?_)
  refine sq_call h HX (i := 19) rfl (gq1 17 true rfl rfl) 56 rfl 24 #[(.tmp 55)] #[26] rfl [.agg (rc U V s).toArray] rfl (cE24 _) (fun r w1 w2 => Made n f r w1 w2) (fun hb => Calls.mono (CE3 _ (KK _ hb)) (fun _ _ ⟨r, h1, h2, h3⟩ => ⟨r, h1, h2, h3⟩)) (fun r a w W2 hR KW HN HX2 hw h => ?_)
  obtain ⟨g3, c3, rfl, hge3, hB3, hc3, hm3⟩ := hR
  have HG3 : ∀ w2, W2.kp w2 → BA w2 (some ⟨g3, 0, none⟩) n f := fun w2 h2 => BA.re hw h2 hB3 (fun p hp => by cases hp; exact HN _ hge3)
  replace HG1 : ∀ w2, W2.kp w2 → BA w2 (some ⟨g1, 0, none⟩) m eb := fun w2 h2 => HG1 w2 (KW w2 h2)
  replace HG2 : ∀ w2, W2.kp w2 → BA w2 (some ⟨g2, 0, none⟩) m eb := fun w2 h2 => HG2 w2 (KW w2 h2)
  replace KK : ∀ w2, W2.kp w2 → (Bs.of w0).kp w2 := fun w2 h2 => KK w2 (KW w2 h2)
  replace HX := HX2
  clear KW HN HX2 hw hB3 hge3
  replace h := h.keep [(1, .val (Value.slice (A) (n) (c))), (2, .ptr 2 0), (5, .ptr 5 0), (6, .val (Value.bool true)), (7, .ptr 7 0), (8, .val (Value.bool true)), (9, .val (Value.slice (some ⟨g1, 0, none⟩) (m) (c1))), (10, .ptr 10 0), (11, .val (Value.bool true)), (37, .val (.agg (rc U V s).toArray)), (38, .val (.agg (rc U V s).toArray)), (39, .val (Value.bool false)), (40, .val (Value.bool false)), (41, .val (Value.bool true)), (42, .val (Value.bool true)), (43, .val (Value.bool false)), (44, .val (Value.bool false)), (45, .val (Value.bool false)), (46, .val (Value.slice (some ⟨g1, 0, none⟩) (m) (c1))), (47, .val (.agg (rc X Y t).toArray)), (48, .val (Value.slice (some ⟨g2, 0, none⟩) (m) (c2))), (49, .val (Value.bool true)), (50, .val (Value.bool false)), (51, .val (Value.bool false)), (52, .val (Value.bool false)), (53, .val (Value.bool true)), (54, .val (Value.bool true)), (55, .val (.agg (rc U V s).toArray)), (56, .val (Value.slice (some ⟨g3, 0, none⟩) (n) (c3)))] [(2, rc X Y t), (5, rc U V s), (7, rc U V s), (10, rc X Y t)] ⟨rfl, rfl, rfl, rfl, rfl, rfl, rfl, rfl, rfl, rfl, rfl, rfl, rfl, rfl, rfl, rfl, rfl, rfl, rfl, rfl, rfl, rfl, rfl, rfl, rfl, rfl, rfl, rfl, rfl, trivial⟩ ⟨rfl, rfl, rfl, rfl, trivial⟩ rfl
  refine sq_step h (i := 20) rfl (u_move (xs := []) (up_seq (i := 20) (by kernel_rfl) rfl) (gd1 (xs := []) (up_seq (i := 20) (by kernel_rfl) rfl) 17 true rfl 54 rfl (lk rfl) rfl) 57 rfl (.tmp 1) (Or.inl rfl) rfl) (fun a w h => ?_)
  refine sq_step h (i := 21) rfl (u_call (xs := []) (up_seq (i := 21) (by kernel_rfl) rfl) (gd1 (xs := []) (up_seq (i := 21) (by kernel_rfl) rfl) 17 true rfl 54 rfl (lk rfl) rfl) 58 rfl 25 #[(.tmp 56), (.tmp 57)] #[43, 43] rfl [Value.slice (some ⟨g3, 0, none⟩) (n) (c3), Value.slice (A) (n) (c)] rfl (cE25 _) (Value.bool true) (fun w hb => same_ba hn1000 (HG3 _ hb) (hba.keep (Bs.kp_of (KK _ hb))))) (fun a w h => ?_)
  refine sq_step h (i := 22) rfl (u_not (xs := []) (up_seq (i := 22) (by kernel_rfl) rfl) (gd1 (xs := []) (up_seq (i := 22) (by kernel_rfl) rfl) 17 true rfl 54 rfl (lk rfl) rfl) 59 rfl 4 (.tmp 58) rfl rfl _ rfl) (fun a w h => ?_)
  refine sq_step h (i := 23) rfl (u_pick (xs := []) (up_seq (i := 23) (by kernel_rfl) rfl) (gd1 (xs := []) (up_seq (i := 23) (by kernel_rfl) rfl) 15 false rfl 52 rfl (lk rfl) rfl) 60 rfl (.tmp 54) (.tmp 59) (.const (.bool false)) rfl rfl rfl rfl _ rfl) (fun a w h => ?_)
  refine sq_step h (i := 24) rfl (u_pick (xs := []) (up_seq (i := 24) (by kernel_rfl) rfl) (gd0 rfl) 61 rfl (.tmp 52) (.const (.bool true)) (.tmp 60) rfl rfl rfl rfl _ rfl) (fun a w h => ?_)
  replace h := h.keep [(2, .ptr 2 0), (10, .ptr 10 0), (11, .val (Value.bool true)), (61, .val (Value.bool false))] [(2, rc X Y t), (10, rc X Y t)] ⟨rfl, rfl, rfl, rfl, trivial⟩ ⟨rfl, rfl, trivial⟩ rfl
  refine sq_end ?_
  refine then_norm ?_
  refine go_cond h false rfl (fun ht => ?_) (fun hf => ?_)
  case refine_1 => cases ht
  refine wp_skip ?_
  refine then_norm ?_
  refine go_region h hm [eS 62 (.val (Value.bool true)), eS 63 (.val (Value.bool true)), eS 64 (.val (.agg (rc X Y t).toArray)), eS 65 (.val (Value.bool true)), eS 66 (.val (Value.bool false)), eS 67 (.val (Value.bool false)), eS 68 (.val (.agg (rc X Y t).toArray)), eS 69 (.val (.agg (rc X Y t).toArray)), eS 70 (.val (Value.bool true)), eS 71 (.val (Value.bool true)), eS 72 (.val (Value.bool true)), eS 73 (.val (Value.bool true)), eS 74 (.val (.agg (rc X Y t).toArray)), eS 75 (.val (Value.bool true)), eS 76 (.val (Value.bool true)), eS 77 (.val undef), eS 78 (.val undef), eS 79 (.val undef), eS 80 (.val (Value.bool true)), eS 81 (.val (Value.bool true)), eS 4 (.val (Value.bool true))] (by kernel_rfl) ⟨
    fun L u => u_move u (gd0 rfl) 62 rfl (.tmp 11) (Or.inl rfl) rfl,
    fun L u => u_move u (gd0 rfl) 63 rfl (.tmp 62) (Or.inl rfl) rfl,
    fun L u => u_load u (gd1 u 1 true rfl 63 rfl (lk rfl) rfl) 64 rfl 26 (.tmp 2) rfl rfl rfl Tryd.underlying26 rfl i26 (lk rfl) _ rfl,
    fun L u => u_call u (gd1 u 1 true rfl 63 rfl (lk rfl) rfl) 65 rfl 11 #[(.tmp 64)] #[26] rfl [.agg (rc X Y t).toArray] rfl (cE11 _) (Value.bool true) (fun w hb => by have g := r_Formed (hT.keep (Bs.kp_of (KK _ hb))) hX hY t; rw [hfm] at g; exact g),
    fun L u => u_not u (gd1 u 1 true rfl 63 rfl (lk rfl) rfl) 66 rfl 4 (.tmp 65) rfl rfl _ rfl,
    fun L u => u_move u (gd1 u 1 true rfl 63 rfl (lk rfl) rfl) 67 rfl (.tmp 66) (Or.inl rfl) rfl,
    fun L u => u_load u (gd1 u 5 false rfl 67 rfl (lk rfl) rfl) 68 rfl 26 (.tmp 10) rfl rfl rfl Tryd.underlying26 rfl i26 (lk rfl) _ rfl,
    fun L u => u_load u (gd1 u 5 false rfl 67 rfl (lk rfl) rfl) 69 rfl 26 (.tmp 2) rfl rfl rfl Tryd.underlying26 rfl i26 (lk rfl) _ rfl,
    fun L u => u_eql u (gd1 u 5 false rfl 67 rfl (lk rfl) rfl) 70 rfl 26 26 (.tmp 68) (.tmp 69) rfl rfl rfl Tryd.eqGuardType26 (true) (fun w => eq_rc_same hX hY t w),
    fun L u => u_pick u (gd1 u 1 true rfl 63 rfl (lk rfl) rfl) 71 rfl (.tmp 67) (.const (.bool true)) (.tmp 70) rfl rfl rfl rfl _ rfl,
    fun L u => u_pick u (gd0 rfl) 72 rfl (.tmp 63) (.tmp 71) (.const (.bool false)) rfl rfl rfl rfl _ rfl,
    fun L u => u_move u (gd0 rfl) 73 rfl (.tmp 72) (Or.inl rfl) rfl,
    fun L u => u_load u (gd1 u 11 true rfl 73 rfl (lk rfl) rfl) 74 rfl 26 (.tmp 2) rfl rfl rfl Tryd.underlying26 rfl i26 (lk rfl) _ rfl,
    fun L u => u_call u (gd1 u 11 true rfl 73 rfl (lk rfl) rfl) 75 rfl 11 #[(.tmp 74)] #[26] rfl [.agg (rc X Y t).toArray] rfl (cE11 _) (Value.bool true) (fun w hb => by have g := r_Formed (hT.keep (Bs.kp_of (KK _ hb))) hX hY t; rw [hfm] at g; exact g),
    fun L u => u_move u (gd1 u 11 true rfl 73 rfl (lk rfl) rfl) 76 rfl (.tmp 75) (Or.inl rfl) rfl,
    fun L u => u_no u 14 false rfl 76 rfl (lk rfl) rfl 77 rfl,
    fun L u => u_no u 14 false rfl 76 rfl (lk rfl) rfl 78 rfl,
    fun L u => u_no u 14 false rfl 76 rfl (lk rfl) rfl 79 rfl,
    fun L u => u_pick u (gd1 u 11 true rfl 73 rfl (lk rfl) rfl) 80 rfl (.tmp 76) (.const (.bool true)) (.tmp 79) rfl rfl rfl rfl _ rfl,
    fun L u => u_pick u (gd0 rfl) 81 rfl (.tmp 73) (.tmp 80) (.const (.bool false)) rfl rfl rfl rfl _ rfl,
    fun L u => u_move u (gd0 rfl) 4 rfl (.tmp 81) (Or.inr rfl) rfl,
    trivial⟩ [(4, .val (Value.bool true))] [] ⟨rfl, trivial⟩ trivial rfl (fun a w h => ?_)
  refine wp_ret ?_
  refine ret_slot h 4 rfl (lk rfl) (Value.bool true) rfl ?_
  exact ⟨rfl, Bs.kp_of (KK _ h.below)⟩
set_option maxRecDepth 100000 in
set_option maxHeartbeats 8000000 in
theorem bytes_true_false {w0 : World} (hT : Tab w0) {X Y : Int} (hX : Num X) (hY : Num Y) (t : Bool) (hfm : fmd X Y t = false) {A : Option Addr} {n c : Nat} {f : Nat → Nat} (hba : BA w0 A n f) (hn : n ≤ 100) {U V : Int} (hU : Num U) (hV : Num V) (s : Bool) {m : Nat} {eb : Nat → Nat} (hmm : m ≤ 100)
    (CD1 : ∀ w, (Bs.of w0).kp w → Calls Tryd.prog 22 [.slice A n c].toArray w fun e w' => e = .returned (.tuple [.agg (rc U V s).toArray, .bool true].toArray) ∧ Below w.heap.size w w')
    (CD2 : ∀ w, (Bs.of w0).kp w → Calls Tryd.prog 23 [.slice A n c].toArray w fun e w' => e = .returned (.tuple [.agg (rc U V s).toArray, .bool true].toArray) ∧ Below w.heap.size w w')
    (CE1 : ∀ w, (Bs.of w0).kp w → Calls Tryd.prog 24 [.agg (rc X Y t).toArray].toArray w fun e w' => ∃ r, e = .returned r ∧ Made m eb r w w' ∧ Below w.heap.size w w')
    (CE2 : ∀ w, (Bs.of w0).kp w → Calls Tryd.prog 26 [.agg (rc X Y t).toArray].toArray w fun e w' => ∃ r, e = .returned r ∧ Made m eb r w w' ∧ Below w.heap.size w w')
    (CD3 : ∀ w g d, (Bs.of w0).kp w → BA w (some ⟨g, 0, none⟩) m eb → m ≤ d → d ≤ maxLen → Calls Tryd.prog 22 [.slice (some ⟨g, 0, none⟩) m d].toArray w fun e w' => e = .returned (.tuple [.agg (rc 0 0 true).toArray, .bool true].toArray) ∧ Below w.heap.size w w')
    (CE3 : ∀ w, (Bs.of w0).kp w → Calls Tryd.prog 24 [.agg (rc U V s).toArray].toArray w fun e w' => ∃ r, e = .returned r ∧ Made n f r w w' ∧ Below w.heap.size w w') : Calls Tryd.prog 8 [.agg (rc X Y t).toArray, .slice A n c].toArray w0 fun e w' => e = .returned (.bool true) ∧ Below w0.heap.size w0 w' := by
  have KK : ∀ w2, (Bs.of w0).kp w2 → (Bs.of w0).kp w2 := fun _ h => h
  have HX : ∀ k, (Bs.of w0).X k = true → k < (Bs.of w0).w.heap.size := fun k hk => by cases hk
  have hm1000 : m ≤ 1000 := by omega
  have hn1000 : n ≤ 1000 := by omega
  refine enter (args := [.agg (rc X Y t).toArray, Value.slice (A) (n) (c)]) Tryd.func8 rfl 82 rfl (lk rfl) (fun a h => ?_)
  refine go_region h hm [eN 2 (rc X Y t), eS 4 (.val (Value.bool false))] (by kernel_rfl) ⟨
    fun L u => u_box u (gd0 rfl) 26 (.tmp 0) rfl 2 rfl rfl rfl _ rfl,
    fun L u => u_move u (gd0 rfl) 4 rfl (.const (.bool false)) (Or.inr rfl) rfl,
    trivial⟩ [(1, .val (Value.slice (A) (n) (c))), (2, .ptr 2 0)] [(2, rc X Y t)] ⟨rfl, rfl, trivial⟩ ⟨rfl, trivial⟩ rfl (fun a w h => ?_)
  refine wp_seq ?_
  refine go_region h hm [eS 12 (.val (Value.bool true)), eS 13 (.val (Value.bool false)), eS 14 (.val (Value.bool false)), eS 15 (.val (Value.slice (A) (n) (c))), eS 16 (.val (Value.int .i64 ((n : Nat) : Int))), eS 17 (.val (Value.bool false)), eS 18 (.val (Value.bool false))] (by kernel_rfl) ⟨
    fun L u => u_call u (gd0 rfl) 12 rfl 9 #[] #[] rfl [] rfl (cE9 _) (Value.bool true) (fun w hb => awake_any (hT.keep (Bs.kp_of (KK _ hb)))),
    fun L u => u_not u (gd0 rfl) 13 rfl 4 (.tmp 12) rfl rfl _ rfl,
    fun L u => u_move u (gd0 rfl) 14 rfl (.tmp 13) (Or.inl rfl) rfl,
    fun L u => u_move u (gd1 u 2 false rfl 14 rfl (lk rfl) rfl) 15 rfl (.tmp 1) (Or.inl rfl) rfl,
    fun L u => u_lenV u (gd1 u 2 false rfl 14 rfl (lk rfl) rfl) 16 rfl (.tmp 15) 43 rfl rfl Tryd.underlying43,
    fun L u => u_bin u (gd1 u 2 false rfl 14 rfl (lk rfl) rfl) 17 rfl .gtr 3 3 (.tmp 16) (.const (.int .i64 100)) rfl rfl rfl (eqg_int _ _ _ _ _ _ _ _) (Value.bool false) (no_of (fun w => i_gtr _ _ _ _ w) (by omega)),
    fun L u => u_pick u (gd0 rfl) 18 rfl (.tmp 14) (.const (.bool true)) (.tmp 17) rfl rfl rfl rfl _ rfl,
    trivial⟩ [(1, .val (Value.slice (A) (n) (c))), (2, .ptr 2 0), (18, .val (Value.bool false))] [(2, rc X Y t)] ⟨rfl, rfl, rfl, trivial⟩ ⟨rfl, trivial⟩ rfl (fun a w h => ?_)
  refine go_cond h false rfl (fun ht => ?_) (fun hf => ?_)
  case refine_1 => cases ht
  refine wp_skip ?_
  refine then_norm ?_
  refine go_region h hm [eS 21 (.val (Value.slice (A) (n) (c))), eS 22 (.val (.tuple [.agg (rc U V s).toArray, Value.bool true].toArray)), eS 20 (.val (.tuple [.agg (rc U V s).toArray, Value.bool true].toArray)), eS 23 (.val (.agg (rc U V s).toArray)), eS 24 (.val (Value.bool true)), eN 5 (nz ++ nz ++ [Value.bool false]), eM 5 (rc U V s), eS 6 (.val (Value.bool true))] (by kernel_rfl) ⟨
    fun L u => u_move u (gd0 rfl) 21 rfl (.tmp 1) (Or.inl rfl) rfl,
    fun L u => u_call u (gd0 rfl) 22 rfl 22 #[(.tmp 21)] #[43] rfl [Value.slice (A) (n) (c)] rfl (cE22 _) (.tuple [.agg (rc U V s).toArray, Value.bool true].toArray) (fun w hb => CD1 _ (KK _ hb)),
    fun L u => u_move u (gd0 rfl) 20 rfl (.tmp 22) (Or.inl rfl) rfl,
    fun L u => u_part u (gd0 rfl) 23 rfl (.tmp 20) 0 rfl (vs := [.agg (rc U V s).toArray, Value.bool true]) rfl _ rfl,
    fun L u => u_part u (gd0 rfl) 24 rfl (.tmp 20) 1 rfl (vs := [.agg (rc U V s).toArray, Value.bool true]) rfl _ rfl,
    fun L u => u_alloc u (gd0 rfl) 26 rfl 5 rfl rfl z26 _ rfl,
    fun L u => u_store u (gd0 rfl) 26 (.tmp 5) (.tmp 23) rfl rfl rfl (vs := rc U V s) rfl rfl i26 (lk rfl) rfl _ rfl,
    fun L u => u_move u (gd0 rfl) 6 rfl (.tmp 24) (Or.inr rfl) rfl,
    trivial⟩ [(1, .val (Value.slice (A) (n) (c))), (2, .ptr 2 0), (5, .ptr 5 0), (6, .val (Value.bool true))] [(2, rc X Y t), (5, rc U V s)] ⟨rfl, rfl, rfl, rfl, trivial⟩ ⟨rfl, rfl, trivial⟩ rfl (fun a w h => ?_)
  refine go_region h hm [eS 26 (.val (Value.slice (A) (n) (c))), eS 27 (.val (.tuple [.agg (rc U V s).toArray, Value.bool true].toArray)), eS 25 (.val (.tuple [.agg (rc U V s).toArray, Value.bool true].toArray)), eS 28 (.val (.agg (rc U V s).toArray)), eS 29 (.val (Value.bool true)), eN 7 (nz ++ nz ++ [Value.bool false]), eM 7 (rc U V s), eS 8 (.val (Value.bool true))] (by kernel_rfl) ⟨
    fun L u => u_move u (gd0 rfl) 26 rfl (.tmp 1) (Or.inl rfl) rfl,
    fun L u => u_call u (gd0 rfl) 27 rfl 23 #[(.tmp 26)] #[43] rfl [Value.slice (A) (n) (c)] rfl (cE23 _) (.tuple [.agg (rc U V s).toArray, Value.bool true].toArray) (fun w hb => CD2 _ (KK _ hb)),
    fun L u => u_move u (gd0 rfl) 25 rfl (.tmp 27) (Or.inl rfl) rfl,
    fun L u => u_part u (gd0 rfl) 28 rfl (.tmp 25) 0 rfl (vs := [.agg (rc U V s).toArray, Value.bool true]) rfl _ rfl,
    fun L u => u_part u (gd0 rfl) 29 rfl (.tmp 25) 1 rfl (vs := [.agg (rc U V s).toArray, Value.bool true]) rfl _ rfl,
    fun L u => u_alloc u (gd0 rfl) 26 rfl 7 rfl rfl z26 _ rfl,
    fun L u => u_store u (gd0 rfl) 26 (.tmp 7) (.tmp 28) rfl rfl rfl (vs := rc U V s) rfl rfl i26 (lk rfl) rfl _ rfl,
    fun L u => u_move u (gd0 rfl) 8 rfl (.tmp 29) (Or.inr rfl) rfl,
    trivial⟩ [(1, .val (Value.slice (A) (n) (c))), (2, .ptr 2 0), (5, .ptr 5 0), (6, .val (Value.bool true)), (7, .ptr 7 0), (8, .val (Value.bool true))] [(2, rc X Y t), (5, rc U V s), (7, rc U V s)] ⟨rfl, rfl, rfl, rfl, rfl, rfl, trivial⟩ ⟨rfl, rfl, rfl, trivial⟩ rfl (fun a w h => ?_)
  refine wp_seq ?_
  refine sq_begin [0, 1, 2] rfl ?_
  refine sq_step h (i := 0) rfl (u_load (xs := []) (up_seq (i := 0) (by kernel_rfl) rfl) (gd0 rfl) 30 rfl 26 (.tmp 2) rfl rfl rfl Tryd.underlying26 rfl i26 (lk rfl) _ rfl) (fun a w h => ?_)
  refine sq_call h HX (i := 1) rfl (gq0 rfl) 31 rfl 24 #[(.tmp 30)] #[26] rfl [.agg (rc X Y t).toArray] rfl (cE24 _) (fun r w1 w2 => Made m eb r w1 w2) (fun hb => Calls.mono (CE1 _ (KK _ hb)) (fun _ _ ⟨r, h1, h2, h3⟩ => ⟨r, h1, h2, h3⟩)) (fun r a w W2 hR KW HN HX2 hw h => ?_)
  obtain ⟨g1, c1, rfl, hge1, hB1, hc1, hm1⟩ := hR
  have HG1 : ∀ w2, W2.kp w2 → BA w2 (some ⟨g1, 0, none⟩) m eb := fun w2 h2 => BA.re hw h2 hB1 (fun p hp => by cases hp; exact HN _ hge1)
  replace KK : ∀ w2, W2.kp w2 → (Bs.of w0).kp w2 := fun w2 h2 => KK w2 (KW w2 h2)
  replace HX := HX2
  clear KW HN HX2 hw hB1 hge1
  replace h := h.keep [(1, .val (Value.slice (A) (n) (c))), (2, .ptr 2 0), (5, .ptr 5 0), (6, .val (Value.bool true)), (7, .ptr 7 0), (8, .val (Value.bool true)), (30, .val (.agg (rc X Y t).toArray)), (31, .val (Value.slice (some ⟨g1, 0, none⟩) (m) (c1)))] [(2, rc X Y t), (5, rc U V s), (7, rc U V s)] ⟨rfl, rfl, rfl, rfl, rfl, rfl, rfl, rfl, trivial⟩ ⟨rfl, rfl, rfl, trivial⟩ rfl
  refine sq_step h (i := 2) rfl (u_move (xs := []) (up_seq (i := 2) (by kernel_rfl) rfl) (gd0 rfl) 9 rfl (.tmp 31) (Or.inr rfl) rfl) (fun a w h => ?_)
  replace h := h.keep [(1, .val (Value.slice (A) (n) (c))), (2, .ptr 2 0), (5, .ptr 5 0), (6, .val (Value.bool true)), (7, .ptr 7 0), (8, .val (Value.bool true)), (9, .val (Value.slice (some ⟨g1, 0, none⟩) (m) (c1)))] [(2, rc X Y t), (5, rc U V s), (7, rc U V s)] ⟨rfl, rfl, rfl, rfl, rfl, rfl, rfl, trivial⟩ ⟨rfl, rfl, rfl, trivial⟩ rfl
  refine sq_end ?_
  refine then_norm ?_
  refine go_region h hm [eS 33 (.val (Value.slice (some ⟨g1, 0, none⟩) (m) (c1))), eS 34 (.val (.tuple [.agg (rc 0 0 true).toArray, Value.bool true].toArray)), eS 32 (.val (.tuple [.agg (rc 0 0 true).toArray, Value.bool true].toArray)), eS 35 (.val (.agg (rc 0 0 true).toArray)), eS 36 (.val (Value.bool true)), eN 10 (nz ++ nz ++ [Value.bool false]), eM 10 (rc 0 0 true), eS 11 (.val (Value.bool true))] (by kernel_rfl) ⟨
    fun L u => u_move u (gd0 rfl) 33 rfl (.tmp 9) (Or.inl rfl) rfl,
    fun L u => u_call u (gd0 rfl) 34 rfl 22 #[(.tmp 33)] #[43] rfl [Value.slice (some ⟨g1, 0, none⟩) (m) (c1)] rfl (cE22 _) (.tuple [.agg (rc 0 0 true).toArray, Value.bool true].toArray) (fun w hb => CD3 _ _ _ (KK _ hb) (HG1 _ hb) hc1 hm1),
    fun L u => u_move u (gd0 rfl) 32 rfl (.tmp 34) (Or.inl rfl) rfl,
    fun L u => u_part u (gd0 rfl) 35 rfl (.tmp 32) 0 rfl (vs := [.agg (rc 0 0 true).toArray, Value.bool true]) rfl _ rfl,
    fun L u => u_part u (gd0 rfl) 36 rfl (.tmp 32) 1 rfl (vs := [.agg (rc 0 0 true).toArray, Value.bool true]) rfl _ rfl,
    fun L u => u_alloc u (gd0 rfl) 26 rfl 10 rfl rfl z26 _ rfl,
    fun L u => u_store u (gd0 rfl) 26 (.tmp 10) (.tmp 35) rfl rfl rfl (vs := rc 0 0 true) rfl rfl i26 (lk rfl) rfl _ rfl,
    fun L u => u_move u (gd0 rfl) 11 rfl (.tmp 36) (Or.inr rfl) rfl,
    trivial⟩ [(1, .val (Value.slice (A) (n) (c))), (2, .ptr 2 0), (5, .ptr 5 0), (6, .val (Value.bool true)), (7, .ptr 7 0), (8, .val (Value.bool true)), (9, .val (Value.slice (some ⟨g1, 0, none⟩) (m) (c1))), (10, .ptr 10 0), (11, .val (Value.bool true))] [(2, rc X Y t), (5, rc U V s), (7, rc U V s), (10, rc 0 0 true)] ⟨rfl, rfl, rfl, rfl, rfl, rfl, rfl, rfl, rfl, trivial⟩ ⟨rfl, rfl, rfl, rfl, trivial⟩ rfl (fun a w h => ?_)
  refine wp_seq ?_
  refine wp_seq ?_
  refine sq_begin [0, 1, 2, 3, 4, 5, 6, 7, 8, 9, 10, 11, 12, 13, 14, 15, 16, 17, 18, 19, 20, 21, 22, 23, 24] rfl ?_
  refine sq_step h (i := 0) rfl (u_load (xs := []) (up_seq (i := 0) (by kernel_rfl) rfl) (gd0 rfl) 37 rfl 26 (.tmp 5) rfl rfl rfl Tryd.underlying26 rfl i26 (lk rfl) _ rfl) (fun a w h => ?_)
  refine sq_step h (i := 1) rfl (u_load (xs := []) (up_seq (i := 1) (by kernel_rfl) rfl) (gd0 rfl) 38 rfl 26 (.tmp 7) rfl rfl rfl Tryd.underlying26 rfl i26 (lk rfl) _ rfl) (fun a w h => ?_)
  refine sq_step h (i := 2) rfl (u_neq (xs := []) (up_seq (i := 2) (by kernel_rfl) rfl) (gd0 rfl) 39 rfl 26 26 (.tmp 37) (.tmp 38) rfl rfl rfl Tryd.eqGuardType26 (true) (fun w => eq_rc_same hU hV s w)) (fun a w h => ?_)
  refine sq_step h (i := 3) rfl (u_move (xs := []) (up_seq (i := 3) (by kernel_rfl) rfl) (gd0 rfl) 40 rfl (.tmp 39) (Or.inl rfl) rfl) (fun a w h => ?_)
  refine sq_step h (i := 4) rfl (u_move (xs := []) (up_seq (i := 4) (by kernel_rfl) rfl) (gd1 (xs := []) (up_seq (i := 4) (by kernel_rfl) rfl) 3 false rfl 40 rfl (lk rfl) rfl) 41 rfl (.tmp 6) (Or.inl rfl) rfl) (fun a w h => ?_)
  refine sq_step h (i := 5) rfl (u_move (xs := []) (up_seq (i := 5) (by kernel_rfl) rfl) (gd1 (xs := []) (up_seq (i := 5) (by kernel_rfl) rfl) 3 false rfl 40 rfl (lk rfl) rfl) 42 rfl (.tmp 8) (Or.inl rfl) rfl) (fun a w h => ?_)
  refine sq_step h (i := 6) rfl (u_bin (xs := []) (up_seq (i := 6) (by kernel_rfl) rfl) (gd1 (xs := []) (up_seq (i := 6) (by kernel_rfl) rfl) 3 false rfl 40 rfl (lk rfl) rfl) 43 rfl .neq 4 4 (.tmp 41) (.tmp 42) rfl rfl rfl (eqg_bool _ _ _ _ _ _) (Value.bool false) (t_neq_same _ Tryd.underlying4 _)) (fun a w h => ?_)
  refine sq_step h (i := 7) rfl (u_pick (xs := []) (up_seq (i := 7) (by kernel_rfl) rfl) (gd0 rfl) 44 rfl (.tmp 40) (.const (.bool true)) (.tmp 43) rfl rfl rfl rfl _ rfl) (fun a w h => ?_)
  refine sq_step h (i := 8) rfl (u_move (xs := []) (up_seq (i := 8) (by kernel_rfl) rfl) (gd0 rfl) 45 rfl (.tmp 44) (Or.inl rfl) rfl) (fun a w h => ?_)
  refine sq_step h (i := 9) rfl (u_move (xs := []) (up_seq (i := 9) (by kernel_rfl) rfl) (gd1 (xs := []) (up_seq (i := 9) (by kernel_rfl) rfl) 8 false rfl 45 rfl (lk rfl) rfl) 46 rfl (.tmp 9) (Or.inl rfl) rfl) (fun a w h => ?_)
  refine sq_step h (i := 10) rfl (u_load (xs := []) (up_seq (i := 10) (by kernel_rfl) rfl) (gd1 (xs := []) (up_seq (i := 10) (by kernel_rfl) rfl) 8 false rfl 45 rfl (lk rfl) rfl) 47 rfl 26 (.tmp 2) rfl rfl rfl Tryd.underlying26 rfl i26 (lk rfl) _ rfl) (fun a w h => ?_)
  refine sq_call h HX (i := 11) rfl (gq1 8 false rfl rfl) 48 rfl 26 #[(.tmp 47)] #[26] rfl [.agg (rc X Y t).toArray] rfl (cE26 _) (fun r w1 w2 => Made m eb r w1 w2) (fun hb => Calls.mono (CE2 _ (KK _ hb)) (fun _ _ ⟨r, h1, h2, h3⟩ => ⟨r, h1, h2, h3⟩)) (fun r a w W2 hR KW HN HX2 hw h => ?_)
  obtain ⟨g2, c2, rfl, hge2, hB2, hc2, hm2⟩ := hR
  have HG2 : ∀ w2, W2.kp w2 → BA w2 (some ⟨g2, 0, none⟩) m eb := fun w2 h2 => BA.re hw h2 hB2 (fun p hp => by cases hp; exact HN _ hge2)
  replace HG1 : ∀ w2, W2.kp w2 → BA w2 (some ⟨g1, 0, none⟩) m eb := fun w2 h2 => HG1 w2 (KW w2 h2)
  replace KK : ∀ w2, W2.kp w2 → (Bs.of w0).kp w2 := fun w2 h2 => KK w2 (KW w2 h2)
  replace HX := HX2
  clear KW HN HX2 hw hB2 hge2
  replace h := h.keep [(1, .val (Value.slice (A) (n) (c))), (2, .ptr 2 0), (5, .ptr 5 0), (6, .val (Value.bool true)), (7, .ptr 7 0), (8, .val (Value.bool true)), (9, .val (Value.slice (some ⟨g1, 0, none⟩) (m) (c1))), (10, .ptr 10 0), (11, .val (Value.bool true)), (37, .val (.agg (rc U V s).toArray)), (38, .val (.agg (rc U V s).toArray)), (39, .val (Value.bool false)), (40, .val (Value.bool false)), (41, .val (Value.bool true)), (42, .val (Value.bool true)), (43, .val (Value.bool false)), (44, .val (Value.bool false)), (45, .val (Value.bool false)), (46, .val (Value.slice (some ⟨g1, 0, none⟩) (m) (c1))), (47, .val (.agg (rc X Y t).toArray)), (48, .val (Value.slice (some ⟨g2, 0, none⟩) (m) (c2)))] [(2, rc X Y t), (5, rc U V s), (7, rc U V s), (10, rc 0 0 true)] ⟨rfl, rfl, rfl, rfl, rfl, rfl, rfl, rfl, rfl, rfl, rfl, rfl, rfl, rfl, rfl, rfl, rfl, rfl, rfl, rfl, rfl, trivial⟩ ⟨rfl, rfl, rfl, rfl, trivial⟩ rfl
  refine sq_step h (i := 12) rfl (u_call (xs := []) (up_seq (i := 12) (by kernel_rfl) rfl) (gd1 (xs := []) (up_seq (i := 12) (by kernel_rfl) rfl) 8 false rfl 45 rfl (lk rfl) rfl) 49 rfl 25 #[(.tmp 46), (.tmp 48)] #[43, 43] rfl [Value.slice (some ⟨g1, 0, none⟩) (m) (c1), Value.slice (some ⟨g2, 0, none⟩) (m) (c2)] rfl (cE25 _) (Value.bool true) (fun w hb => same_ba hm1000 (HG1 _ hb) (HG2 _ hb))) (fun a w h => ?_)
  refine sq_step h (i := 13) rfl (u_not (xs := []) (up_seq (i := 13) (by kernel_rfl) rfl) (gd1 (xs := []) (up_seq (i := 13) (by kernel_rfl) rfl) 8 false rfl 45 rfl (lk rfl) rfl) 50 rfl 4 (.tmp 49) rfl rfl _ rfl) (fun a w h => ?_)
  refine sq_step h (i := 14) rfl (u_pick (xs := []) (up_seq (i := 14) (by kernel_rfl) rfl) (gd0 rfl) 51 rfl (.tmp 45) (.const (.bool true)) (.tmp 50) rfl rfl rfl rfl _ rfl) (fun a w h => ?_)
  refine sq_step h (i := 15) rfl (u_move (xs := []) (up_seq (i := 15) (by kernel_rfl) rfl) (gd0 rfl) 52 rfl (.tmp 51) (Or.inl rfl) rfl) (fun a w h => ?_)
  refine sq_step h (i := 16) rfl (u_move (xs := []) (up_seq (i := 16) (by kernel_rfl) rfl) (gd1 (xs := []) (up_seq (i := 16) (by kernel_rfl) rfl) 15 false rfl 52 rfl (lk rfl) rfl) 53 rfl (.tmp 6) (Or.inl rfl) rfl) (fun a w h => ?_)
  refine sq_step h (i := 17) rfl (u_move (xs := []) (up_seq (i := 17) (by kernel_rfl) rfl) (gd1 (xs := []) (up_seq (i := 17) (by kernel_rfl) rfl) 15 false rfl 52 rfl (lk rfl) rfl) 54 rfl (.tmp 53) (Or.inl rfl) rfl) (fun a w h => ?_)
  refine sq_step h (i := 18) rfl (u_load (xs := []) (up_seq (i := 18) (by kernel_rfl) rfl) (gd1 (xs := []) (up_seq (i := 18) (by kernel_rfl) rfl) 17 true rfl 54 rfl (lk rfl) rfl) 55 rfl 26 (.tmp 5) rfl rfl rfl Tryd.underlying26 rfl i26 (lk rfl) _ rfl) (fun a w h => ?_)
  refine sq_call h HX (i := 19) rfl (gq1 17 true rfl rfl) 56 rfl 24 #[(.tmp 55)] #[26] rfl [.agg (rc U V s).toArray] rfl (cE24 _) (fun r w1 w2 => Made n f r w1 w2) (fun hb => Calls.mono (CE3 _ (KK _ hb)) (fun _ _ ⟨r, h1, h2, h3⟩ => ⟨r, h1, h2, h3⟩)) (fun r a w W2 hR KW HN HX2 hw h => ?_)
  obtain ⟨g3, c3, rfl, hge3, hB3, hc3, hm3⟩ := hR
  have HG3 : ∀ w2, W2.kp w2 → BA w2 (some ⟨g3, 0, none⟩) n f := fun w2 h2 => BA.re hw h2 hB3 (fun p hp => by cases hp; exact HN _ hge3)
  replace HG1 : ∀ w2, W2.kp w2 → BA w2 (some ⟨g1, 0, none⟩) m eb := fun w2 h2 => HG1 w2 (KW w2 h2)
  replace HG2 : ∀ w2, W2.kp w2 → BA w2 (some ⟨g2, 0, none⟩) m eb := fun w2 h2 => HG2 w2 (KW w2 h2)
  replace KK : ∀ w2, W2.kp w2 → (Bs.of w0).kp w2 := fun w2 h2 => KK w2 (KW w2 h2)
  replace HX := HX2
  clear KW HN HX2 hw hB3 hge3
  replace h := h.keep [(1, .val (Value.slice (A) (n) (c))), (2, .ptr 2 0), (5, .ptr 5 0), (6, .val (Value.bool true)), (7, .ptr 7 0), (8, .val (Value.bool true)), (9, .val (Value.slice (some ⟨g1, 0, none⟩) (m) (c1))), (10, .ptr 10 0), (11, .val (Value.bool true)), (37, .val (.agg (rc U V s).toArray)), (38, .val (.agg (rc U V s).toArray)), (39, .val (Value.bool false)), (40, .val (Value.bool false)), (41, .val (Value.bool true)), (42, .val (Value.bool true)), (43, .val (Value.bool false)), (44, .val (Value.bool false)), (45, .val (Value.bool false)), (46, .val (Value.slice (some ⟨g1, 0, none⟩) (m) (c1))), (47, .val (.agg (rc X Y t).toArray)), (48, .val (Value.slice (some ⟨g2, 0, none⟩) (m) (c2))), (49, .val (Value.bool true)), (50, .val (Value.bool false)), (51, .val (Value.bool false)), (52, .val (Value.bool false)), (53, .val (Value.bool true)), (54, .val (Value.bool true)), (55, .val (.agg (rc U V s).toArray)), (56, .val (Value.slice (some ⟨g3, 0, none⟩) (n) (c3)))] [(2, rc X Y t), (5, rc U V s), (7, rc U V s), (10, rc 0 0 true)] ⟨rfl, rfl, rfl, rfl, rfl, rfl, rfl, rfl, rfl, rfl, rfl, rfl, rfl, rfl, rfl, rfl, rfl, rfl, rfl, rfl, rfl, rfl, rfl, rfl, rfl, rfl, rfl, rfl, rfl, trivial⟩ ⟨rfl, rfl, rfl, rfl, trivial⟩ rfl
  refine sq_step h (i := 20) rfl (u_move (xs := []) (up_seq (i := 20) (by kernel_rfl) rfl) (gd1 (xs := []) (up_seq (i := 20) (by kernel_rfl) rfl) 17 true rfl 54 rfl (lk rfl) rfl) 57 rfl (.tmp 1) (Or.inl rfl) rfl) (fun a w h => ?_)
  refine sq_step h (i := 21) rfl (u_call (xs := []) (up_seq (i := 21) (by kernel_rfl) rfl) (gd1 (xs := []) (up_seq (i := 21) (by kernel_rfl) rfl) 17 true rfl 54 rfl (lk rfl) rfl) 58 rfl 25 #[(.tmp 56), (.tmp 57)] #[43, 43] rfl [Value.slice (some ⟨g3, 0, none⟩) (n) (c3), Value.slice (A) (n) (c)] rfl (cE25 _) (Value.bool true) (fun w hb => same_ba hn1000 (HG3 _ hb) (hba.keep (Bs.kp_of (KK _ hb))))) (fun a w h => ?_)
  refine sq_step h (i := 22) rfl (u_not (xs := []) (up_seq (i := 22) (by kernel_rfl) rfl) (gd1 (xs := []) (up_seq (i := 22) (by kernel_rfl) rfl) 17 true rfl 54 rfl (lk rfl) rfl) 59 rfl 4 (.tmp 58) rfl rfl _ rfl) (fun a w h => ?_)
  refine sq_step h (i := 23) rfl (u_pick (xs := []) (up_seq (i := 23) (by kernel_rfl) rfl) (gd1 (xs := []) (up_seq (i := 23) (by kernel_rfl) rfl) 15 false rfl 52 rfl (lk rfl) rfl) 60 rfl (.tmp 54) (.tmp 59) (.const (.bool false)) rfl rfl rfl rfl _ rfl) (fun a w h => ?_)
  refine sq_step h (i := 24) rfl (u_pick (xs := []) (up_seq (i := 24) (by kernel_rfl) rfl) (gd0 rfl) 61 rfl (.tmp 52) (.const (.bool true)) (.tmp 60) rfl rfl rfl rfl _ rfl) (fun a w h => ?_)
  replace h := h.keep [(2, .ptr 2 0), (10, .ptr 10 0), (11, .val (Value.bool true)), (61, .val (Value.bool false))] [(2, rc X Y t), (10, rc 0 0 true)] ⟨rfl, rfl, rfl, rfl, trivial⟩ ⟨rfl, rfl, trivial⟩ rfl
  refine sq_end ?_
  refine then_norm ?_
  refine go_cond h false rfl (fun ht => ?_) (fun hf => ?_)
  case refine_1 => cases ht
  refine wp_skip ?_
  refine then_norm ?_
  refine go_region h hm [eS 62 (.val (Value.bool true)), eS 63 (.val (Value.bool true)), eS 64 (.val (.agg (rc X Y t).toArray)), eS 65 (.val (Value.bool false)), eS 66 (.val (Value.bool true)), eS 67 (.val (Value.bool true)), eS 68 (.val undef), eS 69 (.val undef), eS 70 (.val undef), eS 71 (.val (Value.bool true)), eS 72 (.val (Value.bool true)), eS 73 (.val (Value.bool true)), eS 74 (.val (.agg (rc X Y t).toArray)), eS 75 (.val (Value.bool false)), eS 76 (.val (Value.bool false)), eS 77 (.val (.agg (rc 0 0 true).toArray)), eS 78 (.val (.agg (nz ++ nz ++ [Value.bool true]).toArray)), eS 79 (.val (Value.bool true)), eS 80 (.val (Value.bool true)), eS 81 (.val (Value.bool true)), eS 4 (.val (Value.bool true))] (by kernel_rfl) ⟨
    fun L u => u_move u (gd0 rfl) 62 rfl (.tmp 11) (Or.inl rfl) rfl,
    fun L u => u_move u (gd0 rfl) 63 rfl (.tmp 62) (Or.inl rfl) rfl,
    fun L u => u_load u (gd1 u 1 true rfl 63 rfl (lk rfl) rfl) 64 rfl 26 (.tmp 2) rfl rfl rfl Tryd.underlying26 rfl i26 (lk rfl) _ rfl,
    fun L u => u_call u (gd1 u 1 true rfl 63 rfl (lk rfl) rfl) 65 rfl 11 #[(.tmp 64)] #[26] rfl [.agg (rc X Y t).toArray] rfl (cE11 _) (Value.bool false) (fun w hb => by have g := r_Formed (hT.keep (Bs.kp_of (KK _ hb))) hX hY t; rw [hfm] at g; exact g),
    fun L u => u_not u (gd1 u 1 true rfl 63 rfl (lk rfl) rfl) 66 rfl 4 (.tmp 65) rfl rfl _ rfl,
    fun L u => u_move u (gd1 u 1 true rfl 63 rfl (lk rfl) rfl) 67 rfl (.tmp 66) (Or.inl rfl) rfl,
    fun L u => u_no u 5 false rfl 67 rfl (lk rfl) rfl 68 rfl,
    fun L u => u_no u 5 false rfl 67 rfl (lk rfl) rfl 69 rfl,
    fun L u => u_no u 5 false rfl 67 rfl (lk rfl) rfl 70 rfl,
    fun L u => u_pick u (gd1 u 1 true rfl 63 rfl (lk rfl) rfl) 71 rfl (.tmp 67) (.const (.bool true)) (.tmp 70) rfl rfl rfl rfl _ rfl,
    fun L u => u_pick u (gd0 rfl) 72 rfl (.tmp 63) (.tmp 71) (.const (.bool false)) rfl rfl rfl rfl _ rfl,
    fun L u => u_move u (gd0 rfl) 73 rfl (.tmp 72) (Or.inl rfl) rfl,
    fun L u => u_load u (gd1 u 11 true rfl 73 rfl (lk rfl) rfl) 74 rfl 26 (.tmp 2) rfl rfl rfl Tryd.underlying26 rfl i26 (lk rfl) _ rfl,
    fun L u => u_call u (gd1 u 11 true rfl 73 rfl (lk rfl) rfl) 75 rfl 11 #[(.tmp 74)] #[26] rfl [.agg (rc X Y t).toArray] rfl (cE11 _) (Value.bool false) (fun w hb => by have g := r_Formed (hT.keep (Bs.kp_of (KK _ hb))) hX hY t; rw [hfm] at g; exact g),
    fun L u => u_move u (gd1 u 11 true rfl 73 rfl (lk rfl) rfl) 76 rfl (.tmp 75) (Or.inl rfl) rfl,
    fun L u => u_load u (gd1 u 14 false rfl 76 rfl (lk rfl) rfl) 77 rfl 26 (.tmp 10) rfl rfl rfl Tryd.underlying26 rfl i26 (lk rfl) _ rfl,
    fun L u => u_build u (gd1 u 14 false rfl 76 rfl (lk rfl) rfl) 78 rfl 26 #[(2, (.const (.bool true)))] rfl [(2, Value.bool true)] rfl (nz ++ nz ++ [Value.bool true]) (bP1),
    fun L u => u_eql u (gd1 u 14 false rfl 76 rfl (lk rfl) rfl) 79 rfl 26 26 (.tmp 77) (.tmp 78) rfl rfl rfl Tryd.eqGuardType26 (true) (fun w => eq_rc_none w),
    fun L u => u_pick u (gd1 u 11 true rfl 73 rfl (lk rfl) rfl) 80 rfl (.tmp 76) (.const (.bool true)) (.tmp 79) rfl rfl rfl rfl _ rfl,
    fun L u => u_pick u (gd0 rfl) 81 rfl (.tmp 73) (.tmp 80) (.const (.bool false)) rfl rfl rfl rfl _ rfl,
    fun L u => u_move u (gd0 rfl) 4 rfl (.tmp 81) (Or.inr rfl) rfl,
    trivial⟩ [(4, .val (Value.bool true))] [] ⟨rfl, trivial⟩ trivial rfl (fun a w h => ?_)
  refine wp_ret ?_
  refine ret_slot h 4 rfl (lk rfl) (Value.bool true) rfl ?_
  exact ⟨rfl, Bs.kp_of (KK _ h.below)⟩
set_option maxRecDepth 100000 in
set_option maxHeartbeats 8000000 in
theorem bytes_false_true {w0 : World} (hT : Tab w0) {X Y : Int} (hX : Num X) (hY : Num Y) (t : Bool) (hfm : fmd X Y t = true) {A : Option Addr} {n c : Nat} (hn : n ≤ 100) {U V : Int} (hU : Num U) (hV : Num V) (s : Bool) {m : Nat} {eb : Nat → Nat} (hmm : m ≤ 100)
    (CD1 : ∀ w, (Bs.of w0).kp w → Calls Tryd.prog 22 [.slice A n c].toArray w fun e w' => e = .returned (.tuple [.agg (rc U V s).toArray, .bool false].toArray) ∧ Below w.heap.size w w')
    (CD2 : ∀ w, (Bs.of w0).kp w → Calls Tryd.prog 23 [.slice A n c].toArray w fun e w' => e = .returned (.tuple [.agg (rc U V s).toArray, .bool false].toArray) ∧ Below w.heap.size w w')
    (CE1 : ∀ w, (Bs.of w0).kp w → Calls Tryd.prog 24 [.agg (rc X Y t).toArray].toArray w fun e w' => ∃ r, e = .returned r ∧ Made m eb r w w' ∧ Below w.heap.size w w')
    (CE2 : ∀ w, (Bs.of w0).kp w → Calls Tryd.prog 26 [.agg (rc X Y t).toArray].toArray w fun e w' => ∃ r, e = .returned r ∧ Made m eb r w w' ∧ Below w.heap.size w w')
    (CD3 : ∀ w g d, (Bs.of w0).kp w → BA w (some ⟨g, 0, none⟩) m eb → m ≤ d → d ≤ maxLen → Calls Tryd.prog 22 [.slice (some ⟨g, 0, none⟩) m d].toArray w fun e w' => e = .returned (.tuple [.agg (rc X Y t).toArray, .bool true].toArray) ∧ Below w.heap.size w w') : Calls Tryd.prog 8 [.agg (rc X Y t).toArray, .slice A n c].toArray w0 fun e w' => e = .returned (.bool true) ∧ Below w0.heap.size w0 w' := by
  have KK : ∀ w2, (Bs.of w0).kp w2 → (Bs.of w0).kp w2 := fun _ h => h
  have HX : ∀ k, (Bs.of w0).X k = true → k < (Bs.of w0).w.heap.size := fun k hk => by cases hk
  have hm1000 : m ≤ 1000 := by omega
  refine enter (args := [.agg (rc X Y t).toArray, Value.slice (A) (n) (c)]) Tryd.func8 rfl 82 rfl (lk rfl) (fun a h => ?_)
  refine go_region h hm [eN 2 (rc X Y t), eS 4 (.val (Value.bool false))] (by kernel_rfl) ⟨
    fun L u => u_box u (gd0 rfl) 26 (.tmp 0) rfl 2 rfl rfl rfl _ rfl,
    fun L u => u_move u (gd0 rfl) 4 rfl (.const (.bool false)) (Or.inr rfl) rfl,
    trivial⟩ [(1, .val (Value.slice (A) (n) (c))), (2, .ptr 2 0)] [(2, rc X Y t)] ⟨rfl, rfl, trivial⟩ ⟨rfl, trivial⟩ rfl (fun a w h => ?_)
  refine wp_seq ?_
  refine go_region h hm [eS 12 (.val (Value.bool true)), eS 13 (.val (Value.bool false)), eS 14 (.val (Value.bool false)), eS 15 (.val (Value.slice (A) (n) (c))), eS 16 (.val (Value.int .i64 ((n : Nat) : Int))), eS 17 (.val (Value.bool false)), eS 18 (.val (Value.bool false))] (by kernel_rfl) ⟨
    fun L u => u_call u (gd0 rfl) 12 rfl 9 #[] #[] rfl [] rfl (cE9 _) (Value.bool true) (fun w hb => awake_any (hT.keep (Bs.kp_of (KK _ hb)))),
    fun L u => u_not u (gd0 rfl) 13 rfl 4 (.tmp 12) rfl rfl _ rfl,
    fun L u => u_move u (gd0 rfl) 14 rfl (.tmp 13) (Or.inl rfl) rfl,
    fun L u => u_move u (gd1 u 2 false rfl 14 rfl (lk rfl) rfl) 15 rfl (.tmp 1) (Or.inl rfl) rfl,
    fun L u => u_lenV u (gd1 u 2 false rfl 14 rfl (lk rfl) rfl) 16 rfl (.tmp 15) 43 rfl rfl Tryd.underlying43,
    fun L u => u_bin u (gd1 u 2 false rfl 14 rfl (lk rfl) rfl) 17 rfl .gtr 3 3 (.tmp 16) (.const (.int .i64 100)) rfl rfl rfl (eqg_int _ _ _ _ _ _ _ _) (Value.bool false) (no_of (fun w => i_gtr _ _ _ _ w) (by omega)),
    fun L u => u_pick u (gd0 rfl) 18 rfl (.tmp 14) (.const (.bool true)) (.tmp 17) rfl rfl rfl rfl _ rfl,
    trivial⟩ [(1, .val (Value.slice (A) (n) (c))), (2, .ptr 2 0), (18, .val (Value.bool false))] [(2, rc X Y t)] ⟨rfl, rfl, rfl, trivial⟩ ⟨rfl, trivial⟩ rfl (fun a w h => ?_)
  refine go_cond h false rfl (fun ht => ?_) (fun hf => ?_)
  case refine_1 => cases ht
  refine wp_skip ?_
  refine then_norm ?_
  refine go_region h hm [eS 21 (.val (Value.slice (A) (n) (c))), eS 22 (.val (.tuple [.agg (rc U V s).toArray, Value.bool false].toArray)), eS 20 (.val (.tuple [.agg (rc U V s).toArray, Value.bool false].toArray)), eS 23 (.val (.agg (rc U V s).toArray)), eS 24 (.val (Value.bool false)), eN 5 (nz ++ nz ++ [Value.bool false]), eM 5 (rc U V s), eS 6 (.val (Value.bool false))] (by kernel_rfl) ⟨
    fun L u => u_move u (gd0 rfl) 21 rfl (.tmp 1) (Or.inl rfl) rfl,
    fun L u => u_call u (gd0 rfl) 22 rfl 22 #[(.tmp 21)] #[43] rfl [Value.slice (A) (n) (c)] rfl (cE22 _) (.tuple [.agg (rc U V s).toArray, Value.bool false].toArray) (fun w hb => CD1 _ (KK _ hb)),
    fun L u => u_move u (gd0 rfl) 20 rfl (.tmp 22) (Or.inl rfl) rfl,
    fun L u => u_part u (gd0 rfl) 23 rfl (.tmp 20) 0 rfl (vs := [.agg (rc U V s).toArray, Value.bool false]) rfl _ rfl,
    fun L u => u_part u (gd0 rfl) 24 rfl (.tmp 20) 1 rfl (vs := [.agg (rc U V s).toArray, Value.bool false]) rfl _ rfl,
    fun L u => u_alloc u (gd0 rfl) 26 rfl 5 rfl rfl z26 _ rfl,
    fun L u => u_store u (gd0 rfl) 26 (.tmp 5) (.tmp 23) rfl rfl rfl (vs := rc U V s) rfl rfl i26 (lk rfl) rfl _ rfl,
    fun L u => u_move u (gd0 rfl) 6 rfl (.tmp 24) (Or.inr rfl) rfl,
    trivial⟩ [(1, .val (Value.slice (A) (n) (c))), (2, .ptr 2 0), (5, .ptr 5 0), (6, .val (Value.bool false))] [(2, rc X Y t), (5, rc U V s)] ⟨rfl, rfl, rfl, rfl, trivial⟩ ⟨rfl, rfl, trivial⟩ rfl (fun a w h => ?_)
  refine go_region h hm [eS 26 (.val (Value.slice (A) (n) (c))), eS 27 (.val (.tuple [.agg (rc U V s).toArray, Value.bool false].toArray)), eS 25 (.val (.tuple [.agg (rc U V s).toArray, Value.bool false].toArray)), eS 28 (.val (.agg (rc U V s).toArray)), eS 29 (.val (Value.bool false)), eN 7 (nz ++ nz ++ [Value.bool false]), eM 7 (rc U V s), eS 8 (.val (Value.bool false))] (by kernel_rfl) ⟨
    fun L u => u_move u (gd0 rfl) 26 rfl (.tmp 1) (Or.inl rfl) rfl,
    fun L u => u_call u (gd0 rfl) 27 rfl 23 #[(.tmp 26)] #[43] rfl [Value.slice (A) (n) (c)] rfl (cE23 _) (.tuple [.agg (rc U V s).toArray, Value.bool false].toArray) (fun w hb => CD2 _ (KK _ hb)),
    fun L u => u_move u (gd0 rfl) 25 rfl (.tmp 27) (Or.inl rfl) rfl,
    fun L u => u_part u (gd0 rfl) 28 rfl (.tmp 25) 0 rfl (vs := [.agg (rc U V s).toArray, Value.bool false]) rfl _ rfl,
    fun L u => u_part u (gd0 rfl) 29 rfl (.tmp 25) 1 rfl (vs := [.agg (rc U V s).toArray, Value.bool false]) rfl _ rfl,
    fun L u => u_alloc u (gd0 rfl) 26 rfl 7 rfl rfl z26 _ rfl,
    fun L u => u_store u (gd0 rfl) 26 (.tmp 7) (.tmp 28) rfl rfl rfl (vs := rc U V s) rfl rfl i26 (lk rfl) rfl _ rfl,
    fun L u => u_move u (gd0 rfl) 8 rfl (.tmp 29) (Or.inr rfl) rfl,
    trivial⟩ [(1, .val (Value.slice (A) (n) (c))), (2, .ptr 2 0), (5, .ptr 5 0), (6, .val (Value.bool false)), (7, .ptr 7 0), (8, .val (Value.bool false))] [(2, rc X Y t), (5, rc U V s), (7, rc U V s)] ⟨rfl, rfl, rfl, rfl, rfl, rfl, trivial⟩ ⟨rfl, rfl, rfl, trivial⟩ rfl (fun a w h => ?_)
  refine wp_seq ?_
  refine sq_begin [0, 1, 2] rfl ?_
  refine sq_step h (i := 0) rfl (u_load (xs := []) (up_seq (i := 0) (by kernel_rfl) rfl) (gd0 rfl) 30 rfl 26 (.tmp 2) rfl rfl rfl Tryd.underlying26 rfl i26 (lk rfl) _ rfl) (fun a w h => ?_)
  refine sq_call h HX (i := 1) rfl (gq0 rfl) 31 rfl 24 #[(.tmp 30)] #[26] rfl [.agg (rc X Y t).toArray] rfl (cE24 _) (fun r w1 w2 => Made m eb r w1 w2) (fun hb => Calls.mono (CE1 _ (KK _ hb)) (fun _ _ ⟨r, h1, h2, h3⟩ => ⟨r, h1, h2, h3⟩)) (fun r a w W2 hR KW HN HX2 hw h => ?_)
  obtain ⟨g1, c1, rfl, hge1, hB1, hc1, hm1⟩ := hR
  have HG1 : ∀ w2, W2.kp w2 → BA w2 (some ⟨g1, 0, none⟩) m eb := fun w2 h2 => BA.re hw h2 hB1 (fun p hp => by cases hp; exact HN _ hge1)
  replace KK : ∀ w2, W2.kp w2 → (Bs.of w0).kp w2 := fun w2 h2 => KK w2 (KW w2 h2)
  replace HX := HX2
  clear KW HN HX2 hw hB1 hge1
  replace h := h.keep [(1, .val (Value.slice (A) (n) (c))), (2, .ptr 2 0), (5, .ptr 5 0), (6, .val (Value.bool false)), (7, .ptr 7 0), (8, .val (Value.bool false)), (30, .val (.agg (rc X Y t).toArray)), (31, .val (Value.slice (some ⟨g1, 0, none⟩) (m) (c1)))] [(2, rc X Y t), (5, rc U V s), (7, rc U V s)] ⟨rfl, rfl, rfl, rfl, rfl, rfl, rfl, rfl, trivial⟩ ⟨rfl, rfl, rfl, trivial⟩ rfl
  refine sq_step h (i := 2) rfl (u_move (xs := []) (up_seq (i := 2) (by kernel_rfl) rfl) (gd0 rfl) 9 rfl (.tmp 31) (Or.inr rfl) rfl) (fun a w h => ?_)
  replace h := h.keep [(1, .val (Value.slice (A) (n) (c))), (2, .ptr 2 0), (5, .ptr 5 0), (6, .val (Value.bool false)), (7, .ptr 7 0), (8, .val (Value.bool false)), (9, .val (Value.slice (some ⟨g1, 0, none⟩) (m) (c1)))] [(2, rc X Y t), (5, rc U V s), (7, rc U V s)] ⟨rfl, rfl, rfl, rfl, rfl, rfl, rfl, trivial⟩ ⟨rfl, rfl, rfl, trivial⟩ rfl
  refine sq_end ?_
  refine then_norm ?_
  refine go_region h hm [eS 33 (.val (Value.slice (some ⟨g1, 0, none⟩) (m) (c1))), eS 34 (.val (.tuple [.agg (rc X Y t).toArray, Value.bool true].toArray)), eS 32 (.val (.tuple [.agg (rc X Y t).toArray, Value.bool true].toArray)), eS 35 (.val (.agg (rc X Y t).toArray)), eS 36 (.val (Value.bool true)), eN 10 (nz ++ nz ++ [Value.bool false]), eM 10 (rc X Y t), eS 11 (.val (Value.bool true))] (by kernel_rfl) ⟨
    fun L u => u_move u (gd0 rfl) 33 rfl (.tmp 9) (Or.inl rfl) rfl,
    fun L u => u_call u (gd0 rfl) 34 rfl 22 #[(.tmp 33)] #[43] rfl [Value.slice (some ⟨g1, 0, none⟩) (m) (c1)] rfl (cE22 _) (.tuple [.agg (rc X Y t).toArray, Value.bool true].toArray) (fun w hb => CD3 _ _ _ (KK _ hb) (HG1 _ hb) hc1 hm1),
    fun L u => u_move u (gd0 rfl) 32 rfl (.tmp 34) (Or.inl rfl) rfl,
    fun L u => u_part u (gd0 rfl) 35 rfl (.tmp 32) 0 rfl (vs := [.agg (rc X Y t).toArray, Value.bool true]) rfl _ rfl,
    fun L u => u_part u (gd0 rfl) 36 rfl (.tmp 32) 1 rfl (vs := [.agg (rc X Y t).toArray, Value.bool true]) rfl _ rfl,
    fun L u => u_alloc u (gd0 rfl) 26 rfl 10 rfl rfl z26 _ rfl,
    fun L u => u_store u (gd0 rfl) 26 (.tmp 10) (.tmp 35) rfl rfl rfl (vs := rc X Y t) rfl rfl i26 (lk rfl) rfl _ rfl,
    fun L u => u_move u (gd0 rfl) 11 rfl (.tmp 36) (Or.inr rfl) rfl,
    trivial⟩ [(1, .val (Value.slice (A) (n) (c))), (2, .ptr 2 0), (5, .ptr 5 0), (6, .val (Value.bool false)), (7, .ptr 7 0), (8, .val (Value.bool false)), (9, .val (Value.slice (some ⟨g1, 0, none⟩) (m) (c1))), (10, .ptr 10 0), (11, .val (Value.bool true))] [(2, rc X Y t), (5, rc U V s), (7, rc U V s), (10, rc X Y t)] ⟨rfl, rfl, rfl, rfl, rfl, rfl, rfl, rfl, rfl, trivial⟩ ⟨rfl, rfl, rfl, rfl, trivial⟩ rfl (fun a w h => ?_)
  refine wp_seq ?_
  refine wp_seq ?_
  refine sq_begin [0, 1, 2, 3, 4, 5, 6, 7, 8, 9, 10, 11, 12, 13, 14, 15, 16, 17, 18, 19, 20, 21, 22, 23, 24] rfl ?_
  refine sq_step h (i := 0) rfl (u_load (xs := []) (up_seq (i := 0) (by kernel_rfl) rfl) (gd0 rfl) 37 rfl 26 (.tmp 5) rfl rfl rfl Tryd.underlying26 rfl i26 (lk rfl) _ rfl) (fun a w h => ?_)
  refine sq_step h (i := 1) rfl (u_load (xs := []) (up_seq (i := 1) (by kernel_rfl) rfl) (gd0 rfl) 38 rfl 26 (.tmp 7) rfl rfl rfl Tryd.underlying26 rfl i26 (lk rfl) _ rfl) (fun a w h => ?_)
  refine sq_step h (i := 2) rfl (u_neq (xs := []) (up_seq (i := 2) (by kernel_rfl) rfl) (gd0 rfl) 39 rfl 26 26 (.tmp 37) (.tmp 38) rfl rfl rfl Tryd.eqGuardType26 (true) (fun w => eq_rc_same hU hV s w)) (fun a w h => ?_)
  refine sq_step h (i := 3) rfl (u_move (xs := []) (up_seq (i := 3) (by kernel_rfl) rfl) (gd0 rfl) 40 rfl (.tmp 39) (Or.inl rfl) rfl) (fun a w h => ?_)
  refine sq_step h (i := 4) rfl (u_move (xs := []) (up_seq (i := 4) (by kernel_rfl) rfl) (gd1 (xs := []) (up_seq (i := 4) (by kernel_rfl) rfl) 3 false rfl 40 rfl (lk rfl) rfl) 41 rfl (.tmp 6) (Or.inl rfl) rfl) (fun a w h => ?_)
  refine sq_step h (i := 5) rfl (u_move (xs := []) (up_seq (i := 5) (by kernel_rfl) rfl) (gd1 (xs := []) (up_seq (i := 5) (by kernel_rfl) rfl) 3 false rfl 40 rfl (lk rfl) rfl) 42 rfl (.tmp 8) (Or.inl rfl) rfl) (fun a w h => ?_)
  refine sq_step h (i := 6) rfl (u_bin (xs := []) (up_seq (i := 6) (by kernel_rfl) rfl) (gd1 (xs := []) (up_seq (i := 6) (by kernel_rfl) rfl) 3 false rfl 40 rfl (lk rfl) rfl) 43 rfl .neq 4 4 (.tmp 41) (.tmp 42) rfl rfl rfl (eqg_bool _ _ _ _ _ _) (Value.bool false) (t_neq_same _ Tryd.underlying4 _)) (fun a w h => ?_)
  refine sq_step h (i := 7) rfl (u_pick (xs := []) (up_seq (i := 7) (by kernel_rfl) rfl) (gd0 rfl) 44 rfl (.tmp 40) (.const (.bool true)) (.tmp 43) rfl rfl rfl rfl _ rfl) (fun a w h => ?_)
  refine sq_step h (i := 8) rfl (u_move (xs := []) (up_seq (i := 8) (by kernel_rfl) rfl) (gd0 rfl) 45 rfl (.tmp 44) (Or.inl rfl) rfl) (fun a w h => ?_)
  refine sq_step h (i := 9) rfl (u_move (xs := []) (up_seq (i := 9) (by kernel_rfl) rfl) (gd1 (xs := []) (up_seq (i := 9) (by kernel_rfl) rfl) 8 false rfl 45 rfl (lk rfl) rfl) 46 rfl (.tmp 9) (Or.inl rfl) rfl) (fun a w h => ?_)
  refine sq_step h (i := 10) rfl (u_load (xs := []) (up_seq (i := 10) (by kernel_rfl) rfl) (gd1 (xs := []) (up_seq (i := 10) (by kernel_rfl) rfl) 8 false rfl 45 rfl (lk rfl) rfl) 47 rfl 26 (.tmp 2) rfl rfl rfl Tryd.underlying26 rfl i26 (lk rfl) _ rfl) (fun a w h => ?_)
  refine sq_call h HX (i := 11) rfl (gq1 8 false rfl rfl) 48 rfl 26 #[(.tmp 47)] #[26] rfl [.agg (rc X Y t).toArray] rfl (cE26 _) (fun r w1 w2 => Made m eb r w1 w2) (fun hb => Calls.mono (CE2 _ (KK _ hb)) (fun _ _ ⟨r, h1, h2, h3⟩ => ⟨r, h1, h2, h3⟩)) (fun r a w W2 hR KW HN HX2 hw h => ?_)
  obtain ⟨g2, c2, rfl, hge2, hB2, hc2, hm2⟩ := hR
  have HG2 : ∀ w2, W2.kp w2 → BA w2 (some ⟨g2, 0, none⟩) m eb := fun w2 h2 => BA.re hw h2 hB2 (fun p hp => by cases hp; exact HN _ hge2)
  replace HG1 : ∀ w2, W2.kp w2 → BA w2 (some ⟨g1, 0, none⟩) m eb := fun w2 h2 => HG1 w2 (KW w2 h2)
  replace KK : ∀ w2, W2.kp w2 → (Bs.of w0).kp w2 := fun w2 h2 => KK w2 (KW w2 h2)
  replace HX := HX2
  clear KW HN HX2 hw hB2 hge2
  replace h := h.keep [(1, .val (Value.slice (A) (n) (c))), (2, .ptr 2 0), (5, .ptr 5 0), (6, .val (Value.bool false)), (7, .ptr 7 0), (8, .val (Value.bool false)), (9, .val (Value.slice (some ⟨g1, 0, none⟩) (m) (c1))), (10, .ptr 10 0), (11, .val (Value.bool true)), (37, .val (.agg (rc U V s).toArray)), (38, .val (.agg (rc U V s).toArray)), (39, .val (Value.bool false)), (40, .val (Value.bool false)), (41, .val (Value.bool false)), (42, .val (Value.bool false)), (43, .val (Value.bool false)), (44, .val (Value.bool false)), (45, .val (Value.bool false)), (46, .val (Value.slice (some ⟨g1, 0, none⟩) (m) (c1))), (47, .val (.agg (rc X Y t).toArray)), (48, .val (Value.slice (some ⟨g2, 0, none⟩) (m) (c2)))] [(2, rc X Y t), (5, rc U V s), (7, rc U V s), (10, rc X Y t)] ⟨rfl, rfl, rfl, rfl, rfl, rfl, rfl, rfl, rfl, rfl, rfl, rfl, rfl, rfl, rfl, rfl, rfl, rfl, rfl, rfl, rfl, trivial⟩ ⟨rfl, rfl, rfl, rfl, trivial⟩ rfl
  refine sq_step h (i := 12) rfl (u_call (xs := []) (up_seq (i := 12) (by kernel_rfl) rfl) (gd1 (xs := []) (up_seq (i := 12) (by kernel_rfl) rfl) 8 false rfl 45 rfl (lk rfl) rfl) 49 rfl 25 #[(.tmp 46), (.tmp 48)] #[43, 43] rfl [Value.slice (some ⟨g1, 0, none⟩) (m) (c1), Value.slice (some ⟨g2, 0, none⟩) (m) (c2)] rfl (cE25 _) (Value.bool true) (fun w hb => same_ba hm1000 (HG1 _ hb) (HG2 _ hb))) (fun a w h => ?_)
  refine sq_step h (i := 13) rfl (u_not (xs := []) (up_seq (i := 13) (by kernel_rfl) rfl) (gd1 (xs := []) (up_seq (i := 13) (by kernel_rfl) rfl) 8 false rfl 45 rfl (lk rfl) rfl) 50 rfl 4 (.tmp 49) rfl rfl _ rfl) (fun a w h => ?_)
  refine sq_step h (i := 14) rfl (u_pick (xs := []) (up_seq (i := 14) (by kernel_rfl) rfl) (gd0 rfl) 51 rfl (.tmp 45) (.const (.bool true)) (.tmp 50) rfl rfl rfl rfl _ rfl) (fun a w h => ?_)
  refine sq_step h (i := 15) rfl (u_move (xs := []) (up_seq (i := 15) (by kernel_rfl) rfl) (gd0 rfl) 52 rfl (.tmp 51) (Or.inl rfl) rfl) (fun a w h => ?_)
  refine sq_step h (i := 16) rfl (u_move (xs := []) (up_seq (i := 16) (by kernel_rfl) rfl) (gd1 (xs := []) (up_seq (i := 16) (by kernel_rfl) rfl) 15 false rfl 52 rfl (lk rfl) rfl) 53 rfl (.tmp 6) (Or.inl rfl) rfl) (fun a w h => ?_)
  refine sq_step h (i := 17) rfl (u_move (xs := []) (up_seq (i := 17) (by kernel_rfl) rfl) (gd1 (xs := []) (up_seq (i := 17) (by kernel_rfl) rfl) 15 false rfl 52 rfl (lk rfl) rfl) 54 rfl (.tmp 53) (Or.inl rfl) rfl) (fun a w h => ?_)
  refine sq_step h (i := 18) rfl (u_no (xs := []) (up_seq (i := 18) (by kernel_rfl) rfl) 17 true rfl 54 rfl (lk rfl) rfl 55 rfl) (fun a w h => ?_)
  refine sq_step h (i := 19) rfl (u_no (xs := []) (up_seq (i := 19) (by kernel_rfl) rfl) 17 true rfl 54 rfl (lk rfl) rfl 56 rfl) (fun a w h => ?_)
  refine sq_step h (i := 20) rfl (u_no (xs := []) (up_seq (i := 20) (by kernel_rfl) rfl) 17 true rfl 54 rfl (lk rfl) rfl 57 rfl) (fun a w h => ?_)
  refine sq_step h (i := 21) rfl (u_no (xs := []) (up_seq (i := 21) (by kernel_rfl) rfl) 17 true rfl 54 rfl (lk rfl) rfl 58 rfl) (fun a w h => ?_)
  refine sq_step h (i := 22) rfl (u_no (xs := []) (up_seq (i := 22) (by kernel_rfl) rfl) 17 true rfl 54 rfl (lk rfl) rfl 59 rfl) (fun a w h => ?_)
  refine sq_step h (i := 23) rfl (u_pick (xs := []) (up_seq (i := 23) (by kernel_rfl) rfl) (gd1 (xs := []) (up_seq (i := 23) (by kernel_rfl) rfl) 15 false rfl 52 rfl (lk rfl) rfl) 60 rfl (.tmp 54) (.tmp 59) (.const (.bool false)) rfl rfl rfl rfl _ rfl) (fun a w h => ?_)
  refine sq_step h (i := 24) rfl (u_pick (xs := []) (up_seq (i := 24) (by kernel_rfl) rfl) (gd0 rfl) 61 rfl (.tmp 52) (.const (.bool true)) (.tmp 60) rfl rfl rfl rfl _ rfl) (fun a w h => ?_)
  replace h := h.keep [(2, .ptr 2 0), (10, .ptr 10 0), (11, .val (Value.bool true)), (61, .val (Value.bool false))] [(2, rc X Y t), (10, rc X Y t)] ⟨rfl, rfl, rfl, rfl, trivial⟩ ⟨rfl, rfl, trivial⟩ rfl
  refine sq_end ?_
  refine then_norm ?_
  refine go_cond h false rfl (fun ht => ?_) (fun hf => ?_)
  case refine_1 => cases ht
  refine wp_skip ?_
  refine then_norm ?_
  refine go_region h hm [eS 62 (.val (Value.bool true)), eS 63 (.val (Value.bool true)), eS 64 (.val (.agg (rc X Y t).toArray)), eS 65 (.val (Value.bool true)), eS 66 (.val (Value.bool false)), eS 67 (.val (Value.bool false)), eS 68 (.val (.agg (rc X Y t).toArray)), eS 69 (.val (.agg (rc X Y t).toArray)), eS 70 (.val (Value.bool true)), eS 71 (.val (Value.bool true)), eS 72 (.val (Value.bool true)), eS 73 (.val (Value.bool true)), eS 74 (.val (.agg (rc X Y t).toArray)), eS 75 (.val (Value.bool true)), eS 76 (.val (Value.bool true)), eS 77 (.val undef), eS 78 (.val undef), eS 79 (.val undef), eS 80 (.val (Value.bool true)), eS 81 (.val (Value.bool true)), eS 4 (.val (Value.bool true))] (by kernel_rfl) ⟨
    fun L u => u_move u (gd0 rfl) 62 rfl (.tmp 11) (Or.inl rfl) rfl,
    fun L u => u_move u (gd0 rfl) 63 rfl (.tmp 62) (Or.inl rfl) rfl,
    fun L u => u_load u (gd1 u 1 true rfl 63 rfl (lk rfl) rfl) 64 rfl 26 (.tmp 2) rfl rfl rfl Tryd.underlying26 rfl i26 (lk rfl) _ rfl,
    fun L u => u_call u (gd1 u 1 true rfl 63 rfl (lk rfl) rfl) 65 rfl 11 #[(.tmp 64)] #[26] rfl [.agg (rc X Y t).toArray] rfl (cE11 _) (Value.bool true) (fun w hb => by have g := r_Formed (hT.keep (Bs.kp_of (KK _ hb))) hX hY t; rw [hfm] at g; exact g),
    fun L u => u_not u (gd1 u 1 true rfl 63 rfl (lk rfl) rfl) 66 rfl 4 (.tmp 65) rfl rfl _ rfl,
    fun L u => u_move u (gd1 u 1 true rfl 63 rfl (lk rfl) rfl) 67 rfl (.tmp 66) (Or.inl rfl) rfl,
    fun L u => u_load u (gd1 u 5 false rfl 67 rfl (lk rfl) rfl) 68 rfl 26 (.tmp 10) rfl rfl rfl Tryd.underlying26 rfl i26 (lk rfl) _ rfl,
    fun L u => u_load u (gd1 u 5 false rfl 67 rfl (lk rfl) rfl) 69 rfl 26 (.tmp 2) rfl rfl rfl Tryd.underlying26 rfl i26 (lk rfl) _ rfl,
    fun L u => u_eql u (gd1 u 5 false rfl 67 rfl (lk rfl) rfl) 70 rfl 26 26 (.tmp 68) (.tmp 69) rfl rfl rfl Tryd.eqGuardType26 (true) (fun w => eq_rc_same hX hY t w),
    fun L u => u_pick u (gd1 u 1 true rfl 63 rfl (lk rfl) rfl) 71 rfl (.tmp 67) (.const (.bool true)) (.tmp 70) rfl rfl rfl rfl _ rfl,
    fun L u => u_pick u (gd0 rfl) 72 rfl (.tmp 63) (.tmp 71) (.const (.bool false)) rfl rfl rfl rfl _ rfl,
    fun L u => u_move u (gd0 rfl) 73 rfl (.tmp 72) (Or.inl rfl) rfl,
    fun L u => u_load u (gd1 u 11 true rfl 73 rfl (lk rfl) rfl) 74 rfl 26 (.tmp 2) rfl rfl rfl Tryd.underlying26 rfl i26 (lk rfl) _ rfl,
    fun L u => u_call u (gd1 u 11 true rfl 73 rfl (lk rfl) rfl) 75 rfl 11 #[(.tmp 74)] #[26] rfl [.agg (rc X Y t).toArray] rfl (cE11 _) (Value.bool true) (fun w hb => by have g := r_Formed (hT.keep (Bs.kp_of (KK _ hb))) hX hY t; rw [hfm] at g; exact g),
    fun L u => u_move u (gd1 u 11 true rfl 73 rfl (lk rfl) rfl) 76 rfl (.tmp 75) (Or.inl rfl) rfl,
    fun L u => u_no u 14 false rfl 76 rfl (lk rfl) rfl 77 rfl,
    fun L u => u_no u 14 false rfl 76 rfl (lk rfl) rfl 78 rfl,
    fun L u => u_no u 14 false rfl 76 rfl (lk rfl) rfl 79 rfl,
    fun L u => u_pick u (gd1 u 11 true rfl 73 rfl (lk rfl) rfl) 80 rfl (.tmp 76) (.const (.bool true)) (.tmp 79) rfl rfl rfl rfl _ rfl,
    fun L u => u_pick u (gd0 rfl) 81 rfl (.tmp 73) (.tmp 80) (.const (.bool false)) rfl rfl rfl rfl _ rfl,
    fun L u => u_move u (gd0 rfl) 4 rfl (.tmp 81) (Or.inr rfl) rfl,
    trivial⟩ [(4, .val (Value.bool true))] [] ⟨rfl, trivial⟩ trivial rfl (fun a w h => ?_)
  refine wp_ret ?_
  refine ret_slot h 4 rfl (lk rfl) (Value.bool true) rfl ?_
  exact ⟨rfl, Bs.kp_of (KK _ h.below)⟩
set_option maxRecDepth 100000 in
set_option maxHeartbeats 8000000 in
theorem bytes_false_false {w0 : World} (hT : Tab w0) {X Y : Int} (hX : Num X) (hY : Num Y) (t : Bool) (hfm : fmd X Y t = false) {A : Option Addr} {n c : Nat} (hn : n ≤ 100) {U V : Int} (hU : Num U) (hV : Num V) (s : Bool) {m : Nat} {eb : Nat → Nat} (hmm : m ≤ 100)
    (CD1 : ∀ w, (Bs.of w0).kp w → Calls Tryd.prog 22 [.slice A n c].toArray w fun e w' => e = .returned (.tuple [.agg (rc U V s).toArray, .bool false].toArray) ∧ Below w.heap.size w w')
    (CD2 : ∀ w, (Bs.of w0).kp w → Calls Tryd.prog 23 [.slice A n c].toArray w fun e w' => e = .returned (.tuple [.agg (rc U V s).toArray, .bool false].toArray) ∧ Below w.heap.size w w')
    (CE1 : ∀ w, (Bs.of w0).kp w → Calls Tryd.prog 24 [.agg (rc X Y t).toArray].toArray w fun e w' => ∃ r, e = .returned r ∧ Made m eb r w w' ∧ Below w.heap.size w w')
    (CE2 : ∀ w, (Bs.of w0).kp w → Calls Tryd.prog 26 [.agg (rc X Y t).toArray].toArray w fun e w' => ∃ r, e = .returned r ∧ Made m eb r w w' ∧ Below w.heap.size w w')
    (CD3 : ∀ w g d, (Bs.of w0).kp w → BA w (some ⟨g, 0, none⟩) m eb → m ≤ d → d ≤ maxLen → Calls Tryd.prog 22 [.slice (some ⟨g, 0, none⟩) m d].toArray w fun e w' => e = .returned (.tuple [.agg (rc 0 0 true).toArray, .bool true].toArray) ∧ Below w.heap.size w w') : Calls Tryd.prog 8 [.agg (rc X Y t).toArray, .slice A n c].toArray w0 fun e w' => e = .returned (.bool true) ∧ Below w0.heap.size w0 w' := by
  have KK : ∀ w2, (Bs.of w0).kp w2 → (Bs.of w0).kp w2 := fun _ h => h
  have HX : ∀ k, (Bs.of w0).X k = true → k < (Bs.of w0).w.heap.size := fun k hk => by cases hk
  have hm1000 : m ≤ 1000 := by omega
  refine enter (args := [.agg (rc X Y t).toArray, Value.slice (A) (n) (c)]) Tryd.func8 rfl 82 rfl (lk rfl) (fun a h => ?_)
  refine go_region h hm [eN 2 (rc X Y t), eS 4 (.val (Value.bool false))] (by kernel_rfl) ⟨
    fun L u => u_box u (gd0 rfl) 26 (.tmp 0) rfl 2 rfl rfl rfl _ rfl,
    fun L u => u_move u (gd0 rfl) 4 rfl (.const (.bool false)) (Or.inr rfl) rfl,
    trivial⟩ [(1, .val (Value.slice (A) (n) (c))), (2, .ptr 2 0)] [(2, rc X Y t)] ⟨rfl, rfl, trivial⟩ ⟨rfl, trivial⟩ rfl (fun a w h => ?_)
  refine wp_seq ?_
  refine go_region h hm [eS 12 (.val (Value.bool true)), eS 13 (.val (Value.bool false)), eS 14 (.val (Value.bool false)), eS 15 (.val (Value.slice (A) (n) (c))), eS 16 (.val (Value.int .i64 ((n : Nat) : Int))), eS 17 (.val (Value.bool false)), eS 18 (.val (Value.bool false))] (by kernel_rfl) ⟨
    fun L u => u_call u (gd0 rfl) 12 rfl 9 #[] #[] rfl [] rfl (cE9 _) (Value.bool true) (fun w hb => awake_any (hT.keep (Bs.kp_of (KK _ hb)))),
    fun L u => u_not u (gd0 rfl) 13 rfl 4 (.tmp 12) rfl rfl _ rfl,
    fun L u => u_move u (gd0 rfl) 14 rfl (.tmp 13) (Or.inl rfl) rfl,
    fun L u => u_move u (gd1 u 2 false rfl 14 rfl (lk rfl) rfl) 15 rfl (.tmp 1) (Or.inl rfl) rfl,
    fun L u => u_lenV u (gd1 u 2 false rfl 14 rfl (lk rfl) rfl) 16 rfl (.tmp 15) 43 rfl rfl Tryd.underlying43,
    fun L u => u_bin u (gd1 u 2 false rfl 14 rfl (lk rfl) rfl) 17 rfl .gtr 3 3 (.tmp 16) (.const (.int .i64 100)) rfl rfl rfl (eqg_int _ _ _ _ _ _ _ _) (Value.bool false) (no_of (fun w => i_gtr _ _ _ _ w) (by omega)),
    fun L u => u_pick u (gd0 rfl) 18 rfl (.tmp 14) (.const (.bool true)) (.tmp 17) rfl rfl rfl rfl _ rfl,
    trivial⟩ [(1, .val (Value.slice (A) (n) (c))), (2, .ptr 2 0), (18, .val (Value.bool false))] [(2, rc X Y t)] ⟨rfl, rfl, rfl, trivial⟩ ⟨rfl, trivial⟩ rfl (fun a w h => ?_)
  refine go_cond h false rfl (fun ht => ?_) (fun hf => ?_)
  case refine_1 => cases ht
  refine wp_skip ?_
  refine then_norm ?_
  refine go_region h hm [eS 21 (.val (Value.slice (A) (n) (c))), eS 22 (.val (.tuple [.agg (rc U V s).toArray, Value.bool false].toArray)), eS 20 (.val (.tuple [.agg (rc U V s).toArray, Value.bool false].toArray)), eS 23 (.val (.agg (rc U V s).toArray)), eS 24 (.val (Value.bool false)), eN 5 (nz ++ nz ++ [Value.bool false]), eM 5 (rc U V s), eS 6 (.val (Value.bool false))] (by kernel_rfl) ⟨
    fun L u => u_move u (gd0 rfl) 21 rfl (.tmp 1) (Or.inl rfl) rfl,
    fun L u => u_call u (gd0 rfl) 22 rfl 22 #[(.tmp 21)] #[43] rfl [Value.slice (A) (n) (c)] rfl (cE22 _) (.tuple [.agg (rc U V s).toArray, Value.bool false].toArray) (fun w hb => CD1 _ (KK _ hb)),
    fun L u => u_move u (gd0 rfl) 20 rfl (.tmp 22) (Or.inl rfl) rfl,
    fun L u => u_part u (gd0 rfl) 23 rfl (.tmp 20) 0 rfl (vs := [.agg (rc U V s).toArray, Value.bool false]) rfl _ rfl,
    fun L u => u_part u (gd0 rfl) 24 rfl (.tmp 20) 1 rfl (vs := [.agg (rc U V s).toArray, Value.bool false]) rfl _ rfl,
    fun L u => u_alloc u (gd0 rfl) 26 rfl 5 rfl rfl z26 _ rfl,
    fun L u => u_store u (gd0 rfl) 26 (.tmp 5) (.tmp 23) rfl rfl rfl (vs := rc U V s) rfl rfl i26 (lk rfl) rfl _ rfl,
    fun L u => u_move u (gd0 rfl) 6 rfl (.tmp 24) (Or.inr rfl) rfl,
    trivial⟩ [(1, .val (Value.slice (A) (n) (c))), (2, .ptr 2 0), (5, .ptr 5 0), (6, .val (Value.bool false))] [(2, rc X Y t), (5, rc U V s)] ⟨rfl, rfl, rfl, rfl, trivial⟩ ⟨rfl, rfl, trivial⟩ rfl (fun a w h => ?_)
  refine go_region h hm [eS 26 (.val (Value.slice (A) (n) (c))), eS 27 (.val (.tuple [.agg (rc U V s).toArray, Value.bool false].toArray)), eS 25 (.val (.tuple [.agg (rc U V s).toArray, Value.bool false].toArray)), eS 28 (.val (.agg (rc U V s).toArray)), eS 29 (.val (Value.bool false)), eN 7 (nz ++ nz ++ [Value.bool false]), eM 7 (rc U V s), eS 8 (.val (Value.bool false))] (by kernel_rfl) ⟨
    fun L u => u_move u (gd0 rfl) 26 rfl (.tmp 1) (Or.inl rfl) rfl,
    fun L u => u_call u (gd0 rfl) 27 rfl 23 #[(.tmp 26)] #[43] rfl [Value.slice (A) (n) (c)] rfl (cE23 _) (.tuple [.agg (rc U V s).toArray, Value.bool false].toArray) (fun w hb => CD2 _ (KK _ hb)),
    fun L u => u_move u (gd0 rfl) 25 rfl (.tmp 27) (Or.inl rfl) rfl,
    fun L u => u_part u (gd0 rfl) 28 rfl (.tmp 25) 0 rfl (vs := [.agg (rc U V s).toArray, Value.bool false]) rfl _ rfl,
    fun L u => u_part u (gd0 rfl) 29 rfl (.tmp 25) 1 rfl (vs := [.agg (rc U V s).toArray, Value.bool false]) rfl _ rfl,
    fun L u => u_alloc u (gd0 rfl) 26 rfl 7 rfl rfl z26 _ rfl,
    fun L u => u_store u (gd0 rfl) 26 (.tmp 7) (.tmp 28) rfl rfl rfl (vs := rc U V s) rfl rfl i26 (lk rfl) rfl _ rfl,
    fun L u => u_move u (gd0 rfl) 8 rfl (.tmp 29) (Or.inr rfl) rfl,
    trivial⟩ [(1, .val (Value.slice (A) (n) (c))), (2, .ptr 2 0), (5, .ptr 5 0), (6, .val (Value.bool false)), (7, .ptr 7 0), (8, .val (Value.bool false))] [(2, rc X Y t), (5, rc U V s), (7, rc U V s)] ⟨rfl, rfl, rfl, rfl, rfl, rfl, trivial⟩ ⟨rfl, rfl, rfl, trivial⟩ rfl (fun a w h => ?_)
  refine wp_seq ?_
  refine sq_begin [0, 1, 2] rfl ?_
  refine sq_step h (i := 0) rfl (u_load (xs := []) (up_seq (i := 0) (by kernel_rfl) rfl) (gd0 rfl) 30 rfl 26 (.tmp 2) rfl rfl rfl Tryd.underlying26 rfl i26 (lk rfl) _ rfl) (fun a w h => ?_)
  refine sq_call h HX (i := 1) rfl (gq0 rfl) 31 rfl 24 #[(.tmp 30)] #[26] rfl [.agg (rc X Y t).toArray] rfl (cE24 _) (fun r w1 w2 => Made m eb r w1 w2) (fun hb => Calls.mono (CE1 _ (KK _ hb)) (fun _ _ ⟨r, h1, h2, h3⟩ => ⟨r, h1, h2, h3⟩)) (fun r a w W2 hR KW HN HX2 hw h => ?_)
  obtain ⟨g1, c1, rfl, hge1, hB1, hc1, hm1⟩ := hR
  have HG1 : ∀ w2, W2.kp w2 → BA w2 (some ⟨g1, 0, none⟩) m eb := fun w2 h2 => BA.re hw h2 hB1 (fun p hp => by cases hp; exact HN _ hge1)
  replace KK : ∀ w2, W2.kp w2 → (Bs.of w0).kp w2 := fun w2 h2 => KK w2 (KW w2 h2)
  replace HX := HX2
  clear KW HN HX2 hw hB1 hge1
  replace h := h.keep [(1, .val (Value.slice (A) (n) (c))), (2, .ptr 2 0), (5, .ptr 5 0), (6, .val (Value.bool false)), (7, .ptr 7 0), (8, .val (Value.bool false)), (30, .val (.agg (rc X Y t).toArray)), (31, .val (Value.slice (some ⟨g1, 0, none⟩) (m) (c1)))] [(2, rc X Y t), (5, rc U V s), (7, rc U V s)] ⟨rfl, rfl, rfl, rfl, rfl, rfl, rfl, rfl, trivial⟩ ⟨rfl, rfl, rfl, trivial⟩ rfl
  refine sq_step h (i := 2) rfl (u_move (xs := []) (up_seq (i := 2) (by kernel_rfl) rfl) (gd0 rfl) 9 rfl (.tmp 31) (Or.inr rfl) rfl) (fun a w h => ?_)
  replace h := h.keep [(1, .val (Value.slice (A) (n) (c))), (2, .ptr 2 0), (5, .ptr 5 0), (6, .val (Value.bool false)), (7, .ptr 7 0), (8, .val (Value.bool false)), (9, .val (Value.slice (some ⟨g1, 0, none⟩) (m) (c1)))] [(2, rc X Y t), (5, rc U V s), (7, rc U V s)] ⟨rfl, rfl, rfl, rfl, rfl, rfl, rfl, trivial⟩ ⟨rfl, rfl, rfl, trivial⟩ rfl
  refine sq_end ?_
  refine then_norm ?_
  refine go_region h hm [eS 33 (.val (Value.slice (some ⟨g1, 0, none⟩) (m) (c1))), eS 34 (.val (.tuple [.agg (rc 0 0 true).toArray, Value.bool true].toArray)), eS 32 (.val (.tuple [.agg (rc 0 0 true).toArray, Value.bool true].toArray)), eS 35 (.val (.agg (rc 0 0 true).toArray)), eS 36 (.val (Value.bool true)), eN 10 (nz ++ nz ++ [Value.bool false]), eM 10 (rc 0 0 true), eS 11 (.val (Value.bool true))] (by kernel_rfl) ⟨
    fun L u => u_move u (gd0 rfl) 33 rfl (.tmp 9) (Or.inl rfl) rfl,
    fun L u => u_call u (gd0 rfl) 34 rfl 22 #[(.tmp 33)] #[43] rfl [Value.slice (some ⟨g1, 0, none⟩) (m) (c1)] rfl (cE22 _) (.tuple [.agg (rc 0 0 true).toArray, Value.bool true].toArray) (fun w hb => CD3 _ _ _ (KK _ hb) (HG1 _ hb) hc1 hm1),
    fun L u => u_move u (gd0 rfl) 32 rfl (.tmp 34) (Or.inl rfl) rfl,
    fun L u => u_part u (gd0 rfl) 35 rfl (.tmp 32) 0 rfl (vs := [.agg (rc 0 0 true).toArray, Value.bool true]) rfl _ rfl,
    fun L u => u_part u (gd0 rfl) 36 rfl (.tmp 32) 1 rfl (vs := [.agg (rc 0 0 true).toArray, Value.bool true]) rfl _ rfl,
    fun L u => u_alloc u (gd0 rfl) 26 rfl 10 rfl rfl z26 _ rfl,
    fun L u => u_store u (gd0 rfl) 26 (.tmp 10) (.tmp 35) rfl rfl rfl (vs := rc 0 0 true) rfl rfl i26 (lk rfl) rfl _ rfl,
    fun L u => u_move u (gd0 rfl) 11 rfl (.tmp 36) (Or.inr rfl) rfl,
    trivial⟩ [(1, .val (Value.slice (A) (n) (c))), (2, .ptr 2 0), (5, .ptr 5 0), (6, .val (Value.bool false)), (7, .ptr 7 0), (8, .val (Value.bool false)), (9, .val (Value.slice (some ⟨g1, 0, none⟩) (m) (c1))), (10, .ptr 10 0), (11, .val (Value.bool true))] [(2, rc X Y t), (5, rc U V s), (7, rc U V s), (10, rc 0 0 true)] ⟨rfl, rfl, rfl, rfl, rfl, rfl, rfl, rfl, rfl, trivial⟩ ⟨rfl, rfl, rfl, rfl, trivial⟩ rfl (fun a w h => ?_)
  refine wp_seq ?_
  refine wp_seq ?_
  refine sq_begin [0, 1, 2, 3, 4, 5, 6, 7, 8, 9, 10, 11, 12, 13, 14, 15, 16, 17, 18, 19, 20, 21, 22, 23, 24] rfl ?_
  refine sq_step h (i := 0) rfl (u_load (xs := []) (up_seq (i := 0) (by kernel_rfl) rfl) (gd0 rfl) 37 rfl 26 (.tmp 5) rfl rfl rfl Tryd.underlying26 rfl i26 (lk rfl) _ rfl) (fun a w h => ?_)
  refine sq_step h (i := 1) rfl (u_load (xs := []) (up_seq (i := 1) (by kernel_rfl) rfl) (gd0 rfl) 38 rfl 26 (.tmp 7) rfl rfl rfl Tryd.underlying26 rfl i26 (lk rfl) _ rfl) (fun a w h => ?_)
  refine sq_step h (i := 2) rfl (u_neq (xs := []) (up_seq (i := 2) (by kernel_rfl) rfl) (gd0 rfl) 39 rfl 26 26 (.tmp 37) (.tmp 38) rfl rfl rfl Tryd.eqGuardType26 (true) (fun w => eq_rc_same hU hV s w)) (fun a w h => ?_)
  refine sq_step h (i := 3) rfl (u_move (xs := []) (up_seq (i := 3) (by kernel_rfl) rfl) (gd0 rfl) 40 rfl (.tmp 39) (Or.inl rfl) rfl) (fun a w h => ?_)
  refine sq_step h (i := 4) rfl (u_move (xs := []) (up_seq (i := 4) (by kernel_rfl) rfl) (gd1 (xs := []) (up_seq (i := 4) (by kernel_rfl) rfl) 3 false rfl 40 rfl (lk rfl) rfl) 41 rfl (.tmp 6) (Or.inl rfl) rfl) (fun a w h => ?_)
  refine sq_step h (i := 5) rfl (u_move (xs := []) (up_seq (i := 5) (by kernel_rfl) rfl) (gd1 (xs := []) (up_seq (i := 5) (by kernel_rfl) rfl) 3 false rfl 40 rfl (lk rfl) rfl) 42 rfl (.tmp 8) (Or.inl rfl) rfl) (fun a w h => ?_)
  refine sq_step h (i := 6) rfl (u_bin (xs := []) (up_seq (i := 6) (by kernel_rfl) rfl) (gd1 (xs := []) (up_seq (i := 6) (by kernel_rfl) rfl) 3 false rfl 40 rfl (lk rfl) rfl) 43 rfl .neq 4 4 (.tmp 41) (.tmp 42) rfl rfl rfl (eqg_bool _ _ _ _ _ _) (Value.bool false) (t_neq_same _ Tryd.underlying4 _)) (fun a w h => ?_)
  refine sq_step h (i := 7) rfl (u_pick (xs := []) (up_seq (i := 7) (by kernel_rfl) rfl) (gd0 rfl) 44 rfl (.tmp 40) (.const (.bool true)) (.tmp 43) rfl rfl rfl rfl _ rfl) (fun a w h => ?_)
  refine sq_step h (i := 8) rfl (u_move (xs := []) (up_seq (i := 8) (by kernel_rfl) rfl) (gd0 rfl) 45 rfl (.tmp 44) (Or.inl rfl) rfl) (fun a w h => ?_)
  refine sq_step h (i := 9) rfl (u_move (xs := []) (up_seq (i := 9) (by kernel_rfl) rfl) (gd1 (xs := []) (up_seq (i := 9) (by kernel_rfl) rfl) 8 false rfl 45 rfl (lk rfl) rfl) 46 rfl (.tmp 9) (Or.inl rfl) rfl) (fun a w h => ?_)
  refine sq_step h (i := 10) rfl (u_load (xs := []) (up_seq (i := 10) (by kernel_rfl) rfl) (gd1 (xs := []) (up_seq (i := 10) (by kernel_rfl) rfl) 8 false rfl 45 rfl (lk rfl) rfl) 47 rfl 26 (.tmp 2) rfl rfl rfl Tryd.underlying26 rfl i26 (lk rfl) _ rfl) (fun a w h => ?_)
  refine sq_call h HX (i := 11) rfl (gq1 8 false rfl rfl) 48 rfl 26 #[(.tmp 47)] #[26] rfl [.agg (rc X Y t).toArray] rfl (cE26 _) (fun r w1 w2 => Made m eb r w1 w2) (fun hb => Calls.mono (CE2 _ (KK _ hb)) (fun _ _ ⟨r, h1, h2, h3⟩ => ⟨r, h1, h2, h3⟩)) (fun r a w W2 hR KW HN HX2 hw h => ?_)
  obtain ⟨g2, c2, rfl, hge2, hB2, hc2, hm2⟩ := hR
  have HG2 : ∀ w2, W2.kp w2 → BA w2 (some ⟨g2, 0, none⟩) m eb := fun w2 h2 => BA.re hw h2 hB2 (fun p hp => by cases hp; exact HN _ hge2)
  replace HG1 : ∀ w2, W2.kp w2 → BA w2 (some ⟨g1, 0, none⟩) m eb := fun w2 h2 => HG1 w2 (KW w2 h2)
  replace KK : ∀ w2, W2.kp w2 → (Bs.of w0).kp w2 := fun w2 h2 => KK w2 (KW w2 h2)
  replace HX := HX2
  clear KW HN HX2 hw hB2 hge2
  replace h := h.keep [(1, .val (Value.slice (A) (n) (c))), (2, .ptr 2 0), (5, .ptr 5 0), (6, .val (Value.bool false)), (7, .ptr 7 0), (8, .val (Value.bool false)), (9, .val (Value.slice (some ⟨g1, 0, none⟩) (m) (c1))), (10, .ptr 10 0), (11, .val (Value.bool true)), (37, .val (.agg (rc U V s).toArray)), (38, .val (.agg (rc U V s).toArray)), (39, .val (Value.bool false)), (40, .val (Value.bool false)), (41, .val (Value.bool false)), (42, .val (Value.bool false)), (43, .val (Value.bool false)), (44, .val (Value.bool false)), (45, .val (Value.bool false)), (46, .val (Value.slice (some ⟨g1, 0, none⟩) (m) (c1))), (47, .val (.agg (rc X Y t).toArray)), (48, .val (Value.slice (some ⟨g2, 0, none⟩) (m) (c2)))] [(2, rc X Y t), (5, rc U V s), (7, rc U V s), (10, rc 0 0 true)] ⟨rfl, rfl, rfl, rfl, rfl, rfl, rfl, rfl, rfl, rfl, rfl, rfl, rfl, rfl, rfl, rfl, rfl, rfl, rfl, rfl, rfl, trivial⟩ ⟨rfl, rfl, rfl, rfl, trivial⟩ rfl
  refine sq_step h (i := 12) rfl (u_call (xs := []) (up_seq (i := 12) (by kernel_rfl) rfl) (gd1 (xs := []) (up_seq (i := 12) (by kernel_rfl) rfl) 8 false rfl 45 rfl (lk rfl) rfl) 49 rfl 25 #[(.tmp 46), (.tmp 48)] #[43, 43] rfl [Value.slice (some ⟨g1, 0, none⟩) (m) (c1), Value.slice (some ⟨g2, 0, none⟩) (m) (c2)] rfl (cE25 _) (Value.bool true) (fun w hb => same_ba hm1000 (HG1 _ hb) (HG2 _ hb))) (fun a w h => ?_)
  refine sq_step h (i := 13) rfl (u_not (xs := []) (up_seq (i := 13) (by kernel_rfl) rfl) (gd1 (xs := []) (up_seq (i := 13) (by kernel_rfl) rfl) 8 false rfl 45 rfl (lk rfl) rfl) 50 rfl 4 (.tmp 49) rfl rfl _ rfl) (fun a w h => ?_)
  refine sq_step h (i := 14) rfl (u_pick (xs := []) (up_seq (i := 14) (by kernel_rfl) rfl) (gd0 rfl) 51 rfl (.tmp 45) (.const (.bool true)) (.tmp 50) rfl rfl rfl rfl _ rfl) (fun a w h => ?_)
  refine sq_step h (i := 15) rfl (u_move (xs := []) (up_seq (i := 15) (by kernel_rfl) rfl) (gd0 rfl) 52 rfl (.tmp 51) (Or.inl rfl) rfl) (fun a w h => ?_)
  refine sq_step h (i := 16) rfl (u_move (xs := []) (up_seq (i := 16) (by kernel_rfl) rfl) (gd1 (xs := []) (up_seq (i := 16) (by kernel_rfl) rfl) 15 false rfl 52 rfl (lk rfl) rfl) 53 rfl (.tmp 6) (Or.inl rfl) rfl) (fun a w h => ?_)
  refine sq_step h (i := 17) rfl (u_move (xs := []) (up_seq (i := 17) (by kernel_rfl) rfl) (gd1 (xs := []) (up_seq (i := 17) (by kernel_rfl) rfl) 15 false rfl 52 rfl (lk rfl) rfl) 54 rfl (.tmp 53) (Or.inl rfl) rfl) (fun a w h => ?_)
  refine sq_step h (i := 18) rfl (u_no (xs := []) (up_seq (i := 18) (by kernel_rfl) rfl) 17 true rfl 54 rfl (lk rfl) rfl 55 rfl) (fun a w h => ?_)
  refine sq_step h (i := 19) rfl (u_no (xs := []) (up_seq (i := 19) (by kernel_rfl) rfl) 17 true rfl 54 rfl (lk rfl) rfl 56 rfl) (fun a w h => ?_)
  refine sq_step h (i := 20) rfl (u_no (xs := []) (up_seq (i := 20) (by kernel_rfl) rfl) 17 true rfl 54 rfl (lk rfl) rfl 57 rfl) (fun a w h => ?_)
  refine sq_step h (i := 21) rfl (u_no (xs := []) (up_seq (i := 21) (by kernel_rfl) rfl) 17 true rfl 54 rfl (lk rfl) rfl 58 rfl) (fun a w h => ?_)
  refine sq_step h (i := 22) rfl (u_no (xs := []) (up_seq (i := 22) (by kernel_rfl) rfl) 17 true rfl 54 rfl (lk rfl) rfl 59 rfl) (fun a w h => ?_)
  refine sq_step h (i := 23) rfl (u_pick (xs := []) (up_seq (i := 23) (by kernel_rfl) rfl) (gd1 (xs := []) (up_seq (i := 23) (by kernel_rfl) rfl) 15 false rfl 52 rfl (lk rfl) rfl) 60 rfl (.tmp 54) (.tmp 59) (.const (.bool false)) rfl rfl rfl rfl _ rfl) (fun a w h => ?_)
  refine sq_step h (i := 24) rfl (u_pick (xs := []) (up_seq (i := 24) (by kernel_rfl) rfl) (gd0 rfl) 61 rfl (.tmp 52) (.const (.bool true)) (.tmp 60) rfl rfl rfl rfl _ rfl) (fun a w h => ?_)
  replace h := h.keep [(2, .ptr 2 0), (10, .ptr 10 0), (11, .val (Value.bool true)), (61, .val (Value.bool false))] [(2, rc X Y t), (10, rc 0 0 true)] ⟨rfl, rfl, rfl, rfl, trivial⟩ ⟨rfl, rfl, trivial⟩ rfl
  refine sq_end ?_
  refine then_norm ?_
  refine go_cond h false rfl (fun ht => ?_) (fun hf => ?_)
  case refine_1 => cases ht
  refine wp_skip ?_
  refine then_norm ?_
  refine go_region h hm [eS 62 (.val (Value.bool true)), eS 63 (.val (Value.bool true)), eS 64 (.val (.agg (rc X Y t).toArray)), eS 65 (.val (Value.bool false)), eS 66 (.val (Value.bool true)), eS 67 (.val (Value.bool true)), eS 68 (.val undef), eS 69 (.val undef), eS 70 (.val undef), eS 71 (.val (Value.bool true)), eS 72 (.val (Value.bool true)), eS 73 (.val (Value.bool true)), eS 74 (.val (.agg (rc X Y t).toArray)), eS 75 (.val (Value.bool false)), eS 76 (.val (Value.bool false)), eS 77 (.val (.agg (rc 0 0 true).toArray)), eS 78 (.val (.agg (nz ++ nz ++ [Value.bool true]).toArray)), eS 79 (.val (Value.bool true)), eS 80 (.val (Value.bool true)), eS 81 (.val (Value.bool true)), eS 4 (.val (Value.bool true))] (by kernel_rfl) ⟨
    fun L u => u_move u (gd0 rfl) 62 rfl (.tmp 11) (Or.inl rfl) rfl,
    fun L u => u_move u (gd0 rfl) 63 rfl (.tmp 62) (Or.inl rfl) rfl,
    fun L u => u_load u (gd1 u 1 true rfl 63 rfl (lk rfl) rfl) 64 rfl 26 (.tmp 2) rfl rfl rfl Tryd.underlying26 rfl i26 (lk rfl) _ rfl,
    fun L u => u_call u (gd1 u 1 true rfl 63 rfl (lk rfl) rfl) 65 rfl 11 #[(.tmp 64)] #[26] rfl [.agg (rc X Y t).toArray] rfl (cE11 _) (Value.bool false) (fun w hb => by have g := r_Formed (hT.keep (Bs.kp_of (KK _ hb))) hX hY t; rw [hfm] at g; exact g),
    fun L u => u_not u (gd1 u 1 true rfl 63 rfl (lk rfl) rfl) 66 rfl 4 (.tmp 65) rfl rfl _ rfl,
    fun L u => u_move u (gd1 u 1 true rfl 63 rfl (lk rfl) rfl) 67 rfl (.tmp 66) (Or.inl rfl) rfl,
    fun L u => u_no u 5 false rfl 67 rfl (lk rfl) rfl 68 rfl,
    fun L u => u_no u 5 false rfl 67 rfl (lk rfl) rfl 69 rfl,
    fun L u => u_no u 5 false rfl 67 rfl (lk rfl) rfl 70 rfl,
    fun L u => u_pick u (gd1 u 1 true rfl 63 rfl (lk rfl) rfl) 71 rfl (.tmp 67) (.const (.bool true)) (.tmp 70) rfl rfl rfl rfl _ rfl,
    fun L u => u_pick u (gd0 rfl) 72 rfl (.tmp 63) (.tmp 71) (.const (.bool false)) rfl rfl rfl rfl _ rfl,
    fun L u => u_move u (gd0 rfl) 73 rfl (.tmp 72) (Or.inl rfl) rfl,
    fun L u => u_load u (gd1 u 11 true rfl 73 rfl (lk rfl) rfl) 74 rfl 26 (.tmp 2) rfl rfl rfl Tryd.underlying26 rfl i26 (lk rfl) _ rfl,
    fun L u => u_call u (gd1 u 11 true rfl 73 rfl (lk rfl) rfl) 75 rfl 11 #[(.tmp 74)] #[26] rfl [.agg (rc X Y t).toArray] rfl (cE11 _) (Value.bool false) (fun w hb => by have g := r_Formed (hT.keep (Bs.kp_of (KK _ hb))) hX hY t; rw [hfm] at g; exact g),
    fun L u => u_move u (gd1 u 11 true rfl 73 rfl (lk rfl) rfl) 76 rfl (.tmp 75) (Or.inl rfl) rfl,
    fun L u => u_load u (gd1 u 14 false rfl 76 rfl (lk rfl) rfl) 77 rfl 26 (.tmp 10) rfl rfl rfl Tryd.underlying26 rfl i26 (lk rfl) _ rfl,
    fun L u => u_build u (gd1 u 14 false rfl 76 rfl (lk rfl) rfl) 78 rfl 26 #[(2, (.const (.bool true)))] rfl [(2, Value.bool true)] rfl (nz ++ nz ++ [Value.bool true]) (bP1),
    fun L u => u_eql u (gd1 u 14 false rfl 76 rfl (lk rfl) rfl) 79 rfl 26 26 (.tmp 77) (.tmp 78) rfl rfl rfl Tryd.eqGuardType26 (true) (fun w => eq_rc_none w),
    fun L u => u_pick u (gd1 u 11 true rfl 73 rfl (lk rfl) rfl) 80 rfl (.tmp 76) (.const (.bool true)) (.tmp 79) rfl rfl rfl rfl _ rfl,
    fun L u => u_pick u (gd0 rfl) 81 rfl (.tmp 73) (.tmp 80) (.const (.bool false)) rfl rfl rfl rfl _ rfl,
    fun L u => u_move u (gd0 rfl) 4 rfl (.tmp 81) (Or.inr rfl) rfl,
    trivial⟩ [(4, .val (Value.bool true))] [] ⟨rfl, trivial⟩ trivial rfl (fun a w h => ?_)
  refine wp_ret ?_
  refine ret_slot h 4 rfl (lk rfl) (Value.bool true) rfl ?_
  exact ⟨rfl, Bs.kp_of (KK _ h.below)⟩
set_option maxRecDepth 100000 in
set_option maxHeartbeats 8000000 in
theorem bytes_long {w : World} (hT : Tab w) {X Y : Int} (t : Bool) {A : Option Addr} {n c : Nat} (hn : 100 < n) : Calls Tryd.prog 8 [.agg (rc X Y t).toArray, .slice A n c].toArray w fun e w' => e = .returned (.bool true) ∧ Below w.heap.size w w' := by
  refine enter (args := [.agg (rc X Y t).toArray, Value.slice (A) (n) (c)]) Tryd.func8 rfl 82 rfl (lk rfl) (fun a h => ?_)
  refine go_region h hm [eN 2 (rc X Y t), eS 4 (.val (Value.bool false))] (by kernel_rfl) ⟨
    fun L u => u_box u (gd0 rfl) 26 (.tmp 0) rfl 2 rfl rfl rfl _ rfl,
    fun L u => u_move u (gd0 rfl) 4 rfl (.const (.bool false)) (Or.inr rfl) rfl,
    trivial⟩ [(1, .val (Value.slice (A) (n) (c))), (2, .ptr 2 0)] [(2, rc X Y t)] ⟨rfl, rfl, trivial⟩ ⟨rfl, trivial⟩ rfl (fun a w h => ?_)
  refine wp_seq ?_
  refine go_region h hm [eS 12 (.val (Value.bool true)), eS 13 (.val (Value.bool false)), eS 14 (.val (Value.bool false)), eS 15 (.val (Value.slice (A) (n) (c))), eS 16 (.val (Value.int .i64 ((n : Nat) : Int))), eS 17 (.val (Value.bool true)), eS 18 (.val (Value.bool true))] (by kernel_rfl) ⟨
    fun L u => u_call u (gd0 rfl) 12 rfl 9 #[] #[] rfl [] rfl (cE9 _) (Value.bool true) (fun w hb => awake_any (hT.keep (Bs.kp_of hb))),
    fun L u => u_not u (gd0 rfl) 13 rfl 4 (.tmp 12) rfl rfl _ rfl,
    fun L u => u_move u (gd0 rfl) 14 rfl (.tmp 13) (Or.inl rfl) rfl,
    fun L u => u_move u (gd1 u 2 false rfl 14 rfl (lk rfl) rfl) 15 rfl (.tmp 1) (Or.inl rfl) rfl,
    fun L u => u_lenV u (gd1 u 2 false rfl 14 rfl (lk rfl) rfl) 16 rfl (.tmp 15) 43 rfl rfl Tryd.underlying43,
    fun L u => u_bin u (gd1 u 2 false rfl 14 rfl (lk rfl) rfl) 17 rfl .gtr 3 3 (.tmp 16) (.const (.int .i64 100)) rfl rfl rfl (eqg_int _ _ _ _ _ _ _ _) (Value.bool true) (yes_of (fun w => i_gtr _ _ _ _ w) (by omega)),
    fun L u => u_pick u (gd0 rfl) 18 rfl (.tmp 14) (.const (.bool true)) (.tmp 17) rfl rfl rfl rfl _ rfl,
    trivial⟩ [(1, .val (Value.slice (A) (n) (c))), (2, .ptr 2 0), (18, .val (Value.bool true))] [(2, rc X Y t)] ⟨rfl, rfl, rfl, trivial⟩ ⟨rfl, trivial⟩ rfl (fun a w h => ?_)
  refine go_cond h true rfl (fun ht => ?_) (fun hf => ?_)
  case refine_2 => cases hf
  refine go_region h hm [eS 19 (.val (Value.bool true)), eS 4 (.val (Value.bool true))] (by kernel_rfl) ⟨
    fun L u => u_call u (gd0 rfl) 19 rfl 9 #[] #[] rfl [] rfl (cE9 _) (Value.bool true) (fun w hb => awake_any (hT.keep (Bs.kp_of hb))),
    fun L u => u_move u (gd0 rfl) 4 rfl (.tmp 19) (Or.inr rfl) rfl,
    trivial⟩ [(4, .val (Value.bool true))] [] ⟨rfl, trivial⟩ trivial rfl (fun a w h => ?_)
  refine wp_ret ?_
  refine then_ret ?_
  refine ret_slot h 4 rfl (lk rfl) (Value.bool true) rfl ?_
  exact ⟨rfl, h.grows⟩
end Go.Proofs.YtimaaendbfjblaaDoor
namespace Go.Proofs.YtimaaendbfjblaaDoor
open Go.RowKit

/-- Two texts, one behind the other. -/
def cat (f : Nat → Nat) (n : Nat) (g : Nat → Nat) (i : Nat) : Nat := if i < n then f i else g (i - n)
theorem cat_lt {f g : Nat → Nat} (hf : ∀ i, f i < 256) (hg : ∀ i, g i < 256) (n i : Nat) : cat f n g i < 256 := by unfold cat; split; exact hf _; exact hg _
theorem cat_zero (z g : Nat → Nat) : cat z 0 g = g := by funext i; unfold cat; rw [if_neg (by omega), Nat.sub_zero]
theorem cat_assoc (f g h : Nat → Nat) (n m : Nat) : cat (cat f n g) (n + m) h = cat f n (cat g m h) := by
  funext i
  unfold cat
  by_cases h1 : i < n
  · rw [if_pos (by omega), if_pos h1, if_pos h1]
  · rw [if_neg h1, if_neg h1]
    by_cases h2 : i < n + m
    · rw [if_pos h2, if_pos (by omega)]
    · rw [if_neg h2, if_neg (by omega)]
      congr 1
      omega
theorem own_max {w : World} {base n : Nat} {v : Value} {xs : List Value} (h : w.ownsRow base 5 1 v n xs) : ∃ a cap, v = .slice a n cap ∧ n ≤ cap ∧ cap ≤ maxLen := by
  rcases h.2 with ⟨rfl, rfl⟩ | ⟨g, cap, cur, rfl, _, _, h1, h2, _⟩
  · exact ⟨_, _, rfl, Nat.le_refl _, by unfold maxLen; omega⟩
  · exact ⟨_, _, rfl, h1, h2⟩
theorem own_ba {w : World} {base n cap : Nat} {a : Option Addr} {f : Nat → Nat} (h : w.ownsRow base 5 1 (.slice a n cap) n (cells8 (fl f n))) (hf : ∀ i, f i < 256) : BA w a n f := by
  refine ⟨hf, ?_⟩
  by_cases h0 : n = 0
  · exact Or.inl h0
  · obtain ⟨g, cap', hv, hg, hr⟩ := own_rd (f := fun i => ((f i : Nat) : Int)) h (fun j hj => by rw [cells8_at _ j (by rw [fl_len]; exact hj), List.getD_eq_getElem?_getD, fl_at f hj]; rfl) (by omega)
    cases hv
    exact Or.inr ⟨g, 0, rfl, hr.rd⟩
theorem fl_cat (f g : Nat → Nat) (n m : Nat) : fl f n ++ fl g m = fl (cat f n g) (n + m) := by
  apply List.ext_getElem?
  intro i
  by_cases h1 : i < n
  · rw [List.getElem?_append_left (by rw [fl_len]; exact h1), fl_at _ h1, fl_at _ (by omega)]
    unfold cat
    rw [if_pos h1]
  · rw [List.getElem?_append_right (by rw [fl_len]; omega), fl_len]
    by_cases h2 : i < n + m
    · rw [fl_at _ (by omega), fl_at _ h2]
      unfold cat
      rw [if_neg h1]
    · rw [List.getElem?_eq_none (by rw [fl_len]; omega), List.getElem?_eq_none (by rw [fl_len]; omega)]
end Go.Proofs.YtimaaendbfjblaaDoor
namespace Go.Proofs.YtimaaendbfjblaaDoor
open Go.RowKit
attribute [local go_sem ↓] Go.wp_at_zero Go.wp_at_succ

/-- Byte i of a number's 32, the most significant first. -/
def bgB (a : Int) (i : Nat) : Nat := (Y (31 - i) a).toNat
theorem bgB_lt (a : Int) (i : Nat) : bgB a i < 256 := by
  have := Y_lo (31 - i) a
  have := Y_hi (31 - i) a
  unfold bgB
  omega
theorem bgB_int (a : Int) (i : Nat) : ((bgB a i : Nat) : Int) = Y (31 - i) a := Int.toNat_of_nonneg (Y_lo _ _)
/-- The bytes of a point that isn't the neutral one. -/
def ptB (X Y : Int) : Nat → Nat := cat (cat (fun _ => 4) 1 (bgB X)) 33 (bgB Y)
theorem bg_ba {w : World} {g : Nat} {a : Int} (h : Row8 w g 32 (fun i => Y (31 - i) a)) : BA w (some ⟨g, 0, none⟩) 32 (bgB a) :=
  ⟨bgB_lt a, Or.inr ⟨g, 0, rfl, ⟨fun i hi => by rw [Nat.zero_add, h.c i hi, bgB_int]⟩⟩⟩
theorem own_byte (w : World) (base q x : Nat) (hb : base ≤ w.heap.size) (hq : q = w.heap.size) : (w.alloc (.cells #[.int .u8 (x : Int)] 5)).ownsRow base 5 1 (.slice (some ⟨q, 0, none⟩) 1 1) 1 (cells8 [x]) := by
  subst hq
  exact ⟨rfl, .inr ⟨w.heap.size, 1, #[.int .u8 (x : Int)], rfl, hb, heap_alloc_new w _, Nat.le_refl _, by unfold maxLen; omega, rfl, rfl⟩⟩
theorem one_row (w : World) (x : Nat) : Row8 (w.alloc (.cells #[.int .u8 (x : Int)] 5)) w.heap.size 1 (fun _ => (x : Int)) :=
  ⟨by simp, fun i hi => by
    obtain rfl : i = 0 := by omega
    rw [cell_of_row _ _ _ _ _ _ (heap_alloc_new w _)]; rfl, fun i _ => frozen_of_row _ _ _ _ _ (heap_alloc_new w _)⟩
theorem pt_cells (w : World) (X Y : Int) (t : Bool) : ∀ j v, [Value.int .u64 (L 0 X), .int .u64 (L 1 X), .int .u64 (L 2 X), .int .u64 (L 3 X), .int .u64 (L 0 Y), .int .u64 (L 1 Y), .int .u64 (L 2 Y), .int .u64 (L 3 Y), .bool t][j]? = some v → (w.alloc (.cells #[.int .u64 (L 0 X), .int .u64 (L 1 X), .int .u64 (L 2 X), .int .u64 (L 3 X), .int .u64 (L 0 Y), .int .u64 (L 1 Y), .int .u64 (L 2 Y), .int .u64 (L 3 Y), .bool t] 26)).cell? ⟨w.heap.size, j, none⟩ = some v := by
  intro j v hv
  rw [cell_of_row _ _ _ _ _ _ (heap_alloc_new w _)]
  simpa using hv
theorem r_formedL {w : World} (hT : Tab w) {X Y : Int} (hX : Num X) (hY : Num Y) (t : Bool) : Calls Tryd.prog 11 #[.agg #[.int .u64 (L 0 X), .int .u64 (L 1 X), .int .u64 (L 2 X), .int .u64 (L 3 X), .int .u64 (L 0 Y), .int .u64 (L 1 Y), .int .u64 (L 2 Y), .int .u64 (L 3 Y), .bool t]] w fun e w' => e = .returned (.bool (fmd X Y t)) ∧ Below w.heap.size w w' := r_Formed hT hX hY t
set_option maxRecDepth 100000 in
set_option maxHeartbeats 4000000 in
theorem r_enc_none {w : World} (hT : Tab w) {X Y : Int} (hX : Num X) (hY : Num Y) (t : Bool) (h : t = true ∨ fmd X Y t = false) :
    Calls Tryd.prog 26 [.agg (rc X Y t).toArray].toArray w fun e w' => ∃ b, e = .returned (.slice (some ⟨b, 0, none⟩) 1 1) ∧ w.heap.size ≤ b ∧ Row8 w' b 1 (fun _ => 0) ∧ Below w.heap.size w w' := by
  show Calls Tryd.prog 26 #[.agg #[.int .u64 (L 0 X), .int .u64 (L 1 X), .int .u64 (L 2 X), .int .u64 (L 3 X), .int .u64 (L 0 Y), .int .u64 (L 1 Y), .int .u64 (L 2 Y), .int .u64 (L 3 Y), .bool t]] w _
  have hal := K.alloc (Below.refl _ w) (.cells #[.int .u64 (L 0 X), .int .u64 (L 1 X), .int .u64 (L 2 X), .int .u64 (L 3 X), .int .u64 (L 0 Y), .int .u64 (L 1 Y), .int .u64 (L 2 Y), .int .u64 (L 3 Y), .bool t] 26)
  have hc := pt_cells w X Y t
  have HE := hide (r_formedL (hT.keep hal) hX hY t)
  have HAl := hide hal
  have c0 := hc 0 _ rfl
  have c1 := hc 1 _ rfl
  have c2 := hc 2 _ rfl
  have c3 := hc 3 _ rfl
  have c4 := hc 4 _ rfl
  have c5 := hc 5 _ rfl
  have c6 := hc 6 _ rfl
  have c7 := hc 7 _ rfl
  have c8 := hc 8 _ rfl
  clear hc hal hX hY hT
  cases t with
  | true =>
    clear h HE
    go_enter Tryd.func26, Tryd.ntmps26
    go_upto_region 1 with fail
    generalize w.alloc (.cells #[.int .u64 (L 0 X), .int .u64 (L 1 X), .int .u64 (L 2 X), .int .u64 (L 3 X), .int .u64 (L 0 Y), .int .u64 (L 1 Y), .int .u64 (L 2 Y), .int .u64 (L 3 Y), .bool true] 26) = X0 at *
    go_wp2_with fail
    go_ret
    exact ⟨X0.heap.size, rfl, HAl.out.size, one_row X0 0, K.alloc HAl.out _⟩
  | false =>
    have hf := h.resolve_left (by decide)
    rw [hf] at HE
    clear h hf
    go_enter Tryd.func26, Tryd.ntmps26
    go_upto_region 1 with fail
    generalize w.alloc (.cells #[.int .u64 (L 0 X), .int .u64 (L 1 X), .int .u64 (L 2 X), .int .u64 (L 3 X), .int .u64 (L 0 Y), .int .u64 (L 1 Y), .int .u64 (L 2 Y), .int .u64 (L 3 Y), .bool false] 26) = X0 at *
    go_wp2_with fail
    with_reducible refine Calls.mono HE.out ?_
    rintro e w2 ⟨rfl, hb⟩
    have HB2 := hide (K.call HAl.out hb)
    clear hb HE HAl c0 c1 c2 c3 c4 c5 c6 c7 c8
    go_wp2_with fail
    go_ret
    exact ⟨w2.heap.size, rfl, HB2.out.size, one_row w2 0, K.alloc HB2.out _⟩
set_option maxRecDepth 100000 in
set_option maxHeartbeats 4000000 in
theorem r_enc_at {w : World} (hT : Tab w) {X Y : Int} (hX : Num X) (hY : Num Y) (h : fmd X Y false = true) :
    Calls Tryd.prog 26 [.agg (rc X Y false).toArray].toArray w fun e w' => ∃ r, e = .returned r ∧ Made 65 (ptB X Y) r w w' ∧ Below w.heap.size w w' := by
  show Calls Tryd.prog 26 #[.agg #[.int .u64 (L 0 X), .int .u64 (L 1 X), .int .u64 (L 2 X), .int .u64 (L 3 X), .int .u64 (L 0 Y), .int .u64 (L 1 Y), .int .u64 (L 2 Y), .int .u64 (L 3 Y), .bool false]] w _
  have hal := K.alloc (Below.refl _ w) (.cells #[.int .u64 (L 0 X), .int .u64 (L 1 X), .int .u64 (L 2 X), .int .u64 (L 3 X), .int .u64 (L 0 Y), .int .u64 (L 1 Y), .int .u64 (L 2 Y), .int .u64 (L 3 Y), .bool false] 26)
  have hc := pt_cells w X Y false
  have HE := hide (r_formedL (hT.keep hal) hX hY false)
  have HAl := hide hal
  have HCs : Hid (∀ W, Below (w.alloc (.cells #[.int .u64 (L 0 X), .int .u64 (L 1 X), .int .u64 (L 2 X), .int .u64 (L 3 X), .int .u64 (L 0 Y), .int .u64 (L 1 Y), .int .u64 (L 2 Y), .int .u64 (L 3 Y), .bool false] 26)).heap.size (w.alloc (.cells #[.int .u64 (L 0 X), .int .u64 (L 1 X), .int .u64 (L 2 X), .int .u64 (L 3 X), .int .u64 (L 0 Y), .int .u64 (L 1 Y), .int .u64 (L 2 Y), .int .u64 (L 3 Y), .bool false] 26)) W → ∀ j v, [Value.int .u64 (L 0 X), .int .u64 (L 1 X), .int .u64 (L 2 X), .int .u64 (L 3 X), .int .u64 (L 0 Y), .int .u64 (L 1 Y), .int .u64 (L 2 Y), .int .u64 (L 3 Y), .bool false][j]? = some v → W.cell? ⟨w.heap.size, j, none⟩ = some v) := fun W hb j v hv => later hb (hc j v hv)
  have c0 := hc 0 _ rfl
  have c1 := hc 1 _ rfl
  have c2 := hc 2 _ rfl
  have c3 := hc 3 _ rfl
  have c4 := hc 4 _ rfl
  have c5 := hc 5 _ rfl
  have c6 := hc 6 _ rfl
  have c7 := hc 7 _ rfl
  have c8 := hc 8 _ rfl
  clear hc hal hX hY hT
  rw [h] at HE
  clear h
  go_enter Tryd.func26, Tryd.ntmps26
  go_upto_region 1 with fail
  generalize w.alloc (.cells #[.int .u64 (L 0 X), .int .u64 (L 1 X), .int .u64 (L 2 X), .int .u64 (L 3 X), .int .u64 (L 0 Y), .int .u64 (L 1 Y), .int .u64 (L 2 Y), .int .u64 (L 3 Y), .bool false] 26) = X0 at *
  go_wp2_with fail
  with_reducible refine Calls.mono HE.out ?_
  rintro e w2 ⟨rfl, hb⟩
  have HO := hide (own_byte w2 w2.heap.size w2.heap.size 4 (Nat.le_refl _) rfl)
  have ha := K.call hb (K.alloc (Below.refl _ w2) (.cells #[.int .u8 ((4 : Nat) : Int)] 5))
  have HS := hide hb.size
  clear HE c0 c1 c2 c3 c4 c5 c6 c7 c8
  have d0 := HCs.out _ ha 0 _ rfl
  have d1 := HCs.out _ ha 1 _ rfl
  have d2 := HCs.out _ ha 2 _ rfl
  have d3 := HCs.out _ ha 3 _ rfl
  have HA := hide ha
  obtain ⟨b2, hb2⟩ : ∃ b2, w2.heap.size = b2 := ⟨_, rfl⟩
  clear ha hb
  go_upto_region 4 with fail
  rw [hb2] at HO HS
  have HB2 := hide hb2
  clear hb2
  generalize w2.alloc (.cells #[.int .u8 ((4 : Nat) : Int)] 5) = X1 at *
  have hX1 := HA.out
  go_wp2_with fail
  with_reducible refine Calls.mono (refPutBig_any X X1) ?_
  rintro e w3 ⟨g3, k3, rfl, hR3, hb3⟩
  have HO3 := hide (own_keep HO.out hb3)
  have HBA3 := hide (bg_ba hR3)
  have HX3 := hide (K.call HA.out hb3)
  have HSz3 : Hid (b2 ≤ w3.heap.size) := by have h1 := (HO3.out.lt b2 rfl).2; show b2 ≤ _; omega
  clear hR3 hb3 HO hX1 d0 d1 d2 d3
  go_upto_region 5 with (at_builtin; refine wpList_app rfl _ _ rfl rfl HO3.out rfl HBA3.out (by omega) HSz3.out ?_; intro v4 w4 hO4 hg4)
  have hb4 : Below X0.heap.size X0 w4 := HX3.out.grown hg4 HX3.out.size (fun k hk => by cases hk; exact HS.out)
  have d4 := HCs.out _ hb4 4 _ rfl
  have d5 := HCs.out _ hb4 5 _ rfl
  have d6 := HCs.out _ hb4 6 _ rfl
  have d7 := HCs.out _ hb4 7 _ rfl
  have HO4 := hide hO4
  have HX4 := hide hb4
  clear hO4 hg4 hb4 HO3 HBA3 HX3 HSz3 HA
  go_wp2_with fail
  with_reducible refine Calls.mono (refPutBig_any Y w4) ?_
  rintro e w5 ⟨g5, k5, rfl, hR5, hb5⟩
  have HO5 := hide (own_keep HO4.out hb5)
  have HBA5 := hide (bg_ba hR5)
  have HX5 := hide (K.call HX4.out hb5)
  have HSz5 : Hid (b2 ≤ w5.heap.size) := by have h1 := HX5.out.size; have h2 := HO4.out; rcases h2.2 with ⟨_, h0⟩ | ⟨q, _, _, rfl, hq, _⟩
                                            · omega
                                            · have h3 := (HO5.out.lt q rfl).2; show b2 ≤ _; omega
  clear hR5 hb5 HO4 HX4 d4 d5 d6 d7
  go_wp2_with (at_builtin; refine wpList_app rfl _ _ rfl rfl HO5.out rfl HBA5.out (by omega) HSz5.out ?_; intro v6 w6 hO6 hg6)
  have hb6 : Below X0.heap.size X0 w6 := HX5.out.grown hg6 HX5.out.size (fun k hk => by have := (HO5.out.lt k hk).1; have := HS.out; omega)
  have hO7 : w6.ownsRow b2 5 1 v6 65 (cells8 (fl (ptB X Y) 65)) := by
    have e : [4] ++ fl (bgB X) 32 ++ fl (bgB Y) 32 = fl (ptB X Y) 65 := by
      rw [show [4] = fl (fun _ => 4) 1 from rfl, fl_cat, fl_cat]
      rfl
    rw [e] at hO6
    exact hO6
  obtain ⟨g6, c6, rfl, hg, _⟩ := own_rd (f := fun i => ((ptB X Y i : Nat) : Int)) hO7 (fun j hj => by rw [cells8_at _ j (by rw [fl_len]; exact hj), List.getD_eq_getElem?_getD, fl_at _ hj]; rfl) (by omega)
  obtain ⟨_, _, hv, hc6, hm6⟩ := own_max hO7
  cases hv
  have hba := own_ba hO7 (cat_lt (cat_lt (fun _ => by show 4 < 256; omega) (bgB_lt X) 1) (bgB_lt Y) 33)
  go_ret
  exact ⟨_, rfl, ⟨g6, _, rfl, by have h1 := HAl.out.size; have h2 := HS.out; omega, hba, hc6, hm6⟩, K.call HAl.out hb6⟩
end Go.Proofs.YtimaaendbfjblaaDoor
namespace Go.Proofs.YtimaaendbfjblaaDoor
open Go.RowKit

theorem own_room (w : World) {base : Nat} (hb : base ≤ w.heap.size) (n c : Nat) (hn : n ≤ c) (hc : c ≤ maxLen) :
    (w.alloc (.cells (madeCells #[.int .u8 0] (c * 1)) 5)).ownsRow base 5 1 (.slice (some ⟨w.heap.size, 0, none⟩) n c) n (cells8 (List.replicate n 0)) := by
  refine ⟨by simp [cells8], .inr ⟨w.heap.size, c, _, rfl, hb, heap_alloc_new w _, hn, hc, by rw [size_madeCells], ?_⟩⟩
  apply List.ext_getElem?
  intro i
  simp only [cells8, Nat.mul_one, List.getElem?_take, madeCells, List.map_replicate, List.getElem?_replicate]
  by_cases h : i < n
  · have h' : i < c := by omega
    simp [h, h', Nat.mod_one]
  · simp [h]
/-- A row that is made with room behind it. -/
theorem wpList_make_room (w : World) {ops : Array Oper} {rest : List Oper} {o : Oper} {a : Act} {Q : Exit → Act → World → Prop} (hgd : o.guard = none) (l c : Operand) (hop : o.op = Op.makeSlice 43 l c)
    {base : Nat} (kl kc : IntKind) (L C : Int) (n m : Nat) (hl : a.eval l = .int kl L) (hc : a.eval c = .int kc C) (hL : L = (n : Int)) (hC : C = (m : Int)) (hnm : n ≤ m) (hm : m ≤ 1000000) (hb : base ≤ w.heap.size)
    (hK : ∀ w', w'.ownsRow base 5 1 (.slice (some ⟨w.heap.size, 0, none⟩) n m) n (cells8 (List.replicate n 0)) → w.grownBy w' none → wpList Tryd.prog ops Q rest (a.put o.dst (.slice (some ⟨w.heap.size, 0, none⟩) n m)) w') :
    wpList Tryd.prog ops Q (o :: rest) a w := by
  refine wpList_plain hgd fun K hK' => ?_
  subst hL hC
  obtain ⟨i0, hi, hz0, hz1, hz2⟩ := info_parts info8
  have hr := run_make (P := Tryd.prog) w 43 5 i0 (.int .u8 0) Tryd.underlying43 hi hz0 kl kc n m (by omega) (by omega) (by rw [hz2]; omega) (by omega)
  simp only [Int.toNat_natCast, hz1] at hr
  unfold Oper.wp
  simp [execOp, hop, hl, hc, hr, Result.andThen]
  exact hK' _ _ (hK _ (by have h := own_room w hb n m hnm (by unfold maxLen; omega); rwa [Nat.mul_one] at h) (World.grownBy_alloc w _ none))
end Go.Proofs.YtimaaendbfjblaaDoor
