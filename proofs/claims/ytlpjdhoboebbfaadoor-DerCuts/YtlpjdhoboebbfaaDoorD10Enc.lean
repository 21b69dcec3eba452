/- What the document's own Encode of layer 10 answers. -/
import Derived.Test.YtlpjdhoboebbfaaDoorD10IntW
import Derived.Test.YtlpjdhoboebbfaaDoorVQ3
import Derived.Test.YtlpjdhoboebbfaaDoorVNum
namespace Go.Proofs.YtlpjdhoboebbfaaDoor
open Go.RowKit

theorem i26 : (Tryd.prog.info? 26).map (·.size) = some 4 := by kernel_rfl
theorem i4 : (Tryd.prog.info? 4).map (·.size) = some 1 := by kernel_rfl
theorem i5 : (Tryd.prog.info? 5).map (·.size) = some 1 := by kernel_rfl
theorem z26 : (Tryd.prog.info? 26).map (·.zero) = some (some (.agg (nz).toArray)) := by kernel_rfl
theorem hm : Tryd.prog.follows .mixedOrders = true := by kernel_rfl
theorem n_b0 : Tryd.prog.built 26 [] = some nz.toArray := by kernel_rfl
theorem fl_getD {l : List Nat} {n : Nat} (h : l.length = n) : fl (fun i => l.getD i 0) n = l := by
  apply List.ext_getElem?
  intro i
  rcases Nat.lt_or_ge i n with hi | hi
  · rw [fl_at _ hi, List.getElem?_eq_getElem (by omega)]
    simp [List.getD_eq_getElem?_getD, List.getElem?_eq_getElem (show i < l.length by omega)]
  · rw [List.getElem?_eq_none (by rw [fl_len]; exact hi), List.getElem?_eq_none (by omega)]
theorem dI_lt {a : Nat} (h : a < 2 ^ 256) : ∀ x ∈ dI a, x < 256 := by
  intro x hx
  have := msz_spec h
  simp only [dI, List.mem_cons] at hx
  rcases hx with rfl | rfl | hx
  · decide
  · omega
  · exact be_lt _ _ x hx
set_option maxRecDepth 100000 in
set_option maxHeartbeats 4000000 in
theorem refEnc_any {A B : Nat} (hA : A < 2 ^ 256) (hB : B < 2 ^ 256) (w : World) : Calls Tryd.prog 14 [.agg (nc (A : Int)).toArray, .agg (nc (B : Int)).toArray].toArray w fun e w' => ∃ v, e = .returned v ∧ w'.ownsRow w.heap.size 5 1 v (msz A + msz B + 6) (cells8 (dE A B)) ∧ Below w.heap.size w w' := by
  have hmA := msz_spec hA
  have hmB := msz_spec hB
  obtain ⟨xk, hxk⟩ : ∃ xk, xk = msz A + 2 + (msz B + 2) := ⟨_, rfl⟩
  have HN : 2 + (msz A + 2) + (msz B + 2) = msz A + msz B + 6 := by omega
  have HL : [48, xk] ++ dI A ++ dI B = dE A B := by
    rw [hxk]
    simp [dE, dI_len]
  refine enter (args := [.agg (nc (((A : Nat) : Int))).toArray, .agg (nc (((B : Nat) : Int))).toArray]) Tryd.func14 rfl 25 rfl (lk rfl) (fun a h => ?_)
  refine a_region TT h hm [] [eN 2 (nc (((A : Nat) : Int))), eN 3 (nc (((B : Nat) : Int))), eS 4 (.val ((Value.slice none 0 0)))] (by kernel_rfl) ⟨rfl, rfl, rfl, trivial⟩ [(2, .ptr 2 0), (3, .ptr 3 0)] [(2, nc (((A : Nat) : Int))), (3, nc (((B : Nat) : Int)))] ⟨rfl, rfl, trivial⟩ ⟨rfl, rfl, trivial⟩ rfl (fun a w h => ?_)
  refine a_regionQ TT h hm [1, 3, 4, 5] [eS 8 (.val (.agg (nc (((A : Nat) : Int))).toArray)), eQ 9 (rowPd 5 1 (msz A + 2) (cells8 (dI A))), eS 10 (.val (.agg (nc (((B : Nat) : Int))).toArray)), eQ 11 (rowPd 5 1 (msz B + 2) (cells8 (dI B))), eS 5 (.unk 9 id), eS 6 (.unk 11 id)] (by kernel_rfl) ⟨rfl, fun L u => u_callQ u (gd0 rfl) 9 rfl rfl 22 #[(.tmp 8)] #[26] rfl [.val (.agg (nc (((A : Nat) : Int))).toArray)] rfl (fun vs w => callFunc_enter Tryd.func22 (by kernel_rfl) (by kernel_rfl) vs w) (rowPd 5 1 (msz A + 2) (cells8 (dI A))) (fun β a w hr => thing_of (refInt_any hA _)), rfl, fun L u => u_callQ u (gd0 rfl) 11 rfl rfl 22 #[(.tmp 10)] #[26] rfl [.val (.agg (nc (((B : Nat) : Int))).toArray)] rfl (fun vs w => callFunc_enter Tryd.func22 (by kernel_rfl) (by kernel_rfl) vs w) (rowPd 5 1 (msz B + 2) (cells8 (dI B))) (fun β a w hr => thing_of (refInt_any hB _)), fun L u => u_copyQ u (gd0 rfl) 5 rfl (.tmp 9) (Or.inr rfl) rfl rfl, fun L u => u_copyQ u (gd0 rfl) 6 rfl (.tmp 11) (Or.inr rfl) rfl rfl, trivial⟩ [(5, .unk 9 id), (6, .unk 11 id)] [] [(9, rowPd 5 1 (msz A + 2) (cells8 (dI A))), (11, rowPd 5 1 (msz B + 2) (cells8 (dI B)))] ⟨rfl, rfl, trivial⟩ trivial ⟨rfl, rfl, trivial⟩ rfl (fun a w h => ?_)
  refine a_regionQ TT h hm [0, 1, 2, 3, 4, 5, 6, 7] [eS 12 (.unk 9 id), eS 13 (.val (Value.int .i64 ((msz A + 2 : Nat) : Int))), eS 14 (.unk 11 id), eS 15 (.val (Value.int .i64 ((msz B + 2 : Nat) : Int))), eS 16 (.val (Value.int .i64 ((xk : Nat) : Int))), eS 17 (.val (Value.int .u8 ((xk : Nat) : Int))), eQ 18 (rowPd 5 1 (2) (cells8 ([48, xk]))), eS 7 (.unk 18 id)] (by kernel_rfl) ⟨fun L u => u_copyQ u (gd0 rfl) 12 rfl (.tmp 5) (Or.inl rfl) rfl rfl, fun L u => u_lenQ u (gd0 rfl) 13 rfl (.tmp 12) 22 rfl rfl rfl Tryd.underlying22, fun L u => u_copyQ u (gd0 rfl) 14 rfl (.tmp 6) (Or.inl rfl) rfl rfl, fun L u => u_lenQ u (gd0 rfl) 15 rfl (.tmp 14) 22 rfl rfl rfl Tryd.underlying22, fun L u => u_bin u (gd0 rfl) 16 rfl .add 3 3 (.tmp 13) (.tmp 15) rfl rfl rfl (eqg_int _ _ _ _ _ _ _ _) (Value.int .i64 ((xk : Nat) : Int)) (fun w => i_add _ _ _ _ (by omega) ⟨by omega, by omega⟩ w), fun L u => u_conv u (gd0 rfl) 17 rfl 3 5 (.tmp 16) rfl rfl (Value.int .u8 ((xk : Nat) : Int)) (fun w => c_u8 _ ⟨by omega, by omega⟩ w), fun L u => u_litQ u (gd0 rfl) 18 rfl rfl 2 #[(0, (.const (.int .u8 48))), (1, (.tmp 17))] rfl [(0, (Value.int IntKind.u8 48)), (1, Value.int .u8 ((xk : Nat) : Int))] rfl (cells8 [48, xk]) (by decide) rfl (by kernel_rfl), fun L u => u_copyQ u (gd0 rfl) 7 rfl (.tmp 18) (Or.inr rfl) rfl rfl, trivial⟩ [(5, .unk 9 id), (6, .unk 11 id), (7, .unk 18 id)] [] [(9, rowPd 5 1 (msz A + 2) (cells8 (dI A))), (11, rowPd 5 1 (msz B + 2) (cells8 (dI B))), (18, rowPd 5 1 (2) (cells8 ([48, xk])))] ⟨rfl, rfl, rfl, trivial⟩ trivial ⟨rfl, rfl, rfl, trivial⟩ rfl (fun a w h => ?_)
  refine wp_seq ?_
  refine sq_begin [0, 1, 2, 3] rfl ?_
  refine sq_step h (i := 0) rfl (u_copyQ (xs := []) (up_seq (i := 0) (by kernel_rfl) rfl) (gd0 rfl) 19 rfl (.tmp 7) (Or.inl rfl) rfl rfl) (fun a w h => ?_)
  refine sq_step h (i := 1) rfl (u_copyQ (xs := []) (up_seq (i := 1) (by kernel_rfl) rfl) (gd0 rfl) 20 rfl (.tmp 5) (Or.inl rfl) rfl rfl) (fun a w h => ?_)
  refine sq_appQ (k := 2) (l := [48, xk]) h (i := 2) rfl (gq0 rfl) 21 rfl (.tmp 19) (.tmp 20) rfl 18 rfl rfl (Or.inr rfl) (m := (msz A + 2)) (f := (fun i => (dI A).getD i 0)) (fun β hr => by obtain ⟨z, c, hv, _, _, hb⟩ := row_ba (hr.thing (x := 9) (p := rowPd 5 1 (msz A + 2) (cells8 (dI A))) rfl) (dI_lt hA); exact ⟨z, c, (hr.eval (v := .unk 9 id) rfl).trans hv, hb⟩) (by omega) [(6, .unk 11 id)] ⟨rfl, trivial⟩ rfl (fun a w h => ?_)
  replace h := h.keepQ [(6, .unk 11 id), (21, .unk 21 id)] [] [(11, rowPd 5 1 (msz B + 2) (cells8 (dI B))), (21, rowPd 5 1 (2 + (msz A + 2)) (cells8 ([48, xk] ++ dI A)))] ⟨rfl, rfl, trivial⟩ trivial ⟨rfl, (congrArg (fun z => some (rowPd 5 1 (2 + (msz A + 2)) (cells8 ([48, xk] ++ z)))) (fl_getD (dI_len _))), trivial⟩ rfl
  refine sq_step h (i := 3) rfl (u_copyQ (xs := []) (up_seq (i := 3) (by kernel_rfl) rfl) (gd0 rfl) 7 rfl (.tmp 21) (Or.inr rfl) rfl rfl) (fun a w h => ?_)
  replace h := h.keepQ [(6, .unk 11 id), (7, .unk 21 id)] [] [(11, rowPd 5 1 (msz B + 2) (cells8 (dI B))), (21, rowPd 5 1 (2 + (msz A + 2)) (cells8 ([48, xk] ++ dI A)))] ⟨rfl, rfl, trivial⟩ trivial ⟨rfl, rfl, trivial⟩ rfl
  refine sq_end ?_
  refine then_norm ?_
  refine wp_seq ?_
  refine sq_begin [0, 1, 2, 3] rfl ?_
  refine sq_step h (i := 0) rfl (u_copyQ (xs := []) (up_seq (i := 0) (by kernel_rfl) rfl) (gd0 rfl) 22 rfl (.tmp 7) (Or.inl rfl) rfl rfl) (fun a w h => ?_)
  refine sq_step h (i := 1) rfl (u_copyQ (xs := []) (up_seq (i := 1) (by kernel_rfl) rfl) (gd0 rfl) 23 rfl (.tmp 6) (Or.inl rfl) rfl rfl) (fun a w h => ?_)
  refine sq_appQ (k := 2 + (msz A + 2)) (l := [48, xk] ++ dI A) h (i := 2) rfl (gq0 rfl) 24 rfl (.tmp 22) (.tmp 23) rfl 21 rfl rfl (Or.inr rfl) (m := (msz B + 2)) (f := (fun i => (dI B).getD i 0)) (fun β hr => by obtain ⟨z, c, hv, _, _, hb⟩ := row_ba (hr.thing (x := 11) (p := rowPd 5 1 (msz B + 2) (cells8 (dI B))) rfl) (dI_lt hB); exact ⟨z, c, (hr.eval (v := .unk 11 id) rfl).trans hv, hb⟩) (by omega) [] trivial rfl (fun a w h => ?_)
  replace h := h.keepQ [(24, .unk 24 id)] [] [(24, rowPd 5 1 (2 + (msz A + 2) + (msz B + 2)) (cells8 ([48, xk] ++ dI A ++ dI B)))] ⟨rfl, trivial⟩ trivial ⟨(congrArg (fun z => some (rowPd 5 1 (2 + (msz A + 2) + (msz B + 2)) (cells8 ([48, xk] ++ dI A ++ z)))) (fl_getD (dI_len _))), trivial⟩ rfl
  refine sq_step h (i := 3) rfl (u_copyQ (xs := []) (up_seq (i := 3) (by kernel_rfl) rfl) (gd0 rfl) 4 rfl (.tmp 24) (Or.inr rfl) rfl rfl) (fun a w h => ?_)
  replace h := h.keepQ [(4, .unk 24 id)] [] [(24, rowPd 5 1 (2 + (msz A + 2) + (msz B + 2)) (cells8 ([48, xk] ++ dI A ++ dI B)))] ⟨rfl, trivial⟩ trivial ⟨rfl, trivial⟩ rfl
  refine sq_end ?_
  refine then_norm ?_
  refine wp_ret ?_
  refine ret_thing h 4 rfl (lk rfl) 24 id rfl rfl (fun v F hp hF => ?_)
  exact ⟨v, rfl, by have q := row_back hp hF; rw [HN, HL] at q; exact q, h.grows⟩
end Go.Proofs.YtlpjdhoboebbfaaDoor
