/- Steps of states for bytes that came in: how many, one's address, a part of them. Numbers and their bytes, there and back. What the document's own Decode answers. Regions that keep to the text's order, operation by operation: calls whose answers are not told ahead; the states are then told over the world behind the call. Two lists of bytes are the same. What the document's own Same answers, of all lists of bytes. -/
import Derived.Test.YtimaaendbfjblaaDoorB01
import Derived.Test.YtimaaendbfjblaaDoorB22
import Derived.Test.YtimaaendbfjblaaDoorB23
import Derived.Deep.LoopGhost
import Derived.Deep.DeepCutAuto
namespace Go.Proofs.YtimaaendbfjblaaDoor
open Go.RowKit

section
variable {P : Program} {W : Bs} {n : Nat} {ops : Array Oper} {i : Nat} {o : Oper} {L : Nat → Bool} {xs : List OE} {σ : SS}
theorem u_lenV (u : Up ops i o L) (hg : Gd ops n o (run L 0 xs σ)) (dd : Nat) (hdd : o.dst = some dd) (x : Operand) (t : TypeId) (ho : o.op = .call { callee := .builtin .len, args := #[x], argTypes := #[t] }) {a : Option Addr} {m c : Nat} (hx : lookO n ops i o xs σ x = some (.val (.slice a m c))) {e : TypeId} (hu : P.underlying t = some (.slice e)) : GStep P W n ops o (run L 0 xs σ) ((eS dd (.val (.int .i64 (m : Int)))).app (run L 0 xs σ)) := by
  refine u_any u hg dd hdd _ (fun x c hp => by cases hp) fun β a w hr => ?_
  unfold execOp
  simp [ho, resolve, invoke, builtin, hr.eval (u.ev hx), SV.at, Builtin.len_, goInt, run_underlying hu]
theorem u_atX (u : Up ops i o L) (hg : Gd ops n o (run L 0 xs σ)) (dd : Nat) (hdd : o.dst = some dd) (ty : TypeId) (x ix : Operand) (ho : o.op = .indexAddr ty x ix) {b off m c : Nat} (hx : lookO n ops i o xs σ x = some (.val (.slice (some ⟨b, off, none⟩) m c))) {kd : IntKind} {k : Nat} (hi : lookO n ops i o xs σ ix = some (.val (.int kd (k : Int)))) {e : TypeId} (hu : P.underlying ty = some (.slice e)) {z : Nat} (hz : (P.info? e).map (·.size) = some z) (hk : k < m) (off' : Nat) (ho' : off' = off + k * z) : GStep P W n ops o (run L 0 xs σ) ((eS dd (.val (.pointer (some ⟨b, off', none⟩)))).app (run L 0 xs σ)) := by
  subst ho'
  refine u_any u hg dd hdd _ (fun x c hp => by cases hp) fun β a w hr => ?_
  cases hq : P.info? e with
  | none => simp [hq] at hz
  | some t =>
    have hs : t.size = z := by simpa [hq] using hz
    unfold execOp
    simp [ho, hr.eval (u.ev hx), hr.eval (u.ev hi), SV.at, Instr.indexAt, asIntOf, run_underlying hu, sizeOf, typeInfo, hq, hs, Addr.add_mid, hk]
/-- A part of bytes that came in: what a run of the cut answers is handed. -/
theorem u_part2 (u : Up ops i o L) (hg : Gd ops n o (run L 0 xs σ)) (dd : Nat) (hdd : o.dst = some dd) (ty : TypeId) (x l h : Operand) (ho : o.op = .slice ty x (some l) (some h) none) {vx vl vh : Value} (hx : lookO n ops i o xs σ x = some (.val vx)) (hl : lookO n ops i o xs σ l = some (.val vl)) (hh : lookO n ops i o xs σ h = some (.val vh)) (v : Value) (hr : ∀ w : World, (Instr.sliceAt ty vx (some vl) (some vh) none).run P w = .ok v w) : GStep P W n ops o (run L 0 xs σ) ((eS dd (.val v)).app (run L 0 xs σ)) := by
  refine u_any u hg dd hdd _ (fun x c hp => by cases hp) fun β a w hq => ?_
  unfold execOp
  simp only [ho, Option.map, hq.eval (u.ev hx), hq.eval (u.ev hl), hq.eval (u.ev hh), SV.at, Sem.run_bind, Sem.run_pure, Result.andThen_ok, hr]
theorem u_partT (u : Up ops i o L) (hg : Gd ops n o (run L 0 xs σ)) (dd : Nat) (hdd : o.dst = some dd) (ty : TypeId) (x l : Operand) (ho : o.op = .slice ty x (some l) none none) {vx vl : Value} (hx : lookO n ops i o xs σ x = some (.val vx)) (hl : lookO n ops i o xs σ l = some (.val vl)) (v : Value) (hr : ∀ w : World, (Instr.sliceAt ty vx (some vl) none none).run P w = .ok v w) : GStep P W n ops o (run L 0 xs σ) ((eS dd (.val v)).app (run L 0 xs σ)) := by
  refine u_any u hg dd hdd _ (fun x c hp => by cases hp) fun β a w hq => ?_
  unfold execOp
  simp only [ho, Option.map, hq.eval (u.ev hx), hq.eval (u.ev hl), SV.at, Sem.run_bind, Sem.run_pure, Result.andThen_ok, hr]
theorem u_partH (u : Up ops i o L) (hg : Gd ops n o (run L 0 xs σ)) (dd : Nat) (hdd : o.dst = some dd) (ty : TypeId) (x h : Operand) (ho : o.op = .slice ty x none (some h) none) {vx vh : Value} (hx : lookO n ops i o xs σ x = some (.val vx)) (hh : lookO n ops i o xs σ h = some (.val vh)) (v : Value) (hr : ∀ w : World, (Instr.sliceAt ty vx none (some vh) none).run P w = .ok v w) : GStep P W n ops o (run L 0 xs σ) ((eS dd (.val v)).app (run L 0 xs σ)) := by
  refine u_any u hg dd hdd _ (fun x c hp => by cases hp) fun β a w hq => ?_
  unfold execOp
  simp only [ho, Option.map, hq.eval (u.ev hx), hq.eval (u.ev hh), SV.at, Sem.run_bind, Sem.run_pure, Result.andThen_ok, hr]
end
/-- A part of a slice of bytes. -/
def cutA (a : Option Addr) (c k : Nat) : Option Addr := if c = k then a else a.map (·.add k)
theorem run_midS {a : Option Addr} {n c k m : Nat} (hk : k ≤ m) (hc : m ≤ c) (W : World) : (Instr.sliceAt 43 (.slice a n c) (some (.int .i64 (k : Int))) (some (.int .i64 (m : Int))) none).run Tryd.prog W = .ok (.slice (cutA a c k) (m - k) (c - k)) W := by
  have hu : Tryd.prog.underlying 43 = some (.slice (Tryd.prog.elem 43)) := by kernel_rfl
  have he : Tryd.prog.elem 43 = 5 := by kernel_rfl
  have h1 : (sizeOf 5).run Tryd.prog W = .ok 1 W := by
    obtain ⟨i, hi⟩ := Option.isSome_iff_exists.1 (show (Tryd.prog.info? 5).isSome = true by kernel_rfl)
    have : (Tryd.prog.info? 5).map (·.size) = some 1 := by kernel_rfl
    rw [hi] at this
    simp [sizeOf, typeInfo, hi]
    simpa using this
  rw [run_sliceAt_slice W 43 _ _ _ _ hu, run_slice_lh W 43 _ n c hu .i64 .i64 (k : Int) (m : Int) (by omega) (by omega) (by omega), he, h1]
  simp only [Result.andThen_ok, sliced, Int.toNat_natCast, Nat.mul_one, cutA]
theorem run_fromS {a : Option Addr} {n c k : Nat} (hk : k ≤ n) (W : World) : (Instr.sliceAt 43 (.slice a n c) (some (.int .i64 (k : Int))) none none).run Tryd.prog W = .ok (.slice (cutA a c k) (n - k) (c - k)) W := by
  have hu : Tryd.prog.underlying 43 = some (.slice (Tryd.prog.elem 43)) := by kernel_rfl
  have he : Tryd.prog.elem 43 = 5 := by kernel_rfl
  have h1 : (sizeOf 5).run Tryd.prog W = .ok 1 W := by
    obtain ⟨i, hi⟩ := Option.isSome_iff_exists.1 (show (Tryd.prog.info? 5).isSome = true by kernel_rfl)
    have : (Tryd.prog.info? 5).map (·.size) = some 1 := by kernel_rfl
    rw [hi] at this
    simp [sizeOf, typeInfo, hi]
    simpa using this
  rw [run_sliceAt_slice W 43 _ _ _ _ hu, run_slice_l W 43 _ n c hu .i64 (k : Int) (by omega) (by omega), he, h1]
  simp only [Result.andThen_ok, sliced, Int.toNat_natCast, Nat.mul_one, cutA]
theorem run_toS {a : Option Addr} {n c m : Nat} (hc : m ≤ c) (W : World) : (Instr.sliceAt 43 (.slice a n c) none (some (.int .i64 (m : Int))) none).run Tryd.prog W = .ok (.slice (cutA a c 0) m c) W := by
  have hu : Tryd.prog.underlying 43 = some (.slice (Tryd.prog.elem 43)) := by kernel_rfl
  have he : Tryd.prog.elem 43 = 5 := by kernel_rfl
  have h1 : (sizeOf 5).run Tryd.prog W = .ok 1 W := by
    obtain ⟨i, hi⟩ := Option.isSome_iff_exists.1 (show (Tryd.prog.info? 5).isSome = true by kernel_rfl)
    have : (Tryd.prog.info? 5).map (·.size) = some 1 := by kernel_rfl
    rw [hi] at this
    simp [sizeOf, typeInfo, hi]
    simpa using this
  rw [run_sliceAt_slice W 43 _ _ _ _ hu, run_slice_h W 43 _ n c hu .i64 (m : Int) (by omega) (by omega), he, h1]
  simp only [Result.andThen_ok, sliced, Int.toNat_natCast, Nat.mul_one, cutA, Nat.sub_zero]
theorem BA.cut {w : World} {a : Option Addr} {n : Nat} {f : Nat → Nat} (h : BA w a n f) (c k m : Nat) (hk : k + m ≤ n) (hc : n ≤ c) : BA w (cutA a c k) m (fun i => f (k + i)) := by
  refine ⟨fun i => h.lt _, ?_⟩
  by_cases h0 : m = 0
  · exact Or.inl h0
  · rcases h.at_ with hn | ⟨b, o, rfl, hr⟩
    · omega
    · refine Or.inr ⟨b, o + k, ?_, hr.part k m hk⟩
      unfold cutA
      rw [if_neg (by omega), Option.map_some, Addr.add_mid]
end Go.Proofs.YtimaaendbfjblaaDoor
namespace Go.Proofs.YtimaaendbfjblaaDoor
open Go.RowKit

theorem E_byte {f : Nat → Int} (hf : ∀ i, 0 ≤ f i ∧ f i < 256) (o r : Nat) (hr : r < 8) : E f o 8 / 256 ^ r % 256 = f (o + r) := by
  have h0 := hf (o + 0)
  have h1 := hf (o + 1)
  have h2 := hf (o + 2)
  have h3 := hf (o + 3)
  have h4 := hf (o + 4)
  have h5 := hf (o + 5)
  have h6 := hf (o + 6)
  have h7 := hf (o + 7)
  simp only [E]
  match r, hr with
  | 0, _ => simp only [Nat.add_zero] at *; omega
  | 1, _ => simp only [Nat.add_zero] at *; omega
  | 2, _ => simp only [Nat.add_zero] at *; omega
  | 3, _ => simp only [Nat.add_zero] at *; omega
  | 4, _ => simp only [Nat.add_zero] at *; omega
  | 5, _ => simp only [Nat.add_zero] at *; omega
  | 6, _ => simp only [Nat.add_zero] at *; omega
  | 7, _ => simp only [Nat.add_zero] at *; omega
  | n + 8, h => omega
/-- Bytes that are a number's. -/
theorem num_bytes {f : Nat → Int} (hf : ∀ i, 0 ≤ f i ∧ f i < 256) : ∃ u, Num u ∧ (E f 0 8 = L 0 u ∧ E f 8 8 = L 1 u ∧ E f 16 8 = L 2 u ∧ E f 24 8 = L 3 u) ∧ ∀ i, i < 32 → Y i u = f i := by
  have hb : ∀ o, 0 ≤ E f o 8 ∧ E f o 8 < 18446744073709551616 := fun o => by have h := E_bd hf o 8; exact ⟨h.1, Int.lt_of_lt_of_le h.2 (by decide)⟩
  obtain ⟨u, hu, h0, h1, h2, h3⟩ := num_of (E f 0 8) (E f 8 8) (E f 16 8) (E f 24 8) (hb _) (hb _) (hb _) (hb _)
  refine ⟨u, hu, ⟨h0, h1, h2, h3⟩, fun i hi => ?_⟩
  have e : 8 * (i / 8) + i % 8 = i := by omega
  have hq : i / 8 = 0 ∨ i / 8 = 1 ∨ i / 8 = 2 ∨ i / 8 = 3 := by omega
  rw [← e, ← byte_word u (i / 8) (i % 8) (by omega)]
  rcases hq with hq | hq | hq | hq
  · rw [hq, ← h0, E_byte hf 0 _ (by omega)]
  · rw [hq, ← h1, E_byte hf 8 _ (by omega)]
  · rw [hq, ← h2, E_byte hf 16 _ (by omega)]
  · rw [hq, ← h3, E_byte hf 24 _ (by omega)]
theorem E_words (a : Int) : E (fun i => Y i a) 0 8 = L 0 a ∧ E (fun i => Y i a) 8 8 = L 1 a ∧ E (fun i => Y i a) 16 8 = L 2 a ∧ E (fun i => Y i a) 24 8 = L 3 a :=
  ⟨E_word a 0, E_word a 1, E_word a 2, E_word a 3⟩
theorem E_turned (a : Int) (o : Nat) (ho : o + 8 ≤ 32) : E (fun i => Y (31 - (31 - i)) a) o 8 = E (fun i => Y i a) o 8 := E_congr o 8 (fun i hi => by rw [show 31 - (31 - (o + i)) = o + i by omega])
end Go.Proofs.YtimaaendbfjblaaDoor
namespace Go.Proofs.YtimaaendbfjblaaDoor
open Go.RowKit

theorem i5 : (Tryd.prog.info? 5).map (·.size) = some 1 := by kernel_rfl
theorem cE51 (vs : List Value) : ∀ w, (callFunc 51 vs.toArray).run Tryd.prog w = .ok (.enter 51 vs.toArray) w := callFunc_enter Tryd.func51 (by kernel_rfl) (by kernel_rfl) _
/-- The number of 32 bytes from place k on, the most significant first. -/
structure BN (f : Nat → Nat) (k : Nat) (u : Int) : Prop where
  num : Num u
  at_ : ∀ i, i < 32 → Y i u = ((f (k + (31 - i)) : Nat) : Int)
theorem bn_is {f : Nat → Nat} (hf : ∀ i, f i < 256) (k : Nat) : ∃ u, BN f k u := by
  obtain ⟨u, hu, _, hy⟩ := num_bytes (f := fun i => ((f (k + (31 - i)) : Nat) : Int)) (fun i => ⟨by omega, by have := hf (k + (31 - i)); omega⟩)
  exact ⟨u, hu, hy⟩
theorem Y_all {u v : Int} (hu : Num u) (hv : Num v) (h : ∀ i, i < 32 → Y i u = Y i v) : u = v := by
  have a := E_words u
  have b := E_words v
  have e : ∀ o, o + 8 ≤ 32 → E (fun i => Y i u) o 8 = E (fun i => Y i v) o 8 := fun o ho => E_congr o 8 (fun i hi => h _ (by omega))
  exact num_ext hu hv (by rw [← a.1, ← b.1]; exact e 0 (by omega)) (by rw [← a.2.1, ← b.2.1]; exact e 8 (by omega)) (by rw [← a.2.2.1, ← b.2.2.1]; exact e 16 (by omega)) (by rw [← a.2.2.2, ← b.2.2.2]; exact e 24 (by omega))
theorem BN.one {f : Nat → Nat} {k : Nat} {u v : Int} (h : BN f k u) (g : BN f k v) : u = v := Y_all h.num g.num (fun i hi => by rw [h.at_ i hi, g.at_ i hi])
theorem r_Big {w : World} {a : Option Addr} {c : Nat} {f : Nat → Nat} (hb : BA w a 32 f) {u : Int} (hu : BN f 0 u) : Calls Tryd.prog 51 [.slice a 32 c].toArray w fun e w' => e = .returned (.tuple [.agg (nc u).toArray, .bool true].toArray) ∧ Below w.heap.size w w' := by
  rcases hb.at_ with h0 | ⟨b, o, rfl, hr⟩
  · omega
  have h := refBig_any (cap := c) (fun i => ⟨by omega, by have := hb.lt i; omega⟩) hr
  have e : ∀ o, o + 8 ≤ 32 → E (fun i => ((f (31 - i) : Nat) : Int)) o 8 = E (fun i => Y i u) o 8 := fun o ho => E_congr o 8 (fun i hi => by
    rw [hu.at_ _ (by omega), Nat.zero_add])
  have w4 := E_words u
  rw [e 0 (by omega), e 8 (by omega), e 16 (by omega), e 24 (by omega), w4.1, w4.2.1, w4.2.2.1, w4.2.2.2] at h
  exact h
theorem BN.shift {f : Nat → Nat} {k : Nat} {u : Int} (h : BN f k u) : BN (fun i => f (k + i)) 0 u := ⟨h.num, fun i hi => by rw [h.at_ i hi, Nat.zero_add]⟩
theorem bPn (a b : Int) : Tryd.prog.built 26 [(0, .agg (nc a).toArray), (1, .agg (nc b).toArray)] = some (nc a ++ nc b ++ [Value.bool false]).toArray := by kernel_rfl
set_option maxRecDepth 100000 in
set_option maxHeartbeats 4000000 in
theorem r_dec_A {w : World} {b o c : Nat} {f : Nat → Nat} (hrd : Rd w b o 1 (fun i => ((f i : Nat) : Int))) (h0 : f 0 = 0) : Calls Tryd.prog 23 [Value.slice (some ⟨b, o, none⟩) (1) (c)].toArray w fun e w' => e = .returned (.tuple [.agg (nz ++ nz ++ [Value.bool true]).toArray, .bool true].toArray) ∧ Below w.heap.size w w' := by
  refine enter (args := [Value.slice (some ⟨b, o, none⟩) (1) (c)]) Tryd.func23 rfl 49 rfl (lk rfl) (fun a h => ?_)
  refine go_region h hm [eN 2 (nz ++ nz ++ [Value.bool false]), eS 3 (.val (Value.bool false))] (by kernel_rfl) ⟨
    fun L u => u_alloc u (gd0 rfl) 26 rfl 2 rfl rfl z26 _ rfl,
    fun L u => u_move u (gd0 rfl) 3 rfl (.const (.bool false)) (Or.inr rfl) rfl,
    trivial⟩ [(0, .val (Value.slice (some ⟨b, o, none⟩) (1) (c))), (2, .ptr 2 0)] [(2, nz ++ nz ++ [Value.bool false])] ⟨rfl, rfl, trivial⟩ ⟨rfl, trivial⟩ rfl (fun a w h => ?_)
  refine wp_seq ?_
  refine go_region h hm [eS 9 (.val (Value.slice (some ⟨b, o, none⟩) (1) (c))), eS 10 (.val (Value.int .i64 ((1 : Nat) : Int))), eS 11 (.val (Value.bool true)), eS 12 (.val (Value.bool true)), eS 13 (.val (Value.slice (some ⟨b, o, none⟩) (1) (c))), eS 14 (.val (Value.pointer (some ⟨b, o + 0, none⟩))), eS 15 (.val (Value.int .u8 ((f 0 : Nat) : Int))), eS 16 (.val (Value.bool true)), eS 17 (.val (Value.bool true))] (by kernel_rfl) ⟨
    fun L u => u_move u (gd0 rfl) 9 rfl (.tmp 0) (Or.inl rfl) rfl,
    fun L u => u_lenV u (gd0 rfl) 10 rfl (.tmp 9) 43 rfl rfl Tryd.underlying43,
    fun L u => u_bin u (gd0 rfl) 11 rfl .eql 3 3 (.tmp 10) (.const (.int .i64 1)) rfl rfl rfl (eqg_int _ _ _ _ _ _ _ _) (Value.bool true) (yes_of (fun w => i_eql _ _ _ _ w) (by omega)),
    fun L u => u_move u (gd0 rfl) 12 rfl (.tmp 11) (Or.inl rfl) rfl,
    fun L u => u_move u (gd1 u 3 true rfl 12 rfl (lk rfl) rfl) 13 rfl (.tmp 0) (Or.inl rfl) rfl,
    fun L u => u_atX u (gd1 u 3 true rfl 12 rfl (lk rfl) rfl) 14 rfl 43 (.tmp 13) (.const (.int .i64 0)) rfl rfl (k := 0) rfl Tryd.underlying43 i5 (by omega) (o + 0) rfl,
    fun L u => u_loadX u (gd1 u 3 true rfl 12 rfl (lk rfl) rfl) 15 rfl 5 (.tmp 14) rfl rfl Tryd.underlying5 rfl (Value.int .u8 ((f 0 : Nat) : Int)) (hrd.c 0 (by omega)) rfl,
    fun L u => u_bin u (gd1 u 3 true rfl 12 rfl (lk rfl) rfl) 16 rfl .eql 5 5 (.tmp 15) (.const (.int .u8 0)) rfl rfl rfl (eqg_int _ _ _ _ _ _ _ _) (Value.bool true) (yes_of (fun w => i_eql _ _ _ _ w) (by omega)),
    fun L u => u_pick u (gd0 rfl) 17 rfl (.tmp 12) (.tmp 16) (.const (.bool false)) rfl rfl rfl rfl _ rfl,
    trivial⟩ [(0, .val (Value.slice (some ⟨b, o, none⟩) (1) (c))), (2, .ptr 2 0), (17, .val (Value.bool true))] [(2, nz ++ nz ++ [Value.bool false])] ⟨rfl, rfl, rfl, trivial⟩ ⟨rfl, trivial⟩ rfl (fun a w h => ?_)
  refine go_cond h true rfl (fun ht => ?_) (fun hf => ?_)
  case refine_2 => cases hf
  refine go_region h hm [eS 18 (.val (.agg (nz ++ nz ++ [Value.bool true]).toArray)), eM 2 (nz ++ nz ++ [Value.bool true]), eS 3 (.val (Value.bool true))] (by kernel_rfl) ⟨
    fun L u => u_call u (gd0 rfl) 18 rfl 32 #[] #[] rfl [] rfl (cE32 _) (.agg (nz ++ nz ++ [Value.bool true]).toArray) (fun w hb => r_None),
    fun L u => u_store u (gd0 rfl) 26 (.tmp 2) (.tmp 18) rfl rfl rfl (vs := nz ++ nz ++ [Value.bool true]) rfl rfl i26 (lk rfl) rfl _ rfl,
    fun L u => u_move u (gd0 rfl) 3 rfl (.const (.bool true)) (Or.inr rfl) rfl,
    trivial⟩ [(2, .ptr 2 0), (3, .val (Value.bool true))] [(2, nz ++ nz ++ [Value.bool true])] ⟨rfl, rfl, trivial⟩ ⟨rfl, trivial⟩ rfl (fun a w h => ?_)
  refine wp_ret ?_
  refine then_ret ?_
  refine ret_two h _ _ rfl (ans_row (cs := nz ++ nz ++ [Value.bool true]) 2 (lk rfl) 26 rfl rfl Tryd.underlying26 rfl i26) (ans_tmp (v := Value.bool true) 3 (lk rfl) rfl) ?_
  exact ⟨rfl, h.grows⟩
set_option maxRecDepth 100000 in
set_option maxHeartbeats 4000000 in
theorem r_dec_B {w : World} {b o c : Nat} {f : Nat → Nat} (hrd : Rd w b o 1 (fun i => ((f i : Nat) : Int))) (h0 : f 0 ≠ 0) : Calls Tryd.prog 23 [Value.slice (some ⟨b, o, none⟩) (1) (c)].toArray w fun e w' => e = .returned (.tuple [.agg (nz ++ nz ++ [Value.bool true]).toArray, .bool false].toArray) ∧ Below w.heap.size w w' := by
  refine enter (args := [Value.slice (some ⟨b, o, none⟩) (1) (c)]) Tryd.func23 rfl 49 rfl (lk rfl) (fun a h => ?_)
  refine go_region h hm [eN 2 (nz ++ nz ++ [Value.bool false]), eS 3 (.val (Value.bool false))] (by kernel_rfl) ⟨
    fun L u => u_alloc u (gd0 rfl) 26 rfl 2 rfl rfl z26 _ rfl,
    fun L u => u_move u (gd0 rfl) 3 rfl (.const (.bool false)) (Or.inr rfl) rfl,
    trivial⟩ [(0, .val (Value.slice (some ⟨b, o, none⟩) (1) (c))), (2, .ptr 2 0)] [(2, nz ++ nz ++ [Value.bool false])] ⟨rfl, rfl, trivial⟩ ⟨rfl, trivial⟩ rfl (fun a w h => ?_)
  refine wp_seq ?_
  refine go_region h hm [eS 9 (.val (Value.slice (some ⟨b, o, none⟩) (1) (c))), eS 10 (.val (Value.int .i64 ((1 : Nat) : Int))), eS 11 (.val (Value.bool true)), eS 12 (.val (Value.bool true)), eS 13 (.val (Value.slice (some ⟨b, o, none⟩) (1) (c))), eS 14 (.val (Value.pointer (some ⟨b, o + 0, none⟩))), eS 15 (.val (Value.int .u8 ((f 0 : Nat) : Int))), eS 16 (.val (Value.bool false)), eS 17 (.val (Value.bool false))] (by kernel_rfl) ⟨
    fun L u => u_move u (gd0 rfl) 9 rfl (.tmp 0) (Or.inl rfl) rfl,
    fun L u => u_lenV u (gd0 rfl) 10 rfl (.tmp 9) 43 rfl rfl Tryd.underlying43,
    fun L u => u_bin u (gd0 rfl) 11 rfl .eql 3 3 (.tmp 10) (.const (.int .i64 1)) rfl rfl rfl (eqg_int _ _ _ _ _ _ _ _) (Value.bool true) (yes_of (fun w => i_eql _ _ _ _ w) (by omega)),
    fun L u => u_move u (gd0 rfl) 12 rfl (.tmp 11) (Or.inl rfl) rfl,
    fun L u => u_move u (gd1 u 3 true rfl 12 rfl (lk rfl) rfl) 13 rfl (.tmp 0) (Or.inl rfl) rfl,
    fun L u => u_atX u (gd1 u 3 true rfl 12 rfl (lk rfl) rfl) 14 rfl 43 (.tmp 13) (.const (.int .i64 0)) rfl rfl (k := 0) rfl Tryd.underlying43 i5 (by omega) (o + 0) rfl,
    fun L u => u_loadX u (gd1 u 3 true rfl 12 rfl (lk rfl) rfl) 15 rfl 5 (.tmp 14) rfl rfl Tryd.underlying5 rfl (Value.int .u8 ((f 0 : Nat) : Int)) (hrd.c 0 (by omega)) rfl,
    fun L u => u_bin u (gd1 u 3 true rfl 12 rfl (lk rfl) rfl) 16 rfl .eql 5 5 (.tmp 15) (.const (.int .u8 0)) rfl rfl rfl (eqg_int _ _ _ _ _ _ _ _) (Value.bool false) (no_of (fun w => i_eql _ _ _ _ w) (by omega)),
    fun L u => u_pick u (gd0 rfl) 17 rfl (.tmp 12) (.tmp 16) (.const (.bool false)) rfl rfl rfl rfl _ rfl,
    trivial⟩ [(0, .val (Value.slice (some ⟨b, o, none⟩) (1) (c))), (2, .ptr 2 0), (17, .val (Value.bool false))] [(2, nz ++ nz ++ [Value.bool false])] ⟨rfl, rfl, rfl, trivial⟩ ⟨rfl, trivial⟩ rfl (fun a w h => ?_)
  refine go_cond h false rfl (fun ht => ?_) (fun hf => ?_)
  case refine_1 => cases ht
  refine wp_skip ?_
  refine then_norm ?_
  refine wp_seq ?_
  refine go_region h hm [eS 19 (.val (Value.slice (some ⟨b, o, none⟩) (1) (c))), eS 20 (.val (Value.int .i64 ((1 : Nat) : Int))), eS 21 (.val (Value.bool true))] (by kernel_rfl) ⟨
    fun L u => u_move u (gd0 rfl) 19 rfl (.tmp 0) (Or.inl rfl) rfl,
    fun L u => u_lenV u (gd0 rfl) 20 rfl (.tmp 19) 43 rfl rfl Tryd.underlying43,
    fun L u => u_bin u (gd0 rfl) 21 rfl .neq 3 3 (.tmp 20) (.const (.int .i64 65)) rfl rfl rfl (eqg_int _ _ _ _ _ _ _ _) (Value.bool true) (yes_of (fun w => i_neq _ _ _ _ w) (by omega)),
    trivial⟩ [(0, .val (Value.slice (some ⟨b, o, none⟩) (1) (c))), (2, .ptr 2 0), (21, .val (Value.bool true))] [(2, nz ++ nz ++ [Value.bool false])] ⟨rfl, rfl, rfl, trivial⟩ ⟨rfl, trivial⟩ rfl (fun a w h => ?_)
  refine go_cond h true rfl (fun ht => ?_) (fun hf => ?_)
  case refine_2 => cases hf
  refine go_region h hm [eS 22 (.val (.agg (nz ++ nz ++ [Value.bool true]).toArray)), eM 2 (nz ++ nz ++ [Value.bool true]), eS 3 (.val (Value.bool false))] (by kernel_rfl) ⟨
    fun L u => u_call u (gd0 rfl) 22 rfl 32 #[] #[] rfl [] rfl (cE32 _) (.agg (nz ++ nz ++ [Value.bool true]).toArray) (fun w hb => r_None),
    fun L u => u_store u (gd0 rfl) 26 (.tmp 2) (.tmp 22) rfl rfl rfl (vs := nz ++ nz ++ [Value.bool true]) rfl rfl i26 (lk rfl) rfl _ rfl,
    fun L u => u_move u (gd0 rfl) 3 rfl (.const (.bool false)) (Or.inr rfl) rfl,
    trivial⟩ [(2, .ptr 2 0), (3, .val (Value.bool false))] [(2, nz ++ nz ++ [Value.bool true])] ⟨rfl, rfl, trivial⟩ ⟨rfl, trivial⟩ rfl (fun a w h => ?_)
  refine wp_ret ?_
  refine then_ret ?_
  refine ret_two h _ _ rfl (ans_row (cs := nz ++ nz ++ [Value.bool true]) 2 (lk rfl) 26 rfl rfl Tryd.underlying26 rfl i26) (ans_tmp (v := Value.bool false) 3 (lk rfl) rfl) ?_
  exact ⟨rfl, h.grows⟩
set_option maxRecDepth 100000 in
set_option maxHeartbeats 4000000 in
theorem r_dec_C {w : World} {A : Option Addr} {n c : Nat} (h1 : n ≠ 1) (h65 : n ≠ 65) : Calls Tryd.prog 23 [Value.slice (A) (n) (c)].toArray w fun e w' => e = .returned (.tuple [.agg (nz ++ nz ++ [Value.bool true]).toArray, .bool false].toArray) ∧ Below w.heap.size w w' := by
  refine enter (args := [Value.slice (A) (n) (c)]) Tryd.func23 rfl 49 rfl (lk rfl) (fun a h => ?_)
  refine go_region h hm [eN 2 (nz ++ nz ++ [Value.bool false]), eS 3 (.val (Value.bool false))] (by kernel_rfl) ⟨
    fun L u => u_alloc u (gd0 rfl) 26 rfl 2 rfl rfl z26 _ rfl,
    fun L u => u_move u (gd0 rfl) 3 rfl (.const (.bool false)) (Or.inr rfl) rfl,
    trivial⟩ [(0, .val (Value.slice (A) (n) (c))), (2, .ptr 2 0)] [(2, nz ++ nz ++ [Value.bool false])] ⟨rfl, rfl, trivial⟩ ⟨rfl, trivial⟩ rfl (fun a w h => ?_)
  refine wp_seq ?_
  refine go_region h hm [eS 9 (.val (Value.slice (A) (n) (c))), eS 10 (.val (Value.int .i64 ((n : Nat) : Int))), eS 11 (.val (Value.bool false)), eS 12 (.val (Value.bool false)), eS 13 (.val undef), eS 14 (.val undef), eS 15 (.val undef), eS 16 (.val undef), eS 17 (.val (Value.bool false))] (by kernel_rfl) ⟨
    fun L u => u_move u (gd0 rfl) 9 rfl (.tmp 0) (Or.inl rfl) rfl,
    fun L u => u_lenV u (gd0 rfl) 10 rfl (.tmp 9) 43 rfl rfl Tryd.underlying43,
    fun L u => u_bin u (gd0 rfl) 11 rfl .eql 3 3 (.tmp 10) (.const (.int .i64 1)) rfl rfl rfl (eqg_int _ _ _ _ _ _ _ _) (Value.bool false) (no_of (fun w => i_eql _ _ _ _ w) (by omega)),
    fun L u => u_move u (gd0 rfl) 12 rfl (.tmp 11) (Or.inl rfl) rfl,
    fun L u => u_no u 3 true rfl 12 rfl (lk rfl) rfl 13 rfl,
    fun L u => u_no u 3 true rfl 12 rfl (lk rfl) rfl 14 rfl,
    fun L u => u_no u 3 true rfl 12 rfl (lk rfl) rfl 15 rfl,
    fun L u => u_no u 3 true rfl 12 rfl (lk rfl) rfl 16 rfl,
    fun L u => u_pick u (gd0 rfl) 17 rfl (.tmp 12) (.tmp 16) (.const (.bool false)) rfl rfl rfl rfl _ rfl,
    trivial⟩ [(0, .val (Value.slice (A) (n) (c))), (2, .ptr 2 0), (17, .val (Value.bool false))] [(2, nz ++ nz ++ [Value.bool false])] ⟨rfl, rfl, rfl, trivial⟩ ⟨rfl, trivial⟩ rfl (fun a w h => ?_)
  refine go_cond h false rfl (fun ht => ?_) (fun hf => ?_)
  case refine_1 => cases ht
  refine wp_skip ?_
  refine then_norm ?_
  refine wp_seq ?_
  refine go_region h hm [eS 19 (.val (Value.slice (A) (n) (c))), eS 20 (.val (Value.int .i64 ((n : Nat) : Int))), eS 21 (.val (Value.bool true))] (by kernel_rfl) ⟨
    fun L u => u_move u (gd0 rfl) 19 rfl (.tmp 0) (Or.inl rfl) rfl,
    fun L u => u_lenV u (gd0 rfl) 20 rfl (.tmp 19) 43 rfl rfl Tryd.underlying43,
    fun L u => u_bin u (gd0 rfl) 21 rfl .neq 3 3 (.tmp 20) (.const (.int .i64 65)) rfl rfl rfl (eqg_int _ _ _ _ _ _ _ _) (Value.bool true) (yes_of (fun w => i_neq _ _ _ _ w) (by omega)),
    trivial⟩ [(0, .val (Value.slice (A) (n) (c))), (2, .ptr 2 0), (21, .val (Value.bool true))] [(2, nz ++ nz ++ [Value.bool false])] ⟨rfl, rfl, rfl, trivial⟩ ⟨rfl, trivial⟩ rfl (fun a w h => ?_)
  refine go_cond h true rfl (fun ht => ?_) (fun hf => ?_)
  case refine_2 => cases hf
  refine go_region h hm [eS 22 (.val (.agg (nz ++ nz ++ [Value.bool true]).toArray)), eM 2 (nz ++ nz ++ [Value.bool true]), eS 3 (.val (Value.bool false))] (by kernel_rfl) ⟨
    fun L u => u_call u (gd0 rfl) 22 rfl 32 #[] #[] rfl [] rfl (cE32 _) (.agg (nz ++ nz ++ [Value.bool true]).toArray) (fun w hb => r_None),
    fun L u => u_store u (gd0 rfl) 26 (.tmp 2) (.tmp 22) rfl rfl rfl (vs := nz ++ nz ++ [Value.bool true]) rfl rfl i26 (lk rfl) rfl _ rfl,
    fun L u => u_move u (gd0 rfl) 3 rfl (.const (.bool false)) (Or.inr rfl) rfl,
    trivial⟩ [(2, .ptr 2 0), (3, .val (Value.bool false))] [(2, nz ++ nz ++ [Value.bool true])] ⟨rfl, rfl, trivial⟩ ⟨rfl, trivial⟩ rfl (fun a w h => ?_)
  refine wp_ret ?_
  refine then_ret ?_
  refine ret_two h _ _ rfl (ans_row (cs := nz ++ nz ++ [Value.bool true]) 2 (lk rfl) 26 rfl rfl Tryd.underlying26 rfl i26) (ans_tmp (v := Value.bool false) 3 (lk rfl) rfl) ?_
  exact ⟨rfl, h.grows⟩
set_option maxRecDepth 100000 in
set_option maxHeartbeats 4000000 in
theorem r_dec_D {w : World} {b o c : Nat} {f : Nat → Nat} (hba : BA w (some ⟨b, o, none⟩) 65 f) (hrd : Rd w b o 65 (fun i => ((f i : Nat) : Int))) (hc : 65 ≤ c) {U V : Int} (hbU : BN f 1 U) (hbV : BN f 33 V) (h4 : f 0 ≠ 4) : Calls Tryd.prog 23 [Value.slice (some ⟨b, o, none⟩) (65) (c)].toArray w fun e w' => e = .returned (.tuple [.agg (nz ++ nz ++ [Value.bool true]).toArray, .bool false].toArray) ∧ Below w.heap.size w w' := by
  refine enter (args := [Value.slice (some ⟨b, o, none⟩) (65) (c)]) Tryd.func23 rfl 49 rfl (lk rfl) (fun a h => ?_)
  refine go_region h hm [eN 2 (nz ++ nz ++ [Value.bool false]), eS 3 (.val (Value.bool false))] (by kernel_rfl) ⟨
    fun L u => u_alloc u (gd0 rfl) 26 rfl 2 rfl rfl z26 _ rfl,
    fun L u => u_move u (gd0 rfl) 3 rfl (.const (.bool false)) (Or.inr rfl) rfl,
    trivial⟩ [(0, .val (Value.slice (some ⟨b, o, none⟩) (65) (c))), (2, .ptr 2 0)] [(2, nz ++ nz ++ [Value.bool false])] ⟨rfl, rfl, trivial⟩ ⟨rfl, trivial⟩ rfl (fun a w h => ?_)
  refine wp_seq ?_
  refine go_region h hm [eS 9 (.val (Value.slice (some ⟨b, o, none⟩) (65) (c))), eS 10 (.val (Value.int .i64 ((65 : Nat) : Int))), eS 11 (.val (Value.bool false)), eS 12 (.val (Value.bool false)), eS 13 (.val undef), eS 14 (.val undef), eS 15 (.val undef), eS 16 (.val undef), eS 17 (.val (Value.bool false))] (by kernel_rfl) ⟨
    fun L u => u_move u (gd0 rfl) 9 rfl (.tmp 0) (Or.inl rfl) rfl,
    fun L u => u_lenV u (gd0 rfl) 10 rfl (.tmp 9) 43 rfl rfl Tryd.underlying43,
    fun L u => u_bin u (gd0 rfl) 11 rfl .eql 3 3 (.tmp 10) (.const (.int .i64 1)) rfl rfl rfl (eqg_int _ _ _ _ _ _ _ _) (Value.bool false) (no_of (fun w => i_eql _ _ _ _ w) (by omega)),
    fun L u => u_move u (gd0 rfl) 12 rfl (.tmp 11) (Or.inl rfl) rfl,
    fun L u => u_no u 3 true rfl 12 rfl (lk rfl) rfl 13 rfl,
    fun L u => u_no u 3 true rfl 12 rfl (lk rfl) rfl 14 rfl,
    fun L u => u_no u 3 true rfl 12 rfl (lk rfl) rfl 15 rfl,
    fun L u => u_no u 3 true rfl 12 rfl (lk rfl) rfl 16 rfl,
    fun L u => u_pick u (gd0 rfl) 17 rfl (.tmp 12) (.tmp 16) (.const (.bool false)) rfl rfl rfl rfl _ rfl,
    trivial⟩ [(0, .val (Value.slice (some ⟨b, o, none⟩) (65) (c))), (2, .ptr 2 0), (17, .val (Value.bool false))] [(2, nz ++ nz ++ [Value.bool false])] ⟨rfl, rfl, rfl, trivial⟩ ⟨rfl, trivial⟩ rfl (fun a w h => ?_)
  refine go_cond h false rfl (fun ht => ?_) (fun hf => ?_)
  case refine_1 => cases ht
  refine wp_skip ?_
  refine then_norm ?_
  refine wp_seq ?_
  refine go_region h hm [eS 19 (.val (Value.slice (some ⟨b, o, none⟩) (65) (c))), eS 20 (.val (Value.int .i64 ((65 : Nat) : Int))), eS 21 (.val (Value.bool false))] (by kernel_rfl) ⟨
    fun L u => u_move u (gd0 rfl) 19 rfl (.tmp 0) (Or.inl rfl) rfl,
    fun L u => u_lenV u (gd0 rfl) 20 rfl (.tmp 19) 43 rfl rfl Tryd.underlying43,
    fun L u => u_bin u (gd0 rfl) 21 rfl .neq 3 3 (.tmp 20) (.const (.int .i64 65)) rfl rfl rfl (eqg_int _ _ _ _ _ _ _ _) (Value.bool false) (no_of (fun w => i_neq _ _ _ _ w) (by omega)),
    trivial⟩ [(0, .val (Value.slice (some ⟨b, o, none⟩) (65) (c))), (2, .ptr 2 0), (21, .val (Value.bool false))] [(2, nz ++ nz ++ [Value.bool false])] ⟨rfl, rfl, rfl, trivial⟩ ⟨rfl, trivial⟩ rfl (fun a w h => ?_)
  refine go_cond h false rfl (fun ht => ?_) (fun hf => ?_)
  case refine_1 => cases ht
  refine wp_skip ?_
  refine then_norm ?_
  refine go_region h hm [eS 24 (.val (Value.slice (some ⟨b, o, none⟩) (65) (c))), eS 25 (.val (Value.slice (cutA (some ⟨b, o, none⟩) (c) 1) (32) (c - 1))), eS 26 (.val (.tuple [.agg (nc (U)).toArray, Value.bool true].toArray)), eS 23 (.val (.tuple [.agg (nc (U)).toArray, Value.bool true].toArray)), eS 27 (.val (.agg (nc (U)).toArray)), eS 28 (.val (Value.bool true)), eN 4 (nz), eM 4 (nc (U)), eS 5 (.val (Value.bool true))] (by kernel_rfl) ⟨
    fun L u => u_move u (gd0 rfl) 24 rfl (.tmp 0) (Or.inl rfl) rfl,
    fun L u => u_part2 u (gd0 rfl) 25 rfl 43 (.tmp 24) (.const (.int .i64 1)) (.const (.int .i64 33)) rfl rfl rfl rfl (.slice (cutA (some ⟨b, o, none⟩) (c) 1) 32 (c - 1)) (fun w => run_midS (k := 1) (m := 33) (by omega) (by omega) w),
    fun L u => u_call u (gd0 rfl) 26 rfl 51 #[(.tmp 25)] #[43] rfl [Value.slice (cutA (some ⟨b, o, none⟩) (c) 1) (32) (c - 1)] rfl (cE51 _) (.tuple [.agg (nc (U)).toArray, Value.bool true].toArray) (fun w hb => r_Big ((hba.keep (Bs.kp_of hb)).cut c 1 32 (by omega) (by omega)) hbU.shift),
    fun L u => u_move u (gd0 rfl) 23 rfl (.tmp 26) (Or.inl rfl) rfl,
    fun L u => u_part u (gd0 rfl) 27 rfl (.tmp 23) 0 rfl (vs := [.agg (nc (U)).toArray, Value.bool true]) rfl _ rfl,
    fun L u => u_part u (gd0 rfl) 28 rfl (.tmp 23) 1 rfl (vs := [.agg (nc (U)).toArray, Value.bool true]) rfl _ rfl,
    fun L u => u_alloc u (gd0 rfl) 24 rfl 4 rfl rfl z24 _ rfl,
    fun L u => u_store u (gd0 rfl) 24 (.tmp 4) (.tmp 27) rfl rfl rfl (vs := nc (U)) rfl rfl i24 (lk rfl) rfl _ rfl,
    fun L u => u_move u (gd0 rfl) 5 rfl (.tmp 28) (Or.inr rfl) rfl,
    trivial⟩ [(0, .val (Value.slice (some ⟨b, o, none⟩) (65) (c))), (2, .ptr 2 0), (4, .ptr 4 0)] [(2, nz ++ nz ++ [Value.bool false]), (4, nc (U))] ⟨rfl, rfl, rfl, trivial⟩ ⟨rfl, rfl, trivial⟩ rfl (fun a w h => ?_)
  refine go_region h hm [eS 30 (.val (Value.slice (some ⟨b, o, none⟩) (65) (c))), eS 31 (.val (Value.slice (cutA (some ⟨b, o, none⟩) (c) 33) (32) (c - 33))), eS 32 (.val (.tuple [.agg (nc (V)).toArray, Value.bool true].toArray)), eS 29 (.val (.tuple [.agg (nc (V)).toArray, Value.bool true].toArray)), eS 33 (.val (.agg (nc (V)).toArray)), eS 34 (.val (Value.bool true)), eN 6 (nz), eM 6 (nc (V)), eS 7 (.val (Value.bool true))] (by kernel_rfl) ⟨
    fun L u => u_move u (gd0 rfl) 30 rfl (.tmp 0) (Or.inl rfl) rfl,
    fun L u => u_part2 u (gd0 rfl) 31 rfl 43 (.tmp 30) (.const (.int .i64 33)) (.const (.int .i64 65)) rfl rfl rfl rfl (.slice (cutA (some ⟨b, o, none⟩) (c) 33) 32 (c - 33)) (fun w => run_midS (k := 33) (m := 65) (by omega) (by omega) w),
    fun L u => u_call u (gd0 rfl) 32 rfl 51 #[(.tmp 31)] #[43] rfl [Value.slice (cutA (some ⟨b, o, none⟩) (c) 33) (32) (c - 33)] rfl (cE51 _) (.tuple [.agg (nc (V)).toArray, Value.bool true].toArray) (fun w hb => r_Big ((hba.keep (Bs.kp_of hb)).cut c 33 32 (by omega) (by omega)) hbV.shift),
    fun L u => u_move u (gd0 rfl) 29 rfl (.tmp 32) (Or.inl rfl) rfl,
    fun L u => u_part u (gd0 rfl) 33 rfl (.tmp 29) 0 rfl (vs := [.agg (nc (V)).toArray, Value.bool true]) rfl _ rfl,
    fun L u => u_part u (gd0 rfl) 34 rfl (.tmp 29) 1 rfl (vs := [.agg (nc (V)).toArray, Value.bool true]) rfl _ rfl,
    fun L u => u_alloc u (gd0 rfl) 24 rfl 6 rfl rfl z24 _ rfl,
    fun L u => u_store u (gd0 rfl) 24 (.tmp 6) (.tmp 33) rfl rfl rfl (vs := nc (V)) rfl rfl i24 (lk rfl) rfl _ rfl,
    fun L u => u_move u (gd0 rfl) 7 rfl (.tmp 34) (Or.inr rfl) rfl,
    trivial⟩ [(0, .val (Value.slice (some ⟨b, o, none⟩) (65) (c))), (2, .ptr 2 0), (4, .ptr 4 0), (6, .ptr 6 0)] [(2, nz ++ nz ++ [Value.bool false]), (4, nc (U)), (6, nc (V))] ⟨rfl, rfl, rfl, rfl, trivial⟩ ⟨rfl, rfl, rfl, trivial⟩ rfl (fun a w h => ?_)
  refine go_region h hm [eS 35 (.val (.agg (nc (U)).toArray)), eS 36 (.val (.agg (nc (V)).toArray)), eS 37 (.val (.agg (nc (U) ++ nc (V) ++ [Value.bool false]).toArray)), eN 8 (nz ++ nz ++ [Value.bool false]), eM 8 (nc (U) ++ nc (V) ++ [Value.bool false])] (by kernel_rfl) ⟨
    fun L u => u_load u (gd0 rfl) 35 rfl 24 (.tmp 4) rfl rfl rfl Tryd.underlying24 rfl i24 (lk rfl) _ rfl,
    fun L u => u_load u (gd0 rfl) 36 rfl 24 (.tmp 6) rfl rfl rfl Tryd.underlying24 rfl i24 (lk rfl) _ rfl,
    fun L u => u_build u (gd0 rfl) 37 rfl 26 #[(0, (.tmp 35)), (1, (.tmp 36))] rfl [(0, .agg (nc (U)).toArray), (1, .agg (nc (V)).toArray)] rfl (nc (U) ++ nc (V) ++ [Value.bool false]) (bPn _ _),
    fun L u => u_alloc u (gd0 rfl) 26 rfl 8 rfl rfl z26 _ rfl,
    fun L u => u_store u (gd0 rfl) 26 (.tmp 8) (.tmp 37) rfl rfl rfl (vs := nc (U) ++ nc (V) ++ [Value.bool false]) rfl rfl i26 (lk rfl) rfl _ rfl,
    trivial⟩ [(0, .val (Value.slice (some ⟨b, o, none⟩) (65) (c))), (2, .ptr 2 0), (8, .ptr 8 0)] [(2, nz ++ nz ++ [Value.bool false]), (8, nc (U) ++ nc (V) ++ [Value.bool false])] ⟨rfl, rfl, rfl, trivial⟩ ⟨rfl, rfl, trivial⟩ rfl (fun a w h => ?_)
  refine wp_seq ?_
  refine go_region h hm [eS 38 (.val (Value.slice (some ⟨b, o, none⟩) (65) (c))), eS 39 (.val (Value.pointer (some ⟨b, o + 0, none⟩))), eS 40 (.val (Value.int .u8 ((f 0 : Nat) : Int))), eS 41 (.val (Value.bool true)), eS 42 (.val (Value.bool true)), eS 43 (.val undef), eS 44 (.val undef), eS 45 (.val undef), eS 46 (.val (Value.bool true))] (by kernel_rfl) ⟨
    fun L u => u_move u (gd0 rfl) 38 rfl (.tmp 0) (Or.inl rfl) rfl,
    fun L u => u_atX u (gd0 rfl) 39 rfl 43 (.tmp 38) (.const (.int .i64 0)) rfl rfl (k := 0) rfl Tryd.underlying43 i5 (by omega) (o + 0) rfl,
    fun L u => u_loadX u (gd0 rfl) 40 rfl 5 (.tmp 39) rfl rfl Tryd.underlying5 rfl (Value.int .u8 ((f 0 : Nat) : Int)) (hrd.c 0 (by omega)) rfl,
    fun L u => u_bin u (gd0 rfl) 41 rfl .neq 5 5 (.tmp 40) (.const (.int .u8 4)) rfl rfl rfl (eqg_int _ _ _ _ _ _ _ _) (Value.bool true) (yes_of (fun w => i_neq _ _ _ _ w) (by omega)),
    fun L u => u_move u (gd0 rfl) 42 rfl (.tmp 41) (Or.inl rfl) rfl,
    fun L u => u_no u 4 false rfl 42 rfl (lk rfl) rfl 43 rfl,
    fun L u => u_no u 4 false rfl 42 rfl (lk rfl) rfl 44 rfl,
    fun L u => u_no u 4 false rfl 42 rfl (lk rfl) rfl 45 rfl,
    fun L u => u_pick u (gd0 rfl) 46 rfl (.tmp 42) (.const (.bool true)) (.tmp 45) rfl rfl rfl rfl _ rfl,
    trivial⟩ [(2, .ptr 2 0), (8, .ptr 8 0), (46, .val (Value.bool true))] [(2, nz ++ nz ++ [Value.bool false]), (8, nc (U) ++ nc (V) ++ [Value.bool false])] ⟨rfl, rfl, rfl, trivial⟩ ⟨rfl, rfl, trivial⟩ rfl (fun a w h => ?_)
  refine go_cond h true rfl (fun ht => ?_) (fun hf => ?_)
  case refine_2 => cases hf
  refine go_region h hm [eS 47 (.val (.agg (nz ++ nz ++ [Value.bool true]).toArray)), eM 2 (nz ++ nz ++ [Value.bool true]), eS 3 (.val (Value.bool false))] (by kernel_rfl) ⟨
    fun L u => u_call u (gd0 rfl) 47 rfl 32 #[] #[] rfl [] rfl (cE32 _) (.agg (nz ++ nz ++ [Value.bool true]).toArray) (fun w hb => r_None),
    fun L u => u_store u (gd0 rfl) 26 (.tmp 2) (.tmp 47) rfl rfl rfl (vs := nz ++ nz ++ [Value.bool true]) rfl rfl i26 (lk rfl) rfl _ rfl,
    fun L u => u_move u (gd0 rfl) 3 rfl (.const (.bool false)) (Or.inr rfl) rfl,
    trivial⟩ [(2, .ptr 2 0), (3, .val (Value.bool false))] [(2, nz ++ nz ++ [Value.bool true])] ⟨rfl, rfl, trivial⟩ ⟨rfl, trivial⟩ rfl (fun a w h => ?_)
  refine wp_ret ?_
  refine then_ret ?_
  refine ret_two h _ _ rfl (ans_row (cs := nz ++ nz ++ [Value.bool true]) 2 (lk rfl) 26 rfl rfl Tryd.underlying26 rfl i26) (ans_tmp (v := Value.bool false) 3 (lk rfl) rfl) ?_
  exact ⟨rfl, h.grows⟩
set_option maxRecDepth 100000 in
set_option maxHeartbeats 4000000 in
theorem r_dec_E {w : World} (hT : Tab w) {b o c : Nat} {f : Nat → Nat} (hba : BA w (some ⟨b, o, none⟩) 65 f) (hrd : Rd w b o 65 (fun i => ((f i : Nat) : Int))) (hc : 65 ≤ c) {U V : Int} (hbU : BN f 1 U) (hbV : BN f 33 V) (h4 : f 0 = 4) (hfm : fmd U V false = false) : Calls Tryd.prog 23 [Value.slice (some ⟨b, o, none⟩) (65) (c)].toArray w fun e w' => e = .returned (.tuple [.agg (nz ++ nz ++ [Value.bool true]).toArray, .bool false].toArray) ∧ Below w.heap.size w w' := by
  refine enter (args := [Value.slice (some ⟨b, o, none⟩) (65) (c)]) Tryd.func23 rfl 49 rfl (lk rfl) (fun a h => ?_)
  refine go_region h hm [eN 2 (nz ++ nz ++ [Value.bool false]), eS 3 (.val (Value.bool false))] (by kernel_rfl) ⟨
    fun L u => u_alloc u (gd0 rfl) 26 rfl 2 rfl rfl z26 _ rfl,
    fun L u => u_move u (gd0 rfl) 3 rfl (.const (.bool false)) (Or.inr rfl) rfl,
    trivial⟩ [(0, .val (Value.slice (some ⟨b, o, none⟩) (65) (c))), (2, .ptr 2 0)] [(2, nz ++ nz ++ [Value.bool false])] ⟨rfl, rfl, trivial⟩ ⟨rfl, trivial⟩ rfl (fun a w h => ?_)
  refine wp_seq ?_
  refine go_region h hm [eS 9 (.val (Value.slice (some ⟨b, o, none⟩) (65) (c))), eS 10 (.val (Value.int .i64 ((65 : Nat) : Int))), eS 11 (.val (Value.bool false)), eS 12 (.val (Value.bool false)), eS 13 (.val undef), eS 14 (.val undef), eS 15 (.val undef), eS 16 (.val undef), eS 17 (.val (Value.bool false))] (by kernel_rfl) ⟨
    fun L u => u_move u (gd0 rfl) 9 rfl (.tmp 0) (Or.inl rfl) rfl,
    fun L u => u_lenV u (gd0 rfl) 10 rfl (.tmp 9) 43 rfl rfl Tryd.underlying43,
    fun L u => u_bin u (gd0 rfl) 11 rfl .eql 3 3 (.tmp 10) (.const (.int .i64 1)) rfl rfl rfl (eqg_int _ _ _ _ _ _ _ _) (Value.bool false) (no_of (fun w => i_eql _ _ _ _ w) (by omega)),
    fun L u => u_move u (gd0 rfl) 12 rfl (.tmp 11) (Or.inl rfl) rfl,
    fun L u => u_no u 3 true rfl 12 rfl (lk rfl) rfl 13 rfl,
    fun L u => u_no u 3 true rfl 12 rfl (lk rfl) rfl 14 rfl,
    fun L u => u_no u 3 true rfl 12 rfl (lk rfl) rfl 15 rfl,
    fun L u => u_no u 3 true rfl 12 rfl (lk rfl) rfl 16 rfl,
    fun L u => u_pick u (gd0 rfl) 17 rfl (.tmp 12) (.tmp 16) (.const (.bool false)) rfl rfl rfl rfl _ rfl,
    trivial⟩ [(0, .val (Value.slice (some ⟨b, o, none⟩) (65) (c))), (2, .ptr 2 0), (17, .val (Value.bool false))] [(2, nz ++ nz ++ [Value.bool false])] ⟨rfl, rfl, rfl, trivial⟩ ⟨rfl, trivial⟩ rfl (fun a w h => ?_)
  refine go_cond h false rfl (fun ht => ?_) (fun hf => ?_)
  case refine_1 => cases ht
  refine wp_skip ?_
  refine then_norm ?_
  refine wp_seq ?_
  refine go_region h hm [eS 19 (.val (Value.slice (some ⟨b, o, none⟩) (65) (c))), eS 20 (.val (Value.int .i64 ((65 : Nat) : Int))), eS 21 (.val (Value.bool false))] (by kernel_rfl) ⟨
    fun L u => u_move u (gd0 rfl) 19 rfl (.tmp 0) (Or.inl rfl) rfl,
    fun L u => u_lenV u (gd0 rfl) 20 rfl (.tmp 19) 43 rfl rfl Tryd.underlying43,
    fun L u => u_bin u (gd0 rfl) 21 rfl .neq 3 3 (.tmp 20) (.const (.int .i64 65)) rfl rfl rfl (eqg_int _ _ _ _ _ _ _ _) (Value.bool false) (no_of (fun w => i_neq _ _ _ _ w) (by omega)),
    trivial⟩ [(0, .val (Value.slice (some ⟨b, o, none⟩) (65) (c))), (2, .ptr 2 0), (21, .val (Value.bool false))] [(2, nz ++ nz ++ [Value.bool false])] ⟨rfl, rfl, rfl, trivial⟩ ⟨rfl, trivial⟩ rfl (fun a w h => ?_)
  refine go_cond h false rfl (fun ht => ?_) (fun hf => ?_)
  case refine_1 => cases ht
  refine wp_skip ?_
  refine then_norm ?_
  refine go_region h hm [eS 24 (.val (Value.slice (some ⟨b, o, none⟩) (65) (c))), eS 25 (.val (Value.slice (cutA (some ⟨b, o, none⟩) (c) 1) (32) (c - 1))), eS 26 (.val (.tuple [.agg (nc (U)).toArray, Value.bool true].toArray)), eS 23 (.val (.tuple [.agg (nc (U)).toArray, Value.bool true].toArray)), eS 27 (.val (.agg (nc (U)).toArray)), eS 28 (.val (Value.bool true)), eN 4 (nz), eM 4 (nc (U)), eS 5 (.val (Value.bool true))] (by kernel_rfl) ⟨
    fun L u => u_move u (gd0 rfl) 24 rfl (.tmp 0) (Or.inl rfl) rfl,
    fun L u => u_part2 u (gd0 rfl) 25 rfl 43 (.tmp 24) (.const (.int .i64 1)) (.const (.int .i64 33)) rfl rfl rfl rfl (.slice (cutA (some ⟨b, o, none⟩) (c) 1) 32 (c - 1)) (fun w => run_midS (k := 1) (m := 33) (by omega) (by omega) w),
    fun L u => u_call u (gd0 rfl) 26 rfl 51 #[(.tmp 25)] #[43] rfl [Value.slice (cutA (some ⟨b, o, none⟩) (c) 1) (32) (c - 1)] rfl (cE51 _) (.tuple [.agg (nc (U)).toArray, Value.bool true].toArray) (fun w hb => r_Big ((hba.keep (Bs.kp_of hb)).cut c 1 32 (by omega) (by omega)) hbU.shift),
    fun L u => u_move u (gd0 rfl) 23 rfl (.tmp 26) (Or.inl rfl) rfl,
    fun L u => u_part u (gd0 rfl) 27 rfl (.tmp 23) 0 rfl (vs := [.agg (nc (U)).toArray, Value.bool true]) rfl _ rfl,
    fun L u => u_part u (gd0 rfl) 28 rfl (.tmp 23) 1 rfl (vs := [.agg (nc (U)).toArray, Value.bool true]) rfl _ rfl,
    fun L u => u_alloc u (gd0 rfl) 24 rfl 4 rfl rfl z24 _ rfl,
    fun L u => u_store u (gd0 rfl) 24 (.tmp 4) (.tmp 27) rfl rfl rfl (vs := nc (U)) rfl rfl i24 (lk rfl) rfl _ rfl,
    fun L u => u_move u (gd0 rfl) 5 rfl (.tmp 28) (Or.inr rfl) rfl,
    trivial⟩ [(0, .val (Value.slice (some ⟨b, o, none⟩) (65) (c))), (2, .ptr 2 0), (4, .ptr 4 0)] [(2, nz ++ nz ++ [Value.bool false]), (4, nc (U))] ⟨rfl, rfl, rfl, trivial⟩ ⟨rfl, rfl, trivial⟩ rfl (fun a w h => ?_)
  refine go_region h hm [eS 30 (.val (Value.slice (some ⟨b, o, none⟩) (65) (c))), eS 31 (.val (Value.slice (cutA (some ⟨b, o, none⟩) (c) 33) (32) (c - 33))), eS 32 (.val (.tuple [.agg (nc (V)).toArray, Value.bool true].toArray)), eS 29 (.val (.tuple [.agg (nc (V)).toArray, Value.bool true].toArray)), eS 33 (.val (.agg (nc (V)).toArray)), eS 34 (.val (Value.bool true)), eN 6 (nz), eM 6 (nc (V)), eS 7 (.val (Value.bool true))] (by kernel_rfl) ⟨
    fun L u => u_move u (gd0 rfl) 30 rfl (.tmp 0) (Or.inl rfl) rfl,
    fun L u => u_part2 u (gd0 rfl) 31 rfl 43 (.tmp 30) (.const (.int .i64 33)) (.const (.int .i64 65)) rfl rfl rfl rfl (.slice (cutA (some ⟨b, o, none⟩) (c) 33) 32 (c - 33)) (fun w => run_midS (k := 33) (m := 65) (by omega) (by omega) w),
    fun L u => u_call u (gd0 rfl) 32 rfl 51 #[(.tmp 31)] #[43] rfl [Value.slice (cutA (some ⟨b, o, none⟩) (c) 33) (32) (c - 33)] rfl (cE51 _) (.tuple [.agg (nc (V)).toArray, Value.bool true].toArray) (fun w hb => r_Big ((hba.keep (Bs.kp_of hb)).cut c 33 32 (by omega) (by omega)) hbV.shift),
    fun L u => u_move u (gd0 rfl) 29 rfl (.tmp 32) (Or.inl rfl) rfl,
    fun L u => u_part u (gd0 rfl) 33 rfl (.tmp 29) 0 rfl (vs := [.agg (nc (V)).toArray, Value.bool true]) rfl _ rfl,
    fun L u => u_part u (gd0 rfl) 34 rfl (.tmp 29) 1 rfl (vs := [.agg (nc (V)).toArray, Value.bool true]) rfl _ rfl,
    fun L u => u_alloc u (gd0 rfl) 24 rfl 6 rfl rfl z24 _ rfl,
    fun L u => u_store u (gd0 rfl) 24 (.tmp 6) (.tmp 33) rfl rfl rfl (vs := nc (V)) rfl rfl i24 (lk rfl) rfl _ rfl,
    fun L u => u_move u (gd0 rfl) 7 rfl (.tmp 34) (Or.inr rfl) rfl,
    trivial⟩ [(0, .val (Value.slice (some ⟨b, o, none⟩) (65) (c))), (2, .ptr 2 0), (4, .ptr 4 0), (6, .ptr 6 0)] [(2, nz ++ nz ++ [Value.bool false]), (4, nc (U)), (6, nc (V))] ⟨rfl, rfl, rfl, rfl, trivial⟩ ⟨rfl, rfl, rfl, trivial⟩ rfl (fun a w h => ?_)
  refine go_region h hm [eS 35 (.val (.agg (nc (U)).toArray)), eS 36 (.val (.agg (nc (V)).toArray)), eS 37 (.val (.agg (nc (U) ++ nc (V) ++ [Value.bool false]).toArray)), eN 8 (nz ++ nz ++ [Value.bool false]), eM 8 (nc (U) ++ nc (V) ++ [Value.bool false])] (by kernel_rfl) ⟨
    fun L u => u_load u (gd0 rfl) 35 rfl 24 (.tmp 4) rfl rfl rfl Tryd.underlying24 rfl i24 (lk rfl) _ rfl,
    fun L u => u_load u (gd0 rfl) 36 rfl 24 (.tmp 6) rfl rfl rfl Tryd.underlying24 rfl i24 (lk rfl) _ rfl,
    fun L u => u_build u (gd0 rfl) 37 rfl 26 #[(0, (.tmp 35)), (1, (.tmp 36))] rfl [(0, .agg (nc (U)).toArray), (1, .agg (nc (V)).toArray)] rfl (nc (U) ++ nc (V) ++ [Value.bool false]) (bPn _ _),
    fun L u => u_alloc u (gd0 rfl) 26 rfl 8 rfl rfl z26 _ rfl,
    fun L u => u_store u (gd0 rfl) 26 (.tmp 8) (.tmp 37) rfl rfl rfl (vs := nc (U) ++ nc (V) ++ [Value.bool false]) rfl rfl i26 (lk rfl) rfl _ rfl,
    trivial⟩ [(0, .val (Value.slice (some ⟨b, o, none⟩) (65) (c))), (2, .ptr 2 0), (8, .ptr 8 0)] [(2, nz ++ nz ++ [Value.bool false]), (8, nc (U) ++ nc (V) ++ [Value.bool false])] ⟨rfl, rfl, rfl, trivial⟩ ⟨rfl, rfl, trivial⟩ rfl (fun a w h => ?_)
  refine wp_seq ?_
  refine go_region h hm [eS 38 (.val (Value.slice (some ⟨b, o, none⟩) (65) (c))), eS 39 (.val (Value.pointer (some ⟨b, o + 0, none⟩))), eS 40 (.val (Value.int .u8 ((f 0 : Nat) : Int))), eS 41 (.val (Value.bool false)), eS 42 (.val (Value.bool false)), eS 43 (.val (.agg (nc (U) ++ nc (V) ++ [Value.bool false]).toArray)), eS 44 (.val (Value.bool false)), eS 45 (.val (Value.bool true)), eS 46 (.val (Value.bool true))] (by kernel_rfl) ⟨
    fun L u => u_move u (gd0 rfl) 38 rfl (.tmp 0) (Or.inl rfl) rfl,
    fun L u => u_atX u (gd0 rfl) 39 rfl 43 (.tmp 38) (.const (.int .i64 0)) rfl rfl (k := 0) rfl Tryd.underlying43 i5 (by omega) (o + 0) rfl,
    fun L u => u_loadX u (gd0 rfl) 40 rfl 5 (.tmp 39) rfl rfl Tryd.underlying5 rfl (Value.int .u8 ((f 0 : Nat) : Int)) (hrd.c 0 (by omega)) rfl,
    fun L u => u_bin u (gd0 rfl) 41 rfl .neq 5 5 (.tmp 40) (.const (.int .u8 4)) rfl rfl rfl (eqg_int _ _ _ _ _ _ _ _) (Value.bool false) (no_of (fun w => i_neq _ _ _ _ w) (by omega)),
    fun L u => u_move u (gd0 rfl) 42 rfl (.tmp 41) (Or.inl rfl) rfl,
    fun L u => u_load u (gd1 u 4 false rfl 42 rfl (lk rfl) rfl) 43 rfl 26 (.tmp 8) rfl rfl rfl Tryd.underlying26 rfl i26 (lk rfl) _ rfl,
    fun L u => u_call u (gd1 u 4 false rfl 42 rfl (lk rfl) rfl) 44 rfl 11 #[(.tmp 43)] #[26] rfl [.agg (nc (U) ++ nc (V) ++ [Value.bool false]).toArray] rfl (cE11 _) (Value.bool false) (fun w hb => by have g := r_Formed (hT.keep (Bs.kp_of hb)) hbU.num hbV.num false; rw [hfm] at g; exact g),
    fun L u => u_not u (gd1 u 4 false rfl 42 rfl (lk rfl) rfl) 45 rfl 4 (.tmp 44) rfl rfl _ rfl,
    fun L u => u_pick u (gd0 rfl) 46 rfl (.tmp 42) (.const (.bool true)) (.tmp 45) rfl rfl rfl rfl _ rfl,
    trivial⟩ [(2, .ptr 2 0), (8, .ptr 8 0), (46, .val (Value.bool true))] [(2, nz ++ nz ++ [Value.bool false]), (8, nc (U) ++ nc (V) ++ [Value.bool false])] ⟨rfl, rfl, rfl, trivial⟩ ⟨rfl, rfl, trivial⟩ rfl (fun a w h => ?_)
  refine go_cond h true rfl (fun ht => ?_) (fun hf => ?_)
  case refine_2 => cases hf
  refine go_region h hm [eS 47 (.val (.agg (nz ++ nz ++ [Value.bool true]).toArray)), eM 2 (nz ++ nz ++ [Value.bool true]), eS 3 (.val (Value.bool false))] (by kernel_rfl) ⟨
    fun L u => u_call u (gd0 rfl) 47 rfl 32 #[] #[] rfl [] rfl (cE32 _) (.agg (nz ++ nz ++ [Value.bool true]).toArray) (fun w hb => r_None),
    fun L u => u_store u (gd0 rfl) 26 (.tmp 2) (.tmp 47) rfl rfl rfl (vs := nz ++ nz ++ [Value.bool true]) rfl rfl i26 (lk rfl) rfl _ rfl,
    fun L u => u_move u (gd0 rfl) 3 rfl (.const (.bool false)) (Or.inr rfl) rfl,
    trivial⟩ [(2, .ptr 2 0), (3, .val (Value.bool false))] [(2, nz ++ nz ++ [Value.bool true])] ⟨rfl, rfl, trivial⟩ ⟨rfl, trivial⟩ rfl (fun a w h => ?_)
  refine wp_ret ?_
  refine then_ret ?_
  refine ret_two h _ _ rfl (ans_row (cs := nz ++ nz ++ [Value.bool true]) 2 (lk rfl) 26 rfl rfl Tryd.underlying26 rfl i26) (ans_tmp (v := Value.bool false) 3 (lk rfl) rfl) ?_
  exact ⟨rfl, h.grows⟩
set_option maxRecDepth 100000 in
set_option maxHeartbeats 4000000 in
theorem r_dec_F {w : World} (hT : Tab w) {b o c : Nat} {f : Nat → Nat} (hba : BA w (some ⟨b, o, none⟩) 65 f) (hrd : Rd w b o 65 (fun i => ((f i : Nat) : Int))) (hc : 65 ≤ c) {U V : Int} (hbU : BN f 1 U) (hbV : BN f 33 V) (h4 : f 0 = 4) (hfm : fmd U V false = true) : Calls Tryd.prog 23 [Value.slice (some ⟨b, o, none⟩) (65) (c)].toArray w fun e w' => e = .returned (.tuple [.agg (rc U V false).toArray, .bool true].toArray) ∧ Below w.heap.size w w' := by
  refine enter (args := [Value.slice (some ⟨b, o, none⟩) (65) (c)]) Tryd.func23 rfl 49 rfl (lk rfl) (fun a h => ?_)
  refine go_region h hm [eN 2 (nz ++ nz ++ [Value.bool false]), eS 3 (.val (Value.bool false))] (by kernel_rfl) ⟨
    fun L u => u_alloc u (gd0 rfl) 26 rfl 2 rfl rfl z26 _ rfl,
    fun L u => u_move u (gd0 rfl) 3 rfl (.const (.bool false)) (Or.inr rfl) rfl,
    trivial⟩ [(0, .val (Value.slice (some ⟨b, o, none⟩) (65) (c))), (2, .ptr 2 0)] [(2, nz ++ nz ++ [Value.bool false])] ⟨rfl, rfl, trivial⟩ ⟨rfl, trivial⟩ rfl (fun a w h => ?_)
  refine wp_seq ?_
  refine go_region h hm [eS 9 (.val (Value.slice (some ⟨b, o, none⟩) (65) (c))), eS 10 (.val (Value.int .i64 ((65 : Nat) : Int))), eS 11 (.val (Value.bool false)), eS 12 (.val (Value.bool false)), eS 13 (.val undef), eS 14 (.val undef), eS 15 (.val undef), eS 16 (.val undef), eS 17 (.val (Value.bool false))] (by kernel_rfl) ⟨
    fun L u => u_move u (gd0 rfl) 9 rfl (.tmp 0) (Or.inl rfl) rfl,
    fun L u => u_lenV u (gd0 rfl) 10 rfl (.tmp 9) 43 rfl rfl Tryd.underlying43,
    fun L u => u_bin u (gd0 rfl) 11 rfl .eql 3 3 (.tmp 10) (.const (.int .i64 1)) rfl rfl rfl (eqg_int _ _ _ _ _ _ _ _) (Value.bool false) (no_of (fun w => i_eql _ _ _ _ w) (by omega)),
    fun L u => u_move u (gd0 rfl) 12 rfl (.tmp 11) (Or.inl rfl) rfl,
    fun L u => u_no u 3 true rfl 12 rfl (lk rfl) rfl 13 rfl,
    fun L u => u_no u 3 true rfl 12 rfl (lk rfl) rfl 14 rfl,
    fun L u => u_no u 3 true rfl 12 rfl (lk rfl) rfl 15 rfl,
    fun L u => u_no u 3 true rfl 12 rfl (lk rfl) rfl 16 rfl,
    fun L u => u_pick u (gd0 rfl) 17 rfl (.tmp 12) (.tmp 16) (.const (.bool false)) rfl rfl rfl rfl _ rfl,
    trivial⟩ [(0, .val (Value.slice (some ⟨b, o, none⟩) (65) (c))), (2, .ptr 2 0), (17, .val (Value.bool false))] [(2, nz ++ nz ++ [Value.bool false])] ⟨rfl, rfl, rfl, trivial⟩ ⟨rfl, trivial⟩ rfl (fun a w h => ?_)
  refine go_cond h false rfl (fun ht => ?_) (fun hf => ?_)
  case refine_1 => cases ht
  refine wp_skip ?_
  refine then_norm ?_
  refine wp_seq ?_
  refine go_region h hm [eS 19 (.val (Value.slice (some ⟨b, o, none⟩) (65) (c))), eS 20 (.val (Value.int .i64 ((65 : Nat) : Int))), eS 21 (.val (Value.bool false))] (by kernel_rfl) ⟨
    fun L u => u_move u (gd0 rfl) 19 rfl (.tmp 0) (Or.inl rfl) rfl,
    fun L u => u_lenV u (gd0 rfl) 20 rfl (.tmp 19) 43 rfl rfl Tryd.underlying43,
    fun L u => u_bin u (gd0 rfl) 21 rfl .neq 3 3 (.tmp 20) (.const (.int .i64 65)) rfl rfl rfl (eqg_int _ _ _ _ _ _ _ _) (Value.bool false) (no_of (fun w => i_neq _ _ _ _ w) (by omega)),
    trivial⟩ [(0, .val (Value.slice (some ⟨b, o, none⟩) (65) (c))), (2, .ptr 2 0), (21, .val (Value.bool false))] [(2, nz ++ nz ++ [Value.bool false])] ⟨rfl, rfl, rfl, trivial⟩ ⟨rfl, trivial⟩ rfl (fun a w h => ?_)
  refine go_cond h false rfl (fun ht => ?_) (fun hf => ?_)
  case refine_1 => cases ht
  refine wp_skip ?_
  refine then_norm ?_
  refine go_region h hm [eS 24 (.val (Value.slice (some ⟨b, o, none⟩) (65) (c))), eS 25 (.val (Value.slice (cutA (some ⟨b, o, none⟩) (c) 1) (32) (c - 1))), eS 26 (.val (.tuple [.agg (nc (U)).toArray, Value.bool true].toArray)), eS 23 (.val (.tuple [.agg (nc (U)).toArray, Value.bool true].toArray)), eS 27 (.val (.agg (nc (U)).toArray)), eS 28 (.val (Value.bool true)), eN 4 (nz), eM 4 (nc (U)), eS 5 (.val (Value.bool true))] (by kernel_rfl) ⟨
    fun L u => u_move u (gd0 rfl) 24 rfl (.tmp 0) (Or.inl rfl) rfl,
    fun L u => u_part2 u (gd0 rfl) 25 rfl 43 (.tmp 24) (.const (.int .i64 1)) (.const (.int .i64 33)) rfl rfl rfl rfl (.slice (cutA (some ⟨b, o, none⟩) (c) 1) 32 (c - 1)) (fun w => run_midS (k := 1) (m := 33) (by omega) (by omega) w),
    fun L u => u_call u (gd0 rfl) 26 rfl 51 #[(.tmp 25)] #[43] rfl [Value.slice (cutA (some ⟨b, o, none⟩) (c) 1) (32) (c - 1)] rfl (cE51 _) (.tuple [.agg (nc (U)).toArray, Value.bool true].toArray) (fun w hb => r_Big ((hba.keep (Bs.kp_of hb)).cut c 1 32 (by omega) (by omega)) hbU.shift),
    fun L u => u_move u (gd0 rfl) 23 rfl (.tmp 26) (Or.inl rfl) rfl,
    fun L u => u_part u (gd0 rfl) 27 rfl (.tmp 23) 0 rfl (vs := [.agg (nc (U)).toArray, Value.bool true]) rfl _ rfl,
    fun L u => u_part u (gd0 rfl) 28 rfl (.tmp 23) 1 rfl (vs := [.agg (nc (U)).toArray, Value.bool true]) rfl _ rfl,
    fun L u => u_alloc u (gd0 rfl) 24 rfl 4 rfl rfl z24 _ rfl,
    fun L u => u_store u (gd0 rfl) 24 (.tmp 4) (.tmp 27) rfl rfl rfl (vs := nc (U)) rfl rfl i24 (lk rfl) rfl _ rfl,
    fun L u => u_move u (gd0 rfl) 5 rfl (.tmp 28) (Or.inr rfl) rfl,
    trivial⟩ [(0, .val (Value.slice (some ⟨b, o, none⟩) (65) (c))), (2, .ptr 2 0), (4, .ptr 4 0)] [(2, nz ++ nz ++ [Value.bool false]), (4, nc (U))] ⟨rfl, rfl, rfl, trivial⟩ ⟨rfl, rfl, trivial⟩ rfl (fun a w h => ?_)
  refine go_region h hm [eS 30 (.val (Value.slice (some ⟨b, o, none⟩) (65) (c))), eS 31 (.val (Value.slice (cutA (some ⟨b, o, none⟩) (c) 33) (32) (c - 33))), eS 32 (.val (.tuple [.agg (nc (V)).toArray, Value.bool true].toArray)), eS 29 (.val (.tuple [.agg (nc (V)).toArray, Value.bool true].toArray)), eS 33 (.val (.agg (nc (V)).toArray)), eS 34 (.val (Value.bool true)), eN 6 (nz), eM 6 (nc (V)), eS 7 (.val (Value.bool true))] (by kernel_rfl) ⟨
    fun L u => u_move u (gd0 rfl) 30 rfl (.tmp 0) (Or.inl rfl) rfl,
    fun L u => u_part2 u (gd0 rfl) 31 rfl 43 (.tmp 30) (.const (.int .i64 33)) (.const (.int .i64 65)) rfl rfl rfl rfl (.slice (cutA (some ⟨b, o, none⟩) (c) 33) 32 (c - 33)) (fun w => run_midS (k := 33) (m := 65) (by omega) (by omega) w),
    fun L u => u_call u (gd0 rfl) 32 rfl 51 #[(.tmp 31)] #[43] rfl [Value.slice (cutA (some ⟨b, o, none⟩) (c) 33) (32) (c - 33)] rfl (cE51 _) (.tuple [.agg (nc (V)).toArray, Value.bool true].toArray) (fun w hb => r_Big ((hba.keep (Bs.kp_of hb)).cut c 33 32 (by omega) (by omega)) hbV.shift),
    fun L u => u_move u (gd0 rfl) 29 rfl (.tmp 32) (Or.inl rfl) rfl,
    fun L u => u_part u (gd0 rfl) 33 rfl (.tmp 29) 0 rfl (vs := [.agg (nc (V)).toArray, Value.bool true]) rfl _ rfl,
    fun L u => u_part u (gd0 rfl) 34 rfl (.tmp 29) 1 rfl (vs := [.agg (nc (V)).toArray, Value.bool true]) rfl _ rfl,
    fun L u => u_alloc u (gd0 rfl) 24 rfl 6 rfl rfl z24 _ rfl,
    fun L u => u_store u (gd0 rfl) 24 (.tmp 6) (.tmp 33) rfl rfl rfl (vs := nc (V)) rfl rfl i24 (lk rfl) rfl _ rfl,
    fun L u => u_move u (gd0 rfl) 7 rfl (.tmp 34) (Or.inr rfl) rfl,
    trivial⟩ [(0, .val (Value.slice (some ⟨b, o, none⟩) (65) (c))), (2, .ptr 2 0), (4, .ptr 4 0), (6, .ptr 6 0)] [(2, nz ++ nz ++ [Value.bool false]), (4, nc (U)), (6, nc (V))] ⟨rfl, rfl, rfl, rfl, trivial⟩ ⟨rfl, rfl, rfl, trivial⟩ rfl (fun a w h => ?_)
  refine go_region h hm [eS 35 (.val (.agg (nc (U)).toArray)), eS 36 (.val (.agg (nc (V)).toArray)), eS 37 (.val (.agg (nc (U) ++ nc (V) ++ [Value.bool false]).toArray)), eN 8 (nz ++ nz ++ [Value.bool false]), eM 8 (nc (U) ++ nc (V) ++ [Value.bool false])] (by kernel_rfl) ⟨
    fun L u => u_load u (gd0 rfl) 35 rfl 24 (.tmp 4) rfl rfl rfl Tryd.underlying24 rfl i24 (lk rfl) _ rfl,
    fun L u => u_load u (gd0 rfl) 36 rfl 24 (.tmp 6) rfl rfl rfl Tryd.underlying24 rfl i24 (lk rfl) _ rfl,
    fun L u => u_build u (gd0 rfl) 37 rfl 26 #[(0, (.tmp 35)), (1, (.tmp 36))] rfl [(0, .agg (nc (U)).toArray), (1, .agg (nc (V)).toArray)] rfl (nc (U) ++ nc (V) ++ [Value.bool false]) (bPn _ _),
    fun L u => u_alloc u (gd0 rfl) 26 rfl 8 rfl rfl z26 _ rfl,
    fun L u => u_store u (gd0 rfl) 26 (.tmp 8) (.tmp 37) rfl rfl rfl (vs := nc (U) ++ nc (V) ++ [Value.bool false]) rfl rfl i26 (lk rfl) rfl _ rfl,
    trivial⟩ [(0, .val (Value.slice (some ⟨b, o, none⟩) (65) (c))), (2, .ptr 2 0), (8, .ptr 8 0)] [(2, nz ++ nz ++ [Value.bool false]), (8, nc (U) ++ nc (V) ++ [Value.bool false])] ⟨rfl, rfl, rfl, trivial⟩ ⟨rfl, rfl, trivial⟩ rfl (fun a w h => ?_)
  refine wp_seq ?_
  refine go_region h hm [eS 38 (.val (Value.slice (some ⟨b, o, none⟩) (65) (c))), eS 39 (.val (Value.pointer (some ⟨b, o + 0, none⟩))), eS 40 (.val (Value.int .u8 ((f 0 : Nat) : Int))), eS 41 (.val (Value.bool false)), eS 42 (.val (Value.bool false)), eS 43 (.val (.agg (nc (U) ++ nc (V) ++ [Value.bool false]).toArray)), eS 44 (.val (Value.bool true)), eS 45 (.val (Value.bool false)), eS 46 (.val (Value.bool false))] (by kernel_rfl) ⟨
    fun L u => u_move u (gd0 rfl) 38 rfl (.tmp 0) (Or.inl rfl) rfl,
    fun L u => u_atX u (gd0 rfl) 39 rfl 43 (.tmp 38) (.const (.int .i64 0)) rfl rfl (k := 0) rfl Tryd.underlying43 i5 (by omega) (o + 0) rfl,
    fun L u => u_loadX u (gd0 rfl) 40 rfl 5 (.tmp 39) rfl rfl Tryd.underlying5 rfl (Value.int .u8 ((f 0 : Nat) : Int)) (hrd.c 0 (by omega)) rfl,
    fun L u => u_bin u (gd0 rfl) 41 rfl .neq 5 5 (.tmp 40) (.const (.int .u8 4)) rfl rfl rfl (eqg_int _ _ _ _ _ _ _ _) (Value.bool false) (no_of (fun w => i_neq _ _ _ _ w) (by omega)),
    fun L u => u_move u (gd0 rfl) 42 rfl (.tmp 41) (Or.inl rfl) rfl,
    fun L u => u_load u (gd1 u 4 false rfl 42 rfl (lk rfl) rfl) 43 rfl 26 (.tmp 8) rfl rfl rfl Tryd.underlying26 rfl i26 (lk rfl) _ rfl,
    fun L u => u_call u (gd1 u 4 false rfl 42 rfl (lk rfl) rfl) 44 rfl 11 #[(.tmp 43)] #[26] rfl [.agg (nc (U) ++ nc (V) ++ [Value.bool false]).toArray] rfl (cE11 _) (Value.bool true) (fun w hb => by have g := r_Formed (hT.keep (Bs.kp_of hb)) hbU.num hbV.num false; rw [hfm] at g; exact g),
    fun L u => u_not u (gd1 u 4 false rfl 42 rfl (lk rfl) rfl) 45 rfl 4 (.tmp 44) rfl rfl _ rfl,
    fun L u => u_pick u (gd0 rfl) 46 rfl (.tmp 42) (.const (.bool true)) (.tmp 45) rfl rfl rfl rfl _ rfl,
    trivial⟩ [(2, .ptr 2 0), (8, .ptr 8 0), (46, .val (Value.bool false))] [(2, nz ++ nz ++ [Value.bool false]), (8, nc (U) ++ nc (V) ++ [Value.bool false])] ⟨rfl, rfl, rfl, trivial⟩ ⟨rfl, rfl, trivial⟩ rfl (fun a w h => ?_)
  refine go_cond h false rfl (fun ht => ?_) (fun hf => ?_)
  case refine_1 => cases ht
  refine wp_skip ?_
  refine then_norm ?_
  refine go_region h hm [eS 48 (.val (.agg (nc (U) ++ nc (V) ++ [Value.bool false]).toArray)), eM 2 (nc (U) ++ nc (V) ++ [Value.bool false]), eS 3 (.val (Value.bool true))] (by kernel_rfl) ⟨
    fun L u => u_load u (gd0 rfl) 48 rfl 26 (.tmp 8) rfl rfl rfl Tryd.underlying26 rfl i26 (lk rfl) _ rfl,
    fun L u => u_store u (gd0 rfl) 26 (.tmp 2) (.tmp 48) rfl rfl rfl (vs := nc (U) ++ nc (V) ++ [Value.bool false]) rfl rfl i26 (lk rfl) rfl _ rfl,
    fun L u => u_move u (gd0 rfl) 3 rfl (.const (.bool true)) (Or.inr rfl) rfl,
    trivial⟩ [(2, .ptr 2 0), (3, .val (Value.bool true))] [(2, nc (U) ++ nc (V) ++ [Value.bool false])] ⟨rfl, rfl, trivial⟩ ⟨rfl, trivial⟩ rfl (fun a w h => ?_)
  refine wp_ret ?_
  refine ret_two h _ _ rfl (ans_row (cs := nc (U) ++ nc (V) ++ [Value.bool false]) 2 (lk rfl) 26 rfl rfl Tryd.underlying26 rfl i26) (ans_tmp (v := Value.bool true) 3 (lk rfl) rfl) ?_
  exact ⟨rfl, h.grows⟩
end Go.Proofs.YtimaaendbfjblaaDoor
namespace Go.Proofs.YtimaaendbfjblaaDoor
open Go.RowKit

def seqFrom : Nat → List Oper → Bool
  | _, [] => true
  | k, o :: os => lessAll k (deps o) && seqFrom (k + 1) os
theorem seq_spec : ∀ {k : Nat} {os : List Oper}, seqFrom k os = true → ∀ j o, os[j]? = some o → ∀ d ∈ deps o, d < k + j
  | k, [], _, j, o, ho, _, _ => by simp at ho
  | k, o' :: os, h, j, o, ho, d, hd => by
    simp only [seqFrom, Bool.and_eq_true] at h
    cases j with
    | zero =>
      simp at ho
      subst ho
      exact lessAll_spec h.1 d hd
    | succ j =>
      have := seq_spec h.2 j o (by simpa using ho) d hd
      omega
theorem up_seq {ops : Array Oper} {i : Nat} {o : Oper} (hs : seqFrom 0 ops.toList = true) (ho : ops[i]? = some o) : Up ops i o (fun j => decide (j < i)) := by
  refine ⟨by simp, fun j hj => ?_, fun k ok hk hLk j hj => ?_⟩
  · have := seq_spec hs i o (by simpa using ho) j hj
    simp; omega
  · have := seq_spec hs k ok (by simpa using hk) j hj
    simp only [decide_eq_true_eq] at hLk ⊢
    omega
section
variable {P : Program} {W : Bs} {n : Nat} {ops : Array Oper} {i : Nat} {o : Oper} {σ σ' : SS} {Q : Exit → Act → World → Prop} {rest : List Nat} {a : Act} {w : World}
theorem sq_begin {id : Nat} (l : List Nat) (hl : List.range ops.size = l) (h : wpOps P ops Q l a w) : (Code.region id ops false).wp P Q a w := wp_region (by rw [hl]; exact h)
theorem sq_end (h : Q .normal a w) : wpOps P ops Q [] a w := h
theorem sq_step (h : Rp W n σ a w) (ho : ops[i]? = some o) (hg : GStep P W n ops o σ σ') (hk : ∀ a w, Rp W n σ' a w → wpOps P ops Q rest a w) : wpOps P ops Q (i :: rest) a w := by
  rw [wpOps_cons]
  refine wpOp_step ho (fun K' hK => ?_)
  have g := hg a w Q h
  split
  · rename_i hw
    rw [if_pos hw] at g
    exact Oper.wp_mono (fun a' w' hR' => hK a' w' (hk a' w' hR')) g
  · rename_i hw
    rw [if_neg hw] at g
    exact hK _ _ (hk _ _ g)
end
/-- The world behind a call takes the place of the one at the beginning: what was made before the call may be written, what it made may not. -/
def Bs.re (W : Bs) (w w' : World) : Bs := ⟨w', fun k => W.X k || (Nat.ble W.w.heap.size k && Nat.blt k w.heap.size)⟩
theorem re_kp {W : Bs} {w w' w2 : World} (h1 : W.kp w') (h : (W.re w w').kp w2) : W.kp w2 := by
  have h1 : Kp W.X W.w w' := h1
  have h : Kp (fun k => W.X k || (Nat.ble W.w.heap.size k && Nat.blt k w.heap.size)) w' w2 := h
  refine ⟨h.os.trans h1.os, h.tape.trans h1.tape, h.output.trans h1.output, Nat.le_trans h1.size h.size, fun k hk hx => ?_⟩
  rw [h.block k (Nat.lt_of_lt_of_le hk h1.size) (by
    have : Nat.ble W.w.heap.size k = false := by
      cases hb : Nat.ble W.w.heap.size k with
      | false => rfl
      | true => have := Nat.le_of_ble_eq_true hb; omega
    simp only [hx, this, Bool.false_and, Bool.or_false])]
  exact h1.block k hk hx
/-- Blocks that the call made are kept. -/
theorem re_new {W : Bs} {w w' : World} (hX : ∀ k, W.X k = true → k < W.w.heap.size) (hs : W.w.heap.size ≤ w.heap.size) {g : Nat} (hg : w.heap.size ≤ g) : (W.re w w').X g = false := by
  show (W.X g || (Nat.ble W.w.heap.size g && Nat.blt g w.heap.size)) = false
  have h1 : W.X g = false := by
    cases h : W.X g with
    | false => rfl
    | true => have := hX g h; omega
  have h2 : Nat.blt g w.heap.size = false := by
    cases h : Nat.blt g w.heap.size with
    | false => rfl
    | true => have := Nat.blt_eq ▸ h; omega
  rw [h1, h2, Bool.and_false, Bool.or_false]
theorem re_X {W : Bs} {w w' : World} (hX : ∀ k, W.X k = true → k < W.w.heap.size) (hs : W.w.heap.size ≤ w.heap.size) (hs2 : w.heap.size ≤ w'.heap.size) : ∀ k, (W.re w w').X k = true → k < (W.re w w').w.heap.size := by
  intro k hk
  have hk : (W.X k || (Nat.ble W.w.heap.size k && Nat.blt k w.heap.size)) = true := hk
  show k < w'.heap.size
  rcases Bool.or_eq_true _ _ ▸ hk with h | h
  · have := hX k h; omega
  · have h2 : Nat.blt k w.heap.size = true := by
      cases hb : Nat.blt k w.heap.size with
      | true => rfl
      | false => rw [hb, Bool.and_false] at h; cases h
    have := (Nat.blt_eq ▸ h2 : k < w.heap.size)
    omega
theorem Rep.re {W : Bs} {n : Nat} {β : Nat → Nat} {σ : SS} {a : Act} {w w' : World} (h : Rep W n β σ a w) (hb : Below w.heap.size w w') : Rep (W.re w w') n β σ a w' := by
  have g := h.grow hb
  refine ⟨g.df, g.sz, g.sl, Kp.refl _ _, fun x cs hx => ?_, g.ne, g.pt⟩
  obtain ⟨h1, h2, _, _⟩ := h.va x cs hx
  obtain ⟨_, g2, g3, g4⟩ := g.va x cs hx
  refine ⟨Or.inr ?_, g2, g3, g4⟩
  show (W.X (β x) || (Nat.ble W.w.heap.size (β x) && Nat.blt (β x) w.heap.size)) = true
  rcases h1 with h1 | h1
  · have e1 : Nat.ble W.w.heap.size (β x) = true := Nat.ble_eq ▸ h1
    have e2 : Nat.blt (β x) w.heap.size = true := Nat.blt_eq ▸ h2
    rw [e1, e2]
    simp
  · rw [h1]
    rfl
section
variable {P : Program} {W : Bs} {n : Nat} {ops : Array Oper} {i : Nat} {o : Oper} {σ : SS} {Q : Exit → Act → World → Prop} {rest : List Nat} {a : Act} {w : World}
/-- A call that only makes memory; what it answers is told by R. -/
theorem sq_call (h : Rp W n σ a w) (HX : ∀ k, W.X k = true → k < W.w.heap.size) (ho : ops[i]? = some o) (hg : Gd ops n o σ) (dd : Nat) (hdd : o.dst = some dd) (F : Nat) (ar : Array Operand) (ts : Array TypeId) (hop : o.op = .call { callee := .value (.func F), args := ar, argTypes := ts }) (vs : List Value) (hx : ar.toList.map (σ.ev n) = vs.map (fun v => some (SV.val v))) (hE : ∀ w, (callFunc F vs.toArray).run P w = .ok (.enter F vs.toArray) w) (R : Value → World → World → Prop)
    (hC : W.kp w → Calls P F vs.toArray w fun e w' => ∃ r, e = .returned r ∧ R r w w' ∧ Below w.heap.size w w')
    (hk : ∀ (r : Value) (a' : Act) (w' : World) (W2 : Bs), R r w w' → (∀ w2, W2.kp w2 → W.kp w2) → (∀ k, w.heap.size ≤ k → W2.X k = false) → (∀ k, W2.X k = true → k < W2.w.heap.size) → W2.w = w' → Rp W2 n (σ.set (some dd) (.val r)) a' w' → wpOps P ops Q rest a' w') : wpOps P ops Q (i :: rest) a w := by
  obtain ⟨β, hr⟩ := h
  rw [wpOps_cons]
  refine wpOp_step ho (fun K' hK => ?_)
  have hw : Region.wanted o (yielded ops a.tmps) = true := by
    cases hgd : o.guard with
    | none => simp [Region.wanted, hgd]
    | some q =>
      obtain ⟨j, b⟩ := q
      have := yes_eq ⟨β, hr⟩ (hg j b hgd)
      simp [Region.wanted, hgd, this]
  rw [if_pos hw]
  have hf : a.eval (.func F) = .func (.func F) #[] #[] := rfl
  have key : ∀ (l : List Operand) (vs : List Value), l.map (σ.ev n) = vs.map (fun v => some (SV.val v)) → l.map a.eval = vs := by
    intro l
    induction l with
    | nil => intro vs h; cases vs with
      | nil => rfl
      | cons v vs => simp at h
    | cons x l ih => intro vs h; cases vs with
      | nil => simp at h
      | cons v vs =>
        simp only [List.map_cons, List.cons.injEq] at h ⊢
        exact ⟨hr.eval h.1, ih vs h.2⟩
  have hxs : ar.map a.eval = vs.toArray := Array.toList_inj.1 (by rw [Array.toList_map]; exact key ar.toList vs hx)
  unfold Oper.wp execOp
  simp only [hop, resolve, invoke, hf, Deferred.ofValue, hxs, Sem.run_bind, Sem.run_pure, Result.andThen_ok]
  rw [show (#[] ++ vs.toArray ++ #[] : Array Value) = vs.toArray by simp, hE, Oper.upon_enter]
  refine Calls.mono (hC hr.bl) ?_
  rintro e w' ⟨r, rfl, hR, hb⟩
  refine hK _ _ (hk r _ w' (W.re w w') hR (fun w2 h2 => re_kp (Kp.grow hr.bl hb) h2) (fun k hk => re_new HX (Kp.size hr.bl) hk) (re_X HX (Kp.size hr.bl) hb.size) rfl ⟨β, ?_⟩)
  have := (hr.re hb).put (some dd) (.val r) val_hp
  rw [hdd]
  exact this
theorem gq0 (h : o.guard = none) : Gd ops n o σ := fun j b e => by rw [h] at e; cases e
theorem gq1 (j : Nat) (b : Bool) (h : o.guard = some (j, b)) (hy : σ.yes ops n j = some b) : Gd ops n o σ := fun j' b' e => by rw [h] at e; cases e; exact hy
end
theorem Rd.kpx {X : Nat → Bool} {W w : World} {b o n : Nat} {f : Nat → Int} (hk : Kp X W w) (h : Rd W b o n f) (hx : X b = false) : Rd w b o n f :=
  ⟨fun i hi => by
    have hc := h.c i hi
    rw [Kp.cell hk (World.block_lt_of_cell? W _ hc) hx]
    exact hc⟩
theorem BA.kpx {X : Nat → Bool} {W w : World} {a : Option Addr} {n : Nat} {f : Nat → Nat} (hk : Kp X W w) (h : BA W a n f) (hx : ∀ p, a = some p → X p.block = false) : BA w a n f :=
  ⟨h.lt, h.at_.elim Or.inl fun ⟨b, o, e, hr⟩ => Or.inr ⟨b, o, e, hr.kpx hk (hx _ e)⟩⟩
theorem BA.re {W2 : Bs} {w' w2 : World} {a : Option Addr} {n : Nat} {f : Nat → Nat} (hw : W2.w = w') (h2 : W2.kp w2) (h : BA w' a n f) (hx : ∀ p, a = some p → W2.X p.block = false) : BA w2 a n f := by
  subst hw
  exact BA.kpx h2 h hx
end Go.Proofs.YtimaaendbfjblaaDoor
namespace Go.Proofs.YtimaaendbfjblaaDoor

/-- Two lists of n bytes are the same. -/
def sameB (f g : Nat → Int) (n : Nat) : Bool := decide (∀ i, i < n → f i = g i)
theorem same_no {f g : Nat → Int} {n k : Nat} (h : k < n) (hne : f k ≠ g k) : sameB f g n = false := by
  unfold sameB
  rw [decide_eq_false_iff_not]
  exact fun hh => hne (hh k h)
theorem same_yes {f g : Nat → Int} {n : Nat} (h : ∀ i, i < n → f i = g i) : sameB f g n = true := decide_eq_true h

end Go.Proofs.YtimaaendbfjblaaDoor
namespace Go.Proofs.YtimaaendbfjblaaDoor
open Go.RowKit
attribute [local go_sem ↓] Go.wp_at_zero Go.wp_at_succ

set_option maxHeartbeats 1000000 in
theorem same_len (a1 a2 : Option Addr) (n1 n2 c1 c2 : Nat) (h : n1 ≠ n2) (w : World) :
    Calls Tryd.prog 25 #[.slice a1 n1 c1, .slice a2 n2 c2] w fun e w' => e = .returned (.bool false) ∧ w' = w := by
  have hb : ((n1 : Int) == (n2 : Int)) = false := beq_eq_false_iff_ne.2 (by omega)
  go_enter Tryd.func25, Tryd.ntmps25
  go_wp2_with fail
  go_ret
  exact ⟨rfl, rfl⟩
set_option maxHeartbeats 1000000 in
theorem same_none (a1 a2 : Option Addr) (c1 c2 : Nat) (w : World) :
    Calls Tryd.prog 25 #[.slice a1 0 c1, .slice a2 0 c2] w fun e w' => e = .returned (.bool true) ∧ w' = w := by
  go_enter Tryd.func25, Tryd.ntmps25
  go_wp2_with fail
  refine wp_loop_rounds 1 ?_
  rw [rounds_succ]
  go_wp2_with fail
  go_ret
  exact ⟨rfl, rfl⟩

set_option maxHeartbeats 2000000 in
theorem same_any {b o c b2 o2 c2 n : Nat} {f g : Nat → Int} (hn : n ≤ 1000000) {w : World} (h1 : Rd w b o n f) (h2 : Rd w b2 o2 n g) :
    Calls Tryd.prog 25 #[.slice (some ⟨b, o, none⟩) n c, .slice (some ⟨b2, o2, none⟩) n c2] w fun e w' => e = .returned (.bool (sameB f g n)) ∧ Below w.heap.size w w' := by
  have H1 : Hid (Rd w b o n f) := h1
  have H2 : Hid (Rd w b2 o2 n g) := h2
  clear h1 h2
  go_enter Tryd.func25, Tryd.ntmps25
  go_wp2_with fail
  go_loopg [5] n (fun gh s wr => ∃ k : Nat, gh = n - k ∧ k ≤ n ∧ s = .int .i64 k ∧ (∀ i, i < k → f i = g i) ∧ Below w.heap.size w wr)
  case atStart => exact ⟨0, rfl, by omega, rfl, fun i h => by omega, Below.refl _ _⟩
  case round =>
    obtain ⟨k, rfl, hk, rfl, hall, hB⟩ := hrel
    have HA : Hid (∀ i, i < k → f i = g i) := hall
    have HB : Hid (Below w.heap.size w wr) := hB
    by_cases hlt : k < n
    · have hc1 := (H1.out.keep hB).c k hlt
      have hc2 := (H2.out.keep hB).c k hlt
      clear hB hall
      by_cases he : f k = g k
      · have HS : Hid (∀ i, i < k + 1 → f i = g i) := fun i hi => by
          by_cases e : i = k
          · rw [e]; exact he
          · exact HA.out i (by omega)
        rw [← he] at hc2
        clear he
        go_upto_region 6 with fail
        go_quiet (fail)
        go_wp2_with fail
        go_roundg (n - (k + 1))
        case measure => omega
        case rel => exact ⟨k + 1, rfl, by omega, by go_num, HS.out, K.drewN HB.out _⟩
      · have hb : (f k == g k) = false := beq_eq_false_iff_ne.2 he
        have HS : Hid (sameB f g n = false) := same_no hlt he
        clear he
        go_upto_region 6 with fail
        go_quiet (fail)
        go_wp2_with fail
        go_ret
        exact ⟨ret_bool HS.out.symm, K.drewN HB.out _⟩
    · obtain rfl : k = n := by omega
      clear hall hB
      go_wp2_with fail
      go_ret
      exact ⟨ret_bool (same_yes HA.out).symm, HB.out⟩
end Go.Proofs.YtimaaendbfjblaaDoor
