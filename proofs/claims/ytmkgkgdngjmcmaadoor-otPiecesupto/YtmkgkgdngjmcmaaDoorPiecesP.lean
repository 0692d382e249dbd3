/-
  OtPieces: the row and the card, in the second form (of bulk at most 1048576).
-/
import Derived.Test.YtmkgkgdngjmcmaaDoorCards
import Derived.Test.YtmkgkgdngjmcmaaDoorTie
import Derived.Test.YtmkgkgdngjmcmaaDoorPieces
import Derived.Test.YtmkgkgdngjmcmaaDoorOpensO
import Derived.Laws.IdiomArrays
import Derived.Deep.DeepHandedRow
import Derived.Deep.DeepWitnessRowRef
namespace Go.Proofs.YtmkgkgdngjmcmaaDoor
open Go.ChangeShapes Go.WideShapes Go.ChangeAt Go.RowKit Go.Deep Go.Joins
set_option linter.unusedVariables false

theorem cells4s : Tryd.prog.cellsOf 32 = 1 := by kernel_rfl
theorem cellsF4 : Tryd.prog.cellsOf 41 = 4 := by kernel_rfl

theorem okWide_array4 {W : World} {r : Reach} {b0 : Nat} {v : Value} (h : Value.okWide Tryd.prog W r b0 41 v) : ∃ cs, v = .agg cs ∧ cs.size = 4 := by
  simp only [Value.okWide, Tryd.underlying41] at h
  obtain ⟨cs, h1, h2, _⟩ := h
  exact ⟨cs, h1, h2.trans cellsF4⟩

theorem array4 {α : Type} {cs : Array α} (h : cs.size = 4) : ∃ c0 c1 c2 c3, cs = #[c0, c1, c2, c3] := by
  obtain ⟨l⟩ := cs
  match l, h with
  | [a, b, c, d], _ => exact ⟨a, b, c, d, rfl⟩

theorem bulk_one {H : Type} (d : DataW H) : 1 ≤ Rows.uptoBulk d := by
  cases d with
  | lit l => cases l <;> simp [Rows.uptoBulk]
  | nil => simp [Rows.uptoBulk]
  | ptr d => simp [Rows.uptoBulk]
  | slice e s => simp [Rows.uptoBulk]
  | agg p => simp [Rows.uptoBulk]
  | iface t d => simp [Rows.uptoBulk]
  | map e => simp [Rows.uptoBulk]
  | held h => simp [Rows.uptoBulk]

theorem bulk_len {H : Type} : ∀ (l : List (DataW H)), l.length ≤ Rows.uptoBulkAll l
  | [] => by simp [Rows.uptoBulkAll]
  | x :: r => by have := bulk_one x; have := bulk_len r; simp only [Rows.uptoBulkAll, List.length_cons]; omega

/-- A line that came in is no longer than its bulk. -/
theorem small_of {H : Type} {enc : TypeId × Value → H} {W : World} {fuel : Nat} {a : Option Addr} {n c : Nat} {d : DataW H} {p : List MemPlace}
    (hf : DataW.trod enc Tryd.prog W 0 (fun _ => true) true fuel 32 [.slice a n c] = some (d, p)) : n ≤ Rows.uptoBulk d := by
  rcases open_slice Tryd.underlying32 hf with ⟨hcs, _⟩ | ⟨x, l, cc, m, k, D, Pl, hcs, _, hl, hm, hmm, hd', hx⟩
  · simp at hcs
    omega
  · simp at hcs
    have hd2 : d = _ := (Prod.mk.inj hd').1
    subst hd2
    have := bulk_len ((List.range l).map D)
    simp only [List.length_map, List.length_range] at this
    simp only [Rows.uptoBulk]
    omega

theorem reaches_part {H : Type} {d0 d1 d2 d3 : DataW H} (h : Reaches 41 (.agg [d0, d1, d2, d3])) : Reaches 32 d0 ∧ Reaches 32 d1 ∧ Reaches 32 d2 ∧ Reaches 32 d3 := by
  have e : DataW.weights Tryd.prog 41 (.agg [d0, d1, d2, d3]) = d0.weights Tryd.prog 32 ++ (d1.weights Tryd.prog 32 ++ (d2.weights Tryd.prog 32 ++ d3.weights Tryd.prog 32)) := by
    simp [DataW.weights, DataW.weightsAll, Tryd.underlying41]
  unfold Reaches at h ⊢
  rw [e] at h
  exact ⟨fun k hk => h k (by simp [hk]), fun k hk => h k (by simp [hk]), fun k hk => h k (by simp [hk]), fun k hk => h k (by simp [hk])⟩

theorem reads (os : Os) {H : Type} (enc : TypeId × Value → H) : ∃ places, DataW.whole enc Tryd.prog ((World.doorLaid Tryd.prog 400 os).forCall (fun _ _ => 0) ⟨#[], #[.agg #[.slice none 0 0, .slice none 0 0, .slice none 0 0, .slice none 0 0], .agg #[.int .i64 0, .int .i64 0, .int .u8 0, .int .i64 0, .int .i64 0], .bool false], []⟩).memory Tryd.f6.params.toList Rows.otPiecesSpec.vars false #[Value.agg #[.slice none 0 0, .slice none 0 0, .slice none 0 0, .slice none 0 0], .agg #[.int .i64 0, .int .i64 0, .int .u8 0, .int .i64 0, .int .i64 0], .bool false].toList 8 =
    some ([.agg [.nil, .nil, .nil, .nil], .agg [.lit (.int .i64 0), .lit (.int .i64 0), .lit (.int .u8 0), .lit (.int .i64 0), .lit (.int .i64 0)], .lit (.bool false)], [], places) :=
  ⟨[], by kernel_rfl⟩

set_option maxRecDepth 100000 in
theorem otPiecesUpto_lifted (os : Os) (started : os.Started) (H : Type) (enc : TypeId × Value → H) (F : Stop.Interp) :
    ReturnsInHanded {} Tryd.checked os 6 .any ((Rows.OpenSpec.upto Rows.otPiecesSpec).preRow enc Tryd.prog Tryd.f6 Rows.otPiecesUptoRow.domain false Rows.otPiecesUptoRow.laid) (((Rows.OpenSpec.upto Rows.otPiecesSpec).at F).post enc Tryd.prog Tryd.f6 false true false false) := by
  obtain ⟨places, hx⟩ := reads os enc
  refine returnsInHanded_of_row (C := Tryd.checked) (s := Rows.OpenSpec.upto Rows.otPiecesSpec) own started (by kernel_rfl) Tryd.func6
    (witness_row_atRef (enc := enc) (C := Tryd.checked) false (World.doorLaid Tryd.prog 400 os) #[.agg #[.slice none 0 0, .slice none 0 0, .slice none 0 0, .slice none 0 0], .agg #[.int .i64 0, .int .i64 0, .int .u8 0, .int .i64 0, .int .i64 0], .bool false] rfl (by kernel_rfl) (by kernel_rfl) (by kernel_rfl)
      (OpenSpec.preRow_of_cond 8 hx (by kernel_rfl) (fun k hk => by cases hk; kernel_rfl) (by kernel_rfl) (door_met os _))) ?_
  intro W base args ds gs before hval0 hW _ hcond hsz0 hL _ _
  have hval : ∀ (j : Nat) t v, Tryd.f6.params[j]? = some t → args[j]? = some v → Value.okWide Tryd.prog W .any base t v := hval0
  have hsz : (DataW.weightsEach Tryd.prog (Tryd.f6.params.toList ++ Rows.otPiecesSpec.plain.varTypes Tryd.prog) (ds ++ gs)).all (· ≤ reachBytes) = true := hsz0
  have hk : Rows.uptoSmall H (ds ++ gs) = true := hcond _ rfl
  have hW' := hW
  obtain ⟨p, q, hA0, hV, rfl, hfz, hnd⟩ := hW
  have hA : DataW.TrodAll enc Tryd.prog W 0 (fun _ => true) true Tryd.f6.params.toList args.toList ds p := hA0
  rw [Tryd.params6] at hA hval hsz
  obtain ⟨v0, vs0, d0, ds0, p0, q0, hargs, rfl, rfl, h0, r0⟩ := trodAll_cons hA
  obtain ⟨v1, vs1, d1, ds1, p1, q1, rfl, rfl, rfl, h1, r1⟩ := trodAll_cons r0
  obtain ⟨v2, vs2, d2, ds2, p2, q2, rfl, rfl, rfl, h2, r2⟩ := trodAll_cons r1
  obtain ⟨rfl, rfl, rfl⟩ := trodAll_nil r2
  obtain rfl : args = #[v0, v1, v2] := by cases args; simp_all
  obtain ⟨rfl, rfl⟩ := trodVars_none hV
  have TB : Table W := table_of_laid hL
  have lt0 : ∀ x ∈ p0, x.block < W.heap.size := by obtain ⟨m, hm⟩ := h0; exact DataW.trod_lt m _ _ _ hm
  have lt1 : ∀ x ∈ p1, x.block < W.heap.size := by obtain ⟨m, hm⟩ := h1; exact DataW.trod_lt m _ _ _ hm
  obtain ⟨k0, q0x, c0, l0, s0, rfl, g0, gg0⟩ := isOp_of (hval 1 23 v1 rfl rfl) h1
  obtain ⟨x2, rfl, rfl, rfl⟩ := open_bool Tryd.underlying4 (hval 2 4 v2 rfl rfl) h2
  obtain ⟨cs, rfl, hcs⟩ := okWide_array4 (hval 0 41 v0 rfl rfl)
  obtain ⟨e0, e1, e2, e3, rfl⟩ := array4 hcs
  have h0' := h0
  obtain ⟨f0, hf0⟩ := h0'
  obtain ⟨y0, y1, y2, y3, nn, hyx, t0, t1, t2, t3⟩ := trod_array4 Tryd.underlying41 cells4s hf0
  obtain ⟨rfl, rfl⟩ := Prod.mk.inj hyx
  obtain ⟨re0, re1, re2, re3⟩ := reaches_part (reaches_of hsz (j := 0) rfl rfl)
  have hk2 : Rows.uptoBulkAll [DataW.agg [y0.1, y1.1, y2.1, y3.1], d1, DataW.lit (.bool x2)] ≤ 1048576 := of_decide_eq_true hk
  simp only [Rows.uptoBulkAll, Rows.uptoBulk] at hk2
  obtain ⟨a0, n0, m0, X0, rfl, E0, -, -⟩ := isOps_of t0 re0
  obtain ⟨a1, n1, m1, X1, rfl, E1, -, -⟩ := isOps_of t1 re1
  obtain ⟨a2, n2, m2, X2, rfl, E2, -, -⟩ := isOps_of t2 re2
  obtain ⟨a3, n3, m3, X3, rfl, E3, -, -⟩ := isOps_of t3 re3
  have z0 := small_of t0
  have z1 := small_of t1
  have z2 := small_of t2
  have z3 := small_of t3
  clear hA0 hval0
  refine (otPieces_any a0 a1 a2 a3 n0 n1 n2 n3 m0 m1 m2 m3 X0 X1 X2 X3 k0 q0x c0 l0 s0 x2 W TB E0 E1 E2 E3 (by omega) (by omega) (by omega) (by omega)).mono fun e W' ⟨he, bel⟩ => ?_
  subst he
  exact ⟨_, rfl, _, _, _, [], _, [], hW', trodAll_mk1 (shut_bool Tryd.underlying4 _), (trodAll_cons_mk (Below.trod laidOut (by kernel_rfl) (of_decide_eq_true (by kernel_rfl)) h0 bel lt0) (trodAll_cons_mk (Below.trod laidOut (by kernel_rfl) (of_decide_eq_true (by kernel_rfl)) h1 bel lt1) (trodAll_cons_mk (shut_bool Tryd.underlying4 _) trodAll_mk0))), rfl, bel.frame _, fun h => by cases h⟩

theorem otPiecesUpto_row : Rows.OtPiecesUptoSaid :=
  OpenClaim.holds_of_cond 6 Tryd.f6 rfl rfl rfl rfl rfl rfl rfl ⟨rfl, rfl, rfl, rfl, rfl⟩ rfl rfl rfl rfl rfl (by kernel_rfl) Tryd.func6 (by kernel_rfl)
    (of_decide_eq_true (by kernel_rfl)) (by unfold Func.isWrapper; first | (rw [if_pos (by decide +kernel)]; kernel_rfl) | (rw [if_neg (by decide +kernel)]; exact ⟨rfl, rfl⟩))
    (fun os started H enc _ F => by rw [OpenClaim.pre_eq_preRow]; exact otPiecesUpto_lifted os started H enc F)

theorem otPieces_plain (f : FuncId) (fn : Func) (hf : Tryd.pinned.checked.prog.funcNamed "jotter/jotterlaw05.OtPieces" = some f) (hfn : Tryd.pinned.checked.prog.funcs[f]? = some fn) :
    false = Tryd.pinned.checked.prog.looks [] ∧ ∀ (j : Nat) t, fn.params[j]? = some t → Tryd.pinned.checked.prog.wantsStandIn t = false := by
  obtain rfl : f = 6 := Option.some.inj ((show Tryd.prog.funcNamed "jotter/jotterlaw05.OtPieces" = some 6 by kernel_rfl).symm.trans hf) |>.symm
  obtain rfl : fn = Tryd.f6 := (Option.some.inj (Tryd.func6.symm.trans hfn)).symm
  refine ⟨by kernel_rfl, fun j t ht => ?_⟩
  rw [Tryd.params6] at ht
  have hm : t = 41 ∨ t = 23 ∨ t = 4 := by have := Array.mem_of_getElem? ht; simp at this; omega
  rcases hm with rfl | rfl | rfl
  · exact (show Tryd.prog.wantsStandIn 41 = false by kernel_rfl)
  · exact (show Tryd.prog.wantsStandIn 23 = false by kernel_rfl)
  · exact (show Tryd.prog.wantsStandIn 4 = false by kernel_rfl)

theorem otPieces_holds : Rows.OtPiecesUptoCardSaid :=
  Claim7.holds_tied_plain_at .later [] _ _ _ _ otPiecesUpto_row (fun _ h => by cases h) (by kernel_rfl) (fun _ h => by cases h) otPiecesUpto_row_tie rfl ⟨rfl, rfl⟩ (by kernel_rfl) rfl otPieces_plain (by kernel_rfl)
#print axioms otPieces_holds
end Go.Proofs.YtmkgkgdngjmcmaaDoor
