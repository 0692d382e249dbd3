/-
  Texts put together: Kn Ko Kp.
-/
import Derived.Test.YtilidolbplglcaaGreatDoorMKk
import Derived.Test.YtilidolbplglcaaGreatDoorKh
import Derived.WalkLawsBesides
/-! Kn -/
namespace Go.Proofs.YtilidolbplglcaaGreatDoor
open Go.RowKit
set_option linter.unusedVariables false

/-- A text of one s own. -/
def MyE (w : World) (base : Nat) (v : Value) (xs : List El) : Prop := ∃ β, SE w β v xs ∧ ∀ g, β = some g → base ≤ g
set_option maxRecDepth 100000 in
set_option maxHeartbeats 4000000 in
theorem preplay_any (a : Option Addr) (n c : Nat) (E : List Ed) (D : List OpE) (w : World) (hI : IsO w a n c D) (hB : BI E D) :
    Calls Tryz.prog 34 #[.slice a n c] w fun e w' => ∃ v, e = .returned (.tuple #[v, .int .i64 (n : Int), .int .i64 0]) ∧ MyE w' w.heap.size v (runP [] D) ∧ Below w.heap.size w w' := by
  have HI := hd hI
  have HB := hd hB
  have HL := hd hI.1
  have hn : n ≤ 4096 := by have := hB.bound; have := hB.len; have := hI.1; omega
  clear hI hB
  go_enter Tryz.func34, Tryz.ntmps34
  go_wp2_with fail
  go_loopw [5, 11] (fun own i wr => ∃ k : Nat, k ≤ n ∧ i = .int .i64 (k : Int) ∧ Hid (MyE wr w.heap.size own (runP [] (D.take k)) ∧ Below w.heap.size w wr)) (fun _ i _ => n - (intOf i).toNat)
  case atStart => exact ⟨0, Nat.zero_le _, rfl, ⟨none, ⟨rfl, rfl⟩, fun g h => by cases h⟩, Below.refl _ _⟩
  case round =>
    obtain ⟨k, hk, rfl, hr⟩ := hrel
    obtain ⟨⟨β, hS, hβ⟩, hBl⟩ := hr.out
    obtain ⟨va, vc, rfl, -, -⟩ := hS.form
    by_cases hlt : k < n
    · have kx : k < D.length := by have := HL.out; omega
      have HE2 := HI.out.below hBl
      obtain ⟨b, off, rfl, hb⟩ := HE2.addr (by omega)
      obtain ⟨e0, e1, e2, e3, e4⟩ := HE2.at k hlt kx
      have i1 := gq4 hlt
      have w1 := gq2 hlt hn
      have hme := gq3 hlt
      obtain ⟨f1, f2⟩ := HB.out.fits kx
      have hok := valid_ok (HB.out.dval _ (List.getElem_mem kx))
      obtain ⟨⟨ok, op, oc, ol, oq⟩, ho⟩ : ∃ z, D[k] = z := ⟨_, rfl⟩
      rw [ho] at e0 e1 e2 e3 e4 f1 f2 hok
      simp only at e0 e1 e2 e3 e4
      have HS := hd (And.intro hS (And.intro hβ hBl))
      have HF := hd (And.intro f1 (And.intro f2 hok))
      have CF := hd (fun W => fits_any ((runP [] (D.take k)).length : Int) ok op oc ol oq W hok.1 hok.2)
      rw [f1] at CF
      clear hS hβ hBl HE2 ho f1 f2 hok hr
      go_upto_region 6 with (go_at_call 41; refine (CF.out _).mono ?_; rintro e w2 ⟨rfl, b2⟩)
      have bb2 := out_below b2
      have f0 := out_cell b2 0
      have f1 := out_cell b2 1
      have f2 := out_cell b2 2
      have f3 := out_cell b2 3
      have f4 := out_cell b2 4
      simp at f0 f1 f2 f3 f4
      have lw : wr.heap.size < w2.heap.size := by have := b2.size; simp at this; omega
      have CC := hd (change_any β _ ok op oc ol oq _ _ (HS.out.1.below bb2) HF.out.1)
      have B2 := hd (HS.out.2.2.trans (bb2.mono HS.out.2.2.size))
      rw [HF.out.2.1] at CC
      clear b2 bb2 CF e0 e1 e2 e3 e4
      go_wp2_with (go_at_call 42; refine CC.out.mono ?_; rintro e w3 ⟨v3, rfl, hN⟩)
      obtain ⟨β', h1, h2, h3⟩ := hN
      refine ⟨⟨k + 1, by omega, by go_num, ⟨β', h1, ?_⟩, B2.out.trans (h3.below B2.out.size (fun g h => HS.out.2.1 g h))⟩, by simp [intOf]; omega⟩
      intro g hg
      rcases h2 with h2 | ⟨g', h2, h4⟩
      · exact HS.out.2.1 g (h2 ▸ hg)
      · have : g' = g := Option.some.inj (h2.symm.trans hg)
        subst this
        exact Nat.le_trans B2.out.size h4
    · obtain rfl : k = n := by omega
      have i3 : ¬ ((k : Int) < (k : Int)) := by omega
      have e : D.take k = D := List.take_of_length_le (by have := HL.out; omega)
      rw [e] at hr hS
      clear hS hβ hBl
      go_wp2_with fail
      go_ret3
      exact ⟨_, by first | rfl | (rw [e]), hr.out.1, hr.out.2⟩

section
variable {w0 w : World} {o b : Nat} {cs : Array Value} {E M : List Ed} {D : List OpE} {S : List Int} {vs vE vD : Value} {βs βE βD : Option Nat}
theorem outcome_any (hX : OX w o b cs E D M S vs vE vD βs βE βD) (hB : BI E D) :
    Calls Tryz.prog 23 #[.pointer (some ⟨o, 0, none⟩)] w fun r w' => ∃ v, r = .returned (.tuple #[vD, v]) ∧ MyE w' w.heap.size v (runP [] D) ∧ Below w.heap.size w w' := by
  obtain ⟨aD, cD, hvD, hI⟩ := hX.d.isO
  have CR := hd (preplay_any aD D.length cD E D w hI hB)
  have CX := hd (fun u (hu : Below w.heap.size w u) => (hX.below hu).cells)
  obtain ⟨-, -, c2, -, lo⟩ := hX.cells
  rw [hvD] at c2 ⊢
  have HV := hd hvD
  clear hX hB hI hvD
  go_enter Tryz.func23, Tryz.ntmps23
  go_upto_region 2 with (go_at_call 34; refine CR.out.mono ?_; rintro e u ⟨v, rfl, hM, bu⟩)
  obtain ⟨β, hS, hβ⟩ := hM
  obtain ⟨va, vc, rfl, -, -⟩ := hS.form
  obtain ⟨-, -, k2, -, lu⟩ := CX.out u bu
  rw [HV.out] at k2
  have Z := hd (And.intro (show MyE u w.heap.size _ _ from ⟨β, hS, hβ⟩) bu)
  clear CR CX c2 lo hS hβ bu
  go_wp2_with fail
  go_ret2
  exact ⟨_, rfl, Z.out.1, Z.out.2⟩
end
theorem run_stuck (w : World) (v : Value) : (Instr.typeAssert (.iface 85 v) 20 85 false).run Tryz.prog w = .ok v w := by
  simp [Instr.typeAssert, run_underlying Tryz.underlying85]
set_option maxRecDepth 100000 in
/-- The error of an edit that cannot stand. -/
theorem gaveUp_any (at' : Int) (code : Int) (w : World) :
    Calls Tryz.prog 24 #[.int .i64 at', .iface 85 (.agg #[.iface 70 (.int .i64 code)])] w fun r w' => r = .returned (.iface 83 (.pointer (some ⟨w.heap.size, 0, none⟩))) ∧ w' = w.alloc (.cells #[.int .i64 at', .iface 70 (.int .i64 code)] 87) := by
  have hS := run_stuck w (.agg #[.iface 70 (.int .i64 code)])
  have hF : (Instr.field 85 (.agg #[.iface 70 (.int .i64 code)]) 0).run Tryz.prog w = .ok (.iface 70 (.int .i64 code)) w := by kernel_rfl
  go_enter Tryz.func24, Tryz.ntmps24
  go_wp2_with fail
  go_ret
  exact ⟨rfl, rfl⟩

end Go.Proofs.YtilidolbplglcaaGreatDoor

/-! Ko -/
namespace Go.Proofs.YtilidolbplglcaaGreatDoor
open Go.RowKit
set_option linter.unusedVariables false

set_option maxRecDepth 100000 in
set_option maxHeartbeats 4000000 in
/-- One boot more. -/
theorem start_any {w0 w : World} {o : Nat} {E : List Ed} {D : List OpE} {S : List Int} (h : Ord w0 w o E D S) (hn : S.length ≤ 1000) :
    Calls Tryz.prog 21 #[.pointer (some ⟨o, 0, none⟩)] w fun r w' => r = .returned (.tuple #[]) ∧ Ord w0 w' o E D (S ++ [(E.length : Int)]) := by
  obtain ⟨b, cs, vs, vE, vD, βs, βE, βD, x, ls, F, hX, hC⟩ := h
  obtain ⟨aE, cE, hvE, -⟩ := hX.e.form
  obtain ⟨aS, cS, hvs, -⟩ := hX.s.form
  have HX := hd hX
  have HC := hd hC
  have HVE := hd hvE
  have HVS := hd hvs
  obtain ⟨n, hnE⟩ : ∃ n, E.length = n := ⟨_, rfl⟩
  obtain ⟨m, hmS⟩ : ∃ m, S.length = m := ⟨_, rfl⟩
  rw [hnE] at HVE ⊢
  rw [hmS] at HVS hn
  have HN := hd (And.intro hnE hmS)
  clear hX hC hvE hvs hnE hmS
  go_enter Tryz.func21, Tryz.ntmps21
  go_upto_region 0 with fail
  refine startS _ w o n m cE cS aE aS rfl (by simp)
    (fun v u => ∃ a3 c3, v = .slice a3 (m + 1) c3 ∧ u.cell? ⟨o, 0, none⟩ = some (.slice aS m cS) ∧ u.frozen? ⟨o, 0, none⟩ = false ∧ Ord w0 (u.setCell ⟨o, 0, none⟩ (.slice a3 (m + 1) c3)) o E D (S ++ [(n : Int)])) ?e0 ?ea ?es ?ek
  case e0 =>
    intro u hu
    obtain ⟨c0, c1, -⟩ := (HX.out.below hu).cells
    rw [HVS.out] at c0
    rw [HVE.out] at c1
    exact ⟨c0, c1⟩
  case ea =>
    intro u t hu ht
    obtain ⟨a3, c3, u', k1, k2, g', k3, k4, k5⟩ := HX.out.pushS (n : Int) hu t ht (by rw [HN.out.2]; omega)
    rw [HN.out.2, HVS.out] at k1
    rw [HN.out.2] at k3 k4
    refine ⟨_, u', k1, a3, c3, rfl, (cell_row k2 0).trans (HX.out.c0.trans (by rw [HVS.out])), frozen_row k2 0, b, _, _, _, _, _, _, _, x, ls, F, k3, ⟨fun k hk => (set_at (by omega)).trans (HC.out.pt k hk), HC.out.sp, HC.out.mo.turn k4 ?_ ?_ (fun k hk => k3.old k hk), ?_⟩⟩
    · rintro k (hk | hk)
      · exact ⟨.inl hk, HC.out.lo k (.inl hk)⟩
      · exact ⟨.inr (.inr (.inl hk)), HC.out.lo k (.inr (.inr (.inl hk)))⟩
    · rintro k (hk | hk | hk | hk)
      · exact .inl (.inl hk)
      · exact .inl (.inr (.inl hk))
      · injection hk with hk
        subst hk
        exact k5.imp (fun h => .inr (.inr (.inl h))) id
      · exact .inl (.inr (.inr (.inr hk)))
    · have hbs := HC.out.mo.base.size
      rintro k (hk | hk | hk | hk)
      · exact HC.out.lo k (.inl hk)
      · exact HC.out.lo k (.inr (.inl hk))
      · injection hk with hk
        subst hk
        rcases k5 with k5 | k5
        · exact HC.out.lo _ (.inr (.inr (.inl k5)))
        · omega
      · exact HC.out.lo k (.inr (.inr (.inr hk)))
  case es =>
    rintro v u ⟨a3, c3, rfl, h1, h2, -⟩
    exact ⟨⟨_, _, _, rfl⟩, h1, h2⟩
  case ek =>
    rintro V' v u ⟨a3, c3, rfl, -, -, hB⟩
    have HB := hd hB
    clear hB
    go_wp2_with fail
    refine bodyPost_end (results_none rfl _ _ _) rfl ?_
    exact ⟨rfl, HB.out⟩
def nilP (n : Nat) : List Value := List.replicate n (.pointer none)
def ordC (b : Nat) : Array Value := (Value.slice none 0 0 :: Value.slice none 0 0 :: Value.slice none 0 0 :: Value.map (some b) :: nilP 65).toArray
theorem Fr.setCells (b : Nat) : ∀ (vs : List Value) (o : Nat) (w : World), Fr (· = b) w (w.setCells b o vs)
  | [], o, w => Fr.refl _ _
  | v :: vs, o, w => by
    rw [World.setCells]
    exact (Fr.setCell (S := (· = b)) w ⟨b, o, none⟩ v rfl).trans (Fr.setCells b vs (o + 1) _)
theorem setCells_some {b : Nat} {t : TypeId} : ∀ (vs : List Value) (o : Nat) (w : World) (cur : Array Value), w.heap[b]? = some (.cells cur t (0, 0)) → ∃ A : Array Value, (w.setCells b o vs).heap[b]? = some (.cells A t (0, 0)) ∧ A.size = cur.size
  | [], o, w, cur, h => ⟨cur, h, rfl⟩
  | v :: vs, o, w, cur, h => by
    rw [World.setCells]
    obtain ⟨A, h1, h2⟩ := setCells_some vs (o + 1) _ _ (set_row h o v)
    exact ⟨A, h1, h2.trans set_sz⟩
theorem setCells_full {w : World} {b : Nat} {t : TypeId} {cur : Array Value} (h : w.heap[b]? = some (.cells cur t (0, 0))) (vs : List Value) (hl : vs.length = cur.size) : (w.setCells b 0 vs).heap[b]? = some (.cells vs.toArray t (0, 0)) := by
  obtain ⟨A, h1, h2⟩ := setCells_some vs 0 w cur h
  rw [h1]
  have hA : A = vs.toArray := by
    refine Array.ext_getElem? (fun j => ?_)
    by_cases hj : j < vs.length
    · have h3 := World.cell?_setCells_in b vs 0 w (fun j hj => by rw [Nat.zero_add, cell_row h]; simp; omega) j hj
      rw [Nat.zero_add, cell_row h1] at h3
      rw [h3]
      simp [hj]
    · rw [Array.getElem?_eq_none (by omega), Array.getElem?_eq_none (by simp; omega)]
  rw [hA]
theorem ordC_zero (b : Nat) : Tryz.zeroCells65.setIfInBounds 3 (.map (some b)) = ordC b := by kernel_rfl
theorem ordC_size (b : Nat) : (ordC b).size = 69 := by kernel_rfl
theorem zero_size : Tryz.zeroCells65.size = 69 := by kernel_rfl
theorem ordC_one (b : Nat) : (ordC b).all (·.oneCell') = true := by kernel_rfl
theorem infoOrd : (Tryz.prog.info? 65).map (·.size) = some 69 := by kernel_rfl
theorem there_of {w : World} {b n : Nat} {t : TypeId} {cur : Array Value} (h : w.heap[b]? = some (.cells cur t (0, 0))) (hn : n ≤ cur.size) : w.there b 0 n := fun j hj => by
  rw [Nat.zero_add]
  refine ⟨?_, frozen_row h j⟩
  rw [cell_row h]
  simp
  omega
theorem results_cell {P : Program} {fn : Func} {t : Tmp} {ty : TypeId} (h : fn.results = #[.cell t ty]) {tmps : Array Value} {w : World} {a : Addr} {v : Value} (ha : tmps.getD t undef = .pointer (some a)) (hl : (loadVar ty a).run P w = .ok v w) : (results fn tmps).run P w = .ok v w := by
  rw [Array.getD_eq_getD_getElem?] at ha
  have e : (asAddr (tmps[t]?.getD undef)).run P w = .ok a w := by rw [ha]; rfl
  unfold results
  rw [h]
  simp [Sem.run_bind, e, hl]
set_option maxRecDepth 100000 in
set_option maxHeartbeats 4000000 in
theorem newOrder_any (w : World) : Calls Tryz.prog 20 #[] w fun r w' => r = .returned (.agg (ordC (w.heap.size + 1))) ∧ MR w' (w.heap.size + 1) [] ∧ Below w.heap.size w w' := by
  have hmm := @run_makeMap Tryz.prog
  have hz : ((w.alloc (.cells Tryz.zeroCells65 65)).alloc (.map #[] 0)).heap[w.heap.size]? = some (.cells Tryz.zeroCells65 65 (0, 0)) := by
    have b2 : Below (w.heap.size + 1) (w.alloc (.cells Tryz.zeroCells65 65)) ((w.alloc (.cells Tryz.zeroCells65 65)).alloc (.map #[] 0)) := (Below.refl _ _).alloc (by simp) _
    exact (b2.block _ (by omega)).trans (heap_alloc_new w _)
  have hm := MR.made (w.alloc (.cells Tryz.zeroCells65 65))
  rw [show (w.alloc (.cells Tryz.zeroCells65 65)).heap.size = w.heap.size + 1 by simp] at hm
  have hb : Below w.heap.size w ((w.alloc (.cells Tryz.zeroCells65 65)).alloc (.map #[] 0)) := ((Below.refl _ _).alloc (Nat.le_refl _) _).alloc (by simp) _
  have HZ := hd hz
  have HM := hd hm
  have HB := hd hb
  clear hz hm hb
  go_enter Tryz.func20, Tryz.ntmps20
  go_upto_region 1 with fail
  go_wp2_with (refine wpList_store_mid rfl 65 (.tmp 0) (.tmp 2) rfl w.heap.size 0 (ordC (w.heap.size + 1)) rfl ?hy ?ht ?hi ?h1 ?h)
  case hy =>
    show Value.agg (Tryz.zeroCells65.setIfInBounds 3 (Value.map (some (w.heap.size + 1)))) = _
    rw [ordC_zero]
  case ht => exact there_of HZ.out (by rw [ordC_size, zero_size]; exact Nat.le_refl _)
  case hi => rw [ordC_size]; exact infoOrd
  case h1 => exact ordC_one _
  case h =>
    generalize (w.alloc (.cells Tryz.zeroCells65 65)).alloc (.map #[] 0) = W at *
    have hf := setCells_full HZ.out (ordC (w.heap.size + 1)).toList (by rw [Array.length_toList, ordC_size, zero_size])
    have hl := run_loadVar_row (P := Tryz.prog) (W.setCells w.heap.size 0 (ordC (w.heap.size + 1)).toList) w.heap.size 65 65 (ordC (w.heap.size + 1)) (0, 0) _ (by simpa using hf) Tryz.underlying65 rfl (by rw [ordC_size]; exact infoOrd)
    refine bodyPost_ret (v := .agg (ordC (w.heap.size + 1))) (results_cell Tryz.results20 rfl hl) rfl ?_
    refine ⟨rfl, HM.out.fr (Fr.setCells _ _ _ _) (by omega), HB.out.trans ((Fr.setCells _ _ _ _).below HB.out.size (fun k hk => by omega))⟩

end Go.Proofs.YtilidolbplglcaaGreatDoor

/-! Kp -/
namespace Go.Proofs.YtilidolbplglcaaGreatDoor
open Go.RowKit
set_option linter.unusedVariables false

theorem Ord.below {w0 w w' : World} {o : Nat} {E : List Ed} {D : List OpE} {S : List Int} (h : Ord w0 w o E D S) (hb : Below w.heap.size w w') : Ord w0 w' o E D S := by
  obtain ⟨b, cs, vs, vE, vD, βs, βE, βD, x, ls, F, hX, hC⟩ := h
  exact ⟨b, cs, vs, vE, vD, βs, βE, βD, x, ls, F, hX.below hb, hC.below hb⟩
theorem Ord.check {w0 w : World} {o : Nat} {E : List Ed} {D : List OpE} {S : List Int} (h : Ord w0 w o E D S) (hJ : BJ E D) (hQ : BQ E) (hS : 0 < S.length) (e : Ed) (hch : OkOp e.o) :
    Calls Tryz.prog 35 #[.pointer (some ⟨o, 0, none⟩), .agg #[.int .i64 e.tag, .int .i64 e.o.kind, .int .i64 e.o.pos, .int .u8 e.o.ch, .int .i64 e.o.cl, .int .i64 e.o.sq]] w fun r w' => r = .returned (.int .i64 (chkP E D e)) ∧ Below w.heap.size w w' := by
  obtain ⟨b, cs, vs, vE, vD, βs, βE, βD, x, ls, F, hX, hC⟩ := h
  exact check_any hX hC hJ hQ hS e hch
theorem Ord.add {w0 w : World} {o : Nat} {E : List Ed} {D : List OpE} {S : List Int} (h : Ord w0 w o E D S) (hJ : BJ E D) (hQ : BQ E) (hT : Table w0) (e : Ed) (hc0 : chkP E D e = 0) :
    Calls Tryz.prog 36 #[.pointer (some ⟨o, 0, none⟩), .agg #[.int .i64 e.tag, .int .i64 e.o.kind, .int .i64 e.o.pos, .int .u8 e.o.ch, .int .i64 e.o.cl, .int .i64 e.o.sq]] w fun r w' => r = .returned (dnP E D e).val ∧ Ord w0 w' o (E ++ [e]) (D ++ [dnP E D e]) S := by
  obtain ⟨b, cs, vs, vE, vD, βs, βE, βD, x, ls, F, hX, hC⟩ := h
  exact badd_any hX hC hJ hQ hT e hc0
theorem Ord.blk {w0 w : World} {o : Nat} {E : List Ed} {D : List OpE} {S : List Int} (h : Ord w0 w o E D S) : Below w0.heap.size w0 w ∧ o < w.heap.size := by
  obtain ⟨b, cs, vs, vE, vD, βs, βE, βD, x, ls, F, hX, hC⟩ := h
  exact ⟨hC.mo.base, block_lt hX.blk⟩
section
variable {w0 w : World} {o : Nat} {E : List Ed} {D : List OpE} {S : List Int}
set_option maxRecDepth 100000 in
set_option maxHeartbeats 4000000 in
theorem mustAdd_good (h : Ord w0 w o E D S) (hJ : BJ E D) (hQ : BQ E) (hS : 0 < S.length) (hT : Table w0) (e : Ed) (hch : OkOp e.o) (hc0 : chkP E D e = 0) :
    Calls Tryz.prog 25 #[.pointer (some ⟨o, 0, none⟩), .agg #[.int .i64 e.tag, .int .i64 e.o.kind, .int .i64 e.o.pos, .int .u8 e.o.ch, .int .i64 e.o.cl, .int .i64 e.o.sq]] w fun r w' => r = .returned (.tuple #[]) ∧ Ord w0 w' o (E ++ [e]) (D ++ [dnP E D e]) S := by
  have bA : Below w.heap.size w (w.alloc (.cells #[.int .i64 e.tag, .int .i64 e.o.kind, .int .i64 e.o.pos, .int .u8 e.o.ch, .int .i64 e.o.cl, .int .i64 e.o.sq] 48)) := (Below.refl _ _).alloc (Nat.le_refl _) _
  have CC := hd ((h.below bA).check hJ hQ hS e hch)
  rw [hc0] at CC
  have CA := hd (fun u (hu : Below (w.alloc (.cells #[.int .i64 e.tag, .int .i64 e.o.kind, .int .i64 e.o.pos, .int .u8 e.o.ch, .int .i64 e.o.cl, .int .i64 e.o.sq] 48)).heap.size (w.alloc (.cells #[.int .i64 e.tag, .int .i64 e.o.kind, .int .i64 e.o.pos, .int .u8 e.o.ch, .int .i64 e.o.cl, .int .i64 e.o.sq] 48)) u) => ((h.below bA).below hu).add hJ hQ hT e hc0)
  have HE := hd (heap_alloc_new w (.cells #[.int .i64 e.tag, .int .i64 e.o.kind, .int .i64 e.o.pos, .int .u8 e.o.ch, .int .i64 e.o.cl, .int .i64 e.o.sq] 48))
  generalize dnP E D e = d at *
  obtain ⟨dk, dp, dc, dl, ds⟩ := d
  simp only [OpE.val] at CA
  obtain ⟨⟨et, ⟨ek, ep, ec, el, es⟩⟩, hee⟩ : ∃ z, e = z := ⟨_, rfl⟩
  have e0 : e.tag = et := by rw [hee]
  have e1 : e.o = ⟨ek, ep, ec, el, es⟩ := by rw [hee]
  simp only [e0, e1] at CC CA HE ⊢
  clear h hJ hQ hS hT hch hc0 bA hee e0 e1
  go_enter Tryz.func25, Tryz.ntmps25
  go_upto_region 1 with fail
  have hs1 : (w.alloc (.cells #[.int .i64 et, .int .i64 ek, .int .i64 ep, .int .u8 ec, .int .i64 el, .int .i64 es] 48)).heap.size = w.heap.size + 1 := by simp
  have HS1 := hd hs1
  clear hs1
  generalize w.alloc (.cells #[.int .i64 et, .int .i64 ek, .int .i64 ep, .int .u8 ec, .int .i64 el, .int .i64 es] 48) = W at *
  obtain ⟨d0, d1, d2, d3, d4, d5⟩ := edCells HE.out
  have lw := block_lt HE.out
  go_upto_region 2 with (go_at_call 35; refine CC.out.mono ?_; rintro e1 u ⟨rfl, bu⟩)
  have HU := hd ((bu.block _ (block_lt HE.out)).trans HE.out)
  have CU := hd (CA.out u bu)
  clear CC CA HE bu d0 d1 d2 d3 d4 d5 lw
  obtain ⟨d0, d1, d2, d3, d4, d5⟩ := edCells HU.out
  have lw := block_lt HU.out
  go_wp2_with (go_at_call 36; refine CU.out.mono ?_; rintro e1 u2 ⟨rfl, hO⟩)
  refine bodyPost_end (results_none rfl _ _ _) rfl ?_
  exact ⟨rfl, hO⟩
set_option maxRecDepth 100000 in
set_option maxHeartbeats 4000000 in
theorem mustAdd_bad (h : Ord w0 w o E D S) (hJ : BJ E D) (hQ : BQ E) (hS : 0 < S.length) (e : Ed) (hch : OkOp e.o) (hc0 : chkP E D e ≠ 0) :
    Calls Tryz.prog 25 #[.pointer (some ⟨o, 0, none⟩), .agg #[.int .i64 e.tag, .int .i64 e.o.kind, .int .i64 e.o.pos, .int .u8 e.o.ch, .int .i64 e.o.cl, .int .i64 e.o.sq]] w fun r w' => r = .panicked [{ v := .iface 85 (.agg #[.iface 70 (.int .i64 (chkP E D e))]), recovered := false }] ∧ Ord w0 w' o E D S ∧ Below w.heap.size w w' := by
  have bA : Below w.heap.size w (w.alloc (.cells #[.int .i64 e.tag, .int .i64 e.o.kind, .int .i64 e.o.pos, .int .u8 e.o.ch, .int .i64 e.o.cl, .int .i64 e.o.sq] 48)) := (Below.refl _ _).alloc (Nat.le_refl _) _
  have CC := hd ((h.below bA).check hJ hQ hS e hch)
  have HO := hd (fun u (hu : Below (w.alloc (.cells #[.int .i64 e.tag, .int .i64 e.o.kind, .int .i64 e.o.pos, .int .u8 e.o.ch, .int .i64 e.o.cl, .int .i64 e.o.sq] 48)).heap.size (w.alloc (.cells #[.int .i64 e.tag, .int .i64 e.o.kind, .int .i64 e.o.pos, .int .u8 e.o.ch, .int .i64 e.o.cl, .int .i64 e.o.sq] 48)) u) => And.intro ((h.below bA).below hu) (bA.trans (hu.mono bA.size)))
  have HE := hd (heap_alloc_new w (.cells #[.int .i64 e.tag, .int .i64 e.o.kind, .int .i64 e.o.pos, .int .u8 e.o.ch, .int .i64 e.o.cl, .int .i64 e.o.sq] 48))
  obtain ⟨ck, hck⟩ : ∃ z, chkP E D e = z := ⟨_, rfl⟩
  rw [hck] at hc0 CC ⊢
  have hcb : (ck == 0) = false := by simpa using hc0
  obtain ⟨⟨et, ⟨ek, ep, ec, el, es⟩⟩, hee⟩ : ∃ z, e = z := ⟨_, rfl⟩
  have e0 : e.tag = et := by rw [hee]
  have e1 : e.o = ⟨ek, ep, ec, el, es⟩ := by rw [hee]
  simp only [e0, e1] at CC HO HE ⊢
  clear h hJ hQ hS hch bA hee e0 e1 hck
  go_enter Tryz.func25, Tryz.ntmps25
  go_upto_region 1 with fail
  generalize w.alloc (.cells #[.int .i64 et, .int .i64 ek, .int .i64 ep, .int .u8 ec, .int .i64 el, .int .i64 es] 48) = W at *
  obtain ⟨d0, d1, d2, d3, d4, d5⟩ := edCells HE.out
  have lw := block_lt HE.out
  go_upto_region 2 with (go_at_call 35; refine CC.out.mono ?_; rintro e1 u ⟨rfl, bu⟩)
  have Z := hd (HO.out u bu)
  clear CC HO HE bu d0 d1 d2 d3 d4 d5 lw
  go_wp2_with fail
  exact ⟨rfl, rfl, Z.out.1, Z.out.2⟩
end

end Go.Proofs.YtilidolbplglcaaGreatDoor
