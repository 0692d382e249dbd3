/-
  Texts put together: Oh Oi Qb.
-/
import Derived.Test.YtfhghijefjhehaaGreatDoorMOd
import Derived.Test.YtfhghijefjhehaaGreatDoorMJd
/-! Oh -/
namespace Go.Proofs.YtfhghijefjhehaaGreatDoor
open Go.RowKit Go.Shelf
set_option linter.unusedVariables false
attribute [local go_sem] Oper.semAt_some

theorem Fr.putObj (W : World) (l : Nat) (o : Obj) : Fr (· = l) W (W.putObj l o) := by
  refine ⟨rfl, rfl, rfl, by simp [World.putObj], fun k _ hk => World.putObj_heap_other hk⟩
section
variable {W : World} {l : Nat} {r r' : Loop}
theorem It.putObj {B0 xh ob bp xt : Nat} {γ βd : Option Nat} {vd : Value} {done : List OpE} {id : Int} {x : Sy} {t : List El} (h : It B0 xh ob bp xt γ βd vd done id x t W) (hl : W.heap[l]? = some (.loop r)) (hB : 1 ≠ l) : It B0 xh ob bp xt γ βd vd done id x t (W.putObj l (.loop r')) :=
  h.fr (Fr.putObj W l _) (fun j cs t hj hc => by rw [hj, hl] at hc; cases hc) hB
theorem CpP.putObj {w : World} {pb : Nat} {vs : List PV} (h : CpP w pb vs W) (hl : W.heap[l]? = some (.loop r)) (hB : w.heap.size ≤ l) : CpP w pb vs (W.putObj l (.loop r')) :=
  h.fr (Fr.putObj W l _) (fun j cs t hj hc => by rw [hj, hl] at hc; cases hc) (fun j hj => by rw [hj]; exact hB)
end

set_option maxRecDepth 100000 in
theorem pstates_any (x : Nat) (a : Option Addr) (n c : Nat) (i : Int) (w : World) : Calls Tryz.prog 18 #[.agg #[.pointer (some ⟨x, 0, none⟩), .slice a n c], .int .i64 i] w fun e w' => e = .returned (.func (.func 50) #[] #[.pointer (some ⟨w.heap.size, 0, none⟩), .pointer (some ⟨w.heap.size + 1, 0, none⟩)]) ∧ w' = (w.alloc (.cells #[.pointer (some ⟨x, 0, none⟩), .slice a n c] 65)).alloc (.cells #[.int .i64 i] 3) := by
  go_enter Tryz.func18, Tryz.ntmps18
  go_wp2
  go_ret
  exact ⟨rfl, rfl⟩

end Go.Proofs.YtfhghijefjhehaaGreatDoor

/-! Oi -/
namespace Go.Proofs.YtfhghijefjhehaaGreatDoor
open Go.RowKit Go.Shelf
set_option linter.unusedVariables false
attribute [local go_sem] Oper.semAt_some

/-- A list of states in memory. -/
def IsVw (w : World) (v : Value) (vs : List Vw) : Prop := ∃ ps : List PV, (∃ β, SF vwc 3 w 72 β v ps) ∧ (∀ p ∈ ps, ∃ β, SE w β p.v p.doc) ∧ ps.map PV.view = vs
theorem isVw_nil (w : World) : IsVw w (.slice none 0 0) [] := ⟨[], ⟨none, rfl, rfl⟩, fun p hp => (by cases hp), rfl⟩

/-- What stands ahead of the loop. -/
structure IR (w : World) (pb xt bp bs : Nat) (C : Int) (vL vE vd : Value) (S : Nat → Ls) (L : Nat → Option Nat) (βd : Option Nat) (done : List OpE) (c : Nat) (W : World) : Prop where
  tl : TL W xt C vL vE S L
  bp : W.heap[bp]? = some (.cells #[.pointer (some ⟨xt, 0, none⟩), vd] 65 (0, 0))
  bs : W.heap[bs]? = some (.cells #[.int .i64 (c : Int)] 3 (0, 0))
  dn : FO W βd vd done
  tb : Table W
  cp : CpP w pb [] W
theorem IR.below {w : World} {pb xt bp bs : Nat} {C : Int} {vL vE vd : Value} {S : Nat → Ls} {L : Nat → Option Nat} {βd : Option Nat} {done : List OpE} {c : Nat} {W W' : World} (h : IR w pb xt bp bs C vL vE vd S L βd done c W) (hb : Below W.heap.size W W') : IR w pb xt bp bs C vL vE vd S L βd done c W' :=
  ⟨h.tl.below hb, (hb.block _ (block_lt h.bp)).trans h.bp, (hb.block _ (block_lt h.bs)).trans h.bs, h.dn.fr (Fr.of_below (S := fun _ => False) hb) (fun _ _ h => h), h.tb.below hb h.tb.1, h.cp.below hb⟩

theorem S2_ds {log : List Ed} {evs : List Ev} {D : Nat → List El} (nE c : Nat) (hc : c < 65) : S2 log evs D nE (130 + c) = .ds (ddAt evs D nE (c : Int)) := by
  unfold S2
  rw [if_neg (by omega), if_neg (by omega), show 130 + c - 130 = c by omega]
/-- The first state of a client. -/
theorem st0_wk {log : List Ed} {evs : List Ev} {D : Nat → List El} (c : Nat) : (stW apE log (edW evs D) 0).1 c = wk0 (ddAt evs D evs.length (c : Int)) := rfl
/-- Ahead of the loop. -/
theorem IR.begin {w w2 w3 : World} {x cN nL : Nat} {C : Int} {vL vE : Value} {S : Nat → Ls} {L : Nat → Option Nat} {βd : Option Nat} {done : List OpE} {aD : Option Addr} {cD pb : Nat} (hT : TL w2 x C vL vE S L) (b3 : Below w2.heap.size w2 w3) (hFO : FO w3 βd (.slice aD nL cD) done) (hTb : Table w) (hbel : Below w.heap.size w w2) (hpb : w2.heap[pb]? = some (.cells #[.slice none 0 0] 27 (0, 0))) (hlo : w.heap.size ≤ pb) :
    IR w pb x w3.heap.size (w3.heap.size + 1) C vL vE (.slice aD nL cD) S L βd done cN ((w3.alloc (.cells #[.pointer (some ⟨x, 0, none⟩), .slice aD nL cD] 65)).alloc (.cells #[.int .i64 (cN : Int)] 3)) := by
  have b4 : Below w3.heap.size w3 ((w3.alloc (.cells #[.pointer (some ⟨x, 0, none⟩), .slice aD nL cD] 65)).alloc (.cells #[.int .i64 (cN : Int)] 3)) := ((Below.refl _ _).alloc (Nat.le_refl _) _).alloc (by simp) _
  have b24 := b3.trans (b4.mono b3.size)
  have bel := hbel.trans (b24.mono hbel.size)
  refine ⟨hT.below b24, ?_, ?_, hFO.fr (Fr.of_below (S := fun _ => False) b4) (fun _ _ h => h), hTb.below bel hTb.1, ⟨⟨_, none, (b24.block _ (block_lt hpb)).trans hpb, ⟨rfl, rfl⟩, fun g hg => (by cases hg)⟩, fun p hp => (by cases hp), hlo, bel, hTb.1⟩⟩
  · exact (Below.heap_alloc _ _ _ (by simp)).trans (heap_alloc_new w3 _)
  · have := heap_alloc_new (w3.alloc (.cells #[.pointer (some ⟨x, 0, none⟩), .slice aD nL cD] 65)) (.cells #[.int .i64 (cN : Int)] 3)
    rwa [World.size_alloc] at this

theorem wpListIn_append_k {F : Fence} {n : Nat} {P : Program} (w : World) {ops : Array Oper} {rest : List Oper} {o : Oper} {a : Act} {Q : Exit → Act → World → Prop} (hgd : o.guard = none) (d s : Operand) (t t' : TypeId)
    (ho : o.op = .call { callee := .builtin .append, args := #[d, s], argTypes := #[t, t'] }) (v u : Value) (hd' : a.eval d = v) (hs : a.eval s = u) {v' : Value} {w' : World}
    (hr : (Builtin.append_ #[t, t'] o.type #[v, u]).run P w = .ok v' w') (h : wpListIn F n P ops Q rest (a.put o.dst v') w') : wpListIn F n P ops Q (o :: rest) a w := by
  refine wpListIn_plain hgd fun K hK => ?_
  unfold Oper.wpIn
  refine ⟨by simp [Oper.about, ho, resolve, Target.leads, Sem.run_pure], ?_⟩
  rw [Oper.semAt_plain F _ _ (by rw [ho]; intro c hc'; cases hc')]
  simp [execOp, ho, resolve, invoke, builtin, hd', hs, hr, Result.andThen]
  exact hK _ _ h
theorem retM {F : Fence} {n : Nat} {P : Program} {fn : Func} {R : Ending → World → Prop} {a : Act} {w : World} {v : Value} (hr : (results fn a.tmps).run P w = .ok v w) (hd' : a.defers = []) (hR : R (.returned v) w) : bodyPostM F n P fn R .ret a w := by
  show LeavesInM F n P fn a.tmps R a.defers .returning w
  rw [hd']
  exact ⟨v, hr, hR⟩

set_option maxRecDepth 100000 in
set_option maxHeartbeats 8000000 in
theorem hpath_any (C : Int) (aL aE : Option Addr) (nL cL nE cE : Nat) (log : List Ed) (evs : List Ev) (A : Nat → Option Addr) (K : Nat → Nat) (D : Nat → List El) (i : Int) (w : World) (hL : IsL w aL nL log) (hV : IsV w aE nE evs A K) (hX : IsX w evs A D) (hnE : nE ≤ 1466015503701)
    (hcl : ∀ j (h : j < log.length), 0 ≤ log[j].o.ch ∧ log[j].o.ch ≤ 255) (hce : ∀ j (h : j < evs.length), 0 ≤ evs[j].o.ch ∧ evs[j].o.ch ≤ 255) (hTb : Table w) :
    Calls Tryz.prog 6 #[.agg #[.int .i64 C, .slice aL nL cL, .slice aE nE cE], .int .i64 i] w fun e w' => ∃ v ev c p vs, e = .returned (.tuple #[v, ev]) ∧ Below w.heap.size w w' ∧ IsVw w' v vs ∧ PaP C nL nE log evs D i vs c p ∧ ((IsF w' ev p c ∧ c ≠ 0) ∨ (ev = .nilIface ∧ c = 0 ∧ p = -1)) := by
  have hb : Below w.heap.size w (w.alloc (.cells #[.int .i64 C, .slice aL nL cL, .slice aE nE cE] 25)) := (Below.refl _ _).alloc (Nat.le_refl _) _
  have HG := hd (heap_alloc_new w (.cells #[.int .i64 C, .slice aL nL cL, .slice aE nE cE] 25))
  have HB := hd hb
  have HLE := hd (show log.length = nL ∧ evs.length = nE from ⟨hL.1, hV.1⟩)
  have CR := hd (read_any C aL aE nL cL nE cE log evs A K D _ (hL.below hb (Nat.le_refl _)) (hV.below hb (Nat.le_refl _)) (hX.below hb (Nat.le_refl _)) (by omega) hcl hce)
  have HL := hd (fun u (hu : Below w.heap.size w u) => hL.below hu (Nat.le_refl _))
  have HTb := hd hTb
  have HCE := hd hce
  have hn8 : 1 ≤ 8 := by omega
  have hf1 : Fence.wide.fn 15 := trivial
  have hf2 : Fence.wide.fn 16 := trivial
  have hf3 : Fence.wide.fn 17 := trivial
  have hf4 : Fence.wide.fn 18 := trivial
  clear hb hL hV hX hnE hcl hce hTb
  refine (callsIn_wide (n := 8)).1 ?_
  refine callsIn_of_wp_marks Tryz.func6 rfl trivial ?_ rfl
  simp only [Tryz.ntmps6, List.size_toArray, List.length_cons, List.length_nil, Nat.reduceAdd, Nat.reduceSub, Array.replicate_succ, Array.replicate_zero, List.push_toArray, List.append_toArray, List.nil_append, List.cons_append]
  gi_upto_region 1 with fail
  generalize w.alloc (.cells #[.int .i64 C, .slice aL nL cL, .slice aE nE cE] 25) = w0 at *
  have m0 := cell_row HG.out 0; have m1 := cell_row HG.out 1; have m2 := cell_row HG.out 2
  simp at m0 m1 m2
  gi_upto_region 2 with (gi_at_call 15; refine (callsIn_wide.2 CR.out).mono ?_; intro e u hro; obtain ⟨v, ev, rfl, bu, hro⟩ := ro_split HLE.out.1 HLE.out.2 hro)
  have BU := hd (HB.out.trans (bu.mono HB.out.size))
  have n0 := (bu.cell (p := ⟨w.heap.size, 0, none⟩) (block_lt HG.out)).trans m0
  clear CR m0 m1 m2 bu HG HB
  rcases hro with ⟨c, p, hR, hF, hc⟩ | ⟨hR, rfl, x, L, rfl, hx, hT⟩
  · have Z : Hid (Below w.heap.size w u ∧ IsVw u (.slice none 0 0) [] ∧ PaP C nL nE log evs D i [] c p ∧ (IsF u ev p c ∧ c ≠ 0)) := ⟨BU.out, isVw_nil u, .inl ⟨hR, hc, rfl⟩, hF, hc⟩
    obtain ⟨b, rfl, -⟩ := hF
    clear hR hc BU HL HCE HLE n0
    gi_wp2
    refine retM (results_tmp2 rfl _ _ _) rfl ?_
    exact ⟨_, _, c, p, [], rfl, Z.out.1, Z.out.2.1, Z.out.2.2.1, .inl Z.out.2.2.2⟩
  · have HR := hd hR
    have HT := hd hT
    clear hR hT
    by_cases hi0 : i < 1
    · have CW := hd (fun W => wrap_any i 144 W)
      clear HL HCE HT
      gi_wp2_with (gi_at_call 16; refine (callsIn_wide.2 (CW.out _)).mono ?_; rintro e u2 ⟨v2, rfl, hF, b2⟩)
      have Z : Hid (Below w.heap.size w u2 ∧ PaP C nL nE log evs D i [] 144 i ∧ IsF u2 v2 i 144) := ⟨BU.out.trans (b2.mono BU.out.size), .inr (.inl ⟨HR.out, .inl hi0, rfl, rfl, rfl⟩), hF⟩
      clear hF b2 CW
      gi_wp2
      refine retM (results_tmp2 rfl _ _ _) rfl ?_
      exact ⟨_, _, 144, i, [], rfl, Z.out.1, isVw_nil _, Z.out.2.1, .inl ⟨Z.out.2.2, by omega⟩⟩
    · by_cases hi1 : C < i
      · have CW := hd (fun W => wrap_any i 144 W)
        clear HL HCE HT
        gi_wp2_with (gi_at_call 16; refine (callsIn_wide.2 (CW.out _)).mono ?_; rintro e u2 ⟨v2, rfl, hF, b2⟩)
        have Z : Hid (Below w.heap.size w u2 ∧ PaP C nL nE log evs D i [] 144 i ∧ IsF u2 v2 i 144) := ⟨BU.out.trans (b2.mono BU.out.size), .inr (.inl ⟨HR.out, .inr hi1, rfl, rfl, rfl⟩), hF⟩
        clear hF b2 CW
        gi_wp2
        refine retM (results_tmp2 rfl _ _ _) rfl ?_
        exact ⟨_, _, 144, i, [], rfl, Z.out.1, isVw_nil _, Z.out.2.1, .inl ⟨Z.out.2.2, by omega⟩⟩
      · obtain ⟨r1, r2, r3, r4, r5, -⟩ := rcs_zero HLE.out.1 HLE.out.2 HR.out
        obtain ⟨CN, hCN⟩ : ∃ CN : Nat, C = (CN : Int) := ⟨C.toNat, by omega⟩
        obtain ⟨cN, hcN⟩ : ∃ cN : Nat, i = (cN : Int) := ⟨i.toNat, by omega⟩
        subst hCN
        subst hcN
        have PFF := hd (pf_of (D := D) r3 r4 r5 HCE.out)
        have HI := hd (show 1 ≤ cN ∧ cN ≤ CN ∧ CN ≤ 64 from ⟨by omega, by omega, by omega⟩)
        have HN := hd (show nL ≤ 4096 from by have := HLE.out.1; omega)
        clear r1 r2 r3 r4 r5 HCE
        gi_upto_region 7 with fail
        have b2 : Below u.heap.size u (u.alloc (.cells #[.slice none 0 0] 27)) := (Below.refl _ _).alloc (Nat.le_refl _) _
        have hpb := hd (heap_alloc_new u (.cells #[.slice none 0 0] 27))
        have CF := hd (follow_any (HT.out.below b2) (by have := HI.out; omega) HI.out.2.2 ((HL.out u BU.out).below b2 (Nat.le_refl _)) HN.out (fun c => ddAt evs D evs.length ((c + 1 : Nat) : Int)) (fun c hc => by rw [← HLE.out.2]; exact S2_ds evs.length (c + 1) (by have := HI.out; omega)) (E := edW evs D) (fun c hc => rfl) PFF.out ((HTb.out.below BU.out HTb.out.1).below b2 (HTb.out.below BU.out HTb.out.1).1))
        have CPs := hd (fun a n c W => pstates_any x a n c (cN : Int) W)
        have HT2 := hd (HT.out.below b2)
        have BU2 := hd (BU.out.trans (b2.mono BU.out.size))
        have lpb : w.heap.size ≤ u.heap.size := BU.out.size
        clear b2 HT BU n0 hi0 hi1 HL
        generalize u.alloc (.cells #[.slice none 0 0] 27) = w2 at *
        generalize u.heap.size = pb at *
        gi_wp2_with (first | (gi_at_call 17; refine (callsIn_wide.2 CF.out).mono ?_; rintro e w3 ⟨aD, cD, βd, rfl, hFO, hβd, b3⟩) | (gi_at_call 18; refine (callsIn_wide.2 (CPs.out _ _ _ _)).mono ?_; rintro e w4 ⟨rfl, hw4⟩))
        have hIR := hd (IR.begin (cN := cN) HT2.out b3 hFO HTb.out BU2.out hpb.out lpb)
        have hls : w.heap.size ≤ ((w3.alloc (.cells #[.pointer (some ⟨x, 0, none⟩), .slice aD nL cD] 65)).alloc (.cells #[.int .i64 (cN : Int)] 3)).heap.size := hIR.out.cp.bel.size
        have HBT := hd HTb.out.1
        clear b3 hFO hβd HT2 BU2 hpb lpb CF CPs HTb hx
        generalize hW4 : (w3.alloc (.cells #[.pointer (some ⟨x, 0, none⟩), .slice aD nL cD] 65)).alloc (.cells #[.int .i64 (cN : Int)] 3) = w5 at *
        clear hW4
        refine range_as (F := Fence.wide) (α := Nat × Nat × Nat × Sy) rfl (by omega) (gf := 50) (lb := #[.pointer (some ⟨w3.heap.size, 0, none⟩), .pointer (some ⟨w3.heap.size + 1, 0, none⟩)]) rfl trivial (enters_of Tryz.func50 (by kernel_rfl) rfl) (fun q => encS q.2.2.2) (fun _ => rfl) (w5.heap.size + 1) w5.heap.size rfl rfl
          (IR w pb x w3.heap.size (w3.heap.size + 1) (CN : Int) (.slice aL nL cL) (.slice aE nE cE) (.slice aD nL cD) (S2 log evs D nE) L βd (stW apE log (edW evs D) nL).2 cN)
          (fun W => ∃ vs, CpP w pb vs W ∧ vs.map PV.view = pathP log evs D cN)
          (fun q W => It q.1 q.2.1 q.2.2.1 w3.heap.size x (L (130 + cN)) βd (.slice aD nL cD) (stW apE log (edW evs D) nL).2 (cN : Int) q.2.2.2 q.2.2.2.k.text W ∧ CpP w pb (q.2.2.2.pre ++ [q.2.2.2.pv]) W)
          (fun q W => It q.1 q.2.1 q.2.2.1 w3.heap.size x (L (130 + cN)) βd (.slice aD nL cD) (stW apE log (edW evs D) nL).2 (cN : Int) q.2.2.2 q.2.2.2.k.text W ∧ CpP w pb q.2.2.2.pre W ∧ q.2.2.2.pre.length ≤ 5000)
          (fun q a' W => ∃ vb, a' = { tmps := #[.agg #[.int .i64 (CN : Int), .slice aL nL cL, .slice aE nE cE], .int .i64 (cN : Int), .pointer (some ⟨w.heap.size, 0, none⟩), undef, .slice none 0 0, .nilIface, .pointer (some ⟨x, 0, none⟩), .nilIface, .pointer (some ⟨pb, 0, none⟩), undef, .pointer (some ⟨vb, 0, none⟩), .tuple #[.pointer (some ⟨x, 0, none⟩), .nilIface], .agg #[.int .i64 (CN : Int), .slice aL nL cL, .slice aE nE cE], .tuple #[.pointer (some ⟨x, 0, none⟩), .nilIface], .pointer (some ⟨x, 0, none⟩), .nilIface, .nilIface, .bool false, undef, .int .i64 (cN : Int), .bool false, .bool false, .int .i64 (cN : Int), .pointer (some ⟨w.heap.size, 0, none⟩), .int .i64 (CN : Int), .bool false, .bool false, undef, undef, .pointer (some ⟨x, 0, none⟩), .agg #[.pointer (some ⟨x, 0, none⟩), .slice aD nL cD], .int .i64 (cN : Int), .func (.func 50) #[] #[.pointer (some ⟨w3.heap.size, 0, none⟩), .pointer (some ⟨w3.heap.size + 1, 0, none⟩)], q.2.2.2.o.val, .agg #[.int .i64 q.2.2.2.k.hav, .int .i64 q.2.2.2.k.made, q.2.2.2.vt], undef, undef, undef, undef, undef], defers := [] } ∧ W.heap[vb]? = some (.cells (vwc q.2.2.2.pv).toArray 72 (0, 0)) ∧ It q.1 q.2.1 q.2.2.1 w3.heap.size x (L (130 + cN)) βd (.slice aD nL cD) (stW apE log (edW evs D) nL).2 (cN : Int) q.2.2.2 q.2.2.2.k.text W ∧ CpP w pb q.2.2.2.pre W ∧ q.2.2.2.pre.length ≤ 5000)
          (fun _ _ => False) ?pY ?pI ?pIe ?pIx ?h0 ?hseq ?hassign ?hbody ?hdone ?hstop
        case pY =>
          rintro q a' W r r' hl ⟨vb, h1, h2, h3, h4, h5⟩
          have e : vb ≠ w5.heap.size + 1 := fun e => by rw [e, hl] at h2; cases h2
          exact ⟨vb, h1, (World.putObj_heap_other e).trans h2, h3.putObj hl (by have := HBT.out; omega), h4.putObj hl (by omega), h5⟩
        case pI =>
          rintro q W r r' hl ⟨h3, h4⟩
          exact ⟨h3.putObj hl (by have := HBT.out; omega), h4.putObj hl (by omega)⟩
        case pIe =>
          rintro W r r' hl ⟨vs, h3, h4⟩
          exact ⟨vs, h3.putObj hl (by omega), h4⟩
        case pIx =>
          rintro c W r r' hl h
          exact h
        case h0 =>
          intro r
          exact hIR.out.below (((Below.refl _ _).alloc (Nat.le_refl _) _).alloc (by simp) _)
        case hseq =>
          intro r W1 X hLB h0 hY
          have hle := HLE.out
          obtain ⟨rfl, rfl⟩ := hle
          exact states_seq (n := 8 - 1) (by omega) hLB h0.tl (by have := HI.out; omega) (S2_ds _ _ (by have := HI.out; omega)) rfl PFF.out HN.out h0.bp h0.bs h0.dn h0.tb (fun pre W W' h f => h.fri f h0.cp.bel.size) h0.cp (fun B0 xh ob y W hl hi hc hpl => by
            obtain ⟨fn, tm, asg, bd, h1, h2⟩ := hY (B0, xh, ob, y) W hl ⟨hi, hc, hpl⟩
            refine ⟨fn, tm, asg, bd, h1, h2.mono ?_⟩
            rintro e W' (⟨e1, e2, e3, e4⟩ | h)
            · exact .inl ⟨e1, e2, e3, e4⟩
            · exact .inr h)
        case hassign =>
          rintro ⟨B0, xh, ob, y⟩ r W hLB ⟨hi, hc, hpl⟩ K1 hK1
          have HPL := hd hpl
          obtain ⟨βt, htx⟩ := hi.tx
          obtain ⟨av, cv, hav, -⟩ := htx.form
          have HK1 := hd hK1
          have ZW : Hid (∀ (W' : World), W' = W.alloc (.cells (vwc y.pv).toArray 72) → LB (w5.heap.size + 1) w5.heap.size r W' ∧ W'.heap[W.heap.size]? = some (.cells (vwc y.pv).toArray 72 (0, 0)) ∧ It B0 xh ob w3.heap.size x (L (130 + cN)) βd (.slice aD nL cD) (stW apE log (edW evs D) nL).2 (cN : Int) y y.k.text W' ∧ CpP w pb y.pre W') := by
            rintro W' rfl
            have hb : Below W.heap.size W (W.alloc (.cells (vwc y.pv).toArray 72)) := (Below.refl _ _).alloc (Nat.le_refl _) _
            exact ⟨⟨(hb.block _ (block_lt hLB.1)).trans hLB.1, (hb.block _ (block_lt hLB.2)).trans hLB.2⟩, heap_alloc_new W _, hi.below hb, hc.below hb⟩
          clear hK1 hi hc hLB htx hpl
          simp only [encS, vwc, Sy.pv, svl] at ZW ⊢
          obtain ⟨yo, yv, yk, yβ, yd, yp⟩ := y
          simp only at hav
          subst hav
          gi_wp2_with fail
          obtain ⟨z1, z2, z3, z4⟩ := ZW.out _ rfl
          exact HK1.out _ _ z1 ⟨W.heap.size, rfl, z2, z3, z4, HPL.out⟩
        case hbody =>
          rintro ⟨B0, xh, ob, y⟩ r a' W hLB ⟨vb, rfl, hvb, hi, hc, hpl⟩
          obtain ⟨vP, βp, h1, h2, h3⟩ := hc.row
          obtain ⟨aP, cP, rfl, -⟩ := h2.form
          obtain ⟨βt, htx⟩ := hi.tx
          obtain ⟨av, cv, hav, -⟩ := htx.form
          obtain ⟨aN, cNn, w', hrun, hpb', hcp, hF3⟩ := hc.push h1 y.pv ⟨βt, htx⟩ (by omega)
          have ZL : Hid (LB (w5.heap.size + 1) w5.heap.size r (w'.setCell ⟨pb, 0, none⟩ (.slice aN (y.pre.length + 1) cNn))) := ⟨hF3.keeps hLB.1 (fun hs => by obtain ⟨-, cs, t, e, -⟩ := hs; rw [hLB.1] at e; cases e), hF3.keeps hLB.2 (fun hs => by obtain ⟨-, cs, t, e, -⟩ := hs; rw [hLB.2] at e; cases e)⟩
          have ZI := hd (hi.fr hF3 (fun j cs t hs hj => by
            obtain ⟨-, cs', t', e1, e2⟩ := hs
            rw [hj] at e1
            obtain ⟨-, rfl⟩ : cs = cs' ∧ t = t' := by simpa using e1
            rcases e2 with rfl | rfl
            · exact ⟨by decide, by decide, by decide, by decide, by decide⟩
            · exact ⟨by decide, by decide, by decide, by decide, by decide⟩) (fun hs => by have := hs.1; have := HBT.out; omega))
          have ZC := hd hcp
          have c8 := cell_row h1 0
          have f8 := frozen_row h1 0
          have d8 := cell_row hpb' 0
          have g8 := frozen_row hpb' 0
          have e0 := cell_row hvb 0
          have e1 := cell_row hvb 1
          have e2 := cell_row hvb 2
          have lvb : vb < W.heap.size := block_lt hvb
          clear hvb hi hc hLB h1 h2 h3 htx hF3 hpb' hcp
          simp only [vwc, Sy.pv, svl, List.getElem?_toArray, List.getElem?_cons_zero, List.getElem?_cons_succ] at e0 e1 e2 hrun
          simp at c8 d8
          obtain ⟨yo, yv, yk, yβ, yd, yp⟩ := y
          simp only at *
          subst hav
          gi_wp2_with (gi_at_builtin; refine wpListIn_append_k _ rfl _ _ 27 27 rfl _ _ rfl rfl (hrun _) ?_)
          exact ⟨ZL.out, ZI.out, ZC.out⟩
        case hdone =>
          rintro W ⟨vs, hc, hm⟩ hD
          obtain ⟨vP, βp, h1, h2, h3⟩ := hc.row
          obtain ⟨aP, cP, rfl, -⟩ := h2.form
          have c8 := cell_row h1 0
          simp at c8
          have ZC : Hid (CpP w pb vs (W.putObj w5.heap.size (.deferred none))) := hc.fr (Fr.putObj W _ _) (fun j cs t hj hc => by rw [hj, hD] at hc; cases hc) (fun j hj => by rw [hj]; exact hls)
          have hne : pb ≠ w5.heap.size := fun e => by rw [e, hD] at h1; cases h1
          have ZV : Hid (IsVw (W.putObj w5.heap.size (.deferred none)) (.slice aP vs.length cP) (pathP log evs D cN)) := by
            obtain ⟨v', βp', k1, k2, k3⟩ := ZC.out.row
            have e1 := (World.putObj_heap_other (o := .deferred none) hne).trans h1
            rw [k1] at e1
            obtain rfl : v' = .slice aP vs.length cP := by simpa using e1
            exact ⟨vs, ⟨βp', k2⟩, ZC.out.doc, hm⟩
          have HDD := hd hD
          clear hc h1 h2 h3 hD hm
          gi_wp2_with fail
          refine ⟨by simp, .inl ⟨_, _, rfl, run_takeDeferred HDD.out, ?_⟩⟩
          refine ⟨_, results_tmp2 rfl _ _ _, _, _, 0, -1, _, rfl, ZC.out.bel, ZV.out, .inr (.inr ⟨HR.out, cN, rfl, by have := HI.out; omega, by have := HI.out; omega, rfl, rfl, rfl⟩), .inr ⟨rfl, rfl, rfl⟩⟩
        case hstop =>
          rintro c W h
          exact h.elim

end Go.Proofs.YtfhghijefjhehaaGreatDoor

/-! Qb -/
namespace Go.Proofs.YtfhghijefjhehaaGreatDoor
open Go.RowKit
set_option linter.unusedVariables false

theorem SE.text {w : World} {β : Option Nat} {v : Value} {xs : List El} (h : SE w β v xs) : ∃ a c, v = .slice a xs.length c ∧ IsTx w a xs ∧ xs.length ≤ 9223372036854775807 := by
  obtain ⟨a, c, e, h1, -⟩ := h.form
  refine ⟨a, c, e, fun hn => ?_, by have := h1.2.1; have := h1.2.2.1; omega⟩
  obtain ⟨b, off, rfl, hb, -⟩ := h1.2.2.2 hn
  exact ⟨b, off, rfl, hb, fun q hq => h1.at q hq hq⟩
/-- Each state, as it lies there. -/
def IsVs (w : World) (a : Option Addr) (vs : List Vw) : Prop := vs.length ≤ 9223372036854775807 ∧ ∀ q (hq : q < vs.length), ∃ b ad cd, a = some ⟨b, 0, none⟩ ∧ w.cell? ⟨b, q * 3, none⟩ = some (.int .i64 (vs[q].hav : Int)) ∧ w.cell? ⟨b, q * 3 + 1, none⟩ = some (.int .i64 (vs[q].made : Int)) ∧ w.cell? ⟨b, q * 3 + 2, none⟩ = some (.slice ad vs[q].doc.length cd) ∧ IsTx w ad vs[q].doc ∧ vs[q].doc.length ≤ 9223372036854775807
theorem IsVw.form {w : World} {v : Value} {vs : List Vw} (h : IsVw w v vs) : ∃ a c, v = .slice a vs.length c ∧ IsVs w a vs := by
  obtain ⟨ps, ⟨β, h1⟩, h2, rfl⟩ := h
  cases β with
  | none =>
    obtain ⟨rfl, rfl⟩ := h1
    exact ⟨none, 0, rfl, by simp, fun q hq => by simp at hq⟩
  | some g =>
    obtain ⟨cap, rfl, hR⟩ := h1
    obtain ⟨cur, q1, q2, q3, q4, q5, q6⟩ := id hR
    refine ⟨_, cap, by rw [List.length_map], by rw [List.length_map]; omega, fun q hq => ?_⟩
    have hq' : q < ps.length := by simpa using hq
    have k0 := hR.cell szV q 0 hq' (by omega)
    have k1 := hR.cell szV q 1 hq' (by omega)
    have k2 := hR.cell szV q 2 hq' (by omega)
    obtain ⟨β', h3⟩ := h2 ps[q] (List.getElem_mem hq')
    obtain ⟨ad, cd, e1, e2, e3⟩ := h3.text
    rw [List.getElem_map]
    simp only [vwc, e1, svl] at k0 k1 k2
    exact ⟨g, ad, cd, rfl, by simpa [PV.view] using k0, by simpa [PV.view] using k1, by simpa [PV.view] using k2, e2, e3⟩
theorem IsTx.drewN {w : World} {a : Option Addr} {xs : List El} (h : IsTx w a xs) (m : Nat) : IsTx (w.drewN m) a xs := h

set_option maxRecDepth 100000 in
set_option maxHeartbeats 4000000 in
theorem sameViews_true (v v' : Value) (vs : List Vw) (w : World) (hT : IsVw w v vs) (hU : IsVw w v' vs) :
    Calls Tryz.prog 9 #[v, v'] w fun e w' => e = .returned (.bool true) ∧ ∃ m, w' = w.drewN m := by
  obtain ⟨a, c, rfl, hn, hT⟩ := hT.form
  obtain ⟨a', c', rfl, -, hU⟩ := hU.form
  obtain ⟨n, hnx⟩ : ∃ n, n = vs.length := ⟨_, rfl⟩
  rw [← hnx] at hn ⊢
  have HT := hd hT
  have HU := hd hU
  have HN := hd hnx
  clear hT hU hnx
  go_enter Tryz.func9, Tryz.ntmps9
  go_wp2
  go_loopw [5] (fun i wr => ∃ k m : Nat, k ≤ n ∧ i = .int .i64 k ∧ wr = w.drewN m) (fun i _ => n - (intOf i).toNat)
  case atStart => exact ⟨0, 0, Nat.zero_le _, rfl, rfl⟩
  case round =>
    obtain ⟨k, m, hk, rfl, hw⟩ := hrel
    have HW := hd hw
    by_cases hlt : k < n
    · have kx : k < vs.length := by have := HN.out; omega
      obtain ⟨b1, d1, c1, rfl, x0, x1, x2, ht, hl⟩ := HT.out k kx
      obtain ⟨b2, d2, c2, rfl, y0, y1, y2, ht', -⟩ := HU.out k kx
      have i1 : (k : Int) < (n : Int) := by omega
      have CS := hd (fun j => sameDoc_true d1 d2 c1 c2 vs[k].doc (wr.drewN j) (by rw [hw]; exact (ht.drewN m).drewN j) (by rw [hw]; exact (ht'.drewN m).drewN j) hl)
      have x0 : wr.cell? ⟨b1, k * 3, none⟩ = some (.int .i64 (vs[k].hav : Int)) := by rw [hw]; exact x0
      have x1 : wr.cell? ⟨b1, k * 3 + 1, none⟩ = some (.int .i64 (vs[k].made : Int)) := by rw [hw]; exact x1
      have x2 : wr.cell? ⟨b1, k * 3 + 2, none⟩ = some (.slice d1 vs[k].doc.length c1) := by rw [hw]; exact x2
      have y0 : wr.cell? ⟨b2, k * 3, none⟩ = some (.int .i64 (vs[k].hav : Int)) := by rw [hw]; exact y0
      have y1 : wr.cell? ⟨b2, k * 3 + 1, none⟩ = some (.int .i64 (vs[k].made : Int)) := by rw [hw]; exact y1
      have y2 : wr.cell? ⟨b2, k * 3 + 2, none⟩ = some (.slice d2 vs[k].doc.length c2) := by rw [hw]; exact y2
      clear ht ht' hl hw
      generalize vs[k].hav = h0 at *
      generalize vs[k].made = h1 at *
      generalize vs[k].doc.length = h2 at *
      go_upto_region 6 with fail
      go_quiet ((go_at_call 22; exact Calls.quiet_of (CS.out _)))
      go_wp2
      exact ⟨⟨k + 1, m + _, by omega, by go_num, by rw [HW.out, World.drewN_drewN]⟩, by simp [intOf]; omega⟩
    · obtain rfl : k = n := by omega
      clear hw
      go_wp2
      go_ret
      exact ⟨rfl, m, HW.out⟩

end Go.Proofs.YtfhghijefjhehaaGreatDoor
