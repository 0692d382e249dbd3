/-
  Texts put together: Oe Of Ip Og Pa.
-/
import Derived.Test.YtfhghijefjhehaaGreatDoorMLn
import Derived.Test.YtfhghijefjhehaaGreatDoorMIt
import Derived.Test.YtfhghijefjhehaaGreatDoorMHq
import Derived.Test.YtfhghijefjhehaaGreatDoorMHg
/-! Oe -/
namespace Go.Proofs.YtfhghijefjhehaaGreatDoor
open Go.RowKit Go.Shelf
set_option linter.unusedVariables false
attribute [local go_sem] Oper.semAt_some

section
variable {W1 : World} {xt : Nat} {C : Int} {vL vE : Value} {S : Nat → Ls} {L : Nat → Option Nat} {log : List Ed} {E : Nat → List Ed} {Cn c : Nat} {ds0 : List Dd} {bp bs : Nat} {βd : Option Nat} {vd : Value} {l D n : Nat} {r : Loop} {X : World → Prop} {Cp : List PV → World → Prop}
/-- What a round leaves. -/
def PoS (l D : Nat) (r : Loop) (X : World → Prop) (Cp : List PV → World → Prop) (B0 xh ob bp xt : Nat) (γ βd : Option Nat) (vd : Value) (done : List OpE) (c : Int) (x : Sy) (b : Bool) (u : World) : Prop :=
  (b = true ∧ LB l D r u ∧ It B0 xh ob bp xt γ βd vd done c x x.k.text u ∧ Cp (x.pre ++ [x.pv]) u) ∨ (b = false ∧ X u)

/-- The done form that is next. -/
theorem FO.nth {w : World} {β : Option Nat} {a : Option Addr} {n cp i : Nat} {fs : List OpE} (h : FO w β (.slice a n cp) fs) (hi : i < fs.length) : ∃ g off, a = some ⟨g, off, none⟩ ∧ n = fs.length ∧ n ≤ cp ∧ cp ≤ 9223372036854775807 ∧ g < w.heap.size ∧
    w.cell? ⟨g, off + i * 5, none⟩ = some (.int .i64 fs[i].kind) ∧ w.cell? ⟨g, off + i * 5 + 1, none⟩ = some (.int .i64 fs[i].pos) ∧ w.cell? ⟨g, off + i * 5 + 2, none⟩ = some (.int .u8 fs[i].ch) ∧ w.cell? ⟨g, off + i * 5 + 3, none⟩ = some (.int .i64 fs[i].cl) ∧ w.cell? ⟨g, off + i * 5 + 4, none⟩ = some (.int .i64 fs[i].sq) := by
  cases β with
  | none => obtain ⟨-, h⟩ := h; subst h; simp at hi
  | some g =>
    obtain ⟨off, cap, cur, hv, h2, h3, h4, h5, h6⟩ := h
    obtain ⟨rfl, rfl, rfl⟩ : a = some ⟨g, off, none⟩ ∧ n = fs.length ∧ cp = cap := by simpa using hv
    have hz : Sz opc 5 := fun o => ⟨rfl, fun v hv => cO_one' [o] v (by rw [cO_one]; exact hv)⟩
    have hc : ∀ j u, j < 5 → (opc fs[i])[j]? = some u → w.cell? ⟨g, off + (i * 5 + j), none⟩ = some u := fun j u hj5 hj => by
      rw [cell_row h2, List.getElem?_toArray]
      refine h6 _ u ?_
      have := cl_get hz fs i j hi hj5
      rw [hj] at this
      exact this
    simp only [← Nat.add_assoc] at hc
    exact ⟨g, off, rfl, rfl, h3, h4, block_lt h2, hc 0 _ (by omega) rfl, hc 1 _ (by omega) rfl, hc 2 _ (by omega) rfl, hc 3 _ (by omega) rfl, hc 4 _ (by omega) rfl⟩

theorem It.pre {B0 xh ob : Nat} {γ : Option Nat} {done : List OpE} {id : Int} {o : OpE} {v : Value} {k : Wk} {β : Option Nat} {ds : List Dd} {p : List PV} {t : List El} {W : World} (h : It B0 xh ob bp xt γ βd vd done id ⟨o, v, k, β, ds, p⟩ t W) (p' : List PV) : It B0 xh ob bp xt γ βd vd done id ⟨o, v, k, β, ds, p'⟩ t W :=
  ⟨h.hk, h.op, h.tx, h.bx, h.dn, h.tb, h.lx, h.lob, h.lb, h.lg, h.ld, h.lp, h.lt, h.sz, h.gw, h.hv⟩
/-- One state more. -/
theorem SI.next {B0 xh ob : Nat} {γ : Option Nat} {T : List Vw} {x : Sy} {o : OpE} {v : Value} {k' : Wk} {β : Option Nat} {ds : List Dd} {t : List El} {W : World} (h : It B0 xh ob bp xt γ βd vd (stW apE log E log.length).2 (c : Int) ⟨o, v, k', β, ds, x.pre⟩ t W) (ht : t = k'.text) (hC : Cp (x.pre ++ [x.pv]) W) (hLb : LB l D r W) (hO : OnW log E c k')
    (hV : x.pre.map PV.view ++ (x.k.view :: wayW apE (stW apE log E log.length).2 (c : Int) x.k) = T) (hw : wayW apE (stW apE log E log.length).2 (c : Int) x.k = k'.view :: wayW apE (stW apE log E log.length).2 (c : Int) k') : SI l D r Cp B0 xh ob bp xt γ βd vd log E c T (k'.still.length + (log.length - k'.hav)) v W := by
  subst ht
  refine ⟨⟨o, v, k', β, ds, x.pre ++ [x.pv]⟩, rfl, h.pre _, hC, hLb, hO, ?_, rfl⟩
  rw [← hV, hw]
  simp [Sy.pv, PV.view, Wk.view]
theorem PF.nth (hP : PF Cn log E) {k : Nat} (hk : k < log.length) : ∃ h : k < (stW apE log E log.length).2.length, (stW apE log E log.length).2[k] = opK apE log E k := by
  have hl := hP.len log.length (Nat.le_refl _)
  refine ⟨by omega, ?_⟩
  have e : (stW apE log E log.length).2[k]? = some (opK apE log E k) := by
    rw [done_at _ (Nat.le_refl _), List.getElem?_map, List.getElem?_range hk]
    rfl
  rw [List.getElem?_eq_getElem (by omega)] at e
  exact Option.some.inj e
theorem PF.okK (hP : PF Cn log E) {k : Nat} (hk : k < log.length) : okC (opK apE log E k) := by
  obtain ⟨o1, l, o2⟩ := hP.op k hk
  exact (hP.gw k log[k].o.cl.toNat).all.o _ (by rw [o2]; simp)

theorem wayF_len (done : List OpE) (id : Int) : ∀ (n : Nat) (k : Wk), (wayF apE done id n k).length ≤ n
  | 0, k => Nat.le_refl _
  | n + 1, k => by
    unfold wayF
    split
    · have := wayF_len done id n (k.mk1 apE)
      simp
      omega
    · split
      · rename_i o _
        have := wayF_len done id n (k.take apE o (o.cl == id))
        simp
        omega
      · simp
theorem path_len (hP : PF Cn log E) (hE : ds0.map (·.e) = E c) (hlen : log.length ≤ 4096) : ((wk0 ds0).view :: wayW apE (stW apE log E log.length).2 (c : Int) (wk0 ds0)).length ≤ 5000 := by
  have h1 := wayF_len (stW apE log E log.length).2 (c : Int) ((wk0 ds0).still.length + ((stW apE log E log.length).2.length - (wk0 ds0).hav)) (wk0 ds0)
  have h2 := (hP.gw 0 c).n
  have h3 := hP.len log.length (Nat.le_refl _)
  have e0 : wk0 ds0 = (stW apE log E 0).1 c := by simp only [wk0, stW]; rw [hE]
  rw [← e0] at h2
  have h4 : (wk0 ds0).hav = 0 := rfl
  unfold wayW
  simp only [List.length_cons]
  omega

end

end Go.Proofs.YtfhghijefjhehaaGreatDoor

/-! Of -/
namespace Go.Proofs.YtfhghijefjhehaaGreatDoor
open Go.RowKit Go.Shelf
set_option linter.unusedVariables false
attribute [local go_sem] Oper.semAt_some

theorem range_as {P : Program} {F : Fence} {n : Nat} {α : Type} {g : Operand} {ps : Array Tmp} {assign body : Code} {Q : Exit → Act → World → Prop} {a : Act} {w : World}
    (hro : F.round = none) (h1 : 1 ≤ n) {gf : Nat} {lb : Array Value} (hg : a.eval g = .func (.func gf) #[] lb) (hFg : F.fn gf) (eg : ∀ args w, (callFunc gf args).run P w = .ok (.enter gf args) w)
    (encs : α → Array Value) (hps : ∀ x, (encs x).size = ps.size) (l D : Nat) (hD : D = w.heap.size) (hl : l = w.heap.size + 1)
    (I0 Ie : World → Prop) (I Y : α → World → Prop) (Ya : α → Act → World → Prop) (Ix : Code → World → Prop)
    (pY : ∀ x a W r r', W.heap[l]? = some (.loop r) → Ya x a W → Ya x a (W.putObj l (.loop r'))) (pI : ∀ x W r r', W.heap[l]? = some (.loop r) → I x W → I x (W.putObj l (.loop r'))) (pIe : ∀ W r r', W.heap[l]? = some (.loop r) → Ie W → Ie (W.putObj l (.loop r'))) (pIx : ∀ c W r r', W.heap[l]? = some (.loop r) → Ix c W → Ix c (W.putObj l (.loop r')))
    (h0 : ∀ r, I0 ((w.alloc (.deferred (some []))).alloc (.loop r)))
    (hseq : ∀ (r : Loop) (W1 : World) (X : World → Prop), LB l D r W1 → I0 W1 →
      (∀ x W, LB l D r W → Y x W → YieldAt F (n - 1 - 1) P l (encs x) W fun e W' => (e = .returned (.bool true) ∧ LB l D r W' ∧ I x W') ∨ (e = .returned (.bool false) ∧ X W')) →
      CallsIn F (n - 1) P gf (#[.func (.yield l) #[] #[]] ++ lb) W1 fun e W' => (∃ v, e = .returned v) ∧ ((LB l D r W' ∧ Ie W') ∨ X W'))
    (hassign : ∀ (x : α) (r : Loop) (W : World), LB l D r W → Y x W → ∀ (K : Act → World → Prop), (∀ a' W', LB l D r W' → Ya x a' W' → K a' W') → assign.wpIn (F.inRound l) (n - 1 - 1) P (Exit.then K (fun _ _ _ => False)) { tmps := (ps.zip (encs x)).foldl (fun t (p, v) => t.setIfInBounds p v) a.tmps, defers := [] } W)
    (hbody : ∀ (x : α) (r : Loop) (a' : Act) (W : World), LB l D r W → Ya x a' W → body.wpIn (F.inRound l) (n - 1 - 1) P (outPost l D r (I x) Ix) a' W)
    (hdone : ∀ W, Ie W → W.heap[D]? = some (.deferred (some [])) → Q .normal { a with defers := { target := .collected D, args := #[] } :: a.defers } W)
    (hstop : ∀ c W, Ix c W → W.heap[D]? = some (.deferred (some [])) → c.wpIn F n P Q { a with defers := { target := .collected D, args := #[] } :: a.defers } W) :
    (Code.rangeFunc g ps assign body).wpIn F n P Q a w := by
  subst hD
  have hlD : w.heap.size ≠ l := by omega
  refine wpIn_rangeFunc fun fn hfn => ?_
  rw [hro]
  obtain ⟨r0, hr0⟩ : ∃ r0 : Loop, r0 = { state := .ready, pending := none, fn, tmps := a.tmps, params := ps, assign, body, defers := w.heap.size } := ⟨_, rfl⟩
  obtain ⟨W1, hW1⟩ : ∃ W1, (w.alloc (.deferred (some []))).alloc (.loop r0) = W1 := ⟨_, rfl⟩
  have hL1 : LB l w.heap.size r0 W1 := by
    rw [← hW1, hl]
    refine ⟨?_, (Below.heap_alloc _ _ _ (by simp)).trans (World.alloc_heap_new w _)⟩
    have := World.alloc_heap_new (w.alloc (.deferred (some []))) (.loop r0)
    rwa [World.size_alloc] at this
  refine ⟨l, [{ target := .collected w.heap.size, args := #[] }], W1, { target := .fn (.func gf) lb, args := #[.func (.yield l) #[] #[]] }, W1, gf, #[.func (.yield l) #[] #[]] ++ lb, W1, ?_, ?_, ?_, ?_, fun _ => h1, ?_⟩
  · rw [← hW1, hr0, hl]; exact run_enterLoop_outer _ _ _ _ _
  · simp only [resolve, hg]
    simp [go_sem]
  · intro f' hf'; simp [Target.leads] at hf'; subst hf'; exact hFg
  · simp [invoke, go_sem, eg]
  · refine (hseq r0 W1 (fun W => ∃ c, LB l w.heap.size { r0 with state := .done, pending := some c } W ∧ Ix c W) hL1 (by rw [← hW1]; exact h0 _) ?_).mono ?_
    · rintro x W ⟨hb1, hb2⟩ hY
      have hlt : l < W.heap.size := block_lt hb1
      have hy := run_yield (P := P) (args := encs x) hb1 (by rw [hr0]; exact hps x)
      rw [hr0] at hy
      refine ⟨fn, _, assign, body, hy, roundIn_of_wpIn hfn (hassign x r0 W ⟨hb1, hb2⟩ hY _ ?_)⟩
      clear hy hb1 hb2 hY hlt
      rintro a2 W2 ⟨hb1, hb2⟩ hY
      have hlt : l < W2.heap.size := block_lt hb1
      refine ⟨_, run_beginRound hb1 (by rw [hr0]), ?_⟩
      have lb2 : LB l w.heap.size { r0 with state := .busy } (W2.putObj l (.loop { r0 with state := .busy })) := ⟨World.putObj_heap_same hlt, (World.putObj_heap_other hlD).trans hb2⟩
      refine wpIn_mono (hbody x _ _ _ lb2 (pY _ _ _ _ _ hb1 hY)) ?_
      have fin : ∀ (jump : Option Code) (W3 : World), LB l w.heap.size { r0 with state := .busy } W3 → (Instr.endRound l jump).run P W3 = .ok (.bool jump.isNone) (W3.putObj l (.loop { r0 with state := if jump.isNone then .ready else .done, pending := jump })) ∧ LB l w.heap.size { r0 with state := if jump.isNone then .ready else .done, pending := jump } (W3.putObj l (.loop { r0 with state := if jump.isNone then .ready else .done, pending := jump })) := fun jump W3 h3 =>
        ⟨by have := run_endRound (P := P) jump h3.1; exact this, World.putObj_heap_same (block_lt h3.1), (World.putObj_heap_other hlD).trans h3.2⟩
      rintro e a3 W3 hp
      cases e with
      | normal =>
        obtain ⟨hr, h4⟩ := fin none W3 hp.1
        refine ⟨_, _, hr, .inl ⟨rfl, ?_, pI _ _ _ _ hp.1.1 hp.2⟩⟩
        have e : ({ r0 with state := if (none : Option Code).isNone then .ready else .done, pending := none } : Loop) = r0 := by rw [hr0]; rfl
        rw [e] at h4 ⊢
        exact h4
      | ret =>
        obtain ⟨hr, h4⟩ := fin (some .ret) W3 hp.1
        exact ⟨_, _, hr, .inr ⟨rfl, .ret, h4, pIx _ _ _ _ hp.1.1 hp.2⟩⟩
      | exit id =>
        obtain ⟨hr, h4⟩ := fin (some (.exit id)) W3 hp.1
        exact ⟨_, _, hr, .inr ⟨rfl, .exit id, h4, pIx _ _ _ _ hp.1.1 hp.2⟩⟩
      | goto t =>
        obtain ⟨hr, h4⟩ := fin (some (.goto t)) W3 hp.1
        exact ⟨_, _, hr, .inr ⟨rfl, .goto t, h4, pIx _ _ _ _ hp.1.1 hp.2⟩⟩
      | panic ch => exact hp.elim
      | outgrown => exact hp.elim
    · rintro e W2 ⟨⟨v, rfl⟩, (⟨h2, hi⟩ | ⟨c, h2, hi⟩)⟩
      · have he := run_endLoop (P := P) h2.1 (by rw [hr0]; simp)
        have hp : r0.pending = none := by rw [hr0]
        rw [hp] at he
        exact ⟨none, _, he, hdone _ (pIe _ _ _ h2.1 hi) ((World.putObj_heap_other hlD).trans h2.2)⟩
      · have he := run_endLoop (P := P) h2.1 (by simp)
        exact ⟨some c, _, he, hstop c _ (pIx _ _ _ _ h2.1 hi) ((World.putObj_heap_other hlD).trans h2.2)⟩

/-- The value of a slice. -/
def svl : Value → Value
  | .slice a n c => .slice a n c
  | _ => .slice none 0 0
def vwc (p : PV) : List Value := [.int .i64 p.hav, .int .i64 p.made, svl p.v]
theorem svl_one (v : Value) : (svl v).oneCell' = true := by cases v <;> rfl
theorem szV : Sz vwc 3 := fun p => ⟨rfl, fun v hv => by
  simp only [vwc, List.mem_cons, List.not_mem_nil, or_false] at hv
  rcases hv with rfl | rfl | rfl
  · rfl
  · rfl
  · exact svl_one _⟩
theorem infoVw : (Tryz.prog.info? 72).map (fun i => (i.zero, i.size, i.bytes)) = some (some (.agg #[.int .i64 0, .int .i64 0, .slice none 0 0]), 3, 40) := by kernel_rfl

/-- append of one view. -/
theorem push_vw (w : World) (β : Option Nat) (v : Value) (xs : List PV) (hv : SF vwc 3 w 72 β v xs) (b : Nat) (x : PV) (hb : w.heap[b]? = some (.cells (vwc x).toArray 72 (0, 0))) (hn : xs.length ≤ 1000000) :
    ∃ v' w', (∀ ty, (Builtin.append_ #[27, 27] ty #[v, .slice (some ⟨b, 0, none⟩) 1 1]).run Tryz.prog w = .ok v' w') ∧ NowF vwc 3 w w' 72 β v' (xs ++ [x]) := by
  obtain ⟨i0, hi0, hz0, hz1, hz2⟩ := info_parts infoVw
  obtain ⟨v', w', hr, hN⟩ := run_pushF szV (P := Tryz.prog) w 27 0 72 i0 _ 40 Tryz.underlying27 hi0 hz0 hz1 rfl hz2 β v xs hv ⟨b, 0, none⟩ 1 1 [x] rfl (fun j u hj => by
    rw [cl_one] at hj
    rw [add_lit, cell_row hb, Nat.zero_add, List.getElem?_toArray]
    exact hj) (by omega) (by omega) (by omega)
  exact ⟨v', w', fun ty => hr, hN⟩

/-- What Path has gathered: the list in the box pb. -/
structure CpP (w : World) (pb : Nat) (vs : List PV) (W : World) : Prop where
  row : ∃ v βp, W.heap[pb]? = some (.cells #[v] 27 (0, 0)) ∧ SF vwc 3 W 72 βp v vs ∧ ∀ g, βp = some g → w.heap.size ≤ g
  doc : ∀ p ∈ vs, ∃ β, SE W β p.v p.doc
  lo : w.heap.size ≤ pb
  bel : Below w.heap.size w W
  lt : 1 < w.heap.size

section
variable {w W W' : World} {pb : Nat} {vs : List PV}
theorem CpP.fr {S : Nat → Prop} (h : CpP w pb vs W) (hF : Fr S W W') (hS : ∀ j cs t, S j → W.heap[j]? = some (.cells cs t (0, 0)) → t ≠ 27 ∧ t ≠ 72 ∧ t ≠ 42) (hb : ∀ j, S j → w.heap.size ≤ j) : CpP w pb vs W' := by
  obtain ⟨v, βp, h1, h2, h3⟩ := h.row
  refine ⟨⟨v, βp, hF.keeps h1 (fun hs => (hS _ _ _ hs h1).1 rfl), h2.fr hF (fun g hg hs => ?_), h3⟩, fun p hp => ?_, h.lo, h.bel.trans (hF.below h.bel.size hb), h.lt⟩
  · subst hg
    obtain ⟨cur, hc⟩ := SF.blk h2
    exact (hS _ _ _ hs hc).2.1 rfl
  · obtain ⟨β, hs⟩ := h.doc p hp
    refine ⟨β, hs.fr hF (fun g hg hS' => ?_)⟩
    subst hg
    obtain ⟨cs, hc⟩ := hs.blk
    exact (hS _ _ _ hS' hc).2.2 rfl
theorem CpP.fri {B0 : Nat} (h : CpP w pb vs W) (hF : FrI B0 W W') (hB : w.heap.size ≤ B0) : CpP w pb vs W' := by
  refine h.fr hF (fun j cs t hs hc => ?_) (fun j hs => Nat.le_trans hB hs.1)
  obtain ⟨-, cs', t', h1, h2⟩ := hs
  rw [hc] at h1
  obtain ⟨-, rfl⟩ : cs = cs' ∧ t = t' := by simpa using h1
  rcases h2 with rfl | rfl
  · exact ⟨by decide, by decide, by decide⟩
  · exact ⟨by decide, by decide, by decide⟩
theorem CpP.below (h : CpP w pb vs W) (hb : Below W.heap.size W W') : CpP w pb vs W' := h.fr (S := fun _ => False) (Fr.of_below hb) (fun _ _ _ hs => hs.elim) (fun _ hs => hs.elim)

/-- One view more: behind the append the box is written. -/
theorem CpP.push {v : Value} (h : CpP w pb vs W) (hv : W.heap[pb]? = some (.cells #[v] 27 (0, 0))) (x : PV) (hx : ∃ β, SE W β x.v x.doc) (hn : vs.length ≤ 1000000) :
    ∃ a c w', (∀ ty, (Builtin.append_ #[27, 27] ty #[v, .slice (some ⟨W.heap.size, 0, none⟩) 1 1]).run Tryz.prog (W.alloc (.cells (vwc x).toArray 72)) = .ok (.slice a (vs.length + 1) c) w') ∧ w'.heap[pb]? = some (.cells #[v] 27 (0, 0)) ∧
      CpP w pb (vs ++ [x]) (w'.setCell ⟨pb, 0, none⟩ (.slice a (vs.length + 1) c)) ∧ Fr (fun j => w.heap.size ≤ j ∧ ∃ cs t, W.heap[j]? = some (.cells cs t (0, 0)) ∧ (t = 27 ∨ t = 72)) W (w'.setCell ⟨pb, 0, none⟩ (.slice a (vs.length + 1) c)) := by
  obtain ⟨v0, βp, h1, h2, h3⟩ := h.row
  obtain rfl : v0 = v := by rw [hv] at h1; simpa using h1.symm
  have b1 : Below W.heap.size W (W.alloc (.cells (vwc x).toArray 72)) := (Below.refl _ _).alloc (Nat.le_refl _) _
  have r1 := h2.fr (Fr.of_below (S := fun _ => False) b1) (fun _ _ h => h)
  obtain ⟨v', w', hr, g', hS', hN⟩ := push_vw _ βp v0 vs r1 W.heap.size x (heap_alloc_new W _) hn
  obtain ⟨a, c, hv', -⟩ := hS'.form
  simp only [List.length_append, List.length_cons, List.length_nil, Nat.zero_add] at hv'
  subst hv'
  have lpb : pb < W.heap.size := block_lt h1
  have hF1 : Fr (fun j => βp = some j) W w' := by
    have hF : Fr (fun j => βp = some j) (W.alloc (.cells (vwc x).toArray 72)) w' := by
      rcases hN with ⟨a, b⟩ | ⟨a, b⟩
      · exact b.mono (fun j _ hj => by rw [hj]; exact a)
      · exact b.mono (fun j _ hj => hj.elim)
    exact (Fr.of_below b1).trans hF
  have hpb : βp ≠ some pb := fun e => by
    rw [e] at h2
    obtain ⟨cur, hc⟩ := SF.blk h2
    rw [h1] at hc
    simp at hc
  have hw' := hF1.keeps h1 hpb
  have hF2 : Fr (fun j => βp = some j ∨ j = pb) W (w'.setCell ⟨pb, 0, none⟩ (.slice a (vs.length + 1) c)) := (hF1.mono (fun j _ hj => .inl hj)).trans (Fr.setCell _ _ _ (.inr rfl))
  have hg' : g' ≠ pb := fun e => by
    obtain ⟨cur, hc⟩ := SF.blk hS'
    rw [e, hw'] at hc
    simp at hc
  have hF3 : Fr (fun j => w.heap.size ≤ j ∧ ∃ cs t, W.heap[j]? = some (.cells cs t (0, 0)) ∧ (t = 27 ∨ t = 72)) W (w'.setCell ⟨pb, 0, none⟩ (.slice a (vs.length + 1) c)) := hF2.mono (fun j _ hj => by
    rcases hj with hj | rfl
    · refine ⟨h3 j hj, ?_⟩
      rw [hj] at h2
      obtain ⟨cur, hc⟩ := SF.blk h2
      exact ⟨_, _, hc, .inr rfl⟩
    · exact ⟨h.lo, _, _, h1, .inl rfl⟩)
  have tell : ∀ (p : PV), (∃ β, SE W β p.v p.doc) → ∃ β, SE (w'.setCell ⟨pb, 0, none⟩ (.slice a (vs.length + 1) c)) β p.v p.doc := fun p hp => by
    obtain ⟨β, hs⟩ := hp
    refine ⟨β, hs.fr hF3 (fun g hg hS => ?_)⟩
    subst hg
    obtain ⟨cs, hc⟩ := hs.blk
    obtain ⟨-, cs', t', e1, e2⟩ := hS
    rw [hc] at e1
    obtain ⟨-, rfl⟩ : cs = cs' ∧ 42 = t' := by simpa using e1
    rcases e2 with e2 | e2 <;> cases e2
  refine ⟨a, c, w', hr, hw', ⟨⟨_, some g', by simpa using set_row hw' 0 (.slice a (vs.length + 1) c), hS'.fr (Fr.setCell (S := (· = pb)) w' ⟨pb, 0, none⟩ _ rfl) (fun g hg e => by injection hg with hg; omega), fun g hg => ?_⟩, fun p hp => ?_, h.lo, h.bel.trans (hF3.below h.bel.size (fun j hj => hj.1)), h.lt⟩, hF3⟩
  · injection hg with hg
    subst hg
    rcases hN with ⟨e, -⟩ | ⟨e, -⟩
    · exact h3 _ e
    · rw [e]
      have := h.bel.size
      simp
      omega
  · rcases List.mem_append.1 hp with hp | hp
    · exact tell p (h.doc p hp)
    · rw [List.mem_singleton.1 hp]
      exact tell x hx
end

end Go.Proofs.YtfhghijefjhehaaGreatDoor

/-! Ip -/
namespace Go.Proofs.YtfhghijefjhehaaGreatDoor
open Go.RowKit
set_option linter.unusedVariables false

def GLd (C : Int) (log : List Ed) (k : Nat) : Prop := ∀ j x, j < k → log[j]? = some x → canD chg C log j x
def GEr (C : Int) (log : List Ed) (evs : List Ev) (i : Nat) : Prop := ∀ j x, j < i → evs[j]? = some x → canR chg fit C log (stP evs j) (pv evs j x.site) x
def MkE (evs : List Ev) (x : Ed) : Prop := ∃ (j : Nat) (e : Ev), evs[j]? = some e ∧ e.o ≠ zo ∧ e.o = x.o
/-- What the document's Check answers. -/
def RCs (C : Int) (nL nE : Nat) (log : List Ed) (evs : List Ev) (c p : Int) : Prop :=
  (¬ (1 ≤ C ∧ C ≤ 64) ∧ c = 140 ∧ p = 0) ∨ ((1 ≤ C ∧ C ≤ 64) ∧ 4096 < nL ∧ c = 143 ∧ p = 0) ∨
  ((1 ≤ C ∧ C ≤ 64) ∧ nL ≤ 4096 ∧ ∃ k : Nat, k < nL ∧ GLd C log k ∧ (∀ x, log[k]? = some x → ¬ canD chg C log k x) ∧ c = 141 ∧ p = k) ∨
  ((1 ≤ C ∧ C ≤ 64) ∧ nL ≤ 4096 ∧ GLd C log nL ∧ ∃ i : Nat, i < nE ∧ GEr C log evs i ∧ (∀ x, evs[i]? = some x → ¬ canR chg fit C log (stP evs i) (pv evs i x.site) x) ∧ c = 142 ∧ p = i) ∨
  ((1 ≤ C ∧ C ≤ 64) ∧ nL ≤ 4096 ∧ GLd C log nL ∧ GEr C log evs nE ∧ ∃ k : Nat, k < nL ∧ (∀ (j : Nat) (x : Ed), j < k → log[j]? = some x → MkE evs x) ∧ (∀ x : Ed, log[k]? = some x → ¬ MkE evs x) ∧ c = 141 ∧ p = k) ∨
  ((1 ≤ C ∧ C ≤ 64) ∧ nL ≤ 4096 ∧ GLd C log nL ∧ GEr C log evs nE ∧ (∀ (j : Nat) (x : Ed), log[j]? = some x → MkE evs x) ∧ c = 0 ∧ p = -1)

theorem glD {C : Int} {log : List Ed} {k : Nat} (h : GLd C log k) : GL C log k := by
  induction k with
  | zero => exact fun j x hj => by omega
  | succ k ih =>
    have ih' := ih (fun j x hj => h j x (by omega))
    intro j x hj hx
    by_cases e : j = k
    · subst e
      exact (can_iff (chg := chg) (C := C) (log := log) (k := j) ih' x).2 (h j x (by omega) hx)
    · exact ih' j x (by omega) hx
theorem dGl {C : Int} {log : List Ed} {k : Nat} (h : GL C log k) : GLd C log k := fun j x hj hx => (can_iff (chg := chg) (C := C) (log := log) (k := j) (fun i e hi => h i e (by omega)) x).1 (h j x hj hx)
theorem chg_sq (o : OpE) (h : chg o) : 1 ≤ o.sq := (chP_range h).2.2.1
theorem gE_R {C : Int} {log : List Ed} {evs : List Ev} {i : Nat} (hg : GL C log log.length) (h : GE C log evs i) : GEr C log evs i := fun j x hj hx => by
  have hb := pv_bounds (C := C) (log := log) (evs := evs) (i := j) (fun q y hq => h q y (by omega)) x.site
  exact (canS_iff hg chg_sq hb.1 hb.2.1).1 (h j x hj hx)
theorem gR_E {C : Int} {log : List Ed} {evs : List Ev} {i : Nat} (hg : GL C log log.length) (h : GEr C log evs i) : GE C log evs i := by
  induction i with
  | zero => exact fun j x hj => by omega
  | succ i ih =>
    have ih' := ih (fun j x hj => h j x (by omega))
    intro j x hj hx
    by_cases e : j = i
    · subst e
      have hb := pv_bounds (C := C) (log := log) (evs := evs) (i := j) ih' x.site
      exact (canS_iff hg chg_sq hb.1 hb.2.1).2 (h j x (by omega) hx)
    · exact ih' j x (by omega) hx
theorem mk_iff {C : Int} {log : List Ed} {evs : List Ev} (hg : GL C log log.length) (h : GEr C log evs evs.length) {k : Nat} {x : Ed} (hk : log[k]? = some x) : MkE evs x ↔ x.o.sq ≤ (dn evs evs.length x.o.cl : Int) := by
  have hc := hg k x (List.getElem?_eq_some_iff.1 hk).1 hk
  have hr := chP_range hc.1
  refine makes_iff (fun j e hj he => (h j e hj he).fact) hk (fun hz => ?_) (by omega) hr.2.2.1
  have := (chP_iff x.o).1 hc.1
  rw [hz] at this
  exact this.1 rfl

theorem first_eq {P : Nat → Prop} {k k' : Nat} (h1 : ∀ j, j < k → P j) (h2 : ¬ P k) (h1' : ∀ j, j < k' → P j) (h2' : ¬ P k') : k = k' := by
  rcases Nat.lt_trichotomy k k' with h | h | h
  · exact absurd (h1' k h) h2
  · exact h
  · exact absurd (h1 k' h) h2'

theorem rcs_one {C : Int} {nL nE : Nat} {log : List Ed} {evs : List Ev} {c p c' p' : Int} (hl : log.length = nL) (he : evs.length = nE) (h1 : RCs C nL nE log evs c p) (h2 : RCs C nL nE log evs c' p') : c = c' ∧ p = p' := by
  have LP : ∀ k, GLd C log k → ∀ j, j < k → (fun j => ∀ x, log[j]? = some x → canD chg C log j x) j := fun k h j hj x hx => h j x hj hx
  have LN : ∀ k, k < nL → (∀ x, log[k]? = some x → ¬ canD chg C log k x) → ¬ (fun j => ∀ x, log[j]? = some x → canD chg C log j x) k := fun k hk h hh => h _ (List.getElem?_eq_getElem (by omega)) (hh _ (List.getElem?_eq_getElem (by omega)))
  have EP : ∀ k, GEr C log evs k → ∀ j, j < k → (fun j => ∀ x, evs[j]? = some x → canR chg fit C log (stP evs j) (pv evs j x.site) x) j := fun k h j hj x hx => h j x hj hx
  have EN : ∀ k, k < nE → (∀ x, evs[k]? = some x → ¬ canR chg fit C log (stP evs k) (pv evs k x.site) x) → ¬ (fun j => ∀ x, evs[j]? = some x → canR chg fit C log (stP evs j) (pv evs j x.site) x) k := fun k hk h hh => h _ (List.getElem?_eq_getElem (by omega)) (hh _ (List.getElem?_eq_getElem (by omega)))
  have MP : ∀ k, (∀ (j : Nat) (x : Ed), j < k → log[j]? = some x → MkE evs x) → ∀ j, j < k → (fun j => ∀ x, log[j]? = some x → MkE evs x) j := fun k h j hj x hx => h j x hj hx
  have MN : ∀ k, k < nL → (∀ x : Ed, log[k]? = some x → ¬ MkE evs x) → ¬ (fun j => ∀ x, log[j]? = some x → MkE evs x) k := fun k hk h hh => h _ (List.getElem?_eq_getElem (by omega)) (hh _ (List.getElem?_eq_getElem (by omega)))
  rcases h1 with ⟨a, rfl, rfl⟩ | ⟨a, b, rfl, rfl⟩ | ⟨a, b, k, hk, g1, g2, rfl, rfl⟩ | ⟨a, b, g, i, hi, g1, g2, rfl, rfl⟩ | ⟨a, b, g, ge, k, hk, g1, g2, rfl, rfl⟩ | ⟨a, b, g, ge, g1, rfl, rfl⟩
  · rcases h2 with ⟨a', rfl, rfl⟩ | ⟨a', h2⟩ | ⟨a', h2⟩ | ⟨a', h2⟩ | ⟨a', h2⟩ | ⟨a', h2⟩
    · exact ⟨rfl, rfl⟩
    all_goals exact absurd a' a
  · rcases h2 with ⟨a', -⟩ | ⟨a', b', rfl, rfl⟩ | ⟨a', b', h2⟩ | ⟨a', b', h2⟩ | ⟨a', b', h2⟩ | ⟨a', b', h2⟩
    · exact absurd a a'
    · exact ⟨rfl, rfl⟩
    all_goals omega
  · rcases h2 with ⟨a', -⟩ | ⟨a', b', -⟩ | ⟨a', b', k', hk', g1', g2', rfl, rfl⟩ | ⟨a', b', g', h2⟩ | ⟨a', b', g', h2⟩ | ⟨a', b', g', h2⟩
    · exact absurd a a'
    · omega
    · have := first_eq (LP k g1) (LN k hk g2) (LP k' g1') (LN k' hk' g2')
      subst this
      exact ⟨rfl, rfl⟩
    all_goals exact absurd (LP nL g' k hk) (LN k hk g2)
  · rcases h2 with ⟨a', -⟩ | ⟨a', b', -⟩ | ⟨a', b', k', hk', g1', g2', -⟩ | ⟨a', b', g', i', hi', g1', g2', rfl, rfl⟩ | ⟨a', b', g', ge', h2⟩ | ⟨a', b', g', ge', h2⟩
    · exact absurd a a'
    · omega
    · exact absurd (LP nL g k' hk') (LN k' hk' g2')
    · have := first_eq (EP i g1) (EN i hi g2) (EP i' g1') (EN i' hi' g2')
      subst this
      exact ⟨rfl, rfl⟩
    all_goals exact absurd (EP nE ge' i hi) (EN i hi g2)
  · rcases h2 with ⟨a', -⟩ | ⟨a', b', -⟩ | ⟨a', b', k', hk', g1', g2', -⟩ | ⟨a', b', g', i', hi', g1', g2', -⟩ | ⟨a', b', g', ge', k', hk', g1', g2', rfl, rfl⟩ | ⟨a', b', g', ge', g1', -⟩
    · exact absurd a a'
    · omega
    · exact absurd (LP nL g k' hk') (LN k' hk' g2')
    · exact absurd (EP nE ge i' hi') (EN i' hi' g2')
    · have := first_eq (MP k g1) (MN k hk g2) (MP k' g1') (MN k' hk' g2')
      subst this
      exact ⟨rfl, rfl⟩
    · exact absurd (fun x hx => g1' k x hx) (MN k hk g2)
  · rcases h2 with ⟨a', -⟩ | ⟨a', b', -⟩ | ⟨a', b', k', hk', g1', g2', -⟩ | ⟨a', b', g', i', hi', g1', g2', -⟩ | ⟨a', b', g', ge', k', hk', g1', g2', -⟩ | ⟨a', b', g', ge', g1', rfl, rfl⟩
    · exact absurd a a'
    · omega
    · exact absurd (LP nL g k' hk') (LN k' hk' g2')
    · exact absurd (EP nE ge i' hi') (EN i' hi' g2')
    · exact absurd (fun x hx => g1 k' x hx) (MN k' hk' g2')
    · exact ⟨rfl, rfl⟩

/-- What read answers is what the document's Check does. -/
theorem ro_rcs {C : Int} {aL aE : Option Addr} {nL cL nE cE : Nat} {log : List Ed} {evs : List Ev} {D : Nat → List El} {w w' : World} {e : Ending} (hl : log.length = nL) (he : evs.length = nE) (h1 : RO C aL aE nL cL nE cE log evs D w e w') :
    ∃ v ev c p, e = .returned (.tuple #[v, ev]) ∧ Below w.heap.size w w' ∧ RCs C nL nE log evs c p ∧ ((IsF w' ev p c ∧ c ≠ 0) ∨ (ev = .nilIface ∧ c = 0 ∧ p = -1)) := by
  obtain ⟨v, ev, e0, hB, h1⟩ := h1
  rcases h1 with ⟨a, h1⟩ | ⟨a, b, h1⟩ | ⟨a, b, k, hk, g1, g2, h1⟩ | ⟨a, b, g, i, hi, g1, g2, h1⟩ | ⟨a, b, g, ge, k, hk, g1, g2, h1⟩ | ⟨a, b, g, ge, g1, h1, -⟩
  · exact ⟨v, ev, _, _, e0, hB, .inl ⟨a, rfl, rfl⟩, .inl ⟨h1, by omega⟩⟩
  · exact ⟨v, ev, _, _, e0, hB, .inr (.inl ⟨a, b, rfl, rfl⟩), .inl ⟨h1, by omega⟩⟩
  · exact ⟨v, ev, _, _, e0, hB, .inr (.inr (.inl ⟨a, b, k, hk, dGl g1, fun x hx hd => g2 x hx ((can_iff (chg := chg) (C := C) (log := log) (k := k) g1 x).2 hd), rfl, rfl⟩)), .inl ⟨h1, by omega⟩⟩
  · refine ⟨v, ev, _, _, e0, hB, .inr (.inr (.inr (.inl ⟨a, b, dGl g, i, hi, gE_R (by rw [hl]; exact g) g1, fun x hx hr => ?_, rfl, rfl⟩))), .inl ⟨h1, by omega⟩⟩
    have hbd := pv_bounds (C := C) (log := log) (evs := evs) (i := i) g1 x.site
    exact g2 x hx ((canS_iff (by rw [hl]; exact g) chg_sq hbd.1 hbd.2.1).2 hr)
  · have gl : GL C log log.length := by rw [hl]; exact g
    have gr : GEr C log evs evs.length := by rw [he]; exact gE_R gl ge
    refine ⟨v, ev, _, _, e0, hB, .inr (.inr (.inr (.inr (.inl ⟨a, b, dGl g, gE_R gl ge, k, hk, fun j x hj hx => ?_, fun x hx hm => ?_, rfl, rfl⟩)))), .inl ⟨h1, by omega⟩⟩
    · rw [mk_iff gl gr hx, he]
      exact g1 j x hj hx
    · rw [mk_iff gl gr hx, he] at hm
      have := g2 x hx
      omega
  · have gl : GL C log log.length := by rw [hl]; exact g
    have gr : GEr C log evs evs.length := by rw [he]; exact gE_R gl ge
    refine ⟨v, ev, _, _, e0, hB, .inr (.inr (.inr (.inr (.inr ⟨a, b, dGl g, gE_R gl ge, fun j x hx => ?_, rfl, rfl⟩)))), .inr ⟨h1, rfl, rfl⟩⟩
    rw [mk_iff gl gr hx, he]
    exact g1 j x hx

set_option maxRecDepth 100000 in
set_option maxHeartbeats 4000000 in
set_option maxRecDepth 100000 in
set_option maxHeartbeats 8000000 in
theorem rcheck_any (C : Int) (aL aE : Option Addr) (nL cL nE cE : Nat) (log : List Ed) (evs : List Ev) (A : Nat → Option Addr) (K : Nat → Nat) (w : World) (hL : IsL w aL nL log) (hV : IsV w aE nE evs A K) (hnE : nE ≤ 2199023255552) :
    Calls Tryz.prog 20 #[.agg #[.int .i64 C, .slice aL nL cL, .slice aE nE cE]] w fun e w' => ∃ c p : Int, e = .returned (.tuple #[.int .i64 c, .int .i64 p]) ∧ RCs C nL nE log evs c p ∧ Below w.heap.size w w' := by
  have HNE := hd hnE
  have hb : Below w.heap.size w (w.alloc (.cells #[.int .i64 C, .slice aL nL cL, .slice aE nE cE] 25)) := (Below.refl _ _).alloc (Nat.le_refl _) _
  have hE := hd (heap_alloc_new w (.cells #[.int .i64 C, .slice aL nL cL, .slice aE nE cE] 25))
  have HB := hd hb
  have HL := hd (hL.below hb (Nat.le_refl _))
  have HV := hd (hV.below hb (Nat.le_refl _))
  clear hb hL hV hnE
  go_enter Tryz.func20, Tryz.ntmps20
  go_upto_region 1 with fail
  generalize w.alloc (.cells #[.int .i64 C, .slice aL nL cL, .slice aE nE cE] 25) = w0 at *
  have x0 := cell_row hE.out 0; have x1 := cell_row hE.out 1; have x2 := cell_row hE.out 2
  simp at x0 x1 x2
  by_cases b1 : C < 1
  · have Z : Hid (RCs C nL nE log evs 140 0) := .inl ⟨by omega, rfl, rfl⟩
    go_wp2
    go_ret2
    exact ⟨_, _, rfl, Z.out, HB.out⟩
  by_cases b2 : 64 < C
  · have Z : Hid (RCs C nL nE log evs 140 0) := .inl ⟨by omega, rfl, rfl⟩
    go_wp2
    go_ret2
    exact ⟨_, _, rfl, Z.out, HB.out⟩
  have HC := hd (show 1 ≤ C ∧ C ≤ 64 from ⟨by omega, by omega⟩)
  by_cases b3 : (4096 : Int) < (nL : Int)
  · have Z : Hid (RCs C nL nE log evs 143 0) := .inr (.inl ⟨HC.out, by omega, rfl, rfl⟩)
    go_wp2
    go_ret2
    exact ⟨_, _, rfl, Z.out, HB.out⟩
  have HN := hd (show nL ≤ 4096 by omega)
  have CLg := hd (logged_any C aL aE nL cL nE cE log w0 HL.out HN.out)
  go_wp2_with fail
  refine CLg.out.mono ?_
  rintro e u ⟨r, rfl, hr, bu⟩
  have BU := hd (HB.out.trans (bu.mono HB.out.size))
  have hEu := hd (block_keep bu hE.out (block_lt hE.out))
  have HLu := hd (HL.out.below bu (Nat.le_refl _))
  have HVu := hd (HV.out.below bu (Nat.le_refl _))
  clear bu CLg HL HV hE x0 x1 x2 b1 b2 b3 HB
  have HRR := hd hr
  clear hr
  rcases HRR.out with ⟨k, rfl, hk, g2, g1⟩ | ⟨rfl, g1⟩
  · have Z : Hid (RCs C nL nE log evs 141 k) := .inr (.inr (.inl ⟨HC.out, HN.out, k, hk, g1, g2, rfl, rfl⟩))
    have k0 : (0 : Int) ≤ (k : Int) := by omega
    clear g1 g2 HRR
    go_wp2
    go_ret2
    exact ⟨_, _, rfl, Z.out, BU.out⟩
  have G1 : Hid (GLd C log nL) := fun j x _ hx => g1 j x hx
  clear g1 HRR
  have y0 := cell_row hEu.out 0; have y1 := cell_row hEu.out 1; have y2 := cell_row hEu.out 2
  simp at y0 y1 y2
  go_wp2_with fail
  go_loopw [5] (fun v wr => ∃ i : Nat, i ≤ nE ∧ v = .int .i64 i ∧ Hid (Below u.heap.size u wr ∧ GEr C log evs i)) (fun v _ => nE - (intOf v).toNat)
  case atStart => exact ⟨0, Nat.zero_le _, rfl, Below.refl _ _, fun j x h => by omega⟩
  case round =>
    obtain ⟨i, hi, rfl, HR⟩ := hrel
    clear y0 y1 y2
    have hEr := hd (block_keep HR.out.1 hEu.out (block_lt hEu.out))
    have y0 := cell_row hEr.out 0; have y1 := cell_row hEr.out 1; have y2 := cell_row hEr.out 2
    simp at y0 y1 y2
    by_cases hlt : i < nE
    · have l1 : i < evs.length := by have := HVu.out.1; omega
      have i1 : (i : Int) < (nE : Int) := by omega
      have gl : GL C log log.length := by rw [HLu.out.1]; exact glD G1.out
      have hbd := pv_bounds (gR_E gl HR.out.2) evs[i].site
      have CC := hd (can_any C aL aE nL cL nE cE i evs A K wr (HVu.out.below HR.out.1 (Nat.le_refl _)) hlt l1 (by have := HNE.out; omega) log (HLu.out.below HR.out.1 (Nat.le_refl _)) HN.out hbd.1 ⟨hbd.2.1, by have := HNE.out; omega⟩)
      have NO := hd (show ¬ canR chg fit C log (stP evs i) (pv evs i evs[i].site) evs[i] → ∀ x, evs[i]? = some x → ¬ canR chg fit C log (stP evs i) (pv evs i x.site) x from fun h x hx => by rw [List.getElem?_eq_getElem l1] at hx; injection hx with hx; rw [← hx]; exact h)
      have YE := hd (show canR chg fit C log (stP evs i) (pv evs i evs[i].site) evs[i] → GEr C log evs (i + 1) from fun h j x hj hx => by
        by_cases e : j = i
        · subst e
          rw [List.getElem?_eq_getElem l1] at hx
          injection hx with hx
          rw [← hx]
          exact h
        · exact HR.out.2 j x (by omega) hx)
      have HG := hd HR.out.2
      have HW := hd HR.out.1
      have E3 : wrap64 ((i : Int) + 1) = ((i + 1 : Nat) : Int) := by have := HNE.out; rw [wrap64]; omega
      generalize hG : canR chg fit C log (stP evs i) (pv evs i evs[i].site) evs[i] = GG at *
      clear hG HR hbd gl
      go_wp2_with fail
      refine CC.out.mono ?_
      rintro e u2 ⟨r, rfl, hr, b2⟩
      have HR2 := hd hr
      have B2 := hd (HW.out.trans (b2.mono HW.out.size))
      have BZ := hd (BU.out.trans (B2.out.mono BU.out.size))
      clear hr b2 CC y0 y1 y2
      cases r with
      | false =>
        have Z : Hid (RCs C nL nE log evs 142 i) := .inr (.inr (.inr (.inl ⟨HC.out, HN.out, G1.out, i, hlt, HG.out, NO.out (fun h => by have := HR2.out.2 h; cases this), rfl, rfl⟩)))
        clear NO YE HR2
        go_wp2
        go_ret2
        exact ⟨_, _, rfl, Z.out, BZ.out⟩
      | true =>
        have YES := hd (YE.out (HR2.out.1 rfl))
        clear NO YE HR2
        go_wp2
        exact ⟨⟨i + 1, by omega, by rw [E3], B2.out, YES.out⟩, by rw [E3]; simp only [intOf, Int.toNat_natCast]; omega⟩
    · have hin : nE = i := by omega
      subst hin
      have i1 : ¬ (nE : Int) < (nE : Int) := by omega
      have G2 := hd HR.out.2
      have B3 := hd (BU.out.trans (HR.out.1.mono BU.out.size))
      have HLr := hd (HLu.out.below HR.out.1 (Nat.le_refl _))
      have HVr := hd (HVu.out.below HR.out.1 (Nat.le_refl _))
      clear HR hi hlt HLu HVu
      go_wp2_with fail
      go_loopw [6] (fun v wq => ∃ k : Nat, k ≤ nL ∧ v = .int .i64 k ∧ Hid (Below wr.heap.size wr wq ∧ ∀ (j : Nat) (x : Ed), j < k → log[j]? = some x → MkE evs x)) (fun v _ => nL - (intOf v).toNat)
      case atStart => exact ⟨0, Nat.zero_le _, rfl, Below.refl _ _, fun j x h => by omega⟩
      case round =>
        obtain ⟨k, hk, rfl, HR⟩ := hrel
        clear y0 y1 y2
        have hE2 := hd (block_keep HR.out.1 hEr.out (block_lt hEr.out))
        have y0 := cell_row hE2.out 0; have y1 := cell_row hE2.out 1; have y2 := cell_row hE2.out 2
        simp at y0 y1 y2
        by_cases hlt : k < nL
        · have l1 : k < log.length := by have := HLr.out.1; omega
          have j1 : (k : Int) < (nL : Int) := by omega
          have CC := hd (rmakes_any C aL aE nL cL nE cE k log evs A K wr (HLr.out.below HR.out.1 (Nat.le_refl _)) (HVr.out.below HR.out.1 (Nat.le_refl _)) hlt l1 (by have := HNE.out; omega) HN.out)
          have MI := hd (show (∃ j, ∃ h : j < evs.length, mkE evs[j] log[k].o) ↔ MkE evs log[k] from ⟨fun ⟨j, h, h1⟩ => ⟨j, evs[j], List.getElem?_eq_getElem h, h1⟩, fun ⟨j, e, h1, h2⟩ => by
            obtain ⟨h3, h4⟩ := List.getElem?_eq_some_iff.1 h1
            exact ⟨j, h3, by rw [h4]; exact h2⟩⟩)
          have NO := hd (show ¬ MkE evs log[k] → ∀ x : Ed, log[k]? = some x → ¬ MkE evs x from fun h x hx => by rw [List.getElem?_eq_getElem l1] at hx; injection hx with hx; rw [← hx]; exact h)
          have YE := hd (show MkE evs log[k] → ∀ (j : Nat) (x : Ed), j < k + 1 → log[j]? = some x → MkE evs x from fun h j x hj hx => by
            by_cases e : j = k
            · subst e
              rw [List.getElem?_eq_getElem l1] at hx
              injection hx with hx
              rw [← hx]
              exact h
            · exact HR.out.2 j x (by omega) hx)
          have HG := hd HR.out.2
          have HW := hd HR.out.1
          have E3 : wrap64 ((k : Int) + 1) = ((k + 1 : Nat) : Int) := by have := HN.out; rw [wrap64]; omega
          rw [MI.out] at CC
          generalize MkE evs log[k] = GG at *
          clear HR MI
          go_wp2_with fail
          refine CC.out.mono ?_
          rintro e u2 ⟨r, rfl, hr, b2⟩
          have HR2 := hd hr
          have B2 := hd (HW.out.trans (b2.mono HW.out.size))
          have BZ := hd (B3.out.trans (B2.out.mono B3.out.size))
          clear hr b2 CC y0 y1 y2
          cases r with
          | false =>
            have Z : Hid (RCs C nL nE log evs 141 k) := .inr (.inr (.inr (.inr (.inl ⟨HC.out, HN.out, G1.out, G2.out, k, hlt, HG.out, NO.out (fun h => by have := HR2.out.2 h; cases this), rfl, rfl⟩))))
            clear NO YE HR2
            go_wp2
            go_ret2
            exact ⟨_, _, rfl, Z.out, BZ.out⟩
          | true =>
            have YES := hd (YE.out (HR2.out.1 rfl))
            clear NO YE HR2
            go_wp2
            exact ⟨⟨k + 1, by omega, by rw [E3], B2.out, YES.out⟩, by rw [E3]; simp only [intOf, Int.toNat_natCast]; omega⟩
        · have hkn : nL = k := by omega
          subst hkn
          have j1 : ¬ (nL : Int) < (nL : Int) := by omega
          have Z : Hid (RCs C nL nE log evs 0 (-1)) := .inr (.inr (.inr (.inr (.inr ⟨HC.out, HN.out, G1.out, G2.out, fun j x hx => HR.out.2 j x (by have := (List.getElem?_eq_some_iff.1 hx).1; have := HLr.out.1; omega) hx, rfl, rfl⟩))))
          have BZ := hd (B3.out.trans (HR.out.1.mono B3.out.size))
          clear HR hlt hk
          go_wp2
          go_ret2
          exact ⟨_, _, rfl, Z.out, BZ.out⟩
end Go.Proofs.YtfhghijefjhehaaGreatDoor

/-! Og -/
namespace Go.Proofs.YtfhghijefjhehaaGreatDoor
open Go.RowKit
set_option linter.unusedVariables false

theorem rcs_zero {C : Int} {nL nE : Nat} {log : List Ed} {evs : List Ev} {p : Int} (hl : log.length = nL) (he : evs.length = nE) (h : RCs C nL nE log evs 0 p) : (1 ≤ C ∧ C ≤ 64) ∧ log.length ≤ 4096 ∧ GL C log log.length ∧ GE C log evs evs.length ∧ (∀ (j : Nat) (x : Ed), log[j]? = some x → x.o.sq ≤ (dn evs evs.length x.o.cl : Int)) ∧ p = -1 := by
  rcases h with ⟨-, h, -⟩ | ⟨-, -, h, -⟩ | ⟨-, -, k, -, -, -, h, -⟩ | ⟨-, -, -, i, -, -, -, h, -⟩ | ⟨-, -, -, -, k, -, -, -, h, -⟩ | ⟨a, b, g, ge, g1, -, hp⟩
  · omega
  · omega
  · omega
  · omega
  · omega
  · have gl : GL C log log.length := by rw [hl]; exact glD g
    have gr : GEr C log evs evs.length := by rw [he]; exact ge
    exact ⟨a, by omega, gl, gR_E gl gr, fun j x hx => (mk_iff gl gr hx).1 (g1 j x hx), hp⟩

theorem ro_split {C : Int} {aL aE : Option Addr} {nL cL nE cE : Nat} {log : List Ed} {evs : List Ev} {D : Nat → List El} {w w' : World} {e : Ending} (hl : log.length = nL) (he : evs.length = nE) (h1 : RO C aL aE nL cL nE cE log evs D w e w') :
    ∃ v ev, e = .returned (.tuple #[v, ev]) ∧ Below w.heap.size w w' ∧ ((∃ c p, RCs C nL nE log evs c p ∧ IsF w' ev p c ∧ c ≠ 0) ∨ (RCs C nL nE log evs 0 (-1) ∧ ev = .nilIface ∧ ∃ x L, v = .pointer (some ⟨x, 0, none⟩) ∧ w.heap.size ≤ x ∧ TL w' x C (.slice aL nL cL) (.slice aE nE cE) (S2 log evs D nE) L)) := by
  obtain ⟨v', ev', c, p, e', hB', hR, hF⟩ := ro_rcs hl he h1
  obtain ⟨v, ev, e0, hB, h1⟩ := h1
  obtain ⟨rfl, rfl⟩ : v = v' ∧ ev = ev' := by
    have := e0.symm.trans e'
    simpa using this
  refine ⟨v, ev, e0, hB, ?_⟩
  rcases hF with ⟨f1, f2⟩ | ⟨rfl, rfl, rfl⟩
  · exact .inl ⟨c, p, hR, f1, f2⟩
  · right
    have no : ∀ p c, ¬ IsF w' .nilIface p c := fun p c ⟨b, h, _⟩ => by cases h
    rcases h1 with ⟨a, h1⟩ | ⟨a, b, h1⟩ | ⟨a, b, k, hk, g1, g2, h1⟩ | ⟨a, b, g, i, hi, g1, g2, h1⟩ | ⟨a, b, g, ge, k, hk, g1, g2, h1⟩ | ⟨a, b, g, ge, g1, -, x, L, h3, h4, h5⟩
    · exact absurd h1 (no _ _)
    · exact absurd h1 (no _ _)
    · exact absurd h1 (no _ _)
    · exact absurd h1 (no _ _)
    · exact absurd h1 (no _ _)
    · exact ⟨hR, rfl, x, L, h3, h4, h5⟩


/-- What paths want of a history that can be. -/
theorem pf_of {C : Nat} {log : List Ed} {evs : List Ev} {D : Nat → List El} (hg : GL (C : Int) log log.length) (hE : GE (C : Int) log evs evs.length) (hall : ∀ (j : Nat) (x : Ed), log[j]? = some x → x.o.sq ≤ (dn evs evs.length x.o.cl : Int)) (hce : ∀ j (h : j < evs.length), 0 ≤ evs[j].o.ch ∧ evs[j].o.ch ≤ 255) : PF C log (edW evs D) := by
  have hf : ∀ a x, a < evs.length → evs[a]? = some x → FactE evs log a x := fun a x ha hx => ((gE_R hg hE) a x ha hx).fact
  have one : ∀ (c q : Nat) (d : Dd), (ddAt evs D evs.length (c : Int))[q]? = some d → okC d.e.o ∧ d.e.o.sq = (q : Int) + 1 := fun c q d hd' => by
    obtain ⟨j, e, h1, h2, h3, h4, h5, rfl⟩ := dd_of _ hd'
    obtain ⟨m1, m2, m3⟩ := ev_made (hE.mono (show j + 1 ≤ _ by omega)) (fun a z ha => hf a z (by omega)) h2 h4
    obtain ⟨-, -, hh⟩ := hE j e h1 h2
    have hch : chP e.o = true := by
      rcases hh with ⟨-, -, h3⟩ | ⟨h1, -, ⟨h2, -⟩, h4, h5, -⟩ | ⟨-, h2, -⟩
      · exact absurd h3 h4
      · exact h4
      · exact absurd h2 h4
    have hr := chP_range hch
    have hc := hce j h1
    have he : evs[j] = e := by
      rw [List.getElem?_eq_getElem h1] at h2
      exact Option.some.inj h2
    rw [he] at hc
    refine ⟨⟨hc, hr⟩, ?_⟩
    show e.o.sq = _
    rw [m3, h3, h5]
  have gw0 : ∀ c, GW ⟨edW evs D c, [], [], 0, 0⟩ := fun c => by
    refine ⟨?_, Nat.le_refl _, fun x hx => ?_, fun x hx => (by cases hx)⟩
    · show 0 + (edW evs D c).length ≤ 64
      unfold edW
      rw [List.length_map, Nat.zero_add]
      by_cases h : (ddAt evs D evs.length (c : Int)).length ≤ 64
      · exact h
      · obtain ⟨h1, h2⟩ := one c 64 _ (List.getElem?_eq_getElem (show 64 < _ by omega))
        have := h1.2.2.2.2
        omega
    · obtain ⟨d, hd', rfl⟩ := List.mem_map.1 hx
      obtain ⟨q, hq⟩ := List.mem_iff_getElem?.1 hd'
      exact (one c q d hq).1
  refine ⟨gw_stW gw0, fun k hk => opK_cl hg hE hf hall hk, fun k c hk => ((stW_bf (ap := apE) (D := D) hg hE hf hall k hk).1 c).hav, fun k hk => ?_, fun k hk => (stW_bf (ap := apE) (D := D) hg hE hf hall k hk).2⟩
  obtain ⟨c1, c2, -⟩ := hg k _ hk (List.getElem?_eq_getElem hk)
  exact ⟨(chP_range c1).1, c2⟩
theorem facts_of {C : Int} {log : List Ed} {evs : List Ev} (hg : GL C log log.length) (hE : GE C log evs evs.length) : ∀ a x, a < evs.length → evs[a]? = some x → FactE evs log a x := fun a x ha hx => ((gE_R hg hE) a x ha hx).fact

/-- The states of client c. -/
def pathP (log : List Ed) (evs : List Ev) (D : Nat → List El) (c : Nat) : List Vw := ((stW apE log (edW evs D) 0).1 c).view :: wayW apE (stW apE log (edW evs D) log.length).2 (c : Int) ((stW apE log (edW evs D) 0).1 c)
/-- What Path answers. -/
def PaP (C : Int) (nL nE : Nat) (log : List Ed) (evs : List Ev) (D : Nat → List El) (i : Int) (vs : List Vw) (c p : Int) : Prop :=
  (RCs C nL nE log evs c p ∧ c ≠ 0 ∧ vs = []) ∨ (RCs C nL nE log evs 0 (-1) ∧ (i < 1 ∨ C < i) ∧ vs = [] ∧ c = 144 ∧ p = i) ∨
  (RCs C nL nE log evs 0 (-1) ∧ ∃ cN : Nat, i = (cN : Int) ∧ 1 ≤ i ∧ i ≤ C ∧ vs = pathP log evs D cN ∧ c = 0 ∧ p = -1)
end Go.Proofs.YtfhghijefjhehaaGreatDoor

/-! Pa -/
namespace Go.Proofs.YtfhghijefjhehaaGreatDoor
open Go.RowKit
set_option linter.unusedVariables false

/-- The walker at offset o of block g: its edits at β, its forms at φ, its way at ν. -/
structure WR (w : World) (g o : Nat) (β φ ν : Option Nat) (es : List Ed) (k : Wk) (way : List PV) : Prop where
  blk : ∃ (cur : Array Value) (vE vT vF vW : Value), w.heap[g]? = some (.cells cur 84 (0, 0)) ∧ o + 6 ≤ cur.size ∧ cur[o]? = some vE ∧ cur[o + 1]? = some vT ∧ cur[o + 2]? = some vF ∧ cur[o + 3]? = some vW ∧ cur[o + 4]? = some (.int .i64 k.hav) ∧ cur[o + 5]? = some (.int .i64 k.made) ∧
    SF edc 6 w 74 β vE es ∧ (∃ βt, SE w βt vT k.text) ∧ FO w φ vF k.forms ∧ SF vwc 3 w 72 ν vW way
  docs : ∀ p ∈ way, ∃ β, SE w β p.v p.doc
  st : es.drop k.made = k.still
  le : k.text.length ≤ 4096

/-- Of block g all but the walker at o is as it was. -/
def Oth (g o : Nat) (w w' : World) : Prop := ∀ cur, w.heap[g]? = some (.cells cur 84 (0, 0)) → ∃ cur' : Array Value, w'.heap[g]? = some (.cells cur' 84 (0, 0)) ∧ cur'.size = cur.size ∧ ∀ i, i < o ∨ o + 6 ≤ i → cur'[i]? = cur[i]?
theorem Oth.refl (g o : Nat) (w : World) : Oth g o w w := fun cur h => ⟨cur, h, rfl, fun _ _ => rfl⟩
theorem Oth.trans {g o : Nat} {a b c : World} (h : Oth g o a b) (k : Oth g o b c) : Oth g o a c := fun cur hc => by
  obtain ⟨c1, h1, h2, h3⟩ := h cur hc
  obtain ⟨c2, k1, k2, k3⟩ := k c1 h1
  exact ⟨c2, k1, k2.trans h2, fun i hi => (k3 i hi).trans (h3 i hi)⟩
theorem Oth.fr {S : Nat → Prop} {g o : Nat} {w w' : World} (hF : Fr S w w') (hg : ¬ S g) : Oth g o w w' := fun cur h => ⟨cur, hF.keeps h hg, rfl, fun _ _ => rfl⟩
theorem Oth.set {g o j : Nat} {w : World} (v : Value) (hj : o ≤ j ∧ j < o + 6) : Oth g o w (w.setCell ⟨g, j, none⟩ v) := fun cur h =>
  ⟨_, set_row h j v, by simp, fun i hi => by rw [Array.getElem?_setIfInBounds_ne (by omega)]⟩

section
variable {w w' : World} {g o : Nat} {β φ ν : Option Nat} {es : List Ed} {k : Wk} {way : List PV}
theorem WR.lt (h : WR w g o β φ ν es k way) : g < w.heap.size := by
  obtain ⟨cur, vE, vT, vF, vW, h1, -⟩ := h.blk
  exact block_lt h1
/-- What touches none of its blocks. -/
theorem WR.fr {S : Nat → Prop} (h : WR w g o β φ ν es k way) (hF : Fr S w w') (hS : ∀ j cs t, S j → w.heap[j]? = some (.cells cs t (0, 0)) → t ≠ 42 ∧ t ≠ 74 ∧ t ≠ 84) (hφ : ∀ g, φ = some g → ¬ S g) (hν : ∀ g, ν = some g → ¬ S g) : WR w' g o β φ ν es k way := by
  obtain ⟨cur, vE, vT, vF, vW, h1, h2, c0, c1, c2, c3, c4, c5, hE, ⟨βt, hT⟩, hO, hW⟩ := h.blk
  have tell : ∀ {β : Option Nat} {v : Value} {t : List El}, SE w β v t → SE w' β v t := fun {β v t} hs => hs.fr hF (fun g hg hs' => by
    subst hg
    obtain ⟨cs, hc⟩ := hs.blk
    exact (hS _ _ _ hs' hc).1 rfl)
  refine ⟨⟨cur, vE, vT, vF, vW, hF.keeps h1 (fun hs => (hS _ _ _ hs h1).2.2 rfl), h2, c0, c1, c2, c3, c4, c5, hE.fr hF (fun g hg hs => ?_), ⟨βt, tell hT⟩, hO.fr hF hφ, hW.fr hF hν⟩, fun p hp => ?_, h.st, h.le⟩
  · subst hg
    obtain ⟨cur, hc⟩ := SF.blk hE
    exact (hS _ _ _ hs hc).2.1 rfl
  · obtain ⟨β', hs⟩ := h.docs p hp
    exact ⟨β', tell hs⟩
theorem WR.below (h : WR w g o β φ ν es k way) (hb : Below w.heap.size w w') : WR w' g o β φ ν es k way := h.fr (S := fun _ => False) (Fr.of_below hb) (fun _ _ _ hs => hs.elim) (fun _ _ h => h) (fun _ _ h => h)
/-- The blocks are told apart by their types. -/
theorem WR.apart (h : WR w g o β φ ν es k way) : (∀ j, φ = some j → j ≠ g) ∧ (∀ j, ν = some j → j ≠ g) ∧ (∀ j, β = some j → j ≠ g) ∧ ∀ j, φ = some j → ν ≠ some j := by
  obtain ⟨cur, vE, vT, vF, vW, h1, h2, c0, c1, c2, c3, c4, c5, hE, ⟨βt, hT⟩, hO, hW⟩ := h.blk
  refine ⟨fun j hj e => ?_, fun j hj e => ?_, fun j hj e => ?_, fun j hj e => ?_⟩
  · subst hj
    obtain ⟨cs, hc⟩ := hO.blk
    rw [e, h1] at hc
    simp at hc
  · subst hj
    obtain ⟨cs, hc⟩ := SF.blk hW
    rw [e, h1] at hc
    simp at hc
  · subst hj
    obtain ⟨cs, hc⟩ := SF.blk hE
    rw [e, h1] at hc
    simp at hc
  · subst hj
    subst e
    obtain ⟨cs, hc⟩ := hO.blk
    obtain ⟨cs', hc'⟩ := SF.blk hW
    rw [hc] at hc'
    simp at hc'

/-- The six cells. -/
theorem WR.cells (h : WR w g o β φ ν es k way) : ∃ vE vT vF vW, SF edc 6 w 74 β vE es ∧ (∃ βt, SE w βt vT k.text) ∧ FO w φ vF k.forms ∧ SF vwc 3 w 72 ν vW way ∧ w.cell? ⟨g, o, none⟩ = some vE ∧ w.cell? ⟨g, o + 1, none⟩ = some vT ∧ w.cell? ⟨g, o + 2, none⟩ = some vF ∧ w.cell? ⟨g, o + 3, none⟩ = some vW ∧ w.cell? ⟨g, o + 4, none⟩ = some (.int .i64 k.hav) ∧ w.cell? ⟨g, o + 5, none⟩ = some (.int .i64 k.made) := by
  obtain ⟨cur, vE, vT, vF, vW, h1, h2, c0, c1, c2, c3, c4, c5, hE, hT, hO, hW⟩ := h.blk
  exact ⟨vE, vT, vF, vW, hE, hT, hO, hW, (cell_row h1 _).trans c0, (cell_row h1 _).trans c1, (cell_row h1 _).trans c2, (cell_row h1 _).trans c3, (cell_row h1 _).trans c4, (cell_row h1 _).trans c5⟩
theorem WR.frozen (h : WR w g o β φ ν es k way) (i : Nat) : w.frozen? ⟨g, i, none⟩ = false := by
  obtain ⟨cur, vE, vT, vF, vW, h1, -⟩ := h.blk
  exact frozen_row h1 i

/-- One field is written. -/
theorem WR.set (h : WR w g o β φ ν es k way) {j : Nat} (hj : j < 6) (v : Value) {φ' ν' : Option Nat} {k' : Wk} {way' : List PV} (hst : es.drop k'.made = k'.still) (hle : k'.text.length ≤ 4096)
    (hv : ∀ W, Fr (· = g) w W → ∀ vE vT vF vW, SF edc 6 W 74 β vE es → (∃ βt, SE W βt vT k.text) → FO W φ vF k.forms → SF vwc 3 W 72 ν vW way →
      (∃ βt, SE W βt (if j = 1 then v else vT) k'.text) ∧ FO W φ' (if j = 2 then v else vF) k'.forms ∧ SF vwc 3 W 72 ν' (if j = 3 then v else vW) way' ∧ (if j = 4 then v else .int .i64 k.hav) = .int .i64 k'.hav ∧ (if j = 5 then v else .int .i64 k.made) = .int .i64 k'.made)
    (hj0 : j ≠ 0) (hd' : ∀ p ∈ way', p ∈ way ∨ ∃ β, SE w β p.v p.doc) :
    WR (w.setCell ⟨g, o + j, none⟩ v) g o β φ' ν' es k' way' ∧ Oth g o w (w.setCell ⟨g, o + j, none⟩ v) ∧ Fr (· = g) w (w.setCell ⟨g, o + j, none⟩ v) := by
  obtain ⟨a1, a2, a3, -⟩ := h.apart
  obtain ⟨cur, vE, vT, vF, vW, h1, h2, c0, c1, c2, c3, c4, c5, hE, ⟨βt, hT⟩, hO, hW⟩ := h.blk
  have hF : Fr (· = g) w (w.setCell ⟨g, o + j, none⟩ v) := Fr.setCell _ _ _ rfl
  have tell : ∀ {β : Option Nat} {v' : Value} {t : List El}, SE w β v' t → SE (w.setCell ⟨g, o + j, none⟩ v) β v' t := fun {β v' t} hs => hs.fr hF (fun g' hg e => by
    subst hg
    obtain ⟨cs, hc⟩ := hs.blk
    rw [e, h1] at hc
    simp at hc)
  have hE' := hE.fr hF (fun g' hg e => a3 g' hg e)
  obtain ⟨z1, z2, z3, z4, z5⟩ := hv _ hF vE vT vF vW hE' ⟨βt, tell hT⟩ (hO.fr hF (fun g' hg e => a1 g' hg e)) (hW.fr hF (fun g' hg e => a2 g' hg e))
  refine ⟨⟨⟨_, vE, _, _, _, set_row h1 (o + j) v, by simpa using h2, ?_, ?_, ?_, ?_, ?_, ?_, hE', z1, z2, z3⟩, fun p hp => ?_, hst, hle⟩, Oth.set v ⟨by omega, by omega⟩, hF⟩
  · rw [Array.getElem?_setIfInBounds_ne (by omega)]; exact c0
  · by_cases e : j = 1
    · subst e; rw [Array.getElem?_setIfInBounds_self_of_lt (by omega)]; rfl
    · rw [Array.getElem?_setIfInBounds_ne (by omega), if_neg e]; exact c1
  · by_cases e : j = 2
    · subst e; rw [Array.getElem?_setIfInBounds_self_of_lt (by omega)]; rfl
    · rw [Array.getElem?_setIfInBounds_ne (by omega), if_neg e]; exact c2
  · by_cases e : j = 3
    · subst e; rw [Array.getElem?_setIfInBounds_self_of_lt (by omega)]; rfl
    · rw [Array.getElem?_setIfInBounds_ne (by omega), if_neg e]; exact c3
  · by_cases e : j = 4
    · subst e; rw [Array.getElem?_setIfInBounds_self_of_lt (by omega)]; simpa using z4
    · rw [Array.getElem?_setIfInBounds_ne (by omega), c4]; simpa [e] using z4
  · by_cases e : j = 5
    · subst e; rw [Array.getElem?_setIfInBounds_self_of_lt (by omega)]; simpa using z5
    · rw [Array.getElem?_setIfInBounds_ne (by omega), c5]; simpa [e] using z5
  · rcases hd' p hp with hp | ⟨β', hs⟩
    · obtain ⟨β', hs⟩ := h.docs p hp
      exact ⟨β', tell hs⟩
    · exact ⟨β', tell hs⟩

theorem WR.setHav (h : WR w g o β φ ν es k way) (m : Nat) : WR (w.setCell ⟨g, o + 4, none⟩ (.int .i64 m)) g o β φ ν es ⟨k.still, k.text, k.forms, m, k.made⟩ way ∧ Oth g o w (w.setCell ⟨g, o + 4, none⟩ (.int .i64 m)) ∧ Fr (· = g) w (w.setCell ⟨g, o + 4, none⟩ (.int .i64 m)) :=
  h.set (j := 4) (by omega) _ h.st h.le (fun W hF vE vT vF vW hE hT hO hW => ⟨hT, hO, hW, rfl, rfl⟩) (by omega) (fun p hp => .inl hp)
theorem WR.setMade (h : WR w g o β φ ν es k way) (m : Nat) : WR (w.setCell ⟨g, o + 5, none⟩ (.int .i64 m)) g o β φ ν es ⟨es.drop m, k.text, k.forms, k.hav, m⟩ way ∧ Oth g o w (w.setCell ⟨g, o + 5, none⟩ (.int .i64 m)) ∧ Fr (· = g) w (w.setCell ⟨g, o + 5, none⟩ (.int .i64 m)) :=
  h.set (j := 5) (by omega) _ rfl h.le (fun W hF vE vT vF vW hE hT hO hW => ⟨hT, hO, hW, rfl, rfl⟩) (by omega) (fun p hp => .inl hp)
theorem WR.elg (h : WR w g o β φ ν es k way) {W : World} (hF : Fr (· = g) w W) {βt : Option Nat} {v : Value} {t : List El} (hs : SE w βt v t) : SE W βt v t := hs.fr hF (fun g' hg e => by
  subst hg
  obtain ⟨cs, hc⟩ := hs.blk
  obtain ⟨cur, vE, vT, vF, vW, h1, -⟩ := h.blk
  rw [e, h1] at hc
  simp at hc)
theorem WR.setText (h : WR w g o β φ ν es k way) {βt : Option Nat} {v : Value} {t : List El} (hs : SE w βt v t) (hl : t.length ≤ 4096) : WR (w.setCell ⟨g, o + 1, none⟩ v) g o β φ ν es ⟨k.still, t, k.forms, k.hav, k.made⟩ way ∧ Oth g o w (w.setCell ⟨g, o + 1, none⟩ v) ∧ Fr (· = g) w (w.setCell ⟨g, o + 1, none⟩ v) :=
  h.set (j := 1) (by omega) _ h.st hl (fun W hF vE vT vF vW hE hT hO hW => ⟨⟨βt, h.elg hF hs⟩, hO, hW, rfl, rfl⟩) (by omega) (fun p hp => .inl hp)
theorem WR.setForms (h : WR w g o β φ ν es k way) {φ' : Option Nat} {v : Value} {fs : List OpE} (hs : FO w φ' v fs) : WR (w.setCell ⟨g, o + 2, none⟩ v) g o β φ' ν es ⟨k.still, k.text, fs, k.hav, k.made⟩ way ∧ Oth g o w (w.setCell ⟨g, o + 2, none⟩ v) ∧ Fr (· = g) w (w.setCell ⟨g, o + 2, none⟩ v) :=
  h.set (j := 2) (by omega) _ h.st h.le (fun W hF vE vT vF vW hE hT hO hW => ⟨hT, hs.fr hF (fun g' hg e => by
    subst hg
    obtain ⟨cs, hc⟩ := hs.blk
    obtain ⟨cur, vE, vT, vF, vW, h1, -⟩ := h.blk
    rw [e, h1] at hc
    simp at hc), hW, rfl, rfl⟩) (by omega) (fun p hp => .inl hp)
end

end Go.Proofs.YtfhghijefjhehaaGreatDoor
