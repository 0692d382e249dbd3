/-
  Texts put together: Rc Rj Rk Rl Rd.
-/
import Derived.Test.YtfhghijefjhehaaGreatDoorMOh
import Derived.Test.YtfhghijefjhehaaGreatDoorMJb
import Derived.Test.YtfhghijefjhehaaGreatDoorQb
/-! Rc -/
namespace Go.Proofs.YtfhghijefjhehaaGreatDoor
open Go.RowKit
set_option linter.unusedVariables false

theorem plP_hit' {y : El} : ∀ {xs : List El} {k i : Nat} (hk : k < xs.length), xs[k] = y → (∀ q (hq : q < xs.length), q < k → xs[q] ≠ y) → plP y xs i = ((i + k : Nat) : Int)
  | [], k, i, hk, h, hn => by simp at hk
  | x :: l, 0, i, hk, h, hn => by
    unfold plP
    have h : x = y := h
    rw [if_pos (elB_iff.2 h)]
    rfl
  | x :: l, k + 1, i, hk, h, hn => by
    unfold plP
    have h0 : x ≠ y := hn 0 (by simp) (by omega)
    rw [if_neg (fun e => h0 (elB_iff.1 e)), plP_hit' (xs := l) (k := k) (i := i + 1) (by simpa using hk) h (fun q hq hlt => hn (q + 1) (by simpa using hq) (by omega))]
    congr 1
    omega
theorem plP_hit {y : El} {xs : List El} {k : Nat} (hk : k < xs.length) (h : xs[k] = y) (hn : ∀ q (hq : q < xs.length), q < k → xs[q] ≠ y) : plP y xs 0 = (k : Int) := by
  rw [plP_hit' hk h hn, Nat.zero_add]
theorem plP_none {y : El} {xs : List El} (hn : ∀ q (hq : q < xs.length), xs[q] ≠ y) : plP y xs 0 = -1 := by
  have key : ∀ (l : List El) (i : Nat), y ∉ l → plP y l i = -1 := by
    intro l
    induction l with
    | nil => intro i _; rfl
    | cons x l ih =>
      intro i h
      unfold plP
      rw [List.mem_cons, not_or] at h
      rw [if_neg (fun e => h.1 (elB_iff.1 e).symm)]
      exact ih _ h.2
  refine key xs 0 (fun h => ?_)
  obtain ⟨q, hq, e⟩ := List.getElem_of_mem h
  exact hn q hq e

set_option maxRecDepth 100000 in
set_option maxHeartbeats 4000000 in
theorem rplace_any (a : Option Addr) (c : Nat) (xs : List El) (y : El) (w : World) (hT : IsTx w a xs) (hn : xs.length ≤ 9223372036854775807) :
    Calls Tryz.prog 61 #[.slice a xs.length c, elV y] w fun e w' => e = .returned (.int .i64 (plP y xs 0)) ∧ Below w.heap.size w w' := by
  obtain ⟨n, hnx⟩ : ∃ n, n = xs.length := ⟨_, rfl⟩
  rw [← hnx] at hn ⊢
  have hb : Below w.heap.size w (w.alloc (.cells #[.int .u8 y.1, .int .i64 y.2.1, .int .i64 y.2.2] 42)) := (Below.refl _ _).alloc (Nat.le_refl _) _
  have hE := hd (heap_alloc_new w (.cells #[.int .u8 y.1, .int .i64 y.2.1, .int .i64 y.2.2] 42))
  have HB := hd hb
  have HT := hd (hT.below hb (Nat.le_refl _))
  have HN := hd hnx
  clear hT hb hnx
  obtain ⟨y0, y1, y2⟩ := y
  unfold elV
  simp only [] at hE HB HT ⊢
  go_enter Tryz.func61, Tryz.ntmps61
  go_upto_region 1 with fail
  generalize w.alloc (.cells #[.int .u8 y0, .int .i64 y1, .int .i64 y2] 42) = w0 at *
  go_wp2
  go_loopw [5] (fun i wr => ∃ k m : Nat, k ≤ n ∧ i = .int .i64 k ∧ wr = w0.drewN m ∧ ∀ q (hq : q < xs.length), q < k → xs[q] ≠ (y0, y1, y2)) (fun i _ => n - (intOf i).toNat)
  case atStart => exact ⟨0, 0, Nat.zero_le _, rfl, rfl, fun q _ h => by omega⟩
  case round =>
    obtain ⟨k, m, hk, rfl, rfl, hne⟩ := hrel
    by_cases hlt : k < n
    · have kx : k < xs.length := by have := HN.out; omega
      obtain ⟨b1, o1, rfl, -, hc⟩ := HT.out (by omega)
      obtain ⟨x0, x1, x2⟩ := hc k kx
      have z0 := cell_row hE.out 0; have z1 := cell_row hE.out 1; have z2 := cell_row hE.out 2
      simp at z0 z1 z2
      have i1 : (k : Int) < (n : Int) := by omega
      clear hc
      by_cases he : xs[k] = (y0, y1, y2)
      · have hm := hd (plP_hit kx he hne)
        rw [he] at x0 x1 x2
        simp only [] at x0 x1 x2
        have eqs := elSame y0 y1 y2
        go_wp2
        go_quiet (fail)
        go_wp2
        go_ret
        exact ⟨by rw [hm.out]; rfl, below_drewN (below_drewN HB.out _) _⟩
      · have hne' := hd (show ∀ q (hq : q < xs.length), q < k + 1 → xs[q] ≠ (y0, y1, y2) from fun q hq h => if e : q = k then by subst e; exact he else hne q hq (by omega))
        generalize xs[k] = x at x0 x1 x2 he
        obtain ⟨xa, xb, xc⟩ := x
        simp only [] at x0 x1 x2
        have eqs := fun W => elNe he W
        go_wp2
        go_quiet (fail)
        go_wp2
        exact ⟨⟨k + 1, _, by omega, by go_num, rfl, hne'.out⟩, by simp [intOf]; omega⟩
    · obtain rfl : k = n := by omega
      have hm := hd (plP_none (fun q hq => hne q hq (by have h9 := HN.out; have h10 : q < List.length (α := El) xs := hq; omega)))
      go_wp2
      go_ret
      exact ⟨by rw [hm.out]; rfl, below_drewN HB.out _⟩

set_option maxRecDepth 100000 in
set_option maxHeartbeats 4000000 in
theorem sindex_any (a : Option Addr) (c : Nat) (xs : List El) (y : El) (w : World) (hT : IsTx w a xs) (hn : xs.length ≤ 9223372036854775807) :
    Calls Tryz.prog 60 #[.slice a xs.length c, elV y] w fun e w' => e = .returned (.int .i64 (plP y xs 0)) ∧ Below w.heap.size w w' := by
  obtain ⟨n, hnx⟩ : ∃ n, n = xs.length := ⟨_, rfl⟩
  rw [← hnx] at hn ⊢
  have hb : Below w.heap.size w (w.alloc (.cells #[.int .u8 y.1, .int .i64 y.2.1, .int .i64 y.2.2] 42)) := (Below.refl _ _).alloc (Nat.le_refl _) _
  have hE := hd (heap_alloc_new w (.cells #[.int .u8 y.1, .int .i64 y.2.1, .int .i64 y.2.2] 42))
  have HB := hd hb
  have HT := hd (hT.below hb (Nat.le_refl _))
  have HN := hd hnx
  clear hT hb hnx
  obtain ⟨y0, y1, y2⟩ := y
  unfold elV
  simp only [] at hE HB HT ⊢
  go_enter Tryz.func60, Tryz.ntmps60
  go_upto_region 1 with fail
  generalize w.alloc (.cells #[.int .u8 y0, .int .i64 y1, .int .i64 y2] 42) = w0 at *
  go_wp2
  go_loopw [8] (fun i wr => ∃ k m : Nat, k ≤ n ∧ i = .int .i64 k ∧ wr = w0.drewN m ∧ ∀ q (hq : q < xs.length), q < k → xs[q] ≠ (y0, y1, y2)) (fun i _ => n - (intOf i).toNat)
  case atStart => exact ⟨0, 0, Nat.zero_le _, rfl, rfl, fun q _ h => by omega⟩
  case round =>
    obtain ⟨k, m, hk, rfl, rfl, hne⟩ := hrel
    by_cases hlt : k < n
    · have kx : k < xs.length := by have := HN.out; omega
      obtain ⟨b1, o1, rfl, -, hc⟩ := HT.out (by omega)
      obtain ⟨x0, x1, x2⟩ := hc k kx
      have z0 := cell_row hE.out 0; have z1 := cell_row hE.out 1; have z2 := cell_row hE.out 2
      simp at z0 z1 z2
      have i1 : (k : Int) < (n : Int) := by omega
      clear hc
      by_cases he : xs[k] = (y0, y1, y2)
      · have hm := hd (plP_hit kx he hne)
        rw [he] at x0 x1 x2
        simp only [] at x0 x1 x2
        have eqs := elSame y0 y1 y2
        go_wp2
        go_quiet (fail)
        go_wp2
        go_ret
        exact ⟨by rw [hm.out]; rfl, below_drewN (below_drewN HB.out _) _⟩
      · have hne' := hd (show ∀ q (hq : q < xs.length), q < k + 1 → xs[q] ≠ (y0, y1, y2) from fun q hq h => if e : q = k then by subst e; exact he else hne q hq (by omega))
        generalize xs[k] = x at x0 x1 x2 he
        obtain ⟨xa, xb, xc⟩ := x
        simp only [] at x0 x1 x2
        have eqs := fun W => elNe (fun e => he e.symm) W
        go_wp2
        go_quiet (fail)
        go_wp2
        exact ⟨⟨k + 1, _, by omega, by go_num, rfl, hne'.out⟩, by simp [intOf]; omega⟩
    · obtain rfl : k = n := by omega
      have hm := hd (plP_none (fun q hq => hne q hq (by have h9 := HN.out; have h10 : q < List.length (α := El) xs := hq; omega)))
      go_wp2
      go_ret
      exact ⟨by rw [hm.out]; rfl, below_drewN HB.out _⟩

theorem cells3F {w : World} {b t : Nat} {x y z : Value} (h : w.heap[b]? = some (.cells #[x, y, z] t (0, 0))) : (w.cell? ⟨b, 0, none⟩ = some x ∧ w.cell? ⟨b, 1, none⟩ = some y ∧ w.cell? ⟨b, 2, none⟩ = some z) ∧ (w.frozen? ⟨b, 0, none⟩ = false ∧ w.frozen? ⟨b, 1, none⟩ = false ∧ w.frozen? ⟨b, 2, none⟩ = false) :=
  ⟨⟨by rw [cell_row h]; rfl, by rw [cell_row h]; rfl, by rw [cell_row h]; rfl⟩, frozen_row h 0, frozen_row h 1, frozen_row h 2⟩

set_option maxRecDepth 100000 in
set_option maxHeartbeats 4000000 in
theorem order_any (a : Option Addr) (c : Nat) (xs : List El) (x y : El) (w : World) (hT : IsTx w a xs) (hn : xs.length ≤ 9223372036854775807) :
    Calls Tryz.prog 29 #[.slice a xs.length c, elV x, elV y] w fun e w' => e = .returned (.int .i64 (ordP xs x y)) ∧ Below w.heap.size w w' := by
  obtain ⟨x0, x1, x2⟩ := x
  obtain ⟨y0, y1, y2⟩ := y
  have b1 : Below w.heap.size w ((w.alloc (.cells #[.int .u8 x0, .int .i64 x1, .int .i64 x2] 42)).alloc (.cells #[.int .u8 y0, .int .i64 y1, .int .i64 y2] 42)) := ((Below.refl _ _).alloc (Nat.le_refl _) _).alloc (by simp) _
  have hX := hd (show ((w.alloc (.cells #[.int .u8 x0, .int .i64 x1, .int .i64 x2] 42)).alloc (.cells #[.int .u8 y0, .int .i64 y1, .int .i64 y2] 42)).heap[w.heap.size]? = some (.cells #[.int .u8 x0, .int .i64 x1, .int .i64 x2] 42 (0, 0)) from (Below.heap_alloc _ _ _ (by simp)).trans (heap_alloc_new w _))
  have hY := hd (heap_alloc_new (w.alloc (.cells #[.int .u8 x0, .int .i64 x1, .int .i64 x2] 42)) (.cells #[.int .u8 y0, .int .i64 y1, .int .i64 y2] 42))
  rw [World.size_alloc] at hY
  have HB := hd b1
  have HT := hd (fun u (hu : Below w.heap.size w u) => hT.below hu (Nat.le_refl _))
  have CA := hd (fun u (hu : Below w.heap.size w u) => rplace_any a c xs (x0, x1, x2) u (HT.out u hu) hn)
  have CB := hd (fun u (hu : Below w.heap.size w u) => rplace_any a c xs (y0, y1, y2) u (HT.out u hu) hn)
  simp only [elV] at CA CB ⊢
  have hO : Hid (ordP xs (x0, x1, x2) (y0, y1, y2) = if plP (x0, x1, x2) xs 0 < 0 ∨ plP (y0, y1, y2) xs 0 < 0 then 0 else if plP (x0, x1, x2) xs 0 < plP (y0, y1, y2) xs 0 then 1 else -1) := rfl
  generalize ordP xs (x0, x1, x2) (y0, y1, y2) = oo at *
  generalize plP (x0, x1, x2) xs 0 = px at *
  generalize plP (y0, y1, y2) xs 0 = py at *
  clear hT b1
  go_enter Tryz.func29, Tryz.ntmps29
  go_upto_region 1 with fail
  generalize (w.alloc (.cells #[.int .u8 x0, .int .i64 x1, .int .i64 x2] 42)).alloc (.cells #[.int .u8 y0, .int .i64 y1, .int .i64 y2] 42) = w0 at *
  obtain ⟨⟨r0, r1, r2⟩, -⟩ := cells3F hX.out
  go_upto_region 2 with (go_at_call 61; refine (CA.out _ HB.out).mono ?_; rintro e u ⟨rfl, bu⟩)
  have BU := hd (HB.out.trans (bu.mono HB.out.size))
  obtain ⟨⟨s0, s1, s2⟩, -⟩ := cells3F ((bu.block _ (block_lt hY.out)).trans hY.out)
  clear r0 r1 r2 bu
  go_upto_region 3 with (go_at_call 61; refine (CB.out _ BU.out).mono ?_; rintro e u2 ⟨rfl, bu⟩)
  have BV := hd (BU.out.trans (bu.mono BU.out.size))
  have ho := hO.out
  clear s0 s1 s2 bu hO
  by_cases h1 : px < 0
  · rw [if_pos (.inl h1)] at ho
    subst ho
    go_wp2
    go_ret
    exact ⟨rfl, BV.out⟩
  · by_cases h2 : py < 0
    · rw [if_pos (.inr h2)] at ho
      subst ho
      go_wp2
      go_ret
      exact ⟨rfl, BV.out⟩
    · rw [if_neg (fun h => h.elim h1 h2)] at ho
      by_cases h3 : px < py
      · rw [if_pos h3] at ho
        subst ho
        go_wp2
        go_ret
        exact ⟨rfl, BV.out⟩
      · rw [if_neg h3] at ho
        subst ho
        go_wp2
        go_ret
        exact ⟨rfl, BV.out⟩

end Go.Proofs.YtfhghijefjhehaaGreatDoor

/-! Rj -/
namespace Go.Proofs.YtfhghijefjhehaaGreatDoor
open Go.RowKit Go.Shelf
set_option linter.unusedVariables false
attribute [local go_sem] Oper.semAt_some

theorem fsN_map {α β : Type} (f : β → Int) (g : α → β) : ∀ l : List α, fsN f (l.map g) = fsN (fun x => f (g x)) l
  | [] => rfl
  | x :: l => by
    simp only [List.map_cons, fsN]
    rw [fsN_map f g l]
/-- What the program asks of one state. -/
def skF (a b : El) (p : PV) : Int := if (elB (elE p.o) a || elB (elE p.o) b) = true then ordP p.doc a b else 0
theorem ord_nil (a b : El) : ordP [] a b = 0 := by simp [ordP, plP]
theorem Chn.init : ∀ {d : List El} {l m : List PV}, Chn d (l ++ m) → Chn d l
  | d, [], m, h => trivial
  | d, y :: l, m, h => ⟨h.1, Chn.init (l := l) h.2⟩
/-- No state tells. -/
theorem side_zero {a b : El} {T : List Vw} {vs : List PV} (hm : vs.map PV.view = T) (hch : Chn [] vs) (hz : fsN (skF a b) vs = 0) : fsN (fun v : Vw => ordP v.doc a b) T = 0 := by
  rw [← hm, fsN_map]
  exact (skip_same a b vs [] hch (ord_nil a b)).trans hz
/-- A state tells. -/
theorem side_hit {a b : El} {pre : List PV} {p : PV} {T rest : List Vw} (hch : Chn [] (pre ++ [p])) (hz : fsN (skF a b) pre = 0) (hT : pre.map PV.view ++ (p.view :: rest) = T) (hne : ordP p.doc a b ≠ 0) : fsN (fun v : Vw => ordP v.doc a b) T = ordP p.doc a b := by
  rw [← hT, fsN_append]
  have h0 : fsN (fun v : Vw => ordP v.doc a b) (pre.map PV.view) = 0 := side_zero rfl hch.init hz
  rw [if_pos h0]
  show (if ordP p.doc a b = 0 then _ else ordP p.doc a b) = _
  rw [if_neg hne]
theorem side_step {a b : El} {pre : List PV} {p : PV} (hz : fsN (skF a b) pre = 0) (h : skF a b p = 0) : fsN (skF a b) (pre ++ [p]) = 0 := by
  rw [fsN_append, if_pos hz]
  simp [fsN, h]

/-- What lies there while side goes along: the box of its answer, the two elements. -/
structure CpS (w : World) (rb ba bb B : Nat) (a b : El) (pre : List PV) (W : World) : Prop where
  zero : fsN (skF a b) pre = 0
  res : W.heap[rb]? = some (.cells #[.int .i64 0] 3 (0, 0))
  ea : W.heap[ba]? = some (.cells #[.int .u8 a.1, .int .i64 a.2.1, .int .i64 a.2.2] 42 (0, 0))
  eb : W.heap[bb]? = some (.cells #[.int .u8 b.1, .int .i64 b.2.1, .int .i64 b.2.2] 42 (0, 0))
  lr : rb < B ∧ ba < B ∧ bb < B
  lo : w.heap.size ≤ rb ∧ w.heap.size ≤ B
  bel : Below w.heap.size w W
section
variable {w W W' : World} {rb ba bb B : Nat} {a b : El} {pre : List PV}
theorem CpS.fri {B0 : Nat} (h : CpS w rb ba bb B a b pre W) (hF : FrI B0 W W') (hB : B ≤ B0) : CpS w rb ba bb B a b pre W' := by
  obtain ⟨l1, l2, l3⟩ := h.lr
  have k : ∀ j, j < B → ∀ {o}, W.heap[j]? = some o → W'.heap[j]? = some o := fun j hj o ho => (hF.block j (block_lt ho) (fun hs => by have := hs.1; omega)).trans ho
  exact ⟨h.zero, k _ l1 h.res, k _ l2 h.ea, k _ l3 h.eb, h.lr, h.lo, h.bel.trans (hF.below h.bel.size (fun j hj => by have := hj.1; have := h.lo.2; omega))⟩
theorem CpS.below (h : CpS w rb ba bb B a b pre W) (hb : Below W.heap.size W W') : CpS w rb ba bb B a b pre W' := h.fri (FrI.of_below (B0 := B) hb) (Nat.le_refl _)
theorem CpS.putObj {l : Nat} {r r' : Loop} (h : CpS w rb ba bb B a b pre W) (hl : W.heap[l]? = some (.loop r)) (hlo : w.heap.size ≤ l) : CpS w rb ba bb B a b pre (W.putObj l (.loop r')) := by
  have k : ∀ (j : Nat) {cs : Array Value} {t : TypeId} {f : Nat × Nat}, W.heap[j]? = some (Obj.cells cs t f) → (W.putObj l (.loop r')).heap[j]? = some (Obj.cells cs t f) := fun j cs t f ho => (World.putObj_heap_other (fun e => by rw [e, hl] at ho; cases ho)).trans ho
  exact ⟨h.zero, k _ h.res, k _ h.ea, k _ h.eb, h.lr, h.lo, h.bel.trans ((Fr.putObj W l (.loop r')).below h.bel.size (fun j hj => by rw [hj]; exact hlo))⟩
end

end Go.Proofs.YtfhghijefjhehaaGreatDoor

/-! Rk -/
namespace Go.Proofs.YtfhghijefjhehaaGreatDoor
open Go.RowKit Go.Shelf
set_option linter.unusedVariables false

def opsAtF (n : Nat) : Code → Option (Array Oper)
  | .region k ops _ => if k = n then some ops else none
  | .seq a b => (opsAtF n a).orElse fun _ => opsAtF n b
  | .block _ c => opsAtF n c
  | .scope c => opsAtF n c
  | .cond _ a b => (opsAtF n a).orElse fun _ => opsAtF n b
  | .loop c => opsAtF n c
  | .rangeFunc _ _ _ c => opsAtF n c
  | _ => none
noncomputable def opsS6 : Array Oper := (Tryz.f27.body.bind (opsAtF 6)).getD #[]
theorem opsS6_size : opsS6.size = 10 := by kernel_rfl
theorem opsS6_earlier : Earlier opsS6 := by
  have h : (List.range 10).all (fun i => ((opsS6[i]?).map (fun o => o.after.all (fun e => !Region.binds .any e || decide (e.on < i)))).getD true) = true := by kernel_rfl
  intro i o ho e he hb
  have hi : i < 10 := by
    have := (Array.getElem?_eq_some_iff.1 ho).1
    rwa [opsS6_size] at this
  have h1 := List.all_eq_true.1 h i (List.mem_range.2 hi)
  rw [ho] at h1
  simp only [Option.map_some, Option.getD_some, Array.all_eq_true'] at h1
  have h2 := h1 e he
  rw [hb] at h2
  simpa using h2

section
variable {ops : Array Oper} {o : Oper} {a : Act} {w : World} {K : Act → World → Prop} {Q : Exit → Act → World → Prop} {i N l : Nat}
/-- An operation that only reads, in a round. -/
theorem owR_value (ho : ops[i]? = some o) {d : Option Tmp} {p : Op} (h : (ops[i]?).map (fun o => (o.dst, o.op, o.guard)) = some (d, p, none)) (hnd : ∀ c, p ≠ .defer c) {v : Value} (hr : ∀ o : Oper, o.op = p → (execOp a.eval o).run Tryz.prog w = .ok (.value v) w) (hK : K (a.put d v) w) : wpOpIn (Fence.wide.inRound l) N Tryz.prog ops Q i K a w := by
  obtain ⟨h1, h2, h3⟩ := fieldsJ ho h
  unfold wpOpIn
  rw [ho]
  simp only [Region.wanted, h3, if_true]
  refine ⟨fun _ _ => trivial, ?_⟩
  rw [Oper.semAt_plain _ _ _ (by rw [h2]; exact hnd), hr o h2, Oper.uponIn_value, h1]
  exact hK
/-- A call, in a round. -/
theorem owR_call (ho : ops[i]? = some o) {d : Option Tmp} {f : Nat} (xs : Array Operand) (ts : Array TypeId) (h : (ops[i]?).map (fun o => (o.dst, o.op, o.guard)) = some (d, Op.call { callee := .value (.func f), args := xs, argTypes := ts }, none)) (eg : ∀ args w, (callFunc f args).run Tryz.prog w = .ok (.enter f args) w) {vs : Array Value} (hvs : xs.map a.eval = vs) {R : Ending → World → Prop} (hC : Calls Tryz.prog f vs w R) (hK : ∀ e w', R e w' → ∃ v, e = .returned v ∧ K (a.put d v) w') : wpOpIn (Fence.wide.inRound l) N Tryz.prog ops Q i K a w := by
  obtain ⟨h1, h2, h3⟩ := fieldsJ ho h
  unfold wpOpIn
  rw [ho]
  simp only [Region.wanted, h3, if_true]
  refine ⟨fun _ _ => trivial, ?_⟩
  rw [Oper.semAt_plain _ _ _ (by rw [h2]; intro c hc; cases hc)]
  have e1 : (execOp a.eval o).run Tryz.prog w = .ok (.enter f vs) w := by
    have e2 : a.eval (.func f) = .func (.func f) #[] #[] := rfl
    simp [execOp, h2, resolve, invoke, Deferred.ofValue, e2, hvs, eg]
  rw [e1, Oper.uponIn_enter]
  refine ⟨fun hh => by simp [Fence.wide, Fence.inRound] at hh, ((callsIn_wide (n := N - 1)).2 hC).inRound l |>.mono ?_⟩
  intro e w' he
  obtain ⟨v, rfl, hk⟩ := hK e w' he
  rw [h1]
  exact hk
end

def sl6 (j : Nat) : Nat := [29, 30, 31, 32, 33, 34, 35, 36, 12, 13].getD j 0
theorem sl6_inj : ∀ i, i < 10 → ∀ j, j < 10 → sl6 j = sl6 i → j = i := by decide
theorem sl6_lt : ∀ i, i < 10 → sl6 i < 48 := by decide
def V6 (vb : Nat) (a b : El) (sv : Value) (i k : Int) : Nat → Value := fun j => [.pointer (some ⟨vb, 2, none⟩), sv, elV a, .int .i64 i, .pointer (some ⟨vb, 2, none⟩), sv, elV b, .int .i64 k, .int .i64 i, .int .i64 k].getD j undef
structure J6 (a0 : Act) (W : World) (vb : Nat) (x y : El) (sv : Value) (m k : Int) (L : Nat → Prop) (a : Act) (u : World) : Prop where
  fe : Fe a0 a ((List.range 10).map sl6)
  e : ∀ j, j < 10 → L j → a.eval (.tmp (sl6 j)) = V6 vb x y sv m k j
  bel : Below W.heap.size W u
theorem J6.next {a0 a : Act} {W u u' : World} {vb : Nat} {x y : El} {sv : Value} {m k : Int} {L L' : Nat → Prop} (h : J6 a0 W vb x y sv m k L a u) (i : Nat) (hi : i < 10) (hu : ∀ j, L' j ↔ (j = i ∨ L j)) (hz : 48 ≤ a0.tmps.size) (hb : Below u.heap.size u u') : J6 a0 W vb x y sv m k L' (a.put (some (sl6 i)) (V6 vb x y sv m k i)) u' := by
  refine ⟨h.fe.put (List.mem_map.2 ⟨i, List.mem_range.2 hi, rfl⟩) _, fun j hj hl => ?_, h.bel.trans (hb.mono h.bel.size)⟩
  by_cases e : j = i
  · subst e
    exact ev_eq _ _ (by have := h.fe.sz; have := sl6_lt j hj; omega)
  · rw [ev_ne _ _ (fun e' => e (sl6_inj i hi j hj e'))]
    exact h.e j hj (((hu j).1 hl).resolve_left e)

set_option maxRecDepth 100000 in
set_option maxHeartbeats 4000000 in
theorem side_region6 {N l : Nat} (a0 : Act) (W : World) (ba bb vb : Nat) (x y : El) (xs : List El) (av : Option Addr) (cv : Nat) (v0 v1 : Value) {Q : Exit → Act → World → Prop} {K : Act → World → Prop} (q6 : a0.eval (.tmp 6) = .pointer (some ⟨ba, 0, none⟩)) (q7 : a0.eval (.tmp 7) = .pointer (some ⟨bb, 0, none⟩)) (q10 : a0.eval (.tmp 10) = .pointer (some ⟨vb, 0, none⟩)) (hz : 48 ≤ a0.tmps.size)
    (ha : W.heap[ba]? = some (.cells #[.int .u8 x.1, .int .i64 x.2.1, .int .i64 x.2.2] 42 (0, 0))) (hb : W.heap[bb]? = some (.cells #[.int .u8 y.1, .int .i64 y.2.1, .int .i64 y.2.2] 42 (0, 0))) (hv : W.heap[vb]? = some (.cells #[v0, v1, .slice av xs.length cv] 72 (0, 0)))
    (hT : IsTx W av xs) (hn : xs.length ≤ 9223372036854775807)
    (hK : ∀ u, Below W.heap.size W u → K (puts a0 ((List.range 10).map fun j => (sl6 j, V6 vb x y (.slice av xs.length cv) (plP x xs 0) (plP y xs 0) j))) u) :
    (Code.region 6 opsS6 true).wpIn (Fence.wide.inRound l) N Tryz.prog (Exit.then K Q) a0 W := by
  obtain ⟨x0, x1, x2⟩ := x
  obtain ⟨y0, y1, y2⟩ := y
  have eg := enters_of Tryz.func60 (by kernel_rfl) rfl
  refine wpIn_region_inv (by kernel_rfl) opsS6_earlier (fun L a' u => J6 a0 W vb (x0, x1, x2) (y0, y1, y2) (.slice av xs.length cv) (plP (x0, x1, x2) xs 0) (plP (y0, y1, y2) xs 0) L a' u) ?_ ?_ ?_
  · rintro L L' a u i o h hop hno hall hu
    clear hK
    have hi : i < 10 := by
      have := (Array.getElem?_eq_some_iff.1 hop).1
      rwa [opsS6_size] at this
    have p6 := (h.fe.ev (j := 6) (by decide)).trans q6
    have p7 := (h.fe.ev (j := 7) (by decide)).trans q7
    have p10 := (h.fe.ev (j := 10) (by decide)).trans q10
    obtain ⟨⟨a0c, a1c, a2c⟩, -⟩ := cells3F ((h.bel.block _ (block_lt ha)).trans ha)
    obtain ⟨⟨b0c, b1c, b2c⟩, -⟩ := cells3F ((h.bel.block _ (block_lt hb)).trans hb)
    obtain ⟨⟨-, -, v2c⟩, -⟩ := cells3F ((h.bel.block _ (block_lt hv)).trans hv)
    have hTu := hT.below h.bel (Nat.le_refl _)
    clear ha hb hv hT
    match i, hi with
    | 0, _ =>
      exact owR_value hop (d := some 29) (p := .fieldAddr 72 (.tmp 10) 2) (by kernel_rfl) (fun c hc => by cases hc) (fun o e => by
        simp only [execOp, e, p10]
        first | (go_simp; done) | (go_simp; rfl) | rfl) (h.next 0 (by omega) hu hz (Below.refl _ _))
    | 1, _ =>
      have d : a.eval (.tmp 29) = .pointer (some ⟨vb, 2, none⟩) := h.e 0 (by omega) (depJ hop hall 0 (by kernel_rfl))
      exact owR_value hop (d := some 30) (p := .load 70 (.tmp 29)) (by kernel_rfl) (fun c hc => by cases hc) (fun o e => by
        simp only [execOp, e, d]
        first | (go_simp; done) | (go_simp; rfl) | rfl) (h.next 1 (by omega) hu hz (Below.refl _ _))
    | 2, _ =>
      exact owR_value hop (d := some 31) (p := .load 42 (.tmp 6)) (by kernel_rfl) (fun c hc => by cases hc) (fun o e => by
        simp only [execOp, e, p6]
        first | (go_simp; done) | (go_simp; rfl) | rfl) (h.next 2 (by omega) hu hz (Below.refl _ _))
    | 3, _ =>
      have d1 : a.eval (.tmp 30) = .slice av xs.length cv := h.e 1 (by omega) (depJ hop hall 1 (by kernel_rfl))
      have d2 : a.eval (.tmp 31) = elV (x0, x1, x2) := h.e 2 (by omega) (depJ hop hall 2 (by kernel_rfl))
      refine owR_call hop (d := some 32) #[.tmp 30, .tmp 31] #[70, 42] (by kernel_rfl) eg (vs := #[.slice av xs.length cv, elV (x0, x1, x2)]) (by simp [d1, d2]) (sindex_any av cv xs (x0, x1, x2) u hTu hn) ?_
      rintro e w' ⟨rfl, bw⟩
      exact ⟨_, rfl, h.next 3 (by omega) hu hz bw⟩
    | 4, _ =>
      exact owR_value hop (d := some 33) (p := .fieldAddr 72 (.tmp 10) 2) (by kernel_rfl) (fun c hc => by cases hc) (fun o e => by
        simp only [execOp, e, p10]
        first | (go_simp; done) | (go_simp; rfl) | rfl) (h.next 4 (by omega) hu hz (Below.refl _ _))
    | 5, _ =>
      have d : a.eval (.tmp 33) = .pointer (some ⟨vb, 2, none⟩) := h.e 4 (by omega) (depJ hop hall 4 (by kernel_rfl))
      exact owR_value hop (d := some 34) (p := .load 70 (.tmp 33)) (by kernel_rfl) (fun c hc => by cases hc) (fun o e => by
        simp only [execOp, e, d]
        first | (go_simp; done) | (go_simp; rfl) | rfl) (h.next 5 (by omega) hu hz (Below.refl _ _))
    | 6, _ =>
      exact owR_value hop (d := some 35) (p := .load 42 (.tmp 7)) (by kernel_rfl) (fun c hc => by cases hc) (fun o e => by
        simp only [execOp, e, p7]
        first | (go_simp; done) | (go_simp; rfl) | rfl) (h.next 6 (by omega) hu hz (Below.refl _ _))
    | 7, _ =>
      have d1 : a.eval (.tmp 34) = .slice av xs.length cv := h.e 5 (by omega) (depJ hop hall 5 (by kernel_rfl))
      have d2 : a.eval (.tmp 35) = elV (y0, y1, y2) := h.e 6 (by omega) (depJ hop hall 6 (by kernel_rfl))
      refine owR_call hop (d := some 36) #[.tmp 34, .tmp 35] #[70, 42] (by kernel_rfl) eg (vs := #[.slice av xs.length cv, elV (y0, y1, y2)]) (by simp [d1, d2]) (sindex_any av cv xs (y0, y1, y2) u hTu hn) ?_
      rintro e w' ⟨rfl, bw⟩
      exact ⟨_, rfl, h.next 7 (by omega) hu hz bw⟩
    | 8, _ =>
      have d : a.eval (.tmp 32) = .int .i64 (plP (x0, x1, x2) xs 0) := h.e 3 (by omega) (depJ hop hall 3 (by kernel_rfl))
      exact owR_value hop (d := some 12) (p := .assign (.tmp 32)) (by kernel_rfl) (fun c hc => by cases hc) (fun o e => by
        simp only [execOp, e, d]
        first | (go_simp; done) | (go_simp; rfl) | rfl) (h.next 8 (by omega) hu hz (Below.refl _ _))
    | 9, _ =>
      have d : a.eval (.tmp 36) = .int .i64 (plP (y0, y1, y2) xs 0) := h.e 7 (by omega) (depJ hop hall 7 (by kernel_rfl))
      exact owR_value hop (d := some 13) (p := .assign (.tmp 36)) (by kernel_rfl) (fun c hc => by cases hc) (fun o e => by
        simp only [execOp, e, d]
        first | (go_simp; done) | (go_simp; rfl) | rfl) (h.next 9 (by omega) hu hz (Below.refl _ _))
    | i + 10, hi => omega
  · rintro L a u h hall
    rw [opsS6_size] at hall
    have hput := Fe.puts ((List.range 10).map fun j => (sl6 j, V6 vb (x0, x1, x2) (y0, y1, y2) (.slice av xs.length cv) (plP (x0, x1, x2) xs 0) (plP (y0, y1, y2) xs 0) j)) a0 a (by rw [List.map_map]; exact h.fe) (by
      intro p hp
      obtain ⟨j, hj, rfl⟩ := List.mem_map.1 hp
      have hj := List.mem_range.1 hj
      exact ⟨by have := sl6_lt j hj; show sl6 j < _; omega, h.e j hj (hall j hj)⟩)
    show K a u
    rw [hput]
    exact hK u h.bel
  · intro L hn
    exact ⟨Fe.refl _ _, fun j _ hl => absurd hl (hn j), (Below.refl _ _).drew⟩

end Go.Proofs.YtfhghijefjhehaaGreatDoor

/-! Rl -/
namespace Go.Proofs.YtfhghijefjhehaaGreatDoor
open Go.RowKit Go.Shelf
set_option linter.unusedVariables false
attribute [local go_sem] Oper.semAt_some

/-- Four boxes. -/
theorem box4 (w : World) (o1 o2 o3 o4 : Obj) : Below w.heap.size w ((((w.alloc o1).alloc o2).alloc o3).alloc o4) ∧ ((((w.alloc o1).alloc o2).alloc o3).alloc o4).heap[w.heap.size]? = some o1 ∧ ((((w.alloc o1).alloc o2).alloc o3).alloc o4).heap[w.heap.size + 1]? = some o2 ∧ ((((w.alloc o1).alloc o2).alloc o3).alloc o4).heap[w.heap.size + 2]? = some o3 ∧ ((((w.alloc o1).alloc o2).alloc o3).alloc o4).heap[w.heap.size + 3]? = some o4 := by
  refine ⟨((((Below.refl _ _).alloc (Nat.le_refl _) _).alloc (by simp) _).alloc (by simp <;> omega) _).alloc (by simp <;> omega) _, ?_, ?_, ?_, ?_⟩
  · exact (Below.heap_alloc _ _ _ (by simp <;> omega)).trans ((Below.heap_alloc _ _ _ (by simp <;> omega)).trans ((Below.heap_alloc _ _ _ (by simp)).trans (heap_alloc_new w _)))
  · refine (Below.heap_alloc _ _ _ (by simp <;> omega)).trans ((Below.heap_alloc _ _ _ (by simp)).trans ?_)
    have := heap_alloc_new (w.alloc o1) o2
    rwa [World.size_alloc] at this
  · refine (Below.heap_alloc _ _ _ (by simp)).trans ?_
    have := heap_alloc_new ((w.alloc o1).alloc o2) o3
    rwa [World.size_alloc, World.size_alloc] at this
  · have := heap_alloc_new (((w.alloc o1).alloc o2).alloc o3) o4
    rwa [World.size_alloc, World.size_alloc, World.size_alloc] at this

theorem results_cell_int {P : Program} {fn : Func} {p : Tmp} (h : fn.results = #[.cell p 3]) (hu : P.underlying 3 = some (.int .i64)) (tmps : Array Value) (w : World) (g : Nat) (n : Int) (hp : tmps.getD p undef = .pointer (some ⟨g, 0, none⟩)) (hg : w.heap[g]? = some (.cells #[.int .i64 n] 3 (0, 0))) :
    (results fn tmps).run P w = .ok (.int .i64 n) w := by
  have hp' : tmps[p]?.getD undef = .pointer (some ⟨g, 0, none⟩) := by simpa using hp
  have hc : w.cell? ⟨g, 0, none⟩ = some (.int .i64 n) := by rw [cell_row hg]; rfl
  simp [results, h, hp', asAddr, isAgg, run_underlying hu, hc, go_sem]

theorem CpS.snoc {w W : World} {rb ba bb B : Nat} {a b : El} {pre : List PV} (h : CpS w rb ba bb B a b pre W) {p : PV} (hz : skF a b p = 0) : CpS w rb ba bb B a b (pre ++ [p]) W := ⟨side_step h.zero hz, h.res, h.ea, h.eb, h.lr, h.lo, h.bel⟩

/-- What stands ahead of the loop. -/
structure IRs (w : World) (rb ba bb B : Nat) (a b : El) (xt bp bs : Nat) (C : Int) (vL vE vd : Value) (S : Nat → Ls) (L : Nat → Option Nat) (βd : Option Nat) (done : List OpE) (c : Nat) (W : World) : Prop where
  tl : TL W xt C vL vE S L
  bp : W.heap[bp]? = some (.cells #[.pointer (some ⟨xt, 0, none⟩), vd] 65 (0, 0))
  bs : W.heap[bs]? = some (.cells #[.int .i64 (c : Int)] 3 (0, 0))
  dn : FO W βd vd done
  tb : Table W
  cp : CpS w rb ba bb B a b [] W
  sz : B ≤ W.heap.size
theorem IRs.below {w : World} {rb ba bb B : Nat} {a b : El} {xt bp bs : Nat} {C : Int} {vL vE vd : Value} {S : Nat → Ls} {L : Nat → Option Nat} {βd : Option Nat} {done : List OpE} {c : Nat} {W W' : World} (h : IRs w rb ba bb B a b xt bp bs C vL vE vd S L βd done c W) (hb : Below W.heap.size W W') : IRs w rb ba bb B a b xt bp bs C vL vE vd S L βd done c W' :=
  ⟨h.tl.below hb, (hb.block _ (block_lt h.bp)).trans h.bp, (hb.block _ (block_lt h.bs)).trans h.bs, h.dn.fr (Fr.of_below (S := fun _ => False) hb) (fun _ _ h => h), h.tb.below hb h.tb.1, h.cp.below hb, Nat.le_trans h.sz hb.size⟩

section
variable {w : World} {x nL nE CN : Nat} {vL vE : Value} {L : Nat → Option Nat} {aD : Option Addr} {cD : Nat} {βd : Option Nat} {log : List Ed} {evs : List Ev} {D : Nat → List El}
set_option maxRecDepth 100000 in
set_option maxHeartbeats 8000000 in
theorem side_any (hle : log.length = nL ∧ evs.length = nE) (hT : TL w x (CN : Int) vL vE (S2 log evs D nE) L) (hFO : FO w βd (.slice aD nL cD) (stW apE log (edW evs D) nL).2) (hP : PF CN log (edW evs D)) (hN : nL ≤ 4096) (hTb : Table w) (c : Nat) (hc : c < 65) (a b : El) :
    Calls Tryz.prog 27 #[.agg #[.pointer (some ⟨x, 0, none⟩), .slice aD nL cD], .int .i64 (c : Int), elV a, elV b] w fun e w' => e = .returned (.int .i64 (fsN (fun v : Vw => ordP v.doc a b) (pathP log evs D c))) ∧ Below w.heap.size w w' := by
  obtain ⟨a0, a1, a2⟩ := a
  obtain ⟨b0, b1, b2⟩ := b
  obtain ⟨hb, hF, hA, hB, hR⟩ := box4 w (.cells #[.pointer (some ⟨x, 0, none⟩), .slice aD nL cD] 65) (.cells #[.int .u8 a0, .int .i64 a1, .int .i64 a2] 42) (.cells #[.int .u8 b0, .int .i64 b1, .int .i64 b2] 42) (.cells #[.int .i64 0] 3)
  simp only [elV]
  have hIR0 : Hid (∀ w0, Below w.heap.size w w0 → w0.heap[w.heap.size + 1]? = some (.cells #[.int .u8 a0, .int .i64 a1, .int .i64 a2] 42 (0, 0)) → w0.heap[w.heap.size + 2]? = some (.cells #[.int .u8 b0, .int .i64 b1, .int .i64 b2] 42 (0, 0)) → w0.heap[w.heap.size + 3]? = some (.cells #[.int .i64 0] 3 (0, 0)) →
      IRs w (w.heap.size + 3) (w.heap.size + 1) (w.heap.size + 2) (w0.heap.size + 2) (a0, a1, a2) (b0, b1, b2) x w0.heap.size (w0.heap.size + 1) (CN : Int) vL vE (.slice aD nL cD) (S2 log evs D nE) L βd (stW apE log (edW evs D) nL).2 c ((w0.alloc (.cells #[.pointer (some ⟨x, 0, none⟩), .slice aD nL cD] 65)).alloc (.cells #[.int .i64 (c : Int)] 3))) := by
    intro w0 h0 k1 k2 k3
    have b4 : Below w0.heap.size w0 ((w0.alloc (.cells #[.pointer (some ⟨x, 0, none⟩), .slice aD nL cD] 65)).alloc (.cells #[.int .i64 (c : Int)] 3)) := ((Below.refl _ _).alloc (Nat.le_refl _) _).alloc (by simp) _
    have bel := h0.trans (b4.mono h0.size)
    have l3 := block_lt k3
    refine ⟨hT.below bel, ?_, ?_, hFO.fr (Fr.of_below (S := fun _ => False) bel) (fun _ _ h => h), hTb.below bel hTb.1, ⟨rfl, (b4.block _ (block_lt k3)).trans k3, (b4.block _ (block_lt k1)).trans k1, (b4.block _ (block_lt k2)).trans k2, ⟨by omega, by omega, by omega⟩, ⟨by omega, by omega⟩, bel⟩, by simp⟩
    · exact (Below.heap_alloc _ _ _ (by simp)).trans (heap_alloc_new w0 _)
    · have := heap_alloc_new (w0.alloc (.cells #[.pointer (some ⟨x, 0, none⟩), .slice aD nL cD] 65)) (.cells #[.int .i64 (c : Int)] 3)
      rwa [World.size_alloc] at this
  have HB := hd hb
  have HF := hd hF
  have HA := hd hA
  have HBB := hd hB
  have HR := hd hR
  have HP := hd hP
  have HN := hd hN
  have HBT := hd hTb.1
  have HLE := hd hle
  have HC := hd hc
  have hf4 : Fence.wide.fn 18 := trivial
  clear hb hF hA hB hR hP hN hTb hle hc hT hFO
  refine (callsIn_wide (n := 8)).1 ?_
  refine callsIn_of_wp_marks Tryz.func27 rfl trivial ?_ rfl
  simp only [Tryz.ntmps27, List.size_toArray, List.length_cons, List.length_nil, Nat.reduceAdd, Nat.reduceSub, Array.replicate_succ, Array.replicate_zero, List.push_toArray, List.append_toArray, List.nil_append, List.cons_append]
  gi_upto_region 1 with fail
  generalize (((w.alloc (.cells #[.pointer (some ⟨x, 0, none⟩), .slice aD nL cD] 65)).alloc (.cells #[.int .u8 a0, .int .i64 a1, .int .i64 a2] 42)).alloc (.cells #[.int .u8 b0, .int .i64 b1, .int .i64 b2] 42)).alloc (.cells #[.int .i64 0] 3) = w0 at *
  have m0 := cell_row HF.out 0
  have m1 := cell_row HF.out 1
  simp at m0 m1
  gi_wp2_with (gi_at_call 18; refine (callsIn_wide.2 (pstates_any _ _ _ _ _ _)).mono ?_; rintro e w4 ⟨rfl, hw4⟩)
  have hIR := hd (hIR0.out w0 HB.out HA.out HBB.out HR.out)
  have hsz5 : ((w0.alloc (.cells #[.pointer (some ⟨x, 0, none⟩), .slice aD nL cD] 65)).alloc (.cells #[.int .i64 (c : Int)] 3)).heap.size = w0.heap.size + 2 := by simp
  have hls : w.heap.size + 4 ≤ w0.heap.size := by have := block_lt HR.out; omega
  clear hIR0 HB HF HA HBB HR m0 m1
  generalize hW4 : (w0.alloc (.cells #[.pointer (some ⟨x, 0, none⟩), .slice aD nL cD] 65)).alloc (.cells #[.int .i64 (c : Int)] 3) = w5 at *
  clear hW4
  refine range_as (F := Fence.wide) (α := Nat × Nat × Nat × Sy) rfl (by omega) (gf := 50) (lb := #[.pointer (some ⟨w0.heap.size, 0, none⟩), .pointer (some ⟨w0.heap.size + 1, 0, none⟩)]) rfl trivial (enters_of Tryz.func50 (by kernel_rfl) rfl) (fun q => encS q.2.2.2) (fun _ => rfl) (w5.heap.size + 1) w5.heap.size rfl rfl
    (IRs w (w.heap.size + 3) (w.heap.size + 1) (w.heap.size + 2) (w0.heap.size + 2) (a0, a1, a2) (b0, b1, b2) x w0.heap.size (w0.heap.size + 1) (CN : Int) vL vE (.slice aD nL cD) (S2 log evs D nE) L βd (stW apE log (edW evs D) nL).2 c)
    (fun W => ∃ vs, CpS w (w.heap.size + 3) (w.heap.size + 1) (w.heap.size + 2) (w0.heap.size + 2) (a0, a1, a2) (b0, b1, b2) vs W ∧ vs.map PV.view = pathP log evs D c ∧ Chn [] vs)
    (fun q W => It q.1 q.2.1 q.2.2.1 w0.heap.size x (L (130 + c)) βd (.slice aD nL cD) (stW apE log (edW evs D) nL).2 (c : Int) q.2.2.2 q.2.2.2.k.text W ∧ CpS w (w.heap.size + 3) (w.heap.size + 1) (w.heap.size + 2) (w0.heap.size + 2) (a0, a1, a2) (b0, b1, b2) (q.2.2.2.pre ++ [q.2.2.2.pv]) W)
    (fun q W => It q.1 q.2.1 q.2.2.1 w0.heap.size x (L (130 + c)) βd (.slice aD nL cD) (stW apE log (edW evs D) nL).2 (c : Int) q.2.2.2 q.2.2.2.k.text W ∧ CpS w (w.heap.size + 3) (w.heap.size + 1) (w.heap.size + 2) (w0.heap.size + 2) (a0, a1, a2) (b0, b1, b2) q.2.2.2.pre W ∧ q.2.2.2.pre.length ≤ 5000 ∧ Chn [] (q.2.2.2.pre ++ [q.2.2.2.pv]) ∧ ∃ rest, q.2.2.2.pre.map PV.view ++ (q.2.2.2.k.view :: rest) = pathP log evs D c)
    (fun q a' W => ∃ vo vb, a' = { tmps := #[.agg #[.pointer (some ⟨x, 0, none⟩), .slice aD nL cD], .int .i64 (c : Int), .agg #[.int .u8 a0, .int .i64 a1, .int .i64 a2], .agg #[.int .u8 b0, .int .i64 b1, .int .i64 b2], .pointer (some ⟨w.heap.size, 0, none⟩), undef, .pointer (some ⟨w.heap.size + 1, 0, none⟩), .pointer (some ⟨w.heap.size + 2, 0, none⟩), .pointer (some ⟨w.heap.size + 3, 0, none⟩), .pointer (some ⟨vo, 0, none⟩), .pointer (some ⟨vb, 0, none⟩), undef, undef, undef, .agg #[.pointer (some ⟨x, 0, none⟩), .slice aD nL cD], .int .i64 (c : Int), .func (.func 50) #[] #[.pointer (some ⟨w0.heap.size, 0, none⟩), .pointer (some ⟨w0.heap.size + 1, 0, none⟩)], q.2.2.2.o.val, .agg #[.int .i64 q.2.2.2.k.hav, .int .i64 q.2.2.2.k.made, q.2.2.2.vt], undef, undef, undef, undef, undef, undef, undef, undef, undef, undef, undef, undef, undef, undef, undef, undef, undef, undef, undef, undef, undef, undef, undef, undef, undef, undef, undef, undef, undef], defers := [] } ∧ W.heap[vo]? = some (.cells (opc q.2.2.2.o).toArray 69 (0, 0)) ∧ W.heap[vb]? = some (.cells (vwc q.2.2.2.pv).toArray 72 (0, 0)) ∧ It q.1 q.2.1 q.2.2.1 w0.heap.size x (L (130 + c)) βd (.slice aD nL cD) (stW apE log (edW evs D) nL).2 (c : Int) q.2.2.2 q.2.2.2.k.text W ∧ CpS w (w.heap.size + 3) (w.heap.size + 1) (w.heap.size + 2) (w0.heap.size + 2) (a0, a1, a2) (b0, b1, b2) q.2.2.2.pre W ∧ q.2.2.2.pre.length ≤ 5000 ∧ Chn [] (q.2.2.2.pre ++ [q.2.2.2.pv]) ∧ ∃ rest, q.2.2.2.pre.map PV.view ++ (q.2.2.2.k.view :: rest) = pathP log evs D c)
    (fun cd W => cd = .ret ∧ W.heap[w.heap.size + 3]? = some (.cells #[.int .i64 (fsN (fun v : Vw => ordP v.doc (a0, a1, a2) (b0, b1, b2)) (pathP log evs D c))] 3 (0, 0)) ∧ Below w.heap.size w W) ?pY ?pI ?pIe ?pIx ?h0 ?hseq ?hassign ?hbody ?hdone ?hstop
  case pY =>
    rintro q a' W r r' hl ⟨vo, vb, h1, h2, h3, h4, h5, h6⟩
    have e : vb ≠ w5.heap.size + 1 := fun e => by rw [e, hl] at h3; cases h3
    have e' : vo ≠ w5.heap.size + 1 := fun e => by rw [e, hl] at h2; cases h2
    exact ⟨vo, vb, h1, (World.putObj_heap_other e').trans h2, (World.putObj_heap_other e).trans h3, h4.putObj hl (by have := HBT.out; omega), h5.putObj hl (by omega), h6⟩
  case pI =>
    rintro q W r r' hl ⟨h3, h4⟩
    exact ⟨h3.putObj hl (by have := HBT.out; omega), h4.putObj hl (by omega)⟩
  case pIe =>
    rintro W r r' hl ⟨vs, h3, h4⟩
    exact ⟨vs, h3.putObj hl (by omega), h4⟩
  case pIx =>
    rintro cd W r r' hl ⟨h1, h2, h3⟩
    exact ⟨h1, (World.putObj_heap_other (fun e => by rw [e, hl] at h2; cases h2)).trans h2, h3.trans ((Fr.putObj W (w5.heap.size + 1) (.loop r')).below h3.size (fun j hj => by rw [hj]; omega))⟩
  case h0 =>
    intro r
    exact hIR.out.below (((Below.refl _ _).alloc (Nat.le_refl _) _).alloc (by simp) _)
  case hseq =>
    intro r W1 X hLB h0 hY
    have hle := HLE.out
    obtain ⟨rfl, rfl⟩ := hle
    exact states_chn (n := 8 - 1) (by omega) hLB h0.tl HC.out (S2_ds _ _ HC.out) rfl HP.out HN.out h0.bp h0.bs h0.dn h0.tb (fun pre W W' h f => h.fri f h0.sz) h0.cp (fun B0 xh ob y W hl hi hc hpl hch hre => by
      obtain ⟨fn, tm, asg, bd, h1, h2⟩ := hY (B0, xh, ob, y) W hl ⟨hi, hc, hpl, hch, hre⟩
      refine ⟨fn, tm, asg, bd, h1, h2.mono ?_⟩
      rintro e W' (⟨e1, e2, e3, e4⟩ | h)
      · exact .inl ⟨e1, e2, e3, e4⟩
      · exact .inr h)
  case hassign =>
    rintro ⟨B0, xh, ob, y⟩ r W hLB ⟨hi, hc, hpl⟩ K1 hK1
    have HPL := hd hpl
    obtain ⟨βt, htx⟩ := hi.tx
    obtain ⟨av, cv, hav, -⟩ := htx.form
    have HK1 := hd hK1
    have ZW : Hid (∀ (W' : World), W' = (W.alloc (.cells (opc y.o).toArray 69)).alloc (.cells (vwc y.pv).toArray 72) → LB (w5.heap.size + 1) w5.heap.size r W' ∧ W'.heap[W.heap.size]? = some (.cells (opc y.o).toArray 69 (0, 0)) ∧ W'.heap[W.heap.size + 1]? = some (.cells (vwc y.pv).toArray 72 (0, 0)) ∧ It B0 xh ob w0.heap.size x (L (130 + c)) βd (.slice aD nL cD) (stW apE log (edW evs D) nL).2 (c : Int) y y.k.text W' ∧ CpS w (w.heap.size + 3) (w.heap.size + 1) (w.heap.size + 2) (w0.heap.size + 2) (a0, a1, a2) (b0, b1, b2) y.pre W') := by
      rintro W' rfl
      have hb : Below W.heap.size W ((W.alloc (.cells (opc y.o).toArray 69)).alloc (.cells (vwc y.pv).toArray 72)) := ((Below.refl _ _).alloc (Nat.le_refl _) _).alloc (by simp) _
      refine ⟨⟨(hb.block _ (block_lt hLB.1)).trans hLB.1, (hb.block _ (block_lt hLB.2)).trans hLB.2⟩, (Below.heap_alloc _ _ _ (by simp)).trans (heap_alloc_new W _), ?_, hi.below hb, hc.below hb⟩
      have := heap_alloc_new (W.alloc (.cells (opc y.o).toArray 69)) (.cells (vwc y.pv).toArray 72)
      rwa [World.size_alloc] at this
    clear hK1 hi hc hLB htx hpl
    simp only [encS, vwc, Sy.pv, svl, opc] at ZW ⊢
    obtain ⟨⟨ok, op, oc, ol, os⟩, yv, yk, yβ, yd, yp⟩ := y
    simp only at hav
    subst hav
    simp only [OpE.val]
    gi_wp2_with fail
    obtain ⟨z1, z2, z3, z4, z5⟩ := ZW.out _ rfl
    exact HK1.out _ _ z1 ⟨W.heap.size, W.heap.size + 1, rfl, z2, z3, z4, z5, HPL.out⟩
  case hbody =>
    have HSZ := hd hsz5
    clear hsz5
    rintro ⟨B0, xh, ob, y⟩ r a' W hLB ⟨vo, vb, rfl, hvo, hvb, hi, hc, hpl, hch, rest, hre⟩
    obtain ⟨βt, htx⟩ := hi.tx
    obtain ⟨av, cv, hav, hTx, hlen⟩ := htx.text
    have CRY : Hid (∀ U, Below W.heap.size W U → LB (w5.heap.size + 1) w5.heap.size r U ∧ It B0 xh ob w0.heap.size x (L (130 + c)) βd (.slice aD nL cD) (stW apE log (edW evs D) nL).2 (c : Int) y y.k.text U ∧ CpS w (w.heap.size + 3) (w.heap.size + 1) (w.heap.size + 2) (w0.heap.size + 2) (a0, a1, a2) (b0, b1, b2) y.pre U ∧ U.heap[vb]? = some (.cells (vwc y.pv).toArray 72 (0, 0)) ∧ IsTx U av y.k.text) := fun U hU =>
      ⟨⟨(hU.block _ (block_lt hLB.1)).trans hLB.1, (hU.block _ (block_lt hLB.2)).trans hLB.2⟩, hi.below hU, hc.below hU, (hU.block _ (block_lt hvb)).trans hvb, hTx.below hU (Nat.le_refl _)⟩
    have HIT : Hid (∀ (hne : ordP y.k.text (a0, a1, a2) (b0, b1, b2) ≠ 0), fsN (fun v : Vw => ordP v.doc (a0, a1, a2) (b0, b1, b2)) (pathP log evs D c) = ordP y.k.text (a0, a1, a2) (b0, b1, b2)) := fun hne => side_hit (p := y.pv) hch hc.zero hre hne
    have HLN := hd hlen
    obtain ⟨⟨o0, o1, o2, o3, o4⟩, -⟩ := cellsF (show W.heap[vo]? = some (.cells #[.int .i64 y.o.kind, .int .i64 y.o.pos, .int .u8 y.o.ch, .int .i64 y.o.cl, .int .i64 y.o.sq] 69 (0, 0)) from hvo)
    have CE := hd (fun k p c l s W => elemOf_any k p c l s W)
    have hf5 : Fence.wide.fn 59 := trivial
    have lvo : vo < W.heap.size := block_lt hvo
    clear hvo hvb hi hc hLB htx hTx hlen hpl hch hre
    obtain ⟨⟨ok, op, oc, ol, os⟩, yv, yk, yβ, yd, yp⟩ := y
    simp only [OpE.val] at *
    subst hav
    gi_upto_region 5 with (gi_at_call 59; refine ((callsIn_wide.2 (CE.out _ _ _ _ _ _)).inRound _).mono ?_; rintro e u ⟨rfl, bu⟩)
    have b6 : Below W.heap.size W (u.alloc (.cells #[.int .u8 oc, .int .i64 ol, .int .i64 os] 42)) := bu.alloc bu.size _
    obtain ⟨⟨x0, x1, x2⟩, -⟩ := cells3F (heap_alloc_new u (.cells #[.int .u8 oc, .int .i64 ol, .int .i64 os] 42))
    generalize u.alloc (.cells #[.int .u8 oc, .int .i64 ol, .int .i64 os] 42) = u1 at *
    generalize u.heap.size = xb at *
    obtain ⟨z1, z2, z3, z4, z5⟩ := CRY.out u1 b6
    obtain ⟨⟨p0, p1, p2⟩, -⟩ := cells3F z3.ea
    obtain ⟨⟨p3, p4, p5⟩, -⟩ := cells3F z3.eb
    have ZZ := hd (And.intro z1 (And.intro z2 z3))
    have ZA := hd z3.ea
    have ZB := hd z3.eb
    have ZV := hd (And.intro z4 z5)
    have B6 := hd b6
    clear z1 z2 z3 z4 z5 b6 bu o0 o1 o2 o3 o4 CE
    simp only at p0 p1 p2 p3 p4 p5
    by_cases h1 : ((oc, ol, os) : El) = (a0, a1, a2)
    · have hsk : Hid (skF (a0, a1, a2) (b0, b1, b2) (Sy.pv ⟨⟨ok, op, oc, ol, os⟩, .slice av yk.text.length cv, yk, yβ, yd, yp⟩) = ordP yk.text (a0, a1, a2) (b0, b1, b2)) := by
        show (if (elB (oc, ol, os) (a0, a1, a2) || elB (oc, ol, os) (b0, b1, b2)) = true then _ else (0 : Int)) = _
        rw [elB_iff.2 h1]
        rfl
      injection h1 with e0 e1
      injection e1 with e1 e2
      subst e0
      subst e1
      subst e2
      have eq1 := elSame oc ol os
      gi_upto_region 6 with fail
      refine side_region6 _ u1 (w.heap.size + 1) (w.heap.size + 2) vb (oc, ol, os) (b0, b1, b2) yk.text av cv _ _ rfl rfl rfl (by simp) ZA.out ZB.out ZV.out.1 ZV.out.2 HLN.out ?_
      intro u2 k2
      rename_i K0 hK0
      refine hK0 _ _ ?_
      clear hK0
      simp only [List.range, List.range.loop, List.map_cons, List.map_nil, V6, sl6, List.getD_cons_zero, List.getD_cons_succ, puts, List.foldl_cons, List.foldl_nil, Act.put, List.setIfInBounds_toArray, List.set_cons_succ, List.set_cons_zero, elV]
      have B7 := hd (B6.out.trans (k2.mono B6.out.size))
      obtain ⟨z1, z2, z3, -, -⟩ := CRY.out u2 B7.out
      have ZZ := hd (And.intro z1 (And.intro z2 z3))
      have c8 := cell_row z3.res 0
      have f8 := frozen_row z3.res 0
      simp at c8
      have c9 := z3.res
      have HO : Hid (ordP yk.text (oc, ol, os) (b0, b1, b2) = if plP (oc, ol, os) yk.text 0 < 0 ∨ plP (b0, b1, b2) yk.text 0 < 0 then 0 else if plP (oc, ol, os) yk.text 0 < plP (b0, b1, b2) yk.text 0 then 1 else -1) := rfl
      have ST : Hid (∀ n : Int, ordP yk.text (oc, ol, os) (b0, b1, b2) = n → n ≠ 0 → LB (w5.heap.size + 1) w5.heap.size r (u2.setCell ⟨w.heap.size + 3, 0, none⟩ (.int .i64 n)) ∧ (Code.ret = Code.ret ∧ (u2.setCell ⟨w.heap.size + 3, 0, none⟩ (.int .i64 n)).heap[w.heap.size + 3]? = some (.cells #[.int .i64 (fsN (fun v : Vw => ordP v.doc (oc, ol, os) (b0, b1, b2)) (pathP log evs D c))] 3 (0, 0)) ∧ Below w.heap.size w (u2.setCell ⟨w.heap.size + 3, 0, none⟩ (.int .i64 n)))) := fun n hn hne => by
        have hF := Fr.setCell (S := (· = w.heap.size + 3)) u2 ⟨w.heap.size + 3, 0, none⟩ (.int .i64 n) rfl
        refine ⟨⟨hF.keeps z1.1 (fun hs => by rw [← hs, z1.1] at c9; cases c9), hF.keeps z1.2 (fun hs => by rw [← hs, z1.2] at c9; cases c9)⟩, rfl, ?_, z3.bel.trans (hF.below z3.bel.size (fun j hj => by rw [hj]; omega))⟩
        rw [HIT.out (by rw [hn]; exact hne), hn]
        simpa using set_row z3.res 0 (.int .i64 n)
      clear z1 z2 z3 c9 k2 HIT CRY x0 x1 x2 p0 p1 p2 p3 p4 p5
      generalize plP (oc, ol, os) yk.text 0 = i at *
      generalize plP (b0, b1, b2) yk.text 0 = j at *
      by_cases hi : i < 0
      · have hz := hd (hsk.out.trans (HO.out.trans (if_pos (.inl hi))))
        gi_wp2_with fail
        exact ⟨ZZ.out.1, ZZ.out.2.1, ZZ.out.2.2.snoc hz.out⟩
      · by_cases hj : j < 0
        · have hz := hd (hsk.out.trans (HO.out.trans (if_pos (.inr hj))))
          gi_wp2_with fail
          exact ⟨ZZ.out.1, ZZ.out.2.1, ZZ.out.2.2.snoc hz.out⟩
        · by_cases hij : i < j
          · have hz := hd (ST.out 1 (HO.out.trans ((if_neg (fun h => h.elim hi hj)).trans (if_pos hij))) (by omega))
            gi_wp2_with fail
            exact ⟨hz.out.1, rfl, hz.out.2.2⟩
          · have hz := hd (ST.out (-1) (HO.out.trans ((if_neg (fun h => h.elim hi hj)).trans (if_neg hij))) (by omega))
            gi_wp2_with fail
            exact ⟨hz.out.1, rfl, hz.out.2.2⟩
    · by_cases h2 : ((oc, ol, os) : El) = (b0, b1, b2)
      · have hsk : Hid (skF (a0, a1, a2) (b0, b1, b2) (Sy.pv ⟨⟨ok, op, oc, ol, os⟩, .slice av yk.text.length cv, yk, yβ, yd, yp⟩) = ordP yk.text (a0, a1, a2) (b0, b1, b2)) := by
          show (if (elB (oc, ol, os) (a0, a1, a2) || elB (oc, ol, os) (b0, b1, b2)) = true then _ else (0 : Int)) = _
          rw [elB_iff.2 h2, Bool.or_true]
          rfl
        have eq1 := fun W => elNe h1 W
        have eq2 := elSame oc ol os
        injection h2 with e0 e1
        injection e1 with e1 e2
        subst e0
        subst e1
        subst e2
        gi_upto_region 6 with fail
        refine side_region6 _ u1 (w.heap.size + 1) (w.heap.size + 2) vb (a0, a1, a2) (oc, ol, os) yk.text av cv _ _ rfl rfl rfl (by simp) ZA.out ZB.out ZV.out.1 ZV.out.2 HLN.out ?_
        intro u2 k2
        rename_i K0 hK0
        refine hK0 _ _ ?_
        clear hK0
        simp only [List.range, List.range.loop, List.map_cons, List.map_nil, V6, sl6, List.getD_cons_zero, List.getD_cons_succ, puts, List.foldl_cons, List.foldl_nil, Act.put, List.setIfInBounds_toArray, List.set_cons_succ, List.set_cons_zero, elV]
        have B7 := hd (B6.out.trans (k2.mono B6.out.size))
        obtain ⟨z1, z2, z3, -, -⟩ := CRY.out u2 B7.out
        have ZZ := hd (And.intro z1 (And.intro z2 z3))
        have c8 := cell_row z3.res 0
        have f8 := frozen_row z3.res 0
        simp at c8
        have c9 := z3.res
        have HO : Hid (ordP yk.text (a0, a1, a2) (oc, ol, os) = if plP (a0, a1, a2) yk.text 0 < 0 ∨ plP (oc, ol, os) yk.text 0 < 0 then 0 else if plP (a0, a1, a2) yk.text 0 < plP (oc, ol, os) yk.text 0 then 1 else -1) := rfl
        have ST : Hid (∀ n : Int, ordP yk.text (a0, a1, a2) (oc, ol, os) = n → n ≠ 0 → LB (w5.heap.size + 1) w5.heap.size r (u2.setCell ⟨w.heap.size + 3, 0, none⟩ (.int .i64 n)) ∧ (Code.ret = Code.ret ∧ (u2.setCell ⟨w.heap.size + 3, 0, none⟩ (.int .i64 n)).heap[w.heap.size + 3]? = some (.cells #[.int .i64 (fsN (fun v : Vw => ordP v.doc (a0, a1, a2) (oc, ol, os)) (pathP log evs D c))] 3 (0, 0)) ∧ Below w.heap.size w (u2.setCell ⟨w.heap.size + 3, 0, none⟩ (.int .i64 n)))) := fun n hn hne => by
          have hF := Fr.setCell (S := (· = w.heap.size + 3)) u2 ⟨w.heap.size + 3, 0, none⟩ (.int .i64 n) rfl
          refine ⟨⟨hF.keeps z1.1 (fun hs => by rw [← hs, z1.1] at c9; cases c9), hF.keeps z1.2 (fun hs => by rw [← hs, z1.2] at c9; cases c9)⟩, rfl, ?_, z3.bel.trans (hF.below z3.bel.size (fun j hj => by rw [hj]; omega))⟩
          rw [HIT.out (by rw [hn]; exact hne), hn]
          simpa using set_row z3.res 0 (.int .i64 n)
        clear z1 z2 z3 c9 k2 HIT CRY x0 x1 x2 p0 p1 p2 p3 p4 p5
        generalize plP (a0, a1, a2) yk.text 0 = i at *
        generalize plP (oc, ol, os) yk.text 0 = j at *
        by_cases hi : i < 0
        · have hz := hd (hsk.out.trans (HO.out.trans (if_pos (.inl hi))))
          gi_wp2_with fail
          exact ⟨ZZ.out.1, ZZ.out.2.1, ZZ.out.2.2.snoc hz.out⟩
        · by_cases hj : j < 0
          · have hz := hd (hsk.out.trans (HO.out.trans (if_pos (.inr hj))))
            gi_wp2_with fail
            exact ⟨ZZ.out.1, ZZ.out.2.1, ZZ.out.2.2.snoc hz.out⟩
          · by_cases hij : i < j
            · have hz := hd (ST.out 1 (HO.out.trans ((if_neg (fun h => h.elim hi hj)).trans (if_pos hij))) (by omega))
              gi_wp2_with fail
              exact ⟨hz.out.1, rfl, hz.out.2.2⟩
            · have hz := hd (ST.out (-1) (HO.out.trans ((if_neg (fun h => h.elim hi hj)).trans (if_neg hij))) (by omega))
              gi_wp2_with fail
              exact ⟨hz.out.1, rfl, hz.out.2.2⟩
      · have eq1 := fun W => elNe h1 W
        have eq2 := fun W => elNe h2 W
        have hz : Hid (skF (a0, a1, a2) (b0, b1, b2) (Sy.pv ⟨⟨ok, op, oc, ol, os⟩, .slice av yk.text.length cv, yk, yβ, yd, yp⟩) = 0) := by
          have e1 : elB (oc, ol, os) (a0, a1, a2) = false := by
            cases h : elB (oc, ol, os) (a0, a1, a2) with
            | false => rfl
            | true => exact absurd (elB_iff.1 h) h1
          have e2 : elB (oc, ol, os) (b0, b1, b2) = false := by
            cases h : elB (oc, ol, os) (b0, b1, b2) with
            | false => rfl
            | true => exact absurd (elB_iff.1 h) h2
          show (if (elB (oc, ol, os) (a0, a1, a2) || elB (oc, ol, os) (b0, b1, b2)) = true then _ else (0 : Int)) = 0
          rw [e1, e2]
          rfl
        gi_wp2_with fail
        exact ⟨ZZ.out.1, ZZ.out.2.1, ZZ.out.2.2.snoc hz.out⟩
  case hdone =>
    rintro W ⟨vs, hcp, hm, hch⟩ hD
    have HZ := hd (side_zero hm hch hcp.zero)
    have c8 := cell_row hcp.res 0
    have f8 := frozen_row hcp.res 0
    simp at c8
    have hF := Fr.setCell (S := (· = w.heap.size + 3)) W ⟨w.heap.size + 3, 0, none⟩ (.int .i64 0) rfl
    have c9 := hcp.res
    have HDD := hd (hF.keeps hD (fun hs => by rw [← hs, hD] at c9; cases c9))
    have ZR : Hid ((W.setCell ⟨w.heap.size + 3, 0, none⟩ (.int .i64 0)).heap[w.heap.size + 3]? = some (.cells #[.int .i64 0] 3 (0, 0))) := hd (by simpa using set_row hcp.res 0 (.int .i64 0))
    have ZB : Hid (Below w.heap.size w (W.setCell ⟨w.heap.size + 3, 0, none⟩ (.int .i64 0))) := hcp.bel.trans (hF.below hcp.bel.size (fun j hj => by rw [hj]; omega))
    have hne : w.heap.size + 3 ≠ w5.heap.size := by omega
    have hlo : w.heap.size ≤ w5.heap.size := by omega
    have HSZ := hd hsz5
    clear hcp hm hch hD hF c9 hsz5
    gi_wp2_with fail
    refine ⟨by simp, .inl ⟨_, _, rfl, run_takeDeferred HDD.out, ?_⟩⟩
    refine ⟨_, results_cell_int rfl Tryz.underlying3 _ _ _ _ rfl ((World.putObj_heap_other hne).trans ZR.out), ?_, ZB.out.trans ((Fr.putObj _ w5.heap.size (.deferred none)).below ZB.out.size (fun j hj => by rw [hj]; exact hlo))⟩
    rw [HZ.out]
  case hstop =>
    rintro cd W ⟨rfl, h1, h2⟩ hD
    have hne : w.heap.size + 3 ≠ w5.heap.size := by omega
    have hlo : w.heap.size ≤ w5.heap.size := by omega
    have HSZ := hd hsz5
    have HDD := hd hD
    have ZR := hd h1
    have ZB := hd h2
    clear hD h1 h2 hsz5
    gi_wp2_with fail
    refine ⟨by simp, .inl ⟨_, _, rfl, run_takeDeferred HDD.out, ?_⟩⟩
    exact ⟨_, results_cell_int rfl Tryz.underlying3 _ _ _ _ rfl ((World.putObj_heap_other hne).trans ZR.out), rfl, ZB.out.trans ((Fr.putObj _ w5.heap.size (.deferred none)).below ZB.out.size (fun j hj => by rw [hj]; exact hlo))⟩
end

end Go.Proofs.YtfhghijefjhehaaGreatDoor

/-! Rd -/
namespace Go.Proofs.YtfhghijefjhehaaGreatDoor
open Go.RowKit
set_option linter.unusedVariables false

/-- An edit put the element in. -/
def InsP (evs : List Ev) (x : El) : Prop := ∃ (j : Nat) (h : j < evs.length), evs[j].o.kind = 1 ∧ elE evs[j].o = x

set_option maxRecDepth 100000 in
set_option maxHeartbeats 4000000 in
theorem rinserted_any (C : Int) (aL aE : Option Addr) (nL cL nE cE : Nat) (evs : List Ev) (A : Nat → Option Addr) (K : Nat → Nat) (x : El) (w : World) (hV : IsV w aE nE evs A K) (hnE : nE ≤ 1466015503701) :
    Calls Tryz.prog 28 #[.agg #[.int .i64 C, .slice aL nL cL, .slice aE nE cE], elV x] w fun e w' => ∃ b : Bool, e = .returned (.bool b) ∧ (b = true ↔ InsP evs x) ∧ Below w.heap.size w w' := by
  obtain ⟨x0, x1, x2⟩ := x
  have b1 : Below w.heap.size w ((w.alloc (.cells #[.int .i64 C, .slice aL nL cL, .slice aE nE cE] 25)).alloc (.cells #[.int .u8 x0, .int .i64 x1, .int .i64 x2] 42)) := ((Below.refl _ _).alloc (Nat.le_refl _) _).alloc (by simp) _
  have hH := hd (show ((w.alloc (.cells #[.int .i64 C, .slice aL nL cL, .slice aE nE cE] 25)).alloc (.cells #[.int .u8 x0, .int .i64 x1, .int .i64 x2] 42)).heap[w.heap.size]? = some (.cells #[.int .i64 C, .slice aL nL cL, .slice aE nE cE] 25 (0, 0)) from (Below.heap_alloc _ _ _ (by simp)).trans (heap_alloc_new w _))
  have hX := hd (heap_alloc_new (w.alloc (.cells #[.int .i64 C, .slice aL nL cL, .slice aE nE cE] 25)) (.cells #[.int .u8 x0, .int .i64 x1, .int .i64 x2] 42))
  rw [World.size_alloc] at hX
  have HB := hd b1
  have HV := hd (hV.below b1 (Nat.le_refl _))
  clear hV b1
  simp only [elV]
  go_enter Tryz.func28, Tryz.ntmps28
  go_upto_region 1 with fail
  generalize (w.alloc (.cells #[.int .i64 C, .slice aL nL cL, .slice aE nE cE] 25)).alloc (.cells #[.int .u8 x0, .int .i64 x1, .int .i64 x2] 42) = w0 at *
  have lH : w.heap.size < w0.heap.size := block_lt hH.out
  have lX : w.heap.size + 1 < w0.heap.size := block_lt hX.out
  go_wp2_with fail
  go_loopw [5] (fun i wr => ∃ q : Nat, q ≤ nE ∧ i = .int .i64 (q : Int) ∧ Hid (Below w0.heap.size w0 wr) ∧ Hid (∀ j (hj : j < evs.length), j < q → ¬ (evs[j].o.kind = 1 ∧ elE evs[j].o = (x0, x1, x2)))) (fun i _ => nE - (intOf i).toNat)
  case atStart => exact ⟨0, Nat.zero_le _, rfl, Below.refl _ _, fun j hj h => by omega⟩
  case round =>
    obtain ⟨q, hq, rfl, hB, hN⟩ := hrel
    have s2 : wr.cell? ⟨w.heap.size, 2, none⟩ = some (.slice aE nE cE) := by rw [hB.out.cell (p := ⟨w.heap.size, 2, none⟩) lH, cell_row hH.out]; rfl
    by_cases hlt : q < nE
    · have i1 : (q : Int) < (nE : Int) := by omega
      have hql : q < evs.length := by have := HV.out.1; omega
      obtain ⟨b, off, hab, hbl, hcells⟩ := HV.out.2 (by omega)
      subst hab
      obtain ⟨-, -, -, -, y4, y5, y6, y7, y8, -⟩ := hcells q hql
      have y4 := (hB.out.cell (p := ⟨b, off + q * 10 + 4, none⟩) hbl).trans y4
      have y5 := (hB.out.cell (p := ⟨b, off + q * 10 + 5, none⟩) hbl).trans y5
      have y6 := (hB.out.cell (p := ⟨b, off + q * 10 + 6, none⟩) hbl).trans y6
      have y7 := (hB.out.cell (p := ⟨b, off + q * 10 + 7, none⟩) hbl).trans y7
      have y8 := (hB.out.cell (p := ⟨b, off + q * 10 + 8, none⟩) hbl).trans y8
      obtain ⟨⟨r0, r1, r2⟩, -⟩ := cells3F ((hB.out.block _ lX).trans hX.out)
      have hmm : nE - (q + 1) < nE - q := by omega
      have hqb : q + 1 ≤ 1466015503701 := by omega
      have HNX : Hid (¬ (evs[q].o.kind = 1 ∧ elE evs[q].o = (x0, x1, x2)) → ∀ j (hj : j < evs.length), j < q + 1 → ¬ (evs[j].o.kind = 1 ∧ elE evs[j].o = (x0, x1, x2))) := fun h j hj hlt => if e : j = q then by subst e; exact h else hN.out j hj (by omega)
      have HYS : Hid (evs[q].o.kind = 1 → elE evs[q].o = (x0, x1, x2) → InsP evs (x0, x1, x2)) := fun h1 h2 => ⟨q, hql, h1, h2⟩
      clear hcells hN
      generalize evs[q].o = o at *
      obtain ⟨ok, op, oc, ol, os⟩ := o
      simp only [elE] at y4 y5 y6 y7 y8 HNX HYS
      have b5 : Below wr.heap.size wr (wr.alloc (.cells #[.int .i64 ok, .int .i64 op, .int .u8 oc, .int .i64 ol, .int .i64 os] 69)) := (Below.refl _ _).alloc (Nat.le_refl _) _
      have hO := hd (heap_alloc_new wr (.cells #[.int .i64 ok, .int .i64 op, .int .u8 oc, .int .i64 ol, .int .i64 os] 69))
      have HB5 := hd (hB.out.trans (b5.mono hB.out.size))
      have lXr : w.heap.size + 1 < wr.heap.size := Nat.lt_of_lt_of_le lX hB.out.size
      have r0 := (b5.cell (p := ⟨w.heap.size + 1, 0, none⟩) lXr).trans r0
      have r1 := (b5.cell (p := ⟨w.heap.size + 1, 1, none⟩) lXr).trans r1
      have r2 := (b5.cell (p := ⟨w.heap.size + 1, 2, none⟩) lXr).trans r2
      clear b5 hB
      go_upto_region 5 with fail
      generalize wr.alloc (.cells #[.int .i64 ok, .int .i64 op, .int .u8 oc, .int .i64 ol, .int .i64 os] 69) = w5 at *
      generalize wr.heap.size = be at *
      obtain ⟨⟨z0, z1, z2, z3, z4⟩, -⟩ := cellsF hO.out
      clear y4 y5 y6 y7 y8 s2 lXr hO
      by_cases hk : ok = 1
      · subst hk
        by_cases he : ((x0, x1, x2) : El) = (oc, ol, os)
        · have ZY := hd (HYS.out rfl he.symm)
          injection he with e0 e1
          injection e1 with e1 e2
          subst e0
          subst e1
          subst e2
          have eqs := elSame x0 x1 x2
          clear HNX HYS
          go_wp2
          refine bodyPost_ret (v := .bool true) (by simp [results, Tryz.results28, go_sem]) rfl ?_
          exact .inr ⟨rfl, ZY.out, HB.out.trans (HB5.out.mono HB.out.size)⟩
        · have NX := hd (HNX.out (fun h => he h.2.symm))
          have eqs := fun W => elNe he W
          clear HNX HYS he
          go_wp2
          exact ⟨⟨q + 1, by omega, by go_num, HB5, NX⟩, by simp [intOf]; omega⟩
      · have NX := hd (HNX.out (fun h => hk h.1))
        have hkb : (ok == 1) = false := by simpa using hk
        clear HNX HYS
        go_wp2
        exact ⟨⟨q + 1, by omega, by go_num, HB5, NX⟩, by simp [intOf]; omega⟩
    · have i1 : ¬ ((q : Int) < (nE : Int)) := by omega
      have Z : Hid (¬ InsP evs (x0, x1, x2)) := fun ⟨j, hj, h1, h2⟩ => hN.out j hj (by have := HV.out.1; omega) ⟨h1, h2⟩
      clear hN
      go_wp2
      refine bodyPost_ret (v := .bool false) (by simp [results, Tryz.results28, go_sem]) rfl ?_
      exact .inl ⟨rfl, Z.out, HB.out.trans (hB.out.mono HB.out.size)⟩

end Go.Proofs.YtfhghijefjhehaaGreatDoor
