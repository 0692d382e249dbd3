/-
  NetFresh: region 15 of twice: three Flights and a list of two datagrams, in whatever order, appended to the list of lists.
-/
import Derived.Test.YtnglcnilckolkaaGh
import Derived.Test.YtnglcnilckolkaaRr
namespace Go.Proofs.Ytnglcnilckolkaa
open Go.RowKit
set_option linter.unusedVariables false

noncomputable def ops15 : Array Oper := (Try.f24.body.bind (opsAt 15)).getD #[]
theorem ops15_size : ops15.size = 13 := by kernel_rfl
theorem ops15_earlier : Earlier ops15 := by
  have h : (List.range 13).all (fun i => ((ops15[i]?).map (fun o => o.after.all (fun e => !Region.binds .any e || decide (e.on < i)))).getD true) = true := by kernel_rfl
  intro i o ho e he hb
  have hi : i < 13 := by
    have := (Array.getElem?_eq_some_iff.1 ho).1
    rwa [ops15_size] at this
  have h1 := List.all_eq_true.1 h i (List.mem_range.2 hi)
  rw [ho] at h1
  simp only [Option.map_some, Option.getD_some, Array.all_eq_true'] at h1
  have h2 := h1 e he
  rw [hb] at h2
  simpa using h2

section
variable {ops : Array Oper} {o : Oper} {a : Act} {w : World} {K : Act → World → Prop} {Q : Exit → Act → World → Prop} {i : Nat}
theorem op_loadD (ho : ops[i]? = some o) (x : Operand) {d : Option Tmp} (h : (ops[i]?).map (fun o => (o.dst, o.op, o.guard)) = some (d, Op.load 37 x, none)) {b : Nat} {it : It} (hx : a.eval x = .pointer (some ⟨b, 0, none⟩)) (hm : w.heap[b]? = some (.cells (opc it).toArray 37 (0, 0))) (hK : K (a.put d (.agg #[.int .i64 it.d.f, .int .i64 it.d.t, .slice it.a it.d.b.length it.c, .bool it.d.s])) w) : wpOp Try.prog ops Q i K a w := by
  obtain ⟨h1, h2, h3⟩ := fields ho h
  refine op_plain ho h3 ?_
  have c0 := (cell_row hm 0).trans (show _ = some (.int .i64 it.d.f) from rfl)
  have c1 := (cell_row hm 1).trans (show _ = some (.int .i64 it.d.t) from rfl)
  have c2 := (cell_row hm 2).trans (show _ = some (.slice it.a it.d.b.length it.c) from rfl)
  have c3 := (cell_row hm 3).trans (show _ = some (.bool it.d.s) from rfl)
  have lm := block_lt hm
  unfold Oper.wp
  simp only [execOp, h2, hx]
  go_simp
  exact hK
theorem op_build2D (ho : ops[i]? = some o) (x y : Operand) {d : Option Tmp} (h : (ops[i]?).map (fun o => (o.dst, o.op, o.guard)) = some (d, Op.buildSlice 43 2 #[(0, x), (1, y)], none)) {p q : It} (hx : a.eval x = .agg #[.int .i64 p.d.f, .int .i64 p.d.t, .slice p.a p.d.b.length p.c, .bool p.d.s]) (hy : a.eval y = .agg #[.int .i64 q.d.f, .int .i64 q.d.t, .slice q.a q.d.b.length q.c, .bool q.d.s]) (hK : K (a.put d (.slice (some ⟨w.heap.size, 0, none⟩) 2 2)) (w.alloc (.cells #[.int .i64 p.d.f, .int .i64 p.d.t, .slice p.a p.d.b.length p.c, .bool p.d.s, .int .i64 q.d.f, .int .i64 q.d.t, .slice q.a q.d.b.length q.c, .bool q.d.s] 37))) : wpOp Try.prog ops Q i K a w := by
  obtain ⟨h1, h2, h3⟩ := fields ho h
  refine op_plain ho h3 ?_
  unfold Oper.wp
  simp [execOp, h2, hx, hy]
  clear hx hy h2 h3
  go_simp
  exact hK
theorem op_build4D (ho : ops[i]? = some o) (x y z t : Operand) {d : Option Tmp} (h : (ops[i]?).map (fun o => (o.dst, o.op, o.guard)) = some (d, Op.buildSlice 73 4 #[(0, x), (1, y), (2, z), (3, t)], none)) {a1 a2 a3 a4 : Option Addr} {n1 n2 n3 n4 c1 c2 c3 c4 : Nat} (hx : a.eval x = .slice a1 n1 c1) (hy : a.eval y = .slice a2 n2 c2) (hz : a.eval z = .slice a3 n3 c3) (ht : a.eval t = .slice a4 n4 c4) (hK : K (a.put d (.slice (some ⟨w.heap.size, 0, none⟩) 4 4)) (w.alloc (.cells #[.slice a1 n1 c1, .slice a2 n2 c2, .slice a3 n3 c3, .slice a4 n4 c4] 43))) : wpOp Try.prog ops Q i K a w := by
  obtain ⟨h1, h2, h3⟩ := fields ho h
  refine op_plain ho h3 ?_
  unfold Oper.wp
  simp [execOp, h2, hx, hy, hz, ht]
  clear hx hy hz ht h2 h3
  go_simp
  exact hK
end

theorem Fr.of_grown {w w' : World} {row : Option Nat} {S : Nat → Prop} (h : w.grownBy w' row) (hS : ∀ k, row = some k → S k) : Fr S w w' := ⟨h.os, h.tape, h.output, h.size, fun k hk hn => h.block k hk (fun e => hn (hS k e.symm))⟩

theorem TL.write {w0 w w' : World} {x y : Nat} {Gx Gy : List DG} {Bx By : Nat} {Es : List Ent} {Ks : Nat → Prop} (h : TL w0 w x y Gx Bx Gy By Es Ks) (hF : Fr Ks w w') : TL w0 w' x y Gx Bx Gy By Es Ks := by
  refine ⟨(h.tw.own (hF.mono (fun k _ hk => ⟨.inr (.inr hk), (h.ks k hk).1⟩))).sub (fun k hk => .inl hk), fun e he => ⟨(h.fg e he).1.fr hF (fun k hk hk' => (h.ks k hk').2 e he hk), (h.fg e he).2⟩, h.pw, h.ks⟩

def fv (F : List Ent) (i : Nat) : Value := (F.getD i zEn).v
def dv (G : Option Nat) : Value := .slice (some ⟨G.getD 0, 0, none⟩) 2 2
theorem getE_app {F : List Ent} (E : Ent) {i : Nat} (h : i < F.length) : (F ++ [E]).getD i zEn = F.getD i zEn := by
  simp [List.getD_eq_getElem?_getD, List.getElem?_append_left h]
theorem getE_new (F : List Ent) (E : Ent) {i : Nat} (h : F.length = i) : (F ++ [E]).getD i zEn = E := by
  subst h
  simp [List.getD_eq_getElem?_getD]
theorem Ent.v_eq (E : Ent) : E.v = .slice (at0 E.β) E.L.length E.c := rfl

/-- What has come up of region 15. -/
structure I15 (a0 : Act) (w0 wd : World) (x y gl : Nat) (Gx Gy : List DG) (Bx By : Nat) (Es : List Ent) (Ks : Nat → Prop) (p q : It) (vs : List Value) (F : List Ent) (G : Option Nat) (L : Nat → Prop) (a : Act) (u : World) : Prop where
  fe : Fe a0 a [74, 75, 76, 77, 78, 79, 80, 81, 82, 83, 84, 85, 8]
  e0 : L 0 → a.eval (.tmp 74) = .slice (some ⟨gl, 0, none⟩) 4 4
  e1 : L 1 → a.eval (.tmp 75) = .pointer (some ⟨x, 0, none⟩)
  f2 : L 2 → 1 ≤ F.length ∧ a.eval (.tmp 76) = fv F 0 ∧ (F.getD 0 zEn).L.map It.d = Gx
  e3 : L 3 → a.eval (.tmp 77) = .pointer (some ⟨x, 0, none⟩)
  f4 : L 4 → 2 ≤ F.length ∧ a.eval (.tmp 78) = fv F 1 ∧ (F.getD 1 zEn).L.map It.d = Gx
  e5 : L 5 → a.eval (.tmp 79) = .pointer (some ⟨y, 0, none⟩)
  f6 : L 6 → 3 ≤ F.length ∧ a.eval (.tmp 80) = fv F 2 ∧ (F.getD 2 zEn).L.map It.d = Gy
  e7 : L 7 → a.eval (.tmp 81) = .agg #[.int .i64 p.d.f, .int .i64 p.d.t, .slice p.a p.d.b.length p.c, .bool p.d.s]
  e8 : L 8 → a.eval (.tmp 82) = .agg #[.int .i64 q.d.f, .int .i64 q.d.t, .slice q.a q.d.b.length q.c, .bool q.d.s]
  e9 : L 9 → ∃ g, G = some g ∧ a.eval (.tmp 83) = .slice (some ⟨g, 0, none⟩) 2 2 ∧ RowO u g 2 2 [p, q]
  e10 : L 10 → L 11 ∨ ∃ gt, a.eval (.tmp 84) = .slice (some ⟨gt, 0, none⟩) 4 4 ∧ u.heap[gt]? = some (.cells #[fv F 0, fv F 1, fv F 2, dv G] 43 (0, 0))
  e11 : L 11 → ∃ v, a.eval (.tmp 85) = v ∧ u.ownsRow gl 43 1 v 8 (vs ++ [fv F 0, fv F 1, fv F 2, dv G])
  e12 : L 12 → a.eval (.tmp 8) = a.eval (.tmp 85)
  z8 : ¬ L 12 → a.eval (.tmp 8) = .slice (some ⟨gl, 0, none⟩) 4 4
  n2 : ¬ L 2 → F.length = 0
  n4 : ¬ L 4 → F.length ≤ 1
  n6 : ¬ L 6 → F.length ≤ 2
  n7 : F.length ≤ 3
  g9 : ∀ g, G = some g → wd.heap.size ≤ g
  d4 : L 4 → L 2
  d6 : L 6 → L 4
  d10 : L 10 → L 2 ∧ L 4 ∧ L 6 ∧ L 9
  d11 : L 11 → L 10
  d12 : L 12 → L 11
  d0 : L 11 → L 0
  tl : TL w0 u x y Gx Bx Gy By (Es ++ F) (fun k => Ks k ∨ G = some k)
  bw : ¬ L 11 → Below wd.heap.size wd u
  fr : Fr (fun k => k = gl) wd u

set_option maxRecDepth 100000 in
set_option maxHeartbeats 4000000 in
theorem twice_region15 (a0 : Act) (w : World) {K : Act → World → Prop} {Q' : Exit → Act → World → Prop} (w0 : World) (x y gl db cb : Nat) (Gx Gy : List DG) (Bx By : Nat) (Es : List Ent) (Ks : Nat → Prop) (p q : It) (vs : List Value)
    (h8 : a0.eval (.tmp 8) = .slice (some ⟨gl, 0, none⟩) 4 4) (h3 : a0.eval (.tmp 3) = .pointer (some ⟨x, 0, none⟩)) (h5 : a0.eval (.tmp 5) = .pointer (some ⟨y, 0, none⟩)) (h9 : a0.eval (.tmp 9) = .pointer (some ⟨db, 0, none⟩)) (h11 : a0.eval (.tmp 11) = .pointer (some ⟨cb, 0, none⟩)) (hz : 86 ≤ a0.tmps.size)
    (hT : TL w0 w.drew x y Gx Bx Gy By Es Ks) (hol : w.drew.ownsRow gl 43 1 (.slice (some ⟨gl, 0, none⟩) 4 4) 4 vs) (hglt : gl < w.drew.heap.size) (hkgl : Ks gl) (hd1 : w.drew.heap[db]? = some (.cells (opc p).toArray 37 (0, 0))) (hc1 : w.drew.heap[cb]? = some (.cells (opc q).toArray 37 (0, 0)))
    (hK : ∀ u v F g v74 v75 v76 v77 v78 v79 v80 v81 v82 v83 v84, TL w0 u x y Gx Bx Gy By (Es ++ F) (fun k => Ks k ∨ some g = some k) → F.length = 3 → (F.getD 0 zEn).L.map It.d = Gx → (F.getD 1 zEn).L.map It.d = Gx → (F.getD 2 zEn).L.map It.d = Gy → RowO u g 2 2 [p, q] → Fr (fun k => k = gl) w.drew u → u.ownsRow gl 43 1 v 8 (vs ++ [fv F 0, fv F 1, fv F 2, .slice (some ⟨g, 0, none⟩) 2 2]) →
      K (puts a0 [(74, v74), (75, v75), (76, v76), (77, v77), (78, v78), (79, v79), (80, v80), (81, v81), (82, v82), (83, v83), (84, v84), (85, v), (8, v)]) u) :
    (Code.region 15 ops15 true).wp Try.prog (Exit.then K Q') a0 w := by
  obtain ⟨i0, hi0, hz0, hz1, hz2⟩ := info_parts Try.infoGs
  obtain ⟨wd, hwd⟩ : ∃ wd, w.drew = wd := ⟨_, rfl⟩
  rw [hwd] at hT hol hglt hd1 hc1
  have hdb := block_lt hd1
  have hcb := block_lt hc1
  refine wp_region_inv (by kernel_rfl) ops15_earlier (fun L a u => (∃ F G, I15 a0 w0 wd x y gl Gx Gy Bx By Es Ks p q vs F G L a u) ∧ (L 9 → L 7 ∧ L 8)) ?_ ?_ ?_
  · rintro L L' x' u i o ⟨⟨F, G, h⟩, c79⟩ ho hno hall hu
    clear hK
    have hzx : 86 ≤ x'.tmps.size := by rw [h.fe.sz]; exact hz
    have hi : i < 13 := by
      have := (Array.getElem?_eq_some_iff.1 ho).1
      rwa [ops15_size] at this
    have up : ∀ j, j ≠ i → (L' j ↔ L j) := fun j hj => by rw [hu j]; simp [hj]
    have c79' : L' 9 → L' 7 ∧ L' 8 := fun hl => by
      rcases (hu 9).1 hl with rfl | hl
      · exact ⟨(hu 7).2 (.inr (dep ho hall 7 (by kernel_rfl))), (hu 8).2 (.inr (dep ho hall 8 (by kernel_rfl)))⟩
      · exact ⟨(hu 7).2 (.inr (c79 hl).1), (hu 8).2 (.inr (c79 hl).2)⟩
    refine wpOp_mono (fun a' w' h' => ⟨h', c79'⟩) ?_
    have q3 := (h.fe.ev (j := 3) (by decide)).trans h3
    have q5 := (h.fe.ev (j := 5) (by decide)).trans h5
    have q9 := (h.fe.ev (j := 9) (by decide)).trans h9
    have q11 := (h.fe.ev (j := 11) (by decide)).trans h11
    have d4 : L' 4 → L' 2 := fun hl => by
      rcases (hu 4).1 hl with rfl | hl
      · exact (hu 2).2 (.inr (dep ho hall 2 (by kernel_rfl)))
      · exact (hu 2).2 (.inr (h.d4 hl))
    have d6 : L' 6 → L' 4 := fun hl => by
      rcases (hu 6).1 hl with rfl | hl
      · exact (hu 4).2 (.inr (dep ho hall 4 (by kernel_rfl)))
      · exact (hu 4).2 (.inr (h.d6 hl))
    have d10 : L' 10 → L' 2 ∧ L' 4 ∧ L' 6 ∧ L' 9 := fun hl => by
      rcases (hu 10).1 hl with rfl | hl
      · exact ⟨(hu 2).2 (.inr (dep ho hall 2 (by kernel_rfl))), (hu 4).2 (.inr (dep ho hall 4 (by kernel_rfl))), (hu 6).2 (.inr (dep ho hall 6 (by kernel_rfl))), (hu 9).2 (.inr (dep ho hall 9 (by kernel_rfl)))⟩
      · exact ⟨(hu 2).2 (.inr (h.d10 hl).1), (hu 4).2 (.inr (h.d10 hl).2.1), (hu 6).2 (.inr (h.d10 hl).2.2.1), (hu 9).2 (.inr (h.d10 hl).2.2.2)⟩
    have d11 : L' 11 → L' 10 := fun hl => by
      rcases (hu 11).1 hl with rfl | hl
      · exact (hu 10).2 (.inr (dep ho hall 10 (by kernel_rfl)))
      · exact (hu 10).2 (.inr (h.d11 hl))
    have d12 : L' 12 → L' 11 := fun hl => by
      rcases (hu 12).1 hl with rfl | hl
      · exact (hu 11).2 (.inr (dep ho hall 11 (by kernel_rfl)))
      · exact (hu 11).2 (.inr (h.d12 hl))
    have d0 : L' 11 → L' 0 := fun hl => by
      rcases (hu 11).1 hl with rfl | hl
      · exact (hu 0).2 (.inr (dep ho hall 0 (by kernel_rfl)))
      · exact (hu 0).2 (.inr (h.d0 hl))
    match i, hi with
    | 0, _ =>
      have q8 := h.z8 (fun z => hno (h.d0 (h.d12 z)))
      refine op_move ho (.tmp 8) (d := some 74) (by kernel_rfl) ?_
      rw [q8]
      exact ⟨F, G, h.fe.put (by decide) _, fun _ => ev_eq _ _ (by omega), fun hl => (ev_ne _ _ (by decide)).trans (h.e1 ((up 1 (by decide)).1 hl)), fun hl => ⟨(h.f2 ((up 2 (by decide)).1 hl)).1, (ev_ne _ _ (by decide)).trans (h.f2 ((up 2 (by decide)).1 hl)).2.1, (h.f2 ((up 2 (by decide)).1 hl)).2.2⟩, fun hl => (ev_ne _ _ (by decide)).trans (h.e3 ((up 3 (by decide)).1 hl)), fun hl => ⟨(h.f4 ((up 4 (by decide)).1 hl)).1, (ev_ne _ _ (by decide)).trans (h.f4 ((up 4 (by decide)).1 hl)).2.1, (h.f4 ((up 4 (by decide)).1 hl)).2.2⟩, fun hl => (ev_ne _ _ (by decide)).trans (h.e5 ((up 5 (by decide)).1 hl)), fun hl => ⟨(h.f6 ((up 6 (by decide)).1 hl)).1, (ev_ne _ _ (by decide)).trans (h.f6 ((up 6 (by decide)).1 hl)).2.1, (h.f6 ((up 6 (by decide)).1 hl)).2.2⟩, fun hl => (ev_ne _ _ (by decide)).trans (h.e7 ((up 7 (by decide)).1 hl)), fun hl => (ev_ne _ _ (by decide)).trans (h.e8 ((up 8 (by decide)).1 hl)), fun hl => (h.e9 ((up 9 (by decide)).1 hl)).imp (fun g ⟨e0, e, r⟩ => ⟨e0, (ev_ne _ _ (by decide)).trans e, r⟩), fun hl => (h.e10 ((up 10 (by decide)).1 hl)).imp (fun z => (hu 11).2 (.inr z)) (fun ⟨gt, e, r⟩ => ⟨gt, (ev_ne _ _ (by decide)).trans e, r⟩), fun hl => (h.e11 ((up 11 (by decide)).1 hl)).imp (fun v ⟨e, r⟩ => ⟨(ev_ne _ _ (by decide)).trans e, r⟩), fun hl => (ev_ne _ _ (by decide)).trans ((h.e12 ((up 12 (by decide)).1 hl)).trans (ev_ne _ _ (by decide)).symm), (fun hn => (ev_ne _ _ (by decide)).trans (h.z8 (fun z => hn ((hu 12).2 (.inr z))))), fun hn => h.n2 (fun z => hn ((hu 2).2 (.inr z))), fun hn => h.n4 (fun z => hn ((hu 4).2 (.inr z))), fun hn => h.n6 (fun z => hn ((hu 6).2 (.inr z))), h.n7, h.g9, d4, d6, d10, d11, d12, d0, h.tl, fun hn => h.bw (fun z => hn ((hu 11).2 (.inr z))), h.fr⟩
    | 1, _ =>
      refine op_move ho (.tmp 3) (d := some 75) (by kernel_rfl) ?_
      rw [q3]
      exact ⟨F, G, h.fe.put (by decide) _, fun hl => (ev_ne _ _ (by decide)).trans (h.e0 ((up 0 (by decide)).1 hl)), fun _ => ev_eq _ _ (by omega), fun hl => ⟨(h.f2 ((up 2 (by decide)).1 hl)).1, (ev_ne _ _ (by decide)).trans (h.f2 ((up 2 (by decide)).1 hl)).2.1, (h.f2 ((up 2 (by decide)).1 hl)).2.2⟩, fun hl => (ev_ne _ _ (by decide)).trans (h.e3 ((up 3 (by decide)).1 hl)), fun hl => ⟨(h.f4 ((up 4 (by decide)).1 hl)).1, (ev_ne _ _ (by decide)).trans (h.f4 ((up 4 (by decide)).1 hl)).2.1, (h.f4 ((up 4 (by decide)).1 hl)).2.2⟩, fun hl => (ev_ne _ _ (by decide)).trans (h.e5 ((up 5 (by decide)).1 hl)), fun hl => ⟨(h.f6 ((up 6 (by decide)).1 hl)).1, (ev_ne _ _ (by decide)).trans (h.f6 ((up 6 (by decide)).1 hl)).2.1, (h.f6 ((up 6 (by decide)).1 hl)).2.2⟩, fun hl => (ev_ne _ _ (by decide)).trans (h.e7 ((up 7 (by decide)).1 hl)), fun hl => (ev_ne _ _ (by decide)).trans (h.e8 ((up 8 (by decide)).1 hl)), fun hl => (h.e9 ((up 9 (by decide)).1 hl)).imp (fun g ⟨e0, e, r⟩ => ⟨e0, (ev_ne _ _ (by decide)).trans e, r⟩), fun hl => (h.e10 ((up 10 (by decide)).1 hl)).imp (fun z => (hu 11).2 (.inr z)) (fun ⟨gt, e, r⟩ => ⟨gt, (ev_ne _ _ (by decide)).trans e, r⟩), fun hl => (h.e11 ((up 11 (by decide)).1 hl)).imp (fun v ⟨e, r⟩ => ⟨(ev_ne _ _ (by decide)).trans e, r⟩), fun hl => (ev_ne _ _ (by decide)).trans ((h.e12 ((up 12 (by decide)).1 hl)).trans (ev_ne _ _ (by decide)).symm), (fun hn => (ev_ne _ _ (by decide)).trans (h.z8 (fun z => hn ((hu 12).2 (.inr z))))), fun hn => h.n2 (fun z => hn ((hu 2).2 (.inr z))), fun hn => h.n4 (fun z => hn ((hu 4).2 (.inr z))), fun hn => h.n6 (fun z => hn ((hu 6).2 (.inr z))), h.n7, h.g9, d4, d6, d10, d11, d12, d0, h.tl, fun hn => h.bw (fun z => hn ((hu 11).2 (.inr z))), h.fr⟩
    | 2, _ =>
      have ch4 : L 4 → L 2 := h.d4
      have ch6 : L 6 → L 2 := fun z => h.d4 (h.d6 z)
      have hlen : F.length = 0 := h.n2 hno
      have hbu := h.bw (fun z => hno (h.d10 (h.d11 z)).1)
      refine op_call ho 21 (.tmp 75) 23 (d := some 76) (by kernel_rfl) Try.func21 rfl (by kernel_rfl) (by rw [h.e1 (dep ho hall 1 (by kernel_rfl))]; exact tl_flight h.tl) ?_
      rintro e u' ⟨E, rfl, hmap, tlx, bz⟩
      refine ⟨_, rfl, ?_⟩
      have tl2 : TL w0 u' x y Gx Bx Gy By (Es ++ (F ++ [E])) (fun k => Ks k ∨ G = some k) := by
        rw [← List.append_assoc]
        exact tlx
      exact ⟨F ++ [E], G, h.fe.put (by decide) _, fun hl => (ev_ne _ _ (by decide)).trans (h.e0 ((up 0 (by decide)).1 hl)), fun hl => (ev_ne _ _ (by decide)).trans (h.e1 ((up 1 (by decide)).1 hl)), fun _ => ⟨by rw [List.length_append, hlen]; exact Nat.le_refl _, (ev_eq _ _ (by omega)).trans (by rw [fv, getE_new F E hlen]), by rw [getE_new F E hlen]; exact hmap⟩, fun hl => (ev_ne _ _ (by decide)).trans (h.e3 ((up 3 (by decide)).1 hl)), fun hl => absurd (ch4 ((up 4 (by decide)).1 hl)) hno, fun hl => (ev_ne _ _ (by decide)).trans (h.e5 ((up 5 (by decide)).1 hl)), fun hl => absurd (ch6 ((up 6 (by decide)).1 hl)) hno, fun hl => (ev_ne _ _ (by decide)).trans (h.e7 ((up 7 (by decide)).1 hl)), fun hl => (ev_ne _ _ (by decide)).trans (h.e8 ((up 8 (by decide)).1 hl)), fun hl => (h.e9 ((up 9 (by decide)).1 hl)).imp (fun g ⟨e0, e, r⟩ => ⟨e0, (ev_ne _ _ (by decide)).trans e, r.fr (Fr.of_below (S := fun _ => False) bz) (fun h => h)⟩), fun hl => absurd (h.d10 ((up 10 (by decide)).1 hl)).1 hno, fun hl => absurd (h.d10 (h.d11 ((up 11 (by decide)).1 hl))).1 hno, fun hl => (ev_ne _ _ (by decide)).trans ((h.e12 ((up 12 (by decide)).1 hl)).trans (ev_ne _ _ (by decide)).symm), (fun hn => (ev_ne _ _ (by decide)).trans (h.z8 (fun z => hn ((hu 12).2 (.inr z))))), fun hn => absurd ((hu 2).2 (.inl rfl)) hn, fun _ => by rw [List.length_append, hlen]; show _ + 1 ≤ _; omega, fun _ => by rw [List.length_append, hlen]; show _ + 1 ≤ _; omega, by rw [List.length_append, hlen]; show _ + 1 ≤ _; omega, h.g9, d4, d6, d10, d11, d12, d0, tl2, fun _ => hbu.trans (bz.mono hbu.size), h.fr.trans (Fr.of_below bz)⟩
    | 3, _ =>
      refine op_move ho (.tmp 3) (d := some 77) (by kernel_rfl) ?_
      rw [q3]
      exact ⟨F, G, h.fe.put (by decide) _, fun hl => (ev_ne _ _ (by decide)).trans (h.e0 ((up 0 (by decide)).1 hl)), fun hl => (ev_ne _ _ (by decide)).trans (h.e1 ((up 1 (by decide)).1 hl)), fun hl => ⟨(h.f2 ((up 2 (by decide)).1 hl)).1, (ev_ne _ _ (by decide)).trans (h.f2 ((up 2 (by decide)).1 hl)).2.1, (h.f2 ((up 2 (by decide)).1 hl)).2.2⟩, fun _ => ev_eq _ _ (by omega), fun hl => ⟨(h.f4 ((up 4 (by decide)).1 hl)).1, (ev_ne _ _ (by decide)).trans (h.f4 ((up 4 (by decide)).1 hl)).2.1, (h.f4 ((up 4 (by decide)).1 hl)).2.2⟩, fun hl => (ev_ne _ _ (by decide)).trans (h.e5 ((up 5 (by decide)).1 hl)), fun hl => ⟨(h.f6 ((up 6 (by decide)).1 hl)).1, (ev_ne _ _ (by decide)).trans (h.f6 ((up 6 (by decide)).1 hl)).2.1, (h.f6 ((up 6 (by decide)).1 hl)).2.2⟩, fun hl => (ev_ne _ _ (by decide)).trans (h.e7 ((up 7 (by decide)).1 hl)), fun hl => (ev_ne _ _ (by decide)).trans (h.e8 ((up 8 (by decide)).1 hl)), fun hl => (h.e9 ((up 9 (by decide)).1 hl)).imp (fun g ⟨e0, e, r⟩ => ⟨e0, (ev_ne _ _ (by decide)).trans e, r⟩), fun hl => (h.e10 ((up 10 (by decide)).1 hl)).imp (fun z => (hu 11).2 (.inr z)) (fun ⟨gt, e, r⟩ => ⟨gt, (ev_ne _ _ (by decide)).trans e, r⟩), fun hl => (h.e11 ((up 11 (by decide)).1 hl)).imp (fun v ⟨e, r⟩ => ⟨(ev_ne _ _ (by decide)).trans e, r⟩), fun hl => (ev_ne _ _ (by decide)).trans ((h.e12 ((up 12 (by decide)).1 hl)).trans (ev_ne _ _ (by decide)).symm), (fun hn => (ev_ne _ _ (by decide)).trans (h.z8 (fun z => hn ((hu 12).2 (.inr z))))), fun hn => h.n2 (fun z => hn ((hu 2).2 (.inr z))), fun hn => h.n4 (fun z => hn ((hu 4).2 (.inr z))), fun hn => h.n6 (fun z => hn ((hu 6).2 (.inr z))), h.n7, h.g9, d4, d6, d10, d11, d12, d0, h.tl, fun hn => h.bw (fun z => hn ((hu 11).2 (.inr z))), h.fr⟩
    | 4, _ =>
      have c4_2 : L 2 := (dep ho hall 2 (by kernel_rfl))
      have ch6 : L 6 → L 4 := fun z => h.d6 z
      have hlen : F.length = 1 := Nat.le_antisymm (h.n4 hno) (h.f2 c4_2).1
      have hbu := h.bw (fun z => hno (h.d10 (h.d11 z)).2.1)
      refine op_call ho 21 (.tmp 77) 23 (d := some 78) (by kernel_rfl) Try.func21 rfl (by kernel_rfl) (by rw [h.e3 (dep ho hall 3 (by kernel_rfl))]; exact tl_flight h.tl) ?_
      rintro e u' ⟨E, rfl, hmap, tlx, bz⟩
      refine ⟨_, rfl, ?_⟩
      have tl2 : TL w0 u' x y Gx Bx Gy By (Es ++ (F ++ [E])) (fun k => Ks k ∨ G = some k) := by
        rw [← List.append_assoc]
        exact tlx
      exact ⟨F ++ [E], G, h.fe.put (by decide) _, fun hl => (ev_ne _ _ (by decide)).trans (h.e0 ((up 0 (by decide)).1 hl)), fun hl => (ev_ne _ _ (by decide)).trans (h.e1 ((up 1 (by decide)).1 hl)), fun hl => ⟨Nat.le_trans (h.f2 ((up 2 (by decide)).1 hl)).1 (by simp), (ev_ne _ _ (by decide)).trans ((h.f2 ((up 2 (by decide)).1 hl)).2.1.trans (by rw [fv, fv, getE_app E (Nat.lt_of_lt_of_le (by omega) (h.f2 ((up 2 (by decide)).1 hl)).1)])), by rw [getE_app E (Nat.lt_of_lt_of_le (by omega) (h.f2 ((up 2 (by decide)).1 hl)).1)]; exact (h.f2 ((up 2 (by decide)).1 hl)).2.2⟩, fun hl => (ev_ne _ _ (by decide)).trans (h.e3 ((up 3 (by decide)).1 hl)), fun _ => ⟨by rw [List.length_append, hlen]; exact Nat.le_refl _, (ev_eq _ _ (by omega)).trans (by rw [fv, getE_new F E hlen]), by rw [getE_new F E hlen]; exact hmap⟩, fun hl => (ev_ne _ _ (by decide)).trans (h.e5 ((up 5 (by decide)).1 hl)), fun hl => absurd (ch6 ((up 6 (by decide)).1 hl)) hno, fun hl => (ev_ne _ _ (by decide)).trans (h.e7 ((up 7 (by decide)).1 hl)), fun hl => (ev_ne _ _ (by decide)).trans (h.e8 ((up 8 (by decide)).1 hl)), fun hl => (h.e9 ((up 9 (by decide)).1 hl)).imp (fun g ⟨e0, e, r⟩ => ⟨e0, (ev_ne _ _ (by decide)).trans e, r.fr (Fr.of_below (S := fun _ => False) bz) (fun h => h)⟩), fun hl => absurd (h.d10 ((up 10 (by decide)).1 hl)).2.1 hno, fun hl => absurd (h.d10 (h.d11 ((up 11 (by decide)).1 hl))).2.1 hno, fun hl => (ev_ne _ _ (by decide)).trans ((h.e12 ((up 12 (by decide)).1 hl)).trans (ev_ne _ _ (by decide)).symm), (fun hn => (ev_ne _ _ (by decide)).trans (h.z8 (fun z => hn ((hu 12).2 (.inr z))))), fun hn => absurd ((hu 2).2 (.inr c4_2)) hn, fun hn => absurd ((hu 4).2 (.inl rfl)) hn, fun _ => by rw [List.length_append, hlen]; show _ + 1 ≤ _; omega, by rw [List.length_append, hlen]; show _ + 1 ≤ _; omega, h.g9, d4, d6, d10, d11, d12, d0, tl2, fun _ => hbu.trans (bz.mono hbu.size), h.fr.trans (Fr.of_below bz)⟩
    | 5, _ =>
      refine op_move ho (.tmp 5) (d := some 79) (by kernel_rfl) ?_
      rw [q5]
      exact ⟨F, G, h.fe.put (by decide) _, fun hl => (ev_ne _ _ (by decide)).trans (h.e0 ((up 0 (by decide)).1 hl)), fun hl => (ev_ne _ _ (by decide)).trans (h.e1 ((up 1 (by decide)).1 hl)), fun hl => ⟨(h.f2 ((up 2 (by decide)).1 hl)).1, (ev_ne _ _ (by decide)).trans (h.f2 ((up 2 (by decide)).1 hl)).2.1, (h.f2 ((up 2 (by decide)).1 hl)).2.2⟩, fun hl => (ev_ne _ _ (by decide)).trans (h.e3 ((up 3 (by decide)).1 hl)), fun hl => ⟨(h.f4 ((up 4 (by decide)).1 hl)).1, (ev_ne _ _ (by decide)).trans (h.f4 ((up 4 (by decide)).1 hl)).2.1, (h.f4 ((up 4 (by decide)).1 hl)).2.2⟩, fun _ => ev_eq _ _ (by omega), fun hl => ⟨(h.f6 ((up 6 (by decide)).1 hl)).1, (ev_ne _ _ (by decide)).trans (h.f6 ((up 6 (by decide)).1 hl)).2.1, (h.f6 ((up 6 (by decide)).1 hl)).2.2⟩, fun hl => (ev_ne _ _ (by decide)).trans (h.e7 ((up 7 (by decide)).1 hl)), fun hl => (ev_ne _ _ (by decide)).trans (h.e8 ((up 8 (by decide)).1 hl)), fun hl => (h.e9 ((up 9 (by decide)).1 hl)).imp (fun g ⟨e0, e, r⟩ => ⟨e0, (ev_ne _ _ (by decide)).trans e, r⟩), fun hl => (h.e10 ((up 10 (by decide)).1 hl)).imp (fun z => (hu 11).2 (.inr z)) (fun ⟨gt, e, r⟩ => ⟨gt, (ev_ne _ _ (by decide)).trans e, r⟩), fun hl => (h.e11 ((up 11 (by decide)).1 hl)).imp (fun v ⟨e, r⟩ => ⟨(ev_ne _ _ (by decide)).trans e, r⟩), fun hl => (ev_ne _ _ (by decide)).trans ((h.e12 ((up 12 (by decide)).1 hl)).trans (ev_ne _ _ (by decide)).symm), (fun hn => (ev_ne _ _ (by decide)).trans (h.z8 (fun z => hn ((hu 12).2 (.inr z))))), fun hn => h.n2 (fun z => hn ((hu 2).2 (.inr z))), fun hn => h.n4 (fun z => hn ((hu 4).2 (.inr z))), fun hn => h.n6 (fun z => hn ((hu 6).2 (.inr z))), h.n7, h.g9, d4, d6, d10, d11, d12, d0, h.tl, fun hn => h.bw (fun z => hn ((hu 11).2 (.inr z))), h.fr⟩
    | 6, _ =>
      have c6_4 : L 4 := (dep ho hall 4 (by kernel_rfl))
      have c6_2 : L 2 := h.d4 c6_4
      have hlen : F.length = 2 := Nat.le_antisymm (h.n6 hno) (h.f4 c6_4).1
      have hbu := h.bw (fun z => hno (h.d10 (h.d11 z)).2.2.1)
      refine op_call ho 21 (.tmp 79) 23 (d := some 80) (by kernel_rfl) Try.func21 rfl (by kernel_rfl) (by rw [h.e5 (dep ho hall 5 (by kernel_rfl))]; exact tl_flight h.tl.swap) ?_
      rintro e u' ⟨E, rfl, hmap, tlx, bz⟩
      refine ⟨_, rfl, ?_⟩
      have tl2 : TL w0 u' x y Gx Bx Gy By (Es ++ (F ++ [E])) (fun k => Ks k ∨ G = some k) := by
        rw [← List.append_assoc]
        exact tlx.swap
      exact ⟨F ++ [E], G, h.fe.put (by decide) _, fun hl => (ev_ne _ _ (by decide)).trans (h.e0 ((up 0 (by decide)).1 hl)), fun hl => (ev_ne _ _ (by decide)).trans (h.e1 ((up 1 (by decide)).1 hl)), fun hl => ⟨Nat.le_trans (h.f2 ((up 2 (by decide)).1 hl)).1 (by simp), (ev_ne _ _ (by decide)).trans ((h.f2 ((up 2 (by decide)).1 hl)).2.1.trans (by rw [fv, fv, getE_app E (Nat.lt_of_lt_of_le (by omega) (h.f2 ((up 2 (by decide)).1 hl)).1)])), by rw [getE_app E (Nat.lt_of_lt_of_le (by omega) (h.f2 ((up 2 (by decide)).1 hl)).1)]; exact (h.f2 ((up 2 (by decide)).1 hl)).2.2⟩, fun hl => (ev_ne _ _ (by decide)).trans (h.e3 ((up 3 (by decide)).1 hl)), fun hl => ⟨Nat.le_trans (h.f4 ((up 4 (by decide)).1 hl)).1 (by simp), (ev_ne _ _ (by decide)).trans ((h.f4 ((up 4 (by decide)).1 hl)).2.1.trans (by rw [fv, fv, getE_app E (Nat.lt_of_lt_of_le (by omega) (h.f4 ((up 4 (by decide)).1 hl)).1)])), by rw [getE_app E (Nat.lt_of_lt_of_le (by omega) (h.f4 ((up 4 (by decide)).1 hl)).1)]; exact (h.f4 ((up 4 (by decide)).1 hl)).2.2⟩, fun hl => (ev_ne _ _ (by decide)).trans (h.e5 ((up 5 (by decide)).1 hl)), fun _ => ⟨by rw [List.length_append, hlen]; exact Nat.le_refl _, (ev_eq _ _ (by omega)).trans (by rw [fv, getE_new F E hlen]), by rw [getE_new F E hlen]; exact hmap⟩, fun hl => (ev_ne _ _ (by decide)).trans (h.e7 ((up 7 (by decide)).1 hl)), fun hl => (ev_ne _ _ (by decide)).trans (h.e8 ((up 8 (by decide)).1 hl)), fun hl => (h.e9 ((up 9 (by decide)).1 hl)).imp (fun g ⟨e0, e, r⟩ => ⟨e0, (ev_ne _ _ (by decide)).trans e, r.fr (Fr.of_below (S := fun _ => False) bz) (fun h => h)⟩), fun hl => absurd (h.d10 ((up 10 (by decide)).1 hl)).2.2.1 hno, fun hl => absurd (h.d10 (h.d11 ((up 11 (by decide)).1 hl))).2.2.1 hno, fun hl => (ev_ne _ _ (by decide)).trans ((h.e12 ((up 12 (by decide)).1 hl)).trans (ev_ne _ _ (by decide)).symm), (fun hn => (ev_ne _ _ (by decide)).trans (h.z8 (fun z => hn ((hu 12).2 (.inr z))))), fun hn => absurd ((hu 2).2 (.inr c6_2)) hn, fun hn => absurd ((hu 4).2 (.inr c6_4)) hn, fun hn => absurd ((hu 6).2 (.inl rfl)) hn, by rw [List.length_append, hlen]; show _ + 1 ≤ _; omega, h.g9, d4, d6, d10, d11, d12, d0, tl2, fun _ => hbu.trans (bz.mono hbu.size), h.fr.trans (Fr.of_below bz)⟩
    | 7, _ =>
      have hbu := h.bw (fun z => hno (c79 (h.d10 (h.d11 z)).2.2.2).1)
      refine op_loadD ho (.tmp 9) (d := some 81) (by kernel_rfl) q9 ((hbu.block db hdb).trans hd1) ?_
      exact ⟨F, G, h.fe.put (by decide) _, fun hl => (ev_ne _ _ (by decide)).trans (h.e0 ((up 0 (by decide)).1 hl)), fun hl => (ev_ne _ _ (by decide)).trans (h.e1 ((up 1 (by decide)).1 hl)), fun hl => ⟨(h.f2 ((up 2 (by decide)).1 hl)).1, (ev_ne _ _ (by decide)).trans (h.f2 ((up 2 (by decide)).1 hl)).2.1, (h.f2 ((up 2 (by decide)).1 hl)).2.2⟩, fun hl => (ev_ne _ _ (by decide)).trans (h.e3 ((up 3 (by decide)).1 hl)), fun hl => ⟨(h.f4 ((up 4 (by decide)).1 hl)).1, (ev_ne _ _ (by decide)).trans (h.f4 ((up 4 (by decide)).1 hl)).2.1, (h.f4 ((up 4 (by decide)).1 hl)).2.2⟩, fun hl => (ev_ne _ _ (by decide)).trans (h.e5 ((up 5 (by decide)).1 hl)), fun hl => ⟨(h.f6 ((up 6 (by decide)).1 hl)).1, (ev_ne _ _ (by decide)).trans (h.f6 ((up 6 (by decide)).1 hl)).2.1, (h.f6 ((up 6 (by decide)).1 hl)).2.2⟩, fun _ => ev_eq _ _ (by omega), fun hl => (ev_ne _ _ (by decide)).trans (h.e8 ((up 8 (by decide)).1 hl)), fun hl => (h.e9 ((up 9 (by decide)).1 hl)).imp (fun g ⟨e0, e, r⟩ => ⟨e0, (ev_ne _ _ (by decide)).trans e, r⟩), fun hl => (h.e10 ((up 10 (by decide)).1 hl)).imp (fun z => (hu 11).2 (.inr z)) (fun ⟨gt, e, r⟩ => ⟨gt, (ev_ne _ _ (by decide)).trans e, r⟩), fun hl => (h.e11 ((up 11 (by decide)).1 hl)).imp (fun v ⟨e, r⟩ => ⟨(ev_ne _ _ (by decide)).trans e, r⟩), fun hl => (ev_ne _ _ (by decide)).trans ((h.e12 ((up 12 (by decide)).1 hl)).trans (ev_ne _ _ (by decide)).symm), (fun hn => (ev_ne _ _ (by decide)).trans (h.z8 (fun z => hn ((hu 12).2 (.inr z))))), fun hn => h.n2 (fun z => hn ((hu 2).2 (.inr z))), fun hn => h.n4 (fun z => hn ((hu 4).2 (.inr z))), fun hn => h.n6 (fun z => hn ((hu 6).2 (.inr z))), h.n7, h.g9, d4, d6, d10, d11, d12, d0, h.tl, fun hn => h.bw (fun z => hn ((hu 11).2 (.inr z))), h.fr⟩
    | 8, _ =>
      have hbu := h.bw (fun z => hno (c79 (h.d10 (h.d11 z)).2.2.2).2)
      refine op_loadD ho (.tmp 11) (d := some 82) (by kernel_rfl) q11 ((hbu.block cb hcb).trans hc1) ?_
      exact ⟨F, G, h.fe.put (by decide) _, fun hl => (ev_ne _ _ (by decide)).trans (h.e0 ((up 0 (by decide)).1 hl)), fun hl => (ev_ne _ _ (by decide)).trans (h.e1 ((up 1 (by decide)).1 hl)), fun hl => ⟨(h.f2 ((up 2 (by decide)).1 hl)).1, (ev_ne _ _ (by decide)).trans (h.f2 ((up 2 (by decide)).1 hl)).2.1, (h.f2 ((up 2 (by decide)).1 hl)).2.2⟩, fun hl => (ev_ne _ _ (by decide)).trans (h.e3 ((up 3 (by decide)).1 hl)), fun hl => ⟨(h.f4 ((up 4 (by decide)).1 hl)).1, (ev_ne _ _ (by decide)).trans (h.f4 ((up 4 (by decide)).1 hl)).2.1, (h.f4 ((up 4 (by decide)).1 hl)).2.2⟩, fun hl => (ev_ne _ _ (by decide)).trans (h.e5 ((up 5 (by decide)).1 hl)), fun hl => ⟨(h.f6 ((up 6 (by decide)).1 hl)).1, (ev_ne _ _ (by decide)).trans (h.f6 ((up 6 (by decide)).1 hl)).2.1, (h.f6 ((up 6 (by decide)).1 hl)).2.2⟩, fun hl => (ev_ne _ _ (by decide)).trans (h.e7 ((up 7 (by decide)).1 hl)), fun _ => ev_eq _ _ (by omega), fun hl => (h.e9 ((up 9 (by decide)).1 hl)).imp (fun g ⟨e0, e, r⟩ => ⟨e0, (ev_ne _ _ (by decide)).trans e, r⟩), fun hl => (h.e10 ((up 10 (by decide)).1 hl)).imp (fun z => (hu 11).2 (.inr z)) (fun ⟨gt, e, r⟩ => ⟨gt, (ev_ne _ _ (by decide)).trans e, r⟩), fun hl => (h.e11 ((up 11 (by decide)).1 hl)).imp (fun v ⟨e, r⟩ => ⟨(ev_ne _ _ (by decide)).trans e, r⟩), fun hl => (ev_ne _ _ (by decide)).trans ((h.e12 ((up 12 (by decide)).1 hl)).trans (ev_ne _ _ (by decide)).symm), (fun hn => (ev_ne _ _ (by decide)).trans (h.z8 (fun z => hn ((hu 12).2 (.inr z))))), fun hn => h.n2 (fun z => hn ((hu 2).2 (.inr z))), fun hn => h.n4 (fun z => hn ((hu 4).2 (.inr z))), fun hn => h.n6 (fun z => hn ((hu 6).2 (.inr z))), h.n7, h.g9, d4, d6, d10, d11, d12, d0, h.tl, fun hn => h.bw (fun z => hn ((hu 11).2 (.inr z))), h.fr⟩
    | 9, _ =>
      have hbu := h.bw (fun z => hno (h.d10 (h.d11 z)).2.2.2)
      refine op_build2D ho (.tmp 81) (.tmp 82) (d := some 83) (by kernel_rfl) (h.e7 (dep ho hall 7 (by kernel_rfl))) (h.e8 (dep ho hall 8 (by kernel_rfl))) ?_
      have bz : Below u.heap.size u (u.alloc (.cells #[.int .i64 p.d.f, .int .i64 p.d.t, .slice p.a p.d.b.length p.c, .bool p.d.s, .int .i64 q.d.f, .int .i64 q.d.t, .slice q.a q.d.b.length q.c, .bool q.d.s] 37)) := (Below.refl _ _).alloc (Nat.le_refl _) _
      have row : RowO (u.alloc (.cells #[.int .i64 p.d.f, .int .i64 p.d.t, .slice p.a p.d.b.length p.c, .bool p.d.s, .int .i64 q.d.f, .int .i64 q.d.t, .slice q.a q.d.b.length q.c, .bool q.d.s] 37)) u.heap.size 2 2 [p, q] := ⟨_, heap_alloc_new _ _, by simp [cO, opc], rfl, Nat.le_refl _, by omega, rfl⟩
      have tl9 : TL w0 (u.alloc (.cells #[.int .i64 p.d.f, .int .i64 p.d.t, .slice p.a p.d.b.length p.c, .bool p.d.s, .int .i64 q.d.f, .int .i64 q.d.t, .slice q.a q.d.b.length q.c, .bool q.d.s] 37)) x y Gx Bx Gy By (Es ++ F) (fun k => Ks k ∨ some u.heap.size = some k) := (h.tl.below bz).sub (fun k hk => by
        rcases hk with hk | hk
        · exact .inl (.inl hk)
        · cases hk
          exact .inr ⟨Nat.le_refl _, by simp⟩)
      exact ⟨F, some u.heap.size, h.fe.put (by decide) _, fun hl => (ev_ne _ _ (by decide)).trans (h.e0 ((up 0 (by decide)).1 hl)), fun hl => (ev_ne _ _ (by decide)).trans (h.e1 ((up 1 (by decide)).1 hl)), fun hl => ⟨(h.f2 ((up 2 (by decide)).1 hl)).1, (ev_ne _ _ (by decide)).trans (h.f2 ((up 2 (by decide)).1 hl)).2.1, (h.f2 ((up 2 (by decide)).1 hl)).2.2⟩, fun hl => (ev_ne _ _ (by decide)).trans (h.e3 ((up 3 (by decide)).1 hl)), fun hl => ⟨(h.f4 ((up 4 (by decide)).1 hl)).1, (ev_ne _ _ (by decide)).trans (h.f4 ((up 4 (by decide)).1 hl)).2.1, (h.f4 ((up 4 (by decide)).1 hl)).2.2⟩, fun hl => (ev_ne _ _ (by decide)).trans (h.e5 ((up 5 (by decide)).1 hl)), fun hl => ⟨(h.f6 ((up 6 (by decide)).1 hl)).1, (ev_ne _ _ (by decide)).trans (h.f6 ((up 6 (by decide)).1 hl)).2.1, (h.f6 ((up 6 (by decide)).1 hl)).2.2⟩, fun hl => (ev_ne _ _ (by decide)).trans (h.e7 ((up 7 (by decide)).1 hl)), fun hl => (ev_ne _ _ (by decide)).trans (h.e8 ((up 8 (by decide)).1 hl)), fun _ => ⟨_, rfl, ev_eq _ _ (by omega), row⟩, fun hl => absurd (h.d10 ((up 10 (by decide)).1 hl)).2.2.2 hno, fun hl => absurd (h.d10 (h.d11 ((up 11 (by decide)).1 hl))).2.2.2 hno, fun hl => (ev_ne _ _ (by decide)).trans ((h.e12 ((up 12 (by decide)).1 hl)).trans (ev_ne _ _ (by decide)).symm), (fun hn => (ev_ne _ _ (by decide)).trans (h.z8 (fun z => hn ((hu 12).2 (.inr z))))), fun hn => h.n2 (fun z => hn ((hu 2).2 (.inr z))), fun hn => h.n4 (fun z => hn ((hu 4).2 (.inr z))), fun hn => h.n6 (fun z => hn ((hu 6).2 (.inr z))), h.n7, fun g e => by cases e; exact hbu.size, d4, d6, d10, d11, d12, d0, tl9, fun _ => hbu.trans (bz.mono hbu.size), h.fr.trans (Fr.of_below bz)⟩
    | 10, _ =>
      have hbu := h.bw (fun z => hno (h.d11 z))
      obtain ⟨g, eg, q83, rg⟩ := h.e9 (dep ho hall 9 (by kernel_rfl))
      have q76 := (h.f2 (dep ho hall 2 (by kernel_rfl))).2.1
      have q78 := (h.f4 (dep ho hall 4 (by kernel_rfl))).2.1
      have q80 := (h.f6 (dep ho hall 6 (by kernel_rfl))).2.1
      have q83' : x'.eval (.tmp 83) = dv G := by rw [q83, eg]; rfl
      refine op_build4D ho (.tmp 76) (.tmp 78) (.tmp 80) (.tmp 83) (d := some 84) (by kernel_rfl) (q76.trans (Ent.v_eq _)) (q78.trans (Ent.v_eq _)) (q80.trans (Ent.v_eq _)) q83' ?_
      show ∃ F1 G1, I15 a0 w0 wd x y gl Gx Gy Bx By Es Ks p q vs F1 G1 L' (x'.put (some 84) (.slice (some ⟨u.heap.size, 0, none⟩) 4 4)) (u.alloc (.cells #[fv F 0, fv F 1, fv F 2, dv G] 43))
      have bz : Below u.heap.size u (u.alloc (.cells #[fv F 0, fv F 1, fv F 2, dv G] 43)) := (Below.refl _ _).alloc (Nat.le_refl _) _
      have tl10 : TL w0 (u.alloc (.cells #[fv F 0, fv F 1, fv F 2, dv G] 43)) x y Gx Bx Gy By (Es ++ F) (fun k => Ks k ∨ G = some k) := (h.tl.below bz).sub (fun k hk => .inl hk)
      exact ⟨F, G, h.fe.put (by decide) _, fun hl => (ev_ne _ _ (by decide)).trans (h.e0 ((up 0 (by decide)).1 hl)), fun hl => (ev_ne _ _ (by decide)).trans (h.e1 ((up 1 (by decide)).1 hl)), fun hl => ⟨(h.f2 ((up 2 (by decide)).1 hl)).1, (ev_ne _ _ (by decide)).trans (h.f2 ((up 2 (by decide)).1 hl)).2.1, (h.f2 ((up 2 (by decide)).1 hl)).2.2⟩, fun hl => (ev_ne _ _ (by decide)).trans (h.e3 ((up 3 (by decide)).1 hl)), fun hl => ⟨(h.f4 ((up 4 (by decide)).1 hl)).1, (ev_ne _ _ (by decide)).trans (h.f4 ((up 4 (by decide)).1 hl)).2.1, (h.f4 ((up 4 (by decide)).1 hl)).2.2⟩, fun hl => (ev_ne _ _ (by decide)).trans (h.e5 ((up 5 (by decide)).1 hl)), fun hl => ⟨(h.f6 ((up 6 (by decide)).1 hl)).1, (ev_ne _ _ (by decide)).trans (h.f6 ((up 6 (by decide)).1 hl)).2.1, (h.f6 ((up 6 (by decide)).1 hl)).2.2⟩, fun hl => (ev_ne _ _ (by decide)).trans (h.e7 ((up 7 (by decide)).1 hl)), fun hl => (ev_ne _ _ (by decide)).trans (h.e8 ((up 8 (by decide)).1 hl)), fun hl => (h.e9 ((up 9 (by decide)).1 hl)).imp (fun g ⟨e0, e, r⟩ => ⟨e0, (ev_ne _ _ (by decide)).trans e, r.fr (Fr.of_below (S := fun _ => False) bz) (fun h => h)⟩), fun _ => .inr ⟨_, ev_eq _ _ (by omega), heap_alloc_new _ _⟩, fun hl => absurd (h.d11 ((up 11 (by decide)).1 hl)) hno, fun hl => (ev_ne _ _ (by decide)).trans ((h.e12 ((up 12 (by decide)).1 hl)).trans (ev_ne _ _ (by decide)).symm), (fun hn => (ev_ne _ _ (by decide)).trans (h.z8 (fun z => hn ((hu 12).2 (.inr z))))), fun hn => h.n2 (fun z => hn ((hu 2).2 (.inr z))), fun hn => h.n4 (fun z => hn ((hu 4).2 (.inr z))), fun hn => h.n6 (fun z => hn ((hu 6).2 (.inr z))), h.n7, h.g9, d4, d6, d10, d11, d12, d0, tl10, fun _ => hbu.trans (bz.mono hbu.size), h.fr.trans (Fr.of_below bz)⟩
    | 11, _ =>
      have hbu := h.bw hno
      obtain ⟨f1, f2, f3⟩ := fields (d := some 85) (p := Op.call { callee := Callee.builtin Builtin.append, args := #[.tmp 74, .tmp 84], argTypes := #[73, 73] }) ho (by kernel_rfl)
      obtain ⟨gt, q84, ht⟩ := (h.e10 (dep ho hall 10 (by kernel_rfl))).resolve_left hno
      have ol : u.ownsRow gl 43 1 (.slice (some ⟨gl, 0, none⟩) 4 4) 4 vs := by
        refine ⟨hol.1, ?_⟩
        rcases hol.2 with h0 | ⟨g, cap, cur, e, hbg, hh, r⟩
        · exact .inl h0
        · exact .inr ⟨g, cap, cur, e, hbg, (hbu.block g (block_lt hh)).trans hh, r⟩
      have hgl : gl ≤ u.heap.size := Nat.le_trans (Nat.le_of_lt hglt) hbu.size
      refine op_plain ho f3 ?_
      refine wp_append_own u (.tmp 74) (.tmp 84) 73 f2 gl 43 i0 (.slice none 0 0) 1 24 Try.underlying73 hi0 hz0 hz1 hz2 rfl (by decide) (.slice (some ⟨gl, 0, none⟩) 4 4) 4 vs (h.e0 (dep ho hall 0 (by kernel_rfl))) ol ⟨gt, 0, none⟩ 4 4 [fv F 0, fv F 1, fv F 2, dv G] q84 rfl ?_ ?_ (by unfold maxLen; omega) (by omega) hgl ?_
      · intro j u' hj
        rw [add_lit, Nat.zero_add, cell_row ht]
        simpa using hj
      · intro u' hu'
        simp only [List.mem_cons, List.not_mem_nil, or_false] at hu'
        rcases hu' with rfl | rfl | rfl | rfl <;> rfl
      · intro v' w' own hgrow _
        rw [f1]
        have F11 : Fr (fun k => k = gl) u w' := Fr.of_grown hgrow (fun k e => by cases e; rfl)
        have tl11 := h.tl.write (F11.mono (fun k _ e => .inl (by rw [e]; exact hkgl)))
        exact ⟨F, G, h.fe.put (by decide) _, fun hl => (ev_ne _ _ (by decide)).trans (h.e0 ((up 0 (by decide)).1 hl)), fun hl => (ev_ne _ _ (by decide)).trans (h.e1 ((up 1 (by decide)).1 hl)), fun hl => ⟨(h.f2 ((up 2 (by decide)).1 hl)).1, (ev_ne _ _ (by decide)).trans (h.f2 ((up 2 (by decide)).1 hl)).2.1, (h.f2 ((up 2 (by decide)).1 hl)).2.2⟩, fun hl => (ev_ne _ _ (by decide)).trans (h.e3 ((up 3 (by decide)).1 hl)), fun hl => ⟨(h.f4 ((up 4 (by decide)).1 hl)).1, (ev_ne _ _ (by decide)).trans (h.f4 ((up 4 (by decide)).1 hl)).2.1, (h.f4 ((up 4 (by decide)).1 hl)).2.2⟩, fun hl => (ev_ne _ _ (by decide)).trans (h.e5 ((up 5 (by decide)).1 hl)), fun hl => ⟨(h.f6 ((up 6 (by decide)).1 hl)).1, (ev_ne _ _ (by decide)).trans (h.f6 ((up 6 (by decide)).1 hl)).2.1, (h.f6 ((up 6 (by decide)).1 hl)).2.2⟩, fun hl => (ev_ne _ _ (by decide)).trans (h.e7 ((up 7 (by decide)).1 hl)), fun hl => (ev_ne _ _ (by decide)).trans (h.e8 ((up 8 (by decide)).1 hl)), fun hl => (h.e9 ((up 9 (by decide)).1 hl)).imp (fun g ⟨e0, e, r⟩ => ⟨e0, (ev_ne _ _ (by decide)).trans e, r.fr F11 (fun e => by have := h.g9 g e0; omega)⟩), fun _ => .inl ((hu 11).2 (.inl rfl)), fun _ => ⟨_, ev_eq _ _ (by omega), own⟩, fun hl => absurd (h.d12 ((up 12 (by decide)).1 hl)) hno, (fun hn => (ev_ne _ _ (by decide)).trans (h.z8 (fun z => hn ((hu 12).2 (.inr z))))), fun hn => h.n2 (fun z => hn ((hu 2).2 (.inr z))), fun hn => h.n4 (fun z => hn ((hu 4).2 (.inr z))), fun hn => h.n6 (fun z => hn ((hu 6).2 (.inr z))), h.n7, h.g9, d4, d6, d10, d11, d12, d0, tl11, fun hn => absurd ((hu 11).2 (.inl rfl)) hn, h.fr.trans F11⟩
    | 12, _ =>
      have dd11 : L 11 := (dep ho hall 11 (by kernel_rfl))
      refine op_assign ho (.tmp 85) (d := some 8) (by kernel_rfl) ?_
      exact ⟨F, G, h.fe.put (by decide) _, fun hl => (ev_ne _ _ (by decide)).trans (h.e0 ((up 0 (by decide)).1 hl)), fun hl => (ev_ne _ _ (by decide)).trans (h.e1 ((up 1 (by decide)).1 hl)), fun hl => ⟨(h.f2 ((up 2 (by decide)).1 hl)).1, (ev_ne _ _ (by decide)).trans (h.f2 ((up 2 (by decide)).1 hl)).2.1, (h.f2 ((up 2 (by decide)).1 hl)).2.2⟩, fun hl => (ev_ne _ _ (by decide)).trans (h.e3 ((up 3 (by decide)).1 hl)), fun hl => ⟨(h.f4 ((up 4 (by decide)).1 hl)).1, (ev_ne _ _ (by decide)).trans (h.f4 ((up 4 (by decide)).1 hl)).2.1, (h.f4 ((up 4 (by decide)).1 hl)).2.2⟩, fun hl => (ev_ne _ _ (by decide)).trans (h.e5 ((up 5 (by decide)).1 hl)), fun hl => ⟨(h.f6 ((up 6 (by decide)).1 hl)).1, (ev_ne _ _ (by decide)).trans (h.f6 ((up 6 (by decide)).1 hl)).2.1, (h.f6 ((up 6 (by decide)).1 hl)).2.2⟩, fun hl => (ev_ne _ _ (by decide)).trans (h.e7 ((up 7 (by decide)).1 hl)), fun hl => (ev_ne _ _ (by decide)).trans (h.e8 ((up 8 (by decide)).1 hl)), fun hl => (h.e9 ((up 9 (by decide)).1 hl)).imp (fun g ⟨e0, e, r⟩ => ⟨e0, (ev_ne _ _ (by decide)).trans e, r⟩), fun hl => (h.e10 ((up 10 (by decide)).1 hl)).imp (fun z => (hu 11).2 (.inr z)) (fun ⟨gt, e, r⟩ => ⟨gt, (ev_ne _ _ (by decide)).trans e, r⟩), fun hl => (h.e11 ((up 11 (by decide)).1 hl)).imp (fun v ⟨e, r⟩ => ⟨(ev_ne _ _ (by decide)).trans e, r⟩), fun _ => (ev_eq _ _ (by omega)).trans (ev_ne _ _ (by decide)).symm, fun hn => absurd ((hu 12).2 (.inl rfl)) hn, fun hn => h.n2 (fun z => hn ((hu 2).2 (.inr z))), fun hn => h.n4 (fun z => hn ((hu 4).2 (.inr z))), fun hn => h.n6 (fun z => hn ((hu 6).2 (.inr z))), h.n7, h.g9, d4, d6, d10, d11, d12, d0, h.tl, fun hn => absurd ((hu 11).2 (.inr dd11)) hn, h.fr⟩
    | i + 13, hi => omega
  · rintro L x' u ⟨⟨F, G, h⟩, -⟩ hall
    rw [ops15_size] at hall
    obtain ⟨v, hv, own⟩ := h.e11 (hall 11 (by decide))
    obtain ⟨g, rfl, -, row⟩ := h.e9 (hall 9 (by decide))
    have h2 := (h.e12 (hall 12 (by decide))).trans hv
    have := hK u v F g (x'.eval (.tmp 74)) (x'.eval (.tmp 75)) (x'.eval (.tmp 76)) (x'.eval (.tmp 77)) (x'.eval (.tmp 78)) (x'.eval (.tmp 79)) (x'.eval (.tmp 80)) (x'.eval (.tmp 81)) (x'.eval (.tmp 82)) (x'.eval (.tmp 83)) (x'.eval (.tmp 84)) h.tl (Nat.le_antisymm h.n7 (h.f6 (hall 6 (by decide))).1) (h.f2 (hall 2 (by decide))).2.2 (h.f4 (hall 4 (by decide))).2.2 (h.f6 (hall 6 (by decide))).2.2 row (by rw [hwd]; exact h.fr) own
    have hp := Fe.puts [(74, x'.eval (.tmp 74)), (75, x'.eval (.tmp 75)), (76, x'.eval (.tmp 76)), (77, x'.eval (.tmp 77)), (78, x'.eval (.tmp 78)), (79, x'.eval (.tmp 79)), (80, x'.eval (.tmp 80)), (81, x'.eval (.tmp 81)), (82, x'.eval (.tmp 82)), (83, x'.eval (.tmp 83)), (84, x'.eval (.tmp 84)), (85, v), (8, v)] a0 x' h.fe (by
      intro p hp
      simp only [List.mem_cons, List.not_mem_nil, or_false] at hp
      rcases hp with rfl | rfl | rfl | rfl | rfl | rfl | rfl | rfl | rfl | rfl | rfl | rfl | rfl
      all_goals first | exact ⟨by show _ < _; simp only; omega, rfl⟩ | exact ⟨by show _ < _; simp only; omega, hv⟩ | exact ⟨by show _ < _; simp only; omega, h2⟩)
    rw [← hp] at this
    exact this
  · intro L hL
    rw [hwd]
    refine ⟨⟨[], none, Fe.refl _ _, fun h => absurd h (hL _), fun h => absurd h (hL _), fun h => absurd h (hL _), fun h => absurd h (hL _), fun h => absurd h (hL _), fun h => absurd h (hL _), fun h => absurd h (hL _), fun h => absurd h (hL _), fun h => absurd h (hL _), fun h => absurd h (hL _), fun h => absurd h (hL _), fun h => absurd h (hL _), fun h => absurd h (hL _), fun _ => h8, fun _ => rfl, fun _ => Nat.zero_le _, fun _ => Nat.zero_le _, Nat.zero_le _, fun g e => (by cases e), fun h => absurd h (hL _), fun h => absurd h (hL _), fun h => absurd h (hL _), fun h => absurd h (hL _), fun h => absurd h (hL _), fun h => absurd h (hL _), ?_, fun _ => Below.refl _ _, Fr.refl _ _⟩, fun h => absurd h (hL _)⟩
    rw [List.append_nil]
    exact hT.sub (fun k hk => hk.elim id (fun e => by cases e))

end Go.Proofs.Ytnglcnilckolkaa
