/-
  The document's life: the walk.
-/
import Derived.Test.YtilidolbplglcaaGreatDoorMDb
import Derived.Laws.ResultCell
import Derived.Laws.Rows
namespace Go.Proofs.YtilidolbplglcaaGreatDoor
open Go.RowKit
set_option linter.unusedVariables false

/-- Two boxes. -/
theorem box2 (w : World) (o1 o2 : Obj) : Below w.heap.size w ((w.alloc o1).alloc o2) ∧ ((w.alloc o1).alloc o2).heap[w.heap.size]? = some o1 ∧ ((w.alloc o1).alloc o2).heap[w.heap.size + 1]? = some o2 := by
  refine ⟨((Below.refl _ _).alloc (Nat.le_refl _) _).alloc (by simp) _, ?_, ?_⟩
  · exact (Below.heap_alloc _ _ _ (by simp)).trans (heap_alloc_new w _)
  · have := heap_alloc_new (w.alloc o1) o2
    rwa [World.size_alloc] at this
theorem edCells {w : World} {b t : Nat} {g k p c l s : Int} (h : w.heap[b]? = some (.cells #[.int .i64 g, .int .i64 k, .int .i64 p, .int .u8 c, .int .i64 l, .int .i64 s] t (0, 0))) :
    w.cell? ⟨b, 0, none⟩ = some (.int .i64 g) ∧ w.cell? ⟨b, 1, none⟩ = some (.int .i64 k) ∧ w.cell? ⟨b, 2, none⟩ = some (.int .i64 p) ∧ w.cell? ⟨b, 3, none⟩ = some (.int .u8 c) ∧ w.cell? ⟨b, 4, none⟩ = some (.int .i64 l) ∧ w.cell? ⟨b, 5, none⟩ = some (.int .i64 s) :=
  ⟨by rw [cell_row h]; rfl, by rw [cell_row h]; rfl, by rw [cell_row h]; rfl, by rw [cell_row h]; rfl, by rw [cell_row h]; rfl, by rw [cell_row h]; rfl⟩

theorem grL_take {F : List OpE} {i : Nat} (hi : i < F.length) : grL (F.take (i + 1)) = grL (F.take i) + gr F[i] := by
  rw [List.take_succ_eq_append_getElem hi, grL_app]
  simp [grL]
theorem grL_take_le (F : List OpE) (i : Nat) : -(F.length : Int) ≤ grL (F.take i) ∧ grL (F.take i) ≤ F.length := by
  have := grL_le (F.take i)
  have h : (F.take i).length ≤ F.length := by simp; omega
  omega
theorem meas_lt {q k : Nat} (h : k ≤ q) : q + 2 - (k + 1) < q + 2 - k := by omega
theorem meas_done {q k : Nat} (h : k ≤ q) : q + 2 - (intOf (.int .i64 ((k : Int) + 1))).toNat < q + 2 - (intOf (.int .i64 (k : Int))).toNat := by
  simp [intOf]
  omega
theorem wrap_small {k : Nat} (h : k ≤ 4096) : wrap64 ((k : Int) + 1) = ((k + 1 : Nat) : Int) := by
  rw [wrap64]
  omega
theorem meas_wrap {q k : Nat} (h : k ≤ q) (hq : q ≤ 4096) : q + 2 - (intOf (.int .i64 (wrap64 ((k : Int) + 1)))).toNat < q + 2 - (intOf (.int .i64 (k : Int))).toNat := by
  rw [wrap_small (Nat.le_trans h hq)]
  simp [intOf]
  omega
theorem results_op_tmp {fn : Func} {p u : Tmp} (h : fn.results = #[.cell p 46, .tmp u]) (tmps : Array Value) (w : World) (g : Nat) (v : Value) (hp : tmps.getD p undef = .pointer (some ⟨g, 0, none⟩)) (hl : (loadVar 46 ⟨g, 0, none⟩).run Tryz.prog w = .ok v w) : (results fn tmps).run Tryz.prog w = .ok (.tuple #[v, tmps.getD u undef]) w := by
  rw [results_cell_tmp h, hp]
  have e : (asAddr (.pointer (some ⟨g, 0, none⟩))).run Tryz.prog w = .ok ⟨g, 0, none⟩ w := by simp [asAddr]
  rw [e, Result.andThen_ok, hl, Result.andThen_ok]
/-- Life in the midst of record k: the loop that makes what is due. -/
structure L3 (w0 wr : World) (vO vF : Value) (E : List Ed) (D : List OpE) (e : Ed) (k mm mm' : Nat) (F F' : List OpE) (nn nn' : Int) : Prop where
  st : LfS w0 wr vO vF (ownE e.o.cl E ++ [e]) F'
  mf : mkF k (oP e E mm) F = mkF k (oP e E mm') F'
  mn : mkN k (oP e E mm) F (nsP D k) nn = mkN k (oP e E mm') F' (nsP D k) nn'
  m1 : mm' ≤ (ownE e.o.cl E ++ [e]).length
  m2 : F'.length ≤ mm'
/-- Life between two records. -/
def L2 (w0 wr : World) (vO vF : Value) (E : List Ed) (D : List OpE) (e : Ed) (k : Nat) (mm : Nat) (nn : Int) : Prop :=
  (k ≤ E.length ∧ ∃ F, LfS w0 wr vO vF (ownE e.o.cl E ++ [e]) F ∧ P2 E D e k mm F nn) ∨ (k = E.length + 1 ∧ LfS w0 wr vO vF (ownE e.o.cl E ++ [e]) [dnP E D e] ∧ nn = lnP E D e)
theorem L3.forms {w0 wr : World} {vO vF : Value} {E : List Ed} {D : List OpE} {e : Ed} {k mm mm' : Nat} {F F' : List OpE} {nn nn' : Int} (h : L3 w0 wr vO vF E D e k mm mm' F F' nn nn') : (∃ a c, vF = .slice a F'.length c) ∧ ∃ β, SF edc 6 wr 48 β vO (ownE e.o.cl E ++ [e]) := by
  obtain ⟨β, h3, -⟩ := h.st.fo
  obtain ⟨a, c, h4, -⟩ := h3.is
  obtain ⟨γ, h5, -⟩ := h.st.own
  exact ⟨⟨a, c, h4⟩, γ, h5⟩
theorem L2.mid {w0 wr : World} {vO vF : Value} {E : List Ed} {D : List OpE} {e : Ed} {k mm : Nat} {nn : Int} (h : L2 w0 wr vO vF E D e k mm nn) (hk : k ≤ E.length) : ∃ F a c, vF = .slice a F.length c ∧ LfS w0 wr vO vF (ownE e.o.cl E ++ [e]) F ∧ P2 E D e k mm F nn ∧ L3 w0 wr vO vF E D e k mm mm F F nn nn := by
  rcases h with ⟨-, F, h1, h2⟩ | ⟨h, -⟩
  · obtain ⟨β, h3, -⟩ := h1.fo
    obtain ⟨a, c, h4, -⟩ := h3.is
    exact ⟨F, a, c, h4, h1, h2, h1, rfl, rfl, h2.m1, h2.m2⟩
  · omega
theorem L2.below {w0 wr u : World} {vO vF : Value} {E : List Ed} {D : List OpE} {e : Ed} {k mm : Nat} {nn : Int} (h : L2 w0 wr vO vF E D e k mm nn) (hb : Below wr.heap.size wr u) : L2 w0 u vO vF E D e k mm nn := by
  rcases h with ⟨h1, F, h2, h3⟩ | ⟨h1, h2, h3⟩
  · exact .inl ⟨h1, F, h2.below hb, h3⟩
  · exact .inr ⟨h1, h2.below hb, h3⟩
theorem L2.out {w0 wr : World} {vO vF : Value} {E : List Ed} {D : List OpE} {e : Ed} {k mm : Nat} {nn : Int} (h : L2 w0 wr vO vF E D e k mm nn) (hk : ¬ k ≤ E.length) : k = E.length + 1 ∧ LfS w0 wr vO vF (ownE e.o.cl E ++ [e]) [dnP E D e] ∧ nn = lnP E D e := by
  rcases h with ⟨h, -⟩ | h
  · exact absurd h hk
  · exact h

section
variable {w : World} {x : Nat} {aE aD aN : Option Addr} {cE cD cN : Nat} {vK : Value} {E : List Ed} {D : List OpE}
set_option maxRecDepth 100000 in
set_option maxHeartbeats 8000000 in
theorem life_any (h : RBr w x aE aD aN cE cD cN vK E D) (hJ : BJ E D) (e : Ed) (t1 : (laP e.o.cl E).2 ≤ e.tag) (t2 : e.tag ≤ E.length) :
    Calls Tryz.prog 30 #[.pointer (some ⟨x, 0, none⟩), .agg #[.int .i64 e.tag, .int .i64 e.o.kind, .int .i64 e.o.pos, .int .u8 e.o.ch, .int .i64 e.o.cl, .int .i64 e.o.sq]] w fun r w' => r = .returned (.tuple #[(dnP E D e).val, .int .i64 (lnP E D e)]) ∧ Below w.heap.size w w' := by
  obtain ⟨et, ⟨ek, ep, ec, el, es⟩⟩ := e
  simp only at *
  obtain ⟨hb, hB1, hB2⟩ := box2 w (.cells #[.int .i64 et, .int .i64 ek, .int .i64 ep, .int .u8 ec, .int .i64 el, .int .i64 es] 48) (.cells #[.int .i64 0, .int .i64 0, .int .u8 0, .int .i64 0, .int .i64 0] 46)
  have HR0 := hd (h.below hb)
  have HB := hd hb
  have HB1 := hd hB1
  have HB2 := hd hB2
  obtain ⟨n, hn⟩ : ∃ n, E.length = n := ⟨_, rfl⟩
  have hn96 : n ≤ 4096 := by have := h.b; omega
  have HJ := hd hJ
  have HN := hd hn
  have HT := hd (And.intro t1 t2)
  clear h hb hB1 hB2 hn hJ t1 t2
  go_enter Tryz.func30, Tryz.ntmps30
  go_upto_region 1 with fail
  generalize (w.alloc (.cells #[.int .i64 et, .int .i64 ek, .int .i64 ep, .int .u8 ec, .int .i64 el, .int .i64 es] 48)).alloc (.cells #[.int .i64 0, .int .i64 0, .int .u8 0, .int .i64 0, .int .i64 0] 46) = w0 at *
  have CL : Hid (∀ u, Below w0.heap.size w0 u → (u.cell? ⟨x, 1, none⟩ = some (.slice aE n cE) ∧ u.cell? ⟨x, 2, none⟩ = some (.slice aD n cD) ∧ u.cell? ⟨x, 3, none⟩ = some (.slice aN (n + 1) cN)) ∧ (u.cell? ⟨w.heap.size, 0, none⟩ = some (.int .i64 et) ∧ u.cell? ⟨w.heap.size, 1, none⟩ = some (.int .i64 ek) ∧ u.cell? ⟨w.heap.size, 2, none⟩ = some (.int .i64 ep) ∧ u.cell? ⟨w.heap.size, 3, none⟩ = some (.int .u8 ec) ∧ u.cell? ⟨w.heap.size, 4, none⟩ = some (.int .i64 el) ∧ u.cell? ⟨w.heap.size, 5, none⟩ = some (.int .i64 es)) ∧ RBr u x aE aD aN cE cD cN vK E D) := fun u hu => by
    have h1 := HR0.out.below hu
    obtain ⟨c1, c2, c3, -⟩ := h1.cells
    rw [HN.out] at c1 c2 c3
    exact ⟨⟨c1, c2, c3⟩, edCells ((hu.block _ (block_lt HB1.out)).trans HB1.out), h1⟩
  have S0 : Hid (LfS w0 w0 (.slice none 0 0) (.slice none 0 0) (ownE el (E.take 0)) []) := ⟨⟨none, ⟨rfl, rfl⟩, fun g hg => by cases hg⟩, ⟨none, ⟨rfl, rfl⟩, fun g hg => by cases hg⟩, Below.refl _ _⟩
  go_wp2_with fail
  go_loopw [6, 7] (fun v i wr => ∃ q : Nat, q ≤ n ∧ i = .int .i64 (q : Int) ∧ Hid (LfS w0 wr v (.slice none 0 0) (ownE el (E.take q)) [])) (fun _ i _ => n - (intOf i).toNat)
  case atStart => exact ⟨0, Nat.zero_le _, rfl, S0⟩
  case round =>
    obtain ⟨q, hq, rfl, HS⟩ := hrel
    clear S0
    obtain ⟨⟨c1, c2, c3⟩, ⟨d0, d1, d2, d3, d4, d5⟩, hrb⟩ := CL.out wr HS.out.bel
    obtain ⟨βo, ho, -⟩ := HS.out.own
    obtain ⟨aV, cV, hvV, -⟩ := ho.form
    clear ho
    have hol : (ownE el (E.take q)).length ≤ 4096 := by
      have := ownE_len el (E.take q)
      rw [List.length_take] at this
      omega
    generalize hol' : (ownE el (E.take q)).length = on at *
    subst hvV
    have HOL := hd hol'
    clear hol'
    by_cases hql : q < n
    · have hqE : q < E.length := by have := HN.out; omega
      obtain ⟨bE, oE, rfl, lE, hc⟩ := hrb.e.2 (by omega)
      obtain ⟨x0, x1, x2, x3, x4, x5⟩ := hc q hqE
      have hown := ownE_take (c := el) hqE
      have i1 : (q : Int) < (n : Int) := by omega
      have hE3 : wrap64 ((q : Int) + 1) = ((q + 1 : Nat) : Int) := by rw [wrap64]; omega
      clear hc hrb
      obtain ⟨⟨gt, ⟨gk, gp, gc, gl, gs⟩⟩, hge⟩ : ∃ g, E[q] = g := ⟨_, rfl⟩
      rw [hge] at x0 x1 x2 x3 x4 x5 hown
      simp only at x0 x1 x2 x3 x4 x5 hown
      clear hge
      by_cases hcl : gl = el
      · rw [if_pos hcl] at hown
        have HOW := hd hown
        subst hcl
        clear hown
        have HP : Hid (∀ u, Below wr.heap.size wr u → ∃ a c w6, (∀ ty, (Builtin.append_ #[22, 22] ty #[.slice aV on cV, .slice (some ⟨u.heap.size, 0, none⟩) 1 1]).run Tryz.prog (u.alloc (.cells #[.int .i64 gt, .int .i64 gk, .int .i64 gp, .int .u8 gc, .int .i64 gl, .int .i64 gs] 48)) = .ok (.slice a (on + 1) c) w6) ∧ LfS w0 w6 (.slice a (on + 1) c) (.slice none 0 0) (ownE gl (E.take (q + 1))) []) := fun u hu => by
          obtain ⟨a, c, w6, h1, h2⟩ := HS.out.pushO hu ⟨gt, ⟨gk, gp, gc, gl, gs⟩⟩ (by have := HOL.out; omega)
          rw [HOL.out] at h1 h2
          rw [HOW.out]
          exact ⟨a, c, w6, h1, h2⟩
        clear HS
        go_wp2_with fail
        go_quiet (fail)
        rename_i nq
        obtain ⟨a6, c6, w6, hap, hS6⟩ := HP.out (wr.drewN nq) (below_drewN (Below.refl _ _) _)
        have HS6 := hd hS6
        clear hS6 HP
        go_wp2_with (at_builtin; refine wpList_append_k _ rfl _ _ 22 22 rfl _ _ rfl rfl (hap _) ?_)
        exact ⟨⟨q + 1, by omega, by go_num, HS6⟩, by simp [intOf]; omega⟩
      · rw [if_neg hcl] at hown
        have NX : Hid (LfS w0 wr (.slice aV on cV) (.slice none 0 0) (ownE el (E.take (q + 1))) []) := by
          rw [hown]
          exact HS.out
        have hce : (gl == el) = false := by simpa using hcl
        clear HS hown
        go_wp2_with fail
        go_quiet (fail)
        rename_i nq
        have NY := hd (NX.out.below (u := wr.drewN nq) (below_drewN (Below.refl _ _) _))
        go_wp2_with fail
        exact ⟨⟨q + 1, by omega, by go_num, NY⟩, by simp [intOf]; omega⟩
    · obtain rfl : q = n := by omega
      have i1 : ¬ ((q : Int) < (q : Int)) := by omega
      have hown : E.take q = E := List.take_of_length_le (by have := HN.out; omega)
      rw [hown] at HS HOL
      have HP : Hid (∃ a c w6, (∀ ty, (Builtin.append_ #[22, 22] ty #[.slice aV on cV, .slice (some ⟨wr.heap.size, 0, none⟩) 1 1]).run Tryz.prog (wr.alloc (.cells #[.int .i64 et, .int .i64 ek, .int .i64 ep, .int .u8 ec, .int .i64 el, .int .i64 es] 48)) = .ok (.slice a (on + 1) c) w6) ∧ LfS w0 w6 (.slice a (on + 1) c) (.slice none 0 0) (ownE el E ++ [⟨et, ⟨ek, ep, ec, el, es⟩⟩]) []) := by
        obtain ⟨a, c, w6, h1, h2⟩ := HS.out.pushO (Below.refl _ _) ⟨et, ⟨ek, ep, ec, el, es⟩⟩ (by have := HOL.out; omega)
        rw [HOL.out] at h1 h2
        exact ⟨a, c, w6, h1, h2⟩
      obtain ⟨a6, c6, w6, hap, hS6⟩ := HP.out
      have HS6 := hd hS6
      clear HS HP hown hrb hS6
      go_wp2_with (at_builtin; refine wpList_append_k _ rfl _ _ 22 22 rfl _ _ rfl rfl (hap _) ?_)
      obtain ⟨eE, heE⟩ : ∃ y : Ed, y = ⟨et, ⟨ek, ep, ec, el, es⟩⟩ := ⟨_, rfl⟩
      have HEE := hd heE
      have hOwn : Hid ((ownE eE.o.cl E ++ [eE]).length = on + 1) := by
        show _ = _
        rw [List.length_append, heE, HOL.out]
        rfl
      have J0 : Hid (L2 w0 w6 (.slice a6 (on + 1) c6) (.slice none 0 0) E D eE 0 0 0) := .inl ⟨Nat.zero_le _, [], by rw [heE]; exact HS6.out, P2.begin HJ.out (by rw [heE]; exact HT.out.1) (by rw [heE]; exact HT.out.2)⟩
      clear heE
      have hon : on ≤ 4096 := hol
      clear hap HS6 HOL c1 c2 c3 d0 d1 d2 d3 d4 d5 hol
      go_loopw [8, 9, 10, 11] (fun vF vm vn vk wr => ∃ (k mm : Nat) (nn : Int), vm = .int .i64 (mm : Int) ∧ vn = .int .i64 nn ∧ vk = .int .i64 (k : Int) ∧ Hid (L2 w0 wr (.slice a6 (on + 1) c6) vF E D eE k mm nn)) (fun _ _ _ vk _ => q + 2 - (intOf vk).toNat)
      case atStart => exact ⟨0, 0, 0, rfl, rfl, rfl, J0⟩
      case round =>
        clear J0
        obtain ⟨k, mm, nn, rfl, rfl, rfl, HL⟩ := hrel
        by_cases hkq : k ≤ q
        · obtain ⟨F, aF, cF, hvF, hLf, hP2, hL3⟩ := HL.out.mid (by have := HN.out; omega)
          have HP2 := hd hP2
          have i2 : (k : Int) ≤ (q : Int) := by omega
          have hBr := hLf.bel
          obtain ⟨⟨c1, c2, c3⟩, ⟨d0, d1, d2, d3, d4, d5⟩, hrb⟩ := CL.out _ hBr
          subst hvF
          have hFl : F.length ≤ 4097 := by have := hP2.m1; have := hP2.m2; have := hOwn.out; omega
          have K0 := hd hL3
          clear hLf hP2 HL hL3
          go_wp2_with fail
          clear c1 c2 c3 d0 d1 d2 d3 d4 d5 hrb
          go_loopw [8, 9, 10] (fun vF vm vn wr => ∃ (m' : Nat) (n' : Int) (F' : List OpE), vm = .int .i64 (m' : Int) ∧ vn = .int .i64 n' ∧ Hid (L3 w0 wr (.slice a6 (on + 1) c6) vF E D eE k mm m' F F' nn n')) (fun _ vm _ _ => on + 1 - (intOf vm).toNat)
          case atStart => exact ⟨mm, nn, F, rfl, rfl, K0⟩
          case round =>
            clear K0 hBr hFl
            obtain ⟨m', n', F', rfl, rfl, HL⟩ := hrel
            have hm1 : m' ≤ on + 1 := by have := HL.out.m1; have := hOwn.out; omega
            have hFl : F'.length ≤ 4097 := by have := HL.out.m2; omega
            obtain ⟨⟨aF, cF, hvF⟩, hso⟩ := HL.out.forms
            subst hvF
            obtain ⟨⟨c1, c2, c3⟩, ⟨d0, d1, d2, d3, d4, d5⟩, hrb⟩ := CL.out wr HL.out.st.bel
            by_cases hmo : m' < on + 1
            · have hmO : m' < (ownE eE.o.cl E ++ [eE]).length := by have := hOwn.out; omega
              obtain ⟨βo, hso⟩ := hso
              obtain ⟨gO, capO, hvO, lgO, y0, y1, y2, y3, y4, y5⟩ := hso.ed hmO
              have i3 : (m' : Int) < (on : Int) + 1 := by omega
              rw [hOwn.out] at hvO
              obtain ⟨rfl, rfl⟩ : a6 = some ⟨gO, 0, none⟩ ∧ c6 = capO := by
                have e1 := Value.slice.inj hvO
                exact ⟨e1.1, e1.2.2⟩
              obtain ⟨⟨gt, ⟨gk, gp, gc, gl, gs⟩⟩, hge⟩ : ∃ g, (ownE eE.o.cl E ++ [eE])[m'] = g := ⟨_, rfl⟩
              rw [hge] at y0 y1 y2 y3 y4 y5
              simp only at y0 y1 y2 y3 y4 y5
              clear hvO hso
              by_cases htag : gt = (k : Int)
              · subst htag
                obtain ⟨mm1, mm2⟩ := mk_more (F := F') (nn := n') (k := k) hmO (by rw [hge]) (nsP D k)
                rw [hge] at mm1 mm2
                simp only at mm1 mm2
                have HMM := hd (And.intro (HL.out.mf.trans mm1) (HL.out.mn.trans mm2))
                obtain ⟨bN, oN, rfl, lN, hcN⟩ := hrb.n (by omega)
                have nk := hcN k (by have := HN.out; omega)
                have i4 : (k : Int) < (q : Int) + 1 := by omega
                have i5 : k < q + 1 := by omega
                obtain ⟨Nk, hNk⟩ : ∃ z, nsP D k = z := ⟨_, rfl⟩
                have HNB := hd (nsP_le D k)
                have HNK := hd hNk
                rw [hNk] at nk HNB
                clear mm1 mm2 hcN hrb hge hNk
                have hNB : -4096 ≤ Nk ∧ Nk ≤ 4096 := by have := HNB.out; omega
                go_wp2_with fail
                clear c1 c2 c3 d0 d1 d2 d3 d4 d5
                go_loopw [10, 12] (fun vn vi wx => ∃ (i : Nat), i ≤ F'.length ∧ vn = .int .i64 (Nk + grL (F'.take i)) ∧ vi = .int .i64 (i : Int) ∧ Hid (Below wr.heap.size wr wx)) (fun _ vi _ => F'.length - (intOf vi).toNat)
                case atStart => exact ⟨0, Nat.zero_le _, by simp [grL_nil], rfl, Below.refl _ _⟩
                case round =>
                  obtain ⟨i, hi, rfl, rfl, HBx⟩ := hrel
                  by_cases hil : i < F'.length
                  · obtain ⟨γ, hfo, -⟩ := (HL.out.st.below HBx.out).fo
                    obtain ⟨gF, oF, rfl, -, -, -, lgF, z0, z1, z2, z3, z4⟩ := hfo.nth hil
                    have hg1 := grL_take hil
                    have hg2 := grL_take_le F' i
                    have hg3 := gr_le F'[i]
                    have CLo := hd (fun W => longer_any F'[i] W)
                    obtain ⟨⟨fk, fp, fc, fl, fs⟩, hfe⟩ : ∃ f, F'[i] = f := ⟨_, rfl⟩
                    rw [hfe] at z0 z1 z2 z3 z4 hg1 hg3 CLo
                    simp only [OpE.val] at z0 z1 z2 z3 z4 CLo
                    obtain ⟨gg, hgg⟩ : ∃ z, gr ⟨fk, fp, fc, fl, fs⟩ = z := ⟨_, rfl⟩
                    obtain ⟨ga, hga⟩ : ∃ z, grL (F'.take i) = z := ⟨_, rfl⟩
                    rw [hgg] at hg1 hg3 CLo
                    rw [hga] at hg1 hg2 ⊢
                    have i6 : (i : Int) < (F'.length : Int) := by omega
                    have HG1 := hd hg1
                    have hw1 : wrap64 (Nk + ga + gg) = Nk + ga + gg := by rw [wrap64]; omega
                    clear hfo hfe hg1 hgg hga
                    go_wp2_with (go_at_call 33; refine (CLo.out _).mono ?_; rintro e1 u1 ⟨rfl, bu1⟩)
                    exact ⟨⟨i + 1, by omega, by rw [HG1.out, ← Int.add_assoc], by go_num, HBx.out.trans (bu1.mono HBx.out.size)⟩, by simp [intOf]; omega⟩
                  · obtain rfl : i = F'.length := by omega
                    have i6 : ¬ ((F'.length : Int) < (F'.length : Int)) := by omega
                    rw [List.take_length]
                    have y1 := (HBx.out.cell (p := ⟨gO, m' * 6 + 1, none⟩) lgO).trans y1
                    have y2 := (HBx.out.cell (p := ⟨gO, m' * 6 + 2, none⟩) lgO).trans y2
                    have y3 := (HBx.out.cell (p := ⟨gO, m' * 6 + 3, none⟩) lgO).trans y3
                    have y4 := (HBx.out.cell (p := ⟨gO, m' * 6 + 4, none⟩) lgO).trans y4
                    have y5 := (HBx.out.cell (p := ⟨gO, m' * 6 + 5, none⟩) lgO).trans y5
                    obtain ⟨a7, c7, w7, hap, hS7⟩ := HL.out.st.pushF HBx.out ⟨gk, gp, gc, gl, gs⟩ (by omega)
                    have NX : Hid (L3 w0 w7 (.slice (some ⟨gO, 0, none⟩) (on + 1) c6) (.slice a7 (F'.length + 1) c7) E D eE k mm (m' + 1) F (F' ++ [⟨gk, gp, gc, gl, gs⟩]) nn (Nk + grL F')) := by
                      have e1 := HNK.out
                      have e2 := HMM.out
                      refine ⟨hS7, e2.1, ?_, by have := hOwn.out; omega, by have := HL.out.m2; simp; omega⟩
                      have e3 := e2.2
                      rw [e1] at e3 ⊢
                      exact e3
                    simp only [opc] at hap
                    have hmeas : on + 1 - (m' + 1) < on + 1 - m' := by omega
                    clear hS7 HMM HL
                    go_wp2_with (at_builtin; refine wpList_append_k _ rfl _ _ 24 24 rfl _ _ rfl rfl (hap _) ?_)
                    exact ⟨⟨m' + 1, Nk + grL F', F' ++ [⟨gk, gp, gc, gl, gs⟩], by go_num, rfl, NX⟩, by simp [intOf]; omega⟩
              · obtain ⟨ms1, ms2⟩ := mk_stop (F := F') (nn := n') (k := k) (mm := m') (e := eE) (E := E) (fun ⟨h1, h2⟩ => htag (by rw [hge] at h2; exact h2)) (nsP D k)
                have htb : (gt == (k : Int)) = false := by simpa using htag
                clear hge
                have HMK := hd (HL.out.mf.trans ms1)
                have HMN := hd (HL.out.mn.trans ms2)
                have HST := hd HL.out.st
                have HM := hd (And.intro HL.out.m1 HL.out.m2)
                have hlD : Hid (D.length = E.length) := HJ.out.b.len
                have hkn : k ≤ 4096 := Nat.le_trans hkq hn96
                clear ms1 ms2 HL
                by_cases hkl : k < q
                · have hkE : k < E.length := by rw [HN.out]; exact hkl
                  have hk0 : 0 < E.length := Nat.lt_of_le_of_lt (Nat.zero_le _) hkE
                  obtain ⟨bE, oE, rfl, lE, hcE⟩ := hrb.e.2 hk0
                  obtain ⟨x0, x1, x2, x3, x4, x5⟩ := hcE k hkE
                  have i7 : (k : Int) < (q : Int) := Int.ofNat_lt.2 hkl
                  have hE3 : wrap64 ((k : Int) + 1) = ((k + 1 : Nat) : Int) := wrap_small hkn
                  have hkD : k < D.length := by rw [hlD.out]; exact hkE
                  have hm2 : q + 2 - (k + 1) < q + 2 - k := meas_lt (Nat.le_of_lt hkl)
                  have hF5 : F'.length ≤ 5000 := Nat.le_trans hFl (by decide)
                  have hcl : Hid (eE.o.cl = el) := by show _ = _; rw [HEE.out]
                  by_cases hkc : E[k].o.cl = el
                  · obtain ⟨y, Y, hY, hP3⟩ := HP2.out.own hlD.out hkE (hkc.trans hcl.out.symm) HMK.out HMN.out HM.out.1 HM.out.2
                    subst hY
                    have HP3 := hd hP3
                    obtain ⟨γ, hfo, hlo⟩ := HST.out.fo
                    simp only [List.length_cons] at hfo
                    obtain ⟨gf, off, hγ, rfl, -, hc1, hc2, hc3, t1, t2⟩ := hfo.tail
                    have NX : Hid ((cF = 1 → L2 w0 wr (.slice (some ⟨gO, 0, none⟩) (on + 1) c6) (.slice (some ⟨gf, off, none⟩) Y.length 0) E D eE (k + 1) m' n') ∧ L2 w0 wr (.slice (some ⟨gO, 0, none⟩) (on + 1) c6) (.slice (some ⟨gf, off + 5, none⟩) Y.length (cF - 1)) E D eE (k + 1) m' n') :=
                      ⟨fun h => .inl ⟨hkE, Y, ⟨HST.out.own, ⟨γ, t1 h, hlo⟩, HST.out.bel⟩, HP3.out⟩, .inl ⟨hkE, Y, ⟨HST.out.own, ⟨γ, t2, hlo⟩, HST.out.bel⟩, HP3.out⟩⟩
                    rw [hkc] at x4
                    have hlY : Y.length + 1 = (y :: Y).length := rfl
                    clear hcE hP3 hfo hlo t1 t2 HP3 HST HMK HMN HM hrb hkc
                    by_cases hcf : cF = 1
                    · subst hcf
                      obtain rfl : Y = [] := List.length_eq_zero_iff.1 (Nat.le_zero.1 (Nat.le_of_succ_le_succ hc3))
                      have N2 := hd (NX.out.1 rfl)
                      clear NX hlY
                      simp only [List.length_nil, List.length_cons] at *
                      go_wp2_with fail
                      go_quiet (fail)
                      rename_i nq
                      have NY := hd (N2.out.below (u := wr.drewN nq) (below_drewN (Below.refl _ _) _))
                      clear N2
                      go_wp2_with fail
                      exact ⟨⟨k + 1, m', n', rfl, rfl, by go_num, NY⟩, meas_done (Nat.le_of_lt hkl)⟩
                    · have N2 := hd NX.out.2
                      clear NX hlY
                      simp only [List.length_cons] at *
                      go_wp2_with fail
                      go_quiet (fail)
                      rename_i nq
                      have NY := hd (N2.out.below (u := wr.drewN nq) (below_drewN (Below.refl _ _) _))
                      clear N2
                      go_wp2_with fail
                      exact ⟨⟨k + 1, m', n', rfl, rfl, by go_num, NY⟩, meas_done (Nat.le_of_lt hkl)⟩
                  · have hP3 := HP2.out.oth hlD.out hkE (fun h => hkc (h.trans hcl.out)) HMK.out HMN.out HM.out.1 HM.out.2
                    obtain ⟨bD, oD, rfl, lD⟩ := hrb.d.addr hk0
                    have hcD := hrb.d.at k hkE hkD
                    obtain ⟨⟨dk, dp, dc, dl, ds⟩, hdk⟩ : ∃ z, D[k] = z := ⟨_, rfl⟩
                    rw [hdk] at hP3 hcD
                    obtain ⟨v0, v1, v2, v3, v4⟩ := hcD
                    simp only at v0 v1 v2 v3 v4
                    have HP3 := hd hP3
                    have CC : Hid (∀ W, Below wr.heap.size wr W → Calls Tryz.prog 38 #[.slice aF F'.length cF, .agg #[.int .i64 dk, .int .i64 dp, .int .u8 dc, .int .i64 dl, .int .i64 ds]] W fun r u => ∃ a c, r = .returned (.slice a F'.length c) ∧ L2 w0 u (.slice (some ⟨gO, 0, none⟩) (on + 1) c6) (.slice a F'.length c) E D eE (k + 1) m' n') := fun W hW => by
                      have hc := HST.out.carry rfl hF5 ⟨dk, dp, dc, dl, ds⟩ hW
                      refine hc.mono ?_
                      rintro r u ⟨a, c, hr, h1⟩
                      exact ⟨a, c, hr, .inl ⟨hkE, _, h1, HP3.out⟩⟩
                    have hce : (E[k].o.cl == el) = false := by simpa using hkc
                    obtain ⟨cc, hcc⟩ : ∃ z, E[k].o.cl = z := ⟨_, rfl⟩
                    rw [hcc] at x4 hce
                    clear hcE hP3 HP3 HST HMK HMN HM hrb hkc hcc hdk
                    go_wp2_with fail
                    go_quiet (fail)
                    rename_i nq
                    have CD := hd (CC.out (wr.drewN nq) (below_drewN (Below.refl _ _) _))
                    clear CC
                    go_wp2_with (go_at_call 38; refine CD.out.mono ?_; rintro r u8 ⟨a8, c8, rfl, h8⟩; have H8 := hd h8; clear h8)
                    exact ⟨⟨k + 1, m', n', rfl, rfl, by go_num, H8⟩, by first | exact meas_done (Nat.le_of_lt hkl) | exact meas_wrap (Nat.le_of_lt hkl) hn96⟩
                · obtain rfl : k = q := Nat.le_antisymm hkq (Nat.le_of_not_lt hkl)
                  have NX : Hid (L2 w0 wr (.slice (some ⟨gO, 0, none⟩) (on + 1) c6) (.slice aF F'.length cF) E D eE (k + 1) m' n') := by
                    have e1 := HN.out
                    subst e1
                    obtain ⟨f1, f2⟩ := HP2.out.fin hlD.out HMK.out HMN.out
                    rw [f1]
                    refine .inr ⟨rfl, ?_, f2⟩
                    rw [← f1]
                    exact HST.out
                  have i7 : ¬ ((k : Int) < (k : Int)) := Int.lt_irrefl _
                  have hE3 : wrap64 ((k : Int) + 1) = ((k + 1 : Nat) : Int) := wrap_small hkn
                  have hm2 : k + 2 - (k + 1) < k + 2 - k := meas_lt (Nat.le_refl _)
                  clear HST HMK HMN HM hrb
                  go_wp2_with fail
                  exact ⟨⟨k + 1, m', n', rfl, rfl, by go_num, NX⟩, meas_done (Nat.le_refl _)⟩
            · obtain ⟨ms1, ms2⟩ := mk_stop (F := F') (nn := n') (k := k) (mm := m') (e := eE) (E := E) (fun ⟨h1, h2⟩ => hmo (by rw [hOwn.out] at h1; exact h1)) (nsP D k)
              have i3 : ¬ ((m' : Int) < (on : Int) + 1) := fun h => hmo (Int.ofNat_lt.1 h)
              have HMK := hd (HL.out.mf.trans ms1)
              have HMN := hd (HL.out.mn.trans ms2)
              have HST := hd HL.out.st
              have HM := hd (And.intro HL.out.m1 HL.out.m2)
              have hlD : Hid (D.length = E.length) := HJ.out.b.len
              have hkn : k ≤ 4096 := Nat.le_trans hkq hn96
              clear ms1 ms2 HL
              by_cases hkl : k < q
              · have hkE : k < E.length := by rw [HN.out]; exact hkl
                have hk0 : 0 < E.length := Nat.lt_of_le_of_lt (Nat.zero_le _) hkE
                obtain ⟨bE, oE, rfl, lE, hcE⟩ := hrb.e.2 hk0
                obtain ⟨x0, x1, x2, x3, x4, x5⟩ := hcE k hkE
                have i7 : (k : Int) < (q : Int) := Int.ofNat_lt.2 hkl
                have hE3 : wrap64 ((k : Int) + 1) = ((k + 1 : Nat) : Int) := wrap_small hkn
                have hkD : k < D.length := by rw [hlD.out]; exact hkE
                have hm2 : q + 2 - (k + 1) < q + 2 - k := meas_lt (Nat.le_of_lt hkl)
                have hF5 : F'.length ≤ 5000 := Nat.le_trans hFl (by decide)
                have hcl : Hid (eE.o.cl = el) := by show _ = _; rw [HEE.out]
                by_cases hkc : E[k].o.cl = el
                · obtain ⟨y, Y, hY, hP3⟩ := HP2.out.own hlD.out hkE (hkc.trans hcl.out.symm) HMK.out HMN.out HM.out.1 HM.out.2
                  subst hY
                  have HP3 := hd hP3
                  obtain ⟨γ, hfo, hlo⟩ := HST.out.fo
                  simp only [List.length_cons] at hfo
                  obtain ⟨gf, off, hγ, rfl, -, hc1, hc2, hc3, t1, t2⟩ := hfo.tail
                  have NX : Hid ((cF = 1 → L2 w0 wr (.slice a6 (on + 1) c6) (.slice (some ⟨gf, off, none⟩) Y.length 0) E D eE (k + 1) m' n') ∧ L2 w0 wr (.slice a6 (on + 1) c6) (.slice (some ⟨gf, off + 5, none⟩) Y.length (cF - 1)) E D eE (k + 1) m' n') :=
                    ⟨fun h => .inl ⟨hkE, Y, ⟨HST.out.own, ⟨γ, t1 h, hlo⟩, HST.out.bel⟩, HP3.out⟩, .inl ⟨hkE, Y, ⟨HST.out.own, ⟨γ, t2, hlo⟩, HST.out.bel⟩, HP3.out⟩⟩
                  rw [hkc] at x4
                  have hlY : Y.length + 1 = (y :: Y).length := rfl
                  clear hcE hP3 hfo hlo t1 t2 HP3 HST HMK HMN HM hrb hkc
                  by_cases hcf : cF = 1
                  · subst hcf
                    obtain rfl : Y = [] := List.length_eq_zero_iff.1 (Nat.le_zero.1 (Nat.le_of_succ_le_succ hc3))
                    have N2 := hd (NX.out.1 rfl)
                    clear NX hlY
                    simp only [List.length_nil, List.length_cons] at *
                    go_wp2_with fail
                    go_quiet (fail)
                    rename_i nq
                    have NY := hd (N2.out.below (u := wr.drewN nq) (below_drewN (Below.refl _ _) _))
                    clear N2
                    go_wp2_with fail
                    exact ⟨⟨k + 1, m', n', rfl, rfl, by go_num, NY⟩, meas_done (Nat.le_of_lt hkl)⟩
                  · have N2 := hd NX.out.2
                    clear NX hlY
                    simp only [List.length_cons] at *
                    go_wp2_with fail
                    go_quiet (fail)
                    rename_i nq
                    have NY := hd (N2.out.below (u := wr.drewN nq) (below_drewN (Below.refl _ _) _))
                    clear N2
                    go_wp2_with fail
                    exact ⟨⟨k + 1, m', n', rfl, rfl, by go_num, NY⟩, meas_done (Nat.le_of_lt hkl)⟩
                · have hP3 := HP2.out.oth hlD.out hkE (fun h => hkc (h.trans hcl.out)) HMK.out HMN.out HM.out.1 HM.out.2
                  obtain ⟨bD, oD, rfl, lD⟩ := hrb.d.addr hk0
                  have hcD := hrb.d.at k hkE hkD
                  obtain ⟨⟨dk, dp, dc, dl, ds⟩, hdk⟩ : ∃ z, D[k] = z := ⟨_, rfl⟩
                  rw [hdk] at hP3 hcD
                  obtain ⟨v0, v1, v2, v3, v4⟩ := hcD
                  simp only at v0 v1 v2 v3 v4
                  have HP3 := hd hP3
                  have CC : Hid (∀ W, Below wr.heap.size wr W → Calls Tryz.prog 38 #[.slice aF F'.length cF, .agg #[.int .i64 dk, .int .i64 dp, .int .u8 dc, .int .i64 dl, .int .i64 ds]] W fun r u => ∃ a c, r = .returned (.slice a F'.length c) ∧ L2 w0 u (.slice a6 (on + 1) c6) (.slice a F'.length c) E D eE (k + 1) m' n') := fun W hW => by
                    have hc := HST.out.carry rfl hF5 ⟨dk, dp, dc, dl, ds⟩ hW
                    refine hc.mono ?_
                    rintro r u ⟨a, c, hr, h1⟩
                    exact ⟨a, c, hr, .inl ⟨hkE, _, h1, HP3.out⟩⟩
                  have hce : (E[k].o.cl == el) = false := by simpa using hkc
                  obtain ⟨cc, hcc⟩ : ∃ z, E[k].o.cl = z := ⟨_, rfl⟩
                  rw [hcc] at x4 hce
                  clear hcE hP3 HP3 HST HMK HMN HM hrb hkc hcc hdk
                  go_wp2_with fail
                  go_quiet (fail)
                  rename_i nq
                  have CD := hd (CC.out (wr.drewN nq) (below_drewN (Below.refl _ _) _))
                  clear CC
                  go_wp2_with (go_at_call 38; refine CD.out.mono ?_; rintro r u8 ⟨a8, c8, rfl, h8⟩; have H8 := hd h8; clear h8)
                  exact ⟨⟨k + 1, m', n', rfl, rfl, by go_num, H8⟩, by first | exact meas_done (Nat.le_of_lt hkl) | exact meas_wrap (Nat.le_of_lt hkl) hn96⟩
              · obtain rfl : k = q := Nat.le_antisymm hkq (Nat.le_of_not_lt hkl)
                have NX : Hid (L2 w0 wr (.slice a6 (on + 1) c6) (.slice aF F'.length cF) E D eE (k + 1) m' n') := by
                  have e1 := HN.out
                  subst e1
                  obtain ⟨f1, f2⟩ := HP2.out.fin hlD.out HMK.out HMN.out
                  rw [f1]
                  refine .inr ⟨rfl, ?_, f2⟩
                  rw [← f1]
                  exact HST.out
                have i7 : ¬ ((k : Int) < (k : Int)) := Int.lt_irrefl _
                have hE3 : wrap64 ((k : Int) + 1) = ((k + 1 : Nat) : Int) := wrap_small hkn
                have hm2 : k + 2 - (k + 1) < k + 2 - k := meas_lt (Nat.le_refl _)
                clear HST HMK HMN HM hrb
                go_wp2_with fail
                exact ⟨⟨k + 1, m', n', rfl, rfl, by go_num, NX⟩, meas_done (Nat.le_refl _)⟩
        · obtain ⟨hkE1, hLo, hnn⟩ := HL.out.out (by rw [HN.out]; exact hkq)
          obtain ⟨γ, hfo, -⟩ := hLo.fo
          obtain ⟨aF, cF, hvF, -⟩ := hfo.is
          subst hvF
          obtain ⟨gf, off, rfl, -, -, -, lgf, z0, z1, z2, z3, z4⟩ := hfo.nth (i := 0) (by simp)
          have i2 : ¬ ((k : Int) ≤ (q : Int)) := fun h => hkq (Int.ofNat_le.1 h)
          obtain ⟨⟨c1, c2, c3⟩, -, -⟩ := CL.out _ hLo.bel
          simp only [List.getElem_cons_zero] at z0 z1 z2 z3 z4
          obtain ⟨⟨dk, dp, dc, dl, ds⟩, hdn⟩ : ∃ z, dnP E D eE = z := ⟨_, rfl⟩
          rw [hdn] at z0 z1 z2 z3 z4
          simp only [Nat.zero_mul, Nat.add_zero] at z0 z1 z2 z3 z4
          have hob := (hLo.bel.block _ (block_lt HB2.out)).trans HB2.out
          have lrb := block_lt HB2.out
          have ZR : Hid ((dnP E D ⟨et, ⟨ek, ep, ec, el, es⟩⟩).val = .agg #[.int .i64 dk, .int .i64 dp, .int .u8 dc, .int .i64 dl, .int .i64 ds] ∧ lnP E D ⟨et, ⟨ek, ep, ec, el, es⟩⟩ = nn) := by
            rw [← HEE.out, hdn, hnn]
            exact ⟨rfl, rfl⟩
          obtain ⟨⟨s0, s1, s2, s3, s4⟩, ⟨g0, g1, g2, g3, g4⟩⟩ := opCells hob
          have ZB : Hid (Below w.heap.size w (set5 wr (w.heap.size + 1) 0 dk dp dc dl ds)) := by
            have h1 := HB.out.trans (hLo.bel.mono HB.out.size)
            exact h1.trans ((Fr.set5 wr (w.heap.size + 1) 0 dk dp dc dl ds).below h1.size (fun j hj => by rw [hj]; exact Nat.le_succ _))
          have hrow : Hid ((loadVar 46 ⟨w.heap.size + 1, 0, none⟩).run Tryz.prog (set5 wr (w.heap.size + 1) 0 dk dp dc dl ds) = .ok (.agg #[.int .i64 dk, .int .i64 dp, .int .u8 dc, .int .i64 dl, .int .i64 ds]) (set5 wr (w.heap.size + 1) 0 dk dp dc dl ds)) :=
            run_loadVar_row _ (w.heap.size + 1) 46 46 _ (0, 0) _ (set5_op (x := zop) hob dk dp dc dl ds) Tryz.underlying46 rfl (by kernel_rfl)
          clear hfo hLo hnn hdn HL hob
          go_wp2_with fail
          refine bodyPost_ret (v := .tuple #[.agg #[.int .i64 dk, .int .i64 dp, .int .u8 dc, .int .i64 dl, .int .i64 ds], .int .i64 nn]) ?_ rfl ⟨by rw [ZR.out.1, ZR.out.2], ZB.out⟩
          exact results_op_tmp (fn := Tryz.f30) (p := 4) (u := 5) rfl _ _ (w.heap.size + 1) _ rfl hrow.out
end

end Go.Proofs.YtilidolbplglcaaGreatDoor
