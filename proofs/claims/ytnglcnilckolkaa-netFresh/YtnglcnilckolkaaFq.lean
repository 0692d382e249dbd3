/-
  NetFresh: what the parts of its walk share.
-/
import Derived.Test.YtnglcnilckolkaaGj
import Derived.Test.YtnglcnilckolkaaFlips
import Derived.Deep.DeepCutAuto
import Derived.Deep.CutBlock
import Derived.Test.YtnglcnilckolkaaRv
import Derived.Test.YtnglcnilckolkaaRw
import Derived.Test.YtnglcnilckolkaaRx
namespace Go.Proofs.Ytnglcnilckolkaa
open Go.RowKit
set_option linter.unusedVariables false

def regOf : Code → Option Nat
  | .region n _ _ => some n
  | .seq a _ => regOf a
  | _ => none
def restAt (n : Nat) : Code → Option Code
  | .seq a b => if regOf a = some n then some (.seq a b) else restAt n b
  | _ => none
noncomputable def fresh3 : Code := (Try.f6.body.bind (restAt 3)).getD .skip
noncomputable def fresh31 : Code := (Try.f6.body.bind (restAt 31)).getD .skip
noncomputable def fresh42 : Code := (Try.f6.body.bind (restAt 42)).getD .skip

def g3 (b : List Int) : List DG := [⟨0, 1, b, false⟩, ⟨0, 1, b, false⟩, ⟨2, 0, b, false⟩]
def gy (b : List Int) : List DG := [⟨2, 0, b, false⟩]
/-- The three datagrams of want. -/
def wt (a : Option Addr) (c : Nat) (b : List Int) : List It := [⟨⟨0, 1, b, false⟩, a, c, none⟩, ⟨⟨0, 1, b, false⟩, a, c, none⟩, ⟨⟨2, 0, b, false⟩, a, c, none⟩]
theorem wt_isG {w : World} {gw : Nat} {a : Option Addr} {n c : Nat} {b : List Int} (hr : w.heap[gw]? = some (.cells #[.int .i64 0, .int .i64 1, .slice a n c, .bool false, .int .i64 0, .int .i64 1, .slice a n c, .bool false, .int .i64 2, .int .i64 0, .slice a n c, .bool false] 37 (0, 0))) (hl : b.length = n) (hb : IsB w a n c b) : IsG w (some ⟨gw, 0, none⟩) 3 3 (wt a c b) := by
  refine ⟨⟨rfl, Nat.le_refl _, by omega, fun _ => ⟨gw, 0, rfl, block_lt hr, fun j v hj => ?_⟩⟩, fun z hz => ?_⟩
  · rw [Nat.zero_add, cell_row hr, ← hj]
    simp [cO, opc, hl, wt]
  · simp only [wt, List.mem_cons, List.not_mem_nil, or_false] at hz
    rcases hz with rfl | rfl | rfl
    all_goals
      show IsB w a b.length c b
      rw [hl]
      exact hb

theorem list3 {L : List It} (h : L.length = 3) : ∃ z0 z1 z2, L = [z0, z1, z2] := by
  match L, h with
  | [z0, z1, z2], _ => exact ⟨z0, z1, z2, rfl⟩
/-- A list of three datagrams as its row and the rows of their bytes. -/
structure L3 (w : World) (lo hi g C : Nat) (b : List Int) (z0 z1 z2 : It) : Prop where
  row : RowO w g 3 C [z0, z1, z2]
  at_ : lo ≤ g ∧ g < hi
  v0 : z0.a = at0 z0.γ ∧ TR w z0.γ z0.c b ∧ z0.d.b = b ∧ ∀ q, z0.γ = some q → lo ≤ q ∧ q < hi
  v1 : z1.a = at0 z1.γ ∧ TR w z1.γ z1.c b ∧ z1.d.b = b ∧ ∀ q, z1.γ = some q → lo ≤ q ∧ q < hi
  v2 : z2.a = at0 z2.γ ∧ TR w z2.γ z2.c b ∧ z2.d.b = b ∧ ∀ q, z2.γ = some q → lo ≤ q ∧ q < hi
  s01 : ∀ q, z0.γ = some q → z1.γ ≠ some q
  s02 : ∀ q, z0.γ = some q → z2.γ ≠ some q
  s12 : ∀ q, z1.γ = some q → z2.γ ≠ some q
  n0 : z0.γ ≠ some g
  n1 : z1.γ ≠ some g
  n2 : z2.γ ≠ some g
theorem three_of {w : World} {E : Ent} {A : Option Addr} {C : Nat} {b : List Int} (h : FE w E) (hv : E.v = .slice A 3 C) (hd : E.L.map It.d = g3 b) : ∃ g z0 z1 z2, A = some ⟨g, 0, none⟩ ∧ E.L = [z0, z1, z2] ∧ L3 w E.lo E.hi g C b z0 z1 z2 := by
  have hlen : E.L.length = 3 := len_of hd rfl
  obtain ⟨z0, z1, z2, hL⟩ := list3 hlen
  have hso := h.so
  have hat := h.at_
  have hrows := h.rows
  have hsep := h.sep
  unfold Ent.v at hv hso
  cases hβ : E.β with
  | none =>
    rw [hβ] at hso
    have := hso.2
    rw [hL] at this
    cases this
  | some g =>
    rw [hβ] at hso hv
    obtain ⟨cap, e, hR⟩ := hso
    injection hv with e1 e2 e3
    injection e with f1 f2 f3
    rw [hlen, hL, ← f3, e3] at hR
    rw [hL] at hrows hsep hd
    have hb : ∀ z ∈ [z0, z1, z2], z.d.b = b := fun z hz => by
      have : z.d ∈ g3 b := by rw [← hd]; exact List.mem_map_of_mem hz
      simp only [g3, List.mem_cons, List.not_mem_nil, or_false] at this
      rcases this with h | h | h <;> rw [h]
    have hz : ∀ z ∈ [z0, z1, z2], z.a = at0 z.γ ∧ TR w z.γ z.c b ∧ z.d.b = b ∧ ∀ q, z.γ = some q → E.lo ≤ q ∧ q < E.hi := fun z hz => by
      obtain ⟨t1, t2⟩ := It.tr (hrows z hz).1
      rw [hb z hz] at t2
      exact ⟨t1, t2, hb z hz, (hrows z hz).2⟩
    have hty : ∀ z ∈ [z0, z1, z2], z.γ ≠ some g := fun z hz' e => by
      obtain ⟨cur, hh⟩ := (hz z hz').2.1.ty g e
      obtain ⟨cur2, hh2, -⟩ := hR
      exact ne_ty hh hh2 (by decide) rfl
    simp only [List.pairwise_cons, List.mem_cons, List.not_mem_nil, or_false, forall_eq_or_imp, forall_eq] at hsep
    refine ⟨g, z0, z1, z2, e1.symm, hL, ⟨hR, hat g hβ, hz z0 (by simp), hz z1 (by simp), hz z2 (by simp), hsep.1.1, hsep.1.2, hsep.2.1, hty z0 (by simp), hty z1 (by simp), hty z2 (by simp)⟩⟩


def agD (d : DG) (A : Option Addr) (c : Nat) : Value := .agg #[.int .i64 d.f, .int .i64 d.t, .slice A d.b.length c, .bool d.s]
structure CellsD (u : World) (g o : Nat) (d : DG) (A : Option Addr) (c : Nat) : Prop where
  c0 : u.cell? ⟨g, o, none⟩ = some (.int .i64 d.f)
  c1 : u.cell? ⟨g, o + 1, none⟩ = some (.int .i64 d.t)
  c2 : u.cell? ⟨g, o + 2, none⟩ = some (.slice A d.b.length c)
  c3 : u.cell? ⟨g, o + 3, none⟩ = some (.bool d.s)
  lt : g < u.heap.size
  hb : IsB u A d.b.length c d.b
theorem IsG.cellsD {u : World} {g n C : Nat} {L : List It} (h : IsG u (some ⟨g, 0, none⟩) n C L) (k : Nat) (hk : k < n) {d : DG} (hd : (L.map It.d)[k]? = some d) : ∃ A c, CellsD u g (k * 4) d A c := by
  have hl : k < L.length := by rw [h.1.1]; exact hk
  obtain ⟨h0, h1, h2, h3⟩ := h.1.at k hk hl
  have e : L[k].d = d := by
    rw [List.getElem?_map, List.getElem?_eq_getElem hl] at hd
    exact Option.some.inj hd
  obtain ⟨b', off', e', hlt⟩ := h.1.addr (by omega)
  have e2 := Option.some.inj e'
  simp at e2
  obtain ⟨rfl, -⟩ := e2
  simp only [Nat.zero_add] at h0 h1 h2 h3
  have hB := h.2 L[k] (List.getElem_mem hl)
  rw [e] at h0 h1 h2 h3 hB
  exact ⟨L[k].a, L[k].c, h0, h1, h2, h3, hlt, hB⟩
theorem alike_calls {u : World} {d : DG} {A A' : Option Addr} {c c' : Nat} (h : IsB u A d.b.length c d.b) (h' : IsB u A' d.b.length c' d.b) (U : World) (hU : Below u.heap.size u U) :
    Calls Try.prog 18 #[.agg #[.int .i64 d.f, .int .i64 d.t, .slice A d.b.length c, .bool d.s], .agg #[.int .i64 d.f, .int .i64 d.t, .slice A' d.b.length c', .bool d.s]] U fun e w' => e = .returned (.bool true) ∧ Below u.heap.size u w' :=
  (alike_true d A A' c c' U (h.below hU) (h'.below hU)).mono (fun e w' h => ⟨h.1, hU.trans (h.2.mono hU.size)⟩)
theorem wt_map (a : Option Addr) (c : Nat) (b : List Int) : (wt a c b).map It.d = g3 b := rfl
theorem g3_at (b : List Int) (k : Nat) (hk : k < 3) : ∃ d, (g3 b)[k]? = some d ∧ (g3 b).getD k zDG = d ∧ d.b = b := by
  have : k = 0 ∨ k = 1 ∨ k = 2 := by omega
  rcases this with rfl | rfl | rfl <;> exact ⟨_, rfl, rfl, rfl⟩
theorem g3_rest (b : List Int) (k3 k : Nat) (h3 : k3 < 3) (hk : k < 2) : ∃ d, (without (g3 b) k3)[k]? = some d ∧ (g3 b)[if k3 ≤ k then k + 1 else k]? = some d ∧ d.b = b := by
  have e1 : k3 = 0 ∨ k3 = 1 ∨ k3 = 2 := by omega
  have e2 : k = 0 ∨ k = 1 := by omega
  rcases e1 with rfl | rfl | rfl <;> rcases e2 with rfl | rfl <;> exact ⟨_, rfl, rfl, rfl⟩
theorem into_lt (x : Int) : intoP x 3 < 3 := by
  have b1 : x.tmod ((3 : Nat) : Int) < 3 := Int.tmod_lt_of_pos _ (by omega)
  have b2 : -((3 : Nat) : Int) < x.tmod ((3 : Nat) : Int) := Int.lt_tmod_of_pos x (by omega)
  unfold intoP
  split <;> omega

/-- What stands at the end: nothing is written any more. -/
structure FZ (u : World) (a : Option Addr) (n c : Nat) (b : List Int) (k3 gw g1 : Nat) (A2 : Option Addr) (C2 go gp gq gv db : Nat) (s0 s1 s2 sd : Option Nat) (c0 c1 c2 cd gr3 C3 gz C4 : Nat) : Prop where
  hb : IsB u a n c b
  wan : IsG u (some ⟨gw, 0, none⟩) 3 3 (wt a c b)
  rest : ∃ L, IsG u (some ⟨gr3, 0, none⟩) 2 C3 L ∧ L.map It.d = without (g3 b) k3
  zed : ∃ L, IsG u (some ⟨gz, 0, none⟩) 1 C4 L ∧ L.map It.d = gy b
  uu : ∃ L, IsG u A2 3 C2 L ∧ L.map It.d = g3 b
  vv : u.cell? ⟨gv, 12, none⟩ = some (.int .i64 8)
  f0 : u.cell? ⟨g1, 0, none⟩ = some (.int .i64 9)
  t0 : u.cell? ⟨g1, 3, none⟩ = some (.bool true)
  p0 : u.cell? ⟨g1, 2, none⟩ = some (.slice (at0 s0) n c0)
  f1 : u.cell? ⟨g1, 4, none⟩ = some (.int .i64 9)
  t1 : u.cell? ⟨g1, 7, none⟩ = some (.bool true)
  p1 : u.cell? ⟨g1, 6, none⟩ = some (.slice (at0 s1) n c1)
  f2 : u.cell? ⟨g1, 8, none⟩ = some (.int .i64 9)
  t2 : u.cell? ⟨g1, 11, none⟩ = some (.bool true)
  p2 : u.cell? ⟨g1, 10, none⟩ = some (.slice (at0 s2) n c2)
  oo : u.cell? ⟨go, n, none⟩ = some (.int .u8 209)
  pp : u.cell? ⟨gp, n, none⟩ = some (.int .u8 210)
  qq : u.cell? ⟨gq, n, none⟩ = some (.int .u8 211)
  x0 : IsB u (at0 s0) n c0 (List.replicate n 193)
  x1 : IsB u (at0 s1) n c1 (List.replicate n 194)
  x2 : IsB u (at0 s2) n c2 (List.replicate n 195)
  dd : u.cell? ⟨db, 2, none⟩ = some (.slice (at0 sd) n cd)
  xd : IsB u (at0 sd) n cd (List.replicate n 177)
  lv : gv < u.heap.size
  l1 : g1 < u.heap.size
  lo : go < u.heap.size
  lp : gp < u.heap.size
  lq : gq < u.heap.size
  ld : db < u.heap.size
theorem FZ.below {u u' : World} {a : Option Addr} {n c : Nat} {b : List Int} {k3 gw g1 : Nat} {A2 : Option Addr} {C2 go gp gq gv db : Nat} {s0 s1 s2 sd : Option Nat} {c0 c1 c2 cd gr3 C3 gz C4 : Nat} (h : FZ u a n c b k3 gw g1 A2 C2 go gp gq gv db s0 s1 s2 sd c0 c1 c2 cd gr3 C3 gz C4) (hb : Below u.heap.size u u') : FZ u' a n c b k3 gw g1 A2 C2 go gp gq gv db s0 s1 s2 sd c0 c1 c2 cd gr3 C3 gz C4 := by
  have hs := hb.size
  refine ⟨h.hb.below hb, h.wan.below hb, ?_, ?_, ?_, (hb.cell (p := ⟨gv, 12, none⟩) h.lv).trans h.vv, (hb.cell (p := ⟨g1, 0, none⟩) h.l1).trans h.f0, (hb.cell (p := ⟨g1, 3, none⟩) h.l1).trans h.t0, (hb.cell (p := ⟨g1, 2, none⟩) h.l1).trans h.p0,
    (hb.cell (p := ⟨g1, 4, none⟩) h.l1).trans h.f1, (hb.cell (p := ⟨g1, 7, none⟩) h.l1).trans h.t1, (hb.cell (p := ⟨g1, 6, none⟩) h.l1).trans h.p1, (hb.cell (p := ⟨g1, 8, none⟩) h.l1).trans h.f2, (hb.cell (p := ⟨g1, 11, none⟩) h.l1).trans h.t2, (hb.cell (p := ⟨g1, 10, none⟩) h.l1).trans h.p2,
    (hb.cell (p := ⟨go, n, none⟩) h.lo).trans h.oo, (hb.cell (p := ⟨gp, n, none⟩) h.lp).trans h.pp, (hb.cell (p := ⟨gq, n, none⟩) h.lq).trans h.qq, h.x0.below hb, h.x1.below hb, h.x2.below hb, (hb.cell (p := ⟨db, 2, none⟩) h.ld).trans h.dd, h.xd.below hb, ?_, ?_, ?_, ?_, ?_, ?_⟩
  · obtain ⟨L, h1, h2⟩ := h.rest
    exact ⟨L, h1.below hb, h2⟩
  · obtain ⟨L, h1, h2⟩ := h.zed
    exact ⟨L, h1.below hb, h2⟩
  · obtain ⟨L, h1, h2⟩ := h.uu
    exact ⟨L, h1.below hb, h2⟩
  · exact Nat.lt_of_lt_of_le h.lv hs
  · exact Nat.lt_of_lt_of_le h.l1 hs
  · exact Nat.lt_of_lt_of_le h.lo hs
  · exact Nat.lt_of_lt_of_le h.lp hs
  · exact Nat.lt_of_lt_of_le h.lq hs
  · exact Nat.lt_of_lt_of_le h.ld hs
theorem at0_row {u : World} {γ : Option Nat} {n c : Nat} {m : Int} (h : IsB u (at0 γ) n c (List.replicate n m)) (hn : 0 < n) : ∃ g, γ = some g ∧ ∀ k, k < n → u.cell? ⟨g, k, none⟩ = some (.int .u8 m) := by
  obtain ⟨b, off, e, hlt, hc⟩ := h.2.2.2 hn
  cases γ with
  | none => cases e
  | some g =>
    have e1 := Option.some.inj e
    simp at e1
    obtain ⟨rfl, rfl⟩ := e1
    refine ⟨g, rfl, fun k hk => ?_⟩
    have := hc k hk
    rw [Nat.zero_add] at this
    rw [this]
    simp [List.getD_eq_getElem?_getD, hk]

end Go.Proofs.Ytnglcnilckolkaa
