/-
  Texts put together: Od Og Oe Of Pa.
-/
import Derived.Test.YtfhghijefjhehaaGreatDoorMLm
import Derived.LoopNIn
import Derived.LoopIn
import Derived.Shelf.Abstract
import Derived.Sort.CutIn
import Derived.Sort.QuietIn
import Derived.Stop.RegionWithIn
import Derived.Test.YtfhghijefjhehaaGreatDoorMIm
/-! Od -/
namespace Go.Proofs.YtfhghijefjhehaaGreatDoor
open Go.RowKit Go.Shelf
set_option linter.unusedVariables false
attribute [local go_sem] Oper.semAt_some

theorem least {p : Nat → Prop} (h : ∃ k, p k) : ∃ k, p k ∧ ∀ j, p j → k ≤ j := by
  obtain ⟨k, hk⟩ := h
  induction k using Nat.strongRecOn with
  | _ k ih =>
    by_cases h : ∃ j, j < k ∧ p j
    · obtain ⟨j, h1, h2⟩ := h
      exact ih j h1 h2
    · exact ⟨k, hk, fun j hj => by
        by_cases hlt : j < k
        · exact absurd ⟨j, hlt, hj⟩ h
        · omega⟩
open Classical in
/-- How many rounds are left at most. -/
noncomputable def rk (I : Nat → World → Prop) (W : World) : Nat := if h : ∃ k, I k W then Classical.choose (least h) else 0
theorem rk_spec {I : Nat → World → Prop} {W : World} (h : ∃ k, I k W) : I (rk I W) W ∧ ∀ j, I j W → rk I W ≤ j := by
  unfold rk
  rw [dif_pos h]
  exact Classical.choose_spec (least h)

theorem LB.fri {l D B0 : Nat} {r : Loop} {W W' : World} (h : LB l D r W) (hF : FrI B0 W W') : LB l D r W' :=
  ⟨Fr.keeps hF h.1 (fun hs => by obtain ⟨-, cs, t, h2, -⟩ := hs; rw [h.1] at h2; cases h2), Fr.keeps hF h.2 (fun hs => by obtain ⟨-, cs, t, h2, -⟩ := hs; rw [h.2] at h2; cases h2)⟩

section
variable {done : List OpE} {id : Int} {k : Wk}
theorem not_due (h : k.due = false) : ¬ (k.still.head?.map (·.tag)) = some (k.hav : Int) := by
  intro e
  unfold Wk.due at h
  rw [e] at h
  simp at h
theorem way_due2 (h : k.due = true) : wayW apE done id k = (k.mk1 apE).view :: wayW apE done id (k.mk1 apE) := by
  obtain ⟨x, l, hs, ht⟩ := due_cons h
  exact way_due hs ht
theorem way_take2 {o : OpE} (h : k.due = false) (ho : done[k.hav]? = some o) : wayW apE done id k = (k.take apE o (o.cl == id)).view :: wayW apE done id (k.take apE o (o.cl == id)) := by
  have hl : k.hav < done.length := (List.getElem?_eq_some_iff.1 ho).1
  have e1 : (k.take apE o (o.cl == id)).still = k.still ∧ (k.take apE o (o.cl == id)).hav = k.hav + 1 := by unfold Wk.take; split <;> exact ⟨rfl, rfl⟩
  have e : k.still.length + (done.length - k.hav) = ((k.take apE o (o.cl == id)).still.length + (done.length - (k.take apE o (o.cl == id)).hav)) + 1 := by rw [e1.1, e1.2]; omega
  unfold wayW
  rw [e, wayF, if_neg (not_due h), ho]
theorem way_end2 (h : k.due = false) (ho : done.length ≤ k.hav) : wayW apE done id k = [] := by
  unfold wayW
  cases hm : k.still.length + (done.length - k.hav) with
  | zero => rfl
  | succ n => rw [wayF, if_neg (not_due h), List.getElem?_eq_none ho]
end

/-- The walker is on client c's path. -/
def OnW (log : List Ed) (E : Nat → List Ed) (c : Nat) (k : Wk) : Prop := k.hav ≤ log.length ∧ k.all apE = ((stW apE log E k.hav).1 c).all apE
section
variable {log : List Ed} {E : Nat → List Ed} {c C : Nat} {k : Wk}
theorem OnW.mk1 (h : OnW log E c k) (hd' : k.due = true) : OnW log E c (k.mk1 apE) := by
  obtain ⟨x, l, hs, -⟩ := due_cons hd'
  obtain ⟨-, m2, -⟩ := mk1_still (ap := apE) hs
  unfold OnW
  rw [m2, all_due hd']
  exact h
theorem OnW.take (hP : PF C log E) (h : OnW log E c k) (hd' : k.due = false) (hl : k.hav < log.length) : ((opK apE log E k.hav).cl = (c : Int) → k.forms ≠ []) ∧ OnW log E c (k.take apE (opK apE log E k.hav) ((opK apE log E k.hav).cl == (c : Int))) := by
  have e1 : k = ((stW apE log E k.hav).1 c).all apE := (all_idle hd').symm.trans h.2
  obtain ⟨o1, l, o2⟩ := hP.op k.hav hl
  have hcl := hP.cl k.hav hl
  refine ⟨fun hc => ?_, ?_⟩
  · have e2 : log[k.hav].o.cl.toNat = c := by omega
    rw [e2, ← e1] at o2
    rw [o2]
    simp
  · have e3 : ((opK apE log E k.hav).cl == (c : Int)) = (c == log[k.hav].o.cl.toNat) := by
      rw [o1, Bool.eq_iff_iff]
      simp
      omega
    have e4 : k.take apE (opK apE log E k.hav) ((opK apE log E k.hav).cl == (c : Int)) = (stW apE log E (k.hav + 1)).1 c := by
      rw [stW_succ hl, e3]
      simp only [← e1]
    have e5 : (k.take apE (opK apE log E k.hav) ((opK apE log E k.hav).cl == (c : Int))).hav = k.hav + 1 := by unfold Wk.take; split <;> rfl
    refine ⟨by rw [e5]; omega, ?_⟩
    rw [e5, e4]
end

/-- Between two rounds. -/
def SI (l D : Nat) (r : Loop) (Cp : List PV → World → Prop) (B0 xh ob bp xt : Nat) (γ βd : Option Nat) (vd : Value) (log : List Ed) (E : Nat → List Ed) (c : Nat) (T : List Vw) (m : Nat) (vt : Value) (W : World) : Prop :=
  ∃ x : Sy, vt = x.vt ∧ It B0 xh ob bp xt γ βd vd (stW apE log E log.length).2 (c : Int) x x.k.text W ∧ Cp x.pre W ∧ LB l D r W ∧ OnW log E c x.k ∧ x.pre.map PV.view ++ (x.k.view :: wayW apE (stW apE log E log.length).2 (c : Int) x.k) = T ∧ m = x.k.still.length + (log.length - x.k.hav)

section
variable {W1 : World} {xt : Nat} {C : Int} {vL vE : Value} {S : Nat → Ls} {L : Nat → Option Nat} {log : List Ed} {E : Nat → List Ed} {Cn c : Nat} {ds0 : List Dd} {bp : Nat} {βd : Option Nat} {vd : Value}
/-- The iterator begins. -/
theorem It.begin {w2 w3 : World} (hT : TL W1 xt C vL vE S L) (hc : c < 65) (hE : ds0.map (·.e) = E c) (hP : PF Cn log E) (hbp : W1.heap[bp]? = some (.cells #[.pointer (some ⟨xt, 0, none⟩), vd] 65 (0, 0))) (hdn : FO W1 βd vd (stW apE log E log.length).2) (hTb : Table W1)
    (h2 : HD w2 W1.heap.size none (L (130 + c)) (c : Int) ds0 0 0 [] 0) (b2 : Below W1.heap.size W1 w2) (h3 : w3 = w2.alloc (.cells #[.int .i64 0, .int .i64 0, .int .u8 0, .int .i64 0, .int .i64 0] 69)) :
    It W1.heap.size W1.heap.size w2.heap.size bp xt (L (130 + c)) βd vd (stW apE log E log.length).2 (c : Int) ⟨⟨0, 0, 0, 0, 0⟩, .slice none 0 0, wk0 ds0, none, ds0, []⟩ [] w3 ∧ OnW log E c (wk0 ds0) ∧ FrI W1.heap.size W1 w3 := by
  have b3 : Below w2.heap.size w2 w3 := by rw [h3]; exact (Below.refl _ _).alloc (Nat.le_refl _) _
  have b13 : Below W1.heap.size W1 w3 := b2.trans (b3.mono b2.size)
  have e0 : wk0 ds0 = (stW apE log E 0).1 c := by simp only [wk0, stW]; rw [hE]
  refine ⟨⟨(HK.new h2).below b3, by rw [h3]; exact heap_alloc_new w2 _, ⟨none, rfl, rfl⟩, (b13.block _ (block_lt hbp)).trans hbp, hdn.fr (Fr.of_below (S := fun _ => False) b13) (fun _ _ h => h), hTb.below b13 hTb.1, Nat.le_refl _, b2.size, fun g hg => (by cases hg), fun g hg => hT.old (by omega) hg, fun g hg => hdn.lt g hg, block_lt hbp, hTb.1, b13.size, ?_, by simp [wk0]⟩, ⟨Nat.zero_le _, ?_⟩, FrI.of_below b13⟩
  · show GW (wk0 ds0)
    rw [e0]
    exact hP.gw 0 c
  · show (wk0 ds0).all apE = ((stW apE log E 0).1 c).all apE
    rw [e0]
end

end Go.Proofs.YtfhghijefjhehaaGreatDoor

/-! Og -/
namespace Go.Proofs.YtfhghijefjhehaaGreatDoor
open Go.RowKit
set_option linter.unusedVariables false

theorem rcs_zero {C : Int} {nL nE : Nat} {log : List Ed} {evs : List Ev} {p : Int} (hl : log.length = nL) (he : evs.length = nE) (h : RCs C nL nE log evs 0 p) : (1 ≤ C ∧ C ≤ 64) ∧ log.length ≤ 4096 ∧ GL C log log.length ∧ GE C log evs evs.length ∧ (∀ (j : Nat) (x : Ed), log[j]? = some x → x.o.sq ≤ (dn evs evs.length x.o.cl : Int)) ∧ p = -1 := by
  rcases h with ⟨-, h, -⟩ | ⟨-, -, h, -⟩ | ⟨-, -, k, -, -, -, h, -⟩ | ⟨-, -, -, i, -, -, -, h, -⟩ | ⟨-, -, -, -, k, -, -, -, h, -⟩ | ⟨a, b, g, ge, g1, -, hp⟩
  · omega
  · omega
  · omega
  · omega
  · omega
  · have gl : GL C log log.length := by rw [hl]; exact glD g
    have gr : GEr C log evs evs.length := by rw [he]; exact ge
    exact ⟨a, by omega, gl, gR_E gl gr, fun j x hx => (mk_iff gl gr hx).1 (g1 j x hx), hp⟩

theorem ro_split {C : Int} {aL aE : Option Addr} {nL cL nE cE : Nat} {log : List Ed} {evs : List Ev} {D : Nat → List El} {w w' : World} {e : Ending} (hl : log.length = nL) (he : evs.length = nE) (h1 : RO C aL aE nL cL nE cE log evs D w e w') :
    ∃ v ev, e = .returned (.tuple #[v, ev]) ∧ Below w.heap.size w w' ∧ ((∃ c p, RCs C nL nE log evs c p ∧ IsF w' ev p c ∧ c ≠ 0) ∨ (RCs C nL nE log evs 0 (-1) ∧ ev = .nilIface ∧ ∃ x L, v = .pointer (some ⟨x, 0, none⟩) ∧ w.heap.size ≤ x ∧ TL w' x C (.slice aL nL cL) (.slice aE nE cE) (S2 log evs D nE) L)) := by
  obtain ⟨v', ev', c, p, e', hB', hR, hF⟩ := ro_rcs hl he h1
  obtain ⟨v, ev, e0, hB, h1⟩ := h1
  obtain ⟨rfl, rfl⟩ : v = v' ∧ ev = ev' := by
    have := e0.symm.trans e'
    simpa using this
  refine ⟨v, ev, e0, hB, ?_⟩
  rcases hF with ⟨f1, f2⟩ | ⟨rfl, rfl, rfl⟩
  · exact .inl ⟨c, p, hR, f1, f2⟩
  · right
    have no : ∀ p c, ¬ IsF w' .nilIface p c := fun p c ⟨b, h, _⟩ => by cases h
    rcases h1 with ⟨a, h1⟩ | ⟨a, b, h1⟩ | ⟨a, b, k, hk, g1, g2, h1⟩ | ⟨a, b, g, i, hi, g1, g2, h1⟩ | ⟨a, b, g, ge, k, hk, g1, g2, h1⟩ | ⟨a, b, g, ge, g1, -, x, L, h3, h4, h5⟩
    · exact absurd h1 (no _ _)
    · exact absurd h1 (no _ _)
    · exact absurd h1 (no _ _)
    · exact absurd h1 (no _ _)
    · exact absurd h1 (no _ _)
    · exact ⟨hR, rfl, x, L, h3, h4, h5⟩


/-- What paths want of a history that can be. -/
theorem pf_of {C : Nat} {log : List Ed} {evs : List Ev} {D : Nat → List El} (hg : GL (C : Int) log log.length) (hE : GE (C : Int) log evs evs.length) (hall : ∀ (j : Nat) (x : Ed), log[j]? = some x → x.o.sq ≤ (dn evs evs.length x.o.cl : Int)) (hce : ∀ j (h : j < evs.length), 0 ≤ evs[j].o.ch ∧ evs[j].o.ch ≤ 255) : PF C log (edW evs D) := by
  have hf : ∀ a x, a < evs.length → evs[a]? = some x → FactE evs log a x := fun a x ha hx => ((gE_R hg hE) a x ha hx).fact
  have one : ∀ (c q : Nat) (d : Dd), (ddAt evs D evs.length (c : Int))[q]? = some d → okC d.e.o ∧ d.e.o.sq = (q : Int) + 1 := fun c q d hd' => by
    obtain ⟨j, e, h1, h2, h3, h4, h5, rfl⟩ := dd_of _ hd'
    obtain ⟨m1, m2, m3⟩ := ev_made (hE.mono (show j + 1 ≤ _ by omega)) (fun a z ha => hf a z (by omega)) h2 h4
    obtain ⟨-, -, hh⟩ := hE j e h1 h2
    have hch : chP e.o = true := by
      rcases hh with ⟨-, -, h3⟩ | ⟨h1, -, ⟨h2, -⟩, h4, h5, -⟩ | ⟨-, h2, -⟩
      · exact absurd h3 h4
      · exact h4
      · exact absurd h2 h4
    have hr := chP_range hch
    have hc := hce j h1
    have he : evs[j] = e := by
      rw [List.getElem?_eq_getElem h1] at h2
      exact Option.some.inj h2
    rw [he] at hc
    refine ⟨⟨hc, hr⟩, ?_⟩
    show e.o.sq = _
    rw [m3, h3, h5]
  have gw0 : ∀ c, GW ⟨edW evs D c, [], [], 0, 0⟩ := fun c => by
    refine ⟨?_, Nat.le_refl _, fun x hx => ?_, fun x hx => (by cases hx)⟩
    · show 0 + (edW evs D c).length ≤ 64
      unfold edW
      rw [List.length_map, Nat.zero_add]
      by_cases h : (ddAt evs D evs.length (c : Int)).length ≤ 64
      · exact h
      · obtain ⟨h1, h2⟩ := one c 64 _ (List.getElem?_eq_getElem (show 64 < _ by omega))
        have := h1.2.2.2.2
        omega
    · obtain ⟨d, hd', rfl⟩ := List.mem_map.1 hx
      obtain ⟨q, hq⟩ := List.mem_iff_getElem?.1 hd'
      exact (one c q d hq).1
  refine ⟨gw_stW gw0, fun k hk => opK_cl hg hE hf hall hk, fun k c hk => ((stW_bf (ap := apE) (D := D) hg hE hf hall k hk).1 c).hav, fun k hk => ?_, fun k hk => (stW_bf (ap := apE) (D := D) hg hE hf hall k hk).2⟩
  obtain ⟨c1, c2, -⟩ := hg k _ hk (List.getElem?_eq_getElem hk)
  exact ⟨(chP_range c1).1, c2⟩
theorem facts_of {C : Int} {log : List Ed} {evs : List Ev} (hg : GL C log log.length) (hE : GE C log evs evs.length) : ∀ a x, a < evs.length → evs[a]? = some x → FactE evs log a x := fun a x ha hx => ((gE_R hg hE) a x ha hx).fact

/-- The states of client c. -/
def pathP (log : List Ed) (evs : List Ev) (D : Nat → List El) (c : Nat) : List Vw := ((stW apE log (edW evs D) 0).1 c).view :: wayW apE (stW apE log (edW evs D) log.length).2 (c : Int) ((stW apE log (edW evs D) 0).1 c)
/-- What Path answers. -/
def PaP (C : Int) (nL nE : Nat) (log : List Ed) (evs : List Ev) (D : Nat → List El) (i : Int) (vs : List Vw) (c p : Int) : Prop :=
  (RCs C nL nE log evs c p ∧ c ≠ 0 ∧ vs = []) ∨ (RCs C nL nE log evs 0 (-1) ∧ (i < 1 ∨ C < i) ∧ vs = [] ∧ c = 144 ∧ p = i) ∨
  (RCs C nL nE log evs 0 (-1) ∧ ∃ cN : Nat, i = (cN : Int) ∧ 1 ≤ i ∧ i ≤ C ∧ vs = pathP log evs D cN ∧ c = 0 ∧ p = -1)
theorem pap_one {C : Int} {nL nE : Nat} {log : List Ed} {evs : List Ev} {D : Nat → List El} {i : Int} {L L' : List Vw} {c p c' p' : Int} (hl : log.length = nL) (he : evs.length = nE) (h : PaP C nL nE log evs D i L c p) (h' : PaP C nL nE log evs D i L' c' p') : L = L' ∧ c = c' ∧ p = p' := by
  rcases h with ⟨a, b, rfl⟩ | ⟨a, b, rfl, rfl, rfl⟩ | ⟨a, iN, rfl, h1, h2, rfl, rfl, rfl⟩
  · rcases h' with ⟨a', b', rfl⟩ | ⟨a', -⟩ | ⟨a', -⟩
    · exact ⟨rfl, rcs_one hl he a a'⟩
    · exact absurd (rcs_one hl he a a').1 b
    · exact absurd (rcs_one hl he a a').1 b
  · rcases h' with ⟨a', b', rfl⟩ | ⟨a', b', rfl, rfl, rfl⟩ | ⟨a', iN, hi, h1, h2, -⟩
    · exact absurd (rcs_one hl he a' a).1 b'
    · exact ⟨rfl, rfl, rfl⟩
    · omega
  · rcases h' with ⟨a', b', rfl⟩ | ⟨a', b', rfl, rfl, rfl⟩ | ⟨a', iN', hi', -, -, rfl, rfl, rfl⟩
    · exact absurd (rcs_one hl he a' a).1 b'
    · omega
    · obtain rfl : iN = iN' := by omega
      exact ⟨rfl, rfl, rfl⟩

end Go.Proofs.YtfhghijefjhehaaGreatDoor

/-! Oe -/
namespace Go.Proofs.YtfhghijefjhehaaGreatDoor
open Go.RowKit Go.Shelf
set_option linter.unusedVariables false
attribute [local go_sem] Oper.semAt_some

section
variable {W1 : World} {xt : Nat} {C : Int} {vL vE : Value} {S : Nat → Ls} {L : Nat → Option Nat} {log : List Ed} {E : Nat → List Ed} {Cn c : Nat} {ds0 : List Dd} {bp bs : Nat} {βd : Option Nat} {vd : Value} {l D n : Nat} {r : Loop} {X : World → Prop} {Cp : List PV → World → Prop}
/-- What a round leaves. -/
def PoS (l D : Nat) (r : Loop) (X : World → Prop) (Cp : List PV → World → Prop) (B0 xh ob bp xt : Nat) (γ βd : Option Nat) (vd : Value) (done : List OpE) (c : Int) (x : Sy) (b : Bool) (u : World) : Prop :=
  (b = true ∧ LB l D r u ∧ It B0 xh ob bp xt γ βd vd done c x x.k.text u ∧ Cp (x.pre ++ [x.pv]) u) ∨ (b = false ∧ X u)

/-- The done form that is next. -/
theorem FO.nth {w : World} {β : Option Nat} {a : Option Addr} {n cp i : Nat} {fs : List OpE} (h : FO w β (.slice a n cp) fs) (hi : i < fs.length) : ∃ g off, a = some ⟨g, off, none⟩ ∧ n = fs.length ∧ n ≤ cp ∧ cp ≤ 9223372036854775807 ∧ g < w.heap.size ∧
    w.cell? ⟨g, off + i * 5, none⟩ = some (.int .i64 fs[i].kind) ∧ w.cell? ⟨g, off + i * 5 + 1, none⟩ = some (.int .i64 fs[i].pos) ∧ w.cell? ⟨g, off + i * 5 + 2, none⟩ = some (.int .u8 fs[i].ch) ∧ w.cell? ⟨g, off + i * 5 + 3, none⟩ = some (.int .i64 fs[i].cl) ∧ w.cell? ⟨g, off + i * 5 + 4, none⟩ = some (.int .i64 fs[i].sq) := by
  cases β with
  | none => obtain ⟨-, h⟩ := h; subst h; simp at hi
  | some g =>
    obtain ⟨off, cap, cur, hv, h2, h3, h4, h5, h6⟩ := h
    obtain ⟨rfl, rfl, rfl⟩ : a = some ⟨g, off, none⟩ ∧ n = fs.length ∧ cp = cap := by simpa using hv
    have hz : Sz opc 5 := fun o => ⟨rfl, fun v hv => cO_one' [o] v (by rw [cO_one]; exact hv)⟩
    have hc : ∀ j u, j < 5 → (opc fs[i])[j]? = some u → w.cell? ⟨g, off + (i * 5 + j), none⟩ = some u := fun j u hj5 hj => by
      rw [cell_row h2, List.getElem?_toArray]
      refine h6 _ u ?_
      have := cl_get hz fs i j hi hj5
      rw [hj] at this
      exact this
    simp only [← Nat.add_assoc] at hc
    exact ⟨g, off, rfl, rfl, h3, h4, block_lt h2, hc 0 _ (by omega) rfl, hc 1 _ (by omega) rfl, hc 2 _ (by omega) rfl, hc 3 _ (by omega) rfl, hc 4 _ (by omega) rfl⟩

theorem It.pre {B0 xh ob : Nat} {γ : Option Nat} {done : List OpE} {id : Int} {o : OpE} {v : Value} {k : Wk} {β : Option Nat} {ds : List Dd} {p : List PV} {t : List El} {W : World} (h : It B0 xh ob bp xt γ βd vd done id ⟨o, v, k, β, ds, p⟩ t W) (p' : List PV) : It B0 xh ob bp xt γ βd vd done id ⟨o, v, k, β, ds, p'⟩ t W :=
  ⟨h.hk, h.op, h.tx, h.bx, h.dn, h.tb, h.lx, h.lob, h.lb, h.lg, h.ld, h.lp, h.lt, h.sz, h.gw, h.hv⟩
/-- One state more. -/
theorem SI.next {B0 xh ob : Nat} {γ : Option Nat} {T : List Vw} {x : Sy} {o : OpE} {v : Value} {k' : Wk} {β : Option Nat} {ds : List Dd} {t : List El} {W : World} (h : It B0 xh ob bp xt γ βd vd (stW apE log E log.length).2 (c : Int) ⟨o, v, k', β, ds, x.pre⟩ t W) (ht : t = k'.text) (hC : Cp (x.pre ++ [x.pv]) W) (hLb : LB l D r W) (hO : OnW log E c k')
    (hV : x.pre.map PV.view ++ (x.k.view :: wayW apE (stW apE log E log.length).2 (c : Int) x.k) = T) (hw : wayW apE (stW apE log E log.length).2 (c : Int) x.k = k'.view :: wayW apE (stW apE log E log.length).2 (c : Int) k') : SI l D r Cp B0 xh ob bp xt γ βd vd log E c T (k'.still.length + (log.length - k'.hav)) v W := by
  subst ht
  refine ⟨⟨o, v, k', β, ds, x.pre ++ [x.pv]⟩, rfl, h.pre _, hC, hLb, hO, ?_, rfl⟩
  rw [← hV, hw]
  simp [Sy.pv, PV.view, Wk.view]
theorem PF.nth (hP : PF Cn log E) {k : Nat} (hk : k < log.length) : ∃ h : k < (stW apE log E log.length).2.length, (stW apE log E log.length).2[k] = opK apE log E k := by
  have hl := hP.len log.length (Nat.le_refl _)
  refine ⟨by omega, ?_⟩
  have e : (stW apE log E log.length).2[k]? = some (opK apE log E k) := by
    rw [done_at _ (Nat.le_refl _), List.getElem?_map, List.getElem?_range hk]
    rfl
  rw [List.getElem?_eq_getElem (by omega)] at e
  exact Option.some.inj e
theorem PF.okK (hP : PF Cn log E) {k : Nat} (hk : k < log.length) : okC (opK apE log E k) := by
  obtain ⟨o1, l, o2⟩ := hP.op k hk
  exact (hP.gw k log[k].o.cl.toNat).all.o _ (by rw [o2]; simp)

theorem wayF_len (done : List OpE) (id : Int) : ∀ (n : Nat) (k : Wk), (wayF apE done id n k).length ≤ n
  | 0, k => Nat.le_refl _
  | n + 1, k => by
    unfold wayF
    split
    · have := wayF_len done id n (k.mk1 apE)
      simp
      omega
    · split
      · rename_i o _
        have := wayF_len done id n (k.take apE o (o.cl == id))
        simp
        omega
      · simp
theorem path_len (hP : PF Cn log E) (hE : ds0.map (·.e) = E c) (hlen : log.length ≤ 4096) : ((wk0 ds0).view :: wayW apE (stW apE log E log.length).2 (c : Int) (wk0 ds0)).length ≤ 5000 := by
  have h1 := wayF_len (stW apE log E log.length).2 (c : Int) ((wk0 ds0).still.length + ((stW apE log E log.length).2.length - (wk0 ds0).hav)) (wk0 ds0)
  have h2 := (hP.gw 0 c).n
  have h3 := hP.len log.length (Nat.le_refl _)
  have e0 : wk0 ds0 = (stW apE log E 0).1 c := by simp only [wk0, stW]; rw [hE]
  rw [← e0] at h2
  have h4 : (wk0 ds0).hav = 0 := rfl
  unfold wayW
  simp only [List.length_cons]
  omega

set_option maxRecDepth 100000 in
set_option maxHeartbeats 8000000 in
theorem states_seq (hn : 2 ≤ n) (hLB : LB l D r W1) (hT : TL W1 xt C vL vE S L) (hc : c < 65) (hS : S (130 + c) = .ds ds0) (hE : ds0.map (·.e) = E c) (hP : PF Cn log E) (hlen : log.length ≤ 4096) (hbp : W1.heap[bp]? = some (.cells #[.pointer (some ⟨xt, 0, none⟩), vd] 65 (0, 0))) (hbs : W1.heap[bs]? = some (.cells #[.int .i64 (c : Int)] 3 (0, 0))) (hdn : FO W1 βd vd (stW apE log E log.length).2) (hTb : Table W1)
    (hCp : ∀ pre W W', Cp pre W → FrI W1.heap.size W W' → Cp pre W') (h0 : Cp [] W1)
    (hY : ∀ (B0 xh ob : Nat) (x : Sy) (W : World), LB l D r W → It B0 xh ob bp xt (L (130 + c)) βd vd (stW apE log E log.length).2 (c : Int) x x.k.text W → Cp x.pre W → x.pre.length ≤ 5000 → YieldAt Fence.wide (n - 1) Tryz.prog l (encS x) W fun e W' => (e = .returned (.bool true) ∧ LB l D r W' ∧ It B0 xh ob bp xt (L (130 + c)) βd vd (stW apE log E log.length).2 (c : Int) x x.k.text W' ∧ Cp (x.pre ++ [x.pv]) W') ∨ (e = .returned (.bool false) ∧ X W')) :
    CallsIn Fence.wide n Tryz.prog 50 #[.func (.yield l) #[] #[], .pointer (some ⟨bp, 0, none⟩), .pointer (some ⟨bs, 0, none⟩)] W1 fun e W' => (∃ v, e = .returned v) ∧ ((LB l D r W' ∧ ∃ vs, Cp vs W' ∧ vs.map PV.view = (wk0 ds0).view :: wayW apE (stW apE log E log.length).2 (c : Int) (wk0 ds0)) ∨ X W') := by
  obtain ⟨aD, cD, hvd, -⟩ := hdn.is
  rw [hP.len log.length (Nat.le_refl _)] at hvd
  subst hvd
  have CH := hd (hand_any hT c hc ds0 hS)
  have p0 := cell_row hbp 0
  have s0 := cell_row hbs 0
  simp at p0 s0
  have hn1 : 1 ≤ n := by omega
  have hf1 : Fence.wide.fn 46 := trivial
  have hf2 : Fence.wide.fn 47 := trivial
  have hf3 : Fence.wide.fn 48 := trivial
  have hf4 : Fence.wide.fn 49 := trivial
  have hf5 : Fence.wide.fn 51 := trivial
  have HB := hd (fun w2 w3 h2 b2 h3 => It.begin (ds0 := ds0) (w2 := w2) (w3 := w3) hT hc hE hP hbp hdn hTb h2 b2 h3)
  have HC := hd hCp
  have H0 := hd h0
  have HL := hd hLB
  have HY := hd hY
  have HP := hd hP
  have HLen := hd hlen
  have HTL := hd (path_len hP hE hlen)
  clear hCp h0 hLB hY hP hlen hT hS hE hbp hbs hdn hTb
  refine callsIn_of_wp Tryz.func50 rfl trivial ?_ rfl
  simp only [Tryz.ntmps50, List.size_toArray, List.length_cons, List.length_nil, Nat.reduceAdd, Nat.reduceSub, Array.replicate_succ, Array.replicate_zero, List.push_toArray, List.append_toArray, List.nil_append, List.cons_append]
  gi_upto_region 1 with (gi_at_call 46; refine (callsIn_wide.2 CH.out).mono ?_; rintro e w2 ⟨rfl, h2, b2⟩)
  obtain ⟨i0, o0, f0⟩ := HB.out w2 _ h2 b2 rfl
  have J0 : Hid (∃ m, SI l D r Cp W1.heap.size W1.heap.size w2.heap.size bp xt (L (130 + c)) βd (.slice aD log.length cD) log E c ((wk0 ds0).view :: wayW apE (stW apE log E log.length).2 (c : Int) (wk0 ds0)) m (.slice none 0 0) (w2.alloc (.cells #[.int .i64 0, .int .i64 0, .int .u8 0, .int .i64 0, .int .i64 0] 69))) :=
    ⟨_, _, rfl, i0, HC.out _ _ _ H0.out f0, HL.out.fri f0, o0, rfl, rfl⟩
  clear h2 b2 i0 o0 f0 HB CH H0 HL p0 s0
  gi_wp2_with fail
  generalize w2.alloc (.cells #[.int .i64 0, .int .i64 0, .int .u8 0, .int .i64 0, .int .i64 0] 69) = w3 at *
  generalize W1.heap.size = B0 at *
  generalize w2.heap.size = ob at *
  generalize hT : (wk0 ds0).view :: wayW apE (stW apE log E log.length).2 (c : Int) (wk0 ds0) = T at *
  have HTT := hd hT
  clear hT
  gi_loopw [6] (fun vt wr => Hid (∃ m, SI l D r Cp B0 B0 ob bp xt (L (130 + c)) βd (.slice aD log.length cD) log E c T m vt wr)) (fun vt wr => rk (fun m => SI l D r Cp B0 B0 ob bp xt (L (130 + c)) βd (.slice aD log.length cD) log E c T m vt) wr)
  case atStart => exact J0
  case round =>
    obtain ⟨hk, hmin⟩ := rk_spec hrel.out
    have HM := hd hmin
    clear hmin J0
    obtain ⟨x, hvt, hIt, hC, hLb, hO, hV, hmm⟩ := hk
    subst hvt
    obtain ⟨βt, htx⟩ := hIt.tx
    obtain ⟨av, cv, hav, -⟩ := htx.form
    obtain ⟨vS, vF, -, -, x0, x1, x2, x3, x4, x5⟩ := hIt.hk.hd.cells
    have hpl : x.pre.length ≤ 5000 := by
      have h1 := HTL.out
      have h2 := congrArg List.length hV
      simp only [List.length_append, List.length_map, List.length_cons] at h2
      omega
    have YY := (HY.out B0 B0 ob x wr.drew (hLb.fri (FrI.of_below (B0 := B0) ((Below.refl _ _).drew))) (hIt.below ((Below.refl _ _).drew)) (HC.out _ _ _ hC (FrI.of_below ((Below.refl _ _).drew))) hpl)
    have HIt := hd hIt
    have HO := hd hO
    have HV := hd hV
    have HMM := hd hmm
    have HAV := hd hav
    clear hpl hav hrel hIt hC hLb hO hV hmm htx x0 x1 x4 x5
    gi_upto_region 3 with fail
    refine states_region3 _ wr l B0 ob x (PoS l D r X Cp B0 B0 ob bp xt (L (130 + c)) βd (.slice aD log.length cD) (stW apE log E log.length).2 (c : Int) x) rfl rfl rfl rfl HAV.out (by simp) HIt.out.op x3 x2 (YY.mono ?_) ?_
    · rintro e W' (⟨rfl, h1, h2, h3⟩ | ⟨rfl, h1⟩)
      · exact ⟨_, rfl, .inl ⟨rfl, h1, h2, h3⟩⟩
      · exact ⟨_, rfl, .inr ⟨rfl, h1⟩⟩
    clear YY x2 x3 HIt
    rintro b u hp
    rename_i K0 hK0
    refine hK0 _ _ ?_
    clear hK0
    simp only [List.range, List.range.loop, List.map_cons, List.map_nil, V3, List.getD_cons_zero, List.getD_cons_succ, puts, List.foldl_cons, List.foldl_nil, Act.put, List.setIfInBounds_toArray, List.set_cons_succ, List.set_cons_zero, Nat.reduceAdd, Nat.reduceEqDiff, if_true, if_false]
    rcases hp with ⟨rfl, hLb, hIt, hC⟩ | ⟨rfl, hX⟩
    · cases hdue : x.k.due with
      | true =>
        have CD : Hid (Calls Tryz.prog 47 #[.pointer (some ⟨B0, 0, none⟩)] u fun e W' => e = .returned (.bool true) ∧ It B0 B0 ob bp xt (L (130 + c)) βd (.slice aD log.length cD) (stW apE log E log.length).2 (c : Int) x x.k.text W' ∧ FrI B0 u W') := by
          have h := hIt.due
          rw [hdue] at h
          exact h
        have HX0 := hd (And.intro hLb hC)
        have HD' := hd hdue
        clear hLb hIt hC hdue
        gi_upto_region 5 with (gi_at_call 47; refine (callsIn_wide.2 CD.out).mono ?_; rintro e u1 ⟨rfl, i1, f1⟩)
        have HX1 := hd (And.intro (HX0.out.1.fri f1) (HC.out _ _ _ HX0.out.2 f1))
        have CM := hd (i1.make HD'.out)
        clear HX0 CD i1 f1
        gi_upto_region 8 with (gi_at_call 48; refine (callsIn_wide.2 CM.out).mono ?_; rintro e u2 ⟨⟨ok, op, oc, ol, os⟩, rfl, hfit, ⟨β', ds', i2⟩, f2⟩; simp only [OpE.val]; obtain ⟨⟨y0, y1, y2, y3, y4⟩, ⟨g0, g1, g2, g3, g4⟩⟩ := cellsF (show u2.heap[ob]? = some (.cells #[.int .i64 x.o.kind, .int .i64 x.o.pos, .int .u8 x.o.ch, .int .i64 x.o.cl, .int .i64 x.o.sq] 69 (0, 0)) from i2.op))
        obtain ⟨u3, hu3⟩ : ∃ u3, ((((u2.setCell ⟨ob, 0, none⟩ (.int .i64 ok)).setCell ⟨ob, 1, none⟩ (.int .i64 op)).setCell ⟨ob, 2, none⟩ (.int .u8 oc)).setCell ⟨ob, 3, none⟩ (.int .i64 ol)).setCell ⟨ob, 4, none⟩ (.int .i64 os) = u3 := ⟨_, rfl⟩
        have z3 := i2.store ⟨ok, op, oc, ol, os⟩
        have es : set5 u2 ob 0 ok op oc ol os = u3 := hu3
        simp only [es] at z3
        rw [hu3]
        obtain ⟨i3, f3⟩ := z3
        obtain ⟨⟨z0, z1, z2, z3, z4⟩, -⟩ := cellsF (show u3.heap[ob]? = some (.cells #[.int .i64 ok, .int .i64 op, .int .u8 oc, .int .i64 ol, .int .i64 os] 69 (0, 0)) from i3.op)
        clear hu3 es y0 y1 y2 y3 y4 g0 g1 g2 g3 g4
        have HX3 := hd (And.intro ((HX1.out.1.fri f2).fri f3) (HC.out _ _ _ (HC.out _ _ _ HX1.out.2 f2) f3))
        have CA := hd (i3.apply ⟨ok, op, oc, ol, os⟩ hfit.1 hfit.2.1)
        have HFT := hd hfit.2.2
        simp only [OpE.val] at CA
        clear HX1 CM i2 f2 i3 f3 hfit
        gi_wp2_with (gi_at_call 51; refine (callsIn_wide.2 CA.out).mono ?_; rintro e u4 ⟨a4, c4, rfl, i4, f4⟩)
        have Z : Hid (∃ m, SI l D r Cp B0 B0 ob bp xt (L (130 + c)) βd (.slice aD log.length cD) log E c T m (.slice a4 (List.length (α := El) (apE x.k.text ⟨ok, op, oc, ol, os⟩)) c4) u4 ∧ m < x.k.still.length + (log.length - x.k.hav)) := ⟨_, SI.next i4 (by rw [HFT.out]) (HC.out _ _ _ HX3.out.2 f4) (HX3.out.1.fri f4) (HO.out.mk1 HD'.out) HV.out (way_due2 HD'.out), by
          have h1 := due_less (ap := apE) HD'.out
          obtain ⟨y, ly, hs, -⟩ := due_cons HD'.out
          obtain ⟨-, m2, -⟩ := mk1_still (ap := apE) hs
          rw [m2]
          omega⟩
        have Z1 : Hid (∃ m, SI l D r Cp B0 B0 ob bp xt (L (130 + c)) βd (.slice aD log.length cD) log E c T m (.slice a4 (List.length (α := El) (apE x.k.text ⟨ok, op, oc, ol, os⟩)) c4) u4) := by
          obtain ⟨m, h, -⟩ := Z.out
          exact ⟨m, h⟩
        have hlt : rk (fun m => SI l D r Cp B0 B0 ob bp xt (L (130 + c)) βd (.slice aD log.length cD) log E c T m (.slice a4 (List.length (α := El) (apE x.k.text ⟨ok, op, oc, ol, os⟩)) c4)) u4 < rk (fun m => SI l D r Cp B0 B0 ob bp xt (L (130 + c)) βd (.slice aD log.length cD) log E c T m x.vt) wr := by
          obtain ⟨m, h, hm⟩ := Z.out
          rw [HMM.out]
          exact Nat.lt_of_le_of_lt ((rk_spec Z1.out).2 m h) hm
        clear Z i4 f4 HX3 CA HMM HM HV HO
        gi_wp2_with fail
        go_roundw
        case rel => exact Z1
        case measure => exact hlt
      | false =>
        have CD : Hid (Calls Tryz.prog 47 #[.pointer (some ⟨B0, 0, none⟩)] u fun e W' => e = .returned (.bool false) ∧ It B0 B0 ob bp xt (L (130 + c)) βd (.slice aD log.length cD) (stW apE log E log.length).2 (c : Int) x x.k.text W' ∧ FrI B0 u W') := by
          have h := hIt.due
          rw [hdue] at h
          exact h
        have HX0 := hd (And.intro hLb hC)
        have HD' := hd hdue
        clear hLb hIt hC hdue
        gi_upto_region 6 with (gi_at_call 47; refine (callsIn_wide.2 CD.out).mono ?_; rintro e u1 ⟨rfl, i1, f1⟩)
        have HX1 := hd (And.intro (HX0.out.1.fri f1) (HC.out _ _ _ HX0.out.2 f1))
        obtain ⟨vS, vF, -, -, x0, x1, x2, x3, x4, x5⟩ := i1.hk.hd.cells
        have p1 : u1.cell? ⟨bp, 1, none⟩ = some (.slice aD log.length cD) := by rw [cell_row i1.bx]; rfl
        have I1 := hd i1
        clear HX0 CD i1 f1 x0 x1 x2 x4 x5
        by_cases hl : x.k.hav < log.length
        · have j1 : (x.k.hav : Int) < (log.length : Int) := by omega
          have HHL := hd hl
          clear hl
          have e1 := hd (HO.out.take HP.out HD'.out HHL.out).1
          obtain ⟨hl1, hl2⟩ := HP.out.nth HHL.out
          obtain ⟨gd, od, had, -, hd1, hd2, hgd, q0, q1, q2, q3, q4⟩ := I1.out.dn.nth hl1
          simp only [hl2] at q0 q1 q2 q3 q4
          subst had
          have HOK := HP.out.okK HHL.out
          have HLE := HLen.out
          have CTm := hd (fun (W : World) (iW : It B0 B0 ob bp xt (L (130 + c)) βd (.slice (some ⟨gd, od, none⟩) log.length cD) (stW apE log E log.length).2 (c : Int) x x.k.text W) => iW.take (opK apE log E x.k.hav) e1.out (by have := HHL.out; have := HLen.out; omega) HOK)
          simp only [OpE.val] at CTm
          clear hl1 hl2 HOK HLE e1
          gi_wp2_with fail
          gi_quiet (fail)
          gi_upto_region 7 with fail
          generalize hv1 : u1.drewN nq = v1
          have bv : Below u1.heap.size u1 v1 := by rw [← hv1]; exact below_drewN (Below.refl _ _) _
          have IV := hd (I1.out.below bv)
          have lxh : B0 < u1.heap.size := I1.out.hk.hd.lt
          have lbp : bp < u1.heap.size := block_lt I1.out.bx
          have x3 := (bv.cell (p := ⟨B0, 3, none⟩) lxh).trans x3
          have p1 := (bv.cell (p := ⟨bp, 1, none⟩) lbp).trans p1
          have q0 := (bv.cell (p := ⟨gd, od + x.k.hav * 5, none⟩) hgd).trans q0
          have q1 := (bv.cell (p := ⟨gd, od + x.k.hav * 5 + 1, none⟩) hgd).trans q1
          have q2 := (bv.cell (p := ⟨gd, od + x.k.hav * 5 + 2, none⟩) hgd).trans q2
          have q3 := (bv.cell (p := ⟨gd, od + x.k.hav * 5 + 3, none⟩) hgd).trans q3
          have q4 := (bv.cell (p := ⟨gd, od + x.k.hav * 5 + 4, none⟩) hgd).trans q4
          have HXV := hd (And.intro (HX1.out.1.fri (FrI.of_below (B0 := B0) bv)) (HC.out _ _ _ HX1.out.2 (FrI.of_below bv)))
          clear hv1 bv I1 HX1 lxh lbp hgd
          gi_region_with (gi_at_call 49; refine (callsIn_wide.2 (CTm.out _ (IV.out.below (by first | exact (Below.refl _ _).drew | exact below_drewN (Below.refl _ _) _)))).mono ?_; rintro e u2 ⟨⟨ok, op, oc, ol, os⟩, rfl, hfit, ⟨β', ds', i2⟩, f2⟩; simp only [OpE.val]; have HX1 := hd (And.intro ((HXV.out.1.fri (FrI.of_below (B0 := B0) (by first | exact (Below.refl _ _).drew | exact below_drewN (Below.refl _ _) _))).fri f2) (HC.out _ _ _ (HC.out _ _ _ HXV.out.2 (FrI.of_below (by first | exact (Below.refl _ _).drew | exact below_drewN (Below.refl _ _) _))) f2)); obtain ⟨⟨y0, y1, y2, y3, y4⟩, ⟨g0, g1, g2, g3, g4⟩⟩ := cellsF (show u2.heap[ob]? = some (.cells #[.int .i64 x.o.kind, .int .i64 x.o.pos, .int .u8 x.o.ch, .int .i64 x.o.cl, .int .i64 x.o.sq] 69 (0, 0)) from i2.op))
          all_goals (
            gi_upto_region 8 with fail
            obtain ⟨u3, hu3⟩ : ∃ u3, ((((u2.setCell ⟨ob, 0, none⟩ (.int .i64 ok)).setCell ⟨ob, 1, none⟩ (.int .i64 op)).setCell ⟨ob, 2, none⟩ (.int .u8 oc)).setCell ⟨ob, 3, none⟩ (.int .i64 ol)).setCell ⟨ob, 4, none⟩ (.int .i64 os) = u3 := ⟨_, rfl⟩
            have z3 := i2.store ⟨ok, op, oc, ol, os⟩
            have es : set5 u2 ob 0 ok op oc ol os = u3 := hu3
            simp only [es] at z3
            rw [hu3]
            obtain ⟨i3, f3⟩ := z3
            obtain ⟨⟨z0, z1, z2, z3, z4⟩, -⟩ := cellsF (show u3.heap[ob]? = some (.cells #[.int .i64 ok, .int .i64 op, .int .u8 oc, .int .i64 ol, .int .i64 os] 69 (0, 0)) from i3.op)
            clear hu3 es y0 y1 y2 y3 y4 g0 g1 g2 g3 g4
            have HX3 := hd (And.intro (HX1.out.1.fri f3) (HC.out _ _ _ HX1.out.2 f3))
            have CA := hd (i3.apply ⟨ok, op, oc, ol, os⟩ hfit.1 hfit.2.1)
            have HFT := hd hfit.2.2
            simp only [OpE.val] at CA
            clear HX1 CTm i2 f2 i3 f3 hfit
            gi_wp2_with (gi_at_call 51; refine (callsIn_wide.2 CA.out).mono ?_; rintro e u4 ⟨a4, c4, rfl, i4, f4⟩)
            have Z : Hid (∃ m, SI l D r Cp B0 B0 ob bp xt (L (130 + c)) βd (.slice (some ⟨gd, od, none⟩) log.length cD) log E c T m (.slice a4 (List.length (α := El) (apE x.k.text ⟨ok, op, oc, ol, os⟩)) c4) u4 ∧ m < x.k.still.length + (log.length - x.k.hav)) := ⟨_, SI.next i4 (by rw [HFT.out]) (HC.out _ _ _ HX3.out.2 f4) (HX3.out.1.fri f4) (HO.out.take HP.out HD'.out HHL.out).2 HV.out (way_take2 HD'.out (by obtain ⟨h1, h2⟩ := HP.out.nth HHL.out; rw [List.getElem?_eq_getElem h1, h2])), by
              have e1 : (x.k.take apE (opK apE log E x.k.hav) ((opK apE log E x.k.hav).cl == (c : Int))).still = x.k.still ∧ (x.k.take apE (opK apE log E x.k.hav) ((opK apE log E x.k.hav).cl == (c : Int))).hav = x.k.hav + 1 := by unfold Wk.take; split <;> exact ⟨rfl, rfl⟩
              rw [e1.1, e1.2]
              have := HHL.out
              omega⟩
            have Z1 : Hid (∃ m, SI l D r Cp B0 B0 ob bp xt (L (130 + c)) βd (.slice (some ⟨gd, od, none⟩) log.length cD) log E c T m (.slice a4 (List.length (α := El) (apE x.k.text ⟨ok, op, oc, ol, os⟩)) c4) u4) := by
              obtain ⟨m, h, -⟩ := Z.out
              exact ⟨m, h⟩
            have hlt : rk (fun m => SI l D r Cp B0 B0 ob bp xt (L (130 + c)) βd (.slice (some ⟨gd, od, none⟩) log.length cD) log E c T m (.slice a4 (List.length (α := El) (apE x.k.text ⟨ok, op, oc, ol, os⟩)) c4)) u4 < rk (fun m => SI l D r Cp B0 B0 ob bp xt (L (130 + c)) βd (.slice (some ⟨gd, od, none⟩) log.length cD) log E c T m x.vt) wr := by
              obtain ⟨m, h, hm⟩ := Z.out
              rw [HMM.out]
              exact Nat.lt_of_le_of_lt ((rk_spec Z1.out).2 m h) hm
            clear Z i4 f4 HX3 CA HMM HM HV HO
            gi_wp2_with fail
            go_roundw
            case rel => exact Z1
            case measure => exact hlt)
        · have j1 : ¬ ((x.k.hav : Int) < (log.length : Int)) := by omega
          have HHL := hd hl
          have Z : Hid (∀ m, LB l D r (u1.drewN m) ∧ ∃ vs, Cp vs (u1.drewN m) ∧ vs.map PV.view = T) := fun m => by
            have f2 : FrI B0 u1 (u1.drewN m) := FrI.of_below (below_drewN (Below.refl _ _) _)
            refine ⟨HX1.out.1.fri f2, _, HC.out _ _ _ HX1.out.2 f2, ?_⟩
            rw [← HV.out, way_end2 HD'.out (by rw [HP.out.len _ (Nat.le_refl _)]; have := HHL.out; omega)]
            simp [Sy.pv, PV.view, Wk.view]
          clear hl HMM HM HV HO I1 HX1
          gi_wp2_with fail
          gi_quiet (fail)
          gi_wp2_with fail
          refine bodyPost_ret (results_none rfl _ _ _) rfl ?_
          obtain ⟨z1, z2⟩ := Z.out _
          rw [← HTT.out] at z2
          exact ⟨⟨_, rfl⟩, .inl ⟨z1, z2⟩⟩
    · clear HO HV HMM HM
      gi_wp2_with fail
      refine bodyPost_end (results_none rfl _ _ _) rfl ?_
      exact ⟨⟨_, rfl⟩, .inr hX⟩
end

end Go.Proofs.YtfhghijefjhehaaGreatDoor

/-! Of -/
namespace Go.Proofs.YtfhghijefjhehaaGreatDoor
open Go.RowKit Go.Shelf
set_option linter.unusedVariables false
attribute [local go_sem] Oper.semAt_some

theorem range_as {P : Program} {F : Fence} {n : Nat} {α : Type} {g : Operand} {ps : Array Tmp} {assign body : Code} {Q : Exit → Act → World → Prop} {a : Act} {w : World}
    (hro : F.round = none) (h1 : 1 ≤ n) {gf : Nat} {lb : Array Value} (hg : a.eval g = .func (.func gf) #[] lb) (hFg : F.fn gf) (eg : ∀ args w, (callFunc gf args).run P w = .ok (.enter gf args) w)
    (encs : α → Array Value) (hps : ∀ x, (encs x).size = ps.size) (l D : Nat) (hD : D = w.heap.size) (hl : l = w.heap.size + 1)
    (I0 Ie : World → Prop) (I Y : α → World → Prop) (Ya : α → Act → World → Prop) (Ix : Code → World → Prop)
    (pY : ∀ x a W r r', W.heap[l]? = some (.loop r) → Ya x a W → Ya x a (W.putObj l (.loop r'))) (pI : ∀ x W r r', W.heap[l]? = some (.loop r) → I x W → I x (W.putObj l (.loop r'))) (pIe : ∀ W r r', W.heap[l]? = some (.loop r) → Ie W → Ie (W.putObj l (.loop r'))) (pIx : ∀ c W r r', W.heap[l]? = some (.loop r) → Ix c W → Ix c (W.putObj l (.loop r')))
    (h0 : ∀ r, I0 ((w.alloc (.deferred (some []))).alloc (.loop r)))
    (hseq : ∀ (r : Loop) (W1 : World) (X : World → Prop), LB l D r W1 → I0 W1 →
      (∀ x W, LB l D r W → Y x W → YieldAt F (n - 1 - 1) P l (encs x) W fun e W' => (e = .returned (.bool true) ∧ LB l D r W' ∧ I x W') ∨ (e = .returned (.bool false) ∧ X W')) →
      CallsIn F (n - 1) P gf (#[.func (.yield l) #[] #[]] ++ lb) W1 fun e W' => (∃ v, e = .returned v) ∧ ((LB l D r W' ∧ Ie W') ∨ X W'))
    (hassign : ∀ (x : α) (r : Loop) (W : World), LB l D r W → Y x W → ∀ (K : Act → World → Prop), (∀ a' W', LB l D r W' → Ya x a' W' → K a' W') → assign.wpIn (F.inRound l) (n - 1 - 1) P (Exit.then K (fun _ _ _ => False)) { tmps := (ps.zip (encs x)).foldl (fun t (p, v) => t.setIfInBounds p v) a.tmps, defers := [] } W)
    (hbody : ∀ (x : α) (r : Loop) (a' : Act) (W : World), LB l D r W → Ya x a' W → body.wpIn (F.inRound l) (n - 1 - 1) P (outPost l D r (I x) Ix) a' W)
    (hdone : ∀ W, Ie W → W.heap[D]? = some (.deferred (some [])) → Q .normal { a with defers := { target := .collected D, args := #[] } :: a.defers } W)
    (hstop : ∀ c W, Ix c W → W.heap[D]? = some (.deferred (some [])) → c.wpIn F n P Q { a with defers := { target := .collected D, args := #[] } :: a.defers } W) :
    (Code.rangeFunc g ps assign body).wpIn F n P Q a w := by
  subst hD
  have hlD : w.heap.size ≠ l := by omega
  refine wpIn_rangeFunc fun fn hfn => ?_
  rw [hro]
  obtain ⟨r0, hr0⟩ : ∃ r0 : Loop, r0 = { state := .ready, pending := none, fn, tmps := a.tmps, params := ps, assign, body, defers := w.heap.size } := ⟨_, rfl⟩
  obtain ⟨W1, hW1⟩ : ∃ W1, (w.alloc (.deferred (some []))).alloc (.loop r0) = W1 := ⟨_, rfl⟩
  have hL1 : LB l w.heap.size r0 W1 := by
    rw [← hW1, hl]
    refine ⟨?_, (Below.heap_alloc _ _ _ (by simp)).trans (World.alloc_heap_new w _)⟩
    have := World.alloc_heap_new (w.alloc (.deferred (some []))) (.loop r0)
    rwa [World.size_alloc] at this
  refine ⟨l, [{ target := .collected w.heap.size, args := #[] }], W1, { target := .fn (.func gf) lb, args := #[.func (.yield l) #[] #[]] }, W1, gf, #[.func (.yield l) #[] #[]] ++ lb, W1, ?_, ?_, ?_, ?_, fun _ => h1, ?_⟩
  · rw [← hW1, hr0, hl]; exact run_enterLoop_outer _ _ _ _ _
  · simp only [resolve, hg]
    simp [go_sem]
  · intro f' hf'; simp [Target.leads] at hf'; subst hf'; exact hFg
  · simp [invoke, go_sem, eg]
  · refine (hseq r0 W1 (fun W => ∃ c, LB l w.heap.size { r0 with state := .done, pending := some c } W ∧ Ix c W) hL1 (by rw [← hW1]; exact h0 _) ?_).mono ?_
    · rintro x W ⟨hb1, hb2⟩ hY
      have hlt : l < W.heap.size := block_lt hb1
      have hy := run_yield (P := P) (args := encs x) hb1 (by rw [hr0]; exact hps x)
      rw [hr0] at hy
      refine ⟨fn, _, assign, body, hy, roundIn_of_wpIn hfn (hassign x r0 W ⟨hb1, hb2⟩ hY _ ?_)⟩
      clear hy hb1 hb2 hY hlt
      rintro a2 W2 ⟨hb1, hb2⟩ hY
      have hlt : l < W2.heap.size := block_lt hb1
      refine ⟨_, run_beginRound hb1 (by rw [hr0]), ?_⟩
      have lb2 : LB l w.heap.size { r0 with state := .busy } (W2.putObj l (.loop { r0 with state := .busy })) := ⟨World.putObj_heap_same hlt, (World.putObj_heap_other hlD).trans hb2⟩
      refine wpIn_mono (hbody x _ _ _ lb2 (pY _ _ _ _ _ hb1 hY)) ?_
      have fin : ∀ (jump : Option Code) (W3 : World), LB l w.heap.size { r0 with state := .busy } W3 → (Instr.endRound l jump).run P W3 = .ok (.bool jump.isNone) (W3.putObj l (.loop { r0 with state := if jump.isNone then .ready else .done, pending := jump })) ∧ LB l w.heap.size { r0 with state := if jump.isNone then .ready else .done, pending := jump } (W3.putObj l (.loop { r0 with state := if jump.isNone then .ready else .done, pending := jump })) := fun jump W3 h3 =>
        ⟨by have := run_endRound (P := P) jump h3.1; exact this, World.putObj_heap_same (block_lt h3.1), (World.putObj_heap_other hlD).trans h3.2⟩
      rintro e a3 W3 hp
      cases e with
      | normal =>
        obtain ⟨hr, h4⟩ := fin none W3 hp.1
        refine ⟨_, _, hr, .inl ⟨rfl, ?_, pI _ _ _ _ hp.1.1 hp.2⟩⟩
        have e : ({ r0 with state := if (none : Option Code).isNone then .ready else .done, pending := none } : Loop) = r0 := by rw [hr0]; rfl
        rw [e] at h4 ⊢
        exact h4
      | ret =>
        obtain ⟨hr, h4⟩ := fin (some .ret) W3 hp.1
        exact ⟨_, _, hr, .inr ⟨rfl, .ret, h4, pIx _ _ _ _ hp.1.1 hp.2⟩⟩
      | exit id =>
        obtain ⟨hr, h4⟩ := fin (some (.exit id)) W3 hp.1
        exact ⟨_, _, hr, .inr ⟨rfl, .exit id, h4, pIx _ _ _ _ hp.1.1 hp.2⟩⟩
      | goto t =>
        obtain ⟨hr, h4⟩ := fin (some (.goto t)) W3 hp.1
        exact ⟨_, _, hr, .inr ⟨rfl, .goto t, h4, pIx _ _ _ _ hp.1.1 hp.2⟩⟩
      | panic ch => exact hp.elim
      | outgrown => exact hp.elim
    · rintro e W2 ⟨⟨v, rfl⟩, (⟨h2, hi⟩ | ⟨c, h2, hi⟩)⟩
      · have he := run_endLoop (P := P) h2.1 (by rw [hr0]; simp)
        have hp : r0.pending = none := by rw [hr0]
        rw [hp] at he
        exact ⟨none, _, he, hdone _ (pIe _ _ _ h2.1 hi) ((World.putObj_heap_other hlD).trans h2.2)⟩
      · have he := run_endLoop (P := P) h2.1 (by simp)
        exact ⟨some c, _, he, hstop c _ (pIx _ _ _ _ h2.1 hi) ((World.putObj_heap_other hlD).trans h2.2)⟩

/-- The value of a slice. -/
def svl : Value → Value
  | .slice a n c => .slice a n c
  | _ => .slice none 0 0
def vwc (p : PV) : List Value := [.int .i64 p.hav, .int .i64 p.made, svl p.v]
theorem svl_one (v : Value) : (svl v).oneCell' = true := by cases v <;> rfl
theorem szV : Sz vwc 3 := fun p => ⟨rfl, fun v hv => by
  simp only [vwc, List.mem_cons, List.not_mem_nil, or_false] at hv
  rcases hv with rfl | rfl | rfl
  · rfl
  · rfl
  · exact svl_one _⟩
theorem infoVw : (Tryz.prog.info? 72).map (fun i => (i.zero, i.size, i.bytes)) = some (some (.agg #[.int .i64 0, .int .i64 0, .slice none 0 0]), 3, 40) := by kernel_rfl

/-- append of one view. -/
theorem push_vw (w : World) (β : Option Nat) (v : Value) (xs : List PV) (hv : SF vwc 3 w 72 β v xs) (b : Nat) (x : PV) (hb : w.heap[b]? = some (.cells (vwc x).toArray 72 (0, 0))) (hn : xs.length ≤ 1000000) :
    ∃ v' w', (∀ ty, (Builtin.append_ #[27, 27] ty #[v, .slice (some ⟨b, 0, none⟩) 1 1]).run Tryz.prog w = .ok v' w') ∧ NowF vwc 3 w w' 72 β v' (xs ++ [x]) := by
  obtain ⟨i0, hi0, hz0, hz1, hz2⟩ := info_parts infoVw
  obtain ⟨v', w', hr, hN⟩ := run_pushF szV (P := Tryz.prog) w 27 0 72 i0 _ 40 Tryz.underlying27 hi0 hz0 hz1 rfl hz2 β v xs hv ⟨b, 0, none⟩ 1 1 [x] rfl (fun j u hj => by
    rw [cl_one] at hj
    rw [add_lit, cell_row hb, Nat.zero_add, List.getElem?_toArray]
    exact hj) (by omega) (by omega) (by omega)
  exact ⟨v', w', fun ty => hr, hN⟩

/-- What Path has gathered: the list in the box pb. -/
structure CpP (w : World) (pb : Nat) (vs : List PV) (W : World) : Prop where
  row : ∃ v βp, W.heap[pb]? = some (.cells #[v] 27 (0, 0)) ∧ SF vwc 3 W 72 βp v vs ∧ ∀ g, βp = some g → w.heap.size ≤ g
  doc : ∀ p ∈ vs, ∃ β, SE W β p.v p.doc
  lo : w.heap.size ≤ pb
  bel : Below w.heap.size w W
  lt : 1 < w.heap.size

section
variable {w W W' : World} {pb : Nat} {vs : List PV}
theorem CpP.fr {S : Nat → Prop} (h : CpP w pb vs W) (hF : Fr S W W') (hS : ∀ j cs t, S j → W.heap[j]? = some (.cells cs t (0, 0)) → t ≠ 27 ∧ t ≠ 72 ∧ t ≠ 42) (hb : ∀ j, S j → w.heap.size ≤ j) : CpP w pb vs W' := by
  obtain ⟨v, βp, h1, h2, h3⟩ := h.row
  refine ⟨⟨v, βp, hF.keeps h1 (fun hs => (hS _ _ _ hs h1).1 rfl), h2.fr hF (fun g hg hs => ?_), h3⟩, fun p hp => ?_, h.lo, h.bel.trans (hF.below h.bel.size hb), h.lt⟩
  · subst hg
    obtain ⟨cur, hc⟩ := SF.blk h2
    exact (hS _ _ _ hs hc).2.1 rfl
  · obtain ⟨β, hs⟩ := h.doc p hp
    refine ⟨β, hs.fr hF (fun g hg hS' => ?_)⟩
    subst hg
    obtain ⟨cs, hc⟩ := hs.blk
    exact (hS _ _ _ hS' hc).2.2 rfl
theorem CpP.fri {B0 : Nat} (h : CpP w pb vs W) (hF : FrI B0 W W') (hB : w.heap.size ≤ B0) : CpP w pb vs W' := by
  refine h.fr hF (fun j cs t hs hc => ?_) (fun j hs => Nat.le_trans hB hs.1)
  obtain ⟨-, cs', t', h1, h2⟩ := hs
  rw [hc] at h1
  obtain ⟨-, rfl⟩ : cs = cs' ∧ t = t' := by simpa using h1
  rcases h2 with rfl | rfl
  · exact ⟨by decide, by decide, by decide⟩
  · exact ⟨by decide, by decide, by decide⟩
theorem CpP.below (h : CpP w pb vs W) (hb : Below W.heap.size W W') : CpP w pb vs W' := h.fr (S := fun _ => False) (Fr.of_below hb) (fun _ _ _ hs => hs.elim) (fun _ hs => hs.elim)

/-- One view more: behind the append the box is written. -/
theorem CpP.push {v : Value} (h : CpP w pb vs W) (hv : W.heap[pb]? = some (.cells #[v] 27 (0, 0))) (x : PV) (hx : ∃ β, SE W β x.v x.doc) (hn : vs.length ≤ 1000000) :
    ∃ a c w', (∀ ty, (Builtin.append_ #[27, 27] ty #[v, .slice (some ⟨W.heap.size, 0, none⟩) 1 1]).run Tryz.prog (W.alloc (.cells (vwc x).toArray 72)) = .ok (.slice a (vs.length + 1) c) w') ∧ w'.heap[pb]? = some (.cells #[v] 27 (0, 0)) ∧
      CpP w pb (vs ++ [x]) (w'.setCell ⟨pb, 0, none⟩ (.slice a (vs.length + 1) c)) ∧ Fr (fun j => w.heap.size ≤ j ∧ ∃ cs t, W.heap[j]? = some (.cells cs t (0, 0)) ∧ (t = 27 ∨ t = 72)) W (w'.setCell ⟨pb, 0, none⟩ (.slice a (vs.length + 1) c)) := by
  obtain ⟨v0, βp, h1, h2, h3⟩ := h.row
  obtain rfl : v0 = v := by rw [hv] at h1; simpa using h1.symm
  have b1 : Below W.heap.size W (W.alloc (.cells (vwc x).toArray 72)) := (Below.refl _ _).alloc (Nat.le_refl _) _
  have r1 := h2.fr (Fr.of_below (S := fun _ => False) b1) (fun _ _ h => h)
  obtain ⟨v', w', hr, g', hS', hN⟩ := push_vw _ βp v0 vs r1 W.heap.size x (heap_alloc_new W _) hn
  obtain ⟨a, c, hv', -⟩ := hS'.form
  simp only [List.length_append, List.length_cons, List.length_nil, Nat.zero_add] at hv'
  subst hv'
  have lpb : pb < W.heap.size := block_lt h1
  have hF1 : Fr (fun j => βp = some j) W w' := by
    have hF : Fr (fun j => βp = some j) (W.alloc (.cells (vwc x).toArray 72)) w' := by
      rcases hN with ⟨a, b⟩ | ⟨a, b⟩
      · exact b.mono (fun j _ hj => by rw [hj]; exact a)
      · exact b.mono (fun j _ hj => hj.elim)
    exact (Fr.of_below b1).trans hF
  have hpb : βp ≠ some pb := fun e => by
    rw [e] at h2
    obtain ⟨cur, hc⟩ := SF.blk h2
    rw [h1] at hc
    simp at hc
  have hw' := hF1.keeps h1 hpb
  have hF2 : Fr (fun j => βp = some j ∨ j = pb) W (w'.setCell ⟨pb, 0, none⟩ (.slice a (vs.length + 1) c)) := (hF1.mono (fun j _ hj => .inl hj)).trans (Fr.setCell _ _ _ (.inr rfl))
  have hg' : g' ≠ pb := fun e => by
    obtain ⟨cur, hc⟩ := SF.blk hS'
    rw [e, hw'] at hc
    simp at hc
  have hF3 : Fr (fun j => w.heap.size ≤ j ∧ ∃ cs t, W.heap[j]? = some (.cells cs t (0, 0)) ∧ (t = 27 ∨ t = 72)) W (w'.setCell ⟨pb, 0, none⟩ (.slice a (vs.length + 1) c)) := hF2.mono (fun j _ hj => by
    rcases hj with hj | rfl
    · refine ⟨h3 j hj, ?_⟩
      rw [hj] at h2
      obtain ⟨cur, hc⟩ := SF.blk h2
      exact ⟨_, _, hc, .inr rfl⟩
    · exact ⟨h.lo, _, _, h1, .inl rfl⟩)
  have tell : ∀ (p : PV), (∃ β, SE W β p.v p.doc) → ∃ β, SE (w'.setCell ⟨pb, 0, none⟩ (.slice a (vs.length + 1) c)) β p.v p.doc := fun p hp => by
    obtain ⟨β, hs⟩ := hp
    refine ⟨β, hs.fr hF3 (fun g hg hS => ?_)⟩
    subst hg
    obtain ⟨cs, hc⟩ := hs.blk
    obtain ⟨-, cs', t', e1, e2⟩ := hS
    rw [hc] at e1
    obtain ⟨-, rfl⟩ : cs = cs' ∧ 42 = t' := by simpa using e1
    rcases e2 with e2 | e2 <;> cases e2
  refine ⟨a, c, w', hr, hw', ⟨⟨_, some g', by simpa using set_row hw' 0 (.slice a (vs.length + 1) c), hS'.fr (Fr.setCell (S := (· = pb)) w' ⟨pb, 0, none⟩ _ rfl) (fun g hg e => by injection hg with hg; omega), fun g hg => ?_⟩, fun p hp => ?_, h.lo, h.bel.trans (hF3.below h.bel.size (fun j hj => hj.1)), h.lt⟩, hF3⟩
  · injection hg with hg
    subst hg
    rcases hN with ⟨e, -⟩ | ⟨e, -⟩
    · exact h3 _ e
    · rw [e]
      have := h.bel.size
      simp
      omega
  · rcases List.mem_append.1 hp with hp | hp
    · exact tell p (h.doc p hp)
    · rw [List.mem_singleton.1 hp]
      exact tell x hx
end

end Go.Proofs.YtfhghijefjhehaaGreatDoor

/-! Pa -/
namespace Go.Proofs.YtfhghijefjhehaaGreatDoor
open Go.RowKit
set_option linter.unusedVariables false

/-- The walker at offset o of block g: its edits at β, its forms at φ, its way at ν. -/
structure WR (w : World) (g o : Nat) (β φ ν : Option Nat) (es : List Ed) (k : Wk) (way : List PV) : Prop where
  blk : ∃ (cur : Array Value) (vE vT vF vW : Value), w.heap[g]? = some (.cells cur 84 (0, 0)) ∧ o + 6 ≤ cur.size ∧ cur[o]? = some vE ∧ cur[o + 1]? = some vT ∧ cur[o + 2]? = some vF ∧ cur[o + 3]? = some vW ∧ cur[o + 4]? = some (.int .i64 k.hav) ∧ cur[o + 5]? = some (.int .i64 k.made) ∧
    SF edc 6 w 74 β vE es ∧ (∃ βt, SE w βt vT k.text) ∧ FO w φ vF k.forms ∧ SF vwc 3 w 72 ν vW way
  docs : ∀ p ∈ way, ∃ β, SE w β p.v p.doc
  st : es.drop k.made = k.still
  le : k.text.length ≤ 4096

/-- Of block g all but the walker at o is as it was. -/
def Oth (g o : Nat) (w w' : World) : Prop := ∀ cur, w.heap[g]? = some (.cells cur 84 (0, 0)) → ∃ cur' : Array Value, w'.heap[g]? = some (.cells cur' 84 (0, 0)) ∧ cur'.size = cur.size ∧ ∀ i, i < o ∨ o + 6 ≤ i → cur'[i]? = cur[i]?
theorem Oth.refl (g o : Nat) (w : World) : Oth g o w w := fun cur h => ⟨cur, h, rfl, fun _ _ => rfl⟩
theorem Oth.trans {g o : Nat} {a b c : World} (h : Oth g o a b) (k : Oth g o b c) : Oth g o a c := fun cur hc => by
  obtain ⟨c1, h1, h2, h3⟩ := h cur hc
  obtain ⟨c2, k1, k2, k3⟩ := k c1 h1
  exact ⟨c2, k1, k2.trans h2, fun i hi => (k3 i hi).trans (h3 i hi)⟩
theorem Oth.fr {S : Nat → Prop} {g o : Nat} {w w' : World} (hF : Fr S w w') (hg : ¬ S g) : Oth g o w w' := fun cur h => ⟨cur, hF.keeps h hg, rfl, fun _ _ => rfl⟩
theorem Oth.set {g o j : Nat} {w : World} (v : Value) (hj : o ≤ j ∧ j < o + 6) : Oth g o w (w.setCell ⟨g, j, none⟩ v) := fun cur h =>
  ⟨_, set_row h j v, by simp, fun i hi => by rw [Array.getElem?_setIfInBounds_ne (by omega)]⟩

section
variable {w w' : World} {g o : Nat} {β φ ν : Option Nat} {es : List Ed} {k : Wk} {way : List PV}
theorem WR.lt (h : WR w g o β φ ν es k way) : g < w.heap.size := by
  obtain ⟨cur, vE, vT, vF, vW, h1, -⟩ := h.blk
  exact block_lt h1
/-- What touches none of its blocks. -/
theorem WR.fr {S : Nat → Prop} (h : WR w g o β φ ν es k way) (hF : Fr S w w') (hS : ∀ j cs t, S j → w.heap[j]? = some (.cells cs t (0, 0)) → t ≠ 42 ∧ t ≠ 74 ∧ t ≠ 84) (hφ : ∀ g, φ = some g → ¬ S g) (hν : ∀ g, ν = some g → ¬ S g) : WR w' g o β φ ν es k way := by
  obtain ⟨cur, vE, vT, vF, vW, h1, h2, c0, c1, c2, c3, c4, c5, hE, ⟨βt, hT⟩, hO, hW⟩ := h.blk
  have tell : ∀ {β : Option Nat} {v : Value} {t : List El}, SE w β v t → SE w' β v t := fun {β v t} hs => hs.fr hF (fun g hg hs' => by
    subst hg
    obtain ⟨cs, hc⟩ := hs.blk
    exact (hS _ _ _ hs' hc).1 rfl)
  refine ⟨⟨cur, vE, vT, vF, vW, hF.keeps h1 (fun hs => (hS _ _ _ hs h1).2.2 rfl), h2, c0, c1, c2, c3, c4, c5, hE.fr hF (fun g hg hs => ?_), ⟨βt, tell hT⟩, hO.fr hF hφ, hW.fr hF hν⟩, fun p hp => ?_, h.st, h.le⟩
  · subst hg
    obtain ⟨cur, hc⟩ := SF.blk hE
    exact (hS _ _ _ hs hc).2.1 rfl
  · obtain ⟨β', hs⟩ := h.docs p hp
    exact ⟨β', tell hs⟩
theorem WR.below (h : WR w g o β φ ν es k way) (hb : Below w.heap.size w w') : WR w' g o β φ ν es k way := h.fr (S := fun _ => False) (Fr.of_below hb) (fun _ _ _ hs => hs.elim) (fun _ _ h => h) (fun _ _ h => h)
/-- The blocks are told apart by their types. -/
theorem WR.apart (h : WR w g o β φ ν es k way) : (∀ j, φ = some j → j ≠ g) ∧ (∀ j, ν = some j → j ≠ g) ∧ (∀ j, β = some j → j ≠ g) ∧ ∀ j, φ = some j → ν ≠ some j := by
  obtain ⟨cur, vE, vT, vF, vW, h1, h2, c0, c1, c2, c3, c4, c5, hE, ⟨βt, hT⟩, hO, hW⟩ := h.blk
  refine ⟨fun j hj e => ?_, fun j hj e => ?_, fun j hj e => ?_, fun j hj e => ?_⟩
  · subst hj
    obtain ⟨cs, hc⟩ := hO.blk
    rw [e, h1] at hc
    simp at hc
  · subst hj
    obtain ⟨cs, hc⟩ := SF.blk hW
    rw [e, h1] at hc
    simp at hc
  · subst hj
    obtain ⟨cs, hc⟩ := SF.blk hE
    rw [e, h1] at hc
    simp at hc
  · subst hj
    subst e
    obtain ⟨cs, hc⟩ := hO.blk
    obtain ⟨cs', hc'⟩ := SF.blk hW
    rw [hc] at hc'
    simp at hc'

/-- The six cells. -/
theorem WR.cells (h : WR w g o β φ ν es k way) : ∃ vE vT vF vW, SF edc 6 w 74 β vE es ∧ (∃ βt, SE w βt vT k.text) ∧ FO w φ vF k.forms ∧ SF vwc 3 w 72 ν vW way ∧ w.cell? ⟨g, o, none⟩ = some vE ∧ w.cell? ⟨g, o + 1, none⟩ = some vT ∧ w.cell? ⟨g, o + 2, none⟩ = some vF ∧ w.cell? ⟨g, o + 3, none⟩ = some vW ∧ w.cell? ⟨g, o + 4, none⟩ = some (.int .i64 k.hav) ∧ w.cell? ⟨g, o + 5, none⟩ = some (.int .i64 k.made) := by
  obtain ⟨cur, vE, vT, vF, vW, h1, h2, c0, c1, c2, c3, c4, c5, hE, hT, hO, hW⟩ := h.blk
  exact ⟨vE, vT, vF, vW, hE, hT, hO, hW, (cell_row h1 _).trans c0, (cell_row h1 _).trans c1, (cell_row h1 _).trans c2, (cell_row h1 _).trans c3, (cell_row h1 _).trans c4, (cell_row h1 _).trans c5⟩
theorem WR.frozen (h : WR w g o β φ ν es k way) (i : Nat) : w.frozen? ⟨g, i, none⟩ = false := by
  obtain ⟨cur, vE, vT, vF, vW, h1, -⟩ := h.blk
  exact frozen_row h1 i

/-- One field is written. -/
theorem WR.set (h : WR w g o β φ ν es k way) {j : Nat} (hj : j < 6) (v : Value) {φ' ν' : Option Nat} {k' : Wk} {way' : List PV} (hst : es.drop k'.made = k'.still) (hle : k'.text.length ≤ 4096)
    (hv : ∀ W, Fr (· = g) w W → ∀ vE vT vF vW, SF edc 6 W 74 β vE es → (∃ βt, SE W βt vT k.text) → FO W φ vF k.forms → SF vwc 3 W 72 ν vW way →
      (∃ βt, SE W βt (if j = 1 then v else vT) k'.text) ∧ FO W φ' (if j = 2 then v else vF) k'.forms ∧ SF vwc 3 W 72 ν' (if j = 3 then v else vW) way' ∧ (if j = 4 then v else .int .i64 k.hav) = .int .i64 k'.hav ∧ (if j = 5 then v else .int .i64 k.made) = .int .i64 k'.made)
    (hj0 : j ≠ 0) (hd' : ∀ p ∈ way', p ∈ way ∨ ∃ β, SE w β p.v p.doc) :
    WR (w.setCell ⟨g, o + j, none⟩ v) g o β φ' ν' es k' way' ∧ Oth g o w (w.setCell ⟨g, o + j, none⟩ v) ∧ Fr (· = g) w (w.setCell ⟨g, o + j, none⟩ v) := by
  obtain ⟨a1, a2, a3, -⟩ := h.apart
  obtain ⟨cur, vE, vT, vF, vW, h1, h2, c0, c1, c2, c3, c4, c5, hE, ⟨βt, hT⟩, hO, hW⟩ := h.blk
  have hF : Fr (· = g) w (w.setCell ⟨g, o + j, none⟩ v) := Fr.setCell _ _ _ rfl
  have tell : ∀ {β : Option Nat} {v' : Value} {t : List El}, SE w β v' t → SE (w.setCell ⟨g, o + j, none⟩ v) β v' t := fun {β v' t} hs => hs.fr hF (fun g' hg e => by
    subst hg
    obtain ⟨cs, hc⟩ := hs.blk
    rw [e, h1] at hc
    simp at hc)
  have hE' := hE.fr hF (fun g' hg e => a3 g' hg e)
  obtain ⟨z1, z2, z3, z4, z5⟩ := hv _ hF vE vT vF vW hE' ⟨βt, tell hT⟩ (hO.fr hF (fun g' hg e => a1 g' hg e)) (hW.fr hF (fun g' hg e => a2 g' hg e))
  refine ⟨⟨⟨_, vE, _, _, _, set_row h1 (o + j) v, by simpa using h2, ?_, ?_, ?_, ?_, ?_, ?_, hE', z1, z2, z3⟩, fun p hp => ?_, hst, hle⟩, Oth.set v ⟨by omega, by omega⟩, hF⟩
  · rw [Array.getElem?_setIfInBounds_ne (by omega)]; exact c0
  · by_cases e : j = 1
    · subst e; rw [Array.getElem?_setIfInBounds_self_of_lt (by omega)]; rfl
    · rw [Array.getElem?_setIfInBounds_ne (by omega), if_neg e]; exact c1
  · by_cases e : j = 2
    · subst e; rw [Array.getElem?_setIfInBounds_self_of_lt (by omega)]; rfl
    · rw [Array.getElem?_setIfInBounds_ne (by omega), if_neg e]; exact c2
  · by_cases e : j = 3
    · subst e; rw [Array.getElem?_setIfInBounds_self_of_lt (by omega)]; rfl
    · rw [Array.getElem?_setIfInBounds_ne (by omega), if_neg e]; exact c3
  · by_cases e : j = 4
    · subst e; rw [Array.getElem?_setIfInBounds_self_of_lt (by omega)]; simpa using z4
    · rw [Array.getElem?_setIfInBounds_ne (by omega), c4]; simpa [e] using z4
  · by_cases e : j = 5
    · subst e; rw [Array.getElem?_setIfInBounds_self_of_lt (by omega)]; simpa using z5
    · rw [Array.getElem?_setIfInBounds_ne (by omega), c5]; simpa [e] using z5
  · rcases hd' p hp with hp | ⟨β', hs⟩
    · obtain ⟨β', hs⟩ := h.docs p hp
      exact ⟨β', tell hs⟩
    · exact ⟨β', tell hs⟩

theorem WR.setHav (h : WR w g o β φ ν es k way) (m : Nat) : WR (w.setCell ⟨g, o + 4, none⟩ (.int .i64 m)) g o β φ ν es ⟨k.still, k.text, k.forms, m, k.made⟩ way ∧ Oth g o w (w.setCell ⟨g, o + 4, none⟩ (.int .i64 m)) ∧ Fr (· = g) w (w.setCell ⟨g, o + 4, none⟩ (.int .i64 m)) :=
  h.set (j := 4) (by omega) _ h.st h.le (fun W hF vE vT vF vW hE hT hO hW => ⟨hT, hO, hW, rfl, rfl⟩) (by omega) (fun p hp => .inl hp)
theorem WR.setMade (h : WR w g o β φ ν es k way) (m : Nat) : WR (w.setCell ⟨g, o + 5, none⟩ (.int .i64 m)) g o β φ ν es ⟨es.drop m, k.text, k.forms, k.hav, m⟩ way ∧ Oth g o w (w.setCell ⟨g, o + 5, none⟩ (.int .i64 m)) ∧ Fr (· = g) w (w.setCell ⟨g, o + 5, none⟩ (.int .i64 m)) :=
  h.set (j := 5) (by omega) _ rfl h.le (fun W hF vE vT vF vW hE hT hO hW => ⟨hT, hO, hW, rfl, rfl⟩) (by omega) (fun p hp => .inl hp)
theorem WR.elg (h : WR w g o β φ ν es k way) {W : World} (hF : Fr (· = g) w W) {βt : Option Nat} {v : Value} {t : List El} (hs : SE w βt v t) : SE W βt v t := hs.fr hF (fun g' hg e => by
  subst hg
  obtain ⟨cs, hc⟩ := hs.blk
  obtain ⟨cur, vE, vT, vF, vW, h1, -⟩ := h.blk
  rw [e, h1] at hc
  simp at hc)
theorem WR.setText (h : WR w g o β φ ν es k way) {βt : Option Nat} {v : Value} {t : List El} (hs : SE w βt v t) (hl : t.length ≤ 4096) : WR (w.setCell ⟨g, o + 1, none⟩ v) g o β φ ν es ⟨k.still, t, k.forms, k.hav, k.made⟩ way ∧ Oth g o w (w.setCell ⟨g, o + 1, none⟩ v) ∧ Fr (· = g) w (w.setCell ⟨g, o + 1, none⟩ v) :=
  h.set (j := 1) (by omega) _ h.st hl (fun W hF vE vT vF vW hE hT hO hW => ⟨⟨βt, h.elg hF hs⟩, hO, hW, rfl, rfl⟩) (by omega) (fun p hp => .inl hp)
theorem WR.setForms (h : WR w g o β φ ν es k way) {φ' : Option Nat} {v : Value} {fs : List OpE} (hs : FO w φ' v fs) : WR (w.setCell ⟨g, o + 2, none⟩ v) g o β φ' ν es ⟨k.still, k.text, fs, k.hav, k.made⟩ way ∧ Oth g o w (w.setCell ⟨g, o + 2, none⟩ v) ∧ Fr (· = g) w (w.setCell ⟨g, o + 2, none⟩ v) :=
  h.set (j := 2) (by omega) _ h.st h.le (fun W hF vE vT vF vW hE hT hO hW => ⟨hT, hs.fr hF (fun g' hg e => by
    subst hg
    obtain ⟨cs, hc⟩ := hs.blk
    obtain ⟨cur, vE, vT, vF, vW, h1, -⟩ := h.blk
    rw [e, h1] at hc
    simp at hc), hW, rfl, rfl⟩) (by omega) (fun p hp => .inl hp)
theorem WR.setWay (h : WR w g o β φ ν es k way) {ν' : Option Nat} {v : Value} {way' : List PV} (hs : SF vwc 3 w 72 ν' v way') (hd' : ∀ p ∈ way', p ∈ way ∨ ∃ β, SE w β p.v p.doc) : WR (w.setCell ⟨g, o + 3, none⟩ v) g o β φ ν' es k way' ∧ Oth g o w (w.setCell ⟨g, o + 3, none⟩ v) ∧ Fr (· = g) w (w.setCell ⟨g, o + 3, none⟩ v) :=
  h.set (j := 3) (by omega) _ h.st h.le (fun W hF vE vT vF vW hE hT hO hW => ⟨hT, hO, hs.fr hF (fun g' hg e => by
    subst hg
    obtain ⟨cs, hc⟩ := SF.blk hs
    obtain ⟨cur, vE, vT, vF, vW, h1, -⟩ := h.blk
    rw [e, h1] at hc
    simp at hc), rfl, rfl⟩) (by omega) hd'
end

end Go.Proofs.YtfhghijefjhehaaGreatDoor
