/-
  HistoryChecks, without memory: the program and the document ask the same of an event.
-/
import Derived.Test.YtfhghijefjhehaaDoorHb
namespace Go.Proofs.YtfhghijefjhehaaDoor
set_option linter.unusedVariables false

section
variable (chg : OpE → Prop) (fit : Nat → OpE → Prop) (C : Int) (log : List Ed)

/-- hasUnmade, isAsLogged of the program. -/
def unm (c made hav : Int) : Prop := ∃ (q : Nat) (h : q < (lgAt log log.length c).length), (q : Int) = made ∧ (((lgAt log log.length c)[q] : Nat) : Int) < hav
def asL (x : Ed) : Prop := ((lgAt log log.length x.o.cl).length : Int) < x.o.sq ∨ ∃ (q : Nat) (h : q < (lgAt log log.length x.o.cl).length), (q : Int) + 1 = x.o.sq ∧ log[(lgAt log log.length x.o.cl)[q]]? = some x

/-- The program: canFollow and canShow (st: the step of the event ahead; p: the site's event before). -/
def canS (st : Int) (p e : Ev) : Prop :=
  (0 ≤ e.site ∧ e.site ≤ C ∧ st ≤ e.step ∧ e.len ≤ 4096) ∧ (p.hav ≤ e.hav ∧ e.hav ≤ log.length) ∧
  ((e.site = 0 ∧ e.made = 0 ∧ e.o = zo) ∨ (e.site ≠ 0 ∧ e.o ≠ zo ∧ (e.o.cl = e.site ∧ e.o.sq = e.made ∧ e.made = p.made + 1 ∧ e.hav = p.hav) ∧ chg e.o ∧ fit p.len e.o ∧ asL log ⟨e.hav, e.o⟩) ∨ (e.site ≠ 0 ∧ e.o = zo ∧ e.made = p.made ∧ ¬ unm log e.site e.made e.hav))
/-- The document: can. -/
def canR (st : Int) (p e : Ev) : Prop :=
  (0 ≤ e.site ∧ e.site ≤ C ∧ st ≤ e.step ∧ e.len ≤ 4096 ∧ p.hav ≤ e.hav ∧ e.hav ≤ log.length) ∧
  ((e.site = 0 ∧ e.made = 0 ∧ e.o = zo) ∨ (e.site ≠ 0 ∧ e.o = zo ∧ e.made = p.made ∧ ((ownN (log := log) e.hav.toNat e.site : Nat) : Int) ≤ e.made) ∨
   (e.site ≠ 0 ∧ e.o ≠ zo ∧ chg e.o ∧ e.o.cl = e.site ∧ e.o.sq = e.made ∧ e.made = p.made + 1 ∧ e.hav = p.hav ∧ fit p.len e.o ∧ ∀ (k : Nat) (x : Ed), log[k]? = some x → x.o.cl = e.site → x.o.sq = e.made → x = ⟨e.hav, e.o⟩))

variable {chg fit C log}
theorem unm_iff (c made hav : Int) (hm : 0 ≤ made) (hh : 0 ≤ hav) : ¬ unm log c made hav ↔ ((ownN (log := log) hav.toNat c : Nat) : Int) ≤ made := by
  obtain ⟨m, rfl⟩ : ∃ m : Nat, made = (m : Int) := ⟨made.toNat, by omega⟩
  obtain ⟨n, rfl⟩ : ∃ n : Nat, hav = (n : Int) := ⟨hav.toNat, by omega⟩
  have h := unmade_iff (log := log) c m n
  have e : unm log c (m : Int) (n : Int) ↔ ∃ h : m < (lgAt log log.length c).length, (lgAt log log.length c)[m] < n := by
    unfold unm
    constructor
    · rintro ⟨q, hq, e1, e2⟩
      have : q = m := by omega
      subst this
      exact ⟨hq, by omega⟩
    · rintro ⟨hq, e2⟩
      exact ⟨m, hq, rfl, by omega⟩
  rw [e, h, Decidable.not_not, Int.toNat_natCast]
  omega
theorem asL_iff (h : GoodL chg C log log.length) (x : Ed) (hs : 1 ≤ x.o.sq) : asL log x ↔ ∀ (k : Nat) (y : Ed), log[k]? = some y → y.o.cl = x.o.cl → y.o.sq = x.o.sq → y = x := by
  obtain ⟨q, hq⟩ : ∃ q : Nat, x.o.sq = (q : Int) + 1 := ⟨(x.o.sq - 1).toNat, by omega⟩
  have := logged_iff h x.o.cl q x
  rw [hq, ← this]
  unfold asL
  constructor
  · rintro (a | ⟨q', h', e1, e2⟩) hl
    · omega
    · have : q' = q := by omega
      subst this
      exact e2
  · intro hx
    by_cases hl : q < (lgAt log log.length x.o.cl).length
    · exact .inr ⟨q, hl, hq.symm, hx hl⟩
    · exact .inl (by omega)

/-- Both ask the same. -/
theorem canS_iff (hg : GoodL chg C log log.length) (hch : ∀ o, chg o → 1 ≤ o.sq) {st : Int} {p e : Ev} (hp : 0 ≤ p.hav) (hm : 0 ≤ p.made) : canS chg fit C log st p e ↔ canR chg fit C log st p e := by
  unfold canS canR
  constructor
  · rintro ⟨⟨a1, a2, a3, a4⟩, ⟨a5, a6⟩, h⟩
    refine ⟨⟨a1, a2, a3, a4, a5, a6⟩, ?_⟩
    rcases h with h | ⟨h1, h2, ⟨h3, h4, h5, h6⟩, h7, h8, h9⟩ | ⟨h1, h2, h3, h4⟩
    · exact .inl h
    · refine .inr (.inr ⟨h1, h2, h7, h3, h4, h5, h6, h8, ?_⟩)
      have := (asL_iff hg ⟨e.hav, e.o⟩ (hch _ h7)).1 h9
      intro k x hk hc hs
      exact this k x hk (by rw [hc]; exact h3.symm) (by rw [hs]; exact h4.symm)
    · exact .inr (.inl ⟨h1, h2, h3, (unm_iff _ _ _ (by omega) (by omega)).1 h4⟩)
  · rintro ⟨⟨a1, a2, a3, a4, a5, a6⟩, h⟩
    refine ⟨⟨a1, a2, a3, a4⟩, ⟨a5, a6⟩, ?_⟩
    rcases h with h | ⟨h1, h2, h3, h4⟩ | ⟨h1, h2, h7, h3, h4, h5, h6, h8, h9⟩
    · exact .inl h
    · exact .inr (.inr ⟨h1, h2, h3, (unm_iff _ _ _ (by omega) (by omega)).2 h4⟩)
    · refine .inr (.inl ⟨h1, h2, ⟨h3, h4, h5, h6⟩, h7, h8, ?_⟩)
      refine (asL_iff hg ⟨e.hav, e.o⟩ (hch _ h7)).2 (fun k x hk hc hs => ?_)
      exact h9 k x hk (hc.trans h3) (hs.trans h4)

/-- What can be is known as the last loop wants it. -/
theorem canR.fact {evs : List Ev} {j : Nat} {st : Int} {e : Ev} (h : canR chg fit C log st (pv evs j e.site) e) : FactE evs log j e := by
  obtain ⟨-, h⟩ := h
  rcases h with ⟨h1, h2, h3⟩ | ⟨h1, h2, h3, h4⟩ | ⟨h1, h2, h7, h3, h4, h5, h6, h8, h9⟩
  · exact ⟨fun _ => h3, fun a => absurd h1 a, fun a => absurd h1 a⟩
  · exact ⟨fun a => absurd a h1, fun _ _ => h3, fun _ a => absurd h2 a⟩
  · exact ⟨fun a => absurd a h1, fun _ a => absurd a h2, fun _ _ => ⟨h3, h4, h5, h9⟩⟩
theorem canR.nonneg {st : Int} {p e : Ev} (h : canR chg fit C log st p e) (hp : 0 ≤ p.hav) (hm : 0 ≤ p.made) : 0 ≤ e.hav ∧ 0 ≤ e.made := by
  obtain ⟨⟨-, -, -, -, a5, -⟩, h⟩ := h
  rcases h with ⟨h1, h2, h3⟩ | ⟨h1, h2, h3, h4⟩ | ⟨h1, h2, h7, h3, h4, h5, h6, h8, h9⟩ <;> exact ⟨by omega, by omega⟩
end

end Go.Proofs.YtfhghijefjhehaaDoor
