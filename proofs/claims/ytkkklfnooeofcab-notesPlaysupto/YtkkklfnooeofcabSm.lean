/-
  The map of spots: keyed by elements.
-/
import Derived.Test.YtkkklfnooeofcabMp
namespace Go.Proofs.Ytkkklfnooeofcab
open Go.RowKit Go.Maps Go.ChangeMaps Go.MapKept Go.WideMaps
set_option linter.unusedVariables false

def elV (x : El) : Value := .agg #[.int .u8 x.1, .int .i64 x.2.1, .int .i64 x.2.2]

theorem laidOutK : laidOutB Try.prog = true := by kernel_rfl
theorem rowEl : (41 : TypeId) < Try.prog.types.size := of_decide_eq_true (by kernel_rfl)
theorem ktEl : Try.prog.keyTypeAt 2 41 = true := by kernel_rfl
theorem lawK : KeyLaw Try.prog 41 := deep_law_laid laidOutK (m := 2) (Nat.le_of_lt_succ (by decide)) rowEl ktEl (by rw [Try.underlying41])
theorem lawEl : Keyed Try.prog 41 := Keyed.of_law lawK

def wfE (x : El) : Prop := (0 ≤ x.1 ∧ x.1 ≤ 255) ∧ (-9223372036854775808 ≤ x.2.1 ∧ x.2.1 ≤ 9223372036854775807) ∧ (-9223372036854775808 ≤ x.2.2 ∧ x.2.2 ≤ 9223372036854775807)
def kE (x : El) : Lit := .string (keyBytes [.int .u8 x.1, .int .i64 x.2.1, .int .i64 x.2.2])

theorem keyTypeEl : Try.prog.keyType 41 = true := by kernel_rfl
theorem cellsElK : Try.prog.cellsOf 41 = 3 := by kernel_rfl
theorem cellsI : Try.prog.cellsOf 3 = 1 := by kernel_rfl
theorem cellsU8 : Try.prog.cellsOf 5 = 1 := by kernel_rfl
theorem formedEl {a b c : Value} : (Value.agg #[a, b, c]).formed Try.prog 41 = true := by simp [Value.formed, Try.underlying41, cellsElK]
theorem key_el {x : El} (h : wfE x) : keyOf Try.prog 41 (elV x) = some (kE x) := by
  obtain ⟨a, b, c⟩ := x
  obtain ⟨⟨h0, h1⟩, ⟨h2, h3⟩, h4, h5⟩ := h
  simp only at h0 h1 h2 h3 h4 h5
  have w0 : (Lit.int .u8 a).wf = true := WalkArith.wf_u8 ⟨h0, h1⟩
  have w1 : (Lit.int .i64 b).wf = true := WalkArith.wf_i64 (by omega)
  have w2 : (Lit.int .i64 c).wf = true := WalkArith.wf_i64 (by omega)
  obtain ⟨n, hn⟩ : ∃ n, Try.prog.types.size + 1 = n + 1 + 1 := ⟨Try.prog.types.size - 1, by have h := rowEl; have h1 : 0 < Try.prog.types.size := Nat.lt_of_le_of_lt (Nat.zero_le _) h; omega⟩
  unfold keyOf elV kE
  rw [Try.underlying41, keyTypeEl, formedEl, hn]
  simp [Program.keyLits, Try.underlying41, Try.underlying3, Try.underlying5, cellsElK, cellsI, cellsU8, Value.cells, w0, w1, w2]

theorem elV_inj {x y : El} (h : elV x = elV y) : x = y := by
  obtain ⟨a, b, c⟩ := x
  obtain ⟨a', b', c'⟩ := y
  simp [elV] at h
  obtain ⟨rfl, rfl, rfl⟩ := h
  rfl
theorem kE_inj {x y : El} (hx : wfE x) (hy : wfE y) (h : kE x = kE y) : x = y := elV_inj (lawEl.inj (key_el hx) (h ▸ key_el hy))

def spV (s : Nat × Nat) : Value := .agg #[.int .i64 s.1, .int .i64 s.2]
theorem zeroS (w : World) : (zeroValue 98).run Try.prog w = .ok (spV (0, 0)) w := by kernel_rfl

theorem spP_mem {xs : List El} {x : El} : x ∈ xs → ∃ s, spP xs x = some s := by
  intro h
  have := spP_ok xs x
  cases hs : spP xs x with
  | none => rw [hs] at this; exact absurd h this
  | some s => exact ⟨s, rfl⟩
theorem spP_in {xs : List El} {x : El} {s : Nat × Nat} (h : spP xs x = some s) : x ∈ xs := by
  have := spP_ok xs x
  rw [h] at this
  exact List.mem_of_getElem? this.2.2.1

/-- Block b is the map of the spots of the text xs. -/
def SM (w : World) (b : Nat) (xs : List El) : Prop :=
  ∃ D : DataW Value, w.ownsMap Try.prog 41 RV b xs.length D ∧ (∀ x ∈ xs, wfE x) ∧ (∀ x s, spP xs x = some s → ∀ z, D.atKey (kE x) z = .held (spV s)) ∧ (∀ kl, Maps.has D kl = true → ∃ x ∈ xs, kl = kE x)

theorem SM.lt {w : World} {b : Nat} {xs : List El} (h : SM w b xs) : b < w.heap.size := by
  obtain ⟨D, h, -⟩ := h
  exact h.lt
theorem SM.fr {S : Nat → Prop} {w w' : World} {b : Nat} {xs : List El} (h : SM w b xs) (hF : Fr S w w') (hS : ¬ S b) : SM w' b xs := by
  obtain ⟨D, ⟨es, clock, hb, r⟩, q⟩ := h
  exact ⟨D, ⟨es, clock, hF.keeps hb hS, r⟩, q⟩
theorem SM.below {w w' : World} {b : Nat} {xs : List El} (h : SM w b xs) (hb : Below w.heap.size w w') : SM w' b xs := h.fr (S := fun _ => False) (Fr.of_below hb) (fun h => h)
theorem SM.map {w : World} {b : Nat} {xs : List El} (h : SM w b xs) : ∃ es clock, w.heap[b]? = some (.map es clock) := by
  obtain ⟨D, ⟨es, clock, hb, r⟩, q⟩ := h
  exact ⟨es, clock, hb⟩
theorem SM.wf {w : World} {b : Nat} {xs : List El} (h : SM w b xs) : ∀ x ∈ xs, wfE x := by
  obtain ⟨D, -, hk, -⟩ := h
  exact hk
theorem SM.made (w : World) : SM (w.alloc (.map #[] 0)) w.heap.size [] :=
  ⟨_, World.ownsMap_made w Try.prog 41 RV, by simp, fun x s h => (by cases h), fun kl h => (by cases h)⟩

theorem SM.has {w : World} {b : Nat} {xs : List El} {D : DataW Value} (hk : ∀ x ∈ xs, wfE x) (ha : ∀ x s, spP xs x = some s → ∀ z, D.atKey (kE x) z = .held (spV s)) (hf : ∀ kl, Maps.has D kl = true → ∃ x ∈ xs, kl = kE x) {x : El} (hx : wfE x) : Maps.has D (kE x) = (spP xs x).isSome := by
  cases hs : spP xs x with
  | some s => exact has_true_of_atKey (ha x s hs)
  | none =>
    cases hh : Maps.has D (kE x) with
    | false => rfl
    | true =>
      obtain ⟨y, hy, e⟩ := hf _ hh
      obtain rfl := kE_inj hx (hk y hy) e
      obtain ⟨s, hs'⟩ := spP_mem hy
      rw [hs] at hs'
      cases hs'

theorem SM.look {w : World} {b : Nat} {xs : List El} (h : SM w b xs) {x : El} (hx : wfE x) : (Instr.lookup 80 (.map (some b)) (elV x) true).run Try.prog w = .ok (.tuple #[spV ((spP xs x).getD (0, 0)), .bool (spP xs x).isSome]) w := by
  obtain ⟨D, hown, hk, ha, hf⟩ := h
  obtain ⟨v', ps, hrun, hv⟩ := hown.look_ok lawEl Try.underlying80 (zeroS w) (zd := .held (spV (0, 0))) (zp := []) rfl (key_el hx)
  have hh := SM.has (w := w) (b := b) hk ha hf hx
  have e : v' = spV ((spP xs x).getD (0, 0)) := by
    unfold RV at hv
    have hv' := congrArg (Option.map Prod.fst) hv
    simp only [Option.map_some, Option.some.injEq] at hv'
    cases hs : spP xs x with
    | some s =>
      rw [ha x s hs] at hv'
      injection hv'
    | none =>
      rw [hs] at hh
      rw [atKey_of_not_has hh] at hv'
      injection hv'
  rw [hrun, e, hh]

theorem SM.put {w : World} {b : Nat} {xs : List El} (h : SM w b xs) {x : El} (hx : wfE x) (hn : xs.length < 9223372036854775807) {v : Value} {s : Nat × Nat} (hs : spP (xs ++ [x]) x = some s) (hv : v = spV s) :
    ∃ w', (Instr.mapUpdate 80 (.map (some b)) (elV x) v).run Try.prog w = .ok () w' ∧ SM w' b (xs ++ [x]) ∧ Fr (· = b) w w' := by
  subst hv
  obtain ⟨D, hown, hk, ha, hf⟩ := h
  obtain ⟨w', hrun, h1, h2⟩ := hown.update lawEl Try.underlying80 (show xs.length < maxLen from hn) (key_el hx) (d := .held (spV s)) (ps := []) rfl
  have hwf : ∀ y ∈ xs ++ [x], wfE y := by
    intro y hy
    rcases List.mem_append.1 hy with hy | hy
    · exact hk y hy
    · rw [List.mem_singleton.1 hy]; exact hx
  refine ⟨w', hrun, ⟨_, by simpa using h1, hwf, ?_, ?_⟩, fr_grown h2⟩
  · intro y s' hy z
    by_cases e : y = x
    · subst e
      rw [hs] at hy
      cases hy
      exact atKey_put_same hown.isMap (lawEl.key (key_el hx)) _ _
    · rw [atKey_put_other (fun hh => e (kE_inj (hwf y (spP_in hy)) hx hh))]
      rw [spP_snoc, if_neg e] at hy
      exact ha y s' hy z
  · intro kl hh
    by_cases e : kl = kE x
    · exact ⟨x, by simp, e⟩
    · rw [has_put_other e] at hh
      obtain ⟨y, hy, e⟩ := hf kl hh
      exact ⟨y, by simp [hy], e⟩

end Go.Proofs.Ytkkklfnooeofcab
