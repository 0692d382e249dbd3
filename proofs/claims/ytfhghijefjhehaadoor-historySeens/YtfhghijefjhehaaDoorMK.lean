/-
  Texts put together: Jl Js.
-/
import Derived.Test.YtfhghijefjhehaaDoorMJ
import Derived.Maps.RangeWalk
import Derived.Maps.Own
import Derived.DeepKeys4
import Derived.Shelf.SlSortCmp.WholeK
import Derived.Shelf.SlGeneric
import Derived.Test.YtfhghijefjhehaaDoorRows
/-! Jl -/
namespace Go.Proofs.YtfhghijefjhehaaDoor
open Go.RowKit Go.Maps Go.ChangeMaps Go.MapKept Go.WideMaps
set_option linter.unusedVariables false

/-- How an element of the map reads: as itself. -/
def RV (v : Value) : Option (DataW Value × List MemPlace) := some (.held v, [])

theorem laidOutK : laidOutB Tryd.prog = true := by kernel_rfl
theorem rowEl : (64 : TypeId) < Tryd.prog.types.size := of_decide_eq_true (by kernel_rfl)
theorem wideEl : (match Tryd.prog.underlying 64 with | some (.array _ _) | some (.struct _) => true | _ => false) = true := by rw [Tryd.underlying64]
theorem ktEl : Tryd.prog.keyTypeAt 2 64 = true := by kernel_rfl
theorem lawK : KeyLaw Tryd.prog 64 := deep_law_laid laidOutK (m := 2) (Nat.le_of_lt_succ (by decide)) rowEl ktEl (by rw [Tryd.underlying64])
theorem lawEl : Keyed Tryd.prog 64 := Keyed.of_law lawK

def wfE (x : El) : Prop := (0 ≤ x.1 ∧ x.1 ≤ 255) ∧ (-9223372036854775808 ≤ x.2.1 ∧ x.2.1 ≤ 9223372036854775807) ∧ (-9223372036854775808 ≤ x.2.2 ∧ x.2.2 ≤ 9223372036854775807)
def kE (x : El) : Lit := .string (keyBytes [.int .u8 x.1, .int .i64 x.2.1, .int .i64 x.2.2])

theorem keyTypeEl : Tryd.prog.keyType 64 = true := by kernel_rfl
theorem cellsElK : Tryd.prog.cellsOf 64 = 3 := by kernel_rfl
theorem cellsI : Tryd.prog.cellsOf 3 = 1 := by kernel_rfl
theorem cellsU8 : Tryd.prog.cellsOf 5 = 1 := by kernel_rfl
theorem formedEl {a b c : Value} : (Value.agg #[a, b, c]).formed Tryd.prog 64 = true := by simp [Value.formed, Tryd.underlying64, cellsElK]
theorem key_el {x : El} (h : wfE x) : keyOf Tryd.prog 64 (elV x) = some (kE x) := by
  obtain ⟨a, b, c⟩ := x
  obtain ⟨⟨h0, h1⟩, ⟨h2, h3⟩, h4, h5⟩ := h
  simp only at h0 h1 h2 h3 h4 h5
  have w0 : (Lit.int .u8 a).wf = true := WalkArith.wf_u8 ⟨h0, h1⟩
  have w1 : (Lit.int .i64 b).wf = true := WalkArith.wf_i64 (by omega)
  have w2 : (Lit.int .i64 c).wf = true := WalkArith.wf_i64 (by omega)
  obtain ⟨n, hn⟩ : ∃ n, Tryd.prog.types.size + 1 = n + 1 + 1 := ⟨Tryd.prog.types.size - 1, by have h := rowEl; have h1 : 0 < Tryd.prog.types.size := Nat.lt_of_le_of_lt (Nat.zero_le _) h; omega⟩
  unfold keyOf elV kE
  rw [Tryd.underlying64, keyTypeEl, formedEl, hn]
  simp [Program.keyLits, Tryd.underlying64, Tryd.underlying3, Tryd.underlying5, cellsElK, cellsI, cellsU8, Value.cells, w0, w1, w2]

theorem elV_inj {x y : El} (h : elV x = elV y) : x = y := by
  obtain ⟨a, b, c⟩ := x
  obtain ⟨a', b', c'⟩ := y
  simp [elV] at h
  obtain ⟨rfl, rfl, rfl⟩ := h
  rfl
theorem kE_inj {x y : El} (hx : wfE x) (hy : wfE y) (h : kE x = kE y) : x = y := elV_inj (lawEl.inj (key_el hx) (h ▸ key_el hy))

def fV (m g : Bool) : Value := .agg #[.bool m, .bool g, .int .i64 0]
theorem zeroF (w : World) : (zeroValue 95).run Tryd.prog w = .ok (fV false false) w := by kernel_rfl

noncomputable def madeB (V : List Dd) (x : El) : Bool := open Classical in decide (∃ d ∈ V, d.e.o.kind = 1 ∧ dEl d = x)
noncomputable def goneB (V : List Dd) (x : El) : Bool := open Classical in decide (∃ d ∈ V, d.e.o.kind ≠ 1 ∧ dEl d = x)
theorem made_app (V : List Dd) (d : Dd) (x : El) : madeB (V ++ [d]) x = (madeB V x || open Classical in decide (d.e.o.kind = 1 ∧ dEl d = x)) := by
  unfold madeB
  rw [Bool.eq_iff_iff]
  simp only [Bool.or_eq_true, decide_eq_true_eq, List.mem_append, List.mem_singleton]
  constructor
  · rintro ⟨y, hy | rfl, h⟩
    · exact .inl ⟨y, hy, h⟩
    · exact .inr h
  · rintro (⟨y, hy, h⟩ | h)
    · exact ⟨y, .inl hy, h⟩
    · exact ⟨d, .inr rfl, h⟩
theorem gone_app (V : List Dd) (d : Dd) (x : El) : goneB (V ++ [d]) x = (goneB V x || open Classical in decide (d.e.o.kind ≠ 1 ∧ dEl d = x)) := by
  unfold goneB
  rw [Bool.eq_iff_iff]
  simp only [Bool.or_eq_true, decide_eq_true_eq, List.mem_append, List.mem_singleton]
  constructor
  · rintro ⟨y, hy | rfl, h⟩
    · exact .inl ⟨y, hy, h⟩
    · exact .inr h
  · rintro (⟨y, hy, h⟩ | h)
    · exact ⟨y, .inl hy, h⟩
    · exact ⟨d, .inr rfl, h⟩
theorem made_none {V : List Dd} {x : El} (h : ¬ ∃ d ∈ V, dEl d = x) : madeB V x = false := by
  unfold madeB
  simp only [decide_eq_false_iff_not]
  rintro ⟨d, hd, -, e⟩
  exact h ⟨d, hd, e⟩
theorem gone_none {V : List Dd} {x : El} (h : ¬ ∃ d ∈ V, dEl d = x) : goneB V x = false := by
  unfold goneB
  simp only [decide_eq_false_iff_not]
  rintro ⟨d, hd, -, e⟩
  exact h ⟨d, hd, e⟩

/-- Block b is the map of the fates behind the deeds V. -/
def MS (w : World) (b : Nat) (V : List Dd) : Prop :=
  ∃ D : DataW Value, w.ownsMap Tryd.prog 64 RV b V.length D ∧ (∀ d ∈ V, wfE (dEl d)) ∧ (∀ d ∈ V, ∀ z, D.atKey (kE (dEl d)) z = .held (fV (madeB V (dEl d)) (goneB V (dEl d)))) ∧ (∀ kl, Maps.has D kl = true → ∃ d ∈ V, kl = kE (dEl d))

theorem MS.lt {w : World} {b : Nat} {V : List Dd} (h : MS w b V) : b < w.heap.size := by
  obtain ⟨D, h, -⟩ := h
  exact h.lt
theorem MS.fr {S : Nat → Prop} {w w' : World} {b : Nat} {V : List Dd} (h : MS w b V) (hF : Fr S w w') (hS : ¬ S b) : MS w' b V := by
  obtain ⟨D, ⟨es, clock, hb, r⟩, q⟩ := h
  exact ⟨D, ⟨es, clock, hF.keeps hb hS, r⟩, q⟩
theorem MS.map {w : World} {b : Nat} {V : List Dd} (h : MS w b V) : ∃ es clock, w.heap[b]? = some (.map es clock) := by
  obtain ⟨D, ⟨es, clock, hb, r⟩, q⟩ := h
  exact ⟨es, clock, hb⟩
theorem MS.made (w : World) : MS (w.alloc (.map #[] 0)) w.heap.size [] :=
  ⟨_, World.ownsMap_made w Tryd.prog 64 RV, by simp, by simp, fun kl h => by cases h⟩
theorem fr_grown {w w' : World} {b : Nat} (h : w.grownBy w' (some b)) : Fr (· = b) w w' := ⟨h.os, h.tape, h.output, h.size, fun k hk hn => h.block k hk (fun e => hn (by injection e))⟩

theorem MS.look {w : World} {b : Nat} {V : List Dd} (h : MS w b V) {x : El} (hx : wfE x) : (Instr.lookup 91 (.map (some b)) (elV x) false).run Tryd.prog w = .ok (fV (madeB V x) (goneB V x)) w := by
  obtain ⟨D, hown, hk, ha, hf⟩ := h
  obtain ⟨v', ps, hrun, hv⟩ := hown.lookup lawEl Tryd.underlying91 (zeroF w) (zd := .held (fV false false)) (zp := []) rfl (key_el hx)
  have e : v' = fV (madeB V x) (goneB V x) := by
    unfold RV at hv
    have hv' := congrArg (Option.map Prod.fst) hv
    simp only [Option.map_some, Option.some.injEq] at hv'
    by_cases hm : ∃ d ∈ V, dEl d = x
    · obtain ⟨d, hd, rfl⟩ := hm
      rw [ha d hd] at hv'
      injection hv'
    · have hn : Maps.has D (kE x) = false := by
        cases hh : Maps.has D (kE x) with
        | false => rfl
        | true =>
          obtain ⟨d, hd, e⟩ := hf _ hh
          exact absurd ⟨d, hd, (kE_inj hx (hk d hd) e).symm⟩ hm
      rw [atKey_of_not_has hn] at hv'
      rw [made_none hm, gone_none hm]
      injection hv'
  rw [hrun, e]

theorem MS.put {w : World} {b : Nat} {V : List Dd} (h : MS w b V) {d : Dd} (hd : wfE (dEl d)) (hn : V.length < 9223372036854775807) {v : Value} (hv : v = fV (madeB (V ++ [d]) (dEl d)) (goneB (V ++ [d]) (dEl d))) :
    ∃ w', (Instr.mapUpdate 91 (.map (some b)) (elV (dEl d)) v).run Tryd.prog w = .ok () w' ∧ MS w' b (V ++ [d]) ∧ Fr (· = b) w w' := by
  subst hv
  obtain ⟨D, hown, hk, ha, hf⟩ := h
  obtain ⟨w', hrun, h1, h2⟩ := hown.update lawEl Tryd.underlying91 (show V.length < maxLen from hn) (key_el hd) (d := .held (fV (madeB (V ++ [d]) (dEl d)) (goneB (V ++ [d]) (dEl d)))) (ps := []) rfl
  refine ⟨w', hrun, ⟨_, by simpa using h1, ?_, ?_, ?_⟩, fr_grown h2⟩
  · intro y hy
    rcases List.mem_append.1 hy with hy | hy
    · exact hk y hy
    · rw [List.mem_singleton.1 hy]; exact hd
  · intro y hy z
    have hyw : wfE (dEl y) := by
      rcases List.mem_append.1 hy with hy | hy
      · exact hk y hy
      · rw [List.mem_singleton.1 hy]; exact hd
    by_cases e : dEl y = dEl d
    · rw [e]
      exact atKey_put_same hown.isMap (lawEl.key (key_el hd)) _ _
    · rw [atKey_put_other (fun hh => e (kE_inj hyw hd hh))]
      have hy' : y ∈ V := by
        rcases List.mem_append.1 hy with hy | hy
        · exact hy
        · exact absurd (by rw [List.mem_singleton.1 hy]) e
      rw [ha y hy', made_app, gone_app]
      have e' : ¬ dEl d = dEl y := fun h => e h.symm
      simp [e']
  · intro kl hh
    by_cases e : kl = kE (dEl d)
    · exact ⟨d, by simp, e⟩
    · rw [has_put_other e] at hh
      obtain ⟨y, hy, e⟩ := hf kl hh
      exact ⟨y, by simp [hy], e⟩

end Go.Proofs.YtfhghijefjhehaaDoor

/-! Js -/
namespace Go.Proofs.YtfhghijefjhehaaDoor
open Go.Shelf
def sortEl_ren : Go.Shelf.Ren := ⟨fun | 6 => 37 | 15 => 59 | 14 => 58 | 28 => 76 | 29 => 77 | 20 => 68 | 21 => 69 | 22 => 70 | 23 => 71 | 24 => 72 | 25 => 73 | 26 => 74 | 27 => 75 | 46 => 81 | 47 => 82 | 48 => 83 | 49 => 84 | 50 => 85 | 57 => 86 | n => n, fun | 22 => 35 | 24 => 64 | 25 => 100 | 3 => 3 | 39 => 124 | 0 => 0 | 53 => 153 | 55 => 155 | 4 => 4 | 46 => 146 | 45 => 145 | 50 => 150 | 5 => 5 | 9 => 9 | 66 => 159 | 70 => 163 | 76 => 165 | 77 => 30 | n => n, fun | n => n⟩
theorem sortEl : Go.Proofs.SlLaysF0.n6 Tryd.prog sortEl_ren := {
  mixed := by kernel_rfl
  f6 := ⟨Tryd.f37.name, by decide, Tryd.func37.trans (congrArg some (by kernel_rfl))⟩
  f14 := ⟨Tryd.f58.name, by decide, Tryd.func58.trans (congrArg some (by kernel_rfl))⟩
  f15 := Tryd.func59.trans (congrArg some (by kernel_rfl))
  f20 := ⟨Tryd.f68.name, by decide, Tryd.func68.trans (congrArg some (by kernel_rfl))⟩
  f21 := ⟨Tryd.f69.name, by decide, Tryd.func69.trans (congrArg some (by kernel_rfl))⟩
  f22 := ⟨Tryd.f70.name, by decide, Tryd.func70.trans (congrArg some (by kernel_rfl))⟩
  f23 := ⟨Tryd.f71.name, by decide, Tryd.func71.trans (congrArg some (by kernel_rfl))⟩
  f24 := ⟨Tryd.f72.name, by decide, Tryd.func72.trans (congrArg some (by kernel_rfl))⟩
  f25 := ⟨Tryd.f73.name, by decide, Tryd.func73.trans (congrArg some (by kernel_rfl))⟩
  f26 := ⟨Tryd.f74.name, by decide, Tryd.func74.trans (congrArg some (by kernel_rfl))⟩
  f27 := ⟨Tryd.f75.name, by decide, Tryd.func75.trans (congrArg some (by kernel_rfl))⟩
  f28 := Tryd.func76.trans (congrArg some (by kernel_rfl))
  f29 := Tryd.func77.trans (congrArg some (by kernel_rfl))
  f46 := ⟨Tryd.f81.name, by decide, Tryd.func81.trans (congrArg some (by kernel_rfl))⟩
  f47 := Tryd.func82.trans (congrArg some (by kernel_rfl))
  f48 := Tryd.func83.trans (congrArg some (by kernel_rfl))
  f49 := ⟨Tryd.f84.name, by decide, Tryd.func84.trans (congrArg some (by kernel_rfl))⟩
  f50 := ⟨Tryd.f85.name, by decide, Tryd.func85.trans (congrArg some (by kernel_rfl))⟩
  f57 := ⟨Tryd.f86.name, by decide, Tryd.func86.trans (congrArg some (by kernel_rfl))⟩
  t0 := Tryd.underlying0
  a0 := Tryd.isAgg0
  z0 := Tryd.sizeOf0
  v0 := Tryd.zeroValue0
  t3 := Tryd.underlying3
  a3 := Tryd.isAgg3
  z3 := Tryd.sizeOf3
  v3 := Tryd.zeroValue3
  t4 := Tryd.underlying4
  a4 := Tryd.isAgg4
  z4 := Tryd.sizeOf4
  v4 := Tryd.zeroValue4
  t5 := Tryd.underlying5
  a5 := Tryd.isAgg5
  z5 := Tryd.sizeOf5
  v5 := Tryd.zeroValue5
  t9 := Tryd.underlying9
  a9 := Tryd.isAgg9
  z9 := Tryd.sizeOf9
  v9 := Tryd.zeroValue9
  t22 := Tryd.underlying35
  a22 := Tryd.isAgg35
  z22 := Tryd.sizeOf35
  v22 := Tryd.zeroValue35
  t25 := Tryd.underlying100
  a25 := Tryd.isAgg100
  z25 := Tryd.sizeOf100
  v25 := Tryd.zeroValue100
  t39 := Tryd.underlying124
  a39 := Tryd.isAgg124
  z39 := Tryd.sizeOf124
  v39 := Tryd.zeroValue124
  t45 := Tryd.underlying145
  a45 := Tryd.isAgg145
  z45 := Tryd.sizeOf145
  v45 := Tryd.zeroValue145
  t46 := Tryd.underlying146
  a46 := Tryd.isAgg146
  z46 := Tryd.sizeOf146
  v46 := Tryd.zeroValue146
  t50 := Tryd.underlying150
  a50 := Tryd.isAgg150
  z50 := Tryd.sizeOf150
  v50 := Tryd.zeroValue150
  t53 := Tryd.underlying153
  a53 := Tryd.isAgg153
  z53 := Tryd.sizeOf153
  v53 := Tryd.zeroValue153
  t55 := Tryd.underlying155
  a55 := Tryd.isAgg155
  z55 := Tryd.sizeOf155
  v55 := Tryd.zeroValue155
  t66 := Tryd.underlying159
  a66 := Tryd.isAgg159
  z66 := Tryd.sizeOf159
  v66 := Tryd.zeroValue159
  t70 := Tryd.underlying163
  a70 := Tryd.isAgg163
  z70 := Tryd.sizeOf163
  v70 := Tryd.zeroValue163
  t76 := Tryd.underlying165
  a76 := Tryd.isAgg165
  z76 := Tryd.sizeOf165
  v76 := Tryd.zeroValue165
  t77 := Tryd.underlying30
  a77 := Tryd.isAgg30
  z77 := Tryd.sizeOf30
  v77 := Tryd.zeroValue30 }
end Go.Proofs.YtfhghijefjhehaaDoor
