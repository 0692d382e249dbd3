/-
  A net in memory; Count, full, has, isClient, joins, New.
-/
import Derived.Test.YtnglcnilckolkaaNd
namespace Go.Proofs.Ytnglcnilckolkaa
open Go.RowKit Go.Maps
set_option linter.unusedVariables false

/-- A datagram in flight: its age, itself, the value of its bytes and their block. -/
structure En where
  age : Nat
  d : DG
  v : Value
  γ : Option Nat

def En.val (e : En) : Value := dgv e.d e.v

/-- The net at block x: cl clients, E in flight, nx the next age; its blocks are among S. -/
structure NK (w : World) (x : Nat) (cl : Int) (E : List En) (nx : Nat) (S : Nat → Prop) (bm : Nat) (va : Value) (β : Option Nat) : Prop where
  net : w.heap[x]? = some (.cells #[.int .i64 cl, .map (some bm), va, .int .i64 nx] 66 (0, 0))
  ages : SRow w 3 β va (E.map fun e => .int .i64 e.age)
  mp : MP w bm (E.map fun e => (e.age, e.val))
  rows : ∀ e ∈ E, SB w e.γ e.v e.d.b
  short : ∀ e ∈ E, e.d.b.length ≤ 64
  rise : E.Pairwise (fun a b => a.age < b.age)
  top : ∀ e ∈ E, e.age < nx
  sep : E.Pairwise (fun a b => ∀ g, a.γ = some g → b.γ ≠ some g)
  few : E.length ≤ 2048
  big : nx ≤ 1000000000
  own : S x ∧ S bm ∧ (∀ g, β = some g → S g) ∧ ∀ e ∈ E, ∀ g, e.γ = some g → S g
  old : ∀ k, S k → k < w.heap.size

/-- The net at block x holds G. -/
def NetAt (w : World) (x : Nat) (cl : Int) (G : List DG) (nx : Nat) (S : Nat → Prop) : Prop := ∃ E bm va β, NK w x cl E nx S bm va β ∧ E.map En.d = G

theorem NK.fr {S T : Nat → Prop} {w w' : World} {x : Nat} {cl : Int} {E : List En} {nx bm : Nat} {va : Value} {β : Option Nat} (h : NK w x cl E nx S bm va β) (hF : Fr T w w') (hS : ∀ k, S k → ¬ T k) : NK w' x cl E nx S bm va β :=
  ⟨hF.keeps h.net (hS _ h.own.1), h.ages.fr hF (fun g hg => hS g (h.own.2.2.1 g hg)), h.mp.fr hF (hS _ h.own.2.1), fun e he => SRow.fr (h.rows e he) hF (fun g hg => hS g (h.own.2.2.2 e he g hg)), h.short, h.rise, h.top, h.sep, h.few, h.big, h.own,
    fun k hk => Nat.lt_of_lt_of_le (h.old k hk) hF.size⟩
theorem NetAt.fr {S T : Nat → Prop} {w w' : World} {x : Nat} {cl : Int} {G : List DG} {nx : Nat} (h : NetAt w x cl G nx S) (hF : Fr T w w') (hS : ∀ k, S k → ¬ T k) : NetAt w' x cl G nx S := by
  obtain ⟨E, bm, va, β, h, hG⟩ := h
  exact ⟨E, bm, va, β, h.fr hF hS, hG⟩
theorem NetAt.below {S : Nat → Prop} {w w' : World} {x : Nat} {cl : Int} {G : List DG} {nx : Nat} (h : NetAt w x cl G nx S) (hb : Below w.heap.size w w') : NetAt w' x cl G nx S :=
  h.fr (T := fun _ => False) (Fr.of_below hb) (fun _ _ h => h)
theorem NK.below {S : Nat → Prop} {w w' : World} {x : Nat} {cl : Int} {E : List En} {nx bm : Nat} {va : Value} {β : Option Nat} (h : NK w x cl E nx S bm va β) (hb : Below w.heap.size w w') : NK w' x cl E nx S bm va β :=
  h.fr (T := fun _ => False) (Fr.of_below hb) (fun _ _ h => h)
theorem NetAt.few {S : Nat → Prop} {w : World} {x : Nat} {cl : Int} {G : List DG} {nx : Nat} (h : NetAt w x cl G nx S) : G.length ≤ 2048 := by
  obtain ⟨E, bm, va, β, h, rfl⟩ := h
  simpa using h.few
theorem NetAt.old {S : Nat → Prop} {w : World} {x : Nat} {cl : Int} {G : List DG} {nx : Nat} (h : NetAt w x cl G nx S) : ∀ k, S k → k < w.heap.size := by
  obtain ⟨E, bm, va, β, h, rfl⟩ := h
  exact h.old
theorem NetAt.short {S : Nat → Prop} {w : World} {x : Nat} {cl : Int} {G : List DG} {nx : Nat} (h : NetAt w x cl G nx S) : ∀ d ∈ G, d.b.length ≤ 64 := by
  obtain ⟨E, bm, va, β, h, rfl⟩ := h
  intro d hd
  obtain ⟨e, he, rfl⟩ := List.mem_map.1 hd
  exact h.short e he

/-- What a call leaves of a net. -/
def Now (w w' : World) (x : Nat) (cl : Int) (G : List DG) (nx : Nat) (S : Nat → Prop) : Prop :=
  ∃ S', NetAt w' x cl G nx S' ∧ (∀ k, S' k → S k ∨ w.heap.size ≤ k) ∧ Fr S w w'

theorem count_nk (x : Nat) (cl : Int) (E : List En) (nx : Nat) (S : Nat → Prop) (bm : Nat) (va : Value) (β : Option Nat) (w : World) (h : NK w x cl E nx S bm va β) :
    Calls Try.prog 13 #[.pointer (some ⟨x, 0, none⟩)] w fun e w' => e = .returned (.int .i64 E.length) ∧ w' = w := by
  have c1 := cell_row h.net 1
  simp at c1
  have hl := h.mp.len
  simp at hl
  clear h
  go_enter Try.func13, Try.ntmps13
  go_wp2
  go_ret
  exact ⟨rfl, rfl⟩

theorem full_nk (x : Nat) (cl : Int) (E : List En) (nx : Nat) (S : Nat → Prop) (bm : Nat) (va : Value) (β : Option Nat) (w : World) (h : NK w x cl E nx S bm va β) :
    Calls Try.prog 33 #[.pointer (some ⟨x, 0, none⟩)] w fun e w' => e = .returned (.bool (decide (2048 ≤ E.length))) ∧ w' = w := by
  have H := hd h
  clear h
  go_enter Try.func33, Try.ntmps33
  go_wp2_with fail
  refine (count_nk x cl E nx S bm va β w H.out).mono ?_
  rintro e w1 ⟨rfl, rfl⟩
  by_cases h1 : 2048 ≤ E.length
  · have h2 : (2048 : Int) ≤ (E.length : Int) := by omega
    go_wp2
    go_ret
    refine ⟨congrArg (fun b => Ending.returned (Value.bool b)) (?_ : true = _), rfl⟩; exact (decide_eq_true (by omega)).symm
  · have h2 : ¬ (2048 : Int) ≤ (E.length : Int) := by omega
    go_wp2
    go_ret
    exact ⟨congrArg (fun b => Ending.returned (Value.bool b)) (decide_eq_decide.2 (by omega)), rfl⟩

theorem has_nk (x : Nat) (cl : Int) (E : List En) (nx : Nat) (S : Nat → Prop) (bm : Nat) (va : Value) (β : Option Nat) (w : World) (h : NK w x cl E nx S bm va β) (i : Int) :
    Calls Try.prog 35 #[.pointer (some ⟨x, 0, none⟩), .int .i64 i] w fun e w' => e = .returned (.bool (decide (0 ≤ i ∧ i < E.length))) ∧ w' = w := by
  have c2 := cell_row h.net 2
  obtain ⟨a, c, hv⟩ := h.ages.form
  simp at c2 hv
  subst hv
  clear h
  by_cases h1 : 0 ≤ i
  · by_cases h2 : i < E.length
    · go_enter Try.func35, Try.ntmps35
      go_wp2
      go_ret
      refine ⟨congrArg (fun b => Ending.returned (Value.bool b)) (?_ : true = _), rfl⟩; exact (decide_eq_true (by omega)).symm
    · go_enter Try.func35, Try.ntmps35
      go_wp2
      go_ret
      refine ⟨congrArg (fun b => Ending.returned (Value.bool b)) (?_ : false = _), rfl⟩; exact (decide_eq_false (by omega)).symm
  · have hb : decide (0 ≤ i ∧ i < E.length) = false := decide_eq_false (by omega)
    rw [hb]
    go_enter Try.func35, Try.ntmps35
    go_wp2
    go_ret
    exact ⟨rfl, rfl⟩

theorem isClient_nk (x : Nat) (cl : Int) (E : List En) (nx : Nat) (S : Nat → Prop) (bm : Nat) (va : Value) (β : Option Nat) (w : World) (h : NK w x cl E nx S bm va β) (i : Int) :
    Calls Try.prog 46 #[.pointer (some ⟨x, 0, none⟩), .int .i64 i] w fun e w' => e = .returned (.bool (decide (1 ≤ i ∧ i ≤ cl))) ∧ w' = w := by
  have c0 := cell_row h.net 0
  simp at c0
  clear h
  by_cases h1 : 1 ≤ i
  · by_cases h2 : i ≤ cl
    · go_enter Try.func46, Try.ntmps46
      go_wp2
      go_ret
      refine ⟨congrArg (fun b => Ending.returned (Value.bool b)) (?_ : true = _), rfl⟩; exact (decide_eq_true (by omega)).symm
    · go_enter Try.func46, Try.ntmps46
      go_wp2
      go_ret
      refine ⟨congrArg (fun b => Ending.returned (Value.bool b)) (?_ : false = _), rfl⟩; exact (decide_eq_false (by omega)).symm
  · have hb : decide (1 ≤ i ∧ i ≤ cl) = false := decide_eq_false (by omega)
    rw [hb]
    go_enter Try.func46, Try.ntmps46
    go_wp2
    go_ret
    exact ⟨rfl, rfl⟩

/-- May a datagram go from f to t? -/
def joinsP (cl f t : Int) : Bool := decide ((f = 0 ∧ 1 ≤ t ∧ t ≤ cl) ∨ (t = 0 ∧ 1 ≤ f ∧ f ≤ cl))

theorem joins_nk (x : Nat) (cl : Int) (E : List En) (nx : Nat) (S : Nat → Prop) (bm : Nat) (va : Value) (β : Option Nat) (w : World) (h : NK w x cl E nx S bm va β) (f t : Int) :
    Calls Try.prog 32 #[.pointer (some ⟨x, 0, none⟩), .int .i64 f, .int .i64 t] w fun e w' => e = .returned (.bool (joinsP cl f t)) ∧ w' = w := by
  have H := hd h
  clear h
  by_cases hf : f = 0
  · subst hf
    go_enter Try.func32, Try.ntmps32
    go_wp2_with fail
    refine (isClient_nk x cl E nx S bm va β w H.out t).mono ?_
    rintro e w1 ⟨rfl, rfl⟩
    by_cases h1 : 1 ≤ t ∧ t ≤ cl
    · have hb : decide (1 ≤ t ∧ t ≤ cl) = true := by simp [h1]
      rw [hb]
      go_wp2
      go_ret
      refine ⟨congrArg (fun b => Ending.returned (Value.bool b)) (?_ : true = _), rfl⟩; exact (decide_eq_true (by omega)).symm
    · have hb : decide (1 ≤ t ∧ t ≤ cl) = false := by simp only [decide_eq_false_iff_not]; exact h1
      rw [hb]
      by_cases ht : t = 0
      · subst ht
        go_wp2_with fail
        refine (isClient_nk x cl E nx S bm va β w1 H.out 0).mono ?_
        rintro e w2 ⟨rfl, rfl⟩
        have hb2 : decide ((1 : Int) ≤ 0 ∧ 0 ≤ cl) = false := by simp
        rw [hb2]
        go_wp2
        go_ret
        refine ⟨congrArg (fun b => Ending.returned (Value.bool b)) (?_ : false = _), rfl⟩; exact (decide_eq_false (by omega)).symm
      · go_wp2
        go_ret
        refine ⟨congrArg (fun b => Ending.returned (Value.bool b)) (?_ : false = _), rfl⟩; exact (decide_eq_false (by omega)).symm
  · by_cases ht : t = 0
    · subst ht
      go_enter Try.func32, Try.ntmps32
      go_wp2_with fail
      refine (isClient_nk x cl E nx S bm va β w H.out f).mono ?_
      rintro e w1 ⟨rfl, rfl⟩
      by_cases h1 : 1 ≤ f ∧ f ≤ cl
      · have hb : decide (1 ≤ f ∧ f ≤ cl) = true := by simp [h1]
        rw [hb]
        go_wp2
        go_ret
        refine ⟨congrArg (fun b => Ending.returned (Value.bool b)) (?_ : true = _), rfl⟩; exact (decide_eq_true (by omega)).symm
      · have hb : decide (1 ≤ f ∧ f ≤ cl) = false := by simp only [decide_eq_false_iff_not]; exact h1
        rw [hb]
        go_wp2
        go_ret
        refine ⟨congrArg (fun b => Ending.returned (Value.bool b)) (?_ : false = _), rfl⟩; exact (decide_eq_false (by omega)).symm
    · go_enter Try.func32, Try.ntmps32
      go_wp2
      go_ret
      refine ⟨congrArg (fun b => Ending.returned (Value.bool b)) (?_ : false = _), rfl⟩; exact (decide_eq_false (by omega)).symm

theorem new_bad (c : Int) (w : World) (h : c < 1 ∨ 64 < c) : Calls Try.prog 9 #[.int .i64 c] w fun e w' => e = .returned (.tuple #[.pointer none, .int .i64 70]) ∧ w' = w := by
  by_cases h1 : c < 1
  · go_enter Try.func9, Try.ntmps9
    go_wp2
    refine bodyPost_ret (v := .tuple #[.pointer none, .int .i64 70]) (by simp [results, Try.results9, go_sem]) rfl ?_
    exact ⟨rfl, rfl⟩
  · have h2 : 64 < c := by omega
    go_enter Try.func9, Try.ntmps9
    go_wp2
    refine bodyPost_ret (v := .tuple #[.pointer none, .int .i64 70]) (by simp [results, Try.results9, go_sem]) rfl ?_
    exact ⟨rfl, rfl⟩

theorem new_good (c : Int) (w : World) (h : 1 ≤ c ∧ c ≤ 64) : Calls Try.prog 9 #[.int .i64 c] w fun e w' => ∃ x, e = .returned (.tuple #[.pointer (some ⟨x, 0, none⟩), .int .i64 0]) ∧ ∃ S, NetAt w' x c [] 0 S ∧ (∀ k, S k → w.heap.size ≤ k) ∧ Below w.heap.size w w' := by
  have h1 : ¬ c < 1 := by omega
  have h2 : ¬ 64 < c := by omega
  have hmm := @run_makeMap Try.prog
  go_enter Try.func9, Try.ntmps9
  go_wp2
  refine bodyPost_ret (v := .tuple #[.pointer (some ⟨w.heap.size + 1, 0, none⟩), .int .i64 0]) (by simp [results, Try.results9, go_sem]) rfl ?_
  refine ⟨_, rfl, fun k => k = w.heap.size ∨ k = w.heap.size + 1, ⟨[], w.heap.size, .slice none 0 0, none, ⟨?_, ⟨rfl, rfl⟩, ?_, by simp, by simp, by simp, by simp, by simp, by simp, by simp, ⟨.inr rfl, .inl rfl, by simp, by simp⟩, ?_⟩, rfl⟩, ?_, ?_⟩
  · have := heap_alloc_new (w.alloc (.map #[] 0)) (.cells #[.int .i64 c, .map (some w.heap.size), .slice none 0 0, .int .i64 0] 66)
    rw [World.size_alloc] at this
    exact this
  · exact (MP.made w).fr (S := fun _ => False) (Fr.alloc _ _ _) (fun h => h)
  · rintro k (rfl | rfl) <;> simp <;> omega
  · rintro k (rfl | rfl) <;> omega
  · exact ((Below.refl _ _).alloc (Nat.le_refl _) _).alloc (by simp) _

end Go.Proofs.Ytnglcnilckolkaa
