/-
  InboxRuns: its drawn regions.
-/
import Derived.Test.YtpjnhjijipcjkaaQt
import Derived.Test.YtpjnhjijipcjkaaPh
import Derived.Test.YtpjnhjijipcjkaaPg
namespace Go.Proofs.Ytpjnhjijipcjkaa
open Go.RowKit
set_option linter.unusedVariables false

/-- What has come up: operation j has put V j into slot S j. -/
structure JV (S : Nat → Nat) (N : Nat) (a0 : Act) (V : Nat → Value) (L : Nat → Prop) (a : Act) : Prop where
  fe : Fe a0 a ((List.range N).map S)
  e : ∀ j, j < N → L j → a.eval (.tmp (S j)) = V j
theorem JV.next {S : Nat → Nat} {N : Nat} {a0 a : Act} {V : Nat → Value} {L L' : Nat → Prop} (h : JV S N a0 V L a) (i : Nat) (hi : i < N) (hS : ∀ i, i < N → ∀ j, j < N → S i = S j → i = j) (hu : ∀ j, L' j ↔ (j = i ∨ L j)) (hz : S i < a.tmps.size) : JV S N a0 V L' (a.put (some (S i)) (V i)) := by
  refine ⟨h.fe.put (List.mem_map.2 ⟨i, List.mem_range.2 hi, rfl⟩) _, fun j hj hl => ?_⟩
  by_cases e : j = i
  · subst e
    exact ev_eq _ _ hz
  · exact (ev_ne _ _ (fun e' => e (hS j hj i hi e'))).trans (h.e j hj (((hu j).1 hl).resolve_left e))

noncomputable def opsR16 : Array Oper := (Try.f8.body.bind (opsAt 16)).getD #[]
theorem opsR16_size : opsR16.size = 9 := by kernel_rfl
theorem opsR16_earlier : Earlier opsR16 := by
  have h : (List.range 9).all (fun i => ((opsR16[i]?).map (fun o => o.after.all (fun e => !Region.binds .any e || decide (e.on < i)))).getD true) = true := by kernel_rfl
  intro i o ho e he hb
  have hi : i < 9 := by
    have := (Array.getElem?_eq_some_iff.1 ho).1
    rwa [opsR16_size] at this
  have h1 := List.all_eq_true.1 h i (List.mem_range.2 hi)
  rw [ho] at h1
  simp only [Option.map_some, Option.getD_some, Array.all_eq_true'] at h1
  have h2 := h1 e he
  rw [hb] at h2
  simpa using h2

def S16 : Nat → Nat := fun j => [69, 70, 71, 72, 73, 74, 75, 76, 11].getD j 0
theorem S16_inj : ∀ i, i < 9 → ∀ j, j < 9 → S16 i = S16 j → i = j := by decide
def V16 (W3 : World) (x a : Nat) (k nn v : Int) (ia : Option Addr) (il ic : Nat) : Nat → Value := fun j => [pt x, opA k 0 nn v ia il ic, pt x, pt x, pt x, pt a, .func (.func 52) #[] #[.pointer (some ⟨W3.heap.size, 0, none⟩)], .bool true, .bool true].getD j (.bool false)
structure J16 (a0 : Act) (W3 : World) (x a : Nat) (k nn v : Int) (ia : Option Addr) (il ic : Nat) (Po : World → Prop) (L : Nat → Prop) (a' : Act) (u : World) : Prop where
  jv : JV S16 9 a0 (V16 W3 x a k nn v ia il ic) L a'
  wb : ¬ L 6 → u = W3.drew
  wr : L 6 → ¬ L 7 → u = W3.drew.alloc (.cells #[pt a] 28)
  wp : L 7 → Po u
  d7 : L 7 → L 1 ∧ L 6
  d6 : L 6 → L 5

set_option maxRecDepth 100000 in
set_option maxHeartbeats 4000000 in
theorem runs_region16 (g10 : Nat) (a0 : Act) (W3 : World) (x a : Nat) (k nn v : Int) (ia : Option Addr) (il ic : Nat) (Po : World → Prop) {K : Act → World → Prop} {Q' : Exit → Act → World → Prop} (h5 : a0.eval (.tmp 5) = pt x) (h10 : a0.eval (.tmp 10) = .pointer (some ⟨g10, 0, none⟩)) (hz : 107 ≤ a0.tmps.size)
    (hcell : ∀ u, (u = W3.drew ∨ u = W3.drew.alloc (.cells #[pt a] 28)) → u.cell? ⟨g10, 0, none⟩ = some (.int .i64 k) ∧ u.cell? ⟨g10, 1, none⟩ = some (.int .i64 0) ∧ u.cell? ⟨g10, 2, none⟩ = some (.int .i64 nn) ∧ u.cell? ⟨g10, 3, none⟩ = some (.int .i64 v) ∧ u.cell? ⟨g10, 4, none⟩ = some (.slice ia il ic) ∧ u.cell? ⟨x, 0, none⟩ = some (pt a))
    (CG : Calls Try.prog 32 #[pt x, opA k 0 nn v ia il ic, .func (.func 52) #[] #[.pointer (some ⟨W3.heap.size, 0, none⟩)]] (W3.drew.alloc (.cells #[pt a] 28)) fun e u => e = .returned (.bool true) ∧ Po u)
    (hK : ∀ u, Po u → K (puts a0 ((List.range 9).map fun j => (S16 j, V16 W3 x a k nn v ia il ic j))) u) :
    (Code.region 16 opsR16 true).wp Try.prog (Exit.then K Q') a0 W3 := by
  refine wp_region_inv (by kernel_rfl) opsR16_earlier (fun L a' u => J16 a0 W3 x a k nn v ia il ic Po L a' u) ?_ ?_ ?_
  · rintro L L' x' u i o h ho hno hall hu
    clear hK
    have q5 := (h.jv.fe.ev (j := 5) (by decide)).trans h5
    have q10 := (h.jv.fe.ev (j := 10) (by decide)).trans h10
    have hi : i < 9 := by
      have := (Array.getElem?_eq_some_iff.1 ho).1
      rwa [opsR16_size] at this
    match i, hi with
    | 0, _ =>
      refine og_move (g := none) ho (.tmp 5) (d := some 69) (by kernel_rfl) (by exact trivial) q5 ?_
      exact ⟨h.jv.next 0 (by decide) S16_inj hu (by show 69 < _; have := h.jv.fe.sz; omega), fun hL => h.wb (fun h6 => hL ((hu 6).2 (.inr h6))), fun h6 h7 => h.wr (((hu 6).1 h6).resolve_left (by decide)) (fun hh => h7 ((hu 7).2 (.inr hh))), fun h7 => h.wp (((hu 7).1 h7).resolve_left (by decide)), fun h7 => by have := h.d7 (((hu 7).1 h7).resolve_left (by decide)); exact ⟨(hu 1).2 (.inr this.1), (hu 6).2 (.inr this.2)⟩, fun h6 => (hu 5).2 (.inr (h.d6 (((hu 6).1 h6).resolve_left (by decide))))⟩
    | 1, _ =>
      have n7 : ¬ L 7 := fun h7 => hno (h.d7 h7).1
      have hu2 : u = W3.drew ∨ u = W3.drew.alloc (.cells #[pt a] 28) := by
        by_cases h6 : L 6
        · exact .inr (h.wr h6 n7)
        · exact .inl (h.wb h6)
      obtain ⟨y0, y1, y2, y3, y4, -⟩ := hcell u hu2
      refine og_loadO (g := none) ho (.tmp 10) (d := some 70) (by kernel_rfl) (by exact trivial) q10 y0 y1 y2 y3 y4 ?_
      exact ⟨h.jv.next 1 (by decide) S16_inj hu (by show 70 < _; have := h.jv.fe.sz; omega), fun hL => h.wb (fun h6 => hL ((hu 6).2 (.inr h6))), fun h6 h7 => h.wr (((hu 6).1 h6).resolve_left (by decide)) (fun hh => h7 ((hu 7).2 (.inr hh))), fun h7 => h.wp (((hu 7).1 h7).resolve_left (by decide)), fun h7 => by have := h.d7 (((hu 7).1 h7).resolve_left (by decide)); exact ⟨(hu 1).2 (.inr this.1), (hu 6).2 (.inr this.2)⟩, fun h6 => (hu 5).2 (.inr (h.d6 (((hu 6).1 h6).resolve_left (by decide))))⟩
    | 2, _ =>
      refine og_move (g := none) ho (.tmp 5) (d := some 71) (by kernel_rfl) (by exact trivial) q5 ?_
      exact ⟨h.jv.next 2 (by decide) S16_inj hu (by show 71 < _; have := h.jv.fe.sz; omega), fun hL => h.wb (fun h6 => hL ((hu 6).2 (.inr h6))), fun h6 h7 => h.wr (((hu 6).1 h6).resolve_left (by decide)) (fun hh => h7 ((hu 7).2 (.inr hh))), fun h7 => h.wp (((hu 7).1 h7).resolve_left (by decide)), fun h7 => by have := h.d7 (((hu 7).1 h7).resolve_left (by decide)); exact ⟨(hu 1).2 (.inr this.1), (hu 6).2 (.inr this.2)⟩, fun h6 => (hu 5).2 (.inr (h.d6 (((hu 6).1 h6).resolve_left (by decide))))⟩
    | 3, _ =>
      refine og_nil (g := none) ho (.tmp 71) (d := some 72) (by kernel_rfl) (by exact trivial) (show x'.eval (.tmp 71) = pt x from h.jv.e 2 (by decide) (depI ho hall 2 (by kernel_rfl))) ?_
      exact ⟨h.jv.next 3 (by decide) S16_inj hu (by show 72 < _; have := h.jv.fe.sz; omega), fun hL => h.wb (fun h6 => hL ((hu 6).2 (.inr h6))), fun h6 h7 => h.wr (((hu 6).1 h6).resolve_left (by decide)) (fun hh => h7 ((hu 7).2 (.inr hh))), fun h7 => h.wp (((hu 7).1 h7).resolve_left (by decide)), fun h7 => by have := h.d7 (((hu 7).1 h7).resolve_left (by decide)); exact ⟨(hu 1).2 (.inr this.1), (hu 6).2 (.inr this.2)⟩, fun h6 => (hu 5).2 (.inr (h.d6 (((hu 6).1 h6).resolve_left (by decide))))⟩
    | 4, _ =>
      refine og_field0 (g := none) ho (.tmp 72) (d := some 73) (by kernel_rfl) (by exact trivial) (show x'.eval (.tmp 72) = pt x from h.jv.e 3 (by decide) (depI ho hall 3 (by kernel_rfl))) ?_
      exact ⟨h.jv.next 4 (by decide) S16_inj hu (by show 73 < _; have := h.jv.fe.sz; omega), fun hL => h.wb (fun h6 => hL ((hu 6).2 (.inr h6))), fun h6 h7 => h.wr (((hu 6).1 h6).resolve_left (by decide)) (fun hh => h7 ((hu 7).2 (.inr hh))), fun h7 => h.wp (((hu 7).1 h7).resolve_left (by decide)), fun h7 => by have := h.d7 (((hu 7).1 h7).resolve_left (by decide)); exact ⟨(hu 1).2 (.inr this.1), (hu 6).2 (.inr this.2)⟩, fun h6 => (hu 5).2 (.inr (h.d6 (((hu 6).1 h6).resolve_left (by decide))))⟩
    | 5, _ =>
      have n6 : ¬ L 6 := fun h6 => hno (h.d6 h6)
      have hu2 : u = W3.drew ∨ u = W3.drew.alloc (.cells #[pt a] 28) := .inl (h.wb n6)
      refine og_loadA (g := none) ho (.tmp 73) (d := some 74) (by kernel_rfl) (by exact trivial) (show x'.eval (.tmp 73) = pt x from h.jv.e 4 (by decide) (depI ho hall 4 (by kernel_rfl))) (hcell u hu2).2.2.2.2.2 ?_
      exact ⟨h.jv.next 5 (by decide) S16_inj hu (by show 74 < _; have := h.jv.fe.sz; omega), fun hL => h.wb (fun h6 => hL ((hu 6).2 (.inr h6))), fun h6 h7 => h.wr (((hu 6).1 h6).resolve_left (by decide)) (fun hh => h7 ((hu 7).2 (.inr hh))), fun h7 => h.wp (((hu 7).1 h7).resolve_left (by decide)), fun h7 => by have := h.d7 (((hu 7).1 h7).resolve_left (by decide)); exact ⟨(hu 1).2 (.inr this.1), (hu 6).2 (.inr this.2)⟩, fun h6 => (hu 5).2 (.inr (h.d6 (((hu 6).1 h6).resolve_left (by decide))))⟩
    | 6, _ =>
      have n7 : ¬ L 7 := fun h7 => hno (h.d7 h7).2
      have hu3 := h.wb hno
      have l5 : L 5 := depI ho hall 5 (by kernel_rfl)
      refine og_call (g := none) ho 30 #[.tmp 74] #[28] (d := some 75) (by kernel_rfl) (by exact trivial) Try.func30 rfl (by kernel_rfl) (vs := #[pt a]) (by have t74 := (show x'.eval (.tmp 74) = pt a from h.jv.e 5 (by decide) (depI ho hall 5 (by kernel_rfl))); simp [t74]) (run_any a u) ?_
      rintro e w' ⟨rfl, rfl⟩
      subst hu3
      refine ⟨_, rfl, ?_⟩
      exact ⟨h.jv.next 6 (by decide) S16_inj hu (by show 75 < _; have := h.jv.fe.sz; omega), fun hL => absurd ((hu 6).2 (.inl rfl)) hL, fun _ _ => rfl, fun h7 => absurd (((hu 7).1 h7).resolve_left (by decide)) n7, fun h7 => absurd (((hu 7).1 h7).resolve_left (by decide)) n7, fun _ => (hu 5).2 (.inr l5)⟩
    | 7, _ =>
      have l6 : L 6 := depI ho hall 6 (by kernel_rfl)
      have hu3 := h.wr l6 hno
      refine og_call (g := none) ho 32 #[.tmp 69, .tmp 70, .tmp 75] #[61, 56, 67] (d := some 76) (by kernel_rfl) (by exact trivial) Try.func32 rfl (by kernel_rfl) (vs := #[pt x, opA k 0 nn v ia il ic, .func (.func 52) #[] #[.pointer (some ⟨W3.heap.size, 0, none⟩)]]) (by have t69 := (show x'.eval (.tmp 69) = pt x from h.jv.e 0 (by decide) (depI ho hall 0 (by kernel_rfl))); have t70 := (show x'.eval (.tmp 70) = opA k 0 nn v ia il ic from h.jv.e 1 (by decide) (depI ho hall 1 (by kernel_rfl))); have t75 := (show x'.eval (.tmp 75) = .func (.func 52) #[] #[.pointer (some ⟨W3.heap.size, 0, none⟩)] from h.jv.e 6 (by decide) (depI ho hall 6 (by kernel_rfl))); simp [t69, t70, t75]) (by rw [hu3]; exact CG) ?_
      rintro e w' ⟨rfl, hP⟩
      refine ⟨_, rfl, ?_⟩
      exact ⟨h.jv.next 7 (by decide) S16_inj hu (by show 76 < _; have := h.jv.fe.sz; omega), fun hL => absurd ((hu 6).2 (.inr l6)) hL, fun _ h7 => absurd ((hu 7).2 (.inl rfl)) h7, fun _ => hP, fun _ => ⟨(hu 1).2 (.inr (depI ho hall 1 (by kernel_rfl))), (hu 6).2 (.inr l6)⟩, fun _ => (hu 5).2 (.inr (h.d6 l6))⟩
    | 8, _ =>
      refine og_assign (g := none) ho (.tmp 76) (d := some 11) (by kernel_rfl) (by exact trivial) (show x'.eval (.tmp 76) = .bool true from h.jv.e 7 (by decide) (depI ho hall 7 (by kernel_rfl))) ?_
      exact ⟨h.jv.next 8 (by decide) S16_inj hu (by show 11 < _; have := h.jv.fe.sz; omega), fun hL => h.wb (fun h6 => hL ((hu 6).2 (.inr h6))), fun h6 h7 => h.wr (((hu 6).1 h6).resolve_left (by decide)) (fun hh => h7 ((hu 7).2 (.inr hh))), fun h7 => h.wp (((hu 7).1 h7).resolve_left (by decide)), fun h7 => by have := h.d7 (((hu 7).1 h7).resolve_left (by decide)); exact ⟨(hu 1).2 (.inr this.1), (hu 6).2 (.inr this.2)⟩, fun h6 => (hu 5).2 (.inr (h.d6 (((hu 6).1 h6).resolve_left (by decide))))⟩
    | i + 9, hi => omega
  · rintro L x' u h hall
    rw [opsR16_size] at hall
    have hp := Fe.puts ((List.range 9).map fun j => (S16 j, V16 W3 x a k nn v ia il ic j)) a0 x' (by rw [List.map_map]; exact h.jv.fe) (by
      intro p hp
      obtain ⟨j, hj, rfl⟩ := List.mem_map.1 hp
      have hj := List.mem_range.1 hj
      refine ⟨?_, h.jv.e j hj (hall j hj)⟩
      have : ∀ j, j < 9 → S16 j < 107 := by decide
      exact Nat.lt_of_lt_of_le (this j hj) hz)
    rw [hp]
    exact hK u (h.wp (hall 7 (by omega)))
  · intro L hL
    exact ⟨⟨Fe.refl _ _, fun j _ h => absurd h (hL _)⟩, fun _ => rfl, fun h => absurd h (hL _), fun h => absurd h (hL _), fun h => absurd h (hL _), fun h => absurd h (hL _)⟩

noncomputable def opsR20 : Array Oper := (Try.f8.body.bind (opsAt 20)).getD #[]
theorem opsR20_size : opsR20.size = 21 := by kernel_rfl
theorem opsR20_earlier : Earlier opsR20 := by
  have h : (List.range 21).all (fun i => ((opsR20[i]?).map (fun o => o.after.all (fun e => !Region.binds .any e || decide (e.on < i)))).getD true) = true := by kernel_rfl
  intro i o ho e he hb
  have hi : i < 21 := by
    have := (Array.getElem?_eq_some_iff.1 ho).1
    rwa [opsR20_size] at this
  have h1 := List.all_eq_true.1 h i (List.mem_range.2 hi)
  rw [ho] at h1
  simp only [Option.map_some, Option.getD_some, Array.all_eq_true'] at h1
  have h2 := h1 e he
  rw [hb] at h2
  simpa using h2

def S20 : Nat → Nat := fun j => [87, 88, 89, 90, 91, 92, 93, 94, 95, 96, 97, 98, 99, 100, 101, 102, 103, 104, 105, 106, 4].getD j 0
theorem S20_inj : ∀ i, i < 21 → ∀ j, j < 21 → S20 i = S20 j → i = j := by decide
def V20 (x a r : Nat) (A : Rb) : Nat → Value := fun j => [pt x, .bool true, .bool true, pt x, .bool true, .bool true, .bool true, pt x, pt x, pt x, pt a, .int .i64 (A.c : Nat), pt x, pt x, .pointer (some ⟨x, 2, none⟩), .pointer (some ⟨x, 2, none⟩), pt r, .int .i64 (A.c : Nat), .bool true, .bool true, .bool true].getD j (.bool false)
structure J20 (a0 : Act) (x a r : Nat) (A : Rb) (w0 W : World) (b q : Nat) (B : Rb) (m : Nat) (L : Nat → Prop) (a' : Act) (u : World) : Prop where
  jv : JV S20 21 a0 (V20 x a r A) L a'
  wa : ¬ L 1 → u = W.drew
  wb : L 1 → ¬ L 4 → PB noObj w0 u NoK x a b r q A B m
  wc : L 4 → ∃ m', m' ≤ 44 ∧ PB noObj w0 u NoK x a b r q A B m'
  l2 : L 2 → L 1
  l4 : L 4 → L 1
  l5 : L 5 → L 4
  l6 : L 6 → L 4

set_option maxRecDepth 100000 in
set_option maxHeartbeats 4000000 in
theorem runs_region20 (a0 : Act) (x a r : Nat) (A : Rb) (w0 W : World) (b q : Nat) (B : Rb) (m : Nat) {K : Act → World → Prop} {Q' : Exit → Act → World → Prop} (h5 : a0.eval (.tmp 5) = pt x) (hz : 107 ≤ a0.tmps.size)
    (hPB : PB noObj w0 W.drew NoK x a b r q A B m) (hm : m ≤ 44)
    (hK : ∀ u, RowKit.Below w0.heap.size w0 u → K (puts a0 ((List.range 21).map fun j => (S20 j, V20 x a r A j))) u) :
    (Code.region 20 opsR20 true).wp Try.prog (Exit.then K Q') a0 W := by
  refine wp_region_inv (by kernel_rfl) opsR20_earlier (fun L a' u => J20 a0 x a r A w0 W b q B m L a' u) ?_ ?_ ?_
  · rintro L L' x' u i o h ho hno hall hu
    clear hK
    have q5 := (h.jv.fe.ev (j := 5) (by decide)).trans h5
    have hi : i < 21 := by
      have := (Array.getElem?_eq_some_iff.1 ho).1
      rwa [opsR20_size] at this
    match i, hi with
    | 0, _ =>
      refine og_move (g := none) ho (.tmp 5) (d := some 87) (by kernel_rfl) (by exact trivial) q5 ?_
      exact ⟨h.jv.next 0 (by decide) S20_inj hu (by show 87 < _; have := h.jv.fe.sz; omega), fun hL => h.wa (fun h1 => hL ((hu 1).2 (.inr h1))), fun h1 h4 => h.wb (((hu 1).1 h1).resolve_left (by decide)) (fun hh => h4 ((hu 4).2 (.inr hh))), fun h4 => h.wc (((hu 4).1 h4).resolve_left (by decide)), fun h2 => (hu 1).2 (.inr (h.l2 (((hu 2).1 h2).resolve_left (by decide)))), fun h4 => (hu 1).2 (.inr (h.l4 (((hu 4).1 h4).resolve_left (by decide)))), fun h5 => (hu 4).2 (.inr (h.l5 (((hu 5).1 h5).resolve_left (by decide)))), fun h6 => (hu 4).2 (.inr (h.l6 (((hu 6).1 h6).resolve_left (by decide))))⟩
    | 1, _ =>
      refine og_call (g := none) ho 28 #[.tmp 87, .const (.int .i64 0)] #[61, 3] (d := some 88) (by kernel_rfl) (by exact trivial) Try.func28 rfl (by kernel_rfl) (vs := #[pt x, .int .i64 0]) (by have t87 := (show x'.eval (.tmp 87) = pt x from h.jv.e 0 (by decide) (depI ho hall 0 (by kernel_rfl))); simp [t87, show x'.eval (.const (.int .i64 0)) = .int .i64 0 from rfl]) (by rw [h.wa hno]; exact head_0 hPB) ?_
      rintro e w' ⟨rfl, hP⟩
      have n4 : ¬ L 4 := fun h4 => hno (h.l4 h4)
      refine ⟨_, rfl, ?_⟩
      exact ⟨h.jv.next 1 (by decide) S20_inj hu (by show 88 < _; have := h.jv.fe.sz; omega), fun hL => absurd ((hu 1).2 (.inl rfl)) hL, fun _ _ => hP, fun h4 => absurd (((hu 4).1 h4).resolve_left (by decide)) n4, fun _ => (hu 1).2 (.inl rfl), fun _ => (hu 1).2 (.inl rfl), fun h5 => (hu 4).2 (.inr (h.l5 (((hu 5).1 h5).resolve_left (by decide)))), fun h6 => (hu 4).2 (.inr (h.l6 (((hu 6).1 h6).resolve_left (by decide))))⟩
    | 2, _ =>
      refine og_move (g := none) ho (.tmp 88) (d := some 89) (by kernel_rfl) (by exact trivial) (show x'.eval (.tmp 88) = .bool true from h.jv.e 1 (by decide) (depI ho hall 1 (by kernel_rfl))) ?_
      exact ⟨h.jv.next 2 (by decide) S20_inj hu (by show 89 < _; have := h.jv.fe.sz; omega), fun hL => h.wa (fun h1 => hL ((hu 1).2 (.inr h1))), fun h1 h4 => h.wb (((hu 1).1 h1).resolve_left (by decide)) (fun hh => h4 ((hu 4).2 (.inr hh))), fun h4 => h.wc (((hu 4).1 h4).resolve_left (by decide)), fun _ => (hu 1).2 (.inr (depI ho hall 1 (by kernel_rfl))), fun h4 => (hu 1).2 (.inr (h.l4 (((hu 4).1 h4).resolve_left (by decide)))), fun h5 => (hu 4).2 (.inr (h.l5 (((hu 5).1 h5).resolve_left (by decide)))), fun h6 => (hu 4).2 (.inr (h.l6 (((hu 6).1 h6).resolve_left (by decide))))⟩
    | 3, _ =>
      refine og_move (g := some (2, true)) ho (.tmp 5) (d := some 90) (by kernel_rfl) (by exact ⟨89, by kernel_rfl, h.jv.e 2 (by decide) (depI ho hall 2 (by kernel_rfl))⟩) q5 ?_
      exact ⟨h.jv.next 3 (by decide) S20_inj hu (by show 90 < _; have := h.jv.fe.sz; omega), fun hL => h.wa (fun h1 => hL ((hu 1).2 (.inr h1))), fun h1 h4 => h.wb (((hu 1).1 h1).resolve_left (by decide)) (fun hh => h4 ((hu 4).2 (.inr hh))), fun h4 => h.wc (((hu 4).1 h4).resolve_left (by decide)), fun h2 => (hu 1).2 (.inr (h.l2 (((hu 2).1 h2).resolve_left (by decide)))), fun h4 => (hu 1).2 (.inr (h.l4 (((hu 4).1 h4).resolve_left (by decide)))), fun h5 => (hu 4).2 (.inr (h.l5 (((hu 5).1 h5).resolve_left (by decide)))), fun h6 => (hu 4).2 (.inr (h.l6 (((hu 6).1 h6).resolve_left (by decide))))⟩
    | 4, _ =>
      have l1 : L 1 := h.l2 (depI ho hall 2 (by kernel_rfl))
      refine og_call (g := some (2, true)) ho 29 #[.tmp 90, .const (.int .i64 0)] #[61, 3] (d := some 91) (by kernel_rfl) (by exact ⟨89, by kernel_rfl, h.jv.e 2 (by decide) (depI ho hall 2 (by kernel_rfl))⟩) Try.func29 rfl (by kernel_rfl) (vs := #[pt x, .int .i64 0]) (by have t90 := (show x'.eval (.tmp 90) = pt x from h.jv.e 3 (by decide) (depI ho hall 3 (by kernel_rfl))); simp [t90, show x'.eval (.const (.int .i64 0)) = .int .i64 0 from rfl]) (held_0 (h.wb l1 hno) hm) ?_
      rintro e w' ⟨rfl, hP⟩
      refine ⟨_, rfl, ?_⟩
      exact ⟨h.jv.next 4 (by decide) S20_inj hu (by show 91 < _; have := h.jv.fe.sz; omega), fun hL => absurd ((hu 1).2 (.inr l1)) hL, fun _ h4 => absurd ((hu 4).2 (.inl rfl)) h4, fun _ => hP, fun h2 => (hu 1).2 (.inr (h.l2 (((hu 2).1 h2).resolve_left (by decide)))), fun _ => (hu 1).2 (.inr l1), fun _ => (hu 4).2 (.inl rfl), fun _ => (hu 4).2 (.inl rfl)⟩
    | 5, _ =>
      refine og_pickT (g := none) ho (.tmp 89) (.tmp 91) (d := some 92) (by kernel_rfl) (by exact trivial) (show x'.eval (.tmp 89) = .bool true from h.jv.e 2 (by decide) (depI ho hall 2 (by kernel_rfl))) (show x'.eval (.tmp 91) = .bool true from h.jv.e 4 (by decide) (depI ho hall 4 (by kernel_rfl))) ?_
      exact ⟨h.jv.next 5 (by decide) S20_inj hu (by show 92 < _; have := h.jv.fe.sz; omega), fun hL => h.wa (fun h1 => hL ((hu 1).2 (.inr h1))), fun h1 h4 => h.wb (((hu 1).1 h1).resolve_left (by decide)) (fun hh => h4 ((hu 4).2 (.inr hh))), fun h4 => h.wc (((hu 4).1 h4).resolve_left (by decide)), fun h2 => (hu 1).2 (.inr (h.l2 (((hu 2).1 h2).resolve_left (by decide)))), fun h4 => (hu 1).2 (.inr (h.l4 (((hu 4).1 h4).resolve_left (by decide)))), fun _ => (hu 4).2 (.inr (depI ho hall 4 (by kernel_rfl))), fun h6 => (hu 4).2 (.inr (h.l6 (((hu 6).1 h6).resolve_left (by decide))))⟩
    | 6, _ =>
      refine og_move (g := none) ho (.tmp 92) (d := some 93) (by kernel_rfl) (by exact trivial) (show x'.eval (.tmp 92) = .bool true from h.jv.e 5 (by decide) (depI ho hall 5 (by kernel_rfl))) ?_
      exact ⟨h.jv.next 6 (by decide) S20_inj hu (by show 93 < _; have := h.jv.fe.sz; omega), fun hL => h.wa (fun h1 => hL ((hu 1).2 (.inr h1))), fun h1 h4 => h.wb (((hu 1).1 h1).resolve_left (by decide)) (fun hh => h4 ((hu 4).2 (.inr hh))), fun h4 => h.wc (((hu 4).1 h4).resolve_left (by decide)), fun h2 => (hu 1).2 (.inr (h.l2 (((hu 2).1 h2).resolve_left (by decide)))), fun h4 => (hu 1).2 (.inr (h.l4 (((hu 4).1 h4).resolve_left (by decide)))), fun h5 => (hu 4).2 (.inr (h.l5 (((hu 5).1 h5).resolve_left (by decide)))), fun _ => (hu 4).2 (.inr (h.l5 (depI ho hall 5 (by kernel_rfl))))⟩
    | 7, _ =>
      refine og_move (g := some (6, true)) ho (.tmp 5) (d := some 94) (by kernel_rfl) (by exact ⟨93, by kernel_rfl, h.jv.e 6 (by decide) (depI ho hall 6 (by kernel_rfl))⟩) q5 ?_
      exact ⟨h.jv.next 7 (by decide) S20_inj hu (by show 94 < _; have := h.jv.fe.sz; omega), fun hL => h.wa (fun h1 => hL ((hu 1).2 (.inr h1))), fun h1 h4 => h.wb (((hu 1).1 h1).resolve_left (by decide)) (fun hh => h4 ((hu 4).2 (.inr hh))), fun h4 => h.wc (((hu 4).1 h4).resolve_left (by decide)), fun h2 => (hu 1).2 (.inr (h.l2 (((hu 2).1 h2).resolve_left (by decide)))), fun h4 => (hu 1).2 (.inr (h.l4 (((hu 4).1 h4).resolve_left (by decide)))), fun h5 => (hu 4).2 (.inr (h.l5 (((hu 5).1 h5).resolve_left (by decide)))), fun h6 => (hu 4).2 (.inr (h.l6 (((hu 6).1 h6).resolve_left (by decide))))⟩
    | 8, _ =>
      refine og_nil (g := some (6, true)) ho (.tmp 94) (d := some 95) (by kernel_rfl) (by exact ⟨93, by kernel_rfl, h.jv.e 6 (by decide) (depI ho hall 6 (by kernel_rfl))⟩) (show x'.eval (.tmp 94) = pt x from h.jv.e 7 (by decide) (depI ho hall 7 (by kernel_rfl))) ?_
      exact ⟨h.jv.next 8 (by decide) S20_inj hu (by show 95 < _; have := h.jv.fe.sz; omega), fun hL => h.wa (fun h1 => hL ((hu 1).2 (.inr h1))), fun h1 h4 => h.wb (((hu 1).1 h1).resolve_left (by decide)) (fun hh => h4 ((hu 4).2 (.inr hh))), fun h4 => h.wc (((hu 4).1 h4).resolve_left (by decide)), fun h2 => (hu 1).2 (.inr (h.l2 (((hu 2).1 h2).resolve_left (by decide)))), fun h4 => (hu 1).2 (.inr (h.l4 (((hu 4).1 h4).resolve_left (by decide)))), fun h5 => (hu 4).2 (.inr (h.l5 (((hu 5).1 h5).resolve_left (by decide)))), fun h6 => (hu 4).2 (.inr (h.l6 (((hu 6).1 h6).resolve_left (by decide))))⟩
    | 9, _ =>
      refine og_field0 (g := some (6, true)) ho (.tmp 95) (d := some 96) (by kernel_rfl) (by exact ⟨93, by kernel_rfl, h.jv.e 6 (by decide) (depI ho hall 6 (by kernel_rfl))⟩) (show x'.eval (.tmp 95) = pt x from h.jv.e 8 (by decide) (depI ho hall 8 (by kernel_rfl))) ?_
      exact ⟨h.jv.next 9 (by decide) S20_inj hu (by show 96 < _; have := h.jv.fe.sz; omega), fun hL => h.wa (fun h1 => hL ((hu 1).2 (.inr h1))), fun h1 h4 => h.wb (((hu 1).1 h1).resolve_left (by decide)) (fun hh => h4 ((hu 4).2 (.inr hh))), fun h4 => h.wc (((hu 4).1 h4).resolve_left (by decide)), fun h2 => (hu 1).2 (.inr (h.l2 (((hu 2).1 h2).resolve_left (by decide)))), fun h4 => (hu 1).2 (.inr (h.l4 (((hu 4).1 h4).resolve_left (by decide)))), fun h5 => (hu 4).2 (.inr (h.l5 (((hu 5).1 h5).resolve_left (by decide)))), fun h6 => (hu 4).2 (.inr (h.l6 (((hu 6).1 h6).resolve_left (by decide))))⟩
    | 10, _ =>
      have l4 : L 4 := h.l6 (depI ho hall 6 (by kernel_rfl))
      obtain ⟨m', hm', M⟩ := h.wc l4
      obtain ⟨aL, cL, vW, hbx, -, -, hx3⟩ := pb_box M
      have c0 := cell_row hbx 0
      have c2 := cell_row hbx 2
      simp at c0 c2
      refine og_loadA (g := some (6, true)) ho (.tmp 96) (d := some 97) (by kernel_rfl) (by exact ⟨93, by kernel_rfl, h.jv.e 6 (by decide) (depI ho hall 6 (by kernel_rfl))⟩) (show x'.eval (.tmp 96) = pt x from h.jv.e 9 (by decide) (depI ho hall 9 (by kernel_rfl))) c0 ?_
      exact ⟨h.jv.next 10 (by decide) S20_inj hu (by show 97 < _; have := h.jv.fe.sz; omega), fun hL => h.wa (fun h1 => hL ((hu 1).2 (.inr h1))), fun h1 h4 => h.wb (((hu 1).1 h1).resolve_left (by decide)) (fun hh => h4 ((hu 4).2 (.inr hh))), fun h4 => h.wc (((hu 4).1 h4).resolve_left (by decide)), fun h2 => (hu 1).2 (.inr (h.l2 (((hu 2).1 h2).resolve_left (by decide)))), fun h4 => (hu 1).2 (.inr (h.l4 (((hu 4).1 h4).resolve_left (by decide)))), fun h5 => (hu 4).2 (.inr (h.l5 (((hu 5).1 h5).resolve_left (by decide)))), fun h6 => (hu 4).2 (.inr (h.l6 (((hu 6).1 h6).resolve_left (by decide))))⟩
    | 11, _ =>
      have l4 : L 4 := h.l6 (depI ho hall 6 (by kernel_rfl))
      obtain ⟨m', hm', M⟩ := h.wc l4
      obtain ⟨aL, cL, vW, hbx, -, -, hx3⟩ := pb_box M
      have c0 := cell_row hbx 0
      have c2 := cell_row hbx 2
      simp at c0 c2
      refine og_call (g := some (6, true)) ho 17 #[.tmp 97] #[28] (d := some 98) (by kernel_rfl) (by exact ⟨93, by kernel_rfl, h.jv.e 6 (by decide) (depI ho hall 6 (by kernel_rfl))⟩) Try.func17 rfl (by kernel_rfl) (vs := #[pt a]) (by have t97 := (show x'.eval (.tmp 97) = pt a from h.jv.e 10 (by decide) (depI ho hall 10 (by kernel_rfl))); simp [t97]) (mk_cum M 0 rfl) ?_
      rintro e w' ⟨rfl, rfl⟩
      refine ⟨_, rfl, ?_⟩
      exact ⟨h.jv.next 11 (by decide) S20_inj hu (by show 98 < _; have := h.jv.fe.sz; omega), fun hL => h.wa (fun h1 => hL ((hu 1).2 (.inr h1))), fun h1 h4 => h.wb (((hu 1).1 h1).resolve_left (by decide)) (fun hh => h4 ((hu 4).2 (.inr hh))), fun h4 => h.wc (((hu 4).1 h4).resolve_left (by decide)), fun h2 => (hu 1).2 (.inr (h.l2 (((hu 2).1 h2).resolve_left (by decide)))), fun h4 => (hu 1).2 (.inr (h.l4 (((hu 4).1 h4).resolve_left (by decide)))), fun h5 => (hu 4).2 (.inr (h.l5 (((hu 5).1 h5).resolve_left (by decide)))), fun h6 => (hu 4).2 (.inr (h.l6 (((hu 6).1 h6).resolve_left (by decide))))⟩
    | 12, _ =>
      refine og_move (g := some (6, true)) ho (.tmp 5) (d := some 99) (by kernel_rfl) (by exact ⟨93, by kernel_rfl, h.jv.e 6 (by decide) (depI ho hall 6 (by kernel_rfl))⟩) q5 ?_
      exact ⟨h.jv.next 12 (by decide) S20_inj hu (by show 99 < _; have := h.jv.fe.sz; omega), fun hL => h.wa (fun h1 => hL ((hu 1).2 (.inr h1))), fun h1 h4 => h.wb (((hu 1).1 h1).resolve_left (by decide)) (fun hh => h4 ((hu 4).2 (.inr hh))), fun h4 => h.wc (((hu 4).1 h4).resolve_left (by decide)), fun h2 => (hu 1).2 (.inr (h.l2 (((hu 2).1 h2).resolve_left (by decide)))), fun h4 => (hu 1).2 (.inr (h.l4 (((hu 4).1 h4).resolve_left (by decide)))), fun h5 => (hu 4).2 (.inr (h.l5 (((hu 5).1 h5).resolve_left (by decide)))), fun h6 => (hu 4).2 (.inr (h.l6 (((hu 6).1 h6).resolve_left (by decide))))⟩
    | 13, _ =>
      refine og_nil (g := some (6, true)) ho (.tmp 99) (d := some 100) (by kernel_rfl) (by exact ⟨93, by kernel_rfl, h.jv.e 6 (by decide) (depI ho hall 6 (by kernel_rfl))⟩) (show x'.eval (.tmp 99) = pt x from h.jv.e 12 (by decide) (depI ho hall 12 (by kernel_rfl))) ?_
      exact ⟨h.jv.next 13 (by decide) S20_inj hu (by show 100 < _; have := h.jv.fe.sz; omega), fun hL => h.wa (fun h1 => hL ((hu 1).2 (.inr h1))), fun h1 h4 => h.wb (((hu 1).1 h1).resolve_left (by decide)) (fun hh => h4 ((hu 4).2 (.inr hh))), fun h4 => h.wc (((hu 4).1 h4).resolve_left (by decide)), fun h2 => (hu 1).2 (.inr (h.l2 (((hu 2).1 h2).resolve_left (by decide)))), fun h4 => (hu 1).2 (.inr (h.l4 (((hu 4).1 h4).resolve_left (by decide)))), fun h5 => (hu 4).2 (.inr (h.l5 (((hu 5).1 h5).resolve_left (by decide)))), fun h6 => (hu 4).2 (.inr (h.l6 (((hu 6).1 h6).resolve_left (by decide))))⟩
    | 14, _ =>
      refine og_field2 (g := some (6, true)) ho (.tmp 100) (d := some 101) (by kernel_rfl) (by exact ⟨93, by kernel_rfl, h.jv.e 6 (by decide) (depI ho hall 6 (by kernel_rfl))⟩) (show x'.eval (.tmp 100) = pt x from h.jv.e 13 (by decide) (depI ho hall 13 (by kernel_rfl))) ?_
      exact ⟨h.jv.next 14 (by decide) S20_inj hu (by show 101 < _; have := h.jv.fe.sz; omega), fun hL => h.wa (fun h1 => hL ((hu 1).2 (.inr h1))), fun h1 h4 => h.wb (((hu 1).1 h1).resolve_left (by decide)) (fun hh => h4 ((hu 4).2 (.inr hh))), fun h4 => h.wc (((hu 4).1 h4).resolve_left (by decide)), fun h2 => (hu 1).2 (.inr (h.l2 (((hu 2).1 h2).resolve_left (by decide)))), fun h4 => (hu 1).2 (.inr (h.l4 (((hu 4).1 h4).resolve_left (by decide)))), fun h5 => (hu 4).2 (.inr (h.l5 (((hu 5).1 h5).resolve_left (by decide)))), fun h6 => (hu 4).2 (.inr (h.l6 (((hu 6).1 h6).resolve_left (by decide))))⟩
    | 15, _ =>
      refine og_index0 (g := some (6, true)) ho (.tmp 101) (d := some 102) (by kernel_rfl) (by exact ⟨93, by kernel_rfl, h.jv.e 6 (by decide) (depI ho hall 6 (by kernel_rfl))⟩) (show x'.eval (.tmp 101) = .pointer (some ⟨x, 2, none⟩) from h.jv.e 14 (by decide) (depI ho hall 14 (by kernel_rfl))) ?_
      exact ⟨h.jv.next 15 (by decide) S20_inj hu (by show 102 < _; have := h.jv.fe.sz; omega), fun hL => h.wa (fun h1 => hL ((hu 1).2 (.inr h1))), fun h1 h4 => h.wb (((hu 1).1 h1).resolve_left (by decide)) (fun hh => h4 ((hu 4).2 (.inr hh))), fun h4 => h.wc (((hu 4).1 h4).resolve_left (by decide)), fun h2 => (hu 1).2 (.inr (h.l2 (((hu 2).1 h2).resolve_left (by decide)))), fun h4 => (hu 1).2 (.inr (h.l4 (((hu 4).1 h4).resolve_left (by decide)))), fun h5 => (hu 4).2 (.inr (h.l5 (((hu 5).1 h5).resolve_left (by decide)))), fun h6 => (hu 4).2 (.inr (h.l6 (((hu 6).1 h6).resolve_left (by decide))))⟩
    | 16, _ =>
      have l4 : L 4 := h.l6 (depI ho hall 6 (by kernel_rfl))
      obtain ⟨m', hm', M⟩ := h.wc l4
      obtain ⟨aL, cL, vW, hbx, -, -, hx3⟩ := pb_box M
      have c0 := cell_row hbx 0
      have c2 := cell_row hbx 2
      simp at c0 c2
      refine og_loadR (g := some (6, true)) ho (.tmp 102) (d := some 103) (by kernel_rfl) (by exact ⟨93, by kernel_rfl, h.jv.e 6 (by decide) (depI ho hall 6 (by kernel_rfl))⟩) (show x'.eval (.tmp 102) = .pointer (some ⟨x, 2, none⟩) from h.jv.e 15 (by decide) (depI ho hall 15 (by kernel_rfl))) c2 ?_
      exact ⟨h.jv.next 16 (by decide) S20_inj hu (by show 103 < _; have := h.jv.fe.sz; omega), fun hL => h.wa (fun h1 => hL ((hu 1).2 (.inr h1))), fun h1 h4 => h.wb (((hu 1).1 h1).resolve_left (by decide)) (fun hh => h4 ((hu 4).2 (.inr hh))), fun h4 => h.wc (((hu 4).1 h4).resolve_left (by decide)), fun h2 => (hu 1).2 (.inr (h.l2 (((hu 2).1 h2).resolve_left (by decide)))), fun h4 => (hu 1).2 (.inr (h.l4 (((hu 4).1 h4).resolve_left (by decide)))), fun h5 => (hu 4).2 (.inr (h.l5 (((hu 5).1 h5).resolve_left (by decide)))), fun h6 => (hu 4).2 (.inr (h.l6 (((hu 6).1 h6).resolve_left (by decide))))⟩
    | 17, _ =>
      have l4 : L 4 := h.l6 (depI ho hall 6 (by kernel_rfl))
      obtain ⟨m', hm', M⟩ := h.wc l4
      obtain ⟨aL, cL, vW, hbx, -, -, hx3⟩ := pb_box M
      have c0 := cell_row hbx 0
      have c2 := cell_row hbx 2
      simp at c0 c2
      refine og_call (g := some (6, true)) ho 33 #[.tmp 103] #[70] (d := some 104) (by kernel_rfl) (by exact ⟨93, by kernel_rfl, h.jv.e 6 (by decide) (depI ho hall 6 (by kernel_rfl))⟩) Try.func33 rfl (by kernel_rfl) (vs := #[pt r]) (by have t103 := (show x'.eval (.tmp 103) = pt r from h.jv.e 16 (by decide) (depI ho hall 16 (by kernel_rfl))); simp [t103]) (mr_cum M 2 rfl) ?_
      rintro e w' ⟨rfl, rfl⟩
      refine ⟨_, rfl, ?_⟩
      exact ⟨h.jv.next 17 (by decide) S20_inj hu (by show 104 < _; have := h.jv.fe.sz; omega), fun hL => h.wa (fun h1 => hL ((hu 1).2 (.inr h1))), fun h1 h4 => h.wb (((hu 1).1 h1).resolve_left (by decide)) (fun hh => h4 ((hu 4).2 (.inr hh))), fun h4 => h.wc (((hu 4).1 h4).resolve_left (by decide)), fun h2 => (hu 1).2 (.inr (h.l2 (((hu 2).1 h2).resolve_left (by decide)))), fun h4 => (hu 1).2 (.inr (h.l4 (((hu 4).1 h4).resolve_left (by decide)))), fun h5 => (hu 4).2 (.inr (h.l5 (((hu 5).1 h5).resolve_left (by decide)))), fun h6 => (hu 4).2 (.inr (h.l6 (((hu 6).1 h6).resolve_left (by decide))))⟩
    | 18, _ =>
      refine og_eql (g := some (6, true)) ho (.tmp 98) (.tmp 104) (A.c : Nat) (d := some 105) (by kernel_rfl) (by exact ⟨93, by kernel_rfl, h.jv.e 6 (by decide) (depI ho hall 6 (by kernel_rfl))⟩) (show x'.eval (.tmp 98) = .int .i64 (A.c : Nat) from h.jv.e 11 (by decide) (depI ho hall 11 (by kernel_rfl))) (show x'.eval (.tmp 104) = .int .i64 (A.c : Nat) from h.jv.e 17 (by decide) (depI ho hall 17 (by kernel_rfl))) ?_
      exact ⟨h.jv.next 18 (by decide) S20_inj hu (by show 105 < _; have := h.jv.fe.sz; omega), fun hL => h.wa (fun h1 => hL ((hu 1).2 (.inr h1))), fun h1 h4 => h.wb (((hu 1).1 h1).resolve_left (by decide)) (fun hh => h4 ((hu 4).2 (.inr hh))), fun h4 => h.wc (((hu 4).1 h4).resolve_left (by decide)), fun h2 => (hu 1).2 (.inr (h.l2 (((hu 2).1 h2).resolve_left (by decide)))), fun h4 => (hu 1).2 (.inr (h.l4 (((hu 4).1 h4).resolve_left (by decide)))), fun h5 => (hu 4).2 (.inr (h.l5 (((hu 5).1 h5).resolve_left (by decide)))), fun h6 => (hu 4).2 (.inr (h.l6 (((hu 6).1 h6).resolve_left (by decide))))⟩
    | 19, _ =>
      refine og_pickT (g := none) ho (.tmp 93) (.tmp 105) (d := some 106) (by kernel_rfl) (by exact trivial) (show x'.eval (.tmp 93) = .bool true from h.jv.e 6 (by decide) (depI ho hall 6 (by kernel_rfl))) (show x'.eval (.tmp 105) = .bool true from h.jv.e 18 (by decide) (depI ho hall 18 (by kernel_rfl))) ?_
      exact ⟨h.jv.next 19 (by decide) S20_inj hu (by show 106 < _; have := h.jv.fe.sz; omega), fun hL => h.wa (fun h1 => hL ((hu 1).2 (.inr h1))), fun h1 h4 => h.wb (((hu 1).1 h1).resolve_left (by decide)) (fun hh => h4 ((hu 4).2 (.inr hh))), fun h4 => h.wc (((hu 4).1 h4).resolve_left (by decide)), fun h2 => (hu 1).2 (.inr (h.l2 (((hu 2).1 h2).resolve_left (by decide)))), fun h4 => (hu 1).2 (.inr (h.l4 (((hu 4).1 h4).resolve_left (by decide)))), fun h5 => (hu 4).2 (.inr (h.l5 (((hu 5).1 h5).resolve_left (by decide)))), fun h6 => (hu 4).2 (.inr (h.l6 (((hu 6).1 h6).resolve_left (by decide))))⟩
    | 20, _ =>
      refine og_assign (g := none) ho (.tmp 106) (d := some 4) (by kernel_rfl) (by exact trivial) (show x'.eval (.tmp 106) = .bool true from h.jv.e 19 (by decide) (depI ho hall 19 (by kernel_rfl))) ?_
      exact ⟨h.jv.next 20 (by decide) S20_inj hu (by show 4 < _; have := h.jv.fe.sz; omega), fun hL => h.wa (fun h1 => hL ((hu 1).2 (.inr h1))), fun h1 h4 => h.wb (((hu 1).1 h1).resolve_left (by decide)) (fun hh => h4 ((hu 4).2 (.inr hh))), fun h4 => h.wc (((hu 4).1 h4).resolve_left (by decide)), fun h2 => (hu 1).2 (.inr (h.l2 (((hu 2).1 h2).resolve_left (by decide)))), fun h4 => (hu 1).2 (.inr (h.l4 (((hu 4).1 h4).resolve_left (by decide)))), fun h5 => (hu 4).2 (.inr (h.l5 (((hu 5).1 h5).resolve_left (by decide)))), fun h6 => (hu 4).2 (.inr (h.l6 (((hu 6).1 h6).resolve_left (by decide))))⟩
    | i + 21, hi => omega
  · rintro L x' u h hall
    rw [opsR20_size] at hall
    have hp := Fe.puts ((List.range 21).map fun j => (S20 j, V20 x a r A j)) a0 x' (by rw [List.map_map]; exact h.jv.fe) (by
      intro p hp
      obtain ⟨j, hj, rfl⟩ := List.mem_map.1 hp
      have hj := List.mem_range.1 hj
      refine ⟨?_, h.jv.e j hj (hall j hj)⟩
      have : ∀ j, j < 21 → S20 j < 107 := by decide
      exact Nat.lt_of_lt_of_le (this j hj) hz)
    rw [hp]
    obtain ⟨m', hm', M⟩ := h.wc (hall 4 (by omega))
    exact hK u M.base
  · intro L hL
    exact ⟨⟨Fe.refl _ _, fun j _ h => absurd h (hL _)⟩, fun _ => rfl, fun h => absurd h (hL _), fun h => absurd h (hL _), fun h => absurd h (hL _), fun h => absurd h (hL _), fun h => absurd h (hL _), fun h => absurd h (hL _)⟩

end Go.Proofs.Ytpjnhjijipcjkaa
