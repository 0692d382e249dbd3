/-
  A client in memory; New.
-/
import Derived.Test.YtjgpibajndlhaaaTApp
import Derived.Test.YtjgpibajndlhaaaSb
namespace Go.Proofs.Ytjgpibajndlhaaa
open Go.RowKit
set_option linter.unusedVariables false
variable {T : Nat → Prop}

/-- Blocks of T, and all from n on. -/
def TU (T : Nat → Prop) (n : Nat) : Nat → Prop := fun k => T k ∨ n ≤ k
def TG (n : Nat) : Nat → Prop := fun k => n ≤ k

/-- The block has this type. -/
def Tg (w : World) (k : Nat) (t : TypeId) : Prop := ∃ cur, w.heap[k]? = some (.cells cur t (0, 0))
theorem Tg.ne {w : World} {k j : Nat} {s t : TypeId} (h : Tg w k s) (h' : Tg w j t) (hst : s ≠ t) : k ≠ j := by
  rintro rfl
  obtain ⟨c, h⟩ := h
  obtain ⟨d, h'⟩ := h'
  rw [h] at h'
  simp at h'
  exact hst h'.2
theorem Tg.fr {w w' : World} {k : Nat} {t : TypeId} {S : Nat → Prop} (h : Tg w k t) (hF : Fr S w w') (hS : ¬ S k) : Tg w' k t := by
  obtain ⟨c, h⟩ := h
  exact ⟨c, hF.keeps h hS⟩
theorem Tg.lt {w : World} {k : Nat} {t : TypeId} (h : Tg w k t) : k < w.heap.size := by
  obtain ⟨c, h⟩ := h
  exact block_lt h
theorem SF.tg {α : Type} {f : α → List Value} {k : Nat} {w : World} {e : TypeId} {β : Option Nat} {v : Value} {xs : List α} (h : SF f k w e β v xs) {g : Nat} (hg : β = some g) : Tg w g e := by
  subst hg
  exact h.blk
theorem SE.tg {w : World} {β : Option Nat} {v : Value} {xs : List El} (h : SE w β v xs) {g : Nat} (hg : β = some g) : Tg w g 67 := by
  subst hg
  obtain ⟨c, -, cur, h, -⟩ := h
  exact ⟨_, h⟩

/-- An edit: its tag and its operation. -/
def edc (x : Int × OpE) : List Value := [.int .i64 x.1, .int .i64 x.2.kind, .int .i64 x.2.pos, .int .u8 x.2.ch, .int .i64 x.2.cl, .int .i64 x.2.sq]
theorem sz_edc : Sz edc 6 := fun x => ⟨rfl, fun v hv => by simp [edc] at hv; rcases hv with rfl | rfl | rfl | rfl | rfl | rfl <;> rfl⟩
theorem Try.infoD : (Try.prog.info? 36).map (fun i => (i.zero, i.size, i.bytes)) = some (some (.agg #[.int .i64 0, .int .i64 0, .int .i64 0, .int .u8 0, .int .i64 0, .int .i64 0]), 6, 48) := by kernel_rfl

/-- A space, its blocks told by their types. -/
def SpT (T : Nat → Prop) (w : World) (z : Nat) (p : Sp) : Prop := ∃ vm vo βm βo, SK w z p.f p.ms p.os p.last vm vo βm βo ∧ p.ok ∧ T z ∧ (∀ g, βm = some g → T g) ∧ (∀ g, βo = some g → T g)
/-- The blocks that a space may change. -/
def SpS (T : Nat → Prop) (w : World) (k : Nat) : Prop := T k ∧ (Tg w k 81 ∨ Tg w k 3 ∨ Tg w k 34)

theorem SpT.fr {w w' : World} {z : Nat} {p : Sp} {S : Nat → Prop} (h : SpT T w z p) (hF : Fr S w w') (hS : ∀ k, SpS T w k → ¬ S k) : SpT T w' z p := by
  obtain ⟨vm, vo, βm, βo, h, ok, b1, b2, b3⟩ := h
  exact ⟨vm, vo, βm, βo, h.fr hF (hS z ⟨b1, .inl ⟨_, h.box⟩⟩) (fun g hg => hS g ⟨b2 g hg, .inr (.inl (h.rm.tg hg))⟩) (fun g hg => hS g ⟨b3 g hg, .inr (.inr (h.ro.tg hg))⟩), ok, b1, b2, b3⟩
theorem SpT.at {w : World} {z : Nat} {p : Sp} (h : SpT T w z p) : ∃ S, SpAt w z p S ∧ ∀ k, S k → SpS T w k := by
  obtain ⟨vm, vo, βm, βo, h, ok, b1, b2, b3⟩ := h
  refine ⟨fun k => k = z ∨ βm = some k ∨ βo = some k, ⟨⟨vm, vo, βm, βo, h, .inl rfl, fun g hg => .inr (.inl hg), fun g hg => .inr (.inr hg), ?_⟩, ok⟩, ?_⟩
  · rintro k (rfl | hk | hk)
    · exact block_lt h.box
    · exact (h.rm.tg hk).lt
    · exact (h.ro.tg hk).lt
  · rintro k (rfl | hk | hk)
    · exact ⟨b1, .inl ⟨_, h.box⟩⟩
    · exact ⟨b2 _ hk, .inr (.inl (h.rm.tg hk))⟩
    · exact ⟨b3 _ hk, .inr (.inr (h.ro.tg hk))⟩
theorem SpAt.t {w : World} {z : Nat} {p : Sp} {S : Nat → Prop} (h : SpAt w z p S) (hB : ∀ k, S k → T k) : SpT T w z p := by
  obtain ⟨⟨vm, vo, βm, βo, h, h1, h2, h3, -⟩, ok⟩ := h
  exact ⟨vm, vo, βm, βo, h, ok, hB _ h1, fun g hg => hB _ (h2 g hg), fun g hg => hB _ (h3 g hg)⟩

/-- The client's own block. -/
def CB (w : World) (x : Nat) (id : Int) (vt vp : Value) (y z : Nat) : Prop :=
  ∃ cur : Array Value, w.heap[x]? = some (.cells cur 64 (0, 0)) ∧ cur.size = 74 ∧ cur[0]? = some (.int .i64 id) ∧ cur[1]? = some (.int .i64 0) ∧ cur[2]? = some (.int .i64 0) ∧
    cur[3]? = some vt ∧ cur[4]? = some vp ∧ cur[5]? = some (.pointer (some ⟨z, 0, none⟩)) ∧ cur[72]? = some (.pointer (some ⟨y, 0, none⟩)) ∧ cur[73]? = some (.iface 59 (.agg #[]))
/-- An inbox that has taken in nothing. -/
def IB (w : World) (y : Nat) : Prop := ∃ a b, w.heap[y]? = some (.cells #[a, .int .i64 0, b] 90 (0, 0))

/-- The client x: its text ds, its edits es at block βp, its space p. -/
def CL (T : Nat → Prop) (w : World) (x z : Nat) (id : Int) (ds : List El) (es : List (Int × OpE)) (βp : Option Nat) (p : Sp) : Prop :=
  ∃ y vt vp βt, CB w x id vt vp y z ∧ IB w y ∧ SE w βt vt ds ∧ SF edc 6 w 36 βp vp es ∧ SpT T w z p ∧ T x ∧ ∀ g, βp = some g → T g

theorem SpT.mono {T' : Nat → Prop} {w : World} {z : Nat} {p : Sp} (h : SpT T w z p) (hT : ∀ k, T k → T' k) : SpT T' w z p := by
  obtain ⟨vm, vo, βm, βo, h, ok, b1, b2, b3⟩ := h
  exact ⟨vm, vo, βm, βo, h, ok, hT _ b1, fun g hg => hT _ (b2 g hg), fun g hg => hT _ (b3 g hg)⟩
theorem CL.mono {T' : Nat → Prop} {w : World} {x z : Nat} {id : Int} {ds : List El} {es : List (Int × OpE)} {βp : Option Nat} {p : Sp} (h : CL T w x z id ds es βp p) (hT : ∀ k, T k → T' k) : CL T' w x z id ds es βp p := by
  obtain ⟨y, vt, vp, βt, c, i, t, e, s, b1, b2⟩ := h
  exact ⟨y, vt, vp, βt, c, i, t, e, s.mono hT, hT _ b1, fun g hg => hT _ (b2 g hg)⟩
theorem CB.tg {w : World} {x : Nat} {id : Int} {vt vp : Value} {y z : Nat} (h : CB w x id vt vp y z) : Tg w x 64 := by
  obtain ⟨cur, h, -⟩ := h
  exact ⟨_, h⟩
theorem IB.tg {w : World} {y : Nat} (h : IB w y) : Tg w y 90 := by
  obtain ⟨a, b, h⟩ := h
  exact ⟨_, h⟩
theorem CB.fr {w w' : World} {x : Nat} {id : Int} {vt vp : Value} {y z : Nat} {S : Nat → Prop} (h : CB w x id vt vp y z) (hF : Fr S w w') (hS : ¬ S x) : CB w' x id vt vp y z := by
  obtain ⟨cur, h, r⟩ := h
  exact ⟨cur, hF.keeps h hS, r⟩
theorem IB.fr {w w' : World} {y : Nat} {S : Nat → Prop} (h : IB w y) (hF : Fr S w w') (hS : ¬ S y) : IB w' y := by
  obtain ⟨a, b, h⟩ := h
  exact ⟨a, b, hF.keeps h hS⟩
/-- Where only blocks change that are none of the client's. -/
theorem CL.fr {w w' : World} {x z : Nat} {id : Int} {ds : List El} {es : List (Int × OpE)} {βp : Option Nat} {p : Sp} {S : Nat → Prop} (h : CL T w x z id ds es βp p) (hF : Fr S w w') (h1 : ∀ k, Tg w k 64 ∨ Tg w k 90 ∨ Tg w k 67 ∨ SpS T w k → ¬ S k) (h2 : ∀ g, βp = some g → ¬ S g) : CL T w' x z id ds es βp p := by
  obtain ⟨y, vt, vp, βt, c, i, t, e, s, b⟩ := h
  exact ⟨y, vt, vp, βt, c.fr hF (h1 _ (.inl c.tg)), i.fr hF (h1 _ (.inr (.inl i.tg))), t.fr hF (fun g hg => h1 _ (.inr (.inr (.inl (t.tg hg))))), e.fr hF h2, s.fr hF (fun k hk => h1 _ (.inr (.inr (.inr hk)))), b⟩
theorem CL.below {w w' : World} {x z : Nat} {id : Int} {ds : List El} {es : List (Int × OpE)} {βp : Option Nat} {p : Sp} (h : CL T w x z id ds es βp p) (hb : Below w.heap.size w w') : CL T w' x z id ds es βp p :=
  h.fr (S := fun _ => False) (Fr.of_below hb) (fun _ _ h => h) (fun _ _ h => h)
theorem CB.cells {w : World} {x : Nat} {id : Int} {vt vp : Value} {y z : Nat} (h : CB w x id vt vp y z) :
    (x < w.heap.size ∧ w.cell? ⟨x, 0, none⟩ = some (.int .i64 id) ∧ w.cell? ⟨x, 1, none⟩ = some (.int .i64 0) ∧ w.cell? ⟨x, 2, none⟩ = some (.int .i64 0) ∧ w.cell? ⟨x, 3, none⟩ = some vt ∧ w.cell? ⟨x, 4, none⟩ = some vp ∧
      w.cell? ⟨x, 5, none⟩ = some (.pointer (some ⟨z, 0, none⟩)) ∧ w.cell? ⟨x, 72, none⟩ = some (.pointer (some ⟨y, 0, none⟩)) ∧ w.cell? ⟨x, 73, none⟩ = some (.iface 59 (.agg #[]))) ∧ ∀ i, w.frozen? ⟨x, i, none⟩ = false := by
  obtain ⟨cur, h, -, c0, c1, c2, c3, c4, c5, c6, c7⟩ := h
  refine ⟨⟨block_lt h, ?_, ?_, ?_, ?_, ?_, ?_, ?_, ?_⟩, fun i => frozen_row h i⟩ <;> (rw [cell_row h]; assumption)
theorem CB.text {w : World} {x : Nat} {id : Int} {vt vp : Value} {y z : Nat} (h : CB w x id vt vp y z) (v : Value) : CB (w.setCell ⟨x, 3, none⟩ v) x id v vp y z := by
  obtain ⟨cur, h, s, c0, c1, c2, c3, c4, c5, c6, c7⟩ := h
  refine ⟨cur.setIfInBounds 3 v, set_row h 3 v, by simp [s], ?_, ?_, ?_, ?_, ?_, ?_, ?_, ?_⟩ <;> rw [Array.getElem?_setIfInBounds] <;> simp <;> first | assumption | omega
theorem CB.pend {w : World} {x : Nat} {id : Int} {vt vp : Value} {y z : Nat} (h : CB w x id vt vp y z) (v : Value) : CB (w.setCell ⟨x, 4, none⟩ v) x id vt v y z := by
  obtain ⟨cur, h, s, c0, c1, c2, c3, c4, c5, c6, c7⟩ := h
  refine ⟨cur.setIfInBounds 4 v, set_row h 4 v, by simp [s], ?_, ?_, ?_, ?_, ?_, ?_, ?_, ?_⟩ <;> rw [Array.getElem?_setIfInBounds] <;> simp <;> first | assumption | omega

theorem onew_any (w : World) : Calls Try.prog 22 #[.int .i64 8] w fun e w' => ∃ b, e = .returned (.tuple #[.pointer (some ⟨b, 0, none⟩), .int .i64 0]) ∧ Below w.heap.size w w' := by
  go_enter Try.func22, Try.ntmps22
  go_wp2
  go_ret2
  exact ⟨_, rfl, (Below.refl _ _).alloc (Nat.le_refl _) _⟩

theorem inew_any (w : World) : Calls Try.prog 23 #[.int .i64 8] w fun e w' => ∃ b, e = .returned (.tuple #[.pointer (some ⟨b, 0, none⟩), .int .i64 0]) ∧ IB w' b ∧ Below w.heap.size w w' := by
  have hmm := @run_makeMap Try.prog
  go_enter Try.func23, Try.ntmps23
  go_wp2
  refine bodyPost_ret (v := .tuple #[.pointer (some ⟨w.heap.size + 1, 0, none⟩), .int .i64 0]) (by simp [results, Try.results23, go_sem]) rfl ?_
  refine ⟨_, rfl, ⟨.int .i64 8, .map (some w.heap.size), ?_⟩, ((Below.refl _ _).alloc (Nat.le_refl _) _).alloc (by simp) _⟩
  have := heap_alloc_new (w.alloc (.map #[] 0)) (.cells #[.int .i64 8, .int .i64 0, .map (some w.heap.size)] 90)
  rw [World.size_alloc] at this
  exact this

set_option maxRecDepth 100000 in
set_option maxHeartbeats 2000000 in
theorem newLink_any (w : World) : Calls Try.prog 15 #[] w fun e w' => ∃ a b, e = .returned (.tuple #[.agg #[.pointer (some ⟨a, 0, none⟩), .pointer (some ⟨b, 0, none⟩)], .int .i64 0]) ∧ IB w' b ∧ Below w.heap.size w w' := by
  go_enter Try.func15, Try.ntmps15
  go_wp2_with fail
  refine (onew_any _).mono ?_
  rintro e w1 ⟨a, rfl, b1⟩
  go_wp2_with fail
  refine (inew_any _).mono ?_
  rintro e w2 ⟨b, rfl, i2, b2⟩
  have B : Below w.heap.size w w2 := (((Below.refl _ _).alloc (Nat.le_refl _) _).trans (b1.mono (by simp))).trans (b2.mono (by have := b1.size; simp at this; omega))
  have X : w2.heap[w.heap.size]? = some (.cells #[.pointer none, .pointer none] 53 (0, 0)) := (b2.block _ (by have := b1.size; simp at this; omega)).trans ((b1.block _ (by simp)).trans (heap_alloc_new w _))
  have c0 := cell_row X 0
  have c1 := cell_row X 1
  have f0 := frozen_row X 0
  have f1 := frozen_row X 1
  have lt := block_lt X
  have Z : Hid (∀ u v, IB ((w2.setCell ⟨w.heap.size, 0, none⟩ u).setCell ⟨w.heap.size, 1, none⟩ v) b ∧ Below w.heap.size w ((w2.setCell ⟨w.heap.size, 0, none⟩ u).setCell ⟨w.heap.size, 1, none⟩ v)) := by
    intro u v
    have hF : Fr (· = w.heap.size) w2 ((w2.setCell ⟨w.heap.size, 0, none⟩ u).setCell ⟨w.heap.size, 1, none⟩ v) := (Fr.setCell (S := (· = w.heap.size)) w2 ⟨w.heap.size, 0, none⟩ u rfl).trans (Fr.setCell _ ⟨w.heap.size, 1, none⟩ v rfl)
    exact ⟨i2.fr hF (fun h => (i2.tg.ne ⟨_, X⟩ (by decide)) h), B.trans (hF.below B.size (fun k h => by omega))⟩
  simp at c0 c1
  clear b1 b2 i2 X B
  go_wp2
  refine bodyPost_ret (v := .tuple #[.agg #[.pointer (some ⟨a, 0, none⟩), .pointer (some ⟨b, 0, none⟩)], .int .i64 0]) (by simp [results, Try.results15, go_sem, c0, c1]) rfl ?_
  exact ⟨a, b, rfl, Z.out _ _⟩

end Go.Proofs.Ytjgpibajndlhaaa
