/-
  A board of notes in memory.
-/
import Derived.Test.YtkkklfnooeofcabSm
namespace Go.Proofs.Ytkkklfnooeofcab
open Go.RowKit Go.Maps Go.ChangeMaps Go.MapKept Go.WideMaps
set_option linter.unusedVariables false

/-- A note: its number, client, words, whether it is shut, its answers, its elements. -/
structure Nt where
  id : Nat
  cl : Int
  wo : ByteArray
  sh : Bool
  sd : List (Int × ByteArray)
  el : List El

def rpc (x : Int × ByteArray) : List Value := [.int .i64 x.1, .string x.2]
theorem sz_rpc : Sz rpc 2 := fun x => ⟨rfl, fun v hv => by simp [rpc] at hv; rcases hv with rfl | rfl <;> rfl⟩
theorem sz_elc : Sz elc 3 := fun x => ⟨rfl, fun v hv => by simp [elc] at hv; rcases hv with rfl | rfl | rfl <;> rfl⟩
theorem se_sf {w : World} {β : Option Nat} {v : Value} {xs : List El} (h : SE w β v xs) : SF elc 3 w 41 β v xs := by
  cases β with
  | none => exact h
  | some g => exact h
theorem sf_se {w : World} {β : Option Nat} {v : Value} {xs : List El} (h : SF elc 3 w 41 β v xs) : SE w β v xs := by
  cases β with
  | none => exact h
  | some g => exact h

/-- A note and its blocks: its own, the row of its answers, the row of its elements. -/
structure NB where
  n : Nt
  x : Nat
  ρ : Option Nat
  ε : Nat
  sv : Value
  ev : Value

def ntc (n : Nt) (sv ev : Value) : Array Value := #[.int .i64 n.id, .int .i64 n.cl, .string n.wo, .int .i64 0, .int .i64 0, .bool false, .bool n.sh, sv, ev]

structure NK (w : World) (p : NB) : Prop where
  box : w.heap[p.x]? = some (.cells (ntc p.n p.sv p.ev) 76 (0, 0))
  said : SF rpc 2 w 90 p.ρ p.sv p.n.sd
  elems : SE w (some p.ε) p.ev p.n.el
  wf : ∀ x ∈ p.n.el, wfE x

theorem NK.fr {S : Nat → Prop} {w w' : World} {p : NB} (h : NK w p) (hF : Fr S w w') (h1 : ¬ S p.x) (h2 : ∀ k, p.ρ = some k → ¬ S k) (h3 : ¬ S p.ε) : NK w' p :=
  ⟨hF.keeps h.box h1, h.said.fr hF h2, h.elems.fr hF (fun k hk => by cases hk; exact h3), h.wf⟩

abbrev keyN (p : NB) : Nat × Value := (p.n.id, .pointer (some ⟨p.x, 0, none⟩))

/-- The board at block r, its map at block b, g numbers given; O: all its blocks. -/
structure BK (w : World) (O : Nat → Prop) (r b g : Nat) (ps : List NB) : Prop where
  box : w.heap[r]? = some (.cells #[.map (some b), .int .i64 g] 53 (0, 0))
  mp : MP w b (ps.map keyN)
  nk : ∀ p ∈ ps, NK w p
  dis : ps.Pairwise (fun p q => p.x ≠ q.x ∧ ∀ k, p.ρ = some k → q.ρ ≠ some k)
  orr : O r
  ob : O b
  on : ∀ p ∈ ps, O p.x ∧ O p.ε ∧ ∀ k, p.ρ = some k → O k
  old : ∀ k, O k → k < w.heap.size
  ids : ps.Pairwise (fun p q => p.n.id < q.n.id)
  bd : ∀ p ∈ ps, 1 ≤ p.n.id ∧ p.n.id ≤ g
  le : g ≤ 256

def BD (w : World) (O : Nat → Prop) (r g : Nat) (Ns : List Nt) : Prop := ∃ b ps, Ns = ps.map NB.n ∧ BK w O r b g ps

theorem BK.fr {S O : Nat → Prop} {w w' : World} {r b g : Nat} {ps : List NB} (h : BK w O r b g ps) (hF : Fr S w w') (hS : ∀ k, O k → ¬ S k) : BK w' O r b g ps :=
  ⟨hF.keeps h.box (hS _ h.orr), h.mp.fr hF (hS _ h.ob), fun p hp => (h.nk p hp).fr hF (hS _ (h.on p hp).1) (fun k hk => hS _ ((h.on p hp).2.2 k hk)) (hS _ (h.on p hp).2.1), h.dis, h.orr, h.ob, h.on, fun k hk => Nat.lt_of_lt_of_le (h.old k hk) hF.size, h.ids, h.bd, h.le⟩
theorem BD.fr {S O : Nat → Prop} {w w' : World} {r g : Nat} {Ns : List Nt} (h : BD w O r g Ns) (hF : Fr S w w') (hS : ∀ k, O k → ¬ S k) : BD w' O r g Ns := by
  obtain ⟨b, ps, e, h⟩ := h
  exact ⟨b, ps, e, h.fr hF hS⟩
theorem BD.below {O : Nat → Prop} {w w' : World} {r g : Nat} {Ns : List Nt} (h : BD w O r g Ns) (hb : Below w.heap.size w w') : BD w' O r g Ns := h.fr (S := fun _ => False) (Fr.of_below hb) (fun _ _ h => h)
theorem BD.old {O : Nat → Prop} {w : World} {r g : Nat} {Ns : List Nt} (h : BD w O r g Ns) : ∀ k, O k → k < w.heap.size := by
  obtain ⟨b, ps, e, h⟩ := h
  exact h.old
theorem BD.ids {O : Nat → Prop} {w : World} {r g : Nat} {Ns : List Nt} (h : BD w O r g Ns) : Ns.Pairwise (fun p q => p.id < q.id) ∧ (∀ n ∈ Ns, 1 ≤ n.id ∧ n.id ≤ g) ∧ g ≤ 256 := by
  obtain ⟨b, ps, rfl, h⟩ := h
  refine ⟨List.pairwise_map.2 h.ids, fun n hn => ?_, h.le⟩
  obtain ⟨p, hp, rfl⟩ := List.mem_map.1 hn
  exact h.bd p hp

/-- What a call leaves of a board. -/
def NowB (w w' : World) (O : Nat → Prop) (r g : Nat) (Ns : List Nt) : Prop := ∃ O', BD w' O' r g Ns ∧ (∀ k, O' k → O k ∨ w.heap.size ≤ k) ∧ Fr O w w'

/-- Blocks of unlike types are not one. -/
theorem ty_ne {w : World} {a b : Nat} {cs cs' : Array Value} {t t' : TypeId} {f f' : Nat × Nat} (h : w.heap[a]? = some (.cells cs t f)) (h' : w.heap[b]? = some (.cells cs' t' f')) (hn : t ≠ t') : a ≠ b := by
  rintro rfl
  rw [h] at h'
  cases h'
  exact hn rfl
theorem map_ne {w : World} {a b : Nat} {cs : Array Value} {t : TypeId} {f : Nat × Nat} {o : Obj} (h : w.heap[a]? = some (.cells cs t f)) (h' : w.heap[b]? = some o) (ho : ∃ es c, o = .map es c) : a ≠ b := by
  rintro rfl
  obtain ⟨es, c, rfl⟩ := ho
  rw [h] at h'
  cases h'

end Go.Proofs.Ytkkklfnooeofcab
