/-
  A side in memory.
-/
import Derived.Test.YtmbnimlibnheeaaDoorSh
import Derived.Test.YtmbnimlibnheeaaDoorTApp
import Derived.Deep.AppendSrc
namespace Go.Proofs.YtmbnimlibnheeaaDoor
open Go.RowKit Go.Lib
set_option linter.unusedVariables false
variable {T : Nat → Prop}

/-- Blocks of T, and all from n on. -/
def TU (T : Nat → Prop) (n : Nat) : Nat → Prop := fun k => T k ∨ n ≤ k
def TG (n : Nat) : Nat → Prop := fun k => n ≤ k

/-- The block has this type. -/
def Tg (w : World) (k : Nat) (t : TypeId) : Prop := ∃ cur, w.heap[k]? = some (.cells cur t (0, 0))
theorem Tg.ne {w : World} {k j : Nat} {s t : TypeId} (h : Tg w k s) (h' : Tg w j t) (hst : s ≠ t) : k ≠ j := by
  rintro rfl
  obtain ⟨c, h⟩ := h
  obtain ⟨d, h'⟩ := h'
  rw [h] at h'
  simp at h'
  exact hst h'.2
theorem Tg.fr {w w' : World} {k : Nat} {t : TypeId} {S : Nat → Prop} (h : Tg w k t) (hF : Fr S w w') (hS : ¬ S k) : Tg w' k t := by
  obtain ⟨c, h⟩ := h
  exact ⟨c, hF.keeps h hS⟩
theorem Tg.lt {w : World} {k : Nat} {t : TypeId} (h : Tg w k t) : k < w.heap.size := by
  obtain ⟨c, h⟩ := h
  exact block_lt h
theorem SF.tg {α : Type} {f : α → List Value} {k : Nat} {w : World} {e : TypeId} {β : Option Nat} {v : Value} {xs : List α} (h : SF f k w e β v xs) {g : Nat} (hg : β = some g) : Tg w g e := by
  subst hg
  exact h.blk
theorem SE.tg {w : World} {β : Option Nat} {v : Value} {xs : List El} (h : SE w β v xs) {g : Nat} (hg : β = some g) : Tg w g 86 := by
  subst hg
  obtain ⟨c, -, cur, h, -⟩ := h
  exact ⟨_, h⟩

/-- A space, its blocks told by their types. -/
def SpT (T : Nat → Prop) (w : World) (z : Nat) (p : Sp) : Prop := ∃ vm vo βm βo, SK w z p.f p.ms p.os p.last vm vo βm βo ∧ p.ok ∧ T z ∧ (∀ g, βm = some g → T g) ∧ (∀ g, βo = some g → T g)
/-- The blocks that a space may change. -/
def SpS (T : Nat → Prop) (w : World) (k : Nat) : Prop := T k ∧ (Tg w k 69 ∨ Tg w k 3 ∨ Tg w k 29)

theorem SpT.fr {w w' : World} {z : Nat} {p : Sp} {S : Nat → Prop} (h : SpT T w z p) (hF : Fr S w w') (hS : ∀ k, SpS T w k → ¬ S k) : SpT T w' z p := by
  obtain ⟨vm, vo, βm, βo, h, ok, b1, b2, b3⟩ := h
  exact ⟨vm, vo, βm, βo, h.fr hF (hS z ⟨b1, .inl ⟨_, h.box⟩⟩) (fun g hg => hS g ⟨b2 g hg, .inr (.inl (h.rm.tg hg))⟩) (fun g hg => hS g ⟨b3 g hg, .inr (.inr (h.ro.tg hg))⟩), ok, b1, b2, b3⟩
theorem SpT.at {w : World} {z : Nat} {p : Sp} (h : SpT T w z p) : ∃ S, SpAt w z p S ∧ ∀ k, S k → SpS T w k := by
  obtain ⟨vm, vo, βm, βo, h, ok, b1, b2, b3⟩ := h
  refine ⟨fun k => k = z ∨ βm = some k ∨ βo = some k, ⟨⟨vm, vo, βm, βo, h, .inl rfl, fun g hg => .inr (.inl hg), fun g hg => .inr (.inr hg), ?_⟩, ok⟩, ?_⟩
  · rintro k (rfl | hk | hk)
    · exact block_lt h.box
    · exact (h.rm.tg hk).lt
    · exact (h.ro.tg hk).lt
  · rintro k (rfl | hk | hk)
    · exact ⟨b1, .inl ⟨_, h.box⟩⟩
    · exact ⟨b2 _ hk, .inr (.inl (h.rm.tg hk))⟩
    · exact ⟨b3 _ hk, .inr (.inr (h.ro.tg hk))⟩
theorem SpAt.t {w : World} {z : Nat} {p : Sp} {S : Nat → Prop} (h : SpAt w z p S) (hB : ∀ k, S k → T k) : SpT T w z p := by
  obtain ⟨⟨vm, vo, βm, βo, h, h1, h2, h3, -⟩, ok⟩ := h
  exact ⟨vm, vo, βm, βo, h, ok, hB _ h1, fun g hg => hB _ (h2 g hg), fun g hg => hB _ (h3 g hg)⟩

theorem SpT.mono {T' : Nat → Prop} {w : World} {z : Nat} {p : Sp} (h : SpT T w z p) (hT : ∀ k, T k → T' k) : SpT T' w z p := by
  obtain ⟨vm, vo, βm, βo, h, ok, b1, b2, b3⟩ := h
  exact ⟨vm, vo, βm, βo, h, ok, hT _ b1, fun g hg => hT _ (b2 g hg), fun g hg => hT _ (b3 g hg)⟩
theorem SpS.not {w : World} {k j : Nat} {t : TypeId} (h : SpS T w k) (ht : Tg w j t) (h1 : t ≠ 69) (h2 : t ≠ 3) (h3 : t ≠ 29) : k ≠ j := by
  obtain ⟨-, h | h | h⟩ := h
  · exact h.ne ht h1.symm
  · exact h.ne ht h2.symm
  · exact h.ne ht h3.symm


/-- A parcel in memory. -/
def pcl (p : Pc) : List Value := [.int .i64 p.m, .int .i64 p.t, .int .i64 p.o.kind, .int .i64 p.o.pos, .int .u8 p.o.ch, .int .i64 p.o.cl, .int .i64 p.o.sq]
theorem sz_pcl : Sz pcl 7 := fun x => ⟨rfl, fun v hv => by simp [pcl] at hv; rcases hv with rfl | rfl | rfl | rfl | rfl | rfl | rfl <;> rfl⟩
theorem Tryd.infoP : (Tryd.prog.info? 88).map (fun i => (i.zero, i.size, i.bytes)) = some (some (.agg #[.int .i64 0, .int .i64 0, .int .i64 0, .int .i64 0, .int .u8 0, .int .i64 0, .int .i64 0]), 7, 56) := by kernel_rfl

/-- What is under way: a slice whose first parcels may be gone. -/
def Way (T : Nat → Prop) (w : World) (a : Option Addr) (n c : Nat) (W : List Pc) : Prop :=
  W.length = n ∧ n ≤ c ∧ c ≤ 9223372036854775807 ∧ (c = 0 ∨ ∃ g k cur, a = some ⟨g, k * 7, none⟩ ∧ T g ∧ w.heap[g]? = some (.cells (cur : List Value).toArray 88 (0, 0)) ∧ cur.length = (k + c) * 7 ∧ (cur.drop (k * 7)).take (n * 7) = cl pcl W)
theorem Way.fr {w w' : World} {a : Option Addr} {n c : Nat} {W : List Pc} {S : Nat → Prop} (h : Way T w a n c W) (hF : Fr S w w') (hS : ∀ k, T k → Tg w k 88 → ¬ S k) : Way T w' a n c W := by
  obtain ⟨h1, h2, h3, h4⟩ := h
  refine ⟨h1, h2, h3, h4.imp (fun h => h) ?_⟩
  rintro ⟨g, k, cur, rfl, ht, hg, r⟩
  exact ⟨g, k, cur, rfl, ht, hF.keeps hg (hS g ht ⟨_, hg⟩), r⟩
theorem Way.mono {T' : Nat → Prop} {w : World} {a : Option Addr} {n c : Nat} {W : List Pc} (h : Way T w a n c W) (hT : ∀ k, T k → T' k) : Way T' w a n c W := by
  obtain ⟨h1, h2, h3, h4⟩ := h
  refine ⟨h1, h2, h3, h4.imp (fun h => h) ?_⟩
  rintro ⟨g, k, cur, rfl, ht, r⟩
  exact ⟨g, k, cur, rfl, hT g ht, r⟩
/-- The first parcel. -/
theorem Way.head {w : World} {a : Option Addr} {n c : Nat} {p : Pc} {W : List Pc} (h : Way T w a n c (p :: W)) : ∃ g k, a = some ⟨g, k * 7, none⟩ ∧ g < w.heap.size ∧ T g ∧ w.cell? ⟨g, k * 7, none⟩ = some (.int .i64 p.m) ∧ w.cell? ⟨g, k * 7 + 1, none⟩ = some (.int .i64 p.t) ∧ w.cell? ⟨g, k * 7 + 2, none⟩ = some (.int .i64 p.o.kind) ∧ w.cell? ⟨g, k * 7 + 3, none⟩ = some (.int .i64 p.o.pos) ∧ w.cell? ⟨g, k * 7 + 4, none⟩ = some (.int .u8 p.o.ch) ∧ w.cell? ⟨g, k * 7 + 5, none⟩ = some (.int .i64 p.o.cl) ∧ w.cell? ⟨g, k * 7 + 6, none⟩ = some (.int .i64 p.o.sq) := by
  obtain ⟨h1, h2, h3, h4⟩ := h
  simp at h1
  rcases h4 with h4 | ⟨g, k, cur, rfl, ht, hg, hl, hc⟩
  · omega
  · have key : ∀ j, j < 7 → w.cell? ⟨g, k * 7 + j, none⟩ = (pcl p)[j]? := by
      intro j hj
      have e : ((cur.drop (k * 7)).take (n * 7))[j]? = (pcl p)[j]? := by
        rw [hc, cl_cons, List.getElem?_append_left (by rw [(sz_pcl p).1]; exact hj)]
      rw [cell_row hg, List.getElem?_toArray, ← e, List.getElem?_take, if_pos (by omega), List.getElem?_drop]
    refine ⟨g, k, rfl, block_lt hg, ht, ?_, ?_, ?_, ?_, ?_, ?_, ?_⟩
    · have := key 0 (by omega); simpa [pcl] using this
    · have := key 1 (by omega); simpa [pcl] using this
    · have := key 2 (by omega); simpa [pcl] using this
    · have := key 3 (by omega); simpa [pcl] using this
    · have := key 4 (by omega); simpa [pcl] using this
    · have := key 5 (by omega); simpa [pcl] using this
    · have := key 6 (by omega); simpa [pcl] using this
/-- The others. -/
theorem Way.tail {w : World} {g k n c : Nat} {p : Pc} {W : List Pc} (h : Way T w (some ⟨g, k * 7, none⟩) (n + 1) (c + 1) (p :: W)) (A : Option Addr) (hA : c = 0 ∨ A = some ⟨g, k * 7 + 7, none⟩) : Way T w A n c W := by
  obtain ⟨h1, h2, h3, h4⟩ := h
  simp at h1
  refine ⟨h1, by omega, by omega, ?_⟩
  rcases hA with hA | rfl
  · exact .inl hA
  · rcases h4 with h4 | ⟨g', k', cur, e, ht, hg, hl, hc⟩
    · omega
    · have e' := Option.some.inj e
      simp at e'
      obtain ⟨rfl, e2⟩ := e'
      have ek : k = k' := by omega
      subst ek
      refine .inr ⟨g, k + 1, cur, by rw [Nat.add_mul], ht, hg, by rw [hl]; omega, ?_⟩
      have h7 := congrArg (List.drop 7) hc
      rw [cl_cons, List.drop_left' (sz_pcl p).1, List.drop_take, List.drop_drop] at h7
      rw [show (k + 1) * 7 = k * 7 + 7 by omega, show n * 7 = (n + 1) * 7 - 7 by omega]
      exact h7

end Go.Proofs.YtmbnimlibnheeaaDoor
