/-
  Texts put together: Ta Tb Tc Tfa.
-/
import Derived.Test.YtmbnimlibnheeabDoorSh
import Derived.Test.YtmbnimlibnheeabDoorTApp
import Derived.Deep.AppendSrc
import Derived.Deep.DeepCutAuto
import Derived.Deep.RegionHeld3
/-! Ta -/
namespace Go.Proofs.YtmbnimlibnheeabDoor
open Go.RowKit Go.Lib
set_option linter.unusedVariables false
variable {T : Nat → Prop}

/-- Blocks of T, and all from n on. -/
def TU (T : Nat → Prop) (n : Nat) : Nat → Prop := fun k => T k ∨ n ≤ k
def TG (n : Nat) : Nat → Prop := fun k => n ≤ k

/-- The block has this type. -/
def Tg (w : World) (k : Nat) (t : TypeId) : Prop := ∃ cur, w.heap[k]? = some (.cells cur t (0, 0))
theorem Tg.ne {w : World} {k j : Nat} {s t : TypeId} (h : Tg w k s) (h' : Tg w j t) (hst : s ≠ t) : k ≠ j := by
  rintro rfl
  obtain ⟨c, h⟩ := h
  obtain ⟨d, h'⟩ := h'
  rw [h] at h'
  simp at h'
  exact hst h'.2
theorem Tg.fr {w w' : World} {k : Nat} {t : TypeId} {S : Nat → Prop} (h : Tg w k t) (hF : Fr S w w') (hS : ¬ S k) : Tg w' k t := by
  obtain ⟨c, h⟩ := h
  exact ⟨c, hF.keeps h hS⟩
theorem Tg.lt {w : World} {k : Nat} {t : TypeId} (h : Tg w k t) : k < w.heap.size := by
  obtain ⟨c, h⟩ := h
  exact block_lt h
theorem SF.tg {α : Type} {f : α → List Value} {k : Nat} {w : World} {e : TypeId} {β : Option Nat} {v : Value} {xs : List α} (h : SF f k w e β v xs) {g : Nat} (hg : β = some g) : Tg w g e := by
  subst hg
  exact h.blk
theorem SE.tg {w : World} {β : Option Nat} {v : Value} {xs : List El} (h : SE w β v xs) {g : Nat} (hg : β = some g) : Tg w g 41 := by
  subst hg
  obtain ⟨c, -, cur, h, -⟩ := h
  exact ⟨_, h⟩

/-- A space, its blocks told by their types. -/
def SpT (T : Nat → Prop) (w : World) (z : Nat) (p : Sp) : Prop := ∃ vm vo βm βo, SK w z p.f p.ms p.os p.last vm vo βm βo ∧ p.ok ∧ T z ∧ (∀ g, βm = some g → T g) ∧ (∀ g, βo = some g → T g)
/-- The blocks that a space may change. -/
def SpS (T : Nat → Prop) (w : World) (k : Nat) : Prop := T k ∧ (Tg w k 72 ∨ Tg w k 3 ∨ Tg w k 37)

theorem SpT.fr {w w' : World} {z : Nat} {p : Sp} {S : Nat → Prop} (h : SpT T w z p) (hF : Fr S w w') (hS : ∀ k, SpS T w k → ¬ S k) : SpT T w' z p := by
  obtain ⟨vm, vo, βm, βo, h, ok, b1, b2, b3⟩ := h
  exact ⟨vm, vo, βm, βo, h.fr hF (hS z ⟨b1, .inl ⟨_, h.box⟩⟩) (fun g hg => hS g ⟨b2 g hg, .inr (.inl (h.rm.tg hg))⟩) (fun g hg => hS g ⟨b3 g hg, .inr (.inr (h.ro.tg hg))⟩), ok, b1, b2, b3⟩
theorem SpT.at {w : World} {z : Nat} {p : Sp} (h : SpT T w z p) : ∃ S, SpAt w z p S ∧ ∀ k, S k → SpS T w k := by
  obtain ⟨vm, vo, βm, βo, h, ok, b1, b2, b3⟩ := h
  refine ⟨fun k => k = z ∨ βm = some k ∨ βo = some k, ⟨⟨vm, vo, βm, βo, h, .inl rfl, fun g hg => .inr (.inl hg), fun g hg => .inr (.inr hg), ?_⟩, ok⟩, ?_⟩
  · rintro k (rfl | hk | hk)
    · exact block_lt h.box
    · exact (h.rm.tg hk).lt
    · exact (h.ro.tg hk).lt
  · rintro k (rfl | hk | hk)
    · exact ⟨b1, .inl ⟨_, h.box⟩⟩
    · exact ⟨b2 _ hk, .inr (.inl (h.rm.tg hk))⟩
    · exact ⟨b3 _ hk, .inr (.inr (h.ro.tg hk))⟩
theorem SpAt.t {w : World} {z : Nat} {p : Sp} {S : Nat → Prop} (h : SpAt w z p S) (hB : ∀ k, S k → T k) : SpT T w z p := by
  obtain ⟨⟨vm, vo, βm, βo, h, h1, h2, h3, -⟩, ok⟩ := h
  exact ⟨vm, vo, βm, βo, h, ok, hB _ h1, fun g hg => hB _ (h2 g hg), fun g hg => hB _ (h3 g hg)⟩

theorem SpT.mono {T' : Nat → Prop} {w : World} {z : Nat} {p : Sp} (h : SpT T w z p) (hT : ∀ k, T k → T' k) : SpT T' w z p := by
  obtain ⟨vm, vo, βm, βo, h, ok, b1, b2, b3⟩ := h
  exact ⟨vm, vo, βm, βo, h, ok, hT _ b1, fun g hg => hT _ (b2 g hg), fun g hg => hT _ (b3 g hg)⟩
theorem SpS.not {w : World} {k j : Nat} {t : TypeId} (h : SpS T w k) (ht : Tg w j t) (h1 : t ≠ 72) (h2 : t ≠ 3) (h3 : t ≠ 37) : k ≠ j := by
  obtain ⟨-, h | h | h⟩ := h
  · exact h.ne ht h1.symm
  · exact h.ne ht h2.symm
  · exact h.ne ht h3.symm


/-- A parcel in memory. -/
def pcl (p : Pc) : List Value := [.int .i64 p.m, .int .i64 p.t, .int .i64 p.o.kind, .int .i64 p.o.pos, .int .u8 p.o.ch, .int .i64 p.o.cl, .int .i64 p.o.sq]
theorem sz_pcl : Sz pcl 7 := fun x => ⟨rfl, fun v hv => by simp [pcl] at hv; rcases hv with rfl | rfl | rfl | rfl | rfl | rfl | rfl <;> rfl⟩
theorem Tryd.infoP : (Tryd.prog.info? 39).map (fun i => (i.zero, i.size, i.bytes)) = some (some (.agg #[.int .i64 0, .int .i64 0, .int .i64 0, .int .i64 0, .int .u8 0, .int .i64 0, .int .i64 0]), 7, 56) := by kernel_rfl

/-- What is under way: a slice whose first parcels may be gone. -/
def Way (T : Nat → Prop) (w : World) (a : Option Addr) (n c : Nat) (W : List Pc) : Prop :=
  W.length = n ∧ n ≤ c ∧ c ≤ 9223372036854775807 ∧ (c = 0 ∨ ∃ g k cur, a = some ⟨g, k * 7, none⟩ ∧ T g ∧ w.heap[g]? = some (.cells (cur : List Value).toArray 39 (0, 0)) ∧ cur.length = (k + c) * 7 ∧ (cur.drop (k * 7)).take (n * 7) = cl pcl W)
theorem Way.fr {w w' : World} {a : Option Addr} {n c : Nat} {W : List Pc} {S : Nat → Prop} (h : Way T w a n c W) (hF : Fr S w w') (hS : ∀ k, T k → Tg w k 39 → ¬ S k) : Way T w' a n c W := by
  obtain ⟨h1, h2, h3, h4⟩ := h
  refine ⟨h1, h2, h3, h4.imp (fun h => h) ?_⟩
  rintro ⟨g, k, cur, rfl, ht, hg, r⟩
  exact ⟨g, k, cur, rfl, ht, hF.keeps hg (hS g ht ⟨_, hg⟩), r⟩
theorem Way.mono {T' : Nat → Prop} {w : World} {a : Option Addr} {n c : Nat} {W : List Pc} (h : Way T w a n c W) (hT : ∀ k, T k → T' k) : Way T' w a n c W := by
  obtain ⟨h1, h2, h3, h4⟩ := h
  refine ⟨h1, h2, h3, h4.imp (fun h => h) ?_⟩
  rintro ⟨g, k, cur, rfl, ht, r⟩
  exact ⟨g, k, cur, rfl, hT g ht, r⟩
/-- The first parcel. -/
theorem Way.head {w : World} {a : Option Addr} {n c : Nat} {p : Pc} {W : List Pc} (h : Way T w a n c (p :: W)) : ∃ g k, a = some ⟨g, k * 7, none⟩ ∧ g < w.heap.size ∧ T g ∧ w.cell? ⟨g, k * 7, none⟩ = some (.int .i64 p.m) ∧ w.cell? ⟨g, k * 7 + 1, none⟩ = some (.int .i64 p.t) ∧ w.cell? ⟨g, k * 7 + 2, none⟩ = some (.int .i64 p.o.kind) ∧ w.cell? ⟨g, k * 7 + 3, none⟩ = some (.int .i64 p.o.pos) ∧ w.cell? ⟨g, k * 7 + 4, none⟩ = some (.int .u8 p.o.ch) ∧ w.cell? ⟨g, k * 7 + 5, none⟩ = some (.int .i64 p.o.cl) ∧ w.cell? ⟨g, k * 7 + 6, none⟩ = some (.int .i64 p.o.sq) := by
  obtain ⟨h1, h2, h3, h4⟩ := h
  simp at h1
  rcases h4 with h4 | ⟨g, k, cur, rfl, ht, hg, hl, hc⟩
  · omega
  · have key : ∀ j, j < 7 → w.cell? ⟨g, k * 7 + j, none⟩ = (pcl p)[j]? := by
      intro j hj
      have e : ((cur.drop (k * 7)).take (n * 7))[j]? = (pcl p)[j]? := by
        rw [hc, cl_cons, List.getElem?_append_left (by rw [(sz_pcl p).1]; exact hj)]
      rw [cell_row hg, List.getElem?_toArray, ← e, List.getElem?_take, if_pos (by omega), List.getElem?_drop]
    refine ⟨g, k, rfl, block_lt hg, ht, ?_, ?_, ?_, ?_, ?_, ?_, ?_⟩
    · have := key 0 (by omega); simpa [pcl] using this
    · have := key 1 (by omega); simpa [pcl] using this
    · have := key 2 (by omega); simpa [pcl] using this
    · have := key 3 (by omega); simpa [pcl] using this
    · have := key 4 (by omega); simpa [pcl] using this
    · have := key 5 (by omega); simpa [pcl] using this
    · have := key 6 (by omega); simpa [pcl] using this
/-- The others. -/
theorem Way.tail {w : World} {g k n c : Nat} {p : Pc} {W : List Pc} (h : Way T w (some ⟨g, k * 7, none⟩) (n + 1) (c + 1) (p :: W)) (A : Option Addr) (hA : c = 0 ∨ A = some ⟨g, k * 7 + 7, none⟩) : Way T w A n c W := by
  obtain ⟨h1, h2, h3, h4⟩ := h
  simp at h1
  refine ⟨h1, by omega, by omega, ?_⟩
  rcases hA with hA | rfl
  · exact .inl hA
  · rcases h4 with h4 | ⟨g', k', cur, e, ht, hg, hl, hc⟩
    · omega
    · have e' := Option.some.inj e
      simp at e'
      obtain ⟨rfl, e2⟩ := e'
      have ek : k = k' := by omega
      subst ek
      refine .inr ⟨g, k + 1, cur, by rw [Nat.add_mul], ht, hg, by rw [hl]; omega, ?_⟩
      have h7 := congrArg (List.drop 7) hc
      rw [cl_cons, List.drop_left' (sz_pcl p).1, List.drop_take, List.drop_drop] at h7
      rw [show (k + 1) * 7 = k * 7 + 7 by omega, show n * 7 = (n + 1) * 7 - 7 by omega]
      exact h7

end Go.Proofs.YtmbnimlibnheeabDoor

/-! Tb -/
namespace Go.Proofs.YtmbnimlibnheeabDoor
open Go.RowKit Go.Lib
set_option linter.unusedVariables false
variable {T : Nat → Prop}

theorem splice_set (L : List Value) (o : Nat) (v : Value) (r : List Value) (h : o < L.length) : splice (L.set o v) (o + 1) r = splice L o (v :: r) := by
  unfold splice
  have h1 : (L.set o v).take (o + 1) = L.take o ++ [v] := by
    rw [List.take_succ_eq_append_getElem (by simpa using h), List.take_set, List.set_eq_of_length_le (by simp; omega)]
    simp
  have h2 : (L.set o v).drop (o + 1 + r.length) = L.drop (o + (v :: r).length) := by
    rw [List.drop_set, if_pos (by omega), List.length_cons, show o + 1 + r.length = o + (r.length + 1) by omega]
  rw [h1, h2]
  simp
theorem heap_cells {b : Nat} {t : TypeId} : ∀ (vs : List Value) (o : Nat) (w : World) (cur : List Value), w.heap[b]? = some (.cells cur.toArray t (0, 0)) → o + vs.length ≤ cur.length → (w.setCells b o vs).heap[b]? = some (.cells (splice cur o vs).toArray t (0, 0)) ∧ Fr (· = b) w (w.setCells b o vs) := by
  intro vs
  induction vs with
  | nil =>
    intro o w cur h hl
    refine ⟨?_, Fr.refl _ _⟩
    simp only [World.setCells, splice]
    simpa using h
  | cons v r ih =>
    intro o w cur h hl
    simp only [List.length_cons] at hl
    have h1 := set_row h o v
    rw [List.setIfInBounds_toArray] at h1
    obtain ⟨h2, h3⟩ := ih (o + 1) _ _ h1 (by simp; omega)
    rw [splice_set _ _ _ _ (by omega)] at h2
    exact ⟨h2, (Fr.setCell (S := (· = b)) w ⟨b, o, none⟩ v rfl).trans h3⟩

set_option maxHeartbeats 1000000 in
theorem way_room {w : World} {g k n c : Nat} {W : List Pc} {cur : List Value} (ht : T g) (hg : w.heap[g]? = some (.cells cur.toArray 39 (0, 0))) (hlen : cur.length = (k + c) * 7) (hcur : (cur.drop (k * 7)).take (n * 7) = cl pcl W) (h1 : W.length = n) (h3 : c ≤ 9223372036854775807) (hroom : n + 1 ≤ c) {b : Nat} {p : Pc} (hb : w.heap[b]? = some (.cells (pcl p).toArray 39 (0, 0))) :
    ∃ w', (∀ ty, (Builtin.append_ #[28, 28] ty #[.slice (some ⟨g, k * 7, none⟩) n c, .slice (some ⟨b, 0, none⟩) 1 1]).run Tryd.prog w = .ok (.slice (some ⟨g, k * 7, none⟩) (n + 1) c) w') ∧ Way (TU T w.heap.size) w' (some ⟨g, k * 7, none⟩) (n + 1) c (W ++ [p]) ∧ Fr (· = g) w w' := by
  obtain ⟨i0, hi0, hz0, hz1, hz2⟩ := info_parts Tryd.infoP
  have hl : (pcl p).length = 1 * i0.size := by rw [hz1]; rfl
  have hnews : ∀ j u, (pcl p)[j]? = some u → w.cell? ((⟨b, 0, none⟩ : Addr).add j) = some u := fun j u hj => by
    rw [add_lit, Nat.zero_add, cell_row hb, List.getElem?_toArray]
    exact hj
  have hone : ∀ u ∈ pcl p, u.oneCell' = true := (sz_pcl p).2
  have h7 := (sz_pcl p).1
  have hs := Src.ofSlice (P := Tryd.prog) (size := i0.size) (w := w) (tx := 28) Tryd.underlying28 ⟨b, 0, none⟩ 1 1 (pcl p) hl hnews hone
  have hfit : k * 7 + n * 7 + 7 ≤ cur.length := by omega
  have hr := fun ty => run_append_room_src (P := Tryd.prog) (w := w) 28 28 ty 39 i0 Tryd.underlying28 hi0 g (k * 7) n c _ 1 (pcl p) hs hroom (fun j hj => by
    rw [hz1, cell_row hg, List.getElem?_toArray, List.getElem?_eq_getElem (by omega)]
    rfl) (fun j hj => frozen_row hg _)
  obtain ⟨q1, q2⟩ := heap_cells (pcl p) (k * 7 + n * 7) w cur hg (by rw [h7]; exact hfit)
  rw [hz1] at hr
  refine ⟨_, hr, ⟨by simp [h1], hroom, h3, .inr ⟨g, k, _, rfl, .inl ht, q1, ?_, ?_⟩⟩, q2⟩
  · rw [length_splice _ _ _ (by rw [h7]; exact hfit), hlen]
  · have e1 := splice_take_end cur (k * 7 + n * 7) (pcl p) (by omega)
    rw [h7] at e1
    have e2 : ((splice cur (k * 7 + n * 7) (pcl p)).drop (k * 7)).take ((n + 1) * 7) = ((splice cur (k * 7 + n * 7) (pcl p)).take (k * 7 + n * 7 + 7)).drop (k * 7) := by
      rw [List.drop_take, show k * 7 + n * 7 + 7 - k * 7 = (n + 1) * 7 by omega]
    rw [e2, e1, List.drop_append_of_le_length (by simp; omega), List.drop_take, show k * 7 + n * 7 - k * 7 = n * 7 by omega, hcur, cl_app, cl_one]

theorem way_new {w : World} {n : Nat} {W : List Pc} {p : Pc} (h1 : W.length = n) (G : Nat) (hG1 : n + 1 ≤ G) (hG2 : G ≤ 9223372036854775807) (A : Array Value) (hA : A = (cl pcl W).toArray ++ (pcl p).toArray ++ Builtin.zeroCells #[.int .i64 0, .int .i64 0, .int .i64 0, .int .i64 0, .int .u8 0, .int .i64 0, .int .i64 0] (G - (n + 1))) :
    Way (TU T w.heap.size) (w.drew.alloc (.cells A 39)) (some ⟨w.heap.size, 0, none⟩) (n + 1) G (W ++ [p]) := by
  have hh : (w.drew.alloc (.cells A 39)).heap[w.heap.size]? = some (.cells A.toList.toArray 39 (0, 0)) := heap_alloc_new w.drew _
  have hc := cl_len sz_pcl W
  have h7 := (sz_pcl p).1
  have hz : (Builtin.zeroCells #[.int .i64 0, .int .i64 0, .int .i64 0, .int .i64 0, .int .u8 0, .int .i64 0, .int .i64 0] (G - (n + 1))).size = (G - (n + 1)) * 7 := by rw [size_zeroCells]; rfl
  have hl : A.toList = (cl pcl W ++ pcl p) ++ (Builtin.zeroCells #[.int .i64 0, .int .i64 0, .int .i64 0, .int .i64 0, .int .u8 0, .int .i64 0, .int .i64 0] (G - (n + 1))).toList := by
    rw [hA, Array.toList_append, Array.toList_append, List.toList_toArray, List.toList_toArray]
  have hlA : A.toList.length = G * 7 := by
    rw [hl, List.length_append, List.length_append, hc, h7, Array.length_toList (xs := Builtin.zeroCells _ _), hz, h1]
    omega
  have htA : A.toList.take ((n + 1) * 7) = cl pcl (W ++ [p]) := by
    have e : (cl pcl W ++ pcl p).length = (n + 1) * 7 := by rw [List.length_append, hc, h7, h1]; omega
    rw [hl, ← e, List.take_left, cl_app, cl_one]
  refine ⟨by simp [h1], hG1, hG2, .inr ⟨w.heap.size, 0, A.toList, by simp, .inr (Nat.le_refl _), hh, ?_, ?_⟩⟩
  · rw [hlA, Nat.zero_add]
  · rw [Nat.zero_mul, List.drop_zero, htA]

set_option maxHeartbeats 1000000 in
/-- A parcel is put behind the others. -/
theorem Way.push {w : World} {a : Option Addr} {n c : Nat} {W : List Pc} (h : Way T w a n c W) (hnil : a = none → c = 0) (hn : n ≤ 10000) {b : Nat} {p : Pc} (hb : w.heap[b]? = some (.cells (pcl p).toArray 39 (0, 0))) :
    ∃ a' c' w', (∀ ty, (Builtin.append_ #[28, 28] ty #[.slice a n c, .slice (some ⟨b, 0, none⟩) 1 1]).run Tryd.prog w = .ok (.slice a' (n + 1) c') w') ∧ a' ≠ none ∧ Way (TU T w.heap.size) w' a' (n + 1) c' (W ++ [p]) ∧ Fr (fun j => T j ∧ Tg w j 39) w w' := by
  obtain ⟨i0, hi0, hz0, hz1, hz2⟩ := info_parts Tryd.infoP
  obtain ⟨h1, h2, h3, h4⟩ := h
  have hl : (pcl p).length = 1 * i0.size := by rw [hz1]; rfl
  have hnews : ∀ j u, (pcl p)[j]? = some u → w.cell? ((⟨b, 0, none⟩ : Addr).add j) = some u := fun j u hj => by
    rw [add_lit, Nat.zero_add, cell_row hb, List.getElem?_toArray]
    exact hj
  by_cases hroom : n + 1 ≤ c
  · rcases h4 with h4 | ⟨g, k, cur, rfl, ht, hg, hlen, hcur⟩
    · omega
    · obtain ⟨w', hr, hW, hF⟩ := way_room ht hg hlen hcur h1 h3 hroom hb
      exact ⟨_, c, w', hr, by simp, hW, hF.mono (fun j _ hj => by subst hj; exact ⟨ht, ⟨_, hg⟩⟩)⟩
  · have hcn : n = c := by omega
    subst hcn
    have newfr : ∀ o, Fr (fun j => T j ∧ Tg w j 39) w (w.drew.alloc o) := fun o => (Fr.drew _ w).trans (Fr.alloc _ _ _)
    cases a with
    | none =>
      have hc0 := hnil rfl
      subst hc0
      have hW : W = [] := List.eq_nil_of_length_eq_zero h1
      subst hW
      have hr := fun ty => run_append_nil (P := Tryd.prog) w 28 ty 39 i0 _ Tryd.underlying28 hi0 hz0 ⟨b, 0, none⟩ 1 1 (pcl p) hl hnews (by omega) (by omega) (by rw [hz2]; omega)
      have hG1 := grownCap_ge w 1 0 39
      have hG2 := grownCap_le_maxLen w 1 0 39 (by unfold maxLen; omega)
      generalize grownCap w 1 0 39 = G at hr hG1 hG2
      exact ⟨_, G, _, hr, by simp, way_new (n := 0) (W := []) rfl G hG1 hG2 _ (by simp [cl_nil, Value.cells]), newfr _⟩
    | some x =>
      have olds : ∀ j v, (cl pcl W)[j]? = some v → w.cell? (x.add j) = some v := by
        intro j v hj
        rcases h4 with h4 | ⟨g, k, cur, e, ht, hg, hlen, hcur⟩
        · have : W = [] := List.eq_nil_of_length_eq_zero (by omega)
          subst this
          simp [cl_nil] at hj
        · obtain rfl := Option.some.inj e
          rw [add_lit, cell_row hg, List.getElem?_toArray]
          rw [← hcur, List.getElem?_take] at hj
          split at hj
          · rw [List.getElem?_drop] at hj
            exact hj
          · cases hj
      have hr := fun ty => run_append_grow (P := Tryd.prog) w 28 ty 39 i0 _ Tryd.underlying28 hi0 hz0 x n n (cl pcl W) (by rw [hz1, cl_len sz_pcl, h1]) olds ⟨b, 0, none⟩ 1 1 (pcl p) hl hnews (by omega) (by omega) (growslice_fits (by omega) (by rw [hz2]; omega))
      have hG1 := grownCap_ge w (n + 1) n 39
      have hG2 := grownCap_le_maxLen w (n + 1) n 39 (by unfold maxLen; omega)
      generalize grownCap w (n + 1) n 39 = G at hr hG1 hG2
      exact ⟨_, G, _, hr, by simp, way_new h1 G hG1 hG2 _ (by simp [Value.cells]), newfr _⟩

end Go.Proofs.YtmbnimlibnheeabDoor

/-! Tc -/
namespace Go.Proofs.YtmbnimlibnheeabDoor
open Go.RowKit Go.Lib
set_option linter.unusedVariables false
variable {T : Nat → Prop}

/-- A side at block x: its text d, its space p at block z, what it made and took, what is under way W. -/
structure SC (T : Nat → Prop) (w : World) (x z : Nat) (d : List El) (p : Sp) (made took base : Int) (W : List Pc) (vt : Value) (aw : Option Addr) (nw cw : Nat) (vg : Value) (βt βg : Option Nat) (G : List El) : Prop where
  box : w.heap[x]? = some (.cells #[vt, .pointer (some ⟨z, 0, none⟩), .int .i64 made, .int .i64 took, .slice aw nw cw, .int .i64 base, vg] 30 (0, 0))
  tx : T x
  te : SE w βt vt d
  tt : ∀ g, βt = some g → T g
  sp : SpT T w z p
  wy : Way T w aw nw cw W
  wn : aw = none → cw = 0
  gn : SE w βg vg G
  gt : ∀ g, βg = some g → T g
  ne : ∀ g, βg = some g → βt ≠ some g

section
variable {w w' : World} {x z : Nat} {d : List El} {p : Sp} {made took base : Int} {W : List Pc} {vt : Value} {aw : Option Addr} {nw cw : Nat} {vg : Value} {βt βg : Option Nat} {G : List El} {S : Nat → Prop}
theorem SC.tg (h : SC T w x z d p made took base W vt aw nw cw vg βt βg G) : Tg w x 30 := ⟨_, h.box⟩
theorem SC.fr (h : SC T w x z d p made took base W vt aw nw cw vg βt βg G) (hF : Fr S w w') (hS : ∀ k, T k → ¬ S k) : SC T w' x z d p made took base W vt aw nw cw vg βt βg G :=
  ⟨hF.keeps h.box (hS _ h.tx), h.tx, h.te.fr hF (fun g hg => hS _ (h.tt g hg)), h.tt, h.sp.fr hF (fun k hk => hS _ hk.1), h.wy.fr hF (fun k hk _ => hS _ hk), h.wn, h.gn.fr hF (fun g hg => hS _ (h.gt g hg)), h.gt, h.ne⟩
theorem SC.below (h : SC T w x z d p made took base W vt aw nw cw vg βt βg G) (hb : Below w.heap.size w w') : SC T w' x z d p made took base W vt aw nw cw vg βt βg G :=
  h.fr (S := fun _ => False) (Fr.of_below hb) (fun _ _ h => h)
theorem SC.mono {T' : Nat → Prop} (h : SC T w x z d p made took base W vt aw nw cw vg βt βg G) (hT : ∀ k, T k → T' k) : SC T' w x z d p made took base W vt aw nw cw vg βt βg G :=
  ⟨h.box, hT _ h.tx, h.te, fun g hg => hT _ (h.tt g hg), h.sp.mono hT, h.wy.mono hT, h.wn, h.gn, fun g hg => hT _ (h.gt g hg), h.ne⟩
theorem SC.lt (h : SC T w x z d p made took base W vt aw nw cw vg βt βg G) : x < w.heap.size := block_lt h.box
theorem SC.cells (h : SC T w x z d p made took base W vt aw nw cw vg βt βg G) :
    (w.cell? ⟨x, 0, none⟩ = some vt ∧ w.cell? ⟨x, 1, none⟩ = some (.pointer (some ⟨z, 0, none⟩)) ∧ w.cell? ⟨x, 2, none⟩ = some (.int .i64 made) ∧ w.cell? ⟨x, 3, none⟩ = some (.int .i64 took) ∧ w.cell? ⟨x, 4, none⟩ = some (.slice aw nw cw) ∧ w.cell? ⟨x, 5, none⟩ = some (.int .i64 base) ∧ w.cell? ⟨x, 6, none⟩ = some vg) ∧ ∀ i, w.frozen? ⟨x, i, none⟩ = false := by
  refine ⟨⟨?_, ?_, ?_, ?_, ?_, ?_, ?_⟩, fun i => frozen_row h.box i⟩ <;> (rw [cell_row h.box]; rfl)
/-- A change of the side's own block leaves all its other blocks. -/
theorem SC.own (h : SC T w x z d p made took base W vt aw nw cw vg βt βg G) (i : Nat) (v : Value) : Fr (· = x) w (w.setCell ⟨x, i, none⟩ v) ∧ SE (w.setCell ⟨x, i, none⟩ v) βt vt d ∧ SpT T (w.setCell ⟨x, i, none⟩ v) z p ∧ Way T (w.setCell ⟨x, i, none⟩ v) aw nw cw W ∧ SE (w.setCell ⟨x, i, none⟩ v) βg vg G := by
  have hF : Fr (· = x) w (w.setCell ⟨x, i, none⟩ v) := Fr.setCell _ _ _ rfl
  exact ⟨hF, h.te.fr hF (fun g hg => (h.te.tg hg).ne h.tg (by decide)), h.sp.fr hF (fun k hk => hk.not h.tg (by decide) (by decide) (by decide)), h.wy.fr hF (fun k _ hk => hk.ne h.tg (by decide)), h.gn.fr hF (fun g hg => (h.gn.tg hg).ne h.tg (by decide))⟩
theorem SC.setMade (h : SC T w x z d p made took base W vt aw nw cw vg βt βg G) (m : Int) : SC T (w.setCell ⟨x, 2, none⟩ (.int .i64 m)) x z d p m took base W vt aw nw cw vg βt βg G := by
  obtain ⟨hF, h1, h2, h3, h4⟩ := h.own 2 (.int .i64 m)
  refine ⟨?_, h.tx, h1, h.tt, h2, h3, h.wn, h4, h.gt, h.ne⟩
  have := set_row h.box 2 (.int .i64 m)
  simpa using this
theorem SC.setTook (h : SC T w x z d p made took base W vt aw nw cw vg βt βg G) (m : Int) : SC T (w.setCell ⟨x, 3, none⟩ (.int .i64 m)) x z d p made m base W vt aw nw cw vg βt βg G := by
  obtain ⟨hF, h1, h2, h3, h4⟩ := h.own 3 (.int .i64 m)
  refine ⟨?_, h.tx, h1, h.tt, h2, h3, h.wn, h4, h.gt, h.ne⟩
  have := set_row h.box 3 (.int .i64 m)
  simpa using this
/-- A new text, of a block of its own. -/
theorem SC.setText (h : SC T w x z d p made took base W vt aw nw cw vg βt βg G) {v : Value} {d' : List El} {g : Nat} (hd' : SE w (some g) v d') (hg : T g) (hne : βg ≠ some g) : SC T (w.setCell ⟨x, 0, none⟩ v) x z d' p made took base W v aw nw cw vg (some g) βg G := by
  obtain ⟨hF, h1, h2, h3, h4⟩ := h.own 0 v
  refine ⟨?_, h.tx, hd'.fr hF (fun k hk => (hd'.tg hk).ne h.tg (by decide)), fun k hk => by injection hk with hk; subst hk; exact hg, h2, h3, h.wn, h4, h.gt, fun k hk he => hne (he ▸ hk)⟩
  have := set_row h.box 0 v
  simpa using this
/-- The way is another one. -/
theorem SC.setWay (h : SC T w x z d p made took base W vt aw nw cw vg βt βg G) {a : Option Addr} {n c : Nat} {W' : List Pc} (hw : Way T w a n c W') (hn : a = none → c = 0) : SC T (w.setCell ⟨x, 4, none⟩ (.slice a n c)) x z d p made took base W' vt a n c vg βt βg G := by
  obtain ⟨hF, h1, h2, h3, h4⟩ := h.own 4 (.slice a n c)
  refine ⟨?_, h.tx, h1, h.tt, h2, hw.fr hF (fun k _ hk => hk.ne h.tg (by decide)), hn, h4, h.gt, h.ne⟩
  have := set_row h.box 4 (.slice a n c)
  simpa using this
/-- What is gone is another list. -/
theorem SC.setGone (h : SC T w x z d p made took base W vt aw nw cw vg βt βg G) {v : Value} {G' : List El} {g : Nat} (hg' : SE w (some g) v G') (hg : T g) (hne : βt ≠ some g) : SC T (w.setCell ⟨x, 6, none⟩ v) x z d p made took base W vt aw nw cw v βt (some g) G' := by
  obtain ⟨hF, h1, h2, h3, h4⟩ := h.own 6 v
  refine ⟨?_, h.tx, h1, h.tt, h2, h3, h.wn, hg'.fr hF (fun k hk => (hg'.tg hk).ne h.tg (by decide)), fun k hk => by injection hk with hk; subst hk; exact hg, fun k hk he => hne (by rw [he, hk])⟩
  have := set_row h.box 6 v
  simpa using this
end

/-- The side's space after a call on it. -/
theorem SC.space {T' : Nat → Prop} {w w' : World} {x z : Nat} {d : List El} {p p' : Sp} {made took base : Int} {W : List Pc} {vt : Value} {aw : Option Addr} {nw cw : Nat} {vg : Value} {βt βg : Option Nat} {G : List El} (h : SC T w x z d p made took base W vt aw nw cw vg βt βg G) {S S' : Nat → Prop} (hS : ∀ k, S k → SpS T w k) (hA : SpAt w' z p' S') (hF : Fr S w w') (hT : ∀ k, T k → T' k) (hT' : ∀ k, S' k → T' k) : SC T' w' x z d p' made took base W vt aw nw cw vg βt βg G := by
  have hn : ∀ k t, Tg w k t → t ≠ 72 → t ≠ 3 → t ≠ 37 → ¬ S k := fun k t hk h1 h2 h3 hs => (hS k hs).not hk h1 h2 h3 rfl
  exact ⟨hF.keeps h.box (hn _ _ h.tg (by decide) (by decide) (by decide)), hT _ h.tx, h.te.fr hF (fun g hg => hn _ _ (h.te.tg hg) (by decide) (by decide) (by decide)), fun g hg => hT _ (h.tt g hg), hA.t hT', (h.wy.fr hF (fun k _ hk => hn _ _ hk (by decide) (by decide) (by decide))).mono hT, h.wn, h.gn.fr hF (fun g hg => hn _ _ (h.gn.tg hg) (by decide) (by decide) (by decide)), fun g hg => hT _ (h.gt g hg), h.ne⟩

/-- Blocks of T, and those between n and m. -/
def TB (T : Nat → Prop) (n m : Nat) : Nat → Prop := fun k => T k ∨ (n ≤ k ∧ k < m)

/-- What is made or crosses: its numbers. -/
def VO (o : OpE) : Prop := 1 ≤ o.cl ∧ o.cl ≤ 64 ∧ 1 ≤ o.sq ∧ o.sq ≤ 64 ∧ ((o.kind = 0 ∧ o.ch = 0) ∨ (o.kind = 1 ∧ 32 ≤ o.ch ∧ o.ch ≤ 126) ∨ (o.kind = 2 ∧ o.ch = 0))
theorem VO.ok {o : OpE} (h : VO o) : OkOp o := by
  obtain ⟨-, -, -, -, h⟩ := h
  unfold OkOp
  omega
theorem VO.shift {a : OpE} (h : VO a) (b : OpE) (f : Bool) : VO (shiftP a b f) := by
  unfold shiftP
  split
  · exact h
  · split
    · exact ⟨h.1, h.2.1, h.2.2.1, h.2.2.2.1, .inl ⟨rfl, rfl⟩⟩
    · split
      · exact h
      · exact h
theorem VO.thr (l : List (Int × OpE)) : ∀ (o : OpE) (f : Bool), VO o → VO (thrQ o l f).1 := by
  induction l with
  | nil => intro o f h; exact h
  | cons x l ih => intro o f h; exact ih _ _ (h.shift _ _)
theorem VO.fits {o : OpE} {n : Nat} (h : VO o) (hf : FitO n o) (hn : n < 4096) : fitsP n o = 0 ∧ validP o = 0 := by
  obtain ⟨k, p, c, l, s⟩ := o
  obtain ⟨h1, h2, h3, h4, h5⟩ := h
  simp only at h1 h2 h3 h4 h5
  have a1 : inR l 1 64 = true := by simp [inR]; omega
  have a2 : inR s 1 64 = true := by simp [inR]; omega
  have a5 : inR (n : Int) 0 4096 = true := by simp [inR]; omega
  rcases hf with ⟨e1, e2, e3⟩ | ⟨e1, q, e2, hq⟩ | ⟨e1, q, e2, hq⟩
  · simp only at e1 e2 e3
    subst e1 e2 e3
    have hv : validP ⟨0, 0, 0, l, s⟩ = 0 := by simp [validP, a1, a2, holdP, pointP]
    exact ⟨by rw [fitsP, if_neg (by rw [hv]; omega), if_neg (by rw [a5]; simp), if_neg (by simp)], hv⟩
  · simp only at e1 e2
    subst e1 e2
    have a3 : holdP 1 c = true := by simp [holdP, inR]; omega
    have a4 : pointP 1 q = true := by simp [pointP, inR]; omega
    have hv : validP ⟨1, q, c, l, s⟩ = 0 := by simp [validP, a1, a2, a3, a4]
    exact ⟨by rw [fitsP, if_neg (by rw [hv]; omega), if_neg (by rw [a5]; simp; omega), if_neg (by simp; omega)], hv⟩
  · simp only at e1 e2
    subst e1 e2
    have hc : c = 0 := by omega
    subst hc
    have a4 : pointP 2 q = true := by simp [pointP, inR]; omega
    have hv : validP ⟨2, q, 0, l, s⟩ = 0 := by simp [validP, a1, a2, holdP, a4]
    exact ⟨by rw [fitsP, if_neg (by rw [hv]; omega), if_neg (by rw [a5]; simp), if_neg (by simp; omega)], hv⟩
theorem putP_apply {d : List El} {o : OpE} (hf : FitO d.length o) : applyP d o = putP d o := by
  obtain ⟨k, p, c, l, s⟩ := o
  rcases hf with ⟨e1, e2, e3⟩ | ⟨e1, q, e2, hq⟩ | ⟨e1, q, e2, hq⟩
  · simp only at e1 e2 e3
    subst e1 e2 e3
    simp [applyP, putP]
  · simp only at e1 e2
    subst e1 e2
    rw [putP_ins, insertIdx_parts _ _ _ hq]
    simp [applyP]
  · simp only at e1 e2
    subst e1 e2
    rw [putP_del, List.eraseIdx_eq_take_drop_succ]
    simp [applyP]

/-- A side, as the law has it. -/
def SA (B : Nat) (T : Nat → Prop) (w : World) (x : Nat) (sd : Sd) (base : Int) : Prop :=
  ∃ z vt aw nw cw vg βt βg G, SC T w x z sd.d ⟨sd.f, sd.q, sd.made⟩ sd.made sd.took base sd.way vt aw nw cw vg βt βg G ∧ (∀ pc ∈ sd.way, VO pc.o) ∧ G.length ≤ sd.made ∧ ∀ k, T k → B ≤ k ∧ k < w.heap.size

end Go.Proofs.YtmbnimlibnheeabDoor

/-! Tfa -/
namespace Go.Proofs.YtmbnimlibnheeabDoor
open Go.RowKit Go.Lib
set_option linter.unusedVariables false

set_option maxHeartbeats 1000000 in
theorem into_any (x : Int) (M : Nat) (w : World) (h0 : 0 < M) (h1 : M ≤ 1000000000000000) :
    Calls Tryd.prog 19 #[.int .i64 x, .int .i64 M] w fun e w' => ∃ p : Nat, e = .returned (.int .i64 p) ∧ p < M ∧ w' = w := by
  have b1 : x.tmod M < M := Int.tmod_lt_of_pos _ (by omega)
  have b2 : -(M : Int) < x.tmod M := by
    have := Int.lt_tmod_of_pos x (b := (M : Int)) (by omega)
    omega
  have hM : ¬ ((M : Int) = 0) := by omega
  obtain ⟨r, hr⟩ : ∃ r, r = x.tmod M := ⟨_, rfl⟩
  rw [← hr] at b1 b2
  have ht : x.tmod (M : Int) = r := hr.symm
  clear hr
  by_cases hn : r < 0
  · obtain ⟨p, hp⟩ : ∃ p : Nat, r + (M : Int) = (p : Int) := ⟨(r + (M : Int)).toNat, by omega⟩
    have R : Hid (p < M) := by
      show _ < _
      omega
    go_enter Tryd.func19, Tryd.ntmps19
    go_wp2
    go_ret
    exact ⟨p, by first | rfl | (simp; omega), R.out, rfl⟩
  · obtain ⟨p, hp⟩ : ∃ p : Nat, r = (p : Int) := ⟨r.toNat, by omega⟩
    have R : Hid (p < M) := by
      show _ < _
      omega
    go_enter Tryd.func19, Tryd.ntmps19
    go_wp2
    go_ret
    exact ⟨p, by first | rfl | (simp; omega), R.out, rfl⟩

theorem cellsA5 {w : World} {g : Nat} {a b c d e : Value} {t : TypeId} (h : w.heap[g]? = some (.cells #[a, b, c, d, e] t (0, 0))) :
    (w.cell? ⟨g, 0, none⟩ = some a ∧ w.cell? ⟨g, 1, none⟩ = some b ∧ w.cell? ⟨g, 2, none⟩ = some c ∧ w.cell? ⟨g, 3, none⟩ = some d ∧ w.cell? ⟨g, 4, none⟩ = some e) := by
  simp [World.cell?, h]

/-- What is gone has one more. -/
theorem SC.gone {T : Nat → Prop} {w u : World} {x z : Nat} {d : List El} {p : Sp} {made took base : Int} {W : List Pc} {vt : Value} {aw : Option Addr} {nw cw : Nat} {vg : Value} {βt βg : Option Nat} {G : List El} (h : SC T w x z d p made took base W vt aw nw cw vg βt βg G) (hu : Below w.heap.size w u) {b : Nat} {el : El} (hb : u.heap[b]? = some (.cells (elc el).toArray 41 (0, 0))) (hG : G.length ≤ 4000) :
    ∃ a n c w', (∀ ty, (Builtin.append_ #[26, 26] ty #[vg, .slice (some ⟨b, 0, none⟩) 1 1]).run Tryd.prog u = .ok (.slice a n c) w') ∧ (x < w'.heap.size ∧ w'.cell? ⟨x, 6, none⟩ = some vg ∧ w'.frozen? ⟨x, 6, none⟩ = false) ∧
      ∃ g, SC (TB T w.heap.size w'.heap.size) (w'.setCell ⟨x, 6, none⟩ (.slice a n c)) x z d p made took base W vt aw nw cw (.slice a n c) βt (some g) (G ++ [el]) ∧ u.heap.size ≤ w'.heap.size ∧ (T g ∨ u.heap.size ≤ g) ∧ Fr (fun j => T j) w (w'.setCell ⟨x, 6, none⟩ (.slice a n c)) := by
  have KU := h.below hu
  obtain ⟨v', w', hr, hN⟩ := run_pushE u βg vg G KU.gn b el hb (by omega)
  obtain ⟨β', n1, n2, n3⟩ := hN
  obtain ⟨a, c, rfl, -, -⟩ := n1.form
  obtain ⟨g, rfl⟩ : ∃ g, β' = some g := by
    cases β' with
    | none => obtain ⟨-, h⟩ := n1; simp at h
    | some g => exact ⟨g, rfl⟩
  have hsz := n3.size
  have hus := hu.size
  have gl : g < w'.heap.size := (n1.tg rfl).lt
  have hg : T g ∨ u.heap.size ≤ g := by
    rcases n2 with n2 | ⟨g', n2, hg⟩
    · exact .inl (h.gt g n2.symm)
    · injection n2 with n2
      subst n2
      exact .inr hg
  have hgT : TB T w.heap.size w'.heap.size g := hg.imp (fun h => h) (fun h => ⟨by omega, gl⟩)
  have hgt : βt ≠ some g := by
    intro he
    rcases n2 with n2 | ⟨g', n2, hg⟩
    · exact h.ne g n2.symm he
    · injection n2 with n2
      subst n2
      have := (h.te.tg he).lt
      omega
  have hnx : βg ≠ some x := fun he => (KU.gn.tg he).ne KU.tg (by decide) rfl
  have c1 := n3.keeps KU.box (fun he => hnx he)
  have hx : w'.cell? ⟨x, 6, none⟩ = some vg := by rw [cell_row c1]; rfl
  have hF : Fr (· = x) w' (w'.setCell ⟨x, 6, none⟩ (.slice a (G ++ [el]).length c)) := Fr.setCell _ _ _ rfl
  have tg' : Tg w' x 30 := ⟨_, c1⟩
  refine ⟨a, _, c, w', hr, ⟨block_lt c1, hx, frozen_row c1 6⟩, g, ⟨?_, .inl h.tx, ?_, fun k hk => .inl (h.tt k hk), ?_, ?_, h.wn, n1.fr hF (fun k hk => (n1.tg hk).ne tg' (by decide)), fun k hk => by injection hk with hk; subst hk; exact hgT, fun k hk he => hgt (by rw [he, hk])⟩, hsz, hg, ?_⟩
  · have := set_row c1 6 (.slice a (G ++ [el]).length c)
    simpa using this
  · have t1 := KU.te.fr n3 (fun k hk he => h.ne k he hk)
    exact t1.fr hF (fun k hk => (t1.tg hk).ne tg' (by decide))
  · have s1 := KU.sp.fr n3 (fun k hk he => hk.not (KU.gn.tg he) (by decide) (by decide) (by decide) rfl)
    exact (s1.fr hF (fun k hk => hk.not tg' (by decide) (by decide) (by decide))).mono (fun k hk => .inl hk)
  · have w1 := KU.wy.fr n3 (fun k _ hk he => hk.ne (KU.gn.tg he) (by decide) rfl)
    exact (w1.fr hF (fun k _ hk => hk.ne tg' (by decide))).mono (fun k hk => .inl hk)
  · exact ((Fr.of_below hu).next n3 (fun k _ hk => h.gt k hk)).next hF (fun k _ hk => by rw [hk]; exact h.tx)

theorem Way.cut {T : Nat → Prop} {w : World} {a : Option Addr} {n c : Nat} {W : List Pc} (h : Way T w a n c W) : Way (fun k => T k ∧ k < w.heap.size) w a n c W := by
  obtain ⟨h1, h2, h3, h4⟩ := h
  refine ⟨h1, h2, h3, h4.imp (fun h => h) ?_⟩
  rintro ⟨g, k, cur, rfl, ht, hg, r⟩
  exact ⟨g, k, cur, rfl, ⟨ht, block_lt hg⟩, hg, r⟩
/-- One more is under way. -/
theorem SC.send {T : Nat → Prop} {w u : World} {x z : Nat} {d : List El} {p : Sp} {made took base : Int} {W : List Pc} {vt : Value} {aw : Option Addr} {nw cw : Nat} {vg : Value} {βt βg : Option Nat} {G : List El} (h : SC T w x z d p made took base W vt aw nw cw vg βt βg G) (hu : Below w.heap.size w u) {b : Nat} {pc : Pc} (hb : u.heap[b]? = some (.cells (pcl pc).toArray 39 (0, 0))) (hn : nw ≤ 10000) :
    ∃ a c w', (∀ ty, (Builtin.append_ #[28, 28] ty #[.slice aw nw cw, .slice (some ⟨b, 0, none⟩) 1 1]).run Tryd.prog u = .ok (.slice a (nw + 1) c) w') ∧ (x < w'.heap.size ∧ w'.cell? ⟨x, 4, none⟩ = some (.slice aw nw cw) ∧ w'.frozen? ⟨x, 4, none⟩ = false) ∧
      SC (TB T w.heap.size w'.heap.size) (w'.setCell ⟨x, 4, none⟩ (.slice a (nw + 1) c)) x z d p made took base (W ++ [pc]) vt a (nw + 1) c vg βt βg G ∧ u.heap.size ≤ w'.heap.size ∧ Fr (fun j => T j) w (w'.setCell ⟨x, 4, none⟩ (.slice a (nw + 1) c)) := by
  have KU := h.below hu
  obtain ⟨a, c, w', hr, ha, hW, hF⟩ := Way.push KU.wy KU.wn hn hb
  have hsz := hF.size
  have hus := hu.size
  have nt : ∀ k t, Tg u k t → t ≠ 39 → ¬ (T k ∧ Tg u k 39) := fun k t hk ht hh => hk.ne hh.2 ht rfl
  have K1 : SC T u x z d p made took base W vt aw nw cw vg βt βg G := KU
  have c1 := hF.keeps KU.box (nt _ _ KU.tg (by decide))
  have hW' : Way (TB T w.heap.size w'.heap.size) w' a (nw + 1) c (W ++ [pc]) := hW.cut.mono (fun k hk => hk.1.imp (fun h => h) (fun h => ⟨by omega, hk.2⟩))
  have tg' : Tg w' x 30 := ⟨_, c1⟩
  have hS : Fr (· = x) w' (w'.setCell ⟨x, 4, none⟩ (.slice a (nw + 1) c)) := Fr.setCell _ _ _ rfl
  have t1 := KU.te.fr hF (fun k hk => nt _ _ (KU.te.tg hk) (by decide))
  have g1 := KU.gn.fr hF (fun k hk => nt _ _ (KU.gn.tg hk) (by decide))
  have s1 := KU.sp.fr hF (fun k hk hh => hk.not hh.2 (by decide) (by decide) (by decide) rfl)
  refine ⟨a, c, w', hr, ⟨block_lt c1, by rw [cell_row c1]; rfl, frozen_row c1 4⟩, ⟨?_, .inl h.tx, t1.fr hS (fun k hk => (t1.tg hk).ne tg' (by decide)), fun k hk => .inl (h.tt k hk), (s1.fr hS (fun k hk => hk.not tg' (by decide) (by decide) (by decide))).mono (fun k hk => .inl hk), hW'.fr hS (fun k _ hk => hk.ne tg' (by decide)), fun he => absurd he ha, g1.fr hS (fun k hk => (g1.tg hk).ne tg' (by decide)), fun k hk => .inl (h.gt k hk), h.ne⟩, hsz, ((Fr.of_below hu).next hF (fun k _ hk => hk.1)).next hS (fun k _ hk => by rw [hk]; exact h.tx)⟩
  have := set_row c1 4 (.slice a (nw + 1) c)
  simpa using this

/-- What makes has made, ahead of Apply. -/
def MK (T : Nat → Prop) (w wx : World) (x z : Nat) (s : Sd) (base : Int) (vt : Value) (aw : Option Addr) (nw cw : Nat) (βt : Option Nat) (bo m n : Nat) : Prop :=
  ∃ o T' vg βg G, FitO n o ∧ VO o ∧ SC T' wx x z s.d ⟨s.f, s.q, s.made⟩ s.made s.took base s.way vt aw nw cw vg βt βg G ∧ G.length ≤ m + 1 ∧ (∀ k, T k → T' k) ∧ (∀ k, T' k → (T k ∨ w.heap.size ≤ k) ∧ k < wx.heap.size ∧ k ≠ bo) ∧ wx.heap[bo]? = some (.cells (opc o).toArray 37 (0, 0)) ∧ Fr T w wx

/-- Where only the operation's own block has changed. -/
theorem MK.of {T : Nat → Prop} {B : Nat} {w wa wx : World} {x z : Nat} {s : Sd} {base : Int} {vt : Value} {aw : Option Addr} {nw cw : Nat} {vg : Value} {βt βg : Option Nat} {G : List El} {bo m n : Nat} {o : OpE} (hf : FitO n o) (hv : VO o) (K : SC T wa x z s.d ⟨s.f, s.q, s.made⟩ s.made s.took base s.way vt aw nw cw vg βt βg G) (hG : G.length ≤ m) (ho : ∀ k, T k → B ≤ k ∧ k < w.heap.size) (hbo : w.heap.size < bo) (bw : Below w.heap.size w wa) (hF : Fr (· = bo) wa wx) (hX : wx.heap[bo]? = some (.cells (opc o).toArray 37 (0, 0))) : MK T w wx x z s base vt aw nw cw βt bo m n := by
  have hz := hF.size
  have hw := bw.size
  refine ⟨o, T, vg, βg, G, hf, hv, K.fr hF (fun j hj he => by have := (ho j hj).2; omega), by omega, fun k hk => hk, fun k hk => ⟨.inl hk, by have := (ho k hk).2; omega, by have := (ho k hk).2; omega⟩, hX, (Fr.of_below bw).next hF (fun j hj he => by omega)⟩

end Go.Proofs.YtmbnimlibnheeabDoor
