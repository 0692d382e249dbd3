/-
  SpaceFresh: twice.
-/
import Derived.Test.YtmbnimlibnheeaaDoorXb
import Derived.Deep.DeepCutAuto
namespace Go.Proofs.YtmbnimlibnheeaaDoor
open Go.RowKit Go.Lib
set_option linter.unusedVariables false

/-- Queue: the list it answers. -/
theorem queue_row (x : Nat) (p : Sp) (S : Nat → Prop) (w : World) (h : SpAt w x p S) :
    Calls Tryd.prog 10 #[.pointer (some ⟨x, 0, none⟩)] w fun e w' => ∃ g c, e = .returned (.slice (some ⟨g, 0, none⟩) p.q.length c) ∧ Hid (RowF mkd 6 w' g p.q.length c 39 p.q ∧ w.heap.size ≤ g ∧ Below w.heap.size w w') := by
  refine (queue_any x p S w h).mono ?_
  rintro e w' ⟨u, rfl, hM, hb⟩
  obtain ⟨g, c, rfl, hR, hg, -, -⟩ := hM.form
  exact ⟨g, c, rfl, hR, hg, hb⟩

/-- append of a whole list onto nil. -/
theorem push_all (w : World) (g n c : Nat) (xs : List (Int × OpE)) (h : RowF mkd 6 w g n c 39 xs) (hn : 0 < n) (hm : n ≤ 10000) :
    ∃ g' c' w', (∀ ty, (Builtin.append_ #[30, 30] ty #[.slice none 0 0, .slice (some ⟨g, 0, none⟩) n c]).run Tryd.prog w = .ok (.slice (some ⟨g', 0, none⟩) n c') w') ∧ RowF mkd 6 w' g' n c' 39 xs ∧ w.heap.size ≤ g' ∧ Below w.heap.size w w' := by
  obtain ⟨i0, hi0, hz0, hz1, hz2⟩ := info_parts Tryd.infoM
  have hl := h.caps.1
  have hnews : ∀ j u, (cl mkd xs)[j]? = some u → w.cell? ((⟨g, 0, none⟩ : Addr).add j) = some u := by
    have := h.cells sz_mkd 0
    simpa using this
  obtain ⟨v', w', hr, g', hS, hN⟩ := run_pushF sz_mkd (P := Tryd.prog) w 30 0 39 i0 _ 48 Tryd.underlying30 hi0 hz0 hz1 rfl hz2 none (.slice none 0 0) [] ⟨rfl, rfl⟩ ⟨g, 0, none⟩ n c xs hl hnews hn (by simp; omega) (by simp; omega)
  obtain ⟨c', rfl, hR⟩ := hS
  rw [List.nil_append, hl] at hR
  rcases hN with ⟨e, -⟩ | ⟨e, hF⟩
  · cases e
  · refine ⟨g', c', w', fun ty => ?_, hR, by omega, hF.below (Nat.le_refl _) (fun k h => h.elim)⟩
    rw [List.nil_append, hl] at hr
    exact hr

/-- append of a list, that may be empty, onto nil. -/
theorem push_list (w : World) (g n c : Nat) (xs : List (Int × OpE)) (h : RowF mkd 6 w g n c 39 xs) (hm : n ≤ 10000) :
    ∃ a' c' w', (∀ ty, (Builtin.append_ #[30, 30] ty #[.slice none 0 0, .slice (some ⟨g, 0, none⟩) n c]).run Tryd.prog w = .ok (.slice a' n c') w') ∧ IsK w' a' n c' xs ∧ (∀ b off, a' = some ⟨b, off, none⟩ → w.heap.size ≤ b) ∧ Below w.heap.size w w' := by
  rcases Nat.eq_zero_or_pos n with rfl | hn
  · obtain ⟨i0, hi0, hz0, hz1, hz2⟩ := info_parts Tryd.infoM
    refine ⟨none, 0, w, fun ty => ?_, ⟨h.caps.1, Nat.le_refl _, by omega, fun h => absurd h (Nat.lt_irrefl _)⟩, (fun b off e => by cases e), Below.refl _ _⟩
    simp [Builtin.append_, run_underlying Tryd.underlying30, sizeOf, typeInfo, hi0, Builtin.lenOf, Builtin.firstCells, loadCells, loadCellsFrom]
  · obtain ⟨g', c', w', h1, h2, h3, h4⟩ := push_all w g n c xs h hn hm
    exact ⟨_, c', w', h1, h2.isK, fun b off e => by injection e with e; injection e with e; omega, h4⟩

theorem IsK.fr {S : Nat → Prop} {w w' : World} {a : Option Addr} {n c : Nat} {xs : List (Int × OpE)} (h : IsK w a n c xs) (hF : Fr S w w') (hS : ∀ b off, a = some ⟨b, off, none⟩ → ¬ S b) : IsK w' a n c xs := by
  obtain ⟨h1, h2, h3, h4⟩ := h
  refine ⟨h1, h2, h3, fun hn => ?_⟩
  obtain ⟨b, off, rfl, hlt, hc⟩ := h4 hn
  exact ⟨b, off, rfl, Nat.lt_of_lt_of_le hlt hF.size, fun i hi j hj => (hF.cell (p := ⟨b, off + i * 6 + j, none⟩) hlt (hS b off rfl)).trans (hc i hi j hj)⟩

/-- Five lists in a list, two copies. -/
structure TS (w0 w : World) (gL : Nat) (B N C : Nat → Nat) (T : Nat → List (Int × OpE)) (ka : Option Addr) (kc : Nat) (X : List (Int × OpE)) (oa : Option Addr) (oc : Nat) (Y : List (Int × OpE)) : Prop where
  inj : ∀ i j, i < 5 → j < 5 → B i = B j → i = j
  low : ∀ j, j < 5 → w0.heap.size ≤ B j
  row : ∀ j, j < 5 → RowF mkd 6 w (B j) (N j) (C j) 39 (T j)
  lc : LC w gL 5 B N C
  k : IsK w ka X.length kc X
  kn : ∀ b off, ka = some ⟨b, off, none⟩ → ∀ j, j < 5 → B j ≠ b
  o : IsK w oa Y.length oc Y
  on : ∀ b off, oa = some ⟨b, off, none⟩ → ∀ j, j < 5 → B j ≠ b
  bel : Below w0.heap.size w0 w

section
variable {w0 w w' : World} {gL : Nat} {B N C : Nat → Nat} {T : Nat → List (Int × OpE)} {ka : Option Addr} {kc : Nat} {X : List (Int × OpE)} {oa : Option Addr} {oc : Nat} {Y : List (Int × OpE)}
theorem TS.below (h : TS w0 w gL B N C T ka kc X oa oc Y) (hb : Below w.heap.size w w') : TS w0 w' gL B N C T ka kc X oa oc Y :=
  have hF : Fr (fun _ => False) w w' := Fr.of_below hb
  ⟨h.inj, h.low, fun j hj => (h.row j hj).fr hF (fun h => h), h.lc.fr hF (fun h => h), h.k.fr hF (fun _ _ _ h => h), h.kn, h.o.fr hF (fun _ _ _ h => h), h.on, h.bel.trans (hb.mono h.bel.size)⟩
end

set_option maxRecDepth 100000 in
set_option maxHeartbeats 8000000 in
theorem twice_any (x y : Nat) (p q : Sp) (S1 S2 : Nat → Prop) (w : World) (hx : SpAt w x p S1) (hy : SpAt w y q S2) (hp : p.q.length ≤ 100) (hq : q.q.length ≤ 100) :
    Calls Tryd.prog 20 #[.pointer (some ⟨x, 0, none⟩), .pointer (some ⟨y, 0, none⟩)] w fun e w' => e = .returned (.bool true) ∧ Hid (Below w.heap.size w w') := by
  have HX := hd hx
  have HY := hd hy
  have OX := hd hx.1.old
  have OY := hd hy.1.old
  obtain ⟨n, hn⟩ : ∃ n, p.q.length = n := ⟨_, rfl⟩
  obtain ⟨m, hm⟩ : ∃ n, q.q.length = n := ⟨_, rfl⟩
  rw [hn] at hp
  rw [hm] at hq
  have HN := hd (And.intro hn hm)
  have QX : Hid (∀ V, SpAt V x p S1 → Calls Tryd.prog 10 #[.pointer (some ⟨x, 0, none⟩)] V fun e w' => ∃ g c, e = .returned (.slice (some ⟨g, 0, none⟩) n c) ∧ Hid (RowF mkd 6 w' g n c 39 p.q ∧ V.heap.size ≤ g ∧ Below V.heap.size V w')) := fun V hV => by
    have := queue_row x p S1 V hV
    rwa [hn] at this
  have QY : Hid (∀ V, SpAt V y q S2 → Calls Tryd.prog 10 #[.pointer (some ⟨y, 0, none⟩)] V fun e w' => ∃ g c, e = .returned (.slice (some ⟨g, 0, none⟩) m c) ∧ Hid (RowF mkd 6 w' g m c 39 q.q ∧ V.heap.size ≤ g ∧ Below V.heap.size V w')) := fun V hV => by
    have := queue_row y q S2 V hV
    rwa [hm] at this
  clear hx hy hn hm
  go_enter Tryd.func20, Tryd.ntmps20
  go_wp2_with fail
  refine (QX.out w HX.out).mono ?_
  rintro e w1 ⟨g0, c0, rfl, H0⟩
  go_wp2_with fail
  refine (QX.out w1 (HX.out.below H0.out.2.2)).mono ?_
  rintro e w2 ⟨g1, c1, rfl, H1⟩
  have B2 : Hid (Below w.heap.size w w2) := H0.out.2.2.trans (H1.out.2.2.mono H0.out.2.2.size)
  go_wp2_with fail
  refine (QY.out w2 (HY.out.below B2.out)).mono ?_
  rintro e w3 ⟨g2, c2, rfl, H2⟩
  have B3 : Hid (Below w.heap.size w w3) := B2.out.trans (H2.out.2.2.mono B2.out.size)
  go_wp2_with fail
  refine (QY.out w3 (HY.out.below B3.out)).mono ?_
  rintro e w4 ⟨g3, c3, rfl, H3⟩
  have B4 : Hid (Below w.heap.size w w4) := B3.out.trans (H3.out.2.2.mono B3.out.size)
  go_wp2_with fail
  refine (QX.out w4 (HX.out.below B4.out)).mono ?_
  rintro e w5 ⟨g4, c4, rfl, H4⟩
  have B5 : Hid (Below w.heap.size w w5) := B4.out.trans (H4.out.2.2.mono B4.out.size)
  -- the list of the five
  obtain ⟨w6, hw6⟩ : ∃ u, u = w5.alloc (.cells #[.slice (some ⟨g0, 0, none⟩) n c0, .slice (some ⟨g1, 0, none⟩) n c1, .slice (some ⟨g2, 0, none⟩) m c2, .slice (some ⟨g3, 0, none⟩) m c3, .slice (some ⟨g4, 0, none⟩) n c4] 30) := ⟨_, rfl⟩
  have X6 : w6.heap[w5.heap.size]? = some (.cells #[.slice (some ⟨g0, 0, none⟩) n c0, .slice (some ⟨g1, 0, none⟩) n c1, .slice (some ⟨g2, 0, none⟩) m c2, .slice (some ⟨g3, 0, none⟩) m c3, .slice (some ⟨g4, 0, none⟩) n c4] 30 (0, 0)) := by rw [hw6]; exact heap_alloc_new _ _
  have b6 : Below w5.heap.size w5 w6 := by rw [hw6]; exact (Below.refl _ _).alloc (Nat.le_refl _) _
  obtain ⟨r4, l4, b5⟩ := H4.out
  obtain ⟨r3, l3, b4⟩ := H3.out
  obtain ⟨r2, l2, b3⟩ := H2.out
  obtain ⟨r1, l1, b2⟩ := H1.out
  obtain ⟨r0, l0, b1⟩ := H0.out
  have R4 := r4.fr (S := fun _ => False) (Fr.of_below b6) (fun h => h)
  have R3 := (r3.fr (S := fun _ => False) (Fr.of_below b5) (fun h => h)).fr (S := fun _ => False) (Fr.of_below b6) (fun h => h)
  have R2 := ((r2.fr (S := fun _ => False) (Fr.of_below b4) (fun h => h)).fr (S := fun _ => False) (Fr.of_below b5) (fun h => h)).fr (S := fun _ => False) (Fr.of_below b6) (fun h => h)
  have R1 := (((r1.fr (S := fun _ => False) (Fr.of_below b3) (fun h => h)).fr (S := fun _ => False) (Fr.of_below b4) (fun h => h)).fr (S := fun _ => False) (Fr.of_below b5) (fun h => h)).fr (S := fun _ => False) (Fr.of_below b6) (fun h => h)
  have R0 := ((((r0.fr (S := fun _ => False) (Fr.of_below b2) (fun h => h)).fr (S := fun _ => False) (Fr.of_below b3) (fun h => h)).fr (S := fun _ => False) (Fr.of_below b4) (fun h => h)).fr (S := fun _ => False) (Fr.of_below b5) (fun h => h)).fr (S := fun _ => False) (Fr.of_below b6) (fun h => h)
  have z1 := r0.lt
  have z2 := r1.lt
  have z3 := r2.lt
  have z4 := r3.lt
  have z5 := r4.lt
  have s2 := b2.size
  have s3 := b3.size
  have s4 := b4.size
  have s5 := b5.size
  have s1 := b1.size
  have s6 : w6.heap.size = w5.heap.size + 1 := by rw [hw6]; simp
  obtain ⟨ka, kc, w7, hk, K7, kn, bk⟩ := push_list w6 g0 n c0 p.q R0 (by omega)
  have R2' := R2.fr (S := fun _ => False) (Fr.of_below bk) (fun h => h)
  obtain ⟨oa, oc, w8, ho, O8, on, bo⟩ := push_list w7 g2 m c2 q.q R2' (by omega)
  have sk := bk.size
  have B : Nat → Nat := fun j => if j = 0 then g0 else if j = 1 then g1 else if j = 2 then g2 else if j = 3 then g3 else g4
  have TS8 : Hid (TS w w8 w5.heap.size (fun j => if j = 0 then g0 else if j = 1 then g1 else if j = 2 then g2 else if j = 3 then g3 else g4) (fun j => if j = 0 then n else if j = 1 then n else if j = 2 then m else if j = 3 then m else n) (fun j => if j = 0 then c0 else if j = 1 then c1 else if j = 2 then c2 else if j = 3 then c3 else c4) (fun j => if j = 0 then p.q else if j = 1 then p.q else if j = 2 then q.q else if j = 3 then q.q else p.q) ka kc p.q oa oc q.q) := by
    have hB : ∀ j, j < 5 → (if j = 0 then g0 else if j = 1 then g1 else if j = 2 then g2 else if j = 3 then g3 else g4) < w6.heap.size ∧ w.heap.size ≤ (if j = 0 then g0 else if j = 1 then g1 else if j = 2 then g2 else if j = 3 then g3 else g4) := fun j hj => by
      match j, hj with
      | 0, _ => simp; omega
      | 1, _ => simp; omega
      | 2, _ => simp; omega
      | 3, _ => simp; omega
      | 4, _ => simp; omega
      | j + 5, hj => omega
    have h68 : Fr (fun _ => False) w6 w8 := (Fr.of_below bk).trans (Fr.of_below bo)
    refine ⟨fun i j hi hj => ?_, fun j hj => (hB j hj).2, fun j hj => ?_, ?_, ?_, fun b off e j hj eb => ?_, ?_, fun b off e j hj eb => ?_, ?_⟩
    · match i, j, hi, hj with
      | 0, 0, _, _ | 1, 1, _, _ | 2, 2, _, _ | 3, 3, _, _ | 4, 4, _, _ => intro _; rfl
      | 0, 1, _, _ | 0, 2, _, _ | 0, 3, _, _ | 0, 4, _, _ | 1, 0, _, _ | 1, 2, _, _ | 1, 3, _, _ | 1, 4, _, _ | 2, 0, _, _ | 2, 1, _, _ | 2, 3, _, _ | 2, 4, _, _ | 3, 0, _, _ | 3, 1, _, _ | 3, 2, _, _ | 3, 4, _, _ | 4, 0, _, _ | 4, 1, _, _ | 4, 2, _, _ | 4, 3, _, _ => simp; omega
      | i + 5, _, hi, _ => omega
      | _, j + 5, _, hj => omega
    · match j, hj with
      | 0, _ => exact R0.fr h68 (fun h => h)
      | 1, _ => exact R1.fr h68 (fun h => h)
      | 2, _ => exact R2.fr h68 (fun h => h)
      | 3, _ => exact R3.fr h68 (fun h => h)
      | 4, _ => exact R4.fr h68 (fun h => h)
      | j + 5, hj => omega
    · refine LC.fr (S := fun _ => False) ⟨_, X6, fun j hj => ?_⟩ h68 (fun h => h)
      match j, hj with
      | 0, _ | 1, _ | 2, _ | 3, _ | 4, _ => rfl
      | j + 5, hj => omega
    · rw [HN.out.1]
      exact K7.fr (Fr.of_below bo) (fun _ _ _ h => h)
    · have h1 := kn b off e
      have h2 := (hB j hj).1
      rw [eb] at h2
      omega
    · rw [HN.out.2]
      exact O8
    · have h1 := on b off e
      have h2 := (hB j hj).1
      rw [eb] at h2
      omega
    · exact ((B5.out.trans (b6.mono B5.out.size)).trans (bk.mono (by omega))).trans (bo.mono (by omega))
  have cl0 : w6.cell? ⟨w5.heap.size, 0, none⟩ = some (.slice (some ⟨g0, 0, none⟩) n c0) := by rw [cell_row X6]; rfl
  have X7 := (bk.block _ (block_lt X6)).trans X6
  have cl2 : w7.cell? ⟨w5.heap.size, 2, none⟩ = some (.slice (some ⟨g2, 0, none⟩) m c2) := by rw [cell_row X7]; rfl
  rw [hw6] at hk cl0
  have gl5 : w5.heap.size < w7.heap.size := block_lt X7
  clear X6 X7 b6 r0 r1 r2 r3 r4 l0 l1 l2 l3 l4 b1 b2 b3 b4 b5 R0 R1 R2 R3 R4 R2' z1 z2 z3 z4 z5 s1 s2 s3 s4 s5 s6 K7 kn bk O8 on bo sk hw6 H0 H1 H2 H3 H4 B2 B3 B4 B5 B
  obtain ⟨B, N, C, T, TS8', e1, e3, e4, eN⟩ : ∃ B N C T, Hid (TS w w8 w5.heap.size B N C T ka kc p.q oa oc q.q) ∧ Hid (B 1 = g1 ∧ N 1 = n ∧ C 1 = c1 ∧ T 1 = p.q) ∧ Hid (B 3 = g3 ∧ N 3 = m ∧ C 3 = c3 ∧ T 3 = q.q) ∧ Hid (B 4 = g4 ∧ N 4 = n ∧ C 4 = c4 ∧ T 4 = p.q) ∧ Hid (∀ j, j < 5 → N j ≤ 1000) := ⟨_, _, _, _, TS8, ⟨rfl, rfl, rfl, rfl⟩, ⟨rfl, rfl, rfl, rfl⟩, ⟨rfl, rfl, rfl, rfl⟩, fun j hj => by
    match j, hj with
    | 0, _ => simp; omega
    | 1, _ => simp; omega
    | 2, _ => simp; omega
    | 3, _ => simp; omega
    | 4, _ => simp; omega
    | j + 5, hj => omega⟩
  clear TS8
  have TC : Hid (∀ V, TS w V w5.heap.size B N C T ka kc p.q oa oc q.q → IsK V (some ⟨g1, 0, none⟩) n c1 p.q ∧ IsK V (some ⟨g4, 0, none⟩) n c4 p.q ∧ IsK V (some ⟨g3, 0, none⟩) m c3 q.q ∧ IsK V ka n kc p.q ∧ IsK V oa m oc q.q) := fun V h => by
    have h1 := (h.row 1 (by decide)).isK
    have h3 := (h.row 3 (by decide)).isK
    have h4 := (h.row 4 (by decide)).isK
    rw [e1.out.1, e1.out.2.1, e1.out.2.2.1, e1.out.2.2.2] at h1
    rw [e3.out.1, e3.out.2.1, e3.out.2.2.1, e3.out.2.2.2] at h3
    rw [e4.out.1, e4.out.2.1, e4.out.2.2.1, e4.out.2.2.2] at h4
    have hk := h.k
    have ho := h.o
    rw [HN.out.1] at hk
    rw [HN.out.2] at ho
    exact ⟨h1, h4, h3, hk, ho⟩
  have CL : Hid (∀ V, TS w V w5.heap.size B N C T ka kc p.q oa oc q.q → V.cell? ⟨w5.heap.size, 1, none⟩ = some (.slice (some ⟨g1, 0, none⟩) n c1) ∧ V.cell? ⟨w5.heap.size, 3, none⟩ = some (.slice (some ⟨g3, 0, none⟩) m c3) ∧ V.cell? ⟨w5.heap.size, 4, none⟩ = some (.slice (some ⟨g4, 0, none⟩) n c4)) := fun V h => by
    have h1 := h.lc.cell 1 (by decide)
    have h3 := h.lc.cell 3 (by decide)
    have h4 := h.lc.cell 4 (by decide)
    rw [e1.out.1, e1.out.2.1, e1.out.2.2.1] at h1
    rw [e3.out.1, e3.out.2.1, e3.out.2.2.1] at h3
    rw [e4.out.1, e4.out.2.1, e4.out.2.2.1] at h4
    exact ⟨h1, h3, h4⟩
  obtain ⟨d1, -, -⟩ := CL.out _ TS8'.out
  clear e1 e3 e4
  go_upto_region 4 with (at_builtin; refine wpList_append_k _ rfl _ _ 30 30 rfl _ _ rfl rfl (hk _) ?_)
  go_upto_region 5 with (at_builtin; refine wpList_append_k _ rfl _ _ 30 30 rfl _ _ rfl rfl (ho _) ?_)
  clear hk ho
  go_wp2_with fail
  clear cl0 cl2 gl5 d1
  refine (queues_true _ _ _ _ _ p.q w8 (TC.out _ TS8'.out).1 (TC.out _ TS8'.out).2.2.2.1).mono ?_
  rintro e w9 ⟨rfl, b9⟩
  have T9 := hd (TS8'.out.below b9)
  clear TS8' b9
  obtain ⟨-, -, d4⟩ := CL.out _ T9.out
  go_wp2_with fail
  clear d4
  refine (queues_true _ _ _ _ _ p.q w9 (TC.out _ T9.out).2.1 (TC.out _ T9.out).2.2.2.1).mono ?_
  rintro e w10 ⟨rfl, b10⟩
  have T10 := hd (T9.out.below b10)
  clear T9 b10
  obtain ⟨-, d3, -⟩ := CL.out _ T10.out
  go_wp2_with fail
  clear d3
  refine (queues_true _ _ _ _ _ q.q w10 (TC.out _ T10.out).2.2.1 (TC.out _ T10.out).2.2.2.2).mono ?_
  rintro e w11 ⟨rfl, b11⟩
  have T11 := hd (T10.out.below b11)
  clear T10 b11
  go_wp2_with fail
  refine (grown_any w5.heap.size 5 5 B N C T w11 T11.out.inj T11.out.row T11.out.lc (by decide) eN.out (by decide) (by decide)).mono ?_
  rintro e w12 ⟨rfl, F12⟩
  have K12 : Hid (SpAt w12 x p S1 ∧ SpAt w12 y q S2 ∧ IsK w12 ka n kc p.q ∧ IsK w12 oa m oc q.q ∧ Below w.heap.size w w12) := by
    have t := T11.out
    have hlow : ∀ k, (∃ j, j < 5 ∧ B j = k) → w.heap.size ≤ k := fun k ⟨j, hj, e⟩ => e ▸ t.low j hj
    refine ⟨(HX.out.below t.bel).fr F12.out (fun k hk he => ?_), (HY.out.below t.bel).fr F12.out (fun k hk he => ?_), (TC.out _ t).2.2.2.1.fr F12.out (fun b off e ⟨j, hj, he⟩ => t.kn b off e j hj he), (TC.out _ t).2.2.2.2.fr F12.out (fun b off e ⟨j, hj, he⟩ => t.on b off e j hj he), t.bel.trans (F12.out.below t.bel.size hlow)⟩
    · have := hlow k he
      have := OX.out k hk
      omega
    · have := hlow k he
      have := OY.out k hk
      omega
  clear T11 F12 TC CL eN
  go_wp2_with fail
  refine (QX.out w12 K12.out.1).mono ?_
  rintro e w13 ⟨g5, c5, rfl, H5⟩
  go_wp2_with fail
  have bb := H5.out.2.2
  refine (queues_true _ _ _ _ _ p.q w13 H5.out.1.isK (K12.out.2.2.1.below bb (Nat.le_refl _))).mono ?_
  rintro e w14 ⟨rfl, b14⟩
  have K14 : Hid (SpAt w14 y q S2 ∧ IsK w14 oa m oc q.q ∧ Below w.heap.size w w14) := by
    obtain ⟨k1, k2, k3, k4, k5⟩ := K12.out
    exact ⟨(k2.below bb).below b14, (k4.below bb (Nat.le_refl _)).below b14 (Nat.le_refl _), (k5.trans (bb.mono k5.size)).trans (b14.mono (Nat.le_trans k5.size bb.size))⟩
  clear K12 H5 bb b14
  go_wp2_with fail
  refine (QY.out w14 K14.out.1).mono ?_
  rintro e w15 ⟨g6, c6, rfl, H6⟩
  go_wp2_with fail
  have bb := H6.out.2.2
  refine (queues_true _ _ _ _ _ q.q w15 H6.out.1.isK (K14.out.2.1.below bb (Nat.le_refl _))).mono ?_
  rintro e w16 ⟨rfl, b16⟩
  have Z : Hid (Below w.heap.size w w16) := by
    obtain ⟨k1, k2, k3⟩ := K14.out
    exact (k3.trans (bb.mono k3.size)).trans (b16.mono (Nat.le_trans k3.size bb.size))
  clear K14 H6 bb b16
  go_wp2_with fail
  go_ret
  exact ⟨rfl, Z⟩

end Go.Proofs.YtmbnimlibnheeaaDoor
