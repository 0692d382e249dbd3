/-
  OtOwn's region 4, in any order.
-/
import Derived.Test.YtmkgkgdngjmcmabDoorOi
namespace Go.Proofs.YtmkgkgdngjmcmabDoor
open Go.RowKit Go.Lib
set_option linter.unusedVariables false

abbrev spareV : Value := .agg #[.int .i64 1, .int .i64 9, .int .u8 115, .int .i64 9, .int .i64 9]

/-- One of the two lines: what of its five operations has come up. -/
structure Ln (L : Nat → Prop) (k : Nat) (v0 : Value) (n : Nat) (xs : List OpE) (base : Nat) (τ : Nat → Nat) (w : World) (a : Act) (ga ca q g1 c1 : Nat) : Prop where
  e0 : L k → a.eval (.tmp (43 + k)) = v0
  e1 : L (k + 1) → a.eval (.tmp (44 + k)) = .slice (some ⟨ga, 0, none⟩) n ca
  r1 : L (k + 1) → ¬ L (k + 4) → RowO w ga n ca xs ∧ τ ga = k + 1 ∧ base ≤ ga
  e2 : L (k + 2) → a.eval (.tmp (45 + k)) = spareV
  e3 : L (k + 3) → a.eval (.tmp (46 + k)) = .slice (some ⟨q, 0, none⟩) 1 1
  r3 : L (k + 3) → AtS w q ∧ τ q = k + 2
  e4 : L (k + 4) → a.eval (.tmp (47 + k)) = .slice (some ⟨g1, 0, none⟩) (n + 1) c1
  r4 : L (k + 4) → RowO w g1 (n + 1) c1 (xs ++ [spare]) ∧ τ g1 = k + 1 ∧ base ≤ g1
  o4 : L (k + 4) → L (k + 1)

section
variable {L L' : Nat → Prop} {k : Nat} {v0 : Value} {n : Nat} {xs : List OpE} {base : Nat} {τ τ' : Nat → Nat} {w w' : World} {a : Act} {ga ca q g1 c1 : Nat}

theorem Ln.other (h : Ln L k v0 n xs base τ w a ga ca q g1 c1) {i d : Nat} (v : Value) (hu : ∀ j, L' j ↔ (j = i ∨ L j)) (hi : i < k ∨ k + 4 < i) (hd : d < 43 + k ∨ 47 + k < d) {S : Nat → Prop} (hF : Fr S w w') (hS : ∀ j, S j → τ j ≠ k + 1 ∧ τ j ≠ k + 2) (hτ : ∀ j, j < w.heap.size → τ' j = τ j) : Ln L' k v0 n xs base τ' w' (a.put (some d) v) ga ca q g1 c1 := by
  have e : ∀ j, k ≤ j → j ≤ k + 4 → (L' j ↔ L j) := fun j h1 h2 => by
    rw [hu j]
    constructor
    · rintro (h | h)
      · omega
      · exact h
    · exact .inr
  have i0 := e k (by omega) (by omega)
  have i1 := e (k + 1) (by omega) (by omega)
  have i2 := e (k + 2) (by omega) (by omega)
  have i3 := e (k + 3) (by omega) (by omega)
  have i4 := e (k + 4) (by omega) (by omega)
  refine ⟨fun hl => ?_, fun hl => ?_, fun hl hn => ?_, fun hl => ?_, fun hl => ?_, fun hl => ?_, fun hl => ?_, fun hl => ?_, fun hl => i1.2 (h.o4 (i4.1 hl))⟩
  · rw [ev_ne _ _ (by omega)]; exact h.e0 (i0.1 hl)
  · rw [ev_ne _ _ (by omega)]; exact h.e1 (i1.1 hl)
  · obtain ⟨a1, a2, a3⟩ := h.r1 (i1.1 hl) (fun x => hn (i4.2 x))
    exact ⟨a1.fr hF (fun hs => (hS _ hs).1 a2), by rw [hτ _ a1.lt]; exact a2, a3⟩
  · rw [ev_ne _ _ (by omega)]; exact h.e2 (i2.1 hl)
  · rw [ev_ne _ _ (by omega)]; exact h.e3 (i3.1 hl)
  · obtain ⟨a1, a2⟩ := h.r3 (i3.1 hl)
    exact ⟨hF.keeps a1 (fun hs => (hS _ hs).2 a2), by rw [hτ _ a1.lt]; exact a2⟩
  · rw [ev_ne _ _ (by omega)]; exact h.e4 (i4.1 hl)
  · obtain ⟨a1, a2, a3⟩ := h.r4 (i4.1 hl)
    exact ⟨a1.fr hF (fun hs => (hS _ hs).1 a2), by rw [hτ _ a1.lt]; exact a2, a3⟩

theorem Ln.op0 (h : Ln L k v0 n xs base τ w a ga ca q g1 c1) (hu : ∀ j, L' j ↔ (j = k ∨ L j)) (hz : 43 + k < a.tmps.size) : Ln L' k v0 n xs base τ w (a.put (some (43 + k)) v0) ga ca q g1 c1 := by
  have e : ∀ j, j ≠ k → (L' j ↔ L j) := fun j h1 => by rw [hu j]; simp [h1]
  refine ⟨fun _ => ev_eq _ _ hz, fun hl => ?_, fun hl hn => h.r1 ((e _ (by omega)).1 hl) (fun x => hn ((e _ (by omega)).2 x)), fun hl => ?_, fun hl => ?_, fun hl => h.r3 ((e _ (by omega)).1 hl), fun hl => ?_, fun hl => h.r4 ((e _ (by omega)).1 hl), fun hl => (e _ (by omega)).2 (h.o4 ((e _ (by omega)).1 hl))⟩
  · rw [ev_ne _ _ (by omega)]; exact h.e1 ((e _ (by omega)).1 hl)
  · rw [ev_ne _ _ (by omega)]; exact h.e2 ((e _ (by omega)).1 hl)
  · rw [ev_ne _ _ (by omega)]; exact h.e3 ((e _ (by omega)).1 hl)
  · rw [ev_ne _ _ (by omega)]; exact h.e4 ((e _ (by omega)).1 hl)

theorem Ln.op2 (h : Ln L k v0 n xs base τ w a ga ca q g1 c1) (hu : ∀ j, L' j ↔ (j = k + 2 ∨ L j)) (hz : 45 + k < a.tmps.size) : Ln L' k v0 n xs base τ w (a.put (some (45 + k)) spareV) ga ca q g1 c1 := by
  have e : ∀ j, j ≠ k + 2 → (L' j ↔ L j) := fun j h1 => by rw [hu j]; simp [h1]
  refine ⟨fun hl => ?_, fun hl => ?_, fun hl hn => h.r1 ((e _ (by omega)).1 hl) (fun x => hn ((e _ (by omega)).2 x)), fun _ => ev_eq _ _ hz, fun hl => ?_, fun hl => h.r3 ((e _ (by omega)).1 hl), fun hl => ?_, fun hl => h.r4 ((e _ (by omega)).1 hl), fun hl => (e _ (by omega)).2 (h.o4 ((e _ (by omega)).1 hl))⟩
  · rw [ev_ne _ _ (by omega)]; exact h.e0 ((e _ (by omega)).1 hl)
  · rw [ev_ne _ _ (by omega)]; exact h.e1 ((e _ (by omega)).1 hl)
  · rw [ev_ne _ _ (by omega)]; exact h.e3 ((e _ (by omega)).1 hl)
  · rw [ev_ne _ _ (by omega)]; exact h.e4 ((e _ (by omega)).1 hl)

/-- A new block's tag. -/
def tagN (τ : Nat → Nat) (g t : Nat) : Nat → Nat := fun j => if j = g then t else τ j
theorem tagN_new (τ : Nat → Nat) (g t : Nat) : tagN τ g t g = t := by simp [tagN]
theorem tagN_old (τ : Nat → Nat) {g t z : Nat} (h : z ≤ g) : ∀ j, j < z → tagN τ g t j = τ j := fun j hj => by
  have : j ≠ g := by omega
  simp [tagN, this]

theorem Ln.op1 (h : Ln L k v0 n xs base τ w a ga ca q g1 c1) (hu : ∀ j, L' j ↔ (j = k + 1 ∨ L j)) (hno : ¬ L (k + 1)) (hz : 44 + k < a.tmps.size) {g c : Nat} (hR : RowO w' g n c xs) (hg : w.heap.size ≤ g) (hbase : base ≤ g) (hB : Below w.heap.size w w') : Ln L' k v0 n xs base (tagN τ g (k + 1)) w' (a.put (some (44 + k)) (.slice (some ⟨g, 0, none⟩) n c)) g c q g1 c1 := by
  have e : ∀ j, j ≠ k + 1 → (L' j ↔ L j) := fun j h1 => by rw [hu j]; simp [h1]
  have n4 : ¬ L (k + 4) := fun x => hno (h.o4 x)
  refine ⟨fun hl => ?_, fun _ => ev_eq _ _ hz, fun _ _ => ⟨hR, tagN_new _ _ _, hbase⟩, fun hl => ?_, fun hl => ?_, fun hl => ?_, fun hl => absurd ((e _ (by omega)).1 hl) n4, fun hl => absurd ((e _ (by omega)).1 hl) n4, fun hl => absurd ((e _ (by omega)).1 hl) n4⟩
  · rw [ev_ne _ _ (by omega)]; exact h.e0 ((e _ (by omega)).1 hl)
  · rw [ev_ne _ _ (by omega)]; exact h.e2 ((e _ (by omega)).1 hl)
  · rw [ev_ne _ _ (by omega)]; exact h.e3 ((e _ (by omega)).1 hl)
  · obtain ⟨a1, a2⟩ := h.r3 ((e _ (by omega)).1 hl)
    exact ⟨(hB.block _ a1.lt).trans a1, by rw [tagN_old τ hg _ a1.lt]; exact a2⟩

theorem Ln.op3 (h : Ln L k v0 n xs base τ w a ga ca q g1 c1) (hu : ∀ j, L' j ↔ (j = k + 3 ∨ L j)) (hz : 46 + k < a.tmps.size) : Ln L' k v0 n xs base (tagN τ w.heap.size (k + 2)) (w.alloc (.cells #[.int .i64 1, .int .i64 9, .int .u8 115, .int .i64 9, .int .i64 9] 23)) (a.put (some (46 + k)) (.slice (some ⟨w.heap.size, 0, none⟩) 1 1)) ga ca w.heap.size g1 c1 := by
  have e : ∀ j, j ≠ k + 3 → (L' j ↔ L j) := fun j h1 => by rw [hu j]; simp [h1]
  refine ⟨fun hl => ?_, fun hl => ?_, fun hl hn => ?_, fun hl => ?_, fun _ => ev_eq _ _ hz, fun _ => ⟨AtS.new w, tagN_new _ _ _⟩, fun hl => ?_, fun hl => ?_, fun hl => (e _ (by omega)).2 (h.o4 ((e _ (by omega)).1 hl))⟩
  · rw [ev_ne _ _ (by omega)]; exact h.e0 ((e _ (by omega)).1 hl)
  · rw [ev_ne _ _ (by omega)]; exact h.e1 ((e _ (by omega)).1 hl)
  · obtain ⟨a1, a2, a3⟩ := h.r1 ((e _ (by omega)).1 hl) (fun x => hn ((e _ (by omega)).2 x))
    exact ⟨a1.al _, by rw [tagN_old τ (Nat.le_refl _) _ a1.lt]; exact a2, a3⟩
  · rw [ev_ne _ _ (by omega)]; exact h.e2 ((e _ (by omega)).1 hl)
  · rw [ev_ne _ _ (by omega)]; exact h.e4 ((e _ (by omega)).1 hl)
  · obtain ⟨a1, a2, a3⟩ := h.r4 ((e _ (by omega)).1 hl)
    exact ⟨a1.al _, by rw [tagN_old τ (Nat.le_refl _) _ a1.lt]; exact a2, a3⟩

theorem Ln.op4 (h : Ln L k v0 n xs base τ w a ga ca q g1 c1) (hu : ∀ j, L' j ↔ (j = k + 4 ∨ L j)) (h1 : L (k + 1)) (h3 : L (k + 3)) (hno : ¬ L (k + 4)) (hz : 47 + k < a.tmps.size) {g c : Nat} (hR : RowO w' g (n + 1) c (xs ++ [spare])) (hg : g = ga ∨ w.heap.size ≤ g) (hF : Fr (· = ga) w w') (hb : base ≤ w.heap.size) : Ln L' k v0 n xs base (tagN τ g (k + 1)) w' (a.put (some (47 + k)) (.slice (some ⟨g, 0, none⟩) (n + 1) c)) ga ca q g c := by
  have e : ∀ j, j ≠ k + 4 → (L' j ↔ L j) := fun j h1 => by rw [hu j]; simp [h1]
  obtain ⟨a1, a2, a3⟩ := h.r1 h1 hno
  obtain ⟨b1, b2⟩ := h.r3 h3
  have hne : q ≠ ga := fun he => by rw [he] at b2; omega
  have hqg : q ≠ g := by
    rcases hg with rfl | hg
    · exact hne
    · have := b1.lt
      omega
  have i1 : L' (k + 1) := (e _ (by omega)).2 h1
  have i4 : L' (k + 4) := (hu _).2 (.inl rfl)
  refine ⟨fun hl => ?_, fun hl => ?_, fun _ hn => absurd i4 hn, fun hl => ?_, fun hl => ?_, fun _ => ⟨hF.keeps b1 hne, ?_⟩, fun _ => ev_eq _ _ hz, fun _ => ⟨hR, tagN_new _ _ _, ?_⟩, fun _ => i1⟩
  · rw [ev_ne _ _ (by omega)]; exact h.e0 ((e _ (by omega)).1 hl)
  · rw [ev_ne _ _ (by omega)]; exact h.e1 ((e _ (by omega)).1 hl)
  · rw [ev_ne _ _ (by omega)]; exact h.e2 ((e _ (by omega)).1 hl)
  · rw [ev_ne _ _ (by omega)]; exact h.e3 ((e _ (by omega)).1 hl)
  · simp only [tagN, hqg, if_false]; exact b2
  · rcases hg with rfl | hg
    · exact a3
    · omega
end

/-- What has come up. -/
def I4 (a0 : Act) (w0 : World) (va vb : Value) (n m : Nat) (A B : List OpE) (L : Nat → Prop) (a : Act) (w : World) : Prop :=
  Fe a0 a [43, 44, 45, 46, 47, 48, 49, 50, 51, 52, 8, 9] ∧ Below w0.heap.size w0 w ∧ ∃ τ ga ca q g1 c1 gb cb r g2 c2,
    Ln L 0 va n A w0.heap.size τ w a ga ca q g1 c1 ∧ Ln L 5 vb m B w0.heap.size τ w a gb cb r g2 c2 ∧
    (L 10 → L 4 ∧ a.eval (.tmp 8) = .slice (some ⟨g1, 0, none⟩) (n + 1) c1) ∧ (L 11 → L 9 ∧ a.eval (.tmp 9) = .slice (some ⟨g2, 0, none⟩) (m + 1) c2)

theorem ops4_size : ops4.size = 12 := by kernel_rfl
theorem ops4_earlier : Earlier ops4 := by
  have h : (List.range 12).all (fun i => ((ops4[i]?).map (fun o => o.after.all (fun e => e.on < i))).getD true) = true := by kernel_rfl
  intro i o ho e he
  have hi : i < 12 := by
    have := (Array.getElem?_eq_some_iff.1 ho).1
    rwa [ops4_size] at this
  have h1 := List.all_eq_true.1 h i (List.mem_range.2 hi)
  rw [ho] at h1
  simp only [Option.map_some, Option.getD_some, Array.all_eq_true'] at h1
  simpa using h1 e he

set_option maxRecDepth 100000 in
set_option maxHeartbeats 4000000 in
theorem own_region4 (a0 : Act) (w : World) {K : Act → World → Prop} {Q' : Exit → Act → World → Prop} (a b : Option Addr) (n c m d sb : Nat) (A B : List OpE)
    (h1 : a0.eval (.tmp 1) = .slice a n c) (h2 : a0.eval (.tmp 2) = .slice b m d) (h7 : a0.eval (.tmp 7) = .pointer (some ⟨sb, 0, none⟩)) (hz : 53 ≤ a0.tmps.size)
    (hA : IsO w a n c A) (hB : IsO w b m d B) (hn : n ≤ 4096) (hm : m ≤ 4096) (hs : AtS w sb)
    (hK : ∀ v43 v44 v45 v46 v47 v48 v49 v50 v51 v52 g1 c1 g2 c2 w', Hid (RowsO w.heap.size w' [(g2, m + 1, c2, B ++ [spare]), (g1, n + 1, c1, A ++ [spare])] ∧ Below w.heap.size w w') →
      K (puts a0 [(43, v43), (44, v44), (45, v45), (46, v46), (47, v47), (48, v48), (49, v49), (50, v50), (51, v51), (52, v52), (8, .slice (some ⟨g1, 0, none⟩) (n + 1) c1), (9, .slice (some ⟨g2, 0, none⟩) (m + 1) c2)]) w') :
    (Code.region 4 ops4 true).wp Tryd.prog (Exit.then K Q') a0 w := by
  have CA := copy_cp a n c A w hA hn
  have CB := copy_cp b m d B w hB hm
  refine wp_region_inv (by kernel_rfl) ops4_earlier (I4 a0 w (.slice a n c) (.slice b m d) n m A B) ?_ ?_ ?_
  · intro L L' x u i o hI ho hno hall hu
    obtain ⟨hf, hb, τ, ga, ca, q, g1, c1, gb, cb, r, g2, c2, l1, l2, k8, k9⟩ := hI
    have hzx : 53 ≤ x.tmps.size := by rw [hf.sz]; exact hz
    have hsu : AtS u sb := (hb.block _ hs.lt).trans hs
    have e1 : x.eval (.tmp 1) = .slice a n c := (hf.ev (by decide)).trans h1
    have e2 : x.eval (.tmp 2) = .slice b m d := (hf.ev (by decide)).trans h2
    have e7 : x.eval (.tmp 7) = .pointer (some ⟨sb, 0, none⟩) := (hf.ev (by decide)).trans h7
    have hbz := hb.size
    have hi : i < 12 := by
      have := (Array.getElem?_eq_some_iff.1 ho).1
      rwa [ops4_size] at this
    have up : ∀ j, j ≠ i → (L' j ↔ L j) := fun j hj => by rw [hu j]; simp [hj]
    have K8 : ∀ (dd : Nat) (v : Value), dd ≠ 8 → i ≠ 10 → i ≠ 4 → (L' 10 → L' 4 ∧ (x.put (some dd) v).eval (.tmp 8) = .slice (some ⟨g1, 0, none⟩) (n + 1) c1) := fun dd v hd h10 h4 hl => by
      obtain ⟨k1, k2⟩ := k8 ((up _ (Ne.symm h10)).1 hl)
      exact ⟨(up _ (Ne.symm h4)).2 k1, by rw [ev_ne _ _ (Ne.symm hd)]; exact k2⟩
    have K9 : ∀ (dd : Nat) (v : Value), dd ≠ 9 → i ≠ 11 → i ≠ 9 → (L' 11 → L' 9 ∧ (x.put (some dd) v).eval (.tmp 9) = .slice (some ⟨g2, 0, none⟩) (m + 1) c2) := fun dd v hd h10 h4 hl => by
      obtain ⟨k1, k2⟩ := k9 ((up _ (Ne.symm h10)).1 hl)
      exact ⟨(up _ (Ne.symm h4)).2 k1, by rw [ev_ne _ _ (Ne.symm hd)]; exact k2⟩
    have FR := Fr.refl (fun _ => False) u
    have NS : ∀ (j k : Nat), False → τ j ≠ k + 1 ∧ τ j ≠ k + 2 := fun _ _ h => h.elim
    match i, hi with
    | 0, _ =>
      refine op_move ho (.tmp 1) (d := some 43) (by kernel_rfl) ?_
      rw [e1]
      exact ⟨hf.put (by decide) _, hb, τ, ga, ca, q, g1, c1, gb, cb, r, g2, c2, l1.op0 hu (by omega), l2.other _ hu (by omega) (by omega) FR (fun j h => h.elim) (fun _ _ => rfl), K8 _ _ (by decide) (by decide) (by decide), K9 _ _ (by decide) (by decide) (by decide)⟩
    | 1, _ =>
      have d0 : L 0 := dep ho hall 0 (by kernel_rfl)
      refine op_call ho 8 (.tmp 43) 24 (d := some 44) (by kernel_rfl) Tryd.func8 rfl (by kernel_rfl) (R := fun e u' => ∃ ga ca, e = .returned (.slice (some ⟨ga, 0, none⟩) n ca) ∧ Hid (Cp w u u' ga n ca A)) (by rw [l1.e0 d0]; exact CA u hb) ?_
      rintro e u' ⟨g, cg, rfl, hC⟩
      have C := hC.out
      exact ⟨_, rfl, hf.put (by decide) _, C.b0, tagN τ g 1, g, cg, q, g1, c1, gb, cb, r, g2, c2, l1.op1 hu hno (by omega) C.row C.low C.low0 C.bel, l2.other _ hu (by omega) (by omega) (Fr.of_below (S := fun _ => False) C.bel) (fun j h => h.elim) (tagN_old τ C.low), K8 _ _ (by decide) (by decide) (by decide), K9 _ _ (by decide) (by decide) (by decide)⟩
    | 2, _ =>
      refine op_load7 ho (.tmp 7) (d := some 45) (by kernel_rfl) e7 hsu ?_
      exact ⟨hf.put (by decide) _, hb, τ, ga, ca, q, g1, c1, gb, cb, r, g2, c2, l1.op2 hu (by omega), l2.other _ hu (by omega) (by omega) FR (fun j h => h.elim) (fun _ _ => rfl), K8 _ _ (by decide) (by decide) (by decide), K9 _ _ (by decide) (by decide) (by decide)⟩
    | 3, _ =>
      have d2 : L 2 := dep ho hall 2 (by kernel_rfl)
      refine op_build ho (.tmp 45) (d := some 46) (by kernel_rfl) (l1.e2 d2) ?_
      exact ⟨hf.put (by decide) _, below_al hb _, tagN τ u.heap.size 2, ga, ca, u.heap.size, g1, c1, gb, cb, r, g2, c2, l1.op3 hu (by omega), l2.other _ hu (by omega) (by omega) (Fr.alloc (fun _ => False) u _) (fun j h => h.elim) (tagN_old τ (Nat.le_refl _)), K8 _ _ (by decide) (by decide) (by decide), K9 _ _ (by decide) (by decide) (by decide)⟩
    | 4, _ =>
      have d1 : L 1 := dep ho hall 1 (by kernel_rfl)
      have d3 : L 3 := dep ho hall 3 (by kernel_rfl)
      obtain ⟨f1, f2, f3⟩ := fields (d := some 47) (p := Op.call { callee := Callee.builtin Builtin.append, args := #[.tmp 44, .tmp 46], argTypes := #[24, 24] }) ho (by kernel_rfl)
      obtain ⟨r1, r2, r3⟩ := l1.r1 d1 hno
      refine wpOp_step ho fun K' hK' => ?_
      refine step_append_q (w0 := w) (xs := A) f3 (.tmp 44) (.tmp 46) f2 (l1.e1 d1) (l1.e3 d3) r1 (l1.r3 d3).1 hb r3 (by omega) ?_
      intro g cg u' hA4
      have C := hA4.out
      rw [f1]
      refine hK' _ _ ⟨hf.put (by decide) _, C.b0, tagN τ g 1, ga, ca, q, g, cg, gb, cb, r, g2, c2, l1.op4 hu d1 d3 hno (by omega) C.row C.mv C.fr hbz, ?_, fun hl => ?_, K9 _ _ (by decide) (by decide) (by decide)⟩
      · refine l2.other _ hu (by omega) (by omega) C.fr (fun j hj => by subst hj; omega) (fun j hj => ?_)
        rcases C.mv with rfl | hg
        · by_cases hj : j = g
          · subst hj; rw [tagN_new]; exact r2.symm
          · simp [tagN, hj]
        · exact tagN_old τ hg j hj
      · exact absurd (k8 ((up _ (by decide)).1 hl)).1 hno
    | 5, _ =>
      refine op_move ho (.tmp 2) (d := some 48) (by kernel_rfl) ?_
      rw [e2]
      exact ⟨hf.put (by decide) _, hb, τ, ga, ca, q, g1, c1, gb, cb, r, g2, c2, l1.other _ hu (by omega) (by omega) FR (fun j h => h.elim) (fun _ _ => rfl), l2.op0 hu (by omega), K8 _ _ (by decide) (by decide) (by decide), K9 _ _ (by decide) (by decide) (by decide)⟩
    | 6, _ =>
      have d0 : L 5 := dep ho hall 5 (by kernel_rfl)
      refine op_call ho 8 (.tmp 48) 24 (d := some 49) (by kernel_rfl) Tryd.func8 rfl (by kernel_rfl) (R := fun e u' => ∃ ga ca, e = .returned (.slice (some ⟨ga, 0, none⟩) m ca) ∧ Hid (Cp w u u' ga m ca B)) (by rw [l2.e0 d0]; exact CB u hb) ?_
      rintro e u' ⟨g, cg, rfl, hC⟩
      have C := hC.out
      exact ⟨_, rfl, hf.put (by decide) _, C.b0, tagN τ g 6, ga, ca, q, g1, c1, g, cg, r, g2, c2, l1.other _ hu (by omega) (by omega) (Fr.of_below (S := fun _ => False) C.bel) (fun j h => h.elim) (tagN_old τ C.low), l2.op1 hu hno (by omega) C.row C.low C.low0 C.bel, K8 _ _ (by decide) (by decide) (by decide), K9 _ _ (by decide) (by decide) (by decide)⟩
    | 7, _ =>
      refine op_load7 ho (.tmp 7) (d := some 50) (by kernel_rfl) e7 hsu ?_
      exact ⟨hf.put (by decide) _, hb, τ, ga, ca, q, g1, c1, gb, cb, r, g2, c2, l1.other _ hu (by omega) (by omega) FR (fun j h => h.elim) (fun _ _ => rfl), l2.op2 hu (by omega), K8 _ _ (by decide) (by decide) (by decide), K9 _ _ (by decide) (by decide) (by decide)⟩
    | 8, _ =>
      have d2 : L 7 := dep ho hall 7 (by kernel_rfl)
      refine op_build ho (.tmp 50) (d := some 51) (by kernel_rfl) (l2.e2 d2) ?_
      exact ⟨hf.put (by decide) _, below_al hb _, tagN τ u.heap.size 7, ga, ca, q, g1, c1, gb, cb, u.heap.size, g2, c2, l1.other _ hu (by omega) (by omega) (Fr.alloc (fun _ => False) u _) (fun j h => h.elim) (tagN_old τ (Nat.le_refl _)), l2.op3 hu (by omega), K8 _ _ (by decide) (by decide) (by decide), K9 _ _ (by decide) (by decide) (by decide)⟩
    | 9, _ =>
      have d1 : L 6 := dep ho hall 6 (by kernel_rfl)
      have d3 : L 8 := dep ho hall 8 (by kernel_rfl)
      obtain ⟨f1, f2, f3⟩ := fields (d := some 52) (p := Op.call { callee := Callee.builtin Builtin.append, args := #[.tmp 49, .tmp 51], argTypes := #[24, 24] }) ho (by kernel_rfl)
      obtain ⟨r1, r2, r3⟩ := l2.r1 d1 hno
      refine wpOp_step ho fun K' hK' => ?_
      refine step_append_q (w0 := w) (xs := B) f3 (.tmp 49) (.tmp 51) f2 (l2.e1 d1) (l2.e3 d3) r1 (l2.r3 d3).1 hb r3 (by omega) ?_
      intro g cg u' hA4
      have C := hA4.out
      rw [f1]
      refine hK' _ _ ⟨hf.put (by decide) _, C.b0, tagN τ g 6, ga, ca, q, g1, c1, gb, cb, r, g, cg, ?_, l2.op4 hu d1 d3 hno (by omega) C.row C.mv C.fr hbz, K8 _ _ (by decide) (by decide) (by decide), fun hl => ?_⟩
      · refine l1.other _ hu (by omega) (by omega) C.fr (fun j hj => by subst hj; omega) (fun j hj => ?_)
        rcases C.mv with rfl | hg
        · by_cases hj : j = g
          · subst hj; rw [tagN_new]; exact r2.symm
          · simp [tagN, hj]
        · exact tagN_old τ hg j hj
      · exact absurd (k9 ((up _ (by decide)).1 hl)).1 hno
    | 10, _ =>
      have d4 : L 4 := dep ho hall 4 (by kernel_rfl)
      refine op_assign ho (.tmp 47) (d := some 8) (by kernel_rfl) ?_
      rw [l1.e4 d4]
      exact ⟨hf.put (by decide) _, hb, τ, ga, ca, q, g1, c1, gb, cb, r, g2, c2, l1.other _ hu (by omega) (by omega) FR (fun j h => h.elim) (fun _ _ => rfl), l2.other _ hu (by omega) (by omega) FR (fun j h => h.elim) (fun _ _ => rfl), fun _ => ⟨(up _ (by decide)).2 d4, ev_eq _ _ (by omega)⟩, K9 _ _ (by decide) (by decide) (by decide)⟩
    | 11, _ =>
      have d4 : L 9 := dep ho hall 9 (by kernel_rfl)
      refine op_assign ho (.tmp 52) (d := some 9) (by kernel_rfl) ?_
      rw [l2.e4 d4]
      exact ⟨hf.put (by decide) _, hb, τ, ga, ca, q, g1, c1, gb, cb, r, g2, c2, l1.other _ hu (by omega) (by omega) FR (fun j h => h.elim) (fun _ _ => rfl), l2.other _ hu (by omega) (by omega) FR (fun j h => h.elim) (fun _ _ => rfl), K8 _ _ (by decide) (by decide) (by decide), fun _ => ⟨(up _ (by decide)).2 d4, ev_eq _ _ (by omega)⟩⟩
    | i + 12, hi => omega
  · intro L x u hI hall
    rw [ops4_size] at hall
    obtain ⟨hf, hb, τ, ga, ca, q, g1, c1, gb, cb, r, g2, c2, l1, l2, k8, k9⟩ := hI
    obtain ⟨r1, r2, r3⟩ := l1.r4 (hall 4 (by decide))
    obtain ⟨s1, s2, s3⟩ := l2.r4 (hall 9 (by decide))
    have hne : g1 ≠ g2 := fun he => by rw [he] at r2; omega
    have := hK (x.eval (.tmp 43)) (x.eval (.tmp 44)) (x.eval (.tmp 45)) (x.eval (.tmp 46)) (x.eval (.tmp 47)) (x.eval (.tmp 48)) (x.eval (.tmp 49)) (x.eval (.tmp 50)) (x.eval (.tmp 51)) (x.eval (.tmp 52)) g1 c1 g2 c2 u ⟨⟨fun e he => ?_, fun e he => ?_, ?_⟩, hb⟩
    · have hp := Fe.puts [(43, x.eval (.tmp 43)), (44, x.eval (.tmp 44)), (45, x.eval (.tmp 45)), (46, x.eval (.tmp 46)), (47, x.eval (.tmp 47)), (48, x.eval (.tmp 48)), (49, x.eval (.tmp 49)), (50, x.eval (.tmp 50)), (51, x.eval (.tmp 51)), (52, x.eval (.tmp 52)), (8, .slice (some ⟨g1, 0, none⟩) (n + 1) c1), (9, .slice (some ⟨g2, 0, none⟩) (m + 1) c2)] a0 x hf (by
        intro p hp
        simp only [List.mem_cons, List.not_mem_nil, or_false] at hp
        rcases hp with rfl | rfl | rfl | rfl | rfl | rfl | rfl | rfl | rfl | rfl | rfl | rfl
        all_goals first | exact ⟨by show _ < _; simp only; omega, rfl⟩ | exact ⟨by show _ < _; simp only; omega, (k8 (hall 10 (by decide))).2⟩ | exact ⟨by show _ < _; simp only; omega, (k9 (hall 11 (by decide))).2⟩)
      rw [← hp] at this
      exact this
    · simp only [List.mem_cons, List.not_mem_nil, or_false] at he
      rcases he with rfl | rfl
      · exact s1
      · exact r1
    · simp only [List.mem_cons, List.not_mem_nil, or_false] at he
      rcases he with rfl | rfl
      · exact s3
      · exact r3
    · simp
      exact Ne.symm hne
  · intro L hL
    refine ⟨Fe.refl _ _, (Below.refl _ _).drew, fun _ => 0, 0, 0, 0, 0, 0, 0, 0, 0, 0, 0, ?_, ?_, fun h => absurd h (hL _), fun h => absurd h (hL _)⟩
    · exact ⟨fun h => absurd h (hL _), fun h => absurd h (hL _), fun h => absurd h (hL _), fun h => absurd h (hL _), fun h => absurd h (hL _), fun h => absurd h (hL _), fun h => absurd h (hL _), fun h => absurd h (hL _), fun h => absurd h (hL _)⟩
    · exact ⟨fun h => absurd h (hL _), fun h => absurd h (hL _), fun h => absurd h (hL _), fun h => absurd h (hL _), fun h => absurd h (hL _), fun h => absurd h (hL _), fun h => absurd h (hL _), fun h => absurd h (hL _), fun h => absurd h (hL _)⟩

end Go.Proofs.YtmkgkgdngjmcmabDoor
