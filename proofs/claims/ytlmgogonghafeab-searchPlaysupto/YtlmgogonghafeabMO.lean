/-
  Texts put together: Gk Gl.
-/
import Derived.Test.YtlmgogonghafeabGj
/-! Gk -/
namespace Go.Proofs.Ytlmgogonghafeab
open Go.RowKit Go.Lib
set_option linter.unusedVariables false

theorem obj_ty {w : World} {k : Nat} {c c' : Array Value} {t t' : TypeId} {f f' : Nat × Nat} (h : w.heap[k]? = some (.cells c t f)) (h' : w.heap[k]? = some (.cells c' t' f')) : t = t' := by
  rw [h] at h'
  injection h' with h'
  injection h' with h1 h2 h3
theorem long_len : ∀ ps : List Pc, (∀ q ∈ ps, 0 < q.bs.length ∧ q.bs.length ≤ 128) → ps.length ≤ (txP ps).length := by
  intro ps
  induction ps with
  | nil => intro _; simp
  | cons q ps ih =>
    intro h
    have h1 := ih (fun r hr => h r (List.mem_cons_of_mem _ hr))
    have h2 := (h q (by simp)).1
    have : txP (q :: ps) = q.bs ++ txP ps := by simp [txP]
    rw [this, List.length_append, List.length_cons]
    omega
theorem tx_mid (A B : List Pc) (q : Pc) : txP (A ++ q :: B) = txP A ++ (q.bs ++ txP B) := by
  rw [txP_app, show q :: B = [q] ++ B from rfl, txP_app, txP_one]
theorem ins_tx (P Q R : By) (c : UInt8) (i : Nat) (hi : i ≤ Q.length) : (P ++ (Q ++ R)).take (P.length + i) ++ c :: (P ++ (Q ++ R)).drop (P.length + i) = P ++ ((Q.take i ++ c :: Q.drop i) ++ R) := by
  rw [List.take_append, List.drop_append, List.take_append, List.drop_append]
  simp [List.take_of_length_le, List.drop_of_length_le, show P.length ≤ P.length + i by omega, show P.length + i - P.length = i by omega, show i - Q.length = 0 by omega]
theorem del_tx (P Q R : By) (i : Nat) (hi : i < Q.length) : (P ++ (Q ++ R)).take (P.length + i) ++ (P ++ (Q ++ R)).drop (P.length + i + 1) = P ++ ((Q.take i ++ Q.drop (i + 1)) ++ R) := by
  rw [List.take_append, List.drop_append, List.take_append, List.drop_append]
  simp [List.take_of_length_le, List.drop_of_length_le, show P.length ≤ P.length + i by omega, show P.length ≤ P.length + i + 1 by omega, show P.length + i - P.length = i by omega, show P.length + i + 1 - P.length = i + 1 by omega, show i - Q.length = 0 by omega, show i + 1 - Q.length = 0 by omega]

section
variable {w W1 W2 W3 W4 : World} {x g : Nat} {sz : Int} {v : Value} {A B : List Pc} {q q' : Pc}
theorem PcS.ne (h : PcS w x sz (some g) v (A ++ q :: B)) : x ≠ g ∧ x ≠ q.b ∧ g ≠ q.b ∧ (∀ r, r ∈ A ∨ r ∈ B → x ≠ r.b ∧ g ≠ r.b) := by
  obtain ⟨cs, hg⟩ := SF.tyB h.row g rfl
  have hq : ∀ r ∈ A ++ q :: B, x ≠ r.b ∧ g ≠ r.b := by
    intro r hr
    obtain ⟨cs2, f, hb⟩ := (h.all r hr).ty
    constructor
    · intro e
      have hi := h.idx
      rw [e] at hi
      have := obj_ty hi hb
      simp at this
    · intro e
      rw [e] at hg
      have := obj_ty hg hb
      simp at this
  refine ⟨fun e => ?_, (hq q (by simp)).1, (hq q (by simp)).2, fun r hr => hq r (by rcases hr with hr | hr <;> simp [hr])⟩
  have hi := h.idx
  rw [e] at hi
  have := obj_ty hi hg
  simp at this

theorem put_in (h : PcS w x sz (some g) v (A ++ q :: B)) (b1 : Below w.heap.size w W1) (hN : NowQ W1 W2 q q') (hl : 0 < q'.bs.length ∧ q'.bs.length ≤ 128) :
    PcS (W2.setCell ⟨g, A.length, none⟩ q'.val) x sz (some g) v (A ++ q' :: B) ∧ Fr (Ow x (some g) (A ++ q :: B)) w (W2.setCell ⟨g, A.length, none⟩ q'.val) ∧ ∀ k, Ow x (some g) (A ++ q' :: B) k → Ow x (some g) (A ++ q :: B) k ∨ w.heap.size ≤ k := by
  have F1 : Fr (fun _ => False) w W1 := Fr.of_below b1
  have h1 : PcS W1 x sz (some g) v (A ++ q :: B) := h.fr F1 (fun _ _ h => h)
  obtain ⟨n1, n2, n3, n4⟩ := h.ne
  have F2 := hN.frame
  have F3 : Fr (· = g) W2 (W2.setCell ⟨g, A.length, none⟩ q'.val) := Fr.setCell _ _ _ rfl
  have hq'b : q'.b = q.b ∨ W1.heap.size ≤ q'.b := by
    rcases hN.how with ⟨e, -⟩ | ⟨e, -⟩
    · exact .inl e
    · exact .inr e
  have hgl : g < W1.heap.size := by
    obtain ⟨cs, hg⟩ := SF.tyB h1.row g rfl
    exact block_lt hg
  have hg' : g ≠ q'.b := by
    rcases hq'b with e | e
    · rw [e]; exact n3
    · omega
  have hal : ∀ r, r ∈ A ∨ r ∈ B → PcO (W2.setCell ⟨g, A.length, none⟩ q'.val) r := fun r hr =>
    (hN.others (h1.all r (by rcases hr with hr | hr <;> simp [hr])) (pair_of h1.two r hr)).fr F3 (fun e => (n4 r hr).2 e.symm)
  refine ⟨⟨F3.keeps (F2.keeps h1.idx n2) n1, ?_, ?_, ?_, ?_⟩, ?_, ?_⟩
  · obtain ⟨cap, hv, hR⟩ := h1.row
    have e : (A ++ q' :: B).length = (A ++ q :: B).length := by simp
    refine ⟨cap, by rw [e]; exact hv, ?_⟩
    rw [e]
    exact (hR.fr F2 n3).put
  · intro r hr
    rcases List.mem_append.1 hr with hr | hr
    · exact hal r (.inl hr)
    · rcases List.mem_cons.1 hr with rfl | hr
      · exact hN.own.fr F3 (fun e => hg' e.symm)
      · exact hal r (.inr hr)
  · intro r hr
    rcases List.mem_append.1 hr with hr | hr
    · exact h.long r (by simp [hr])
    · rcases List.mem_cons.1 hr with rfl | hr
      · exact hl
      · exact h.long r (by simp [hr])
  · exact pair_swap (X := [q']) h.two (List.pairwise_singleton _ _) (fun r hr y hy => by
      rw [List.mem_singleton] at hy
      subst hy
      exact hN.aprt (h1.all r (by rcases hr with hr | hr <;> simp [hr])) (pair_of h1.two r hr))
  · refine (F1.mono (fun _ _ h => h.elim)).trans (S := Ow x (some g) (A ++ q :: B)) ((F2.mono (fun k _ hk => ?_)).trans (F3.mono (fun k _ hk => ?_)))
    · exact .inr (.inr ⟨q, by simp, hk.symm⟩)
    · exact .inr (.inl (by rw [hk]))
  · intro k hk
    rcases hk with rfl | hk | ⟨r, hr, rfl⟩
    · exact .inl (.inl rfl)
    · exact .inl (.inr (.inl hk))
    · rcases List.mem_append.1 hr with hr | hr
      · exact .inl (.inr (.inr ⟨r, by simp [hr], rfl⟩))
      · rcases List.mem_cons.1 hr with rfl | hr
        · rcases hq'b with e | e
          · exact .inl (.inr (.inr ⟨q, by simp, e.symm⟩))
          · exact .inr (Nat.le_trans b1.size e)
        · exact .inl (.inr (.inr ⟨r, by simp [hr], rfl⟩))

theorem put_two (n g' : Nat) (v' : Value) (h : PcS w x sz (some g) v (A ++ q :: B)) (b1 : Below w.heap.size w W1) (hN : NowQ W1 W2 q q') (hn : 0 < n ∧ n ≤ 128) (hl : n < q'.bs.length ∧ q'.bs.length - n ≤ 128) (b3 : Below W2.heap.size W2 W3)
    (hS : SF pcv 1 W4 35 (some g') v' (A ++ ⟨q'.b, q'.off, n, q'.bs.take n⟩ :: ⟨q'.b, q'.off + n, q'.bs.length - n, q'.bs.drop n⟩ :: B)) (hg' : g' = g ∨ W3.heap.size ≤ g') (F4 : Fr (· = g) W3 W4) :
    PcS (W4.setCell ⟨x, 0, none⟩ v') x sz (some g') v' (A ++ ⟨q'.b, q'.off, n, q'.bs.take n⟩ :: ⟨q'.b, q'.off + n, q'.bs.length - n, q'.bs.drop n⟩ :: B) ∧ Fr (Ow x (some g) (A ++ q :: B)) w (W4.setCell ⟨x, 0, none⟩ v') ∧
      ∀ k, Ow x (some g') (A ++ ⟨q'.b, q'.off, n, q'.bs.take n⟩ :: ⟨q'.b, q'.off + n, q'.bs.length - n, q'.bs.drop n⟩ :: B) k → Ow x (some g) (A ++ q :: B) k ∨ w.heap.size ≤ k := by
  have F1 : Fr (fun _ => False) w W1 := Fr.of_below b1
  have h1 : PcS W1 x sz (some g) v (A ++ q :: B) := h.fr F1 (fun _ _ h => h)
  obtain ⟨n1, n2, n3, n4⟩ := h.ne
  have F2 := hN.frame
  have F3 : Fr (fun _ => False) W2 W3 := Fr.of_below b3
  have F5 : Fr (· = x) W4 (W4.setCell ⟨x, 0, none⟩ v') := Fr.setCell _ _ _ rfl
  have hq'b : q'.b = q.b ∨ W1.heap.size ≤ q'.b := by
    rcases hN.how with ⟨e, -⟩ | ⟨e, -⟩
    · exact .inl e
    · exact .inr e
  have hgl : g < W1.heap.size := by
    obtain ⟨cs, hg⟩ := SF.tyB h1.row g rfl
    exact block_lt hg
  have hxl : x < W1.heap.size := block_lt h1.idx
  have hgq' : g ≠ q'.b := by
    rcases hq'b with e | e
    · rw [e]; exact n3
    · omega
  have hxq' : x ≠ q'.b := by
    rcases hq'b with e | e
    · rw [e]; exact n2
    · omega
  have hxg' : x ≠ g' := by
    rcases hg' with e | e
    · rw [e]; exact n1
    · have := F2.size; have := F3.size; omega
  have hcap := hN.own.le
  have hq4 : PcO W4 q' := (hN.own.fr F3 (fun h => h)).fr F4 (fun e => hgq' e.symm)
  have hq5 : PcO (W4.setCell ⟨x, 0, none⟩ v') q' := hq4.fr F5 (fun e => hxq' e.symm)
  obtain ⟨p1, p2⟩ := hq5.halves n (by omega)
  have hal : ∀ r, r ∈ A ∨ r ∈ B → PcO (W4.setCell ⟨x, 0, none⟩ v') r := fun r hr =>
    (((hN.others (h1.all r (by rcases hr with hr | hr <;> simp [hr])) (pair_of h1.two r hr)).fr F3 (fun h => h)).fr F4 (fun e => (n4 r hr).2 e.symm)).fr F5 (fun e => (n4 r hr).1 e.symm)
  have hap : ∀ r, r ∈ A ∨ r ∈ B → Aprt q' r := fun r hr => hN.aprt (h1.all r (by rcases hr with hr | hr <;> simp [hr])) (pair_of h1.two r hr)
  have hidx : (W4.setCell ⟨x, 0, none⟩ v').heap[x]? = some (.cells #[v', .int .i64 sz] 60 (0, 0)) := by
    have h4 : W4.heap[x]? = some (.cells #[v, .int .i64 sz] 60 (0, 0)) := F4.keeps (F3.keeps (F2.keeps h1.idx n2) (fun h => h)) n1
    have := set_row h4 0 v'
    simpa using this
  have hmem : ∀ r, r ∈ A ++ ⟨q'.b, q'.off, n, q'.bs.take n⟩ :: ⟨q'.b, q'.off + n, q'.bs.length - n, q'.bs.drop n⟩ :: B → (r ∈ A ∨ r ∈ B) ∨ r = ⟨q'.b, q'.off, n, q'.bs.take n⟩ ∨ r = ⟨q'.b, q'.off + n, q'.bs.length - n, q'.bs.drop n⟩ := by
    intro r hr
    simp only [List.mem_append, List.mem_cons] at hr
    rcases hr with hr | hr | hr | hr
    · exact .inl (.inl hr)
    · exact .inr (.inl hr)
    · exact .inr (.inr hr)
    · exact .inl (.inr hr)
  refine ⟨⟨hidx, hS.fr F5 (fun k hk e => by cases hk; exact hxg' e.symm), ?_, ?_, ?_⟩, ?_, ?_⟩
  · intro r hr
    rcases hmem r hr with hr | rfl | rfl
    · exact hal r hr
    · exact p1
    · exact p2
  · intro r hr
    rcases hmem r hr with hr | rfl | rfl
    · exact h.long r (by rcases hr with hr | hr <;> simp [hr])
    · simp
      omega
    · simp
      omega
  · have := pair_swap (X := [⟨q'.b, q'.off, n, q'.bs.take n⟩, ⟨q'.b, q'.off + n, q'.bs.length - n, q'.bs.drop n⟩]) h.two (by
      rw [List.pairwise_cons]
      refine ⟨fun r hr => ?_, List.pairwise_singleton _ _⟩
      rw [List.mem_singleton] at hr
      subst hr
      exact .inr (.inl (Nat.le_refl _))) (fun r hr y hy => by
      obtain ⟨a1, a2⟩ := (hap r hr).halves n (by omega) hcap
      rcases List.mem_cons.1 hy with rfl | hy
      · exact a1
      · rw [List.mem_singleton] at hy
        subst hy
        exact a2)
    simpa using this
  · refine (F1.mono (fun _ _ h => h.elim)).trans (S := Ow x (some g) (A ++ q :: B)) ((F2.mono (fun k _ hk => ?_)).trans ((F3.mono (fun _ _ h => h.elim)).trans ((F4.mono (fun k _ hk => ?_)).trans (F5.mono (fun k _ hk => ?_)))))
    · exact .inr (.inr ⟨q, by simp, hk.symm⟩)
    · exact .inr (.inl (by rw [hk]))
    · exact .inl hk
  · have hs1 := b1.size
    have hs2 := F2.size
    have hs3 := F3.size
    intro k hk
    rcases hk with rfl | hk | ⟨r, hr, rfl⟩
    · exact .inl (.inl rfl)
    · cases hk
      rcases hg' with e | e
      · exact .inl (.inr (.inl (by rw [e])))
      · exact .inr (by omega)
    · have hq0 : Ow x (some g) (A ++ q :: B) q'.b ∨ w.heap.size ≤ q'.b := by
        rcases hq'b with e | e
        · exact .inl (.inr (.inr ⟨q, by simp, e.symm⟩))
        · exact .inr (by omega)
      rcases hmem r hr with hr | rfl | rfl
      · exact .inl (.inr (.inr ⟨r, by rcases hr with hr | hr <;> simp [hr], rfl⟩))
      · exact hq0
      · exact hq0
end
end Go.Proofs.Ytlmgogonghafeab

/-! Gl -/
namespace Go.Proofs.Ytlmgogonghafeab
open Go.RowKit Go.Lib
set_option linter.unusedVariables false

/-- What put leaves. -/
def PutR (w w' : World) (x : Nat) (sz : Int) (β : Option Nat) (ps : List Pc) (T : By) : Prop :=
  ∃ β' v' ps', PcS w' x sz β' v' ps' ∧ txP ps' = T ∧ Fr (Ow x β ps) w w' ∧ ∀ k, Ow x β' ps' k → Ow x β ps k ∨ w.heap.size ≤ k

/-- How long the pieces ahead of k are. -/
def lnP (ps : List Pc) (k : Nat) : Nat := (txP (ps.take k)).length
theorem lnP_zero (ps : List Pc) : lnP ps 0 = 0 := by simp [lnP, txP]
theorem lnP_succ {ps : List Pc} {k : Nat} (hk : k < ps.length) : lnP ps (k + 1) = lnP ps k + ps[k].bs.length := by
  unfold lnP
  rw [txP_succ hk, List.length_append]
theorem lnP_all (ps : List Pc) (k : Nat) (hk : ps.length ≤ k) : lnP ps k = (txP ps).length := by
  unfold lnP
  rw [List.take_of_length_le hk]
theorem lnP_le (ps : List Pc) (k : Nat) : lnP ps k ≤ (txP ps).length := by
  unfold lnP
  have := txP_app (ps.take k) (ps.drop k)
  rw [List.take_append_drop] at this
  rw [this, List.length_append]
  omega

theorem put_nil_done (x : Nat) (sz : Int) (β : Option Nat) (v : Value) (c : UInt8) (w W0 W1 W2 : World) (h : PcS w x sz β v []) (h0 : W0 = w.setCell ⟨x, 0, none⟩ (.slice (some ⟨w.heap.size + 1, 0, none⟩) 1 1)) (h1 : W1 = W0.alloc (.cells #[ub c] 5)) (h2 : W2 = W1.alloc (.cells #[.slice (some ⟨w.heap.size, 0, none⟩) 1 1] 35)) :
    PutR w W2 x sz β [] [c] := by
  have F0 : Fr (· = x) w W0 := by rw [h0]; exact Fr.setCell _ _ _ rfl
  have hs0 : W0.heap.size = w.heap.size := by rw [h0]; simp
  have b1 : Below W0.heap.size W0 W1 := by rw [h1]; exact (Below.refl _ _).alloc (Nat.le_refl _) _
  have b2 : Below W1.heap.size W1 W2 := by rw [h2]; exact (Below.refl _ _).alloc (Nat.le_refl _) _
  have hs1 : W1.heap.size = w.heap.size + 1 := by rw [h1]; simp; exact hs0
  have hx := block_lt h.idx
  have c1 : W2.heap[w.heap.size]? = some (.cells #[ub c] 5 (0, 0)) := by
    rw [b2.block _ (by omega), h1, ← hs0]
    exact heap_alloc_new W0 _
  have c2 : W2.heap[w.heap.size + 1]? = some (.cells #[.slice (some ⟨w.heap.size, 0, none⟩) 1 1] 35 (0, 0)) := by
    rw [h2, ← hs1]
    exact heap_alloc_new W1 _
  have c3 : W2.heap[x]? = some (.cells #[.slice (some ⟨w.heap.size + 1, 0, none⟩) 1 1, .int .i64 sz] 60 (0, 0)) := by
    rw [b2.block _ (by omega), b1.block _ (by omega), h0]
    have := set_row h.idx 0 (.slice (some ⟨w.heap.size + 1, 0, none⟩) 1 1)
    simpa using this
  refine ⟨some (w.heap.size + 1), .slice (some ⟨w.heap.size + 1, 0, none⟩) 1 1, [⟨w.heap.size, 0, 1, [c]⟩], ⟨c3, ⟨1, rfl, ?_⟩, ?_, ?_, List.pairwise_singleton _ _⟩, rfl, ?_, ?_⟩
  · exact ⟨[.slice (some ⟨w.heap.size, 0, none⟩) 1 1], c2, rfl, rfl, Nat.le_refl _, by decide, rfl⟩
  · intro r hr
    rw [List.mem_singleton] at hr
    subst hr
    exact ⟨(0, 0), [], [], [], ⟨c1, .inl rfl⟩, rfl, rfl, by simp⟩
  · intro r hr
    rw [List.mem_singleton] at hr
    subst hr
    exact ⟨Nat.zero_lt_one, by simp⟩
  · exact (F0.mono (fun k _ hk => .inl hk)).trans ((Fr.of_below b1).trans (Fr.of_below b2))
  · intro k hk
    rcases hk with rfl | hk | ⟨r, hr, rfl⟩
    · exact .inl (.inl rfl)
    · cases hk
      exact .inr (by omega)
    · rw [List.mem_singleton] at hr
      subst hr
      exact .inr (Nat.le_refl _)

set_option maxRecDepth 100000 in
set_option maxHeartbeats 4000000 in
theorem put_nil (x : Nat) (sz : Int) (β : Option Nat) (v : Value) (pos : Int) (c : UInt8) (w : World) (h : PcS w x sz β v []) :
    Calls Try.prog 22 #[.pointer (some ⟨x, 0, none⟩), .int .i64 pos, ub c] w fun e w' => e = .returned (.tuple #[]) ∧ PutR w w' x sz β [] [c] := by
  obtain ⟨a, cap, rfl, -, -⟩ := h.row.form
  simp only [List.length_nil] at h ⊢
  have c0 : w.cell? ⟨x, 0, none⟩ = some (.slice a 0 cap) := by have := cell_row h.idx 0; simpa using this
  have c0f : w.frozen? ⟨x, 0, none⟩ = false := frozen_row h.idx 0
  have Z := hd (put_nil_done x sz β _ c w _ _ _ h rfl rfl rfl)
  have hx := block_lt h.idx
  unfold ub at *
  clear h
  go_enter Try.func22, Try.ntmps22
  go_wp2
  refine bodyPost_ret (results_none rfl _ _ _) rfl ?_
  exact ⟨rfl, Z.out⟩
end Go.Proofs.Ytlmgogonghafeab
