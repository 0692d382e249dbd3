/-
  The two boards' calls, side by side: the same answers, the same notes.
-/
import Derived.Test.YtkkklfnooeofcabXe
import Derived.Test.YtkkklfnooeofcabXg
import Derived.Test.YtkkklfnooeofcabMXi
namespace Go.Proofs.Ytkkklfnooeofcab
open Go.RowKit
set_option linter.unusedVariables false

theorem NowB.refl {w : World} {O : Nat → Prop} {r g : Nat} {Ns : List Nt} (h : BD w O r g Ns) : NowB w w O r g Ns := ⟨O, h, fun _ h => .inl h, Fr.refl _ _⟩
theorem NowR.refl {w : World} {O : Nat → Prop} {r g : Nat} {Ns : List Nt} (h : RBD w O r g Ns) : NowR w w O r g Ns := ⟨O, h, fun _ h => .inl h, Fr.refl _ _⟩

theorem put_both (g : Nat) (Ns : List Nt) (n : Nat) (xs : List El) (f t cc : Int) (s : ByteArray) (hwf : ∀ x ∈ xs, wfE x) (hn : n ≤ 900000) (hsz : s.size ≤ 9223372036854775807) (hg : g ≤ 256) :
    ∃ (id er : Int) (g' : Nat) (Ns' : List Nt),
      (∀ W O q a c, RBD W O q g Ns → IsE W a n c xs → Calls Try.prog 32 #[.pointer (some ⟨q, 0, none⟩), .slice a n c, .int .i64 f, .int .i64 t, .int .i64 cc, .string s] W fun e w' => e = .returned (.tuple #[.int .i64 id, .int .i64 er]) ∧ NowR W w' O q g' Ns') ∧
      (∀ W O r a c, BD W O r g Ns → IsE W a n c xs → Calls Try.prog 10 #[.pointer (some ⟨r, 0, none⟩), .slice a n c, .int .i64 f, .int .i64 t, .int .i64 cc, .string s] W fun e w' => e = .returned (.tuple #[.int .i64 id, .int .i64 er]) ∧ NowB W w' O r g' Ns') ∧
      ∀ M, (∀ m ∈ Ns, m.sd.length ≤ M) → ∀ m ∈ Ns', m.sd.length ≤ M := by
  by_cases hsp : f < 0 ∨ (n : Int) < t ∨ t ≤ f
  · exact ⟨0, 230, g, Ns, fun W O q a c hB hE => (rput_span q a n c f t cc s W (by omega) hsp).mono fun e w' ⟨h1, h2⟩ => ⟨h1, by subst h2; exact NowR.refl hB⟩,
      fun W O r a c hB hE => (put_span r a n c f t cc s W (by omega) hsp).mono fun e w' ⟨h1, h2⟩ => ⟨h1, by subst h2; exact NowB.refl hB⟩, fun M h => h⟩
  obtain ⟨f', rfl⟩ : ∃ f' : Nat, f = (f' : Int) := ⟨f.toNat, by omega⟩
  obtain ⟨t', rfl⟩ : ∃ t' : Nat, t = (t' : Int) := ⟨t.toNat, by omega⟩
  by_cases hs : sayE cc s = 0
  · by_cases hg2 : g = 256
    · subst hg2
      exact ⟨0, 234, 256, Ns, fun W O q a c hB hE => (rput_full O q Ns a n c f' t' cc s W hB (by omega) (by omega) (by omega) hsz hs).mono fun e w' ⟨h1, h2⟩ => ⟨h1, by subst h2; exact NowR.refl hB⟩,
        fun W O r a c hB hE => (put_full O r Ns W hB a n c f' t' (by omega) (by omega) cc s hs hsz).mono fun e w' ⟨h1, h2⟩ => ⟨h1, by subst h2; exact NowB.refl hB⟩, fun M h => h⟩
    · refine ⟨((g + 1 : Nat) : Int), 0, g + 1, Ns ++ [⟨g + 1, cc, s, false, [], (xs.drop f').take (t' - f')⟩], fun W O q a c hB hE => rput_good O q g Ns W hB a n c xs hE hwf f' t' (by omega) (by omega) cc s hs hsz (by omega) (roomy24 _ (by omega)),
        fun W O r a c hB hE => put_good O r g Ns W hB a n c xs hE hwf f' t' (by omega) (by omega) cc s hs hsz (by omega) (roomy24 _ (by omega)), fun M h m hm => ?_⟩
      rcases List.mem_append.1 hm with hm | hm
      · exact h m hm
      · rw [List.mem_singleton.1 hm]
        exact Nat.zero_le _
  · exact ⟨0, sayE cc s, g, Ns, fun W O q a c hB hE => (rput_say q a n c f' t' cc s W (by omega) (by omega) (by omega) hsz hs).mono fun e w' ⟨h1, h2⟩ => ⟨h1, by subst h2; exact NowR.refl hB⟩,
      fun W O r a c hB hE => (put_say r a n c f' t' cc s W (by omega) (by omega) (by omega) hsz hs).mono fun e w' ⟨h1, h2⟩ => ⟨h1, by subst h2; exact NowB.refl hB⟩, fun M h => h⟩

theorem mid_sd {A B : List Nt} {n n' : Nt} {M M' : Nat} (h : ∀ m ∈ A ++ n :: B, m.sd.length ≤ M) (hM : M ≤ M') (hn : n.sd.length ≤ M → n'.sd.length ≤ M') : ∀ m ∈ A ++ n' :: B, m.sd.length ≤ M' := by
  intro m hm
  rcases List.mem_append.1 hm with hm | hm
  · exact Nat.le_trans (h m (List.mem_append_left _ hm)) hM
  · rcases List.mem_cons.1 hm with hm | hm
    · subst hm
      exact hn (h n (by simp))
    · exact Nat.le_trans (h m (List.mem_append_right _ (List.mem_cons_of_mem _ hm))) hM

theorem reply_both (g : Nat) (Ns : List Nt) (k cc : Int) (s : ByteArray) (M : Nat) (hM : ∀ m ∈ Ns, m.sd.length ≤ M) (hM2 : M ≤ 400000) (hk : -9223372036854775808 ≤ k ∧ k ≤ 9223372036854775807) (hsz : s.size ≤ 9223372036854775807) :
    ∃ (er : Int) (Ns' : List Nt),
      (∀ W O q, RBD W O q g Ns → Calls Try.prog 33 #[.pointer (some ⟨q, 0, none⟩), .int .i64 k, .int .i64 cc, .string s] W fun e w' => e = .returned (.int .i64 er) ∧ NowR W w' O q g Ns') ∧
      (∀ W O r, BD W O r g Ns → Calls Try.prog 34 #[.pointer (some ⟨r, 0, none⟩), .int .i64 k, .int .i64 cc, .string s] W fun e w' => e = .returned (.int .i64 er) ∧ NowB W w' O r g Ns') ∧
      ∀ m ∈ Ns', m.sd.length ≤ M + 1 := by
  have up : ∀ m ∈ Ns, m.sd.length ≤ M + 1 := fun m hm => Nat.le_succ_of_le (hM m hm)
  by_cases hh : ∃ n ∈ Ns, (n.id : Int) = k
  · obtain ⟨n, hn, rfl⟩ := hh
    obtain ⟨A, B, rfl⟩ := List.append_of_mem hn
    by_cases hs : sayE cc s = 0
    · cases hsh : n.sh with
      | true =>
        exact ⟨233, _, fun W O q hB => (rreply_shut O q g A B n cc s W hB hsz hs hsh).mono fun e w' ⟨h1, h2⟩ => ⟨h1, by subst h2; exact NowR.refl hB⟩,
          fun W O r hB => (reply_shut O r g A B n cc s W hB hsz hs hsh).mono fun e w' ⟨h1, h2⟩ => ⟨h1, by subst h2; exact NowB.refl hB⟩, up⟩
      | false =>
        have hr : roomy (n.sd.length + 1) 24 := roomy24 _ (by have := hM n hn; omega)
        exact ⟨0, _, fun W O q hB => rreply_good O q g A B n cc s W hB hsz hs hsh hr, fun W O r hB => reply_good O r g A B n cc s W hB hsz hs hsh hr, mid_sd hM (Nat.le_succ _) (fun h => by simp; exact h)⟩
    · exact ⟨sayE cc s, _, fun W O q hB => (rreply_say O q g A B n cc s W hB hsz hs).mono fun e w' ⟨h1, h2⟩ => ⟨h1, by subst h2; exact NowR.refl hB⟩,
        fun W O r hB => (reply_say O r g A B n cc s W hB hsz hs).mono fun e w' ⟨h1, h2⟩ => ⟨h1, by subst h2; exact NowB.refl hB⟩, up⟩
  · have hno : ∀ n ∈ Ns, (n.id : Int) ≠ k := fun n hn e => hh ⟨n, hn, e⟩
    exact ⟨232, Ns, fun W O q hB => (rreply_none O q g Ns k cc s W hB hno).mono fun e w' ⟨h1, h2⟩ => ⟨h1, by subst h2; exact NowR.refl hB⟩,
      fun W O r hB => (reply_none O r g Ns k cc s W hB hk hno).mono fun e w' ⟨h1, h2⟩ => ⟨h1, by subst h2; exact NowB.refl hB⟩, up⟩

theorem shut_both (g : Nat) (Ns : List Nt) (k : Int) (hk : -9223372036854775808 ≤ k ∧ k ≤ 9223372036854775807) :
    ∃ (er : Int) (Ns' : List Nt),
      (∀ W O q, RBD W O q g Ns → Calls Try.prog 35 #[.pointer (some ⟨q, 0, none⟩), .int .i64 k] W fun e w' => e = .returned (.int .i64 er) ∧ NowR W w' O q g Ns') ∧
      (∀ W O r, BD W O r g Ns → Calls Try.prog 36 #[.pointer (some ⟨r, 0, none⟩), .int .i64 k] W fun e w' => e = .returned (.int .i64 er) ∧ NowB W w' O r g Ns') ∧
      ∀ M, (∀ m ∈ Ns, m.sd.length ≤ M) → ∀ m ∈ Ns', m.sd.length ≤ M := by
  by_cases hh : ∃ n ∈ Ns, (n.id : Int) = k
  · obtain ⟨n, hn, rfl⟩ := hh
    obtain ⟨A, B, rfl⟩ := List.append_of_mem hn
    cases hsh : n.sh with
    | true =>
      exact ⟨233, _, fun W O q hB => (rshut_bad O q g A B n W hB hsh).mono fun e w' ⟨h1, h2⟩ => ⟨h1, by subst h2; exact NowR.refl hB⟩,
        fun W O r hB => (shut_bad O r g A B n W hB hsh).mono fun e w' ⟨h1, h2⟩ => ⟨h1, by subst h2; exact NowB.refl hB⟩, fun M h => h⟩
    | false =>
      exact ⟨0, _, fun W O q hB => rshut_good O q g A B n W hB hsh, fun W O r hB => shut_good O r g A B n W hB hsh, fun M h => mid_sd h (Nat.le_refl _) (fun h => h)⟩
  · have hno : ∀ n ∈ Ns, (n.id : Int) ≠ k := fun n hn e => hh ⟨n, hn, e⟩
    exact ⟨232, Ns, fun W O q hB => (rshut_none O q g Ns k W hB hno).mono fun e w' ⟨h1, h2⟩ => ⟨h1, by subst h2; exact NowR.refl hB⟩,
      fun W O r hB => (shut_none O r g Ns k W hB hk hno).mono fun e w' ⟨h1, h2⟩ => ⟨h1, by subst h2; exact NowB.refl hB⟩, fun M h => h⟩

/-- A pair: both boards, and what was handed out; the program's board has the notes Nb, the document's Nd. -/
structure PK (w : World) (X off r q : Nat) (O Oq K1 K2 : Nat → Prop) (gb : Nat) (Nb : List Nt) (gd : Nat) (Nd : List Nt) (m1 m2 : Nat) : Prop where
  box : PB w X off [.pointer (some ⟨r, 0, none⟩), .pointer (some ⟨q, 0, none⟩)]
  b : BD w O r gb Nb
  d : RBD w Oq q gd Nd
  p1 : PP ic 1 3 59 w X (off + 2) K1 m1
  p2 : PP rpc 2 90 45 w X (off + 4) K2 m2
  d1 : ∀ j, O j → ¬ Oq j
  d2 : ∀ j, O j → ¬ K1 j
  d3 : ∀ j, O j → ¬ K2 j
  d4 : ∀ j, Oq j → ¬ K1 j
  d5 : ∀ j, Oq j → ¬ K2 j
  d6 : ∀ j, K1 j → ¬ K2 j
  nb : ¬ O X
  nd : ¬ Oq X
section
variable {w w' : World} {X off r q : Nat} {O Oq K1 K2 : Nat → Prop} {gb : Nat} {Nb : List Nt} {gd : Nat} {Nd : List Nt} {m1 m2 : Nat} {T : Nat → Prop}
theorem PK.o1 (h : PK w X off r q O Oq K1 K2 gb Nb gd Nd m1 m2) : ∀ j, K1 j → j < w.heap.size := h.p1.box.2.2
theorem PK.o2 (h : PK w X off r q O Oq K1 K2 gb Nb gd Nd m1 m2) : ∀ j, K2 j → j < w.heap.size := h.p2.box.2.2
theorem PK.fr (h : PK w X off r q O Oq K1 K2 gb Nb gd Nd m1 m2) (hF : Fr T w w') (hT : ∀ j, (O j ∨ Oq j ∨ K1 j ∨ K2 j) → ¬ T j) (hX : ¬ T X) : PK w' X off r q O Oq K1 K2 gb Nb gd Nd m1 m2 :=
  ⟨h.box.fr hF hX, h.b.fr hF (fun j hj => hT j (.inl hj)), h.d.fr hF (fun j hj => hT j (.inr (.inl hj))), h.p1.fr hF (fun j hj => hT j (.inr (.inr (.inl hj)))) hX, h.p2.fr hF (fun j hj => hT j (.inr (.inr (.inr hj)))) hX, h.d1, h.d2, h.d3, h.d4, h.d5, h.d6, h.nb, h.nd⟩
theorem PK.below (h : PK w X off r q O Oq K1 K2 gb Nb gd Nd m1 m2) (hb : Below w.heap.size w w') : PK w' X off r q O Oq K1 K2 gb Nb gd Nd m1 m2 :=
  h.fr (T := fun _ => False) (Fr.of_below hb) (fun _ _ h => h) (fun h => h)
theorem PK.lt (h : PK w X off r q O Oq K1 K2 gb Nb gd Nd m1 m2) : X < w.heap.size := h.box.lt
theorem PK.setB {g' : Nat} {N' : List Nt} (h : PK w X off r q O Oq K1 K2 gb Nb gd Nd m1 m2) (hN : NowB w w' O r g' N') : ∃ O', PK w' X off r q O' Oq K1 K2 g' N' gd Nd m1 m2 ∧ (∀ j, O' j → O j ∨ w.heap.size ≤ j) ∧ Fr O w w' := by
  obtain ⟨O', h1, h2, h3⟩ := hN
  refine ⟨O', ⟨h.box.fr h3 h.nb, h1, h.d.fr h3 (fun j hj hO => h.d1 j hO hj), h.p1.fr h3 (fun j hj hO => h.d2 j hO hj) h.nb, h.p2.fr h3 (fun j hj hO => h.d3 j hO hj) h.nb, fun j hj hk => ?_, fun j hj hk => ?_, fun j hj hk => ?_, h.d4, h.d5, h.d6, fun hX => ?_, h.nd⟩, h2, h3⟩
  · rcases h2 j hj with h4 | h4
    · exact h.d1 j h4 hk
    · have := h.d.old j hk; omega
  · rcases h2 j hj with h4 | h4
    · exact h.d2 j h4 hk
    · have := h.o1 j hk; omega
  · rcases h2 j hj with h4 | h4
    · exact h.d3 j h4 hk
    · have := h.o2 j hk; omega
  · rcases h2 X hX with h4 | h4
    · exact h.nb h4
    · have := h.lt; omega
theorem PK.setD {g' : Nat} {N' : List Nt} (h : PK w X off r q O Oq K1 K2 gb Nb gd Nd m1 m2) (hN : NowR w w' Oq q g' N') : ∃ O', PK w' X off r q O O' K1 K2 gb Nb g' N' m1 m2 ∧ (∀ j, O' j → Oq j ∨ w.heap.size ≤ j) ∧ Fr Oq w w' := by
  obtain ⟨O', h1, h2, h3⟩ := hN
  refine ⟨O', ⟨h.box.fr h3 h.nd, h.b.fr h3 (fun j hj hO => h.d1 j hj hO), h1, h.p1.fr h3 (fun j hj hO => h.d4 j hO hj) h.nd, h.p2.fr h3 (fun j hj hO => h.d5 j hO hj) h.nd, fun j hj hk => ?_, h.d2, h.d3, fun j hj hk => ?_, fun j hj hk => ?_, h.d6, h.nb, fun hX => ?_⟩, h2, h3⟩
  · rcases h2 j hk with h4 | h4
    · exact h.d1 j hj h4
    · have := h.b.old j hj; omega
  · rcases h2 j hj with h4 | h4
    · exact h.d4 j h4 hk
    · have := h.o1 j hk; omega
  · rcases h2 j hj with h4 | h4
    · exact h.d5 j h4 hk
    · have := h.o2 j hk; omega
  · rcases h2 X hX with h4 | h4
    · exact h.nd h4
    · have := h.lt; omega
/-- ints was called with a list in the block β, that is none of the pair's. -/
theorem PK.set1 {β : Option Nat} (h : PK w X off r q O Oq K1 K2 gb Nb gd Nd m1 m2) (hN : InO ic 1 3 59 w w' X (off + 2) K1 β m1) (hβ : ∀ j, β = some j → ¬ (O j ∨ Oq j ∨ K1 j ∨ K2 j)) (hX : β ≠ some X) : ∃ K', PK w' X off r q O Oq K' K2 gb Nb gd Nd (m1 + 2) m2 ∧ (∀ j, K' j → K1 j ∨ β = some j ∨ w.heap.size ≤ j) ∧ Fr (fun j => K1 j ∨ β = some j ∨ j = X) w w' ∧ XR w w' X off 6 := by
  obtain ⟨K', h1, h2, h3, h4⟩ := hN
  have e1 : ∀ j, O j → ¬ (K1 j ∨ β = some j ∨ j = X) := by
    rintro j hj (h5 | h5 | rfl)
    · exact h.d2 j hj h5
    · exact hβ j h5 (.inl hj)
    · exact h.nb hj
  have e2 : ∀ j, Oq j → ¬ (K1 j ∨ β = some j ∨ j = X) := by
    rintro j hj (h5 | h5 | rfl)
    · exact h.d4 j hj h5
    · exact hβ j h5 (.inr (.inl hj))
    · exact h.nd hj
  have e3 : ∀ j, K2 j → ¬ (K1 j ∨ β = some j) := by
    rintro j hj (h5 | h5)
    · exact h.d6 j h5 hj
    · exact hβ j h5 (.inr (.inr (.inr hj)))
  have hp2 : PP rpc 2 90 45 w' X (off + 4) K2 m2 := by
    obtain ⟨vL, βL, SL, vW, βW, SW, E, hP, hm⟩ := h.p2
    have nK : ∀ j, K2 j → ¬ (K1 j ∨ β = some j ∨ j = X) := by
      rintro j hj (h5 | h5 | rfl)
      · exact e3 j hj (.inl h5)
      · exact e3 j hj (.inr h5)
      · exact hP.nX hj
    exact ⟨vL, βL, SL, vW, βW, SW, E, ⟨h4 (off + 4) _ (.inr (by omega)) hP.box, hP.kL.fr h3 nK, hP.kW.fr h3 nK, hP.ne, hP.nX, fun j hj => Nat.lt_of_lt_of_le (hP.old j hj) h3.size⟩, hm⟩
  refine ⟨K', ⟨h4 off _ (.inl (by simp)) h.box, h.b.fr h3 e1, h.d.fr h3 e2, h1, hp2, h.d1, fun j hj hk => ?_, h.d3, fun j hj hk => ?_, h.d5, fun j hk hj => ?_, h.nb, h.nd⟩, h2, h3, h4.wide (by omega) (by omega)⟩
  · rcases h2 j hk with h5 | h5 | h5
    · exact h.d2 j hj h5
    · exact hβ j h5 (.inl hj)
    · have := h.b.old j hj; omega
  · rcases h2 j hk with h5 | h5 | h5
    · exact h.d4 j hj h5
    · exact hβ j h5 (.inr (.inl hj))
    · have := h.d.old j hj; omega
  · rcases h2 j hk with h5 | h5 | h5
    · exact h.d6 j h5 hj
    · exact hβ j h5 (.inr (.inr (.inr hj)))
    · have := h.o2 j hj; omega
/-- Answers were handed out: the set P of their blocks is none of the pair's. -/
theorem PK.set2 {P : Nat → Prop} {M : Nat} (h : PK w X off r q O Oq K1 K2 gb Nb gd Nd m1 m2) {K' : Nat → Prop} (h1 : PP rpc 2 90 45 w' X (off + 4) K' M) (h2 : ∀ j, K' j → K2 j ∨ P j ∨ w.heap.size ≤ j) {Q : Nat → Prop} (h3 : Fr (fun j => K2 j ∨ Q j ∨ j = X) w w') (h4 : XR w w' X (off + 4) 2) (hβ : ∀ j, P j ∨ Q j → ¬ (O j ∨ Oq j ∨ K1 j)) : PK w' X off r q O Oq K1 K' gb Nb gd Nd m1 M ∧ XR w w' X off 6 := by
  have e1 : ∀ j, O j → ¬ (K2 j ∨ Q j ∨ j = X) := by
    rintro j hj (h5 | h5 | rfl)
    · exact h.d3 j hj h5
    · exact hβ j (.inr h5) (.inl hj)
    · exact h.nb hj
  have e2 : ∀ j, Oq j → ¬ (K2 j ∨ Q j ∨ j = X) := by
    rintro j hj (h5 | h5 | rfl)
    · exact h.d5 j hj h5
    · exact hβ j (.inr h5) (.inr (.inl hj))
    · exact h.nd hj
  have hp1 : PP ic 1 3 59 w' X (off + 2) K1 m1 := by
    obtain ⟨vL, βL, SL, vW, βW, SW, E, hP, hm⟩ := h.p1
    have nK : ∀ j, K1 j → ¬ (K2 j ∨ Q j ∨ j = X) := by
      rintro j hj (h5 | h5 | rfl)
      · exact h.d6 j hj h5
      · exact hβ j (.inr h5) (.inr (.inr hj))
      · exact hP.nX hj
    exact ⟨vL, βL, SL, vW, βW, SW, E, ⟨h4 (off + 2) _ (.inl (by simp)) hP.box, hP.kL.fr h3 nK, hP.kW.fr h3 nK, hP.ne, hP.nX, fun j hj => Nat.lt_of_lt_of_le (hP.old j hj) h3.size⟩, hm⟩
  refine ⟨⟨h4 off _ (.inl (by simp)) h.box, h.b.fr h3 e1, h.d.fr h3 e2, hp1, h1, h.d1, h.d2, fun j hj hk => ?_, h.d4, fun j hj hk => ?_, fun j hj hk => ?_, h.nb, h.nd⟩, h4.wide (by omega) (by omega)⟩
  · rcases h2 j hk with h5 | h5 | h5
    · exact h.d3 j hj h5
    · exact hβ j (.inl h5) (.inl hj)
    · have := h.b.old j hj; omega
  · rcases h2 j hk with h5 | h5 | h5
    · exact h.d5 j hj h5
    · exact hβ j (.inl h5) (.inr (.inl hj))
    · have := h.d.old j hj; omega
  · rcases h2 j hk with h5 | h5 | h5
    · exact h.d6 j hj h5
    · exact hβ j (.inl h5) (.inr (.inr hj))
    · have := h.o1 j hj; omega
end

/-- A pair between two steps; D: all its blocks but that of the array. -/
def PI (w : World) (X off : Nat) (D : Nat → Prop) (k : Nat) : Prop :=
  ∃ r q O Oq K1 K2 g Ns m1 m2, PK w X off r q O Oq K1 K2 g Ns g Ns m1 m2 ∧ (∀ j, D j ↔ (O j ∨ Oq j ∨ K1 j ∨ K2 j)) ∧ (∀ n ∈ Ns, n.sd.length ≤ k) ∧ m1 ≤ 4 * k ∧ m2 ≤ 1024 * k
theorem PI.fr {w w' : World} {X off k : Nat} {D T : Nat → Prop} (h : PI w X off D k) (hF : Fr T w w') (hT : ∀ j, D j → ¬ T j) (hX : ¬ T X) : PI w' X off D k := by
  obtain ⟨r, q, O, Oq, K1, K2, g, Ns, m1, m2, h1, h2, h3⟩ := h
  exact ⟨r, q, O, Oq, K1, K2, g, Ns, m1, m2, h1.fr hF (fun j hj => hT j ((h2 j).2 hj)) hX, h2, h3⟩
theorem PI.old {w : World} {X off k : Nat} {D : Nat → Prop} (h : PI w X off D k) : (∀ j, D j → j < w.heap.size) ∧ X < w.heap.size ∧ ¬ D X := by
  obtain ⟨r, q, O, Oq, K1, K2, g, Ns, m1, m2, h1, h2, h3⟩ := h
  refine ⟨fun j hj => ?_, h1.lt, fun hX => ?_⟩
  · rcases (h2 j).1 hj with h | h | h | h
    · exact h1.b.old j h
    · exact h1.d.old j h
    · exact h1.o1 j h
    · exact h1.o2 j h
  · rcases (h2 X).1 hX with h | h | h | h
    · exact h1.nb h
    · exact h1.nd h
    · exact h1.p1.box.2.1 h
    · exact h1.p2.box.2.1 h
/-- What a step leaves. -/
def StO (w w' : World) (X off : Nat) (D : Nat → Prop) (k : Nat) : Prop :=
  ∃ D', PI w' X off D' k ∧ (∀ j, D' j → D j ∨ w.heap.size ≤ j) ∧ Fr (fun j => D j ∨ j = X) w w' ∧ XR w w' X off 6
end Go.Proofs.Ytkkklfnooeofcab
