/-
  Look, of both boards, with the answer laid into a variable.
-/
import Derived.Test.YtkkklfnooeofcabXn
namespace Go.Proofs.Ytkkklfnooeofcab
open Go.RowKit
set_option linter.unusedVariables false

def nvA (id cl : Int) (wo : ByteArray) (p q : Int) (go sh : Bool) (v : Value) : Array Value := #[.int .i64 id, .int .i64 cl, .string wo, .int .i64 p, .int .i64 q, .bool go, .bool sh, v]
/-- New answers. -/
def RL (w : World) (sd : List (Int × ByteArray)) (x : Value) (u : World) : Prop := ∃ β, SF rpc 2 u 90 β x sd ∧ ∀ k, β = some k → w.heap.size ≤ k
theorem RL.fr {w u u' : World} {sd : List (Int × ByteArray)} {x : Value} {T : Nat → Prop} (h : RL w sd x u) (hF : Fr T u u') (hT : ∀ j, T j → ∃ cs, u.heap[j]? = some (.cells cs 47 (0, 0))) : RL w sd x u' := by
  obtain ⟨β, h1, h2⟩ := h
  refine ⟨β, h1.fr hF (fun g hg hb => ?_), h2⟩
  obtain ⟨cs, hc⟩ := hT g hb
  exact h1.ne_blk hc (by decide) hg
theorem RL.below {w u u' : World} {sd : List (Int × ByteArray)} {x : Value} (h : RL w sd x u) (hb : Below u.heap.size u u') : RL w sd x u' := h.fr (T := fun _ => False) (Fr.of_below hb) (fun _ h => h.elim)
theorem RL.of {w W u : World} {sd : List (Int × ByteArray)} {x : Value} (h : RL W sd x u) (hs : w.heap.size ≤ W.heap.size) : RL w sd x u := by
  obtain ⟨β, h1, h2⟩ := h
  exact ⟨β, h1, fun k hk => Nat.le_trans hs (h2 k hk)⟩

theorem look_both (g : Nat) (Ns : List Nt) (n : Nat) (xs : List El) (k : Int) (M : Nat) (hwf : ∀ x ∈ xs, wfE x) (hM : ∀ m ∈ Ns, m.sd.length ≤ M) (hM2 : M ≤ 400000) (hk : -9223372036854775808 ≤ k ∧ k ≤ 9223372036854775807) :
    ∃ (id cl : Int) (wo : ByteArray) (p q : Int) (go sh : Bool) (er : Int) (sd : List (Int × ByteArray)),
      (∀ W O r a c, RBD W O r g Ns → IsE W a n c xs → Calls Try.prog 17 #[.pointer (some ⟨r, 0, none⟩), .slice a n c, .int .i64 k] W fun e w' => ∃ x, e = .returned (.tuple #[.agg (nvA id cl wo p q go sh x), .int .i64 er]) ∧ RL W sd x w' ∧ Below W.heap.size W w') ∧
      (∀ W O r a c, BD W O r g Ns → IsE W a n c xs → Calls Try.prog 11 #[.pointer (some ⟨r, 0, none⟩), .slice a n c, .int .i64 k] W fun e w' => ∃ x, e = .returned (.tuple #[.agg (nvA id cl wo p q go sh x), .int .i64 er]) ∧ RL W sd x w' ∧ Below W.heap.size W w') ∧
      sd.length ≤ M := by
  by_cases hh : ∃ m ∈ Ns, (m.id : Int) = k
  · obtain ⟨m, hm, rfl⟩ := hh
    obtain ⟨A, B, rfl⟩ := List.append_of_mem hm
    have hr : roomy m.sd.length 24 := roomy24 _ (by have := hM m hm; omega)
    exact ⟨_, _, _, _, _, _, _, 0, m.sd, fun W O r a c hB hE => (rlook_hit O r g A B m W hB a n c xs hE hr).mono fun e w' ⟨u, β, h1, h2, h3, h4⟩ => ⟨u, h1, ⟨β, h2, h3⟩, h4⟩,
      fun W O r a c hB hE => (look_good O r g A B m W hB a n c xs hE hwf hr).mono fun e w' ⟨u, β, h1, h2, h3, h4⟩ => ⟨u, h1, ⟨β, h2, h3⟩, h4⟩, hM m hm⟩
  · have hno : ∀ m ∈ Ns, (m.id : Int) ≠ k := fun m hm e => hh ⟨m, hm, e⟩
    exact ⟨0, 0, ⟨#[]⟩, 0, 0, false, false, 232, [], fun W O r a c hB hE => (rlook_none O r g Ns (.slice a n c) k W hB hno).mono fun e w' ⟨h1, h4⟩ => ⟨_, h1, ⟨none, ⟨rfl, rfl⟩, fun _ h => by cases h⟩, h4⟩,
      fun W O r a c hB hE => (look_none O r g Ns (.slice a n c) k W hB hk hno).mono fun e w' ⟨h1, h4⟩ => ⟨_, h1, ⟨none, ⟨rfl, rfl⟩, fun _ h => by cases h⟩, h4⟩, Nat.zero_le _⟩

/-- While a Look's answer is laid into a variable: c the call, mv its move, x0 the note, al the variable, st the store. -/
def WK (w : World) (c mv x0 al st : Nat) (id cl : Int) (wo : ByteArray) (p q : Int) (go sh : Bool) (er : Int) (sd : List (Int × ByteArray)) (L : Nat → Prop) (val : Nat → Value) (u : World) : Prop :=
  Below w.heap.size w u ∧
  (L c → ∃ x, val c = .tuple #[.agg (nvA id cl wo p q go sh x), .int .i64 er] ∧ RL w sd x u) ∧
  (L mv → val mv = val c) ∧
  (L x0 → ∃ x, val c = .tuple #[.agg (nvA id cl wo p q go sh x), .int .i64 er] ∧ val x0 = .agg (nvA id cl wo p q go sh x)) ∧
  (L al → ∃ z, val al = .pointer (some ⟨z, 0, none⟩) ∧ w.heap.size ≤ z ∧ (¬ L st → u.heap[z]? = some (.cells #[.int .i64 0, .int .i64 0, .string ⟨#[]⟩, .int .i64 0, .int .i64 0, .bool false, .bool false, .slice none 0 0] 47 (0, 0))) ∧
    (L st → ∃ x, val c = .tuple #[.agg (nvA id cl wo p q go sh x), .int .i64 er] ∧ u.heap[z]? = some (.cells (nvA id cl wo p q go sh x) 47 (0, 0))))
section
variable {w : World} {c mv x0 al st : Nat} {id cl : Int} {wo : ByteArray} {p q : Int} {go sh : Bool} {er : Int} {sd : List (Int × ByteArray)} {L L' : Nat → Prop} {val val' : Nat → Value} {u u' : World}
theorem WK.start (h : ∀ i, ¬ L i) : WK w c mv x0 al st id cl wo p q go sh er sd L val w.drew :=
  ⟨⟨rfl, rfl, rfl, Nat.le_refl _, fun _ _ => rfl⟩, fun a => absurd a (h _), fun a => absurd a (h _), fun a => absurd a (h _), fun a => absurd a (h _)⟩
theorem WK.call {x : Value} (h : WK w c mv x0 al st id cl wo p q go sh er sd L val u) (hu : ∀ j, L' j ↔ (j = c ∨ L j)) (d : mv ≠ c ∧ x0 ≠ c ∧ al ≠ c ∧ st ≠ c) (n1 : ¬ L mv) (n2 : ¬ L x0) (n3 : ¬ L st) (e : val' al = val al) (hv : val' c = .tuple #[.agg (nvA id cl wo p q go sh x), .int .i64 er]) (hR : RL w sd x u') (hb : Below u.heap.size u u') : WK w c mv x0 al st id cl wo p q go sh er sd L' val' u' := by
  obtain ⟨h1, h2, h3, h4, h5⟩ := h
  obtain ⟨d1, d2, d3, d4⟩ := d
  have l : ∀ k, k ≠ c → (L' k → L k) := fun k hk hl => ((hu k).1 hl).resolve_left hk
  refine ⟨h1.trans (hb.mono h1.size), fun _ => ⟨x, hv, hR⟩, fun a => absurd (l mv d1 a) n1, fun a => absurd (l x0 d2 a) n2, fun a => ?_⟩
  obtain ⟨z, q1, q2, q3, q4⟩ := h5 (l al d3 a)
  exact ⟨z, by rw [e]; exact q1, q2, fun hn => (Fr.of_below (S := fun _ => False) hb).keeps (q3 n3) (fun h => h), fun a => absurd (l st d4 a) n3⟩
theorem WK.move (h : WK w c mv x0 al st id cl wo p q go sh er sd L val u) (hu : ∀ j, L' j ↔ (j = mv ∨ L j)) (d : c ≠ mv ∧ x0 ≠ mv ∧ al ≠ mv ∧ st ≠ mv) (ec : val' c = val c) (e0 : val' x0 = val x0) (e : val' al = val al) (hv : val' mv = val c) : WK w c mv x0 al st id cl wo p q go sh er sd L' val' u := by
  obtain ⟨h1, h2, h3, h4, h5⟩ := h
  obtain ⟨d1, d2, d3, d4⟩ := d
  have l : ∀ k, k ≠ mv → (L' k ↔ L k) := fun k hk => ⟨fun hl => ((hu k).1 hl).resolve_left hk, fun hl => (hu k).2 (.inr hl)⟩
  refine ⟨h1, ?_, fun _ => by rw [hv, ec], ?_, ?_⟩
  · rw [l c d1, ec]; exact h2
  · rw [l x0 d2, ec, e0]; exact h4
  · rw [l al d3, l st d4, ec, e]; exact h5
theorem WK.take {x : Value} (h : WK w c mv x0 al st id cl wo p q go sh er sd L val u) (hu : ∀ j, L' j ↔ (j = x0 ∨ L j)) (d : c ≠ x0 ∧ mv ≠ x0 ∧ al ≠ x0 ∧ st ≠ x0) (ec : val' c = val c) (em : val' mv = val mv) (e : val' al = val al) (hx : val c = .tuple #[.agg (nvA id cl wo p q go sh x), .int .i64 er]) (hv : val' x0 = .agg (nvA id cl wo p q go sh x)) : WK w c mv x0 al st id cl wo p q go sh er sd L' val' u := by
  obtain ⟨h1, h2, h3, h4, h5⟩ := h
  obtain ⟨d1, d2, d3, d4⟩ := d
  have l : ∀ k, k ≠ x0 → (L' k ↔ L k) := fun k hk => ⟨fun hl => ((hu k).1 hl).resolve_left hk, fun hl => (hu k).2 (.inr hl)⟩
  refine ⟨h1, ?_, ?_, fun _ => ⟨x, by rw [ec]; exact hx, hv⟩, ?_⟩
  · rw [l c d1, ec]; exact h2
  · rw [l mv d2, em, ec]; exact h3
  · rw [l al d3, l st d4, ec, e]; exact h5
theorem WK.lay (h : WK w c mv x0 al st id cl wo p q go sh er sd L val u) (hu : ∀ j, L' j ↔ (j = al ∨ L j)) (d : c ≠ al ∧ mv ≠ al ∧ x0 ≠ al ∧ st ≠ al) (n3 : ¬ L st) (ec : val' c = val c) (em : val' mv = val mv) (e0 : val' x0 = val x0) (hv : val' al = .pointer (some ⟨u.heap.size, 0, none⟩)) : WK w c mv x0 al st id cl wo p q go sh er sd L' val' (u.alloc (.cells #[.int .i64 0, .int .i64 0, .string ⟨#[]⟩, .int .i64 0, .int .i64 0, .bool false, .bool false, .slice none 0 0] 47)) := by
  obtain ⟨h1, h2, h3, h4, h5⟩ := h
  obtain ⟨d1, d2, d3, d4⟩ := d
  have l : ∀ k, k ≠ al → (L' k ↔ L k) := fun k hk => ⟨fun hl => ((hu k).1 hl).resolve_left hk, fun hl => (hu k).2 (.inr hl)⟩
  refine ⟨h1.alloc h1.size _, fun a => ?_, ?_, ?_, fun _ => ⟨_, hv, h1.size, fun _ => heap_alloc_new u _, fun a => absurd ((l st d4).1 a) n3⟩⟩
  · obtain ⟨x, q1, q2⟩ := h2 ((l c d1).1 a)
    exact ⟨x, by rw [ec]; exact q1, q2.below ((Below.refl _ _).alloc (Nat.le_refl _) _)⟩
  · rw [l mv d2, em, ec]; exact h3
  · rw [l x0 d3, ec, e0]; exact h4
theorem WK.store {x : Value} {z : Nat} {cs : Array Value} (h : WK w c mv x0 al st id cl wo p q go sh er sd L val u) (hu : ∀ j, L' j ↔ (j = st ∨ L j)) (d : c ≠ st ∧ mv ≠ st ∧ x0 ≠ st ∧ al ≠ st) (lal : L al) (hx : val c = .tuple #[.agg (nvA id cl wo p q go sh x), .int .i64 er]) (hz : val al = .pointer (some ⟨z, 0, none⟩)) (hzb : u.heap[z]? = some (.cells cs 47 (0, 0))) (hF : Fr (· = z) u u') (hN : u'.heap[z]? = some (.cells (nvA id cl wo p q go sh x) 47 (0, 0))) : WK w c mv x0 al st id cl wo p q go sh er sd L' val u' := by
  obtain ⟨h1, h2, h3, h4, h5⟩ := h
  obtain ⟨d1, d2, d3, d4⟩ := d
  have l : ∀ k, k ≠ st → (L' k ↔ L k) := fun k hk => ⟨fun hl => ((hu k).1 hl).resolve_left hk, fun hl => (hu k).2 (.inr hl)⟩
  obtain ⟨z', q1, q2, -⟩ := h5 lal
  rw [hz] at q1
  obtain rfl : z = z' := by simpa using q1
  refine ⟨h1.trans (hF.below h1.size (fun k hk => by omega)), fun a => ?_, ?_, ?_, fun _ => ⟨z, hz, q2, fun hn => absurd ((hu st).2 (.inl rfl)) hn, fun _ => ⟨x, hx, hN⟩⟩⟩
  · obtain ⟨y, q3, q4⟩ := h2 ((l c d1).1 a)
    exact ⟨y, q3, q4.fr hF (fun j hj => ⟨cs, by rw [hj]; exact hzb⟩)⟩
  · rw [l mv d2]; exact h3
  · rw [l x0 d3]; exact h4
end

set_option maxRecDepth 100000 in
set_option maxHeartbeats 4000000 in
theorem eqNote_gen (id cl : Int) (wo : ByteArray) (p q : Int) (go sh : Bool) (sd : List (Int × ByteArray)) (u v : Value) (β β' : Option Nat) (w : World) (hu : SF rpc 2 w 90 β u sd) (hv : SF rpc 2 w 90 β' v sd) :
    Calls Try.prog 12 #[.agg (nvA id cl wo p q go sh u), .agg (nvA id cl wo p q go sh v)] w fun e w' => e = .returned (.bool true) ∧ Below w.heap.size w w' := by
  have hB : Below w.heap.size w ((w.alloc (.cells (nvA id cl wo p q go sh u) 47)).alloc (.cells (nvA id cl wo p q go sh v) 47)) := ((Below.refl _ _).alloc (Nat.le_refl _) _).alloc (by simp) _
  have CE := hd (eqReplies_true u v β β' sd _ (hu.fr (S := fun _ => False) (Fr.of_below hB) (fun _ _ h => h)) (hv.fr (S := fun _ => False) (Fr.of_below hB) (fun _ _ h => h)))
  obtain ⟨a1, c, rfl, hc, hc'⟩ := hu.form
  obtain ⟨a2, d, rfl, hd1, hd2⟩ := hv.form
  have HB := hd hB
  unfold nvA at *
  generalize sd.length = m at *
  clear hu hv hB hc hc' hd1 hd2
  cases go <;> cases sh <;>
  · go_enter Try.func12, Try.ntmps12
    go_wp2_with fail
    refine CE.out.mono ?_
    rintro e w' ⟨rfl, m, rfl⟩
    go_wp2
    go_ret
    exact ⟨rfl, below_drewN HB.out _⟩
end Go.Proofs.Ytkkklfnooeofcab
