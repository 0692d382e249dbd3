/-
  The outbox of things, but for Push and first.
-/
import Derived.Test.YtocpfioifamkmaaTa
import Derived.Test.YtocpfioifamkmaaBc
namespace Go.Proofs.Ytocpfioifamkmaa
open Go.RowKit Go.Lib
set_option linter.unusedVariables false

/-- The outbox at block x, its row at block β. -/
structure TK (w : World) (x : Nat) (p : St) (v : Value) (β : Option Nat) : Prop where
  box : w.heap[x]? = some (.cells #[.int .i64 p.W, .int .i64 p.a, .int .i64 p.s, v] 86 (0, 0))
  row : SF eT 6 w 63 β v p.L
  ok : p.ok

/-- The outbox at block x; its blocks are among S. -/
def TAt (w : World) (x : Nat) (p : St) (S : Nat → Prop) : Prop := ∃ v β, TK w x p v β ∧ S x ∧ (∀ g, β = some g → S g) ∧ ∀ k, S k → k < w.heap.size

theorem TK.fr {S : Nat → Prop} {w w' : World} {x : Nat} {p : St} {v : Value} {β : Option Nat} (h : TK w x p v β) (hF : Fr S w w') (hx : ¬ S x) (hS : ∀ g, β = some g → ¬ S g) : TK w' x p v β :=
  ⟨hF.keeps h.box hx, h.row.fr hF hS, h.ok⟩
theorem TK.below {w w' : World} {x : Nat} {p : St} {v : Value} {β : Option Nat} (h : TK w x p v β) (hb : Below w.heap.size w w') : TK w' x p v β :=
  h.fr (S := fun _ => False) (Fr.of_below hb) (fun h => h) (fun _ _ h => h)
theorem TAt.fr {S T : Nat → Prop} {w w' : World} {x : Nat} {p : St} (h : TAt w x p S) (hF : Fr T w w') (hS : ∀ k, S k → ¬ T k) : TAt w' x p S := by
  obtain ⟨v, β, h, h1, h2, h3⟩ := h
  exact ⟨v, β, h.fr hF (hS x h1) (fun g hg => hS g (h2 g hg)), h1, h2, fun k hk => Nat.lt_of_lt_of_le (h3 k hk) hF.size⟩
theorem TAt.below {S : Nat → Prop} {w w' : World} {x : Nat} {p : St} (h : TAt w x p S) (hb : Below w.heap.size w w') : TAt w' x p S :=
  h.fr (T := fun _ => False) (Fr.of_below hb) (fun _ _ h => h)
theorem TAt.ok {S : Nat → Prop} {w : World} {x : Nat} {p : St} (h : TAt w x p S) : p.ok := by
  obtain ⟨v, β, h, -⟩ := h
  exact h.ok
theorem TAt.old {S : Nat → Prop} {w : World} {x : Nat} {p : St} (h : TAt w x p S) : ∀ k, S k → k < w.heap.size := by
  obtain ⟨v, β, h, -, -, h3⟩ := h
  exact h3

/-- What a call leaves of an outbox. -/
def TNow (w w' : World) (x : Nat) (p : St) (S : Nat → Prop) : Prop := ∃ S', TAt w' x p S' ∧ (∀ k, S' k → S k ∨ w.heap.size ≤ k) ∧ Fr S w w'

theorem tlast_bk (x : Nat) (p : St) (v : Value) (β : Option Nat) (w : World) (h : TK w x p v β) :
    Calls Try.prog 45 #[.pointer (some ⟨x, 0, none⟩)] w fun e w' => e = .returned (.int .i64 p.last) ∧ Below w.heap.size w w' := by
  obtain ⟨a, c, rfl, -⟩ := h.row.form
  have c1 := cell_row h.box 1
  have c3 := cell_row h.box 3
  have hf := h.ok.few
  have hs := h.ok.le
  simp at c1 c3
  obtain ⟨n, hn⟩ : ∃ n, p.L.length = n := ⟨_, rfl⟩
  obtain ⟨m, hm⟩ : ∃ m, p.a = m := ⟨_, rfl⟩
  have hl : (p.last : Int) = (m : Int) + n := by unfold St.last; omega
  rw [hl]
  rw [hn] at c3 hf
  rw [hm] at c1 hf
  clear h hn hm hl hs
  go_enter Try.func45, Try.ntmps45
  go_wp2_with fail
  go_region
  go_wp2
  go_ret
  exact ⟨rfl, by repeat (first | exact Below.refl _ _ | refine Below.drew ?_ | refine below_drewN ?_ _)⟩

theorem tacked_bk (x : Nat) (p : St) (v : Value) (β : Option Nat) (w : World) (h : TK w x p v β) :
    Calls Try.prog 41 #[.pointer (some ⟨x, 0, none⟩)] w fun e w' => e = .returned (.int .i64 p.a) ∧ w' = w := by
  have c1 := cell_row h.box 1
  simp at c1
  clear h
  go_enter Try.func41, Try.ntmps41
  go_wp2
  go_ret
  exact ⟨rfl, rfl⟩

theorem tsent_bk (x : Nat) (p : St) (v : Value) (β : Option Nat) (w : World) (h : TK w x p v β) :
    Calls Try.prog 43 #[.pointer (some ⟨x, 0, none⟩)] w fun e w' => e = .returned (.int .i64 p.s) ∧ w' = w := by
  have c1 := cell_row h.box 2
  simp at c1
  clear h
  go_enter Try.func43, Try.ntmps43
  go_wp2
  go_ret
  exact ⟨rfl, rfl⟩

theorem tnew_bad (W : Int) (w : World) (h : W < 1 ∨ 4096 < W) : Calls Try.prog 27 #[.int .i64 W] w fun e w' => e = .returned (.tuple #[.pointer none, .int .i64 80]) ∧ w' = w := by
  by_cases h1 : W < 1
  · go_enter Try.func27, Try.ntmps27
    go_wp2
    refine bodyPost_ret (v := .tuple #[.pointer none, .int .i64 80]) (by simp [results, Try.results27, go_sem]) rfl ?_
    exact ⟨rfl, rfl⟩
  · have h2 : 4096 < W := by omega
    go_enter Try.func27, Try.ntmps27
    go_wp2
    refine bodyPost_ret (v := .tuple #[.pointer none, .int .i64 80]) (by simp [results, Try.results27, go_sem]) rfl ?_
    exact ⟨rfl, rfl⟩

theorem tnew_good (W : Nat) (w : World) (hW1 : 1 ≤ W) (hW2 : W ≤ 4096) : Calls Try.prog 27 #[.int .i64 W] w fun e w' => ∃ x, e = .returned (.tuple #[.pointer (some ⟨x, 0, none⟩), .int .i64 0]) ∧ ∃ S, TAt w' x ⟨W, 0, 0, []⟩ S ∧ (∀ k, S k → w.heap.size ≤ k) ∧ Below w.heap.size w w' := by
  have h1 : ¬ (W : Int) < 1 := by omega
  have h2 : ¬ (4096 : Int) < W := by omega
  go_enter Try.func27, Try.ntmps27
  go_wp2
  refine bodyPost_ret (v := .tuple #[.pointer (some ⟨w.heap.size, 0, none⟩), .int .i64 0]) (by simp [results, Try.results27, go_sem]) rfl ?_
  refine ⟨_, rfl, fun k => k = w.heap.size, ⟨.slice none 0 0, none, ⟨heap_alloc_new w _, ⟨rfl, rfl⟩, ⟨hW1, hW2, Nat.le_refl _, by simp, by simp⟩⟩, rfl, by simp, ?_⟩, ?_, ?_⟩
  · rintro k rfl; simp
  · rintro k rfl; omega
  · exact (Below.refl _ _).alloc (Nat.le_refl _) _

theorem TK.x_ne {w : World} {x : Nat} {p : St} {v : Value} {β : Option Nat} (h : TK w x p v β) : β ≠ some x := by
  rintro rfl
  obtain ⟨cur, h1⟩ := h.row.blk
  have := h.box
  rw [h1] at this
  simp at this

theorem treset_any (x : Nat) (p : St) (S : Nat → Prop) (w : World) (h : TAt w x p S) :
    Calls Try.prog 37 #[.pointer (some ⟨x, 0, none⟩)] w fun e w' => e = .returned (.tuple #[]) ∧ TNow w w' x (resetS p) S := by
  obtain ⟨v, β, hK, hSx, hSβ, hS⟩ := h
  have c0 := cell_row hK.box 0
  have c1 := cell_row hK.box 1
  have c2 := cell_row hK.box 2
  have c3 := cell_row hK.box 3
  simp at c0 c1 c2 c3
  have f0 := frozen_row hK.box 0
  have f1 := frozen_row hK.box 1
  have f2 := frozen_row hK.box 2
  have f3 := frozen_row hK.box 3
  have HK := hd hK
  have HX := hd (And.intro hSx (And.intro hSβ hS))
  clear hK hSx hSβ hS
  go_enter Try.func37, Try.ntmps37
  go_wp2
  refine bodyPost_end (v := .tuple #[]) (by simp [results, Try.results37, go_sem]) rfl ?_
  refine ⟨rfl, ?_⟩
  have hx0 := HK.out.box
  have h1 := set_row (set_row (set_row (set_row hx0 0 (.int .i64 p.W)) 1 (.int .i64 0)) 2 (.int .i64 0)) 3 (.slice none 0 0)
  have hx := block_lt hx0
  refine ⟨fun k => k = x, ⟨.slice none 0 0, none, ⟨by simpa [resetS] using h1, ⟨rfl, rfl⟩, resetS_ok HK.out.ok⟩, rfl, by simp, ?_⟩, ?_, ?_⟩
  · rintro k rfl
    exact block_lt h1
  · rintro k rfl
    exact .inl HX.out.1
  · exact (((Fr.setCell _ _ _ HX.out.1).trans (Fr.setCell _ _ _ HX.out.1)).trans (Fr.setCell _ _ _ HX.out.1)).trans (Fr.setCell _ _ _ HX.out.1)

/-- The things changed to L, the row with them. -/
theorem tnow_left {w u w' : World} {x : Nat} {p : St} {v v' : Value} {β : Option Nat} {S : Nat → Prop} {L : List Int} (h : TK u x p v β) (hB : Below w.heap.size w u) (hSx : S x) (hSβ : ∀ g, β = some g → S g) (hS : ∀ k, S k → k < w.heap.size)
    (hN : NowF eT 6 u w' 63 β v' L) (hok : St.ok { p with L := L }) : TNow w (w'.setCell ⟨x, 3, none⟩ v') x { p with L := L } S := by
  obtain ⟨g', h1, h2, h3⟩ := hN.out
  have hxu : x < u.heap.size := block_lt h.box
  have hxg : g' ≠ x := by
    rintro rfl
    rcases h2 with h2 | h2
    · exact h.x_ne h2
    · omega
  have hx : w'.heap[x]? = some (.cells #[.int .i64 p.W, .int .i64 p.a, .int .i64 p.s, v] 86 (0, 0)) := h3.keeps h.box (fun hb => h.x_ne hb)
  have hF : Fr (· = x) w' (w'.setCell ⟨x, 3, none⟩ v') := Fr.setCell _ _ _ rfl
  have hsz := h3.size
  have hsz2 := hB.size
  have hsz3 := hF.size
  refine ⟨fun k => k = x ∨ k = g', ⟨v', some g', ⟨?_, h1.fr hF (fun g hg => by injection hg with hg; omega), hok⟩, .inl rfl, fun g hg => by injection hg with hg; exact .inr hg.symm, ?_⟩, ?_, ?_⟩
  · have := set_row hx 3 v'
    simpa using this
  · rintro k (rfl | rfl)
    · omega
    · have := h1.lt _ rfl; omega
  · rintro k (rfl | rfl)
    · exact .inl hSx
    · rcases h2 with h2 | h2
      · exact .inl (hSβ _ h2)
      · exact .inr (by omega)
  · exact (Fr.of_below hB).next ((h3.mono (S' := S) (fun k _ hk => hSβ k hk)).next hF (fun k _ hk => by rw [hk]; exact hSx)) (fun k _ hk => hk)

set_option maxHeartbeats 4000000 in
set_option maxRecDepth 100000 in
theorem tdelete_row (g N c d : Nat) (xs : List Int) (w : World) (h0 : 0 < d) (hdN : d ≤ N) (hN : N ≤ 4096) (hc63 : c ≤ 9223372036854775807) (hNc : N ≤ c) (h : Hid (RowF eT 6 w g N c 63 xs)) :
    Calls Try.prog 50 #[.slice (some ⟨g, 0, none⟩) N c, .int .i64 0, .int .i64 d] w fun e w' => e = .returned (.slice (some ⟨g, 0, none⟩) (N - d) c) ∧ RowF eT 6 w' g (N - d) c 63 (xs.drop d) ∧ Fr (· = g) w w' := by
  obtain ⟨i0, hi0, hz0, hz1, hz2⟩ := info_parts Try.infoTh
  obtain ⟨w1, w2, hap, hcr, hR, hF⟩ := row_cut sz_eT (P := Try.prog) w.drew 84 63 i0 _ Try.underlying84 hi0 hz0 hz1 rfl (fun v hv => by simp [Value.cells] at hv; rcases hv with rfl | rfl | rfl | rfl | rfl | rfl <;> rfl) g N c d xs (h.out.fr (S := fun _ => False) (Fr.drew _ w) (fun h => h)) h0 hdN
  have R := hd (And.intro hR ((Fr.drew _ w).trans hF))
  clear hR hF hi0 hz0 hz1 hz2
  have hb1 : (0 : Int) ≤ (d : Int) := by omega
  have hb2 : (d : Int) ≤ (N : Int) := by omega
  have hb3 : ¬ ((0 : Int) = (d : Int)) := by omega
  have hb4 : d ≤ c := by omega
  have hb5 : ¬ (c = N - d) := by omega
  have hb6 : N - (N - d) = d := by omega
  have hb7 : N - d ≤ N := by omega
  go_enter Try.func50, Try.ntmps50
  go_wp2_with fail
  by_cases hcd : c = d
  · subst hcd
    obtain rfl : N = c := by omega
    have hap0 : ∀ ty, (Builtin.append_ #[84, 84] ty #[.slice (some ⟨g, 0, none⟩) 0 N, .slice (some ⟨g, 0, none⟩) 0 0]).run Try.prog w.drew = .ok (.slice (some ⟨g, 0, none⟩) 0 N) w1 := fun ty => by
      have := hap ty ⟨g, 0, none⟩ 0 (.inl rfl)
      rwa [Nat.sub_self] at this
    rw [Nat.sub_self] at R hcr
    simp only [Nat.zero_mul] at hcr
    have hn0 : ¬ N = 0 := by omega
    clear hap hb5 hb6 hb7
    go_region_law (refine step_append_k rfl (.tmp 22) (.tmp 25) 84 84 rfl (.slice (some ⟨g, 0, none⟩) 0 N) (.slice (some ⟨g, 0, none⟩) 0 0) (by simp [Act.eval, Act.put]) (by simp [Act.eval, Act.put]) (hap0 _) ?_)
    go_wp2_with (at_builtin; refine wpList_clear_k _ rfl _ 84 rfl _ rfl (hcr _ _) ?_)
    go_ret
    rw [Nat.sub_self]
    exact ⟨rfl, R.out⟩
  · go_region_law (refine step_append_k rfl (.tmp 22) (.tmp 25) 84 84 rfl (.slice (some ⟨g, 0, none⟩) 0 c) (.slice (some ⟨g, d * 6, none⟩) (N - d) (c - d)) (by simp [Act.eval, Act.put]) (by simp [Act.eval, Act.put]) (hap _ ⟨g, d * 6, none⟩ _ (.inr rfl)) ?_)
    go_wp2_with (at_builtin; refine wpList_clear_k _ rfl _ 84 rfl _ rfl (hcr _ _) ?_)
    go_ret
    exact ⟨rfl, R.out⟩

theorem TAt.now {w w' : World} {x : Nat} {p : St} {S : Nat → Prop} (h : TAt w x p S) (hb : Below w.heap.size w w') : TNow w w' x p S := ⟨S, h.below hb, fun k hk => .inl hk, Fr.of_below hb⟩

set_option maxRecDepth 100000 in
set_option maxHeartbeats 4000000 in
theorem tack_far (x g c d q s n W : Nat) (L : List Int) (S : Nat → Prop) (w : World) (hK : TK w x ⟨W, q, s, L⟩ (.slice (some ⟨g, 0, none⟩) L.length c) (some g)) (hSx : S x) (hSg : S g) (hS : ∀ k, S k → k < w.heap.size)
    (hn : q < n) (hs : n ≤ s) : Calls Try.prog 32 #[.pointer (some ⟨x, 0, none⟩), .int .i64 n] w fun e w' => e = .returned (.int .i64 0) ∧ TNow w w' x ⟨W, n, s, L.drop (n - q)⟩ S := by
  have hok := hK.ok
  have b2 := hok.few
  have b3 := hok.le
  have b4 := hok.sl
  simp only at b2 b3 b4
  have c1 := cell_row hK.box 1
  have c2 := cell_row hK.box 2
  have c3 := cell_row hK.box 3
  have f1 := frozen_row hK.box 1
  have f3 := frozen_row hK.box 3
  simp at c1 c2 c3
  have hgx : g ≠ x := fun h => hK.x_ne (by rw [h])
  obtain ⟨m, hm⟩ : ∃ m, L.length = m := ⟨_, rfl⟩
  have hR : RowF eT 6 w g L.length c 63 L := by
    obtain ⟨cap, h1, h2⟩ := hK.row
    injection h1 with h1 h3 h4
    subst h4
    exact h2
  have hmc : m ≤ c ∧ c ≤ 9223372036854775807 := by
    obtain ⟨cur, -, -, -, h1, h2, -⟩ := hR
    exact ⟨by omega, h2⟩
  have PT : Hid (∀ U, Fr (fun _ => False) w U → Calls Try.prog 50 #[.slice (some ⟨g, 0, none⟩) m c, .int .i64 0, .int .i64 ((n : Int) - q)] U fun e w' => e = .returned (.slice (some ⟨g, 0, none⟩) (m - (n - q)) c) ∧ RowF eT 6 w' g (m - (n - q)) c 63 (L.drop (n - q)) ∧ Fr (· = g) w w') := by
    intro U hU
    rw [show ((n : Int) - q) = ((n - q : Nat) : Int) by omega]
    refine (tdelete_row g m c (n - q) L U (by omega) (by omega) (by omega) hmc.2 hmc.1 (hd (by rw [← hm]; exact hR.fr hU (fun h => h)))).mono ?_
    rintro e w' ⟨rfl, h1, h2⟩
    exact ⟨rfl, h1, (hU.mono (fun _ _ h => h.elim)).trans h2⟩
  have ZZ : Hid (∀ w3, RowF eT 6 w3 g (m - (n - q)) c 63 (L.drop (n - q)) → Fr (· = g) w w3 → w3.heap[x]? = some (.cells #[.int .i64 W, .int .i64 q, .int .i64 s, .slice (some ⟨g, 0, none⟩) m c] 86 (0, 0)) ∧
      ∀ u, Below w3.heap.size ((w3.setCell ⟨x, 3, none⟩ (.slice (some ⟨g, 0, none⟩) (m - (n - q)) c)).setCell ⟨x, 1, none⟩ (.int .i64 n)) u → TNow w u x ⟨W, n, s, L.drop (n - q)⟩ S) := by
    intro w3 h1 h2
    have hbx := h2.keeps hK.box (fun h => hgx h.symm)
    simp only at hbx
    rw [hm] at hbx
    refine ⟨hbx, fun u hu => ?_⟩
    have h3 := set_row (set_row hbx 3 (.slice (some ⟨g, 0, none⟩) (m - (n - q)) c)) 1 (.int .i64 n)
    have F2 : Fr (· = x) w3 ((w3.setCell ⟨x, 3, none⟩ (.slice (some ⟨g, 0, none⟩) (m - (n - q)) c)).setCell ⟨x, 1, none⟩ (.int .i64 n)) := Fr.trans (S := (· = x)) (Fr.setCell _ _ _ rfl) (Fr.setCell _ _ _ rfl)
    have hsz := F2.size
    have hsz2 := h2.size
    have hR3 := h1.fr F2 hgx
    have K3 : TK ((w3.setCell ⟨x, 3, none⟩ (.slice (some ⟨g, 0, none⟩) (m - (n - q)) c)).setCell ⟨x, 1, none⟩ (.int .i64 n)) x ⟨W, n, s, L.drop (n - q)⟩ (.slice (some ⟨g, 0, none⟩) (m - (n - q)) c) (some g) := by
      refine ⟨by simpa using h3, ⟨c, ?_, ?_⟩, ⟨hok.w1, hok.w2, hs, ?_, ?_⟩⟩
      · simp [hm]
      · simpa [hm] using hR3
      · simp [hm]; omega
      · simp [hm]; omega
    have B3 : TAt ((w3.setCell ⟨x, 3, none⟩ (.slice (some ⟨g, 0, none⟩) (m - (n - q)) c)).setCell ⟨x, 1, none⟩ (.int .i64 n)) x ⟨W, n, s, L.drop (n - q)⟩ (fun k => k = x ∨ k = g) := by
      refine ⟨_, some g, K3, .inl rfl, fun k hk => by injection hk with hk; exact .inr hk.symm, ?_⟩
      rintro k (rfl | rfl)
      · exact block_lt h3
      · exact hR3.lt
    have F3 : Fr S w ((w3.setCell ⟨x, 3, none⟩ (.slice (some ⟨g, 0, none⟩) (m - (n - q)) c)).setCell ⟨x, 1, none⟩ (.int .i64 n)) := (h2.mono (fun k _ hk => by rw [hk]; exact hSg)).next F2 (fun k _ hk => by rw [hk]; exact hSx)
    have hu3 : Below ((w3.setCell ⟨x, 3, none⟩ (.slice (some ⟨g, 0, none⟩) (m - (n - q)) c)).setCell ⟨x, 1, none⟩ (.int .i64 n)).heap.size ((w3.setCell ⟨x, 3, none⟩ (.slice (some ⟨g, 0, none⟩) (m - (n - q)) c)).setCell ⟨x, 1, none⟩ (.int .i64 n)) u := by
      simpa using hu
    refine ⟨_, B3.below hu3, ?_, F3.trans (Fr.of_below hu3)⟩
    rintro k (rfl | rfl)
    · exact .inl hSx
    · exact .inl hSg
  have i1 : ¬ (n : Int) < 0 := by omega
  have i2 : ¬ (s : Int) < (n : Int) := by omega
  have i3 : (q : Int) < (n : Int) := by omega
  have hw : IntKind.i64.wrap ((n : Int) - q) = (n : Int) - q := by rw [IntKind.wrap_i64]; omega
  rw [hm] at c3
  clear hK hSx hSg hS hok hR hmc hm
  go_enter Try.func32, Try.ntmps32
  go_wp2_with fail
  go_region_law (first | (go_simp; go_at_call 50; refine (PT.out _ (by repeat (first | exact Fr.refl _ _ | refine Fr.trans ?_ (Fr.drew _ _) | refine Fr.trans ?_ (Fr.drewN _ _ _)))).mono ?_; rintro ex w3 ⟨rfl, h1, h2⟩; have Z1 := ZZ.out _ h1 h2; have k3 := cell_row Z1.1 3; have k1 := cell_row Z1.1 1; simp at k3 k1; have j1 := frozen_row Z1.1 1; have j3 := frozen_row Z1.1 3; have Z2 := hd Z1.2; clear h1 h2 Z1))
  all_goals
    go_wp2
    go_ret
    refine ⟨rfl, Z2.out _ ?_⟩
    repeat (first | exact Below.refl _ _ | refine Below.drew ?_ | refine below_drewN ?_ _)

theorem tack_any (x : Nat) (p : St) (n : Int) (S : Nat → Prop) (w : World) (h : TAt w x p S) :
    Calls Try.prog 32 #[.pointer (some ⟨x, 0, none⟩), .int .i64 n] w fun e w' => e = .returned (.int .i64 (ackE p n)) ∧ TNow w w' x (ackS p n) S := by
  have H := hd h
  obtain ⟨v, β, hK, hSx, hSβ, hS⟩ := h
  have c1 := cell_row hK.box 1
  have c2 := cell_row hK.box 2
  simp at c1 c2
  have hok := hK.ok
  by_cases h1 : n < 0
  · have e1 : Hid (ackE p n = 82 ∧ ackS p n = p) := ⟨by rw [ackE, if_pos (.inl h1)], by rw [ackS, if_neg (by omega)]⟩
    clear hK hSx hSβ hS hok
    go_enter Try.func32, Try.ntmps32
    go_wp2
    go_ret
    rw [e1.out.1, e1.out.2]
    exact ⟨rfl, H.out.now (Below.refl _ _)⟩
  by_cases h2 : (p.s : Int) < n
  · have e1 : Hid (ackE p n = 82 ∧ ackS p n = p) := ⟨by rw [ackE, if_pos (.inr h2)], by rw [ackS, if_neg (by omega)]⟩
    clear hK hSx hSβ hS hok
    go_enter Try.func32, Try.ntmps32
    go_wp2
    go_ret
    rw [e1.out.1, e1.out.2]
    exact ⟨rfl, H.out.now (Below.refl _ _)⟩
  have e0 : ackE p n = 0 := by rw [ackE, if_neg (by omega)]
  rw [e0]
  by_cases h3 : (p.a : Int) < n
  · obtain ⟨m, rfl⟩ : ∃ m : Nat, n = m := ⟨n.toNat, by omega⟩
    rw [ackS, if_pos (by omega), Int.toNat_natCast]
    have := hok.sl
    have := hok.few
    obtain ⟨g, rfl⟩ : ∃ g, β = some g := by
      cases β with
      | none =>
        have hl : p.L.length = 0 := by rw [hK.row.2]; rfl
        omega
      | some g => exact ⟨g, rfl⟩
    obtain ⟨c, rfl, -⟩ := hK.row
    exact tack_far x g c 0 p.a p.s m p.W p.L S w hK hSx (hSβ g rfl) hS (by omega) (by omega)
  · have e1 : Hid (ackS p n = p) := by show _ = _; rw [ackS, if_neg (by omega)]
    clear hK hSx hSβ hS hok e0
    go_enter Try.func32, Try.ntmps32
    go_wp2
    go_ret
    rw [e1.out]
    exact ⟨rfl, H.out.now (Below.refl _ _)⟩

end Go.Proofs.Ytocpfioifamkmaa
