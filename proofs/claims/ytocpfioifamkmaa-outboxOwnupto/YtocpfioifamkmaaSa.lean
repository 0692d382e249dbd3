/-
  sameList; an outbox of strings, new and pushed to; site.
-/
import Derived.Test.YtocpfioifamkmaaMa
import Derived.Deep.QuietTactic
import Derived.BigQuiet
namespace Go.Proofs.Ytocpfioifamkmaa
open Go.RowKit
set_option linter.unusedVariables false

set_option maxRecDepth 100000 in
set_option maxHeartbeats 4000000 in
theorem sameList_true (b b' : Nat) (u u' : Value) (xs : List (Int × Int)) (w : World) (h1 : IL w b u xs) (h2 : IL w b' u' xs) (hn : xs.length ≤ 100000) :
    Calls Try.prog 20 #[u, u'] w fun e w' => e = .returned (.bool true) ∧ Below w.heap.size w w' := by
  obtain ⟨g, c, rfl, hR, -, hc2, hc⟩ := h1.form
  obtain ⟨g', c', rfl, hR', -, hc3, hc4⟩ := h2.form
  obtain ⟨n, hl⟩ : ∃ n, xs.length = n := ⟨_, rfl⟩
  rw [hl] at hR hR' hc hn hc4 ⊢
  have HR := hd hR
  have HR' := hd hR'
  have HL := hd hl
  clear hR hR' hl h1 h2
  go_enter Try.func20, Try.ntmps20
  go_wp2_with fail
  go_loopw [5] (fun v wr => ∃ k : Nat, k ≤ n ∧ v = .int .i64 k ∧ Hid (Below w.heap.size w wr)) (fun v _ => n - (intOf v).toNat)
  case atStart => exact ⟨0, Nat.zero_le _, rfl, Below.refl _ _⟩
  case round =>
    obtain ⟨i, hi, rfl, HB⟩ := hrel
    by_cases hlt : i < n
    · have hil : i < xs.length := by have := HL.out; omega
      have R1 := HR.out.fr (S := fun _ => False) (Fr.of_below HB.out) (fun h => h)
      have R2 := HR'.out.fr (S := fun _ => False) (Fr.of_below HB.out) (fun h => h)
      have c0 : wr.cell? ⟨g, i * 2, none⟩ = some (.int .i64 xs[i].1) := by
        have := R1.cell sz_it i 0 hil (by omega)
        simpa [it] using this
      have c1 : wr.cell? ⟨g, i * 2 + 1, none⟩ = some (.int .i64 xs[i].2) := by
        have := R1.cell sz_it i 1 hil (by omega)
        simpa [it] using this
      have d0 : wr.cell? ⟨g', i * 2, none⟩ = some (.int .i64 xs[i].1) := by
        have := R2.cell sz_it i 0 hil (by omega)
        simpa [it] using this
      have d1 : wr.cell? ⟨g', i * 2 + 1, none⟩ = some (.int .i64 xs[i].2) := by
        have := R2.cell sz_it i 1 hil (by omega)
        simpa [it] using this
      have i1 : (i : Int) < (n : Int) := by omega
      clear R1 R2
      generalize xs[i].1 = z0 at c0 d0
      generalize xs[i].2 = z1 at c1 d1
      clear hil
      go_wp2_with fail
      go_quiet (fail)
      go_wp2_with fail
      exact ⟨⟨i + 1, by omega, by go_num, by repeat (first | exact HB.out | refine Below.drew ?_ | refine below_drewN ?_ _)⟩, by simp [intOf]; omega⟩
    · have i1 : ¬ (i : Int) < (n : Int) := by omega
      go_wp2
      go_ret
      exact ⟨rfl, HB.out⟩

theorem site_two (n : Int) : bits .and .i64 n 1 = n % 2 := by
  have h1 : (BitVec.ofInt 64 1).toNat = 2 ^ 1 - 1 := by decide
  have key : (BitVec.ofInt 64 n &&& BitVec.ofInt 64 1).toNat = (n % ((2 ^ 64 : Nat) : Int)).toNat % 2 ^ 1 := by
    rw [BitVec.toNat_and, BitVec.toNat_ofInt, h1, Nat.and_two_pow_sub_one_eq_mod]
  show IntKind.i64.wrap ((BitVec.ofInt 64 n &&& BitVec.ofInt 64 1).toNat : Nat) = n % 2
  rw [key, IntKind.wrap_i64]
  omega
theorem site_any (n : Int) (w : World) : Calls Try.prog 25 #[.int .i64 n] w fun e w' => e = .returned (.int .i64 (n % 2)) ∧ w' = w := by
  have h := site_two n
  generalize n % 2 = i at h
  go_enter Try.func25, Try.ntmps25
  go_wp2
  go_ret
  exact ⟨rfl, rfl⟩

def es (b : ByteArray) : List Value := [.string b]
theorem sz_es : Sz es 1 := fun x => ⟨rfl, fun v hv => by simp [es] at hv; subst hv; rfl⟩
theorem Try.infoS : (Try.prog.info? 9).map (fun i => (i.zero, i.size, i.bytes)) = some (some (.string ⟨#[]⟩), 1, 16) := by kernel_rfl

/-- An outbox of strings at block x, of which nothing was due. -/
structure GK (w : World) (x : Nat) (L : List ByteArray) (v : Value) (β : Option Nat) : Prop where
  box : w.heap[x]? = some (.cells #[.int .i64 3, .int .i64 0, .int .i64 0, v] 83 (0, 0))
  row : SF es 1 w 9 β v L
  few : L.length ≤ 4096
def GAt (w : World) (x : Nat) (S : Nat → Prop) : Prop := ∃ L v β, GK w x L v β ∧ S x ∧ (∀ g, β = some g → S g) ∧ ∀ k, S k → k < w.heap.size
theorem GK.fr {S : Nat → Prop} {w w' : World} {x : Nat} {L : List ByteArray} {v : Value} {β : Option Nat} (h : GK w x L v β) (hF : Fr S w w') (hx : ¬ S x) (hS : ∀ g, β = some g → ¬ S g) : GK w' x L v β :=
  ⟨hF.keeps h.box hx, h.row.fr hF hS, h.few⟩
theorem GK.below {w w' : World} {x : Nat} {L : List ByteArray} {v : Value} {β : Option Nat} (h : GK w x L v β) (hb : Below w.heap.size w w') : GK w' x L v β :=
  h.fr (S := fun _ => False) (Fr.of_below hb) (fun h => h) (fun _ _ h => h)
def strO (x : Nat) : Thg := fun w S => GAt w x S
theorem frm_str (x : Nat) : Frm (strO x) := ⟨fun w w' S T h hF hS => by
  obtain ⟨L, v, β, h, h1, h2, h3⟩ := h
  exact ⟨L, v, β, h.fr hF (hS x h1) (fun g hg => hS g (h2 g hg)), h1, h2, fun k hk => Nat.lt_of_lt_of_le (h3 k hk) hF.size⟩, fun w S h => by
  obtain ⟨L, v, β, h, -, -, h3⟩ := h
  exact h3⟩
theorem GK.x_ne {w : World} {x : Nat} {L : List ByteArray} {v : Value} {β : Option Nat} (h : GK w x L v β) : β ≠ some x := by
  rintro rfl
  obtain ⟨cur, h1⟩ := h.row.blk
  have := h.box
  rw [h1] at this
  simp at this

theorem snew_any (w : World) : Calls Try.prog 24 #[.int .i64 3] w fun e w' => ∃ x, e = .returned (.tuple #[.pointer (some ⟨x, 0, none⟩), .int .i64 0]) ∧ ∃ S, GAt w' x S ∧ (∀ k, S k → w.heap.size ≤ k) ∧ Below w.heap.size w w' := by
  go_enter Try.func24, Try.ntmps24
  go_wp2
  refine bodyPost_ret (v := .tuple #[.pointer (some ⟨w.heap.size, 0, none⟩), .int .i64 0]) (by simp [results, Try.results24, go_sem]) rfl ?_
  refine ⟨_, rfl, fun k => k = w.heap.size, ⟨[], .slice none 0 0, none, ⟨heap_alloc_new w _, ⟨rfl, rfl⟩, by simp⟩, rfl, by simp, ?_⟩, ?_, ?_⟩
  · rintro k rfl; simp
  · rintro k rfl; omega
  · exact (Below.refl _ _).alloc (Nat.le_refl _) _

theorem slast_gk (x : Nat) (L : List ByteArray) (v : Value) (β : Option Nat) (w : World) (h : GK w x L v β) :
    Calls Try.prog 49 #[.pointer (some ⟨x, 0, none⟩)] w fun e w' => e = .returned (.int .i64 L.length) ∧ Below w.heap.size w w' := by
  obtain ⟨a, c, rfl, -⟩ := h.row.form
  have c1 := cell_row h.box 1
  have c3 := cell_row h.box 3
  have hf := h.few
  simp at c1 c3
  obtain ⟨n, hn⟩ : ∃ n, L.length = n := ⟨_, rfl⟩
  rw [hn] at c3 hf ⊢
  clear h hn
  go_enter Try.func49, Try.ntmps49
  go_wp2_with fail
  go_region
  go_wp2
  go_ret
  exact ⟨rfl, by repeat (first | exact Below.refl _ _ | refine Below.drew ?_ | refine below_drewN ?_ _)⟩

theorem push_str (w : World) (β : Option Nat) (v : Value) (xs : List ByteArray) (hv : SF es 1 w 9 β v xs) (b : Nat) (x : ByteArray) (hb : w.heap[b]? = some (.cells #[.string x] 9 (0, 0))) (hn : xs.length ≤ 100000) :
    ∃ v' w', (∀ ty, (Builtin.append_ #[81, 81] ty #[v, .slice (some ⟨b, 0, none⟩) 1 1]).run Try.prog w = .ok v' w') ∧ NowF es 1 w w' 9 β v' (xs ++ [x]) := by
  obtain ⟨i0, hi0, hz0, hz1, hz2⟩ := info_parts Try.infoS
  obtain ⟨v', w', hr, hN⟩ := run_pushF sz_es (P := Try.prog) w 81 0 9 i0 _ 16 Try.underlying81 hi0 hz0 hz1 rfl hz2 β v xs hv ⟨b, 0, none⟩ 1 1 [x] rfl (fun j u hj => by
    rw [cl_one] at hj
    cases j with
    | zero => rw [add_lit, cell_row hb]; simpa [es] using hj
    | succ j => simp [es] at hj) (by omega) (by omega) (by omega)
  exact ⟨v', w', fun ty => hr, hN⟩

theorem gnow_left {w u w' : World} {x : Nat} {L0 : List ByteArray} {v v' : Value} {β : Option Nat} {S : Nat → Prop} {L : List ByteArray} (h : GK u x L0 v β) (hB : Below w.heap.size w u) (hSx : S x) (hSβ : ∀ g, β = some g → S g)
    (hN : NowF es 1 u w' 9 β v' L) (hok : L.length ≤ 4096) : ∃ S', GAt (w'.setCell ⟨x, 3, none⟩ v') x S' ∧ (∃ L v β, GK (w'.setCell ⟨x, 3, none⟩ v') x L v β) ∧ (∀ k, S' k → S k ∨ w.heap.size ≤ k) ∧ Fr S w (w'.setCell ⟨x, 3, none⟩ v') := by
  obtain ⟨g', h1, h2, h3⟩ := hN.out
  have hxu : x < u.heap.size := block_lt h.box
  have hxg : g' ≠ x := by
    rintro rfl
    rcases h2 with h2 | h2
    · exact h.x_ne h2
    · omega
  have hx := h3.keeps h.box (fun hb => h.x_ne hb)
  have hF : Fr (· = x) w' (w'.setCell ⟨x, 3, none⟩ v') := Fr.setCell _ _ _ rfl
  have hsz := h3.size
  have hsz2 := hB.size
  have hsz3 := hF.size
  have K : GK (w'.setCell ⟨x, 3, none⟩ v') x L v' (some g') := by
    refine ⟨?_, h1.fr hF (fun g hg => by injection hg with hg; omega), hok⟩
    have := set_row hx 3 v'
    simpa using this
  refine ⟨fun k => k = x ∨ k = g', ⟨L, v', some g', K, .inl rfl, fun g hg => by injection hg with hg; exact .inr hg.symm, ?_⟩, ⟨_, _, _, K⟩, ?_, ?_⟩
  · rintro k (rfl | rfl)
    · omega
    · have := h1.lt _ rfl; omega
  · rintro k (rfl | rfl)
    · exact .inl hSx
    · rcases h2 with h2 | h2
      · exact .inl (hSβ _ h2)
      · exact .inr (by omega)
  · exact (Fr.of_below hB).next ((h3.mono (S' := S) (fun k _ hk => hSβ k hk)).next hF (fun k _ hk => by rw [hk]; exact hSx)) (fun k _ hk => hk)

set_option maxRecDepth 100000 in
set_option maxHeartbeats 2000000 in
theorem spush_any (x : Nat) (y : ByteArray) (S : Nat → Prop) (w : World) (h : GAt w x S) :
    Calls Try.prog 26 #[.pointer (some ⟨x, 0, none⟩), .string y] w fun e w' => (∃ a b, e = .returned (.tuple #[.int .i64 a, .int .i64 b])) ∧ ∃ S', GAt w' x S' ∧ (∀ k, S' k → S k ∨ w.heap.size ≤ k) ∧ Fr S w w' := by
  obtain ⟨L, v, β, hK, hSx, hSβ, hS⟩ := h
  have HK := hd hK
  have HX := hd (And.intro hSx (And.intro hSβ hS))
  have hf := hK.few
  obtain ⟨m, hm⟩ : ∃ m, L.length = m := ⟨_, rfl⟩
  rw [hm] at hf
  have HM := hd hm
  clear hK hSx hSβ hS
  by_cases hl : 4096 ≤ m
  · have hl' : (4096 : Int) ≤ (m : Int) := by omega
    go_enter Try.func26, Try.ntmps26
    go_wp2_with fail
    refine (slast_gk x L v β w HK.out).mono ?_
    rintro e w1 ⟨rfl, hb⟩
    have HB := hd hb
    clear hb
    rw [hm]
    clear hm
    go_wp2
    refine bodyPost_ret (v := .tuple #[.int .i64 0, .int .i64 81]) (by simp [results, Try.results26, go_sem]) rfl ?_
    exact ⟨⟨_, _, rfl⟩, S, ⟨L, v, β, HK.out.below HB.out, HX.out.1, HX.out.2.1, fun k hk => Nat.lt_of_lt_of_le (HX.out.2.2 k hk) HB.out.size⟩, fun k hk => .inl hk, Fr.of_below HB.out⟩
  · have hl' : ¬ (4096 : Int) ≤ (m : Int) := by omega
    go_enter Try.func26, Try.ntmps26
    go_wp2_with fail
    refine (slast_gk x L v β w HK.out).mono ?_
    rintro e w1 ⟨rfl, hb⟩
    have K1 := HK.out.below hb
    have c3 := cell_row K1.box 3
    simp at c3
    obtain ⟨v', w', hr, hN⟩ := push_str (w1.alloc (.cells #[.string y] 9)) β v L (SF.fr (S := fun _ => False) K1.row (Fr.alloc _ _ _) (fun _ _ h => h)) w1.heap.size y (heap_alloc_new w1 _) (by omega)
    obtain ⟨a', n', c', rfl⟩ : ∃ a' n' c', v' = .slice a' n' c' := by
      obtain ⟨g', h1, -⟩ := hN
      obtain ⟨a', c', h, -⟩ := h1.form
      exact ⟨a', _, c', h⟩
    have K2 := K1.below ((Below.refl _ _).alloc (Nat.le_refl _) (.cells #[.string y] 9))
    have hx3 : w'.heap[x]? = some (.cells #[.int .i64 3, .int .i64 0, .int .i64 0, v] 83 (0, 0)) := by
      obtain ⟨g', -, -, h3⟩ := hN.out
      exact h3.keeps K2.box (fun hb => K2.x_ne hb)
    have d3 := cell_row hx3 3
    simp at d3
    have f3 := frozen_row hx3 3
    have Z := gnow_left (S := S) K2 (hb.trans ((Below.refl _ _).alloc hb.size _)) HX.out.1 HX.out.2.1 hN (by simp; omega)
    obtain ⟨S', Z1, ⟨L2, v2, β2, K3⟩, Z2, Z3⟩ := Z
    have HZ := hd (And.intro Z1 (And.intro Z2 Z3))
    have HK3 := hd K3
    clear Z1 Z2 Z3 K3 K2 hx3 hN K1 hb
    rw [hm]
    clear hm
    go_wp2_with (at_builtin; refine wpList_append_k _ rfl _ _ 81 81 rfl _ _ rfl rfl (hr _) ?_)
    refine (slast_gk x _ v2 β2 _ HK3.out).mono ?_
    rintro e w3 ⟨rfl, hb3⟩
    have HB3 := hd hb3
    clear hb3
    go_wp2
    refine bodyPost_ret (v := .tuple #[.int .i64 L2.length, .int .i64 0]) (by simp [results, Try.results26, go_sem]) rfl ?_
    refine ⟨⟨_, _, rfl⟩, S', (frm_str x).fr _ _ _ (fun _ => False) HZ.out.1 (Fr.of_below HB3.out) (fun _ _ h => h), HZ.out.2.1, HZ.out.2.2.trans (Fr.of_below HB3.out)⟩

theorem mo_spush {w0 w : World} {K : Nat → Prop} {F : Nat → Thg} {x : Nat} (h : MO w0 w K F) (i : Nat) (hi : F i = strO x) (y : ByteArray) : Calls Try.prog 26 #[.pointer (some ⟨x, 0, none⟩), .string y] w fun e w' => (∃ a b, e = .returned (.tuple #[.int .i64 a, .int .i64 b])) ∧ MO w0 w' K F ∧ KP K w w' := by
  obtain ⟨S, h1, h2⟩ := h.now i
  rw [hi] at h1
  refine (spush_any x y S w h1).mono ?_
  rintro e w' ⟨he, S', h3, h4, h5⟩
  obtain ⟨h6, h7⟩ := h2 (strO x) w' S' (frm_str x) h3 h4 h5
  refine ⟨he, ?_, h7⟩
  have : setO F i (strO x) = F := by
    funext j
    unfold setO
    split
    · next hj => rw [hj, hi]
    · rfl
  rwa [this] at h6

end Go.Proofs.Ytocpfioifamkmaa
