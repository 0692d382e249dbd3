/-
  Texts put together: Hd Hf Hg.
-/
import Derived.Test.YtkkklfnooeofcaaMHa
import Derived.Test.YtkkklfnooeofcaaGd
import Derived.Test.YtkkklfnooeofcaaFc
import Derived.Test.YtkkklfnooeofcaaIg
/-! Hd -/
namespace Go.Proofs.Ytkkklfnooeofcaa
open Go.RowKit Go.Maps Go.ChangeMaps Go.MapKept Go.WideMaps
set_option linter.unusedVariables false

theorem SF.iv {w : World} {β : Option Nat} {a : Option Addr} {n c : Nat} {xs : List Int} (h : SF ic 1 w 3 β (.slice a n c) xs) (k : Nat) (hk : k < xs.length) : ∃ b, a = some ⟨b, 0, none⟩ ∧ w.cell? ⟨b, k, none⟩ = some (.int .i64 xs[k]) := by
  cases β with
  | none =>
    obtain ⟨-, rfl⟩ := h
    simp at hk
  | some g =>
    obtain ⟨cap, h, hR⟩ := h
    injection h with h1 h2 h3
    refine ⟨g, h1, ?_⟩
    have := hR.cell sz_ic k 0 hk (by omega)
    simpa [ic] using this

set_option maxRecDepth 100000 in
set_option maxHeartbeats 4000000 in
theorem eqInts_true (u v : Value) (β β' : Option Nat) (xs : List Int) (w : World) (hu : SF ic 1 w 3 β u xs) (hv : SF ic 1 w 3 β' v xs) :
    Calls Try.prog 17 #[u, v] w fun e w' => e = .returned (.bool true) ∧ ∃ m, w' = w.drewN m := by
  obtain ⟨a1, c, rfl, hc, hc'⟩ := hu.form
  obtain ⟨a2, d, rfl, hd1, hd2⟩ := hv.form
  have RU := hd (fun k hk => hu.iv k hk)
  have RV := hd (fun k hk => hv.iv k hk)
  obtain ⟨n, hn⟩ : ∃ n, xs.length = n := ⟨_, rfl⟩
  rw [hn] at hc hd1 ⊢
  have HN := hd hn
  clear hu hv hn
  go_enter Try.func17, Try.ntmps17
  go_wp2
  go_loopw [5] (fun i wr => ∃ k m : Nat, k ≤ n ∧ i = .int .i64 k ∧ wr = w.drewN m) (fun i _ => n - (intOf i).toNat)
  case atStart => exact ⟨0, 0, Nat.zero_le _, rfl, rfl⟩
  case round =>
    obtain ⟨k, m, hk, rfl, rfl⟩ := hrel
    by_cases hlt : k < n
    · have kx : k < xs.length := by have := HN.out; omega
      obtain ⟨b1, rfl, x0⟩ := RU.out k kx
      obtain ⟨b2, rfl, y0⟩ := RV.out k kx
      have i1 : (k : Int) < (n : Int) := by omega
      generalize xs[k] = x at *
      go_wp2
      go_quiet (fail)
      go_wp2
      exact ⟨⟨k + 1, _, by omega, by go_num, rfl⟩, by simp [intOf]; omega⟩
    · obtain rfl : k = n := by omega
      go_wp2
      go_ret
      exact ⟨rfl, _, rfl⟩

/-- The notes as All tells them, and the numbers so far. -/
structure CvL (w u : World) (O : Nat → Prop) (r g : Nat) (a : Option Addr) (n c : Nat) (xs : List El) (Ns : List Nt) (b0 : Option Nat) (v0 : Value) (L : List TN) (b1 : Option Nat) (v1 : Value) (A : List Int) : Prop where
  nu : NuE w u O r g a n c xs Ns
  be : SF tnc 8 u 37 b0 v0 L
  wa : SF ic 1 u 3 b1 v1 A
  n1 : ∀ k, b1 = some k → ¬ O k ∧ w.heap.size ≤ k ∧ ∀ b off, a = some ⟨b, off, none⟩ → b ≠ k
section
variable {w u u' : World} {O : Nat → Prop} {r g n c : Nat} {a : Option Addr} {xs : List El} {Ns : List Nt} {b0 b1 : Option Nat} {v0 v1 : Value} {L : List TN} {A : List Int}
theorem CvL.below (h : CvL w u O r g a n c xs Ns b0 v0 L b1 v1 A) (hb : Below u.heap.size u u') : CvL w u' O r g a n c xs Ns b0 v0 L b1 v1 A :=
  ⟨h.nu.below hb, h.be.fr (S := fun _ => False) (Fr.of_below hb) (fun _ _ h => h), h.wa.fr (S := fun _ => False) (Fr.of_below hb) (fun _ _ h => h), h.n1⟩
theorem CvL.push (h : CvL w u O r g a n c xs Ns b0 v0 L b1 v1 A) (z : Int) (hl : A.length + 1 ≤ 100000) :
    ∃ v' w' β', (∀ ty, (Builtin.append_ #[22, 22] ty #[v1, .slice (some ⟨u.heap.size, 0, none⟩) 1 1]).run Try.prog (u.alloc (.cells #[.int .i64 z] 3)) = .ok v' w') ∧ CvL w w' O r g a n c xs Ns b0 v0 L β' v' (A ++ [z]) := by
  obtain ⟨i0, hi0, hz0, hz1, hz2⟩ := info_parts Try.infoI
  have hb : Below u.heap.size u (u.alloc (.cells #[.int .i64 z] 3)) := (Below.refl _ _).alloc (Nat.le_refl _) _
  have h' := h.below hb
  have hz := heap_alloc_new u (.cells #[.int .i64 z] 3)
  obtain ⟨v', w', hr, g', h1, h2⟩ := run_pushF sz_ic (P := Try.prog) (u.alloc (.cells #[.int .i64 z] 3)) 22 0 3 i0 _ 8 Try.underlying22 hi0 hz0 hz1 rfl hz2 b1 v1 A h'.wa ⟨u.heap.size, 0, none⟩ 1 1 [z] rfl (fun j x hj => by
    rw [add_lit, Nat.zero_add, cell_row hz]
    simp only [cl_one] at hj
    simpa [ic] using hj) (by omega) (by omega) (by omega)
  have hlow := h'.nu.low
  have hg' : ¬ O g' ∧ w.heap.size ≤ g' ∧ ∀ b off, a = some ⟨b, off, none⟩ → b ≠ g' := by
    rcases h2 with ⟨e, -⟩ | ⟨e, -⟩
    · exact h.n1 g' e
    · refine ⟨fun ho => ?_, by rw [e]; exact hlow.size, fun b off e1 => ?_⟩
      · have := h'.nu.bd.old g' ho; omega
      · have := (h'.nu.ap b off e1).2
        omega
  have hF : Fr (· = g') (u.alloc (.cells #[.int .i64 z] 3)) w' := by
    rcases h2 with ⟨-, hf⟩ | ⟨-, hf⟩
    · exact hf
    · exact hf.mono (fun _ _ h => h.elim)
  have hb0 : ∀ k, b0 = some k → ¬ k = g' := by
    rintro k hk rfl
    have hbe := h'.be
    rw [hk] at hbe
    obtain ⟨cur, hc⟩ := hbe.blk
    rcases h2 with ⟨e, -⟩ | ⟨e, -⟩
    · have hrow := h'.wa
      rw [e] at hrow
      obtain ⟨cur2, hcur⟩ := hrow.blk
      exact ty_ne hc hcur (by decide) rfl
    · have := block_lt hc
      omega
  exact ⟨v', w', some g', fun ty => hr, h'.nu.fr hF hg'.1 hg'.2.2 hg'.2.1, h'.be.fr hF hb0, h1, fun k hk => by cases hk; exact hg'⟩
/-- Another text, newly made, anywhere. -/
theorem NuE.textS (h : NuE w u O r g a n c xs Ns) (hb : Below u.heap.size u u') {β : Option Nat} {a' : Option Addr} {n' c' : Nat} {ys : List El} (hS : SF elc 3 u' 57 β (.slice a' n' c') ys) (hn : ∀ k, β = some k → u.heap.size ≤ k) : NuE w u' O r g a' n' c' ys Ns := by
  refine ⟨h.bd.below hb, se_isE (sf_se hS), fun b off e => ?_, h.new, h.low.trans (hb.mono h.low.size)⟩
  cases β with
  | none =>
    obtain ⟨h1, -⟩ := hS
    injection h1 with h1
    rw [e] at h1
    cases h1
  | some q =>
    have hq := hn q rfl
    have hlt := (sf_se hS).lt q rfl
    obtain ⟨cap, h1, -⟩ := hS
    injection h1 with h1
    rw [e] at h1
    injection h1 with h1
    injection h1 with h1
    subst h1
    exact ⟨fun ho => by have := h.bd.old b ho; omega, hlt⟩
end

/-- Every third is shut. -/
def shR (Ns : List Nt) : Prop := ∀ n ∈ Ns, n.sh = decide (n.id % 3 = 0)
theorem shR.snoc {Ns : List Nt} (h : shR Ns) (n : Nt) (hn : n.sh = decide (n.id % 3 = 0)) : shR (Ns ++ [n]) := by
  intro m hm
  rcases List.mem_append.1 hm with hm | hm
  · exact h m hm
  · rw [List.mem_singleton.1 hm]; exact hn
theorem idsR.get {k : Nat} {Ns : List Nt} (h : idsR k Ns) (i : Nat) (hi : i < Ns.length) : Ns[i].id = i + 1 := by
  have := congrArg (fun l => l[i]?) h.1
  simp only [List.getElem?_map, List.getElem?_eq_getElem hi, Option.map_some] at this
  have hk := h.len
  rw [List.getElem?_range' (by omega)] at this
  simp at this
  omega
/-- What the law gathers is what At tells. -/
def cvT (pos : Int) (t : TN) : Bool := !t.n.sh && (!((t.s.1 : Int) == (t.s.2 : Int)) && (decide ((t.s.1 : Int) ≤ pos) && decide (pos < (t.s.2 : Int))))
theorem cv_cov {xs : List El} {pos : Int} {t : TN} (h : t.s = reachP xs t.n.el) : cvT pos t = cov xs pos t.n := by
  unfold cvT cov
  rw [← h]
  cases t.n.sh
  · by_cases h1 : (t.s.1 : Int) = (t.s.2 : Int)
    · by_cases h2 : (t.s.1 : Int) ≤ pos <;> by_cases h3 : pos < (t.s.2 : Int) <;> simp [h2, h3] <;> omega
    · have : ((t.s.1 : Int) == (t.s.2 : Int)) = false := by rw [beq_eq_false_iff_ne]; exact h1
      rw [this]
      simp
  · simp
theorem cv_list {xs : List El} {pos : Int} {L : List TN} {Ns : List Nt} (h : L.map TN.n = Ns) (hs : ∀ t ∈ L, t.s = reachP xs t.n.el) : (L.filter (cvT pos)).map (fun t => (t.n.id : Int)) = atP xs pos Ns := by
  unfold atP
  rw [← h, List.filter_map, List.map_map]
  have : L.filter (cvT pos) = L.filter (cov xs pos ∘ TN.n) := List.filter_congr fun t ht => cv_cov (hs t ht)
  rw [this]
  rfl
theorem take_mf {α β : Type} (p : α → Bool) (f : α → β) (L : List α) (i : Nat) (hi : i < L.length) : ((L.take (i + 1)).filter p).map f = ((L.take i).filter p).map f ++ (if p L[i] then [f L[i]] else []) := by
  rw [List.take_add_one, List.getElem?_eq_getElem hi, List.filter_append, List.map_append]
  simp only [Option.toList]
  cases h : p L[i] <;> simp [h]

end Go.Proofs.Ytkkklfnooeofcaa

/-! Hf -/
namespace Go.Proofs.Ytkkklfnooeofcaa
open Go.RowKit Go.Maps Go.ChangeMaps Go.MapKept Go.WideMaps
set_option linter.unusedVariables false

theorem IsE.src {w : World} {a : Option Addr} {n c : Nat} {xs : List El} (h : IsE w a n c xs) : 0 < n → ∃ ad, a = some ad ∧ ∀ j u, (cl elc xs)[j]? = some u → w.cell? (ad.add j) = some u := fun hn => by
  obtain ⟨b, off, e, -, -⟩ := h.2.2.2 hn
  subst e
  exact ⟨_, rfl, isE_cells h hn⟩
theorem two_apps {u : World} {aw : Option Addr} {nW cW : Nat} {ws : List El} {av : Option Addr} {n cv : Nat} {xs : List El} (hW : IsE u aw nW cW ws) (hX : IsE u av n cv xs) (hW24 : nW * 24 ≤ 140737488351232) (hn : n ≤ 2048) :
    ∃ v1 u1 a2 c2 u2 β2, (∀ ty, (Builtin.append_ #[23, 23] ty #[.slice none 0 0, .slice aw nW cW]).run Try.prog u = .ok v1 u1) ∧ (∀ ty, (Builtin.append_ #[23, 23] ty #[v1, .slice av n cv]).run Try.prog u1 = .ok (.slice a2 (nW + n) c2) u2) ∧
      SF elc 3 u2 57 β2 (.slice a2 (nW + n) c2) (ws ++ xs) ∧ (∀ k, β2 = some k → u.heap.size ≤ k) ∧ Below u.heap.size u u2 := by
  obtain ⟨i0, hi0, hz0, hz1, hz2⟩ := info_parts Try.infoE
  obtain ⟨v1, u1, β1, r1, S1, B1, F1⟩ := run_appS sz_elc u 23 57 i0 _ 24 Try.underlying23 hi0 hz0 hz1 rfl hz2 none (.slice none 0 0) [] ⟨rfl, rfl⟩ aw nW cW ws hW.1 hW.src (by rw [List.length_nil, Nat.zero_add]; unfold roomy; omega)
  have b1 : Below u.heap.size u u1 := F1.below (Nat.le_refl _) (fun k hk => by cases hk)
  have hl : ws.length = nW := hW.1
  obtain ⟨v2, u2, β2, r2, S2, B2, F2⟩ := run_appS sz_elc u1 23 57 i0 _ 24 Try.underlying23 hi0 hz0 hz1 rfl hz2 β1 v1 ([] ++ ws) S1 av n cv xs hX.1 (hX.below b1).src (by rw [List.nil_append, hl]; unfold roomy; omega)
  have hβ1 : ∀ k, β1 = some k → u.heap.size ≤ k := by
    intro k hk
    rcases B1 with e | ⟨g, e, hg⟩
    · rw [e] at hk; cases hk
    · rw [e] at hk; cases hk; exact hg
  obtain ⟨a2, c2, hv2, -, -⟩ := S2.form
  rw [List.nil_append, List.length_append, hl, hX.1] at hv2
  subst hv2
  refine ⟨v1, u1, a2, c2, u2, β2, r1, r2, S2, fun k hk => ?_, b1.trans (F2.below b1.size hβ1)⟩
  rcases B2 with e | ⟨g, e, hg⟩
  · rw [e] at hk; exact hβ1 k hk
  · rw [e] at hk; cases hk; exact Nat.le_trans b1.size hg

end Go.Proofs.Ytkkklfnooeofcaa

/-! Hg -/
namespace Go.Proofs.Ytkkklfnooeofcaa
open Go.RowKit Go.Maps Go.ChangeMaps Go.MapKept Go.WideMaps
set_option linter.unusedVariables false

def WBe (w : World) (L : Nat → Prop) (val : Nat → Value) (u : World) : Prop := Below w.heap.size w u

noncomputable def opsCoA : Array Oper := (Try.f3.body.bind (opsAt 24)).getD #[]
theorem opsCoA_size : opsCoA.size = 34 := by kernel_rfl
theorem opsCoA_earlier : Earlier opsCoA := by
  have h : (List.range 34).all (fun i => ((opsCoA[i]?).map (fun o => o.after.all (fun e => !Region.binds .any e || decide (e.on < i)))).getD true) = true := by kernel_rfl
  intro i o ho e he hb
  have hi : i < 34 := by
    have := (Array.getElem?_eq_some_iff.1 ho).1
    rwa [opsCoA_size] at this
  have h1 := List.all_eq_true.1 h i (List.mem_range.2 hi)
  rw [ho] at h1
  simp only [Option.map_some, Option.getD_some, Array.all_eq_true'] at h1
  have h2 := h1 e he
  rw [hb] at h2
  simpa using h2
def slCoA (j : Nat) : Nat := ([101, 102, 103, 104, 105, 106, 107, 108, 109, 110, 111, 112, 113, 114, 115, 116, 117, 118, 119, 120, 121, 122, 123, 124, 125, 126, 127, 128, 129, 130, 131, 132, 133, 134] : List Nat).getD j 0
def DCoA : List Nat := [0, 1, 2, 3, 4, 5, 6, 7, 8, 9, 10, 11, 12, 13, 14, 15, 16, 17, 18, 19, 20, 21, 22, 23, 24, 25, 26, 27, 28, 29, 30, 31, 32, 33]
def VCoA (q m c0 g gA sl cl2 sl2 cl3 : Nat) (al al2 : Option Addr) (cc rf rt sf st rm : Int) (wo : ByteArray) (gn gn2 : Bool) (j : Nat) : Option Value := [some (.int .i64 0), some (.bool false), some (.bool false), some (.slice (some ⟨g, 0, none⟩) m c0), some (.int .i64 (q : Int)), some (.pointer (some ⟨g, q * 8, none⟩)), some (.pointer (some ⟨g, q * 8, none⟩)), some (.int .i64 ((q : Int) + 1)), some (.int .i64 (q : Int)), some (.int .i64 ((q : Int) + 1)), some (.bool false), some (.bool false), some (.bool false), some (.agg #[.int .i64 ((q : Int) + 1), .int .i64 cc, .string wo, .int .i64 rf, .int .i64 rt, .bool gn, .bool true, .slice al sl cl2]), some (.slice (some ⟨g, 0, none⟩) m c0), some (.int .i64 (q : Int)), some (.pointer (some ⟨g, q * 8, none⟩)), some (.agg #[.int .i64 ((q : Int) + 1), .int .i64 cc, .string wo, .int .i64 sf, .int .i64 st, .bool gn2, .bool true, .slice al2 sl2 cl3]), some (.bool true), some (.bool false), some (.bool false), some (.bool false), some (.pointer (some ⟨gA, 6, none⟩)), some (.bool true), some (.int .i64 (q : Int)), some (.bool true), some (.bool true), some (.int .i64 (q : Int)), some (.int .i64 ((q : Int) + 1)), some (.int .i64 0), some (.bool true), some (.bool true), some (.bool false), some (.bool false)].getD j none
set_option maxRecDepth 100000 in
set_option maxHeartbeats 4000000 in
theorem regCoA (a0 : Act) (w : World) {Q : Exit → Act → World → Prop} (q m c0 g gA sl cl2 sl2 cl3 : Nat) (al al2 : Option Addr) (cc rf rt sf st rm : Int) (wo : ByteArray) (gn gn2 : Bool) (hq : q < m) (hm : m ≤ 256) (hg : g < w.heap.size) (hgA : gA < w.heap.size) (hy0 : w.cell? ⟨gA, 0, none⟩ = some (.int .i64 ((q : Int) + 1))) (hy1 : w.cell? ⟨gA, 1, none⟩ = some (.int .i64 cc)) (hy2 : w.cell? ⟨gA, 2, none⟩ = some (.string wo)) (hy3 : w.cell? ⟨gA, 3, none⟩ = some (.int .i64 rf)) (hy4 : w.cell? ⟨gA, 4, none⟩ = some (.int .i64 rt)) (hy5 : w.cell? ⟨gA, 5, none⟩ = some (.bool gn)) (hy6 : w.cell? ⟨gA, 6, none⟩ = some (.bool true)) (hy7 : w.cell? ⟨gA, 7, none⟩ = some (.slice al sl cl2)) (hx0 : w.cell? ⟨g, q * 8, none⟩ = some (.int .i64 ((q : Int) + 1))) (hx1 : w.cell? ⟨g, q * 8 + 1, none⟩ = some (.int .i64 cc)) (hx2 : w.cell? ⟨g, q * 8 + 2, none⟩ = some (.string wo)) (hx3 : w.cell? ⟨g, q * 8 + 3, none⟩ = some (.int .i64 sf)) (hx4 : w.cell? ⟨g, q * 8 + 4, none⟩ = some (.int .i64 st)) (hx5 : w.cell? ⟨g, q * 8 + 5, none⟩ = some (.bool gn2)) (hx6 : w.cell? ⟨g, q * 8 + 6, none⟩ = some (.bool true)) (hx7 : w.cell? ⟨g, q * 8 + 7, none⟩ = some (.slice al2 sl2 cl3)) (CQ : ∀ W, Below w.heap.size w W → Calls Try.prog 16 #[.agg #[.int .i64 ((q : Int) + 1), .int .i64 cc, .string wo, .int .i64 rf, .int .i64 rt, .bool gn, .bool true, .slice al sl cl2], .agg #[.int .i64 ((q : Int) + 1), .int .i64 cc, .string wo, .int .i64 sf, .int .i64 st, .bool gn2, .bool true, .slice al2 sl2 cl3]] W fun e w' => e = .returned (.bool true) ∧ Below W.heap.size W w') (hpos : Hid ((0 : Int) < (q : Int))) (hrm : Hid (((q : Int) + 1).tmod 3 = 0)) (hr0 : Hid True) (hzz : 134 < a0.tmps.size) (H18 : a0.eval (.tmp 18) = .int .i64 0) (H15 : a0.eval (.tmp 15) = .slice (some ⟨g, 0, none⟩) m c0) (H16 : a0.eval (.tmp 16) = .int .i64 (q : Int)) (H17 : a0.eval (.tmp 17) = .pointer (some ⟨gA, 0, none⟩))
    (hK : ∀ (L : Nat → Prop) (val : Nat → Value) (u : World), (∀ i, i < 34 → L i) → WBe w L val u → (∀ j, (VCoA q m c0 g gA sl cl2 sl2 cl3 al al2 cc rf rt sf st rm wo gn gn2) j = none ∨ (VCoA q m c0 g gA sl cl2 sl2 cl3 al al2 cc rf rt sf st rm wo gn gn2) j = some (val j) ∨ j ∉ DCoA) → Q .normal (puts a0 (DCoA.map fun j => (slCoA j, val j))) u) :
    (Code.region 24 opsCoA true).wp Try.prog Q a0 w := by
  have inj : ∀ i ∈ DCoA, ∀ j ∈ DCoA, slCoA i = slCoA j → i = j := by
    have h : DCoA.all (fun i => DCoA.all (fun j => decide (slCoA i = slCoA j → i = j))) = true := by kernel_rfl
    intro i hi j hj he
    exact (of_decide_eq_true (List.all_eq_true.1 (List.all_eq_true.1 h i hi) j hj)) he
  have hz : ∀ j ∈ DCoA, slCoA j < a0.tmps.size := by
    have h : DCoA.all (fun i => decide (slCoA i ≤ 134)) = true := by kernel_rfl
    intro j hj
    have := of_decide_eq_true (List.all_eq_true.1 h j hj)
    omega
  have hcg : ∀ (L L' : Nat → Prop) (val val' : Nat → Value) u, (∀ k ∈ ([] : List Nat), (L' k ↔ L k)) → (∀ k ∈ ([] : List Nat), val' k = val k) → WBe w L val u → WBe w L' val' u := by
    intro L L' val val' u hl hv hw
    exact hw
  have hKD : ∀ k ∈ ([] : List Nat), k ∈ DCoA := by decide
  refine wp_region_inv (by kernel_rfl) opsCoA_earlier (fun L a u => JR opsCoA slCoA DCoA (VCoA q m c0 g gA sl cl2 sl2 cl3 al al2 cc rf rt sf st rm wo gn gn2) a0 (WBe w) L a u) ?_ ?_ ?_
  · rintro L L' a' u i o h ho hno hall hu
    clear hK
    have q18 := (h.fe.ev (j := 18) (by decide)).trans H18
    have q15 := (h.fe.ev (j := 15) (by decide)).trans H15
    have q16 := (h.fe.ev (j := 16) (by decide)).trans H16
    have q17 := (h.fe.ev (j := 17) (by decide)).trans H17
    have hi : i < 34 := by
      have := (Array.getElem?_eq_some_iff.1 ho).1
      rwa [opsCoA_size] at this
    match i, hi with
    | 0, _ =>
      refine og_move (g := none) ho (.tmp 18) (d := some 101) (by kernel_rfl) trivial q18 ?_
      exact h.next hcg hKD ho hall (by decide) (by decide) (by decide) inj hz hu rfl
    | 1, _ =>
      obtain ⟨h1, h2, h3⟩ := flds (d := some 102) (p := Op.binOp .neq 29 (.tmp 101) (.const (.int .i64 0)) 29) (g := none) ho (by kernel_rfl)
      have g0 := (show a'.eval (.tmp 101) = .int .i64 0 from h.e 0 (by decide) (dep ho hall 0 (by kernel_rfl)) _ rfl)
      refine og_plain ho h3 trivial ?_
      unfold Oper.wp
      simp only [execOp, h2, g0]
      go_simp
      exact h.next hcg hKD ho hall (by decide) (by decide) (by decide) inj hz hu rfl
    | 2, _ =>
      refine og_move (g := none) ho (.tmp 102) (d := some 103) (by kernel_rfl) trivial (show a'.eval (.tmp 102) = .bool false from h.e 1 (by decide) (dep ho hall 1 (by kernel_rfl)) _ rfl) ?_
      exact h.next hcg hKD ho hall (by decide) (by decide) (by decide) inj hz hu rfl
    | 3, _ =>
      refine og_move (g := some (2, false)) ho (.tmp 15) (d := some 104) (by kernel_rfl) ⟨103, by kernel_rfl, (show a'.eval (.tmp 103) = .bool false from h.e 2 (by decide) (dep ho hall 2 (by kernel_rfl)) _ rfl)⟩ q15 ?_
      exact h.next hcg hKD ho hall (by decide) (by decide) (by decide) inj hz hu rfl
    | 4, _ =>
      refine og_move (g := some (2, false)) ho (.tmp 16) (d := some 105) (by kernel_rfl) ⟨103, by kernel_rfl, (show a'.eval (.tmp 103) = .bool false from h.e 2 (by decide) (dep ho hall 2 (by kernel_rfl)) _ rfl)⟩ q16 ?_
      exact h.next hcg hKD ho hall (by decide) (by decide) (by decide) inj hz hu rfl
    | 5, _ =>
      have i1 : (q : Int) < (m : Int) := by omega
      obtain ⟨h1, h2, h3⟩ := flds (d := some 106) (p := Op.indexAddr 33 (.tmp 104) (.tmp 105)) (g := some (2, false)) ho (by kernel_rfl)
      have g0 := (show a'.eval (.tmp 104) = .slice (some ⟨g, 0, none⟩) m c0 from h.e 3 (by decide) (dep ho hall 3 (by kernel_rfl)) _ rfl)
      have g1 := (show a'.eval (.tmp 105) = .int .i64 (q : Int) from h.e 4 (by decide) (dep ho hall 4 (by kernel_rfl)) _ rfl)
      refine og_plain ho h3 ⟨103, by kernel_rfl, (show a'.eval (.tmp 103) = .bool false from h.e 2 (by decide) (dep ho hall 2 (by kernel_rfl)) _ rfl)⟩ ?_
      unfold Oper.wp
      simp only [execOp, h2, g0, g1]
      go_simp
      exact h.next hcg hKD ho hall (by decide) (by decide) (by decide) inj hz hu rfl
    | 6, _ =>
      obtain ⟨h1, h2, h3⟩ := flds (d := some 107) (p := Op.fieldAddr 37 (.tmp 106) 0) (g := some (2, false)) ho (by kernel_rfl)
      have g0 := (show a'.eval (.tmp 106) = .pointer (some ⟨g, q * 8, none⟩) from h.e 5 (by decide) (dep ho hall 5 (by kernel_rfl)) _ rfl)
      refine og_plain ho h3 ⟨103, by kernel_rfl, (show a'.eval (.tmp 103) = .bool false from h.e 2 (by decide) (dep ho hall 2 (by kernel_rfl)) _ rfl)⟩ ?_
      unfold Oper.wp
      simp only [execOp, h2, g0]
      go_simp
      exact h.next hcg hKD ho hall (by decide) (by decide) (by decide) inj hz hu rfl
    | 7, _ =>
      have hbe : Below w.heap.size w u := h.w
      have c0 := (hbe.cell (p := ⟨g, q * 8, none⟩) hg).trans hx0
      obtain ⟨h1, h2, h3⟩ := flds (d := some 108) (p := Op.load 3 (.tmp 107)) (g := some (2, false)) ho (by kernel_rfl)
      have g0 := (show a'.eval (.tmp 107) = .pointer (some ⟨g, q * 8, none⟩) from h.e 6 (by decide) (dep ho hall 6 (by kernel_rfl)) _ rfl)
      refine og_plain ho h3 ⟨103, by kernel_rfl, (show a'.eval (.tmp 103) = .bool false from h.e 2 (by decide) (dep ho hall 2 (by kernel_rfl)) _ rfl)⟩ ?_
      unfold Oper.wp
      simp only [execOp, h2, g0]
      go_simp
      exact h.next hcg hKD ho hall (by decide) (by decide) (by decide) inj hz hu rfl
    | 8, _ =>
      refine og_move (g := some (2, false)) ho (.tmp 16) (d := some 109) (by kernel_rfl) ⟨103, by kernel_rfl, (show a'.eval (.tmp 103) = .bool false from h.e 2 (by decide) (dep ho hall 2 (by kernel_rfl)) _ rfl)⟩ q16 ?_
      exact h.next hcg hKD ho hall (by decide) (by decide) (by decide) inj hz hu rfl
    | 9, _ =>
      have hw : IntKind.i64.wrap ((q : Int) + 1) = (q : Int) + 1 := by rw [IntKind.wrap_i64]; omega
      obtain ⟨h1, h2, h3⟩ := flds (d := some 110) (p := Op.binOp .add 3 (.tmp 109) (.const (.int .i64 1)) 3) (g := some (2, false)) ho (by kernel_rfl)
      have g0 := (show a'.eval (.tmp 109) = .int .i64 (q : Int) from h.e 8 (by decide) (dep ho hall 8 (by kernel_rfl)) _ rfl)
      refine og_plain ho h3 ⟨103, by kernel_rfl, (show a'.eval (.tmp 103) = .bool false from h.e 2 (by decide) (dep ho hall 2 (by kernel_rfl)) _ rfl)⟩ ?_
      unfold Oper.wp
      simp only [execOp, h2, g0]
      go_simp
      exact h.next hcg hKD ho hall (by decide) (by decide) (by decide) inj hz hu rfl
    | 10, _ =>
      obtain ⟨h1, h2, h3⟩ := flds (d := some 111) (p := Op.binOp .neq 3 (.tmp 108) (.tmp 110) 3) (g := some (2, false)) ho (by kernel_rfl)
      have g0 := (show a'.eval (.tmp 108) = .int .i64 ((q : Int) + 1) from h.e 7 (by decide) (dep ho hall 7 (by kernel_rfl)) _ rfl)
      have g1 := (show a'.eval (.tmp 110) = .int .i64 ((q : Int) + 1) from h.e 9 (by decide) (dep ho hall 9 (by kernel_rfl)) _ rfl)
      refine og_plain ho h3 ⟨103, by kernel_rfl, (show a'.eval (.tmp 103) = .bool false from h.e 2 (by decide) (dep ho hall 2 (by kernel_rfl)) _ rfl)⟩ ?_
      unfold Oper.wp
      simp only [execOp, h2, g0, g1]
      go_simp
      exact h.next hcg hKD ho hall (by decide) (by decide) (by decide) inj hz hu rfl
    | 11, _ =>
      obtain ⟨h1, h2, h3⟩ := flds (d := some 112) (p := Op.pick (.tmp 103) (.const (.bool true)) (.tmp 111)) (g := none) ho (by kernel_rfl)
      have g0 := (show a'.eval (.tmp 103) = .bool false from h.e 2 (by decide) (dep ho hall 2 (by kernel_rfl)) _ rfl)
      have g1 := (show a'.eval (.tmp 111) = .bool false from h.e 10 (by decide) (dep ho hall 10 (by kernel_rfl)) _ rfl)
      refine og_plain ho h3 trivial ?_
      unfold Oper.wp
      simp only [execOp, h2, g0, g1]
      go_simp
      exact h.next hcg hKD ho hall (by decide) (by decide) (by decide) inj hz hu rfl
    | 12, _ =>
      refine og_move (g := none) ho (.tmp 112) (d := some 113) (by kernel_rfl) trivial (show a'.eval (.tmp 112) = .bool false from h.e 11 (by decide) (dep ho hall 11 (by kernel_rfl)) _ rfl) ?_
      exact h.next hcg hKD ho hall (by decide) (by decide) (by decide) inj hz hu rfl
    | 13, _ =>
      have hbe : Below w.heap.size w u := h.w
      have c0 := (hbe.cell (p := ⟨gA, 0, none⟩) hgA).trans hy0
      have c1 := (hbe.cell (p := ⟨gA, 1, none⟩) hgA).trans hy1
      have c2 := (hbe.cell (p := ⟨gA, 2, none⟩) hgA).trans hy2
      have c3 := (hbe.cell (p := ⟨gA, 3, none⟩) hgA).trans hy3
      have c4 := (hbe.cell (p := ⟨gA, 4, none⟩) hgA).trans hy4
      have c5 := (hbe.cell (p := ⟨gA, 5, none⟩) hgA).trans hy5
      have c6 := (hbe.cell (p := ⟨gA, 6, none⟩) hgA).trans hy6
      have c7 := (hbe.cell (p := ⟨gA, 7, none⟩) hgA).trans hy7
      obtain ⟨h1, h2, h3⟩ := flds (d := some 114) (p := Op.load 37 (.tmp 17)) (g := some (12, false)) ho (by kernel_rfl)
      have g0 := q17
      refine og_plain ho h3 ⟨113, by kernel_rfl, (show a'.eval (.tmp 113) = .bool false from h.e 12 (by decide) (dep ho hall 12 (by kernel_rfl)) _ rfl)⟩ ?_
      unfold Oper.wp
      simp only [execOp, h2, g0]
      go_simp
      exact h.next hcg hKD ho hall (by decide) (by decide) (by decide) inj hz hu rfl
    | 14, _ =>
      refine og_move (g := some (12, false)) ho (.tmp 15) (d := some 115) (by kernel_rfl) ⟨113, by kernel_rfl, (show a'.eval (.tmp 113) = .bool false from h.e 12 (by decide) (dep ho hall 12 (by kernel_rfl)) _ rfl)⟩ q15 ?_
      exact h.next hcg hKD ho hall (by decide) (by decide) (by decide) inj hz hu rfl
    | 15, _ =>
      refine og_move (g := some (12, false)) ho (.tmp 16) (d := some 116) (by kernel_rfl) ⟨113, by kernel_rfl, (show a'.eval (.tmp 113) = .bool false from h.e 12 (by decide) (dep ho hall 12 (by kernel_rfl)) _ rfl)⟩ q16 ?_
      exact h.next hcg hKD ho hall (by decide) (by decide) (by decide) inj hz hu rfl
    | 16, _ =>
      have i1 : (q : Int) < (m : Int) := by omega
      obtain ⟨h1, h2, h3⟩ := flds (d := some 117) (p := Op.indexAddr 33 (.tmp 115) (.tmp 116)) (g := some (12, false)) ho (by kernel_rfl)
      have g0 := (show a'.eval (.tmp 115) = .slice (some ⟨g, 0, none⟩) m c0 from h.e 14 (by decide) (dep ho hall 14 (by kernel_rfl)) _ rfl)
      have g1 := (show a'.eval (.tmp 116) = .int .i64 (q : Int) from h.e 15 (by decide) (dep ho hall 15 (by kernel_rfl)) _ rfl)
      refine og_plain ho h3 ⟨113, by kernel_rfl, (show a'.eval (.tmp 113) = .bool false from h.e 12 (by decide) (dep ho hall 12 (by kernel_rfl)) _ rfl)⟩ ?_
      unfold Oper.wp
      simp only [execOp, h2, g0, g1]
      go_simp
      exact h.next hcg hKD ho hall (by decide) (by decide) (by decide) inj hz hu rfl
    | 17, _ =>
      have hbe : Below w.heap.size w u := h.w
      have c0 := (hbe.cell (p := ⟨g, q * 8, none⟩) hg).trans hx0
      have c1 := (hbe.cell (p := ⟨g, q * 8 + 1, none⟩) hg).trans hx1
      have c2 := (hbe.cell (p := ⟨g, q * 8 + 2, none⟩) hg).trans hx2
      have c3 := (hbe.cell (p := ⟨g, q * 8 + 3, none⟩) hg).trans hx3
      have c4 := (hbe.cell (p := ⟨g, q * 8 + 4, none⟩) hg).trans hx4
      have c5 := (hbe.cell (p := ⟨g, q * 8 + 5, none⟩) hg).trans hx5
      have c6 := (hbe.cell (p := ⟨g, q * 8 + 6, none⟩) hg).trans hx6
      have c7 := (hbe.cell (p := ⟨g, q * 8 + 7, none⟩) hg).trans hx7
      obtain ⟨h1, h2, h3⟩ := flds (d := some 118) (p := Op.load 37 (.tmp 117)) (g := some (12, false)) ho (by kernel_rfl)
      have g0 := (show a'.eval (.tmp 117) = .pointer (some ⟨g, q * 8, none⟩) from h.e 16 (by decide) (dep ho hall 16 (by kernel_rfl)) _ rfl)
      refine og_plain ho h3 ⟨113, by kernel_rfl, (show a'.eval (.tmp 113) = .bool false from h.e 12 (by decide) (dep ho hall 12 (by kernel_rfl)) _ rfl)⟩ ?_
      unfold Oper.wp
      simp only [execOp, h2, g0]
      go_simp
      exact h.next hcg hKD ho hall (by decide) (by decide) (by decide) inj hz hu rfl
    | 18, _ =>
      obtain ⟨h1, h2, h3⟩ := flds (d := some 119) (p := Op.call { callee := .value (.func 16), args := #[.tmp 114, .tmp 118], argTypes := #[37, 37] }) (g := some (12, false)) ho (by kernel_rfl)
      have hbe : Below w.heap.size w u := h.w
      refine og_call2 (g := some (12, false)) ho 16 (.tmp 114) (.tmp 118) 37 37 (d := some 119) (by kernel_rfl) ⟨113, by kernel_rfl, (show a'.eval (.tmp 113) = .bool false from h.e 12 (by decide) (dep ho hall 12 (by kernel_rfl)) _ rfl)⟩ Try.func16 rfl (by kernel_rfl) (by rw [(show a'.eval (.tmp 114) = .agg #[.int .i64 ((q : Int) + 1), .int .i64 cc, .string wo, .int .i64 rf, .int .i64 rt, .bool gn, .bool true, .slice al sl cl2] from h.e 13 (by decide) (dep ho hall 13 (by kernel_rfl)) _ rfl), (show a'.eval (.tmp 118) = .agg #[.int .i64 ((q : Int) + 1), .int .i64 cc, .string wo, .int .i64 sf, .int .i64 st, .bool gn2, .bool true, .slice al2 sl2 cl3] from h.e 17 (by decide) (dep ho hall 17 (by kernel_rfl)) _ rfl)]; exact CQ u hbe) ?_
      rintro e w' ⟨rfl, bw⟩
      refine ⟨_, rfl, h.put ho hall (by decide) inj hz hu (fun v' hv' => by injection hv') (fun val h1 h2 => ?_)⟩
      exact hbe.trans (bw.mono hbe.size)
    | 19, _ =>
      obtain ⟨h1, h2, h3⟩ := flds (d := some 120) (p := Op.unOp .not 4 (.tmp 119)) (g := some (12, false)) ho (by kernel_rfl)
      have g0 := (show a'.eval (.tmp 119) = .bool true from h.e 18 (by decide) (dep ho hall 18 (by kernel_rfl)) _ rfl)
      refine og_plain ho h3 ⟨113, by kernel_rfl, (show a'.eval (.tmp 113) = .bool false from h.e 12 (by decide) (dep ho hall 12 (by kernel_rfl)) _ rfl)⟩ ?_
      unfold Oper.wp
      simp only [execOp, h2, g0]
      go_simp
      exact h.next hcg hKD ho hall (by decide) (by decide) (by decide) inj hz hu rfl
    | 20, _ =>
      obtain ⟨h1, h2, h3⟩ := flds (d := some 121) (p := Op.pick (.tmp 113) (.const (.bool true)) (.tmp 120)) (g := none) ho (by kernel_rfl)
      have g0 := (show a'.eval (.tmp 113) = .bool false from h.e 12 (by decide) (dep ho hall 12 (by kernel_rfl)) _ rfl)
      have g1 := (show a'.eval (.tmp 120) = .bool false from h.e 19 (by decide) (dep ho hall 19 (by kernel_rfl)) _ rfl)
      refine og_plain ho h3 trivial ?_
      unfold Oper.wp
      simp only [execOp, h2, g0, g1]
      go_simp
      exact h.next hcg hKD ho hall (by decide) (by decide) (by decide) inj hz hu rfl
    | 21, _ =>
      refine og_move (g := none) ho (.tmp 121) (d := some 122) (by kernel_rfl) trivial (show a'.eval (.tmp 121) = .bool false from h.e 20 (by decide) (dep ho hall 20 (by kernel_rfl)) _ rfl) ?_
      exact h.next hcg hKD ho hall (by decide) (by decide) (by decide) inj hz hu rfl
    | 22, _ =>
      obtain ⟨h1, h2, h3⟩ := flds (d := some 123) (p := Op.fieldAddr 37 (.tmp 17) 6) (g := some (21, false)) ho (by kernel_rfl)
      have g0 := q17
      refine og_plain ho h3 ⟨122, by kernel_rfl, (show a'.eval (.tmp 122) = .bool false from h.e 21 (by decide) (dep ho hall 21 (by kernel_rfl)) _ rfl)⟩ ?_
      unfold Oper.wp
      simp only [execOp, h2, g0]
      go_simp
      exact h.next hcg hKD ho hall (by decide) (by decide) (by decide) inj hz hu rfl
    | 23, _ =>
      have hbe : Below w.heap.size w u := h.w
      have c0 := (hbe.cell (p := ⟨gA, 6, none⟩) hgA).trans hy6
      obtain ⟨h1, h2, h3⟩ := flds (d := some 124) (p := Op.load 4 (.tmp 123)) (g := some (21, false)) ho (by kernel_rfl)
      have g0 := (show a'.eval (.tmp 123) = .pointer (some ⟨gA, 6, none⟩) from h.e 22 (by decide) (dep ho hall 22 (by kernel_rfl)) _ rfl)
      refine og_plain ho h3 ⟨122, by kernel_rfl, (show a'.eval (.tmp 122) = .bool false from h.e 21 (by decide) (dep ho hall 21 (by kernel_rfl)) _ rfl)⟩ ?_
      unfold Oper.wp
      simp only [execOp, h2, g0]
      go_simp
      exact h.next hcg hKD ho hall (by decide) (by decide) (by decide) inj hz hu rfl
    | 24, _ =>
      refine og_move (g := some (21, false)) ho (.tmp 16) (d := some 125) (by kernel_rfl) ⟨122, by kernel_rfl, (show a'.eval (.tmp 122) = .bool false from h.e 21 (by decide) (dep ho hall 21 (by kernel_rfl)) _ rfl)⟩ q16 ?_
      exact h.next hcg hKD ho hall (by decide) (by decide) (by decide) inj hz hu rfl
    | 25, _ =>
      have i1 : decide (0 < q) = true := by have := hpos.out; simp; omega
      obtain ⟨h1, h2, h3⟩ := flds (d := some 126) (p := Op.binOp .gtr 3 (.tmp 125) (.const (.int .i64 0)) 3) (g := some (21, false)) ho (by kernel_rfl)
      have g0 := (show a'.eval (.tmp 125) = .int .i64 (q : Int) from h.e 24 (by decide) (dep ho hall 24 (by kernel_rfl)) _ rfl)
      refine og_plain ho h3 ⟨122, by kernel_rfl, (show a'.eval (.tmp 122) = .bool false from h.e 21 (by decide) (dep ho hall 21 (by kernel_rfl)) _ rfl)⟩ ?_
      unfold Oper.wp
      simp only [execOp, h2, g0]
      go_simp
      exact h.next hcg hKD ho hall (by decide) (by decide) (by decide) inj hz hu rfl
    | 26, _ =>
      refine og_move (g := some (21, false)) ho (.tmp 126) (d := some 127) (by kernel_rfl) ⟨122, by kernel_rfl, (show a'.eval (.tmp 122) = .bool false from h.e 21 (by decide) (dep ho hall 21 (by kernel_rfl)) _ rfl)⟩ (show a'.eval (.tmp 126) = .bool true from h.e 25 (by decide) (dep ho hall 25 (by kernel_rfl)) _ rfl) ?_
      exact h.next hcg hKD ho hall (by decide) (by decide) (by decide) inj hz hu rfl
    | 27, _ =>
      refine og_move (g := some (26, true)) ho (.tmp 16) (d := some 128) (by kernel_rfl) ⟨127, by kernel_rfl, (show a'.eval (.tmp 127) = .bool true from h.e 26 (by decide) (dep ho hall 26 (by kernel_rfl)) _ rfl)⟩ q16 ?_
      exact h.next hcg hKD ho hall (by decide) (by decide) (by decide) inj hz hu rfl
    | 28, _ =>
      have hw : IntKind.i64.wrap ((q : Int) + 1) = (q : Int) + 1 := by rw [IntKind.wrap_i64]; omega
      obtain ⟨h1, h2, h3⟩ := flds (d := some 129) (p := Op.binOp .add 3 (.tmp 128) (.const (.int .i64 1)) 3) (g := some (26, true)) ho (by kernel_rfl)
      have g0 := (show a'.eval (.tmp 128) = .int .i64 (q : Int) from h.e 27 (by decide) (dep ho hall 27 (by kernel_rfl)) _ rfl)
      refine og_plain ho h3 ⟨127, by kernel_rfl, (show a'.eval (.tmp 127) = .bool true from h.e 26 (by decide) (dep ho hall 26 (by kernel_rfl)) _ rfl)⟩ ?_
      unfold Oper.wp
      simp only [execOp, h2, g0]
      go_simp
      exact h.next hcg hKD ho hall (by decide) (by decide) (by decide) inj hz hu rfl
    | 29, _ =>
      have hr := hrm.out
      obtain ⟨h1, h2, h3⟩ := flds (d := some 130) (p := Op.binOp .rem 3 (.tmp 129) (.const (.int .i64 3)) 3) (g := some (26, true)) ho (by kernel_rfl)
      have g0 := (show a'.eval (.tmp 129) = .int .i64 ((q : Int) + 1) from h.e 28 (by decide) (dep ho hall 28 (by kernel_rfl)) _ rfl)
      refine og_plain ho h3 ⟨127, by kernel_rfl, (show a'.eval (.tmp 127) = .bool true from h.e 26 (by decide) (dep ho hall 26 (by kernel_rfl)) _ rfl)⟩ ?_
      unfold Oper.wp
      simp only [execOp, h2, g0]
      go_simp
      exact h.next hcg hKD ho hall (by decide) (by decide) (by decide) inj hz hu rfl
    | 30, _ =>
      
      obtain ⟨h1, h2, h3⟩ := flds (d := some 131) (p := Op.binOp .eql 3 (.tmp 130) (.const (.int .i64 0)) 3) (g := some (26, true)) ho (by kernel_rfl)
      have g0 := (show a'.eval (.tmp 130) = .int .i64 0 from h.e 29 (by decide) (dep ho hall 29 (by kernel_rfl)) _ rfl)
      refine og_plain ho h3 ⟨127, by kernel_rfl, (show a'.eval (.tmp 127) = .bool true from h.e 26 (by decide) (dep ho hall 26 (by kernel_rfl)) _ rfl)⟩ ?_
      unfold Oper.wp
      simp only [execOp, h2, g0]
      go_simp
      exact h.next hcg hKD ho hall (by decide) (by decide) (by decide) inj hz hu rfl
    | 31, _ =>
      obtain ⟨h1, h2, h3⟩ := flds (d := some 132) (p := Op.pick (.tmp 127) (.tmp 131) (.const (.bool false))) (g := some (21, false)) ho (by kernel_rfl)
      have g0 := (show a'.eval (.tmp 127) = .bool true from h.e 26 (by decide) (dep ho hall 26 (by kernel_rfl)) _ rfl)
      have g1 := (show a'.eval (.tmp 131) = .bool true from h.e 30 (by decide) (dep ho hall 30 (by kernel_rfl)) _ rfl)
      refine og_plain ho h3 ⟨122, by kernel_rfl, (show a'.eval (.tmp 122) = .bool false from h.e 21 (by decide) (dep ho hall 21 (by kernel_rfl)) _ rfl)⟩ ?_
      unfold Oper.wp
      simp only [execOp, h2, g0, g1]
      go_simp
      exact h.next hcg hKD ho hall (by decide) (by decide) (by decide) inj hz hu rfl
    | 32, _ =>
      obtain ⟨h1, h2, h3⟩ := flds (d := some 133) (p := Op.binOp .neq 4 (.tmp 124) (.tmp 132) 4) (g := some (21, false)) ho (by kernel_rfl)
      have g0 := (show a'.eval (.tmp 124) = .bool true from h.e 23 (by decide) (dep ho hall 23 (by kernel_rfl)) _ rfl)
      have g1 := (show a'.eval (.tmp 132) = .bool true from h.e 31 (by decide) (dep ho hall 31 (by kernel_rfl)) _ rfl)
      refine og_plain ho h3 ⟨122, by kernel_rfl, (show a'.eval (.tmp 122) = .bool false from h.e 21 (by decide) (dep ho hall 21 (by kernel_rfl)) _ rfl)⟩ ?_
      unfold Oper.wp
      simp only [execOp, h2, g0, g1]
      go_simp
      exact h.next hcg hKD ho hall (by decide) (by decide) (by decide) inj hz hu rfl
    | 33, _ =>
      obtain ⟨h1, h2, h3⟩ := flds (d := some 134) (p := Op.pick (.tmp 122) (.const (.bool true)) (.tmp 133)) (g := none) ho (by kernel_rfl)
      have g0 := (show a'.eval (.tmp 122) = .bool false from h.e 21 (by decide) (dep ho hall 21 (by kernel_rfl)) _ rfl)
      have g1 := (show a'.eval (.tmp 133) = .bool false from h.e 32 (by decide) (dep ho hall 32 (by kernel_rfl)) _ rfl)
      refine og_plain ho h3 trivial ?_
      unfold Oper.wp
      simp only [execOp, h2, g0, g1]
      go_simp
      exact h.next hcg hKD ho hall (by decide) (by decide) (by decide) inj hz hu rfl
    | i + 34, hi => omega
  · rintro L a' u h hall
    rw [opsCoA_size] at hall
    rw [h.done hz]
    refine hK L _ u hall h.w (fun j => ?_)
    by_cases hj : j ∈ DCoA
    · cases hv : (VCoA q m c0 g gA sl cl2 sl2 cl3 al al2 cc rf rt sf st rm wo gn gn2) j with
      | none => exact .inl rfl
      | some v =>
        refine .inr (.inl ?_)
        have hjN : j < 34 := by
          have hh : DCoA.all (fun i => decide (i < 34)) = true := by kernel_rfl
          exact of_decide_eq_true (List.all_eq_true.1 hh j hj)
        rw [h.e j hj (hall j hjN) v hv]
    · exact .inr (.inr hj)
  · intro L hL
    refine JR.start hL ?_
    exact (Below.refl _ _).drew

noncomputable def opsCoB : Array Oper := (Try.f3.body.bind (opsAt 24)).getD #[]
theorem opsCoB_size : opsCoB.size = 34 := by kernel_rfl
theorem opsCoB_earlier : Earlier opsCoB := by
  have h : (List.range 34).all (fun i => ((opsCoB[i]?).map (fun o => o.after.all (fun e => !Region.binds .any e || decide (e.on < i)))).getD true) = true := by kernel_rfl
  intro i o ho e he hb
  have hi : i < 34 := by
    have := (Array.getElem?_eq_some_iff.1 ho).1
    rwa [opsCoB_size] at this
  have h1 := List.all_eq_true.1 h i (List.mem_range.2 hi)
  rw [ho] at h1
  simp only [Option.map_some, Option.getD_some, Array.all_eq_true'] at h1
  have h2 := h1 e he
  rw [hb] at h2
  simpa using h2
def slCoB (j : Nat) : Nat := ([101, 102, 103, 104, 105, 106, 107, 108, 109, 110, 111, 112, 113, 114, 115, 116, 117, 118, 119, 120, 121, 122, 123, 124, 125, 126, 127, 128, 129, 130, 131, 132, 133, 134] : List Nat).getD j 0
def DCoB : List Nat := [0, 1, 2, 3, 4, 5, 6, 7, 8, 9, 10, 11, 12, 13, 14, 15, 16, 17, 18, 19, 20, 21, 22, 23, 24, 25, 26, 27, 28, 29, 30, 31, 32, 33]
def VCoB (q m c0 g gA sl cl2 sl2 cl3 : Nat) (al al2 : Option Addr) (cc rf rt sf st rm : Int) (wo : ByteArray) (gn gn2 : Bool) (j : Nat) : Option Value := [some (.int .i64 0), some (.bool false), some (.bool false), some (.slice (some ⟨g, 0, none⟩) m c0), some (.int .i64 (q : Int)), some (.pointer (some ⟨g, q * 8, none⟩)), some (.pointer (some ⟨g, q * 8, none⟩)), some (.int .i64 ((q : Int) + 1)), some (.int .i64 (q : Int)), some (.int .i64 ((q : Int) + 1)), some (.bool false), some (.bool false), some (.bool false), some (.agg #[.int .i64 ((q : Int) + 1), .int .i64 cc, .string wo, .int .i64 rf, .int .i64 rt, .bool gn, .bool false, .slice al sl cl2]), some (.slice (some ⟨g, 0, none⟩) m c0), some (.int .i64 (q : Int)), some (.pointer (some ⟨g, q * 8, none⟩)), some (.agg #[.int .i64 ((q : Int) + 1), .int .i64 cc, .string wo, .int .i64 sf, .int .i64 st, .bool gn2, .bool false, .slice al2 sl2 cl3]), some (.bool true), some (.bool false), some (.bool false), some (.bool false), some (.pointer (some ⟨gA, 6, none⟩)), some (.bool false), some (.int .i64 (q : Int)), some (.bool true), some (.bool true), some (.int .i64 (q : Int)), some (.int .i64 ((q : Int) + 1)), some (.int .i64 rm), some (.bool false), some (.bool false), some (.bool false), some (.bool false)].getD j none
set_option maxRecDepth 100000 in
set_option maxHeartbeats 4000000 in
theorem regCoB (a0 : Act) (w : World) {Q : Exit → Act → World → Prop} (q m c0 g gA sl cl2 sl2 cl3 : Nat) (al al2 : Option Addr) (cc rf rt sf st rm : Int) (wo : ByteArray) (gn gn2 : Bool) (hq : q < m) (hm : m ≤ 256) (hg : g < w.heap.size) (hgA : gA < w.heap.size) (hy0 : w.cell? ⟨gA, 0, none⟩ = some (.int .i64 ((q : Int) + 1))) (hy1 : w.cell? ⟨gA, 1, none⟩ = some (.int .i64 cc)) (hy2 : w.cell? ⟨gA, 2, none⟩ = some (.string wo)) (hy3 : w.cell? ⟨gA, 3, none⟩ = some (.int .i64 rf)) (hy4 : w.cell? ⟨gA, 4, none⟩ = some (.int .i64 rt)) (hy5 : w.cell? ⟨gA, 5, none⟩ = some (.bool gn)) (hy6 : w.cell? ⟨gA, 6, none⟩ = some (.bool false)) (hy7 : w.cell? ⟨gA, 7, none⟩ = some (.slice al sl cl2)) (hx0 : w.cell? ⟨g, q * 8, none⟩ = some (.int .i64 ((q : Int) + 1))) (hx1 : w.cell? ⟨g, q * 8 + 1, none⟩ = some (.int .i64 cc)) (hx2 : w.cell? ⟨g, q * 8 + 2, none⟩ = some (.string wo)) (hx3 : w.cell? ⟨g, q * 8 + 3, none⟩ = some (.int .i64 sf)) (hx4 : w.cell? ⟨g, q * 8 + 4, none⟩ = some (.int .i64 st)) (hx5 : w.cell? ⟨g, q * 8 + 5, none⟩ = some (.bool gn2)) (hx6 : w.cell? ⟨g, q * 8 + 6, none⟩ = some (.bool false)) (hx7 : w.cell? ⟨g, q * 8 + 7, none⟩ = some (.slice al2 sl2 cl3)) (CQ : ∀ W, Below w.heap.size w W → Calls Try.prog 16 #[.agg #[.int .i64 ((q : Int) + 1), .int .i64 cc, .string wo, .int .i64 rf, .int .i64 rt, .bool gn, .bool false, .slice al sl cl2], .agg #[.int .i64 ((q : Int) + 1), .int .i64 cc, .string wo, .int .i64 sf, .int .i64 st, .bool gn2, .bool false, .slice al2 sl2 cl3]] W fun e w' => e = .returned (.bool true) ∧ Below W.heap.size W w') (hpos : Hid ((0 : Int) < (q : Int))) (hrm : Hid (((q : Int) + 1).tmod 3 = rm)) (hr0 : Hid (¬ rm = 0)) (hzz : 134 < a0.tmps.size) (H18 : a0.eval (.tmp 18) = .int .i64 0) (H15 : a0.eval (.tmp 15) = .slice (some ⟨g, 0, none⟩) m c0) (H16 : a0.eval (.tmp 16) = .int .i64 (q : Int)) (H17 : a0.eval (.tmp 17) = .pointer (some ⟨gA, 0, none⟩))
    (hK : ∀ (L : Nat → Prop) (val : Nat → Value) (u : World), (∀ i, i < 34 → L i) → WBe w L val u → (∀ j, (VCoB q m c0 g gA sl cl2 sl2 cl3 al al2 cc rf rt sf st rm wo gn gn2) j = none ∨ (VCoB q m c0 g gA sl cl2 sl2 cl3 al al2 cc rf rt sf st rm wo gn gn2) j = some (val j) ∨ j ∉ DCoB) → Q .normal (puts a0 (DCoB.map fun j => (slCoB j, val j))) u) :
    (Code.region 24 opsCoB true).wp Try.prog Q a0 w := by
  have inj : ∀ i ∈ DCoB, ∀ j ∈ DCoB, slCoB i = slCoB j → i = j := by
    have h : DCoB.all (fun i => DCoB.all (fun j => decide (slCoB i = slCoB j → i = j))) = true := by kernel_rfl
    intro i hi j hj he
    exact (of_decide_eq_true (List.all_eq_true.1 (List.all_eq_true.1 h i hi) j hj)) he
  have hz : ∀ j ∈ DCoB, slCoB j < a0.tmps.size := by
    have h : DCoB.all (fun i => decide (slCoB i ≤ 134)) = true := by kernel_rfl
    intro j hj
    have := of_decide_eq_true (List.all_eq_true.1 h j hj)
    omega
  have hcg : ∀ (L L' : Nat → Prop) (val val' : Nat → Value) u, (∀ k ∈ ([] : List Nat), (L' k ↔ L k)) → (∀ k ∈ ([] : List Nat), val' k = val k) → WBe w L val u → WBe w L' val' u := by
    intro L L' val val' u hl hv hw
    exact hw
  have hKD : ∀ k ∈ ([] : List Nat), k ∈ DCoB := by decide
  refine wp_region_inv (by kernel_rfl) opsCoB_earlier (fun L a u => JR opsCoB slCoB DCoB (VCoB q m c0 g gA sl cl2 sl2 cl3 al al2 cc rf rt sf st rm wo gn gn2) a0 (WBe w) L a u) ?_ ?_ ?_
  · rintro L L' a' u i o h ho hno hall hu
    clear hK
    have q18 := (h.fe.ev (j := 18) (by decide)).trans H18
    have q15 := (h.fe.ev (j := 15) (by decide)).trans H15
    have q16 := (h.fe.ev (j := 16) (by decide)).trans H16
    have q17 := (h.fe.ev (j := 17) (by decide)).trans H17
    have hi : i < 34 := by
      have := (Array.getElem?_eq_some_iff.1 ho).1
      rwa [opsCoB_size] at this
    match i, hi with
    | 0, _ =>
      refine og_move (g := none) ho (.tmp 18) (d := some 101) (by kernel_rfl) trivial q18 ?_
      exact h.next hcg hKD ho hall (by decide) (by decide) (by decide) inj hz hu rfl
    | 1, _ =>
      obtain ⟨h1, h2, h3⟩ := flds (d := some 102) (p := Op.binOp .neq 29 (.tmp 101) (.const (.int .i64 0)) 29) (g := none) ho (by kernel_rfl)
      have g0 := (show a'.eval (.tmp 101) = .int .i64 0 from h.e 0 (by decide) (dep ho hall 0 (by kernel_rfl)) _ rfl)
      refine og_plain ho h3 trivial ?_
      unfold Oper.wp
      simp only [execOp, h2, g0]
      go_simp
      exact h.next hcg hKD ho hall (by decide) (by decide) (by decide) inj hz hu rfl
    | 2, _ =>
      refine og_move (g := none) ho (.tmp 102) (d := some 103) (by kernel_rfl) trivial (show a'.eval (.tmp 102) = .bool false from h.e 1 (by decide) (dep ho hall 1 (by kernel_rfl)) _ rfl) ?_
      exact h.next hcg hKD ho hall (by decide) (by decide) (by decide) inj hz hu rfl
    | 3, _ =>
      refine og_move (g := some (2, false)) ho (.tmp 15) (d := some 104) (by kernel_rfl) ⟨103, by kernel_rfl, (show a'.eval (.tmp 103) = .bool false from h.e 2 (by decide) (dep ho hall 2 (by kernel_rfl)) _ rfl)⟩ q15 ?_
      exact h.next hcg hKD ho hall (by decide) (by decide) (by decide) inj hz hu rfl
    | 4, _ =>
      refine og_move (g := some (2, false)) ho (.tmp 16) (d := some 105) (by kernel_rfl) ⟨103, by kernel_rfl, (show a'.eval (.tmp 103) = .bool false from h.e 2 (by decide) (dep ho hall 2 (by kernel_rfl)) _ rfl)⟩ q16 ?_
      exact h.next hcg hKD ho hall (by decide) (by decide) (by decide) inj hz hu rfl
    | 5, _ =>
      have i1 : (q : Int) < (m : Int) := by omega
      obtain ⟨h1, h2, h3⟩ := flds (d := some 106) (p := Op.indexAddr 33 (.tmp 104) (.tmp 105)) (g := some (2, false)) ho (by kernel_rfl)
      have g0 := (show a'.eval (.tmp 104) = .slice (some ⟨g, 0, none⟩) m c0 from h.e 3 (by decide) (dep ho hall 3 (by kernel_rfl)) _ rfl)
      have g1 := (show a'.eval (.tmp 105) = .int .i64 (q : Int) from h.e 4 (by decide) (dep ho hall 4 (by kernel_rfl)) _ rfl)
      refine og_plain ho h3 ⟨103, by kernel_rfl, (show a'.eval (.tmp 103) = .bool false from h.e 2 (by decide) (dep ho hall 2 (by kernel_rfl)) _ rfl)⟩ ?_
      unfold Oper.wp
      simp only [execOp, h2, g0, g1]
      go_simp
      exact h.next hcg hKD ho hall (by decide) (by decide) (by decide) inj hz hu rfl
    | 6, _ =>
      obtain ⟨h1, h2, h3⟩ := flds (d := some 107) (p := Op.fieldAddr 37 (.tmp 106) 0) (g := some (2, false)) ho (by kernel_rfl)
      have g0 := (show a'.eval (.tmp 106) = .pointer (some ⟨g, q * 8, none⟩) from h.e 5 (by decide) (dep ho hall 5 (by kernel_rfl)) _ rfl)
      refine og_plain ho h3 ⟨103, by kernel_rfl, (show a'.eval (.tmp 103) = .bool false from h.e 2 (by decide) (dep ho hall 2 (by kernel_rfl)) _ rfl)⟩ ?_
      unfold Oper.wp
      simp only [execOp, h2, g0]
      go_simp
      exact h.next hcg hKD ho hall (by decide) (by decide) (by decide) inj hz hu rfl
    | 7, _ =>
      have hbe : Below w.heap.size w u := h.w
      have c0 := (hbe.cell (p := ⟨g, q * 8, none⟩) hg).trans hx0
      obtain ⟨h1, h2, h3⟩ := flds (d := some 108) (p := Op.load 3 (.tmp 107)) (g := some (2, false)) ho (by kernel_rfl)
      have g0 := (show a'.eval (.tmp 107) = .pointer (some ⟨g, q * 8, none⟩) from h.e 6 (by decide) (dep ho hall 6 (by kernel_rfl)) _ rfl)
      refine og_plain ho h3 ⟨103, by kernel_rfl, (show a'.eval (.tmp 103) = .bool false from h.e 2 (by decide) (dep ho hall 2 (by kernel_rfl)) _ rfl)⟩ ?_
      unfold Oper.wp
      simp only [execOp, h2, g0]
      go_simp
      exact h.next hcg hKD ho hall (by decide) (by decide) (by decide) inj hz hu rfl
    | 8, _ =>
      refine og_move (g := some (2, false)) ho (.tmp 16) (d := some 109) (by kernel_rfl) ⟨103, by kernel_rfl, (show a'.eval (.tmp 103) = .bool false from h.e 2 (by decide) (dep ho hall 2 (by kernel_rfl)) _ rfl)⟩ q16 ?_
      exact h.next hcg hKD ho hall (by decide) (by decide) (by decide) inj hz hu rfl
    | 9, _ =>
      have hw : IntKind.i64.wrap ((q : Int) + 1) = (q : Int) + 1 := by rw [IntKind.wrap_i64]; omega
      obtain ⟨h1, h2, h3⟩ := flds (d := some 110) (p := Op.binOp .add 3 (.tmp 109) (.const (.int .i64 1)) 3) (g := some (2, false)) ho (by kernel_rfl)
      have g0 := (show a'.eval (.tmp 109) = .int .i64 (q : Int) from h.e 8 (by decide) (dep ho hall 8 (by kernel_rfl)) _ rfl)
      refine og_plain ho h3 ⟨103, by kernel_rfl, (show a'.eval (.tmp 103) = .bool false from h.e 2 (by decide) (dep ho hall 2 (by kernel_rfl)) _ rfl)⟩ ?_
      unfold Oper.wp
      simp only [execOp, h2, g0]
      go_simp
      exact h.next hcg hKD ho hall (by decide) (by decide) (by decide) inj hz hu rfl
    | 10, _ =>
      obtain ⟨h1, h2, h3⟩ := flds (d := some 111) (p := Op.binOp .neq 3 (.tmp 108) (.tmp 110) 3) (g := some (2, false)) ho (by kernel_rfl)
      have g0 := (show a'.eval (.tmp 108) = .int .i64 ((q : Int) + 1) from h.e 7 (by decide) (dep ho hall 7 (by kernel_rfl)) _ rfl)
      have g1 := (show a'.eval (.tmp 110) = .int .i64 ((q : Int) + 1) from h.e 9 (by decide) (dep ho hall 9 (by kernel_rfl)) _ rfl)
      refine og_plain ho h3 ⟨103, by kernel_rfl, (show a'.eval (.tmp 103) = .bool false from h.e 2 (by decide) (dep ho hall 2 (by kernel_rfl)) _ rfl)⟩ ?_
      unfold Oper.wp
      simp only [execOp, h2, g0, g1]
      go_simp
      exact h.next hcg hKD ho hall (by decide) (by decide) (by decide) inj hz hu rfl
    | 11, _ =>
      obtain ⟨h1, h2, h3⟩ := flds (d := some 112) (p := Op.pick (.tmp 103) (.const (.bool true)) (.tmp 111)) (g := none) ho (by kernel_rfl)
      have g0 := (show a'.eval (.tmp 103) = .bool false from h.e 2 (by decide) (dep ho hall 2 (by kernel_rfl)) _ rfl)
      have g1 := (show a'.eval (.tmp 111) = .bool false from h.e 10 (by decide) (dep ho hall 10 (by kernel_rfl)) _ rfl)
      refine og_plain ho h3 trivial ?_
      unfold Oper.wp
      simp only [execOp, h2, g0, g1]
      go_simp
      exact h.next hcg hKD ho hall (by decide) (by decide) (by decide) inj hz hu rfl
    | 12, _ =>
      refine og_move (g := none) ho (.tmp 112) (d := some 113) (by kernel_rfl) trivial (show a'.eval (.tmp 112) = .bool false from h.e 11 (by decide) (dep ho hall 11 (by kernel_rfl)) _ rfl) ?_
      exact h.next hcg hKD ho hall (by decide) (by decide) (by decide) inj hz hu rfl
    | 13, _ =>
      have hbe : Below w.heap.size w u := h.w
      have c0 := (hbe.cell (p := ⟨gA, 0, none⟩) hgA).trans hy0
      have c1 := (hbe.cell (p := ⟨gA, 1, none⟩) hgA).trans hy1
      have c2 := (hbe.cell (p := ⟨gA, 2, none⟩) hgA).trans hy2
      have c3 := (hbe.cell (p := ⟨gA, 3, none⟩) hgA).trans hy3
      have c4 := (hbe.cell (p := ⟨gA, 4, none⟩) hgA).trans hy4
      have c5 := (hbe.cell (p := ⟨gA, 5, none⟩) hgA).trans hy5
      have c6 := (hbe.cell (p := ⟨gA, 6, none⟩) hgA).trans hy6
      have c7 := (hbe.cell (p := ⟨gA, 7, none⟩) hgA).trans hy7
      obtain ⟨h1, h2, h3⟩ := flds (d := some 114) (p := Op.load 37 (.tmp 17)) (g := some (12, false)) ho (by kernel_rfl)
      have g0 := q17
      refine og_plain ho h3 ⟨113, by kernel_rfl, (show a'.eval (.tmp 113) = .bool false from h.e 12 (by decide) (dep ho hall 12 (by kernel_rfl)) _ rfl)⟩ ?_
      unfold Oper.wp
      simp only [execOp, h2, g0]
      go_simp
      exact h.next hcg hKD ho hall (by decide) (by decide) (by decide) inj hz hu rfl
    | 14, _ =>
      refine og_move (g := some (12, false)) ho (.tmp 15) (d := some 115) (by kernel_rfl) ⟨113, by kernel_rfl, (show a'.eval (.tmp 113) = .bool false from h.e 12 (by decide) (dep ho hall 12 (by kernel_rfl)) _ rfl)⟩ q15 ?_
      exact h.next hcg hKD ho hall (by decide) (by decide) (by decide) inj hz hu rfl
    | 15, _ =>
      refine og_move (g := some (12, false)) ho (.tmp 16) (d := some 116) (by kernel_rfl) ⟨113, by kernel_rfl, (show a'.eval (.tmp 113) = .bool false from h.e 12 (by decide) (dep ho hall 12 (by kernel_rfl)) _ rfl)⟩ q16 ?_
      exact h.next hcg hKD ho hall (by decide) (by decide) (by decide) inj hz hu rfl
    | 16, _ =>
      have i1 : (q : Int) < (m : Int) := by omega
      obtain ⟨h1, h2, h3⟩ := flds (d := some 117) (p := Op.indexAddr 33 (.tmp 115) (.tmp 116)) (g := some (12, false)) ho (by kernel_rfl)
      have g0 := (show a'.eval (.tmp 115) = .slice (some ⟨g, 0, none⟩) m c0 from h.e 14 (by decide) (dep ho hall 14 (by kernel_rfl)) _ rfl)
      have g1 := (show a'.eval (.tmp 116) = .int .i64 (q : Int) from h.e 15 (by decide) (dep ho hall 15 (by kernel_rfl)) _ rfl)
      refine og_plain ho h3 ⟨113, by kernel_rfl, (show a'.eval (.tmp 113) = .bool false from h.e 12 (by decide) (dep ho hall 12 (by kernel_rfl)) _ rfl)⟩ ?_
      unfold Oper.wp
      simp only [execOp, h2, g0, g1]
      go_simp
      exact h.next hcg hKD ho hall (by decide) (by decide) (by decide) inj hz hu rfl
    | 17, _ =>
      have hbe : Below w.heap.size w u := h.w
      have c0 := (hbe.cell (p := ⟨g, q * 8, none⟩) hg).trans hx0
      have c1 := (hbe.cell (p := ⟨g, q * 8 + 1, none⟩) hg).trans hx1
      have c2 := (hbe.cell (p := ⟨g, q * 8 + 2, none⟩) hg).trans hx2
      have c3 := (hbe.cell (p := ⟨g, q * 8 + 3, none⟩) hg).trans hx3
      have c4 := (hbe.cell (p := ⟨g, q * 8 + 4, none⟩) hg).trans hx4
      have c5 := (hbe.cell (p := ⟨g, q * 8 + 5, none⟩) hg).trans hx5
      have c6 := (hbe.cell (p := ⟨g, q * 8 + 6, none⟩) hg).trans hx6
      have c7 := (hbe.cell (p := ⟨g, q * 8 + 7, none⟩) hg).trans hx7
      obtain ⟨h1, h2, h3⟩ := flds (d := some 118) (p := Op.load 37 (.tmp 117)) (g := some (12, false)) ho (by kernel_rfl)
      have g0 := (show a'.eval (.tmp 117) = .pointer (some ⟨g, q * 8, none⟩) from h.e 16 (by decide) (dep ho hall 16 (by kernel_rfl)) _ rfl)
      refine og_plain ho h3 ⟨113, by kernel_rfl, (show a'.eval (.tmp 113) = .bool false from h.e 12 (by decide) (dep ho hall 12 (by kernel_rfl)) _ rfl)⟩ ?_
      unfold Oper.wp
      simp only [execOp, h2, g0]
      go_simp
      exact h.next hcg hKD ho hall (by decide) (by decide) (by decide) inj hz hu rfl
    | 18, _ =>
      obtain ⟨h1, h2, h3⟩ := flds (d := some 119) (p := Op.call { callee := .value (.func 16), args := #[.tmp 114, .tmp 118], argTypes := #[37, 37] }) (g := some (12, false)) ho (by kernel_rfl)
      have hbe : Below w.heap.size w u := h.w
      refine og_call2 (g := some (12, false)) ho 16 (.tmp 114) (.tmp 118) 37 37 (d := some 119) (by kernel_rfl) ⟨113, by kernel_rfl, (show a'.eval (.tmp 113) = .bool false from h.e 12 (by decide) (dep ho hall 12 (by kernel_rfl)) _ rfl)⟩ Try.func16 rfl (by kernel_rfl) (by rw [(show a'.eval (.tmp 114) = .agg #[.int .i64 ((q : Int) + 1), .int .i64 cc, .string wo, .int .i64 rf, .int .i64 rt, .bool gn, .bool false, .slice al sl cl2] from h.e 13 (by decide) (dep ho hall 13 (by kernel_rfl)) _ rfl), (show a'.eval (.tmp 118) = .agg #[.int .i64 ((q : Int) + 1), .int .i64 cc, .string wo, .int .i64 sf, .int .i64 st, .bool gn2, .bool false, .slice al2 sl2 cl3] from h.e 17 (by decide) (dep ho hall 17 (by kernel_rfl)) _ rfl)]; exact CQ u hbe) ?_
      rintro e w' ⟨rfl, bw⟩
      refine ⟨_, rfl, h.put ho hall (by decide) inj hz hu (fun v' hv' => by injection hv') (fun val h1 h2 => ?_)⟩
      exact hbe.trans (bw.mono hbe.size)
    | 19, _ =>
      obtain ⟨h1, h2, h3⟩ := flds (d := some 120) (p := Op.unOp .not 4 (.tmp 119)) (g := some (12, false)) ho (by kernel_rfl)
      have g0 := (show a'.eval (.tmp 119) = .bool true from h.e 18 (by decide) (dep ho hall 18 (by kernel_rfl)) _ rfl)
      refine og_plain ho h3 ⟨113, by kernel_rfl, (show a'.eval (.tmp 113) = .bool false from h.e 12 (by decide) (dep ho hall 12 (by kernel_rfl)) _ rfl)⟩ ?_
      unfold Oper.wp
      simp only [execOp, h2, g0]
      go_simp
      exact h.next hcg hKD ho hall (by decide) (by decide) (by decide) inj hz hu rfl
    | 20, _ =>
      obtain ⟨h1, h2, h3⟩ := flds (d := some 121) (p := Op.pick (.tmp 113) (.const (.bool true)) (.tmp 120)) (g := none) ho (by kernel_rfl)
      have g0 := (show a'.eval (.tmp 113) = .bool false from h.e 12 (by decide) (dep ho hall 12 (by kernel_rfl)) _ rfl)
      have g1 := (show a'.eval (.tmp 120) = .bool false from h.e 19 (by decide) (dep ho hall 19 (by kernel_rfl)) _ rfl)
      refine og_plain ho h3 trivial ?_
      unfold Oper.wp
      simp only [execOp, h2, g0, g1]
      go_simp
      exact h.next hcg hKD ho hall (by decide) (by decide) (by decide) inj hz hu rfl
    | 21, _ =>
      refine og_move (g := none) ho (.tmp 121) (d := some 122) (by kernel_rfl) trivial (show a'.eval (.tmp 121) = .bool false from h.e 20 (by decide) (dep ho hall 20 (by kernel_rfl)) _ rfl) ?_
      exact h.next hcg hKD ho hall (by decide) (by decide) (by decide) inj hz hu rfl
    | 22, _ =>
      obtain ⟨h1, h2, h3⟩ := flds (d := some 123) (p := Op.fieldAddr 37 (.tmp 17) 6) (g := some (21, false)) ho (by kernel_rfl)
      have g0 := q17
      refine og_plain ho h3 ⟨122, by kernel_rfl, (show a'.eval (.tmp 122) = .bool false from h.e 21 (by decide) (dep ho hall 21 (by kernel_rfl)) _ rfl)⟩ ?_
      unfold Oper.wp
      simp only [execOp, h2, g0]
      go_simp
      exact h.next hcg hKD ho hall (by decide) (by decide) (by decide) inj hz hu rfl
    | 23, _ =>
      have hbe : Below w.heap.size w u := h.w
      have c0 := (hbe.cell (p := ⟨gA, 6, none⟩) hgA).trans hy6
      obtain ⟨h1, h2, h3⟩ := flds (d := some 124) (p := Op.load 4 (.tmp 123)) (g := some (21, false)) ho (by kernel_rfl)
      have g0 := (show a'.eval (.tmp 123) = .pointer (some ⟨gA, 6, none⟩) from h.e 22 (by decide) (dep ho hall 22 (by kernel_rfl)) _ rfl)
      refine og_plain ho h3 ⟨122, by kernel_rfl, (show a'.eval (.tmp 122) = .bool false from h.e 21 (by decide) (dep ho hall 21 (by kernel_rfl)) _ rfl)⟩ ?_
      unfold Oper.wp
      simp only [execOp, h2, g0]
      go_simp
      exact h.next hcg hKD ho hall (by decide) (by decide) (by decide) inj hz hu rfl
    | 24, _ =>
      refine og_move (g := some (21, false)) ho (.tmp 16) (d := some 125) (by kernel_rfl) ⟨122, by kernel_rfl, (show a'.eval (.tmp 122) = .bool false from h.e 21 (by decide) (dep ho hall 21 (by kernel_rfl)) _ rfl)⟩ q16 ?_
      exact h.next hcg hKD ho hall (by decide) (by decide) (by decide) inj hz hu rfl
    | 25, _ =>
      have i1 : decide (0 < q) = true := by have := hpos.out; simp; omega
      obtain ⟨h1, h2, h3⟩ := flds (d := some 126) (p := Op.binOp .gtr 3 (.tmp 125) (.const (.int .i64 0)) 3) (g := some (21, false)) ho (by kernel_rfl)
      have g0 := (show a'.eval (.tmp 125) = .int .i64 (q : Int) from h.e 24 (by decide) (dep ho hall 24 (by kernel_rfl)) _ rfl)
      refine og_plain ho h3 ⟨122, by kernel_rfl, (show a'.eval (.tmp 122) = .bool false from h.e 21 (by decide) (dep ho hall 21 (by kernel_rfl)) _ rfl)⟩ ?_
      unfold Oper.wp
      simp only [execOp, h2, g0]
      go_simp
      exact h.next hcg hKD ho hall (by decide) (by decide) (by decide) inj hz hu rfl
    | 26, _ =>
      refine og_move (g := some (21, false)) ho (.tmp 126) (d := some 127) (by kernel_rfl) ⟨122, by kernel_rfl, (show a'.eval (.tmp 122) = .bool false from h.e 21 (by decide) (dep ho hall 21 (by kernel_rfl)) _ rfl)⟩ (show a'.eval (.tmp 126) = .bool true from h.e 25 (by decide) (dep ho hall 25 (by kernel_rfl)) _ rfl) ?_
      exact h.next hcg hKD ho hall (by decide) (by decide) (by decide) inj hz hu rfl
    | 27, _ =>
      refine og_move (g := some (26, true)) ho (.tmp 16) (d := some 128) (by kernel_rfl) ⟨127, by kernel_rfl, (show a'.eval (.tmp 127) = .bool true from h.e 26 (by decide) (dep ho hall 26 (by kernel_rfl)) _ rfl)⟩ q16 ?_
      exact h.next hcg hKD ho hall (by decide) (by decide) (by decide) inj hz hu rfl
    | 28, _ =>
      have hw : IntKind.i64.wrap ((q : Int) + 1) = (q : Int) + 1 := by rw [IntKind.wrap_i64]; omega
      obtain ⟨h1, h2, h3⟩ := flds (d := some 129) (p := Op.binOp .add 3 (.tmp 128) (.const (.int .i64 1)) 3) (g := some (26, true)) ho (by kernel_rfl)
      have g0 := (show a'.eval (.tmp 128) = .int .i64 (q : Int) from h.e 27 (by decide) (dep ho hall 27 (by kernel_rfl)) _ rfl)
      refine og_plain ho h3 ⟨127, by kernel_rfl, (show a'.eval (.tmp 127) = .bool true from h.e 26 (by decide) (dep ho hall 26 (by kernel_rfl)) _ rfl)⟩ ?_
      unfold Oper.wp
      simp only [execOp, h2, g0]
      go_simp
      exact h.next hcg hKD ho hall (by decide) (by decide) (by decide) inj hz hu rfl
    | 29, _ =>
      have hr := hrm.out
      obtain ⟨h1, h2, h3⟩ := flds (d := some 130) (p := Op.binOp .rem 3 (.tmp 129) (.const (.int .i64 3)) 3) (g := some (26, true)) ho (by kernel_rfl)
      have g0 := (show a'.eval (.tmp 129) = .int .i64 ((q : Int) + 1) from h.e 28 (by decide) (dep ho hall 28 (by kernel_rfl)) _ rfl)
      refine og_plain ho h3 ⟨127, by kernel_rfl, (show a'.eval (.tmp 127) = .bool true from h.e 26 (by decide) (dep ho hall 26 (by kernel_rfl)) _ rfl)⟩ ?_
      unfold Oper.wp
      simp only [execOp, h2, g0]
      go_simp
      exact h.next hcg hKD ho hall (by decide) (by decide) (by decide) inj hz hu rfl
    | 30, _ =>
      have hr : (rm == 0) = false := by rw [beq_eq_false_iff_ne]; exact hr0.out
      obtain ⟨h1, h2, h3⟩ := flds (d := some 131) (p := Op.binOp .eql 3 (.tmp 130) (.const (.int .i64 0)) 3) (g := some (26, true)) ho (by kernel_rfl)
      have g0 := (show a'.eval (.tmp 130) = .int .i64 rm from h.e 29 (by decide) (dep ho hall 29 (by kernel_rfl)) _ rfl)
      refine og_plain ho h3 ⟨127, by kernel_rfl, (show a'.eval (.tmp 127) = .bool true from h.e 26 (by decide) (dep ho hall 26 (by kernel_rfl)) _ rfl)⟩ ?_
      unfold Oper.wp
      simp only [execOp, h2, g0]
      go_simp
      exact h.next hcg hKD ho hall (by decide) (by decide) (by decide) inj hz hu rfl
    | 31, _ =>
      obtain ⟨h1, h2, h3⟩ := flds (d := some 132) (p := Op.pick (.tmp 127) (.tmp 131) (.const (.bool false))) (g := some (21, false)) ho (by kernel_rfl)
      have g0 := (show a'.eval (.tmp 127) = .bool true from h.e 26 (by decide) (dep ho hall 26 (by kernel_rfl)) _ rfl)
      have g1 := (show a'.eval (.tmp 131) = .bool false from h.e 30 (by decide) (dep ho hall 30 (by kernel_rfl)) _ rfl)
      refine og_plain ho h3 ⟨122, by kernel_rfl, (show a'.eval (.tmp 122) = .bool false from h.e 21 (by decide) (dep ho hall 21 (by kernel_rfl)) _ rfl)⟩ ?_
      unfold Oper.wp
      simp only [execOp, h2, g0, g1]
      go_simp
      exact h.next hcg hKD ho hall (by decide) (by decide) (by decide) inj hz hu rfl
    | 32, _ =>
      obtain ⟨h1, h2, h3⟩ := flds (d := some 133) (p := Op.binOp .neq 4 (.tmp 124) (.tmp 132) 4) (g := some (21, false)) ho (by kernel_rfl)
      have g0 := (show a'.eval (.tmp 124) = .bool false from h.e 23 (by decide) (dep ho hall 23 (by kernel_rfl)) _ rfl)
      have g1 := (show a'.eval (.tmp 132) = .bool false from h.e 31 (by decide) (dep ho hall 31 (by kernel_rfl)) _ rfl)
      refine og_plain ho h3 ⟨122, by kernel_rfl, (show a'.eval (.tmp 122) = .bool false from h.e 21 (by decide) (dep ho hall 21 (by kernel_rfl)) _ rfl)⟩ ?_
      unfold Oper.wp
      simp only [execOp, h2, g0, g1]
      go_simp
      exact h.next hcg hKD ho hall (by decide) (by decide) (by decide) inj hz hu rfl
    | 33, _ =>
      obtain ⟨h1, h2, h3⟩ := flds (d := some 134) (p := Op.pick (.tmp 122) (.const (.bool true)) (.tmp 133)) (g := none) ho (by kernel_rfl)
      have g0 := (show a'.eval (.tmp 122) = .bool false from h.e 21 (by decide) (dep ho hall 21 (by kernel_rfl)) _ rfl)
      have g1 := (show a'.eval (.tmp 133) = .bool false from h.e 32 (by decide) (dep ho hall 32 (by kernel_rfl)) _ rfl)
      refine og_plain ho h3 trivial ?_
      unfold Oper.wp
      simp only [execOp, h2, g0, g1]
      go_simp
      exact h.next hcg hKD ho hall (by decide) (by decide) (by decide) inj hz hu rfl
    | i + 34, hi => omega
  · rintro L a' u h hall
    rw [opsCoB_size] at hall
    rw [h.done hz]
    refine hK L _ u hall h.w (fun j => ?_)
    by_cases hj : j ∈ DCoB
    · cases hv : (VCoB q m c0 g gA sl cl2 sl2 cl3 al al2 cc rf rt sf st rm wo gn gn2) j with
      | none => exact .inl rfl
      | some v =>
        refine .inr (.inl ?_)
        have hjN : j < 34 := by
          have hh : DCoB.all (fun i => decide (i < 34)) = true := by kernel_rfl
          exact of_decide_eq_true (List.all_eq_true.1 hh j hj)
        rw [h.e j hj (hall j hjN) v hv]
    · exact .inr (.inr hj)
  · intro L hL
    refine JR.start hL ?_
    exact (Below.refl _ _).drew

noncomputable def opsCoC : Array Oper := (Try.f3.body.bind (opsAt 24)).getD #[]
theorem opsCoC_size : opsCoC.size = 34 := by kernel_rfl
theorem opsCoC_earlier : Earlier opsCoC := by
  have h : (List.range 34).all (fun i => ((opsCoC[i]?).map (fun o => o.after.all (fun e => !Region.binds .any e || decide (e.on < i)))).getD true) = true := by kernel_rfl
  intro i o ho e he hb
  have hi : i < 34 := by
    have := (Array.getElem?_eq_some_iff.1 ho).1
    rwa [opsCoC_size] at this
  have h1 := List.all_eq_true.1 h i (List.mem_range.2 hi)
  rw [ho] at h1
  simp only [Option.map_some, Option.getD_some, Array.all_eq_true'] at h1
  have h2 := h1 e he
  rw [hb] at h2
  simpa using h2
def slCoC (j : Nat) : Nat := ([101, 102, 103, 104, 105, 106, 107, 108, 109, 110, 111, 112, 113, 114, 115, 116, 117, 118, 119, 120, 121, 122, 123, 124, 125, 126, 127, 128, 129, 130, 131, 132, 133, 134] : List Nat).getD j 0
def DCoC : List Nat := [0, 1, 2, 3, 4, 5, 6, 7, 8, 9, 10, 11, 12, 13, 14, 15, 16, 17, 18, 19, 20, 21, 22, 23, 24, 25, 26, 27, 28, 29, 30, 31, 32, 33]
def VCoC (q m c0 g gA sl cl2 sl2 cl3 : Nat) (al al2 : Option Addr) (cc rf rt sf st rm : Int) (wo : ByteArray) (gn gn2 : Bool) (j : Nat) : Option Value := [some (.int .i64 0), some (.bool false), some (.bool false), some (.slice (some ⟨g, 0, none⟩) m c0), some (.int .i64 (q : Int)), some (.pointer (some ⟨g, q * 8, none⟩)), some (.pointer (some ⟨g, q * 8, none⟩)), some (.int .i64 ((q : Int) + 1)), some (.int .i64 (q : Int)), some (.int .i64 ((q : Int) + 1)), some (.bool false), some (.bool false), some (.bool false), some (.agg #[.int .i64 ((q : Int) + 1), .int .i64 cc, .string wo, .int .i64 rf, .int .i64 rt, .bool gn, .bool false, .slice al sl cl2]), some (.slice (some ⟨g, 0, none⟩) m c0), some (.int .i64 (q : Int)), some (.pointer (some ⟨g, q * 8, none⟩)), some (.agg #[.int .i64 ((q : Int) + 1), .int .i64 cc, .string wo, .int .i64 sf, .int .i64 st, .bool gn2, .bool false, .slice al2 sl2 cl3]), some (.bool true), some (.bool false), some (.bool false), some (.bool false), some (.pointer (some ⟨gA, 6, none⟩)), some (.bool false), some (.int .i64 (q : Int)), some (.bool false), some (.bool false), some (undef), some (undef), some (undef), some (undef), some (.bool false), some (.bool false), some (.bool false)].getD j none
set_option maxRecDepth 100000 in
set_option maxHeartbeats 4000000 in
theorem regCoC (a0 : Act) (w : World) {Q : Exit → Act → World → Prop} (q m c0 g gA sl cl2 sl2 cl3 : Nat) (al al2 : Option Addr) (cc rf rt sf st rm : Int) (wo : ByteArray) (gn gn2 : Bool) (hq : q < m) (hm : m ≤ 256) (hg : g < w.heap.size) (hgA : gA < w.heap.size) (hy0 : w.cell? ⟨gA, 0, none⟩ = some (.int .i64 ((q : Int) + 1))) (hy1 : w.cell? ⟨gA, 1, none⟩ = some (.int .i64 cc)) (hy2 : w.cell? ⟨gA, 2, none⟩ = some (.string wo)) (hy3 : w.cell? ⟨gA, 3, none⟩ = some (.int .i64 rf)) (hy4 : w.cell? ⟨gA, 4, none⟩ = some (.int .i64 rt)) (hy5 : w.cell? ⟨gA, 5, none⟩ = some (.bool gn)) (hy6 : w.cell? ⟨gA, 6, none⟩ = some (.bool false)) (hy7 : w.cell? ⟨gA, 7, none⟩ = some (.slice al sl cl2)) (hx0 : w.cell? ⟨g, q * 8, none⟩ = some (.int .i64 ((q : Int) + 1))) (hx1 : w.cell? ⟨g, q * 8 + 1, none⟩ = some (.int .i64 cc)) (hx2 : w.cell? ⟨g, q * 8 + 2, none⟩ = some (.string wo)) (hx3 : w.cell? ⟨g, q * 8 + 3, none⟩ = some (.int .i64 sf)) (hx4 : w.cell? ⟨g, q * 8 + 4, none⟩ = some (.int .i64 st)) (hx5 : w.cell? ⟨g, q * 8 + 5, none⟩ = some (.bool gn2)) (hx6 : w.cell? ⟨g, q * 8 + 6, none⟩ = some (.bool false)) (hx7 : w.cell? ⟨g, q * 8 + 7, none⟩ = some (.slice al2 sl2 cl3)) (CQ : ∀ W, Below w.heap.size w W → Calls Try.prog 16 #[.agg #[.int .i64 ((q : Int) + 1), .int .i64 cc, .string wo, .int .i64 rf, .int .i64 rt, .bool gn, .bool false, .slice al sl cl2], .agg #[.int .i64 ((q : Int) + 1), .int .i64 cc, .string wo, .int .i64 sf, .int .i64 st, .bool gn2, .bool false, .slice al2 sl2 cl3]] W fun e w' => e = .returned (.bool true) ∧ Below W.heap.size W w') (hpos : Hid (¬ (0 : Int) < (q : Int))) (hzz : 134 < a0.tmps.size) (H18 : a0.eval (.tmp 18) = .int .i64 0) (H15 : a0.eval (.tmp 15) = .slice (some ⟨g, 0, none⟩) m c0) (H16 : a0.eval (.tmp 16) = .int .i64 (q : Int)) (H17 : a0.eval (.tmp 17) = .pointer (some ⟨gA, 0, none⟩))
    (hK : ∀ (L : Nat → Prop) (val : Nat → Value) (u : World), (∀ i, i < 34 → L i) → WBe w L val u → (∀ j, (VCoC q m c0 g gA sl cl2 sl2 cl3 al al2 cc rf rt sf st rm wo gn gn2) j = none ∨ (VCoC q m c0 g gA sl cl2 sl2 cl3 al al2 cc rf rt sf st rm wo gn gn2) j = some (val j) ∨ j ∉ DCoC) → Q .normal (puts a0 (DCoC.map fun j => (slCoC j, val j))) u) :
    (Code.region 24 opsCoC true).wp Try.prog Q a0 w := by
  have inj : ∀ i ∈ DCoC, ∀ j ∈ DCoC, slCoC i = slCoC j → i = j := by
    have h : DCoC.all (fun i => DCoC.all (fun j => decide (slCoC i = slCoC j → i = j))) = true := by kernel_rfl
    intro i hi j hj he
    exact (of_decide_eq_true (List.all_eq_true.1 (List.all_eq_true.1 h i hi) j hj)) he
  have hz : ∀ j ∈ DCoC, slCoC j < a0.tmps.size := by
    have h : DCoC.all (fun i => decide (slCoC i ≤ 134)) = true := by kernel_rfl
    intro j hj
    have := of_decide_eq_true (List.all_eq_true.1 h j hj)
    omega
  have hcg : ∀ (L L' : Nat → Prop) (val val' : Nat → Value) u, (∀ k ∈ ([] : List Nat), (L' k ↔ L k)) → (∀ k ∈ ([] : List Nat), val' k = val k) → WBe w L val u → WBe w L' val' u := by
    intro L L' val val' u hl hv hw
    exact hw
  have hKD : ∀ k ∈ ([] : List Nat), k ∈ DCoC := by decide
  refine wp_region_inv (by kernel_rfl) opsCoC_earlier (fun L a u => JR opsCoC slCoC DCoC (VCoC q m c0 g gA sl cl2 sl2 cl3 al al2 cc rf rt sf st rm wo gn gn2) a0 (WBe w) L a u) ?_ ?_ ?_
  · rintro L L' a' u i o h ho hno hall hu
    clear hK
    have q18 := (h.fe.ev (j := 18) (by decide)).trans H18
    have q15 := (h.fe.ev (j := 15) (by decide)).trans H15
    have q16 := (h.fe.ev (j := 16) (by decide)).trans H16
    have q17 := (h.fe.ev (j := 17) (by decide)).trans H17
    have hi : i < 34 := by
      have := (Array.getElem?_eq_some_iff.1 ho).1
      rwa [opsCoC_size] at this
    match i, hi with
    | 0, _ =>
      refine og_move (g := none) ho (.tmp 18) (d := some 101) (by kernel_rfl) trivial q18 ?_
      exact h.next hcg hKD ho hall (by decide) (by decide) (by decide) inj hz hu rfl
    | 1, _ =>
      obtain ⟨h1, h2, h3⟩ := flds (d := some 102) (p := Op.binOp .neq 29 (.tmp 101) (.const (.int .i64 0)) 29) (g := none) ho (by kernel_rfl)
      have g0 := (show a'.eval (.tmp 101) = .int .i64 0 from h.e 0 (by decide) (dep ho hall 0 (by kernel_rfl)) _ rfl)
      refine og_plain ho h3 trivial ?_
      unfold Oper.wp
      simp only [execOp, h2, g0]
      go_simp
      exact h.next hcg hKD ho hall (by decide) (by decide) (by decide) inj hz hu rfl
    | 2, _ =>
      refine og_move (g := none) ho (.tmp 102) (d := some 103) (by kernel_rfl) trivial (show a'.eval (.tmp 102) = .bool false from h.e 1 (by decide) (dep ho hall 1 (by kernel_rfl)) _ rfl) ?_
      exact h.next hcg hKD ho hall (by decide) (by decide) (by decide) inj hz hu rfl
    | 3, _ =>
      refine og_move (g := some (2, false)) ho (.tmp 15) (d := some 104) (by kernel_rfl) ⟨103, by kernel_rfl, (show a'.eval (.tmp 103) = .bool false from h.e 2 (by decide) (dep ho hall 2 (by kernel_rfl)) _ rfl)⟩ q15 ?_
      exact h.next hcg hKD ho hall (by decide) (by decide) (by decide) inj hz hu rfl
    | 4, _ =>
      refine og_move (g := some (2, false)) ho (.tmp 16) (d := some 105) (by kernel_rfl) ⟨103, by kernel_rfl, (show a'.eval (.tmp 103) = .bool false from h.e 2 (by decide) (dep ho hall 2 (by kernel_rfl)) _ rfl)⟩ q16 ?_
      exact h.next hcg hKD ho hall (by decide) (by decide) (by decide) inj hz hu rfl
    | 5, _ =>
      have i1 : (q : Int) < (m : Int) := by omega
      obtain ⟨h1, h2, h3⟩ := flds (d := some 106) (p := Op.indexAddr 33 (.tmp 104) (.tmp 105)) (g := some (2, false)) ho (by kernel_rfl)
      have g0 := (show a'.eval (.tmp 104) = .slice (some ⟨g, 0, none⟩) m c0 from h.e 3 (by decide) (dep ho hall 3 (by kernel_rfl)) _ rfl)
      have g1 := (show a'.eval (.tmp 105) = .int .i64 (q : Int) from h.e 4 (by decide) (dep ho hall 4 (by kernel_rfl)) _ rfl)
      refine og_plain ho h3 ⟨103, by kernel_rfl, (show a'.eval (.tmp 103) = .bool false from h.e 2 (by decide) (dep ho hall 2 (by kernel_rfl)) _ rfl)⟩ ?_
      unfold Oper.wp
      simp only [execOp, h2, g0, g1]
      go_simp
      exact h.next hcg hKD ho hall (by decide) (by decide) (by decide) inj hz hu rfl
    | 6, _ =>
      obtain ⟨h1, h2, h3⟩ := flds (d := some 107) (p := Op.fieldAddr 37 (.tmp 106) 0) (g := some (2, false)) ho (by kernel_rfl)
      have g0 := (show a'.eval (.tmp 106) = .pointer (some ⟨g, q * 8, none⟩) from h.e 5 (by decide) (dep ho hall 5 (by kernel_rfl)) _ rfl)
      refine og_plain ho h3 ⟨103, by kernel_rfl, (show a'.eval (.tmp 103) = .bool false from h.e 2 (by decide) (dep ho hall 2 (by kernel_rfl)) _ rfl)⟩ ?_
      unfold Oper.wp
      simp only [execOp, h2, g0]
      go_simp
      exact h.next hcg hKD ho hall (by decide) (by decide) (by decide) inj hz hu rfl
    | 7, _ =>
      have hbe : Below w.heap.size w u := h.w
      have c0 := (hbe.cell (p := ⟨g, q * 8, none⟩) hg).trans hx0
      obtain ⟨h1, h2, h3⟩ := flds (d := some 108) (p := Op.load 3 (.tmp 107)) (g := some (2, false)) ho (by kernel_rfl)
      have g0 := (show a'.eval (.tmp 107) = .pointer (some ⟨g, q * 8, none⟩) from h.e 6 (by decide) (dep ho hall 6 (by kernel_rfl)) _ rfl)
      refine og_plain ho h3 ⟨103, by kernel_rfl, (show a'.eval (.tmp 103) = .bool false from h.e 2 (by decide) (dep ho hall 2 (by kernel_rfl)) _ rfl)⟩ ?_
      unfold Oper.wp
      simp only [execOp, h2, g0]
      go_simp
      exact h.next hcg hKD ho hall (by decide) (by decide) (by decide) inj hz hu rfl
    | 8, _ =>
      refine og_move (g := some (2, false)) ho (.tmp 16) (d := some 109) (by kernel_rfl) ⟨103, by kernel_rfl, (show a'.eval (.tmp 103) = .bool false from h.e 2 (by decide) (dep ho hall 2 (by kernel_rfl)) _ rfl)⟩ q16 ?_
      exact h.next hcg hKD ho hall (by decide) (by decide) (by decide) inj hz hu rfl
    | 9, _ =>
      have hw : IntKind.i64.wrap ((q : Int) + 1) = (q : Int) + 1 := by rw [IntKind.wrap_i64]; omega
      obtain ⟨h1, h2, h3⟩ := flds (d := some 110) (p := Op.binOp .add 3 (.tmp 109) (.const (.int .i64 1)) 3) (g := some (2, false)) ho (by kernel_rfl)
      have g0 := (show a'.eval (.tmp 109) = .int .i64 (q : Int) from h.e 8 (by decide) (dep ho hall 8 (by kernel_rfl)) _ rfl)
      refine og_plain ho h3 ⟨103, by kernel_rfl, (show a'.eval (.tmp 103) = .bool false from h.e 2 (by decide) (dep ho hall 2 (by kernel_rfl)) _ rfl)⟩ ?_
      unfold Oper.wp
      simp only [execOp, h2, g0]
      go_simp
      exact h.next hcg hKD ho hall (by decide) (by decide) (by decide) inj hz hu rfl
    | 10, _ =>
      obtain ⟨h1, h2, h3⟩ := flds (d := some 111) (p := Op.binOp .neq 3 (.tmp 108) (.tmp 110) 3) (g := some (2, false)) ho (by kernel_rfl)
      have g0 := (show a'.eval (.tmp 108) = .int .i64 ((q : Int) + 1) from h.e 7 (by decide) (dep ho hall 7 (by kernel_rfl)) _ rfl)
      have g1 := (show a'.eval (.tmp 110) = .int .i64 ((q : Int) + 1) from h.e 9 (by decide) (dep ho hall 9 (by kernel_rfl)) _ rfl)
      refine og_plain ho h3 ⟨103, by kernel_rfl, (show a'.eval (.tmp 103) = .bool false from h.e 2 (by decide) (dep ho hall 2 (by kernel_rfl)) _ rfl)⟩ ?_
      unfold Oper.wp
      simp only [execOp, h2, g0, g1]
      go_simp
      exact h.next hcg hKD ho hall (by decide) (by decide) (by decide) inj hz hu rfl
    | 11, _ =>
      obtain ⟨h1, h2, h3⟩ := flds (d := some 112) (p := Op.pick (.tmp 103) (.const (.bool true)) (.tmp 111)) (g := none) ho (by kernel_rfl)
      have g0 := (show a'.eval (.tmp 103) = .bool false from h.e 2 (by decide) (dep ho hall 2 (by kernel_rfl)) _ rfl)
      have g1 := (show a'.eval (.tmp 111) = .bool false from h.e 10 (by decide) (dep ho hall 10 (by kernel_rfl)) _ rfl)
      refine og_plain ho h3 trivial ?_
      unfold Oper.wp
      simp only [execOp, h2, g0, g1]
      go_simp
      exact h.next hcg hKD ho hall (by decide) (by decide) (by decide) inj hz hu rfl
    | 12, _ =>
      refine og_move (g := none) ho (.tmp 112) (d := some 113) (by kernel_rfl) trivial (show a'.eval (.tmp 112) = .bool false from h.e 11 (by decide) (dep ho hall 11 (by kernel_rfl)) _ rfl) ?_
      exact h.next hcg hKD ho hall (by decide) (by decide) (by decide) inj hz hu rfl
    | 13, _ =>
      have hbe : Below w.heap.size w u := h.w
      have c0 := (hbe.cell (p := ⟨gA, 0, none⟩) hgA).trans hy0
      have c1 := (hbe.cell (p := ⟨gA, 1, none⟩) hgA).trans hy1
      have c2 := (hbe.cell (p := ⟨gA, 2, none⟩) hgA).trans hy2
      have c3 := (hbe.cell (p := ⟨gA, 3, none⟩) hgA).trans hy3
      have c4 := (hbe.cell (p := ⟨gA, 4, none⟩) hgA).trans hy4
      have c5 := (hbe.cell (p := ⟨gA, 5, none⟩) hgA).trans hy5
      have c6 := (hbe.cell (p := ⟨gA, 6, none⟩) hgA).trans hy6
      have c7 := (hbe.cell (p := ⟨gA, 7, none⟩) hgA).trans hy7
      obtain ⟨h1, h2, h3⟩ := flds (d := some 114) (p := Op.load 37 (.tmp 17)) (g := some (12, false)) ho (by kernel_rfl)
      have g0 := q17
      refine og_plain ho h3 ⟨113, by kernel_rfl, (show a'.eval (.tmp 113) = .bool false from h.e 12 (by decide) (dep ho hall 12 (by kernel_rfl)) _ rfl)⟩ ?_
      unfold Oper.wp
      simp only [execOp, h2, g0]
      go_simp
      exact h.next hcg hKD ho hall (by decide) (by decide) (by decide) inj hz hu rfl
    | 14, _ =>
      refine og_move (g := some (12, false)) ho (.tmp 15) (d := some 115) (by kernel_rfl) ⟨113, by kernel_rfl, (show a'.eval (.tmp 113) = .bool false from h.e 12 (by decide) (dep ho hall 12 (by kernel_rfl)) _ rfl)⟩ q15 ?_
      exact h.next hcg hKD ho hall (by decide) (by decide) (by decide) inj hz hu rfl
    | 15, _ =>
      refine og_move (g := some (12, false)) ho (.tmp 16) (d := some 116) (by kernel_rfl) ⟨113, by kernel_rfl, (show a'.eval (.tmp 113) = .bool false from h.e 12 (by decide) (dep ho hall 12 (by kernel_rfl)) _ rfl)⟩ q16 ?_
      exact h.next hcg hKD ho hall (by decide) (by decide) (by decide) inj hz hu rfl
    | 16, _ =>
      have i1 : (q : Int) < (m : Int) := by omega
      obtain ⟨h1, h2, h3⟩ := flds (d := some 117) (p := Op.indexAddr 33 (.tmp 115) (.tmp 116)) (g := some (12, false)) ho (by kernel_rfl)
      have g0 := (show a'.eval (.tmp 115) = .slice (some ⟨g, 0, none⟩) m c0 from h.e 14 (by decide) (dep ho hall 14 (by kernel_rfl)) _ rfl)
      have g1 := (show a'.eval (.tmp 116) = .int .i64 (q : Int) from h.e 15 (by decide) (dep ho hall 15 (by kernel_rfl)) _ rfl)
      refine og_plain ho h3 ⟨113, by kernel_rfl, (show a'.eval (.tmp 113) = .bool false from h.e 12 (by decide) (dep ho hall 12 (by kernel_rfl)) _ rfl)⟩ ?_
      unfold Oper.wp
      simp only [execOp, h2, g0, g1]
      go_simp
      exact h.next hcg hKD ho hall (by decide) (by decide) (by decide) inj hz hu rfl
    | 17, _ =>
      have hbe : Below w.heap.size w u := h.w
      have c0 := (hbe.cell (p := ⟨g, q * 8, none⟩) hg).trans hx0
      have c1 := (hbe.cell (p := ⟨g, q * 8 + 1, none⟩) hg).trans hx1
      have c2 := (hbe.cell (p := ⟨g, q * 8 + 2, none⟩) hg).trans hx2
      have c3 := (hbe.cell (p := ⟨g, q * 8 + 3, none⟩) hg).trans hx3
      have c4 := (hbe.cell (p := ⟨g, q * 8 + 4, none⟩) hg).trans hx4
      have c5 := (hbe.cell (p := ⟨g, q * 8 + 5, none⟩) hg).trans hx5
      have c6 := (hbe.cell (p := ⟨g, q * 8 + 6, none⟩) hg).trans hx6
      have c7 := (hbe.cell (p := ⟨g, q * 8 + 7, none⟩) hg).trans hx7
      obtain ⟨h1, h2, h3⟩ := flds (d := some 118) (p := Op.load 37 (.tmp 117)) (g := some (12, false)) ho (by kernel_rfl)
      have g0 := (show a'.eval (.tmp 117) = .pointer (some ⟨g, q * 8, none⟩) from h.e 16 (by decide) (dep ho hall 16 (by kernel_rfl)) _ rfl)
      refine og_plain ho h3 ⟨113, by kernel_rfl, (show a'.eval (.tmp 113) = .bool false from h.e 12 (by decide) (dep ho hall 12 (by kernel_rfl)) _ rfl)⟩ ?_
      unfold Oper.wp
      simp only [execOp, h2, g0]
      go_simp
      exact h.next hcg hKD ho hall (by decide) (by decide) (by decide) inj hz hu rfl
    | 18, _ =>
      obtain ⟨h1, h2, h3⟩ := flds (d := some 119) (p := Op.call { callee := .value (.func 16), args := #[.tmp 114, .tmp 118], argTypes := #[37, 37] }) (g := some (12, false)) ho (by kernel_rfl)
      have hbe : Below w.heap.size w u := h.w
      refine og_call2 (g := some (12, false)) ho 16 (.tmp 114) (.tmp 118) 37 37 (d := some 119) (by kernel_rfl) ⟨113, by kernel_rfl, (show a'.eval (.tmp 113) = .bool false from h.e 12 (by decide) (dep ho hall 12 (by kernel_rfl)) _ rfl)⟩ Try.func16 rfl (by kernel_rfl) (by rw [(show a'.eval (.tmp 114) = .agg #[.int .i64 ((q : Int) + 1), .int .i64 cc, .string wo, .int .i64 rf, .int .i64 rt, .bool gn, .bool false, .slice al sl cl2] from h.e 13 (by decide) (dep ho hall 13 (by kernel_rfl)) _ rfl), (show a'.eval (.tmp 118) = .agg #[.int .i64 ((q : Int) + 1), .int .i64 cc, .string wo, .int .i64 sf, .int .i64 st, .bool gn2, .bool false, .slice al2 sl2 cl3] from h.e 17 (by decide) (dep ho hall 17 (by kernel_rfl)) _ rfl)]; exact CQ u hbe) ?_
      rintro e w' ⟨rfl, bw⟩
      refine ⟨_, rfl, h.put ho hall (by decide) inj hz hu (fun v' hv' => by injection hv') (fun val h1 h2 => ?_)⟩
      exact hbe.trans (bw.mono hbe.size)
    | 19, _ =>
      obtain ⟨h1, h2, h3⟩ := flds (d := some 120) (p := Op.unOp .not 4 (.tmp 119)) (g := some (12, false)) ho (by kernel_rfl)
      have g0 := (show a'.eval (.tmp 119) = .bool true from h.e 18 (by decide) (dep ho hall 18 (by kernel_rfl)) _ rfl)
      refine og_plain ho h3 ⟨113, by kernel_rfl, (show a'.eval (.tmp 113) = .bool false from h.e 12 (by decide) (dep ho hall 12 (by kernel_rfl)) _ rfl)⟩ ?_
      unfold Oper.wp
      simp only [execOp, h2, g0]
      go_simp
      exact h.next hcg hKD ho hall (by decide) (by decide) (by decide) inj hz hu rfl
    | 20, _ =>
      obtain ⟨h1, h2, h3⟩ := flds (d := some 121) (p := Op.pick (.tmp 113) (.const (.bool true)) (.tmp 120)) (g := none) ho (by kernel_rfl)
      have g0 := (show a'.eval (.tmp 113) = .bool false from h.e 12 (by decide) (dep ho hall 12 (by kernel_rfl)) _ rfl)
      have g1 := (show a'.eval (.tmp 120) = .bool false from h.e 19 (by decide) (dep ho hall 19 (by kernel_rfl)) _ rfl)
      refine og_plain ho h3 trivial ?_
      unfold Oper.wp
      simp only [execOp, h2, g0, g1]
      go_simp
      exact h.next hcg hKD ho hall (by decide) (by decide) (by decide) inj hz hu rfl
    | 21, _ =>
      refine og_move (g := none) ho (.tmp 121) (d := some 122) (by kernel_rfl) trivial (show a'.eval (.tmp 121) = .bool false from h.e 20 (by decide) (dep ho hall 20 (by kernel_rfl)) _ rfl) ?_
      exact h.next hcg hKD ho hall (by decide) (by decide) (by decide) inj hz hu rfl
    | 22, _ =>
      obtain ⟨h1, h2, h3⟩ := flds (d := some 123) (p := Op.fieldAddr 37 (.tmp 17) 6) (g := some (21, false)) ho (by kernel_rfl)
      have g0 := q17
      refine og_plain ho h3 ⟨122, by kernel_rfl, (show a'.eval (.tmp 122) = .bool false from h.e 21 (by decide) (dep ho hall 21 (by kernel_rfl)) _ rfl)⟩ ?_
      unfold Oper.wp
      simp only [execOp, h2, g0]
      go_simp
      exact h.next hcg hKD ho hall (by decide) (by decide) (by decide) inj hz hu rfl
    | 23, _ =>
      have hbe : Below w.heap.size w u := h.w
      have c0 := (hbe.cell (p := ⟨gA, 6, none⟩) hgA).trans hy6
      obtain ⟨h1, h2, h3⟩ := flds (d := some 124) (p := Op.load 4 (.tmp 123)) (g := some (21, false)) ho (by kernel_rfl)
      have g0 := (show a'.eval (.tmp 123) = .pointer (some ⟨gA, 6, none⟩) from h.e 22 (by decide) (dep ho hall 22 (by kernel_rfl)) _ rfl)
      refine og_plain ho h3 ⟨122, by kernel_rfl, (show a'.eval (.tmp 122) = .bool false from h.e 21 (by decide) (dep ho hall 21 (by kernel_rfl)) _ rfl)⟩ ?_
      unfold Oper.wp
      simp only [execOp, h2, g0]
      go_simp
      exact h.next hcg hKD ho hall (by decide) (by decide) (by decide) inj hz hu rfl
    | 24, _ =>
      refine og_move (g := some (21, false)) ho (.tmp 16) (d := some 125) (by kernel_rfl) ⟨122, by kernel_rfl, (show a'.eval (.tmp 122) = .bool false from h.e 21 (by decide) (dep ho hall 21 (by kernel_rfl)) _ rfl)⟩ q16 ?_
      exact h.next hcg hKD ho hall (by decide) (by decide) (by decide) inj hz hu rfl
    | 25, _ =>
      have i1 : decide (0 < q) = false := by have := hpos.out; simp; omega
      obtain ⟨h1, h2, h3⟩ := flds (d := some 126) (p := Op.binOp .gtr 3 (.tmp 125) (.const (.int .i64 0)) 3) (g := some (21, false)) ho (by kernel_rfl)
      have g0 := (show a'.eval (.tmp 125) = .int .i64 (q : Int) from h.e 24 (by decide) (dep ho hall 24 (by kernel_rfl)) _ rfl)
      refine og_plain ho h3 ⟨122, by kernel_rfl, (show a'.eval (.tmp 122) = .bool false from h.e 21 (by decide) (dep ho hall 21 (by kernel_rfl)) _ rfl)⟩ ?_
      unfold Oper.wp
      simp only [execOp, h2, g0]
      go_simp
      exact h.next hcg hKD ho hall (by decide) (by decide) (by decide) inj hz hu rfl
    | 26, _ =>
      refine og_move (g := some (21, false)) ho (.tmp 126) (d := some 127) (by kernel_rfl) ⟨122, by kernel_rfl, (show a'.eval (.tmp 122) = .bool false from h.e 21 (by decide) (dep ho hall 21 (by kernel_rfl)) _ rfl)⟩ (show a'.eval (.tmp 126) = .bool false from h.e 25 (by decide) (dep ho hall 25 (by kernel_rfl)) _ rfl) ?_
      exact h.next hcg hKD ho hall (by decide) (by decide) (by decide) inj hz hu rfl
    | 27, _ =>
      refine og_skip (k := 26) (b := true) ho (d := some 128) (by kernel_rfl) (t := 127) (by kernel_rfl) (show a'.eval (.tmp 127) = .bool false from h.e 26 (by decide) (dep ho hall 26 (by kernel_rfl)) _ rfl) ?_
      exact h.next hcg hKD ho hall (by decide) (by decide) (by decide) inj hz hu rfl
    | 28, _ =>
      refine og_skip (k := 26) (b := true) ho (d := some 129) (by kernel_rfl) (t := 127) (by kernel_rfl) (show a'.eval (.tmp 127) = .bool false from h.e 26 (by decide) (dep ho hall 26 (by kernel_rfl)) _ rfl) ?_
      exact h.next hcg hKD ho hall (by decide) (by decide) (by decide) inj hz hu rfl
    | 29, _ =>
      refine og_skip (k := 26) (b := true) ho (d := some 130) (by kernel_rfl) (t := 127) (by kernel_rfl) (show a'.eval (.tmp 127) = .bool false from h.e 26 (by decide) (dep ho hall 26 (by kernel_rfl)) _ rfl) ?_
      exact h.next hcg hKD ho hall (by decide) (by decide) (by decide) inj hz hu rfl
    | 30, _ =>
      refine og_skip (k := 26) (b := true) ho (d := some 131) (by kernel_rfl) (t := 127) (by kernel_rfl) (show a'.eval (.tmp 127) = .bool false from h.e 26 (by decide) (dep ho hall 26 (by kernel_rfl)) _ rfl) ?_
      exact h.next hcg hKD ho hall (by decide) (by decide) (by decide) inj hz hu rfl
    | 31, _ =>
      obtain ⟨h1, h2, h3⟩ := flds (d := some 132) (p := Op.pick (.tmp 127) (.tmp 131) (.const (.bool false))) (g := some (21, false)) ho (by kernel_rfl)
      have g0 := (show a'.eval (.tmp 127) = .bool false from h.e 26 (by decide) (dep ho hall 26 (by kernel_rfl)) _ rfl)
      have g1 := (show a'.eval (.tmp 131) = undef from h.e 30 (by decide) (dep ho hall 30 (by kernel_rfl)) _ rfl)
      refine og_plain ho h3 ⟨122, by kernel_rfl, (show a'.eval (.tmp 122) = .bool false from h.e 21 (by decide) (dep ho hall 21 (by kernel_rfl)) _ rfl)⟩ ?_
      unfold Oper.wp
      simp only [execOp, h2, g0, g1]
      go_simp
      exact h.next hcg hKD ho hall (by decide) (by decide) (by decide) inj hz hu rfl
    | 32, _ =>
      obtain ⟨h1, h2, h3⟩ := flds (d := some 133) (p := Op.binOp .neq 4 (.tmp 124) (.tmp 132) 4) (g := some (21, false)) ho (by kernel_rfl)
      have g0 := (show a'.eval (.tmp 124) = .bool false from h.e 23 (by decide) (dep ho hall 23 (by kernel_rfl)) _ rfl)
      have g1 := (show a'.eval (.tmp 132) = .bool false from h.e 31 (by decide) (dep ho hall 31 (by kernel_rfl)) _ rfl)
      refine og_plain ho h3 ⟨122, by kernel_rfl, (show a'.eval (.tmp 122) = .bool false from h.e 21 (by decide) (dep ho hall 21 (by kernel_rfl)) _ rfl)⟩ ?_
      unfold Oper.wp
      simp only [execOp, h2, g0, g1]
      go_simp
      exact h.next hcg hKD ho hall (by decide) (by decide) (by decide) inj hz hu rfl
    | 33, _ =>
      obtain ⟨h1, h2, h3⟩ := flds (d := some 134) (p := Op.pick (.tmp 122) (.const (.bool true)) (.tmp 133)) (g := none) ho (by kernel_rfl)
      have g0 := (show a'.eval (.tmp 122) = .bool false from h.e 21 (by decide) (dep ho hall 21 (by kernel_rfl)) _ rfl)
      have g1 := (show a'.eval (.tmp 133) = .bool false from h.e 32 (by decide) (dep ho hall 32 (by kernel_rfl)) _ rfl)
      refine og_plain ho h3 trivial ?_
      unfold Oper.wp
      simp only [execOp, h2, g0, g1]
      go_simp
      exact h.next hcg hKD ho hall (by decide) (by decide) (by decide) inj hz hu rfl
    | i + 34, hi => omega
  · rintro L a' u h hall
    rw [opsCoC_size] at hall
    rw [h.done hz]
    refine hK L _ u hall h.w (fun j => ?_)
    by_cases hj : j ∈ DCoC
    · cases hv : (VCoC q m c0 g gA sl cl2 sl2 cl3 al al2 cc rf rt sf st rm wo gn gn2) j with
      | none => exact .inl rfl
      | some v =>
        refine .inr (.inl ?_)
        have hjN : j < 34 := by
          have hh : DCoC.all (fun i => decide (i < 34)) = true := by kernel_rfl
          exact of_decide_eq_true (List.all_eq_true.1 hh j hj)
        rw [h.e j hj (hall j hjN) v hv]
    · exact .inr (.inr hj)
  · intro L hL
    refine JR.start hL ?_
    exact (Below.refl _ _).drew


end Go.Proofs.Ytkkklfnooeofcaa
