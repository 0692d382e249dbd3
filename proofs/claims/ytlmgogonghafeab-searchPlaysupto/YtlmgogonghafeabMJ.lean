/-
  Texts put together: Rc Rd Re Qa Qb.
-/
import Derived.Test.YtlmgogonghafeabMD
import Derived.Test.YtlmgogonghafeabRApp
import Derived.Test.YtlmgogonghafeabMG
import Derived.Test.YtlmgogonghafeabML
import Derived.Test.YtlmgogonghafeabMR
import Derived.Test.YtlmgogonghafeabMT
import Derived.Test.YtlmgogonghafeabNx
/-! Rc -/
namespace Go.Proofs.Ytlmgogonghafeab
open Go.RowKit Go.Lib
set_option linter.unusedVariables false

/-- An index of the document at block y: it holds the elements xs; its blocks are among O. -/
def RI (w : World) (O : Nat → Prop) (y : Nat) (xs : List El) : Prop :=
  ∃ β v, w.heap[y]? = some (.cells #[v] 83 (0, 0)) ∧ SF elc 3 w 25 β v xs ∧ O y ∧ ∀ g, β = some g → O g
theorem RI.fr {w w' : World} {O Q : Nat → Prop} {y : Nat} {xs : List El} (h : RI w O y xs) (hF : Fr Q w w') (hQ : ∀ k, O k → ¬ Q k) : RI w' O y xs := by
  obtain ⟨β, v, h1, h2, h3, h4⟩ := h
  exact ⟨β, v, hF.keeps h1 (hQ _ h3), h2.fr hF (fun g hg => hQ _ (h4 g hg)), h3, h4⟩
theorem RI.below {w w' : World} {O : Nat → Prop} {y : Nat} {xs : List El} (h : RI w O y xs) (hb : Below w.heap.size w w') : RI w' O y xs := h.fr (Q := fun _ => False) (Fr.of_below hb) (fun _ _ h => h)
theorem RI.more {w : World} {O O' : Nat → Prop} {y : Nat} {xs : List El} (h : RI w O y xs) (hO : ∀ k, k < w.heap.size → O k → O' k) : RI w O' y xs := by
  obtain ⟨β, v, h1, h2, h3, h4⟩ := h
  exact ⟨β, v, h1, h2, hO _ (block_lt h1) h3, fun g hg => hO _ (h2.lt g hg) (h4 g hg)⟩
theorem RI.isE {w : World} {O : Nat → Prop} {y : Nat} {xs : List El} (h : RI w O y xs) : ∃ a c, w.cell? ⟨y, 0, none⟩ = some (.slice a xs.length c) ∧ IsE w a xs.length c xs ∧ y < w.heap.size := by
  obtain ⟨β, v, h1, h2, h3, h4⟩ := h
  obtain ⟨a, c, rfl, hE, -⟩ := (sf_se h2).form
  exact ⟨a, c, by rw [cell_row h1]; rfl, hE, block_lt h1⟩

/-- While the elements are appended. -/
def NwI (w wr : World) (y : Nat) (xs : List El) (k : Nat) : Prop :=
  ∃ β v, wr.heap[y]? = some (.cells #[v] 83 (0, 0)) ∧ SF elc 3 wr 25 β v (xs.take k) ∧ (∀ g, β = some g → y < g) ∧ Below w.heap.size w wr ∧ y = w.heap.size
/-- What the append leaves. -/
def NwP (w : World) (y : Nat) (xs : List El) (k : Nat) (x0 : Value) (v : Value) (u : World) : Prop :=
  ∃ β, u.heap[y]? = some (.cells #[x0] 83 (0, 0)) ∧ SF elc 3 u 25 β v (xs.take (k + 1)) ∧ (∀ g, β = some g → y < g) ∧ Below w.heap.size w u ∧ y = w.heap.size
theorem NwP.fin {w u : World} {y k : Nat} {xs : List El} {x0 v : Value} (h : NwP w y xs k x0 v u) : NwI w (u.setCell ⟨y, 0, none⟩ v) y xs (k + 1) := by
  obtain ⟨β, h1, h2, h3, h4, h5⟩ := h
  have hF : Fr (· = y) u (u.setCell ⟨y, 0, none⟩ v) := Fr.setCell u _ _ rfl
  refine ⟨β, v, ?_, h2.fr hF (fun g hg e => by have := h3 g hg; omega), h3, h4.trans (hF.below h4.size (fun j hj => by omega)), h5⟩
  have := set_row h1 0 v
  rw [this]
  rfl
theorem NwP.st {w u : World} {y k : Nat} {xs : List El} {x0 v : Value} (h : NwP w y xs k x0 v u) : (∃ A m d, v = .slice A m d) ∧ (∃ v0, u.cell? ⟨y, 0, none⟩ = some v0) ∧ u.frozen? ⟨y, 0, none⟩ = false := by
  obtain ⟨β, h1, h2, h3, h4, h5⟩ := h
  obtain ⟨a, c, hv, -, -⟩ := h2.form
  exact ⟨⟨a, _, c, hv⟩, ⟨x0, by rw [cell_row h1]; rfl⟩, frozen_row h1 0⟩
theorem NwI.push {w wr u : World} {y k g : Nat} {xs : List El} {x0 : Value} (hk : k < xs.length) (hn : xs.length ≤ 400000) (h1 : wr.heap[y]? = some (.cells #[x0] 83 (0, 0))) {β : Option Nat} (h2 : SF elc 3 wr 25 β x0 (xs.take k)) (h3 : ∀ g, β = some g → y < g) (h4 : Below w.heap.size w wr) (h5 : y = w.heap.size) (hb : Below wr.heap.size wr u)
    (hg : u.heap[g]? = some (.cells #[.int .u8 xs[k].1, .int .i64 xs[k].2.1, .int .i64 xs[k].2.2] 25 (0, 0))) :
    ∃ v' u', (∀ ty, (Builtin.append_ #[22, 22] ty #[x0, .slice (some ⟨g, 0, none⟩) 1 1]).run Try.prog u = .ok v' u') ∧ NwP w y xs k x0 v' u' := by
  obtain ⟨i0, hi0, hz0, hz1, hz2⟩ := info_parts Try.infoE
  have hl : (xs.take k).length = k := by simp; omega
  have S2 := h2.fr (S := fun _ => False) (Fr.of_below hb) (fun _ _ h => h)
  have y2 := (Fr.of_below (S := fun _ => False) hb).keeps h1 (fun h => h)
  obtain ⟨v', u', hr, g', hS, hN⟩ := run_pushF sz_elc (P := Try.prog) u 22 0 25 i0 _ 24 Try.underlying22 hi0 hz0 hz1 rfl hz2 β x0 (xs.take k) S2 ⟨g, 0, none⟩ 1 1 [xs[k]] rfl (fun j v hj => by
    rw [add_lit, Nat.zero_add, cell_row hg]
    rw [cl_one] at hj
    simpa [elc] using hj) (by omega) (by omega) (by omega)
  rw [← List.take_succ_eq_append_getElem hk] at hS
  refine ⟨v', u', fun ty => hr, some g', ?_, hS, ?_, ?_, h5⟩
  · rcases hN with ⟨e, hF⟩ | ⟨e, hF⟩
    · exact hF.keeps y2 (fun e2 => by have := h3 g' e; omega)
    · exact hF.keeps y2 (fun e2 => e2)
  · intro q hq
    cases hq
    rcases hN with ⟨e, hF⟩ | ⟨e, hF⟩
    · exact h3 g' e
    · have := block_lt y2
      omega
  · have hb1 := h4.trans (hb.mono h4.size)
    rcases hN with ⟨e, hF⟩ | ⟨e, hF⟩
    · exact hb1.trans (hF.below hb1.size (fun q hq => by rw [hq]; have := h3 g' e; omega))
    · exact hb1.trans (hF.below hb1.size (fun q hq => hq.elim))

set_option maxRecDepth 100000 in
set_option maxHeartbeats 8000000 in
theorem rnew_any (a : Option Addr) (n c : Nat) (xs : List El) (w : World) (hE : IsE w a n c xs) (hn : n ≤ 400000) :
    Calls Try.prog 17 #[.slice a n c] w fun e w' => ∃ y, e = .returned (.pointer (some ⟨y, 0, none⟩)) ∧ RI w' (fun k => w.heap.size ≤ k ∧ k < w'.heap.size) y xs ∧ Below w.heap.size w w' := by
  have HE := hd hE
  have HL : Hid (xs.length = n) := hE.1
  have I0 : Hid (NwI w (w.alloc (.cells #[.slice none 0 0] 83)) w.heap.size xs 0) := ⟨none, _, heap_alloc_new _ _, ⟨rfl, rfl⟩, fun g hg => (by cases hg), (Below.refl _ _).alloc (Nat.le_refl _) _, rfl⟩
  clear hE
  go_enter Try.func17, Try.ntmps17
  go_wp2
  go_loopw [4] (fun iv wr => ∃ k : Nat, iv = .int .i64 k ∧ k ≤ n ∧ Hid (NwI w wr w.heap.size xs k)) (fun iv _ => n - (intOf iv).toNat)
  case atStart => exact ⟨0, rfl, Nat.zero_le _, I0⟩
  case round =>
    obtain ⟨k, rfl, hk, hS⟩ := hrel
    clear I0
    by_cases hlt : k < n
    · obtain ⟨β, v, h1, h2, h3, h4, h5⟩ := hS.out
      have kx : k < xs.length := by rw [HL.out]; exact hlt
      have hE2 := HE.out.below h4
      obtain ⟨b, off, rfl, hb⟩ := hE2.addr (by omega)
      obtain ⟨z0, z1, z2⟩ := hE2.at k hlt kx
      obtain ⟨xa, xc, rfl, -, -⟩ := h2.form
      have hl : (xs.take k).length = k := by simp; omega
      rw [hl] at h1 h2
      have hA := fun u g (hb : Below wr.heap.size wr u) hg => NwI.push (u := u) (g := g) kx (by rw [HL.out]; exact hn) h1 h2 h3 h4 h5 hb hg
      have hy := block_lt h1
      have hy0 : wr.cell? ⟨w.heap.size, 0, none⟩ = some (.slice xa k xc) := by rw [cell_row h1]; rfl
      generalize hX : xs[k] = X at z0 z1 z2 hA
      obtain ⟨x0, x1, x2⟩ := X
      simp only at z0 z1 z2 hA
      have i1 : (k : Int) < (n : Int) := by omega
      clear hS h1 h2 h3 h4 h5 hE2 hX
      go_wp2
      refine wp_opsD (o' := opsRn) (by kernel_rfl) ?_
      refine regRn _ wr w.heap.size b off n c k xc xa x0 x1 x2 (NwP w w.heap.size xs k (.slice xa k xc)) hlt hy hb hy0 z0 z1 z2 hA (fun v u h => h.st) (by simp) rfl rfl rfl ?_
      intro L' val u' hL' hW' hV'
      obtain ⟨v3, u3, hP, rfl⟩ := hW'.2.2.2 (hL' 13 (by omega))
      have Z := hd hP.fin
      clear hW' hV' hL' hP hA
      simp only [slRn, DRn, List.getD_cons_zero, List.getD_cons_succ, List.map_cons, List.map_nil, puts, List.foldl_cons, List.foldl_nil, Act.put, List.setIfInBounds_toArray, List.set_cons_succ, List.set_cons_zero]
      go_wp2
      exact ⟨⟨k + 1, by go_num, by omega, Z⟩, by simp only [intOf]; omega⟩
    · obtain rfl : n = k := by omega
      obtain ⟨β, v, h1, h2, h3, h4, h5⟩ := hS.out
      rw [List.take_of_length_le (by rw [HL.out]; exact Nat.le_refl _)] at h2
      have Z : Hid (RI wr (fun k => w.heap.size ≤ k ∧ k < wr.heap.size) w.heap.size xs ∧ Below w.heap.size w wr) := ⟨⟨β, v, h1, h2, ⟨Nat.le_refl _, block_lt h1⟩, fun g hg => ⟨by have := h3 g hg; omega, h2.lt g hg⟩⟩, h4⟩
      clear hS h1 h2 h3 h4 h5
      go_wp2
      go_ret
      exact ⟨_, rfl, Z.out⟩
end Go.Proofs.Ytlmgogonghafeab

/-! Rd -/
namespace Go.Proofs.Ytlmgogonghafeab
open Go.RowKit Go.Lib
set_option linter.unusedVariables false

set_option maxRecDepth 100000 in
set_option maxHeartbeats 4000000 in
theorem ritext_any (y : Nat) (O : Nat → Prop) (xs : List El) (w : World) (hI : RI w O y xs) (hn : xs.length ≤ 400000) :
    Calls Try.prog 19 #[.pointer (some ⟨y, 0, none⟩)] w fun e w' => e = .returned (.string (bsA (tB xs))) ∧ Below w.heap.size w w' := by
  obtain ⟨a, c, c0, hE, hy⟩ := hI.isE
  have CT := hd (rtext_any a xs.length c xs w hE (by omega))
  rw [bstr_tB] at CT
  clear hI hE
  go_enter Try.func19, Try.ntmps19
  go_wp2_with (go_at_call 44; refine CT.out.mono ?_; rintro e w1 ⟨rfl, hb⟩)
  go_ret
  exact ⟨rfl, hb⟩

set_option maxRecDepth 100000 in
set_option maxHeartbeats 4000000 in
theorem riapply_bad (y : Nat) (O : Nat → Prop) (xs : List El) (k p c l s : Int) (w : World) (hI : RI w O y xs) (hf : ¬ fitsP (xs.length : Int) ⟨k, p, c, l, s⟩ = 0) :
    Calls Try.prog 37 #[.pointer (some ⟨y, 0, none⟩), .agg #[.int .i64 k, .int .i64 p, .int .u8 c, .int .i64 l, .int .i64 s]] w fun e w' => e = .returned (.int .i64 241) ∧ Below w.heap.size w w' := by
  obtain ⟨f, hff⟩ : ∃ f, fitsP (xs.length : Int) ⟨k, p, c, l, s⟩ = f := ⟨_, rfl⟩
  rw [hff] at hf
  obtain ⟨a, cc, c0, hE, hy⟩ := hI.isE
  have hy2 : ¬ y = w.heap.size := by omega
  have b0 : Below w.heap.size w (w.alloc (.cells #[.int .i64 k, .int .i64 p, .int .u8 c, .int .i64 l, .int .i64 s] 32)) := (Below.refl _ _).alloc (Nat.le_refl _) _
  have CA := hd (fun W => rapply_bad a xs.length cc k p c l s f W hff hf)
  have B0 := hd b0
  have z0 : (w.alloc (.cells #[.int .i64 k, .int .i64 p, .int .u8 c, .int .i64 l, .int .i64 s] 32)).cell? ⟨y, 0, none⟩ = some (.slice a xs.length cc) := by
    rw [World.cell?_alloc_past _ y _ hy]; exact c0
  have hn := heap_alloc_new w (.cells #[.int .i64 k, .int .i64 p, .int .u8 c, .int .i64 l, .int .i64 s] 32)
  have q0 : (w.alloc (.cells #[.int .i64 k, .int .i64 p, .int .u8 c, .int .i64 l, .int .i64 s] 32)).cell? ⟨w.heap.size, 0, none⟩ = some (.int .i64 k) := by rw [cell_row hn]; rfl
  have q1 : (w.alloc (.cells #[.int .i64 k, .int .i64 p, .int .u8 c, .int .i64 l, .int .i64 s] 32)).cell? ⟨w.heap.size, 1, none⟩ = some (.int .i64 p) := by rw [cell_row hn]; rfl
  have q2 : (w.alloc (.cells #[.int .i64 k, .int .i64 p, .int .u8 c, .int .i64 l, .int .i64 s] 32)).cell? ⟨w.heap.size, 2, none⟩ = some (.int .u8 c) := by rw [cell_row hn]; rfl
  have q3 : (w.alloc (.cells #[.int .i64 k, .int .i64 p, .int .u8 c, .int .i64 l, .int .i64 s] 32)).cell? ⟨w.heap.size, 3, none⟩ = some (.int .i64 l) := by rw [cell_row hn]; rfl
  have q4 : (w.alloc (.cells #[.int .i64 k, .int .i64 p, .int .u8 c, .int .i64 l, .int .i64 s] 32)).cell? ⟨w.heap.size, 4, none⟩ = some (.int .i64 s) := by rw [cell_row hn]; rfl
  have hf2 : (f != 0) = true := by simpa using hf
  clear hI hE hff b0 hn c0
  go_enter Try.func37, Try.ntmps37
  go_upto_region 1 with fail
  generalize w.alloc (.cells #[.int .i64 k, .int .i64 p, .int .u8 c, .int .i64 l, .int .i64 s] 32) = w1 at *
  go_region_with (go_at_call 57; refine (CA.out _).mono ?_; rintro e w2 ⟨rfl, hb2⟩)
  all_goals
    have B2 := hd (B0.out.trans (((below_drew w1).trans hb2).mono B0.out.size))
    clear hb2
    go_wp2
    go_ret
    exact ⟨rfl, B2.out⟩

set_option maxRecDepth 100000 in
set_option maxHeartbeats 4000000 in
theorem riapply_good (y : Nat) (O : Nat → Prop) (xs : List El) (k p c l s : Int) (w : World) (hI : RI w O y xs) (hf : fitsP (xs.length : Int) ⟨k, p, c, l, s⟩ = 0) :
    Calls Try.prog 37 #[.pointer (some ⟨y, 0, none⟩), .agg #[.int .i64 k, .int .i64 p, .int .u8 c, .int .i64 l, .int .i64 s]] w fun e w' => e = .returned (.int .i64 0) ∧ RI w' (fun j => O j ∨ (w.heap.size ≤ j ∧ j < w'.heap.size)) y (applyP xs ⟨k, p, c, l, s⟩) ∧ Fr O w w' := by
  obtain ⟨β, v, h1, h2, h3, h4⟩ := hI
  obtain ⟨a, cc, rfl, hE, -⟩ := (sf_se h2).form
  have hy := block_lt h1
  have c0 : w.cell? ⟨y, 0, none⟩ = some (.slice a xs.length cc) := by rw [cell_row h1]; rfl
  have hy2 : ¬ y = w.heap.size := by omega
  have b0 : Below w.heap.size w (w.alloc (.cells #[.int .i64 k, .int .i64 p, .int .u8 c, .int .i64 l, .int .i64 s] 32)) := (Below.refl _ _).alloc (Nat.le_refl _) _
  have CA := hd (fun W (hW : Below w.heap.size w W) => rapply_good a xs.length cc k p c l s xs _ _ W (hE.below hW) hf rfl rfl)
  generalize applyP xs ⟨k, p, c, l, s⟩ = T at *
  have B0 := hd b0
  have H1 := hd h1
  have H3 := hd h3
  have z0 : (w.alloc (.cells #[.int .i64 k, .int .i64 p, .int .u8 c, .int .i64 l, .int .i64 s] 32)).cell? ⟨y, 0, none⟩ = some (.slice a xs.length cc) := by
    rw [World.cell?_alloc_past _ y _ hy]; exact c0
  have hn := heap_alloc_new w (.cells #[.int .i64 k, .int .i64 p, .int .u8 c, .int .i64 l, .int .i64 s] 32)
  have q0 : (w.alloc (.cells #[.int .i64 k, .int .i64 p, .int .u8 c, .int .i64 l, .int .i64 s] 32)).cell? ⟨w.heap.size, 0, none⟩ = some (.int .i64 k) := by rw [cell_row hn]; rfl
  have q1 : (w.alloc (.cells #[.int .i64 k, .int .i64 p, .int .u8 c, .int .i64 l, .int .i64 s] 32)).cell? ⟨w.heap.size, 1, none⟩ = some (.int .i64 p) := by rw [cell_row hn]; rfl
  have q2 : (w.alloc (.cells #[.int .i64 k, .int .i64 p, .int .u8 c, .int .i64 l, .int .i64 s] 32)).cell? ⟨w.heap.size, 2, none⟩ = some (.int .u8 c) := by rw [cell_row hn]; rfl
  have q3 : (w.alloc (.cells #[.int .i64 k, .int .i64 p, .int .u8 c, .int .i64 l, .int .i64 s] 32)).cell? ⟨w.heap.size, 3, none⟩ = some (.int .i64 l) := by rw [cell_row hn]; rfl
  have q4 : (w.alloc (.cells #[.int .i64 k, .int .i64 p, .int .u8 c, .int .i64 l, .int .i64 s] 32)).cell? ⟨w.heap.size, 4, none⟩ = some (.int .i64 s) := by rw [cell_row hn]; rfl
  clear h1 h2 h3 h4 hE hf b0 hn c0
  go_enter Try.func37, Try.ntmps37
  go_upto_region 1 with fail
  generalize w.alloc (.cells #[.int .i64 k, .int .i64 p, .int .u8 c, .int .i64 l, .int .i64 s] 32) = w1 at *
  have hy1 : y < w1.heap.size := by have := B0.out.size; omega
  go_region_with (go_at_call 57; refine (CA.out _ (B0.out.trans ((below_drew w1).mono B0.out.size))).mono ?_; rintro e w2 ⟨v, rfl, hO, hb2⟩)
  all_goals
    have B2 := hd (B0.out.trans (((below_drew w1).trans hb2).mono B0.out.size))
    obtain ⟨g, hg, hS⟩ := hO
    have hg2 : w1.heap.size ≤ g := hg
    have h1 := (Fr.of_below (S := fun _ => False) B2.out).keeps H1.out (fun h => h)
    obtain ⟨a2, c2, hv, -, -⟩ := hS.form
    subst hv
    have hyg : ¬ y = g := by omega
    have d0 : w2.cell? ⟨y, 0, none⟩ = some (.slice a xs.length cc) := by rw [cell_row h1]; rfl
    have f0 : w2.frozen? ⟨y, 0, none⟩ = false := frozen_row h1 0
    have Z : Hid (RI (w2.setCell ⟨y, 0, none⟩ (.slice a2 T.length c2)) (fun j => O j ∨ (w.heap.size ≤ j ∧ j < (w2.setCell ⟨y, 0, none⟩ (.slice a2 T.length c2)).heap.size)) y T ∧ Fr O w (w2.setCell ⟨y, 0, none⟩ (.slice a2 T.length c2))) := by
      have hF : Fr (· = y) w2 (w2.setCell ⟨y, 0, none⟩ (.slice a2 T.length c2)) := Fr.setCell w2 _ _ rfl
      have hS2 := (se_sf hS).fr hF (fun q hq e => by cases hq; exact hyg e.symm)
      refine ⟨⟨some g, _, ?_, hS2, .inl H3.out, fun q hq => ?_⟩, ?_⟩
      · have := set_row h1 0 (.slice a2 T.length c2)
        rw [this]
        rfl
      · cases hq
        refine .inr ⟨by have := B0.out.size; omega, hS2.lt g rfl⟩
      · exact (Fr.of_below (S := O) B2.out).trans (hF.mono (fun q _ e => by rw [e]; exact H3.out))
    clear hb2 hS h1 hg
    go_wp2
    go_ret
    exact ⟨rfl, Z.out⟩
end Go.Proofs.Ytlmgogonghafeab

/-! Re -/
namespace Go.Proofs.Ytlmgogonghafeab
open Go.RowKit Go.Lib
set_option linter.unusedVariables false

set_option maxRecDepth 100000 in
set_option maxHeartbeats 4000000 in
theorem rplain_any (s : ByteArray) (w : World) (hs : s.size ≤ 9223372036854775807) :
    Calls Try.prog 58 #[.string s] w fun e w' => e = .returned (.bool (fillB s.data.toList)) ∧ w' = w := by
  have TL : Hid (s.data.toList.length = s.size) := by show _ = _; simp
  by_cases h6 : s.size ≤ 64
  · have i6 : ¬ (64 : Int) < (s.size : Int) := by omega
    go_enter Try.func58, Try.ntmps58
    go_wp2
    go_loopw [3] (fun iv wr => ∃ k : Nat, iv = .int .i64 k ∧ k ≤ s.size ∧ wr = w ∧ Hid (∀ c ∈ s.data.toList.take k, okC c = true)) (fun iv _ => s.size - (intOf iv).toNat)
    case atStart => exact ⟨0, rfl, Nat.zero_le _, rfl, fun c hc => by simp at hc⟩
    case round =>
      obtain ⟨k, rfl, hk, hwc, hS⟩ := hrel
      obtain rfl := hwc.symm
      by_cases hlt : k < s.size
      · have hkl : k < s.data.toList.length := by rw [TL.out]; exact hlt
        have hg := gets s k hlt
        obtain ⟨C, hC⟩ : ∃ C : Nat, (s[k]'hlt).toNat = C := ⟨_, rfl⟩
        by_cases hok : 32 ≤ C ∧ C ≤ 126
        · have Z : Hid (∀ c ∈ s.data.toList.take (k + 1), okC c = true) := by
            intro c hc
            rw [List.take_succ_eq_append_getElem hkl, List.mem_append] at hc
            rcases hc with hc | hc
            · exact hS.out c hc
            · rw [List.mem_singleton] at hc
              rw [hc, hg]
              unfold okC
              rw [hC]
              simpa using hok
          have h1 : ¬ (C : Int) < 32 := by omega
          have h2 : ¬ (126 : Int) < (C : Int) := by omega
          clear hS hg hok
          go_wp2
          exact ⟨⟨k + 1, by go_num, by omega, by first | trivial | rfl, Z⟩, by simp only [intOf]; omega⟩
        · have hbad : Hid (fillB s.data.toList = false) := by
            show _ = _
            rw [Bool.eq_false_iff]
            intro h
            have := ((fillB_iff _).1 h).2 _ (List.getElem_mem hkl)
            rw [hg, hC] at this
            exact hok this
          by_cases h1 : C < 32
          · have h1' : (C : Int) < 32 := by omega
            clear hS hg hok
            go_wp2
            go_ret
            exact ⟨by rw [hbad.out]; rfl, rfl⟩
          · have h1' : ¬ (C : Int) < 32 := by omega
            have h2 : (126 : Int) < (C : Int) := by omega
            clear hS hg hok
            go_wp2
            go_ret
            exact ⟨by rw [hbad.out]; rfl, rfl⟩
      · obtain rfl : k = s.size := by omega
        have hf : Hid (fillB s.data.toList = true) := by
          show _ = _
          rw [fillB_iff, TL.out]
          refine ⟨h6, fun c hc => ?_⟩
          have h := hS.out c (by rw [List.take_of_length_le (by rw [TL.out]; exact Nat.le_refl _)]; exact hc)
          unfold okC at h
          simpa using h
        clear hS
        go_wp2
        go_ret
        exact ⟨by rw [hf.out]; rfl, rfl⟩
  · have i6 : (64 : Int) < (s.size : Int) := by omega
    have e : Hid (fillB s.data.toList = false) := by
      show _ = _
      rw [Bool.eq_false_iff]
      intro h
      have := ((fillB_iff _).1 h).1
      rw [TL.out] at this
      exact h6 this
    go_enter Try.func58, Try.ntmps58
    go_wp2
    go_ret
    exact ⟨by rw [e.out]; rfl, rfl⟩

/-- The elements' characters are bytes. -/
def Chs (xs : List El) : Prop := ∀ x ∈ xs, 0 ≤ x.1 ∧ x.1 < 256
theorem tB_get {xs : List El} (hc : Chs xs) {i : Nat} (hi : i < xs.length) (b : UInt8) : (tB xs)[i]? = some b ↔ xs[i].1 = ((b.toNat : Nat) : Int) := by
  obtain ⟨h0, h1⟩ := hc _ (List.getElem_mem hi)
  unfold tB
  rw [List.getElem?_map, List.getElem?_eq_getElem hi]
  simp only [Option.map_some, Option.some.injEq]
  constructor
  · intro e
    rw [← e, UInt8.toNat_ofNat']
    omega
  · intro e
    apply UInt8.toNat_inj.1
    rw [UInt8.toNat_ofNat']
    omega
theorem st_at {T p : By} {i : Nat} : stB T p i = true ↔ ∀ j (h : j < p.length), T[i + j]? = some p[j] := by
  rw [stB_iff, List.prefix_iff_getElem?]
  constructor
  · intro h j hj
    have := h j hj
    rwa [List.getElem?_drop] at this
  · intro h j hj
    rw [List.getElem?_drop]
    exact h j hj

set_option maxRecDepth 100000 in
set_option maxHeartbeats 8000000 in
theorem rstands_any (y : Nat) (O : Nat → Prop) (xs : List El) (s : ByteArray) (i : Nat) (w : World) (hI : RI w O y xs) (hc : Chs xs) (hn : xs.length ≤ 400000) (h1 : 1 ≤ s.size) (h64 : s.size ≤ 64) (hi : i ≤ 400000) :
    Calls Try.prog 59 #[.pointer (some ⟨y, 0, none⟩), .string s, .int .i64 (i : Int)] w fun e w' => e = .returned (.bool (stB (tB xs) s.data.toList i)) ∧ Below w.heap.size w w' := by
  obtain ⟨a, c, c0, hE, hy⟩ := hI.isE
  have TL : Hid (s.data.toList.length = s.size) := by show _ = _; simp
  have TT : Hid ((tB xs).length = xs.length) := by show _ = _; simp [tB]
  have HE := hd hE
  have HC := hd hc
  obtain ⟨n, hnn⟩ : ∃ n, xs.length = n := ⟨_, rfl⟩
  have HN := hd hnn
  rw [hnn] at c0 hn
  clear hI hE hc hnn
  have hww : IntKind.i64.wrap ((n : Int) - (s.size : Int)) = (n : Int) - (s.size : Int) := by rw [IntKind.wrap_i64]; omega
  by_cases hf : i + s.size ≤ n
  · have j1 : ¬ (n : Int) - (s.size : Int) < (i : Int) := by omega
    have j0 : ¬ (i : Int) < 0 := by omega
    go_enter Try.func59, Try.ntmps59
    go_wp2
    clear hww j1 j0
    go_loopw [7] (fun iv wr => ∃ k m : Nat, iv = .int .i64 k ∧ k ≤ s.size ∧ wr = w.drewN m ∧ Hid (∀ j (h : j < s.data.toList.length), j < k → (tB xs)[i + j]? = some s.data.toList[j])) (fun iv _ => s.size - (intOf iv).toNat)
    case atStart => exact ⟨0, 0, rfl, Nat.zero_le _, rfl, fun j _ h => by omega⟩
    case round =>
      obtain ⟨k, m, rfl, hk, rfl, hS⟩ := hrel
      by_cases hlt : k < s.size
      · have hkl : k < s.data.toList.length := by rw [TL.out]; exact hlt
        have hg := gets s k hlt
        have hx : i + k < xs.length := by rw [HN.out]; omega
        obtain ⟨b, off, rfl, hb⟩ := HE.out.addr (by omega)
        obtain ⟨z0, z1, z2⟩ := HE.out.at (i + k) hx hx
        obtain ⟨C, hC⟩ : ∃ C : Nat, (s[k]'hlt).toNat = C := ⟨_, rfl⟩
        have HQ := hd (tB_get HC.out hx (s[k]'hlt))
        rw [hC] at HQ
        generalize xs[i + k] = X at *
        obtain ⟨x0, x1, x2⟩ := X
        simp only at z0 z1 z2 HQ
        have i2 : (k : Int) < (s.size : Int) := by omega
        have i3 : (i : Int) + (k : Int) < (n : Int) := by omega
        have i4 : 0 ≤ (i : Int) + (k : Int) := by omega
        have hw2 : IntKind.i64.wrap ((i : Int) + (k : Int)) = (i : Int) + (k : Int) := by rw [IntKind.wrap_i64]; omega
        have i5 : ((i : Int) + (k : Int)).toNat = i + k := by omega
        by_cases he : x0 = (C : Int)
        · have Z : Hid (∀ j (h : j < s.data.toList.length), j < k + 1 → (tB xs)[i + j]? = some s.data.toList[j]) := by
            intro j hj hjk
            by_cases e : j = k
            · subst e
              rw [hg]
              exact HQ.out.2 he
            · exact hS.out j hj (by omega)
          clear hS hg HQ z1 z2
          go_wp2
          go_big_quiet (fail)
          go_wp2
          go_roundw
          case rel => exact ⟨k + 1, _, by go_num, by omega, rfl, Z⟩
          case measure => simp only [intOf]; omega
        · have Z : Hid (stB (tB xs) s.data.toList i = false) := by
            show _ = _
            rw [Bool.eq_false_iff]
            intro h
            have := st_at.1 h k hkl
            rw [hg] at this
            exact he (HQ.out.1 this)
          clear hS hg HQ z1 z2
          go_wp2
          go_big_quiet (fail)
          go_wp2
          go_ret
          exact ⟨by rw [Z.out]; rfl, below_drewN (below_drewN (Below.refl _ _) _) _⟩
      · obtain rfl : k = s.size := by omega
        have Z : Hid (stB (tB xs) s.data.toList i = true) := by
          show _ = _
          rw [st_at]
          exact fun j hj => hS.out j hj (by rw [← TL.out]; exact hj)
        clear hS
        go_wp2
        go_ret
        exact ⟨by rw [Z.out]; rfl, below_drewN (Below.refl _ _) _⟩
  · have j1 : (n : Int) - (s.size : Int) < (i : Int) := by omega
    have j0 : ¬ (i : Int) < 0 := by omega
    have Z : Hid (stB (tB xs) s.data.toList i = false) := by
      show _ = _
      rw [Bool.eq_false_iff]
      intro h
      have := st_at.1 h (s.size - 1) (by rw [TL.out]; omega)
      rw [List.getElem?_eq_none (by rw [TT.out, HN.out]; omega)] at this
      cases this
    go_enter Try.func59, Try.ntmps59
    go_wp2
    go_ret
    exact ⟨by rw [Z.out]; rfl, Below.refl _ _⟩
end Go.Proofs.Ytlmgogonghafeab

/-! Qa -/
namespace Go.Proofs.Ytlmgogonghafeab
open Go.RowKit Go.Lib
set_option linter.unusedVariables false

theorem NmI.below {w wr wx : World} {v : Value} {l : List Nat} (h : NmI w wr v l) (hb : Below wr.heap.size wr wx) : NmI w wx v l := by
  obtain ⟨β, h1, h2, h3⟩ := h
  exact ⟨β, h1.fr (S := fun _ => False) (Fr.of_below hb) (fun _ _ h => h), h2, h3.trans (hb.mono h3.size)⟩
/-- The places below k at which the pattern stands. -/
def fnL (T p : By) (k : Nat) : List Nat := (List.range k).filter (stB T p)
theorem fnL_succ (T p : By) (k : Nat) : fnL T p (k + 1) = fnL T p k ++ (if stB T p k = true then [k] else []) := by
  unfold fnL
  rw [List.range_succ, List.filter_append]
  congr 1
  by_cases h : stB T p k = true
  · simp [h]
  · simp [h]
theorem fnL_len (T p : By) (k : Nat) : (fnL T p k).length ≤ k := by
  have := List.length_filter_le (stB T p) (List.range k)
  simpa [fnL] using this
theorem st_far {T p : By} {i : Nat} (hp : 1 ≤ p.length) (h : T.length < i + p.length) : stB T p i = false := by
  rw [Bool.eq_false_iff]
  intro h2
  have := st_at.1 h2 (p.length - 1) (by omega)
  rw [List.getElem?_eq_none (by omega)] at this
  cases this
theorem fnL_all (T p : By) (hp : 1 ≤ p.length) : fnL T p T.length = plc T p := by
  unfold fnL plc fnd
  rw [← List.range_eq_range']
  by_cases h : p.length ≤ T.length + 1
  · obtain ⟨k, hk⟩ : ∃ k, T.length = (T.length + 1 - p.length) + k := ⟨p.length - 1, by omega⟩
    have : List.range T.length = List.range (T.length + 1 - p.length) ++ (List.range k).map (T.length + 1 - p.length + ·) := by
      conv => lhs; rw [hk]
      rw [List.range_add]
    rw [this, List.filter_append]
    have h2 : ((List.range k).map (T.length + 1 - p.length + ·)).filter (stB T p) = [] := by
      rw [List.filter_eq_nil_iff]
      intro x hx
      obtain ⟨j, hj, rfl⟩ := List.mem_map.1 hx
      rw [st_far hp (by omega)]
      simp
    rw [h2, List.append_nil]
  · rw [show T.length + 1 - p.length = 0 by omega]
    rw [List.filter_eq_nil_iff.2 (fun x hx => by rw [st_far hp (by omega)]; simp)]
    rfl

set_option maxRecDepth 100000 in
set_option maxHeartbeats 4000000 in
theorem rfind_bad (y : Nat) (s : ByteArray) (w : World) (hs : s.size ≤ 9223372036854775807) (hp : patB s.data.toList = false) :
    Calls Try.prog 38 #[.pointer (some ⟨y, 0, none⟩), .string s] w fun e w' => e = .returned (.tuple #[.slice none 0 0, .int .i64 240]) ∧ w' = w := by
  have CP := hd (rplain_any s w hs)
  by_cases h : s.toList = []
  · have h2 : s.toList.isEmpty = true := by rw [h]; rfl
    go_enter Try.func38, Try.ntmps38
    go_wp2
    go_ret2
    exact ⟨rfl, rfl⟩
  · have h2 : s.toList.isEmpty = false := by
      cases e : s.toList with
      | nil => exact absurd e h
      | cons x l => rfl
    have hf : fillB s.data.toList = false := by
      rw [toL] at h
      unfold patB at hp
      rw [decide_eq_true h, Bool.true_and] at hp
      exact hp
    rw [hf] at CP
    clear hf hp h
    go_enter Try.func38, Try.ntmps38
    go_wp2_with (go_at_call 58; refine CP.out.mono ?_; rintro e w1 ⟨rfl, rfl⟩)
    go_ret2
    exact ⟨rfl, rfl⟩

set_option maxRecDepth 100000 in
set_option maxHeartbeats 8000000 in
theorem rfind_good (y : Nat) (O : Nat → Prop) (xs : List El) (s : ByteArray) (w : World) (hI : RI w O y xs) (hc : Chs xs) (hn : xs.length ≤ 400000) (hp : patB s.data.toList = true) :
    Calls Try.prog 38 #[.pointer (some ⟨y, 0, none⟩), .string s] w fun e w' => ∃ v, e = .returned (.tuple #[v, .int .i64 0]) ∧ NmI w w' v (plc (tB xs) s.data.toList) := by
  obtain ⟨p1, p64, pc⟩ := (patB_iff _).1 hp
  have sl : s.data.toList.length = s.size := by simp
  have CP := hd (rplain_any s w (by omega))
  have hf : fillB s.data.toList = true := by
    unfold patB at hp
    rw [Bool.and_eq_true] at hp
    exact hp.2
  rw [hf] at CP
  have h2 : s.toList.isEmpty = false := by
    rw [toL]
    cases e : s.data.toList with
    | nil => rw [e] at p1; simp at p1
    | cons x l => rfl
  have CS := hd (fun k W (hk : k ≤ 400000) (hW : Below w.heap.size w W) => rstands_any y O xs s k W (hI.below hW) hc hn (by omega) (by omega) hk)
  have HF := hd (fnL_all (tB xs) s.data.toList p1)
  have HI := hd hI
  obtain ⟨n, hnn⟩ : ∃ n, xs.length = n := ⟨_, rfl⟩
  have HTl : Hid ((tB xs).length = n) := by show _ = _; rw [← hnn]; simp [tB]
  rw [HTl.out] at HF
  have HN := hd hnn
  rw [hnn] at hn
  have CC : Hid (∀ W, Below w.heap.size w W → ∃ a c, W.cell? ⟨y, 0, none⟩ = some (.slice a n c)) := by
    intro W hW
    obtain ⟨a, c, c0, -, -⟩ := (hI.below hW).isE
    rw [hnn] at c0
    exact ⟨a, c, c0⟩
  clear hI hc hp hf p1 p64 pc sl hnn
  generalize tB xs = T at *
  go_enter Try.func38, Try.ntmps38
  go_upto_region 4 with (go_at_call 58; refine CP.out.mono ?_; rintro e w1 ⟨rfl, rfl⟩)
  clear CP h2
  go_wp2
  go_loopw [6, 7] (fun v iv wr => ∃ k : Nat, iv = .int .i64 k ∧ k ≤ n ∧ Hid (NmI w1 wr v (fnL T s.data.toList k))) (fun _ iv _ => n - (intOf iv).toNat)
  case atStart => exact ⟨0, rfl, Nat.zero_le _, hd ⟨none, ⟨rfl, rfl⟩, fun k hk => (by cases hk), Below.refl _ _⟩⟩
  case round =>
    obtain ⟨k, rfl, hk, hS⟩ := hrel
    have hB : Below w1.heap.size w1 wr := hS.out.choose_spec.2.2
    obtain ⟨a, c, c0⟩ := CC.out wr hB
    by_cases hlt : k < n
    · have i1 : (k : Int) < (n : Int) := by omega
      have C1 := hd (CS.out k wr (by omega) hB)
      have HS := hd (fnL_succ T s.data.toList k)
      have HL := hd (fnL_len T s.data.toList k)
      obtain ⟨bb, hbb⟩ : ∃ bb, stB T s.data.toList k = bb := ⟨_, rfl⟩
      rw [hbb] at C1 HS
      cases bb with
      | true =>
        have HP := hd (fun W (hW : Below wr.heap.size wr W) => (hS.out.below hW).push k (by have := HL.out; omega))
        clear hS hbb hB
        go_upto_region 8 with (go_at_call 59; refine C1.out.mono ?_; rintro e w2 ⟨rfl, hb⟩)
        obtain ⟨v', w3, hr, hN⟩ := HP.out w2 hb
        have Z : Hid (NmI w1 w3 v' (fnL T s.data.toList (k + 1))) := by
          show NmI _ _ _ _
          rw [HS.out]
          exact hN
        clear hN hb HP
        go_wp2_with (at_builtin; refine wpList_append_k _ rfl _ _ 36 36 rfl _ _ rfl rfl (hr _) ?_)
        exact ⟨⟨k + 1, by go_num, by omega, Z⟩, by simp only [intOf]; omega⟩
      | false =>
        have Z : Hid (fnL T s.data.toList (k + 1) = fnL T s.data.toList k) := by
          show _ = _
          rw [HS.out]
          simp
        clear hbb hB
        go_wp2_with (go_at_call 59; refine C1.out.mono ?_; rintro e w2 ⟨rfl, hb⟩)
        exact ⟨⟨k + 1, by go_num, by omega, by rw [Z.out]; exact hd (hS.out.below hb)⟩, by simp only [intOf]; omega⟩
    · obtain rfl : n = k := by omega
      have Z := hd hS.out
      rw [HF.out] at Z
      clear hS
      go_wp2
      go_ret2
      exact ⟨_, rfl, Z.out⟩
end Go.Proofs.Ytlmgogonghafeab

/-! Qb -/
namespace Go.Proofs.Ytlmgogonghafeab
open Go.RowKit Go.Lib
set_option linter.unusedVariables false

set_option maxRecDepth 100000 in
set_option maxHeartbeats 4000000 in
theorem rnext_bad (y : Nat) (s : ByteArray) (pos : Int) (w : World) (hs : s.size ≤ 9223372036854775807) (hp : patB s.data.toList = false) :
    Calls Try.prog 40 #[.pointer (some ⟨y, 0, none⟩), .string s, .int .i64 pos] w fun e w' => e = .returned (.tuple #[.int .i64 0, .int .i64 240]) ∧ w' = w := by
  have CF := hd (rfind_bad y s w hs hp)
  clear hp
  go_enter Try.func40, Try.ntmps40
  go_wp2_with (go_at_call 38; refine CF.out.mono ?_; rintro e w1 ⟨rfl, rfl⟩)
  go_ret2
  exact ⟨rfl, rfl⟩

set_option maxRecDepth 100000 in
set_option maxHeartbeats 8000000 in
theorem rnext_good (y : Nat) (O : Nat → Prop) (xs : List El) (s : ByteArray) (pos : Int) (w : World) (hI : RI w O y xs) (hc : Chs xs) (hn : xs.length ≤ 400000) (hp : patB s.data.toList = true) :
    Calls Try.prog 40 #[.pointer (some ⟨y, 0, none⟩), .string s, .int .i64 pos] w fun e w' => e = .returned (.tuple #[.int .i64 (nxP (tB xs) s.data.toList pos), .int .i64 0]) ∧ Below w.heap.size w w' := by
  have CF := hd (rfind_good y O xs s w hI hc hn hp)
  have p1 := ((patB_iff _).1 hp).1
  have HL : Hid ((plc (tB xs) s.data.toList).length ≤ 400000) := by
    have := fnd_len (T := tB xs) (p := s.data.toList) (s0 := 0) (t := (tB xs).length) p1
    have h2 : (tB xs).length = xs.length := by simp [tB]
    show _ ≤ _
    unfold plc
    omega
  have HX : Hid (nxP (tB xs) s.data.toList pos = match (plc (tB xs) s.data.toList).filter (fun q => decide (pos ≤ ((q : Nat) : Int))) with | [] => -1 | q :: _ => ((q : Nat) : Int)) := rfl
  generalize plc (tB xs) s.data.toList = L at *
  generalize nxP (tB xs) s.data.toList pos = R at *
  clear hI hc hp p1
  obtain ⟨n, hnn⟩ : ∃ n, L.length = n := ⟨_, rfl⟩
  have HLn := hd hnn
  rw [hnn] at HL
  clear hnn
  go_enter Try.func40, Try.ntmps40
  go_upto_region 2 with (go_at_call 38; refine CF.out.mono ?_; rintro e w1 ⟨v, rfl, hN⟩)
  have B := hd hN.choose_spec.2.2
  obtain ⟨a, c, rfl, -, -, -, hcell⟩ := hN.isN.isL
  rw [HLn.out]
  have HC := hd hcell
  clear hN hcell CF
  go_wp2
  go_loopw [10] (fun iv wr => ∃ k : Nat, iv = .int .i64 k ∧ k ≤ n ∧ wr = w1 ∧ Hid ((L.take k).filter (fun q => decide (pos ≤ ((q : Nat) : Int))) = [])) (fun iv _ => n - (intOf iv).toNat)
  case atStart => exact ⟨0, rfl, Nat.zero_le _, rfl, by simp [Hid]⟩
  case round =>
    obtain ⟨k, rfl, hk, hwc, hS⟩ := hrel
    obtain rfl := hwc.symm
    by_cases hlt : k < n
    · have hkl : k < L.length := by rw [HLn.out]; exact hlt
      obtain ⟨b, off, rfl, hb, hcs⟩ := HC.out (by rw [HLn.out]; omega)
      have c1 := hcs k hkl
      have j1 : (k : Int) < (n : Int) := by omega
      have j2 : n ≤ 400000 := HL.out
      have HT := hd (List.take_succ_eq_append_getElem hkl)
      have HD := hd (List.drop_eq_getElem_cons hkl)
      have HTD := hd (List.take_append_drop k L)
      generalize L[k] = Q at *
      clear hcs
      by_cases hq : pos ≤ (Q : Int)
      · have Z : Hid (R = (Q : Int)) := by
          show _ = _
          rw [HX.out, ← HTD.out, List.filter_append, hS.out, HD.out, List.nil_append, List.filter_cons, if_pos (by simpa using hq)]
        clear hS
        go_wp2
        go_ret2
        exact ⟨by rw [Z.out]; rfl, B.out⟩
      · have Z : Hid ((L.take (k + 1)).filter (fun q => decide (pos ≤ ((q : Nat) : Int))) = []) := by
          show _ = _
          rw [HT.out, List.filter_append, hS.out, List.nil_append, List.filter_cons, if_neg (by simpa using hq)]
          rfl
        clear hS
        go_wp2
        exact ⟨⟨k + 1, by go_num, by omega, by first | trivial | rfl, Z⟩, by simp only [intOf]; omega⟩
    · obtain rfl : n = k := by omega
      have Z : Hid (R = -1) := by
        show _ = _
        have h := hS.out
        rw [List.take_of_length_le (by rw [HLn.out]; exact Nat.le_refl _)] at h
        rw [HX.out, h]
      clear hS
      go_wp2
      go_ret2
      exact ⟨by rw [Z.out]; rfl, B.out⟩

set_option maxRecDepth 100000 in
set_option maxHeartbeats 4000000 in
theorem rapart_any (a : Option Addr) (n c : Nat) (l : List Nat) (m : Nat) (w : World) (hL : IsL w a n c l) (hn : n ≤ 1000000000) (hm : m ≤ 1000000) (hB : ∀ p ∈ l, p ≤ 1000000000) :
    Calls Try.prog 60 #[.slice a n c, .int .i64 (m : Int)] w fun e w' => ∃ v, e = .returned v ∧ NmI w w' v (apS m l).2 := by
  obtain ⟨hl, hnc, hc, hcell⟩ := hL
  have HL := hd hl
  have HC := hd hcell
  have HB := hd hB
  clear hl hcell hB
  go_enter Try.func60, Try.ntmps60
  go_wp2
  go_loopw [5, 6, 7] (fun v f i wr => ∃ k fr : Nat, k ≤ n ∧ i = .int .i64 k ∧ f = .int .i64 fr ∧ Hid (fr = (apS m (l.take k)).1) ∧ Hid (NmI w wr v (apS m (l.take k)).2)) (fun _ _ i _ => n - (intOf i).toNat)
  case atStart => exact ⟨0, 0, Nat.zero_le _, rfl, rfl, hd rfl, hd ⟨none, ⟨rfl, rfl⟩, fun k hk => (by cases hk), Below.refl _ _⟩⟩
  case round =>
    obtain ⟨k, fr, hk, rfl, rfl, HF, HI⟩ := hrel
    by_cases hlt : k < n
    · have hkl : k < l.length := by rw [HL.out]; exact hlt
      obtain ⟨b, off, rfl, hb, hcs⟩ := HC.out (by omega)
      have hB' : Below w.heap.size w wr := HI.out.choose_spec.2.2
      have c1 : wr.cell? ⟨b, off + k, none⟩ = some (.int .i64 ((l[k] : Nat) : Int)) := by rw [hB'.cell (p := ⟨b, off + k, none⟩) hb]; exact hcs k hkl
      have hp : l[k] ≤ 1000000000 := HB.out _ (List.getElem_mem hkl)
      have hfr : fr ≤ 1001000000 := by
        rw [HF.out]
        have := apS_free (m := m) (B := 1000000000) (l.take k) (fun p hp => HB.out p (List.mem_of_mem_take hp))
        omega
      have hlen : (apS m (l.take k)).2.length ≤ 10000000000000 := by
        have h1 := apS_len m (l.take k)
        rw [List.length_take] at h1
        omega
      have SU := hd (apS_succ (m := m) hkl)
      have hlt2 : (k : Int) < (n : Int) := by omega
      have hbw : Hid (∀ W, Below wr.heap.size wr W → W.cell? ⟨b, off + k, none⟩ = some (.int .i64 ((l[k] : Nat) : Int))) := fun W hW => by
        rw [hW.cell (p := ⟨b, off + k, none⟩) (by show b < _; have := hB'.size; omega)]
        exact c1
      clear hcs
      generalize hP : l[k] = P at *
      by_cases hf : fr ≤ P
      · obtain ⟨v', w', hr, hT⟩ := HI.out.push P hlen
        have Z : Hid (P + m = (apS m (l.take (k + 1))).1 ∧ NmI w w' v' (apS m (l.take (k + 1))).2) := by
          rw [SU.out]
          unfold apN
          rw [if_pos (by rw [← HF.out]; exact hf)]
          exact ⟨rfl, hT⟩
        have hB2 : Below w.heap.size w w' := hT.choose_spec.2.2
        have c2 : w'.cell? ⟨b, off + k, none⟩ = some (.int .i64 ((P : Nat) : Int)) := by
          have h1 := hB2.cell (p := ⟨b, off + k, none⟩) hb
          have h2 := hB'.cell (p := ⟨b, off + k, none⟩) hb
          rw [h1, ← h2]
          exact c1
        have hf2 : (fr : Int) ≤ (P : Int) := by omega
        clear hT HI SU hP hf hB2 hB' hbw
        go_wp2_with (at_builtin; refine wpList_append_k _ rfl _ _ 36 36 rfl _ _ rfl rfl (hr _) ?_)
        exact ⟨⟨k + 1, P + m, by omega, by go_num, by go_num, hd Z.out.1, hd Z.out.2⟩, by simp only [intOf]; omega⟩
      · have e : apS m (l.take (k + 1)) = apS m (l.take k) := by
          rw [SU.out]
          unfold apN
          rw [if_neg (by rw [← HF.out]; exact hf)]
        rw [← e] at HF HI
        have hf2 : ¬ (fr : Int) ≤ (P : Int) := by omega
        clear SU hP hf e hB' hbw
        go_wp2_with fail
        exact ⟨⟨k + 1, fr, by omega, by go_num, rfl, HF, HI⟩, by simp only [intOf]; omega⟩
    · obtain rfl : k = n := by omega
      have Z := hd HI.out
      rw [List.take_of_length_le (by rw [HL.out]; omega)] at Z
      clear HI HF
      go_wp2_with fail
      go_ret
      exact ⟨_, rfl, Z.out⟩
end Go.Proofs.Ytlmgogonghafeab
