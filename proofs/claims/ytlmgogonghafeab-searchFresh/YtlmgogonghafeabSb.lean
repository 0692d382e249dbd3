/-
  Pieces in memory; what stands in places between two characters.
-/
import Derived.Test.YtlmgogonghafeabRf
namespace Go.Proofs.Ytlmgogonghafeab
open Go.RowKit Go.Shelf
set_option linter.unusedVariables false

def ub (b : UInt8) : Value := .int .u8 ((b.toNat : Nat) : Int)
/-- A piece: where it lies, its room, its bytes. -/
structure Pc where
  b : Nat
  off : Nat
  cap : Nat
  bs : By
def Pc.val (q : Pc) : Value := .slice (some ⟨q.b, q.off, none⟩) q.bs.length q.cap
def txP (ps : List Pc) : By := ps.flatMap (·.bs)
theorem txP_nil : txP [] = [] := rfl
theorem txP_app (a b : List Pc) : txP (a ++ b) = txP a ++ txP b := by simp [txP]
theorem txP_one (q : Pc) : txP [q] = q.bs := by simp [txP]
theorem txP_succ {ps : List Pc} {k : Nat} (hk : k < ps.length) : txP (ps.take (k + 1)) = txP (ps.take k) ++ ps[k].bs := by
  rw [List.take_succ_eq_append_getElem hk, txP_app, txP_one]
theorem txP_split {ps : List Pc} {k : Nat} (hk : k < ps.length) : txP ps = txP (ps.take k) ++ (ps[k].bs ++ txP (ps.drop (k + 1))) := by
  rw [← txP_one ps[k], ← txP_app, ← txP_app]
  congr 1
  rw [List.singleton_append, ← List.drop_eq_getElem_cons hk, List.take_append_drop]

def OkPc (w : World) (q : Pc) : Prop := q.b < w.heap.size ∧ q.bs.length ≤ q.cap ∧ q.cap ≤ 9223372036854775807 ∧ ∀ j (h : j < q.bs.length), w.cell? ⟨q.b, q.off + j, none⟩ = some (ub q.bs[j])
/-- The slice value at a, of n pieces and capacity c, holds the pieces ps in w. -/
structure IsP (w : World) (a : Option Addr) (n c : Nat) (ps : List Pc) : Prop where
  len : ps.length = n
  le : n ≤ c
  cap : c ≤ 9223372036854775807
  row : 0 < n → ∃ g off, a = some ⟨g, off, none⟩ ∧ g < w.heap.size ∧ ∀ i (h : i < ps.length), w.cell? ⟨g, off + i, none⟩ = some ps[i].val
  all : ∀ q ∈ ps, OkPc w q
theorem OkPc.below {w w' : World} {q : Pc} (h : OkPc w q) (hb : Below w.heap.size w w') : OkPc w' q := by
  obtain ⟨h1, h2, h3, h4⟩ := h
  exact ⟨Nat.lt_of_lt_of_le h1 hb.size, h2, h3, fun j hj => by rw [hb.cell (p := ⟨q.b, q.off + j, none⟩) h1]; exact h4 j hj⟩
theorem IsP.below {w w' : World} {a : Option Addr} {n c : Nat} {ps : List Pc} (h : IsP w a n c ps) (hb : Below w.heap.size w w') : IsP w' a n c ps := by
  refine ⟨h.len, h.le, h.cap, fun hn => ?_, fun q hq => (h.all q hq).below hb⟩
  obtain ⟨g, off, e, hg, hc⟩ := h.row hn
  exact ⟨g, off, e, Nat.lt_of_lt_of_le hg hb.size, fun i hi => by rw [hb.cell (p := ⟨g, off + i, none⟩) hg]; exact hc i hi⟩

/-- The cells of the marks. -/
def mkc (M : Nat → Nat) : Array Value := ((List.range 256).map fun c => Value.int .u64 ((M c : Nat) : Int)).toArray
theorem mkc_get (M : Nat → Nat) (c : Nat) (hc : c < 256) : (mkc M)[c]? = some (.int .u64 ((M c : Nat) : Int)) := by
  unfold mkc
  rw [List.getElem?_toArray, List.getElem?_map, List.getElem?_range hc]
  rfl
theorem mkc_set (M : Nat → Nat) (c x : Nat) (hc : c < 256) : (mkc M).setIfInBounds c (.int .u64 ((x : Nat) : Int)) = mkc (fun k => if k = c then x else M k) := by
  apply Array.ext_getElem?
  intro k
  rw [Array.getElem?_setIfInBounds]
  have hs : (mkc M).size = 256 := by simp [mkc]
  by_cases hk : k < 256
  · rw [mkc_get (fun k => if k = c then x else M k) k hk]
    by_cases e : c = k
    · subst e
      rw [if_pos rfl, if_pos (by omega), if_pos rfl]
    · rw [if_neg e, mkc_get _ k hk, if_neg (Ne.symm e)]
  · have e : c ≠ k := by omega
    rw [if_neg e, Array.getElem?_eq_none (by omega), Array.getElem?_eq_none (by simp [mkc]; omega)]

def ei (x : Int) : List Value := [.int .i64 x]
theorem szI : Sz ei 1 := fun x => ⟨rfl, fun v hv => by simp [ei] at hv; subst hv; rfl⟩
theorem Try.infoI : (Try.prog.info? 3).map (fun i => (i.zero, i.size, i.bytes)) = some (some (.int .i64 0), 1, 8) := by kernel_rfl
theorem push_int (w : World) (β : Option Nat) (v : Value) (xs : List Int) (hv : SF ei 1 w 3 β v xs) (b : Nat) (x : Int) (hb : w.heap[b]? = some (.cells #[.int .i64 x] 3 (0, 0))) (hn : xs.length ≤ 10000000000000) :
    ∃ v' w', (∀ ty, (Builtin.append_ #[36, 36] ty #[v, .slice (some ⟨b, 0, none⟩) 1 1]).run Try.prog w = .ok v' w') ∧ NowF ei 1 w w' 3 β v' (xs ++ [x]) := by
  obtain ⟨i0, hi0, hz0, hz1, hz2⟩ := info_parts Try.infoI
  obtain ⟨v', w', hr, hN⟩ := run_pushF szI (P := Try.prog) w 36 0 3 i0 _ 8 Try.underlying36 hi0 hz0 hz1 rfl hz2 β v xs hv ⟨b, 0, none⟩ 1 1 [x] rfl (fun j u hj => by
    rw [cl_one] at hj
    rw [add_lit, cell_row hb, Nat.zero_add, List.getElem?_toArray]
    exact hj) (by omega) (by omega) (by omega)
  exact ⟨v', w', fun ty => hr, hN⟩

def nI (l : List Nat) : List Int := l.map (fun q => ((q : Nat) : Int))
/-- What stands in memory between two characters. -/
structure PlS (w : World) (B : Nat) (most last : Int) (M : Nat → Nat) (a : Option Addr) (n c : Nat) (pos : Int) (H : Nat) (v : Value) (fs : List Nat) (W : World) : Prop where
  mb : W.heap[B]? = some (.cells #[.int .i64 most] 3 (0, 0))
  mrk : W.heap[B + 1]? = some (.cells (mkc M) 102 (0, 0))
  fb : W.heap[B + 3]? = some (.cells #[v] 36 (0, 0))
  hb : W.heap[B + 4]? = some (.cells #[.int .u64 ((H : Nat) : Int)] 101 (0, 0))
  lb : W.heap[B + 5]? = some (.cells #[.int .i64 last] 3 (0, 0))
  bp : W.heap[B + 6]? = some (.cells #[.slice a n c] 57 (0, 0))
  bq : W.heap[B + 7]? = some (.cells #[.int .i64 pos] 3 (0, 0))
  row : ∃ β, SF ei 1 W 3 β v (nI fs) ∧ ∀ g, β = some g → B + 10 ≤ g
  bel : Below B w W
section
variable {w W W' : World} {B : Nat} {most last pos : Int} {M : Nat → Nat} {a : Option Addr} {n c H : Nat} {v : Value} {fs : List Nat}
theorem PlS.fr {S : Nat → Prop} (h : PlS w B most last M a n c pos H v fs W) (hF : Fr S W W') (hS : ∀ k, S k → B + 8 ≤ k) (hrow : ∀ β, SF ei 1 W 3 β v (nI fs) → ∀ g, β = some g → ¬ S g) : PlS w B most last M a n c pos H v fs W' := by
  have k : ∀ j, j < B + 8 → ¬ S j := fun j hj hs => by have := hS j hs; omega
  obtain ⟨β, h1, h2⟩ := h.row
  refine ⟨hF.keeps h.mb (k _ (by omega)), hF.keeps h.mrk (k _ (by omega)), hF.keeps h.fb (k _ (by omega)), hF.keeps h.hb (k _ (by omega)), hF.keeps h.lb (k _ (by omega)), hF.keeps h.bp (k _ (by omega)), hF.keeps h.bq (k _ (by omega)), ⟨β, h1.fr hF (hrow β h1), h2⟩, h.bel.trans (hF.below (Nat.le_of_lt (block_lt h.mb)) ?_)⟩
  intro j hs
  have := hS j hs
  omega
theorem PlS.below (h : PlS w B most last M a n c pos H v fs W) (hb : Below W.heap.size W W') : PlS w B most last M a n c pos H v fs W' :=
  h.fr (S := fun _ => False) (Fr.of_below hb) (fun _ h => h.elim) (fun _ _ _ _ h => h)
/-- A block that is no row of cells changes. -/
theorem PlS.put {l : Nat} {o o' : Obj} (h : PlS w B most last M a n c pos H v fs W) (hl : W.heap[l]? = some o') (ho : ∀ cs t f, o' ≠ .cells cs t f) (hlB : B + 8 ≤ l) : PlS w B most last M a n c pos H v fs (W.putObj l o) :=
  h.fr (Fr.putObj W l o) (fun k hk => by rw [hk]; exact hlB) (fun β hβ g hg hs => by
    subst hg
    obtain ⟨cur, hc⟩ := hβ.blk
    rw [hs, hl] at hc
    exact ho _ _ _ (Option.some.inj hc))
/-- Another number of held bits. -/
theorem PlS.held (h : PlS w B most last M a n c pos H v fs W) (H' : Nat) : PlS w B most last M a n c pos H' v fs (W.setCell ⟨B + 4, 0, none⟩ (.int .u64 ((H' : Nat) : Int))) := by
  have hF : Fr (fun j => j = B + 4) W (W.setCell ⟨B + 4, 0, none⟩ (.int .u64 ((H' : Nat) : Int))) := Fr.setCell W _ _ rfl
  obtain ⟨β, h1, h2⟩ := h.row
  refine ⟨hF.keeps h.mb (by omega), hF.keeps h.mrk (by omega), hF.keeps h.fb (by omega), ?_, hF.keeps h.lb (by omega), hF.keeps h.bp (by omega), hF.keeps h.bq (by omega), ⟨β, h1.fr hF (fun g hg e => by have := h2 g hg; omega), h2⟩, h.bel.trans (hF.below (Nat.le_of_lt (block_lt h.mb)) (fun k e => by omega))⟩
  have := set_row h.hb 0 (.int .u64 ((H' : Nat) : Int))
  simpa using this
/-- One place more. -/
theorem PlS.push (h : PlS w B most last M a n c pos H v fs W) (hsz : B + 10 ≤ W.heap.size) (q : Nat) (hn : fs.length ≤ 10000000000) :
    ∃ a' c' w', (∀ ty, (Builtin.append_ #[36, 36] ty #[v, .slice (some ⟨W.heap.size, 0, none⟩) 1 1]).run Try.prog (W.alloc (.cells #[.int .i64 ((q : Nat) : Int)] 3)) = .ok (.slice a' (fs.length + 1) c') w') ∧ w'.heap[B + 3]? = some (.cells #[v] 36 (0, 0)) ∧
      PlS w B most last M a n c pos H (.slice a' (fs.length + 1) c') (fs ++ [q]) (w'.setCell ⟨B + 3, 0, none⟩ (.slice a' (fs.length + 1) c')) ∧ Fr (fun j => B ≤ j ∧ ∃ cs t f, W.heap[j]? = some (.cells cs t f)) W (w'.setCell ⟨B + 3, 0, none⟩ (.slice a' (fs.length + 1) c')) := by
  obtain ⟨β, h1, h2⟩ := h.row
  have b1 : Below W.heap.size W (W.alloc (.cells #[.int .i64 ((q : Nat) : Int)] 3)) := (Below.refl _ _).alloc (Nat.le_refl _) _
  have r1 := h1.fr (Fr.of_below (S := fun _ => False) b1) (fun _ _ h => h)
  obtain ⟨v', w', hr, g', hS', hN⟩ := push_int _ β v (nI fs) r1 W.heap.size q (heap_alloc_new W _) (by simp [nI]; omega)
  obtain ⟨a', c', hv', -⟩ := hS'.form
  have el : (nI fs ++ [(q : Int)]).length = fs.length + 1 := by simp [nI]
  rw [el] at hv'
  subst hv'
  have hsz1 : (W.alloc (.cells #[.int .i64 ((q : Nat) : Int)] 3)).heap.size = W.heap.size + 1 := by simp
  have hF1 : Fr (fun j => β = some j) W w' := by
    have hA : Fr (fun j => β = some j) W (W.alloc (.cells #[.int .i64 ((q : Nat) : Int)] 3)) := Fr.alloc _ _ _
    rcases hN with ⟨e1, hf⟩ | ⟨e1, hf⟩
    · exact hA.trans (hf.mono (fun k _ hk => by rw [e1, hk]))
    · exact hA.trans (hf.mono (fun k _ hk => hk.elim))
  have hg' : B + 10 ≤ g' := by
    rcases hN with ⟨e1, -⟩ | ⟨e1, -⟩
    · exact h2 g' e1
    · rw [hsz1] at e1; omega
  have k1 : ∀ j, j < B + 10 → ¬ (β = some j) := fun j hj e => by have := h2 j e; omega
  have hF2 : Fr (fun j => j = B + 3) w' (w'.setCell ⟨B + 3, 0, none⟩ (.slice a' (fs.length + 1) c')) := Fr.setCell w' _ _ rfl
  have m3 := hF1.keeps h.fb (k1 _ (by omega))
  refine ⟨a', c', w', hr, m3, ⟨hF2.keeps (hF1.keeps h.mb (k1 _ (by omega))) (by omega), hF2.keeps (hF1.keeps h.mrk (k1 _ (by omega))) (by omega), ?_, hF2.keeps (hF1.keeps h.hb (k1 _ (by omega))) (by omega), hF2.keeps (hF1.keeps h.lb (k1 _ (by omega))) (by omega), hF2.keeps (hF1.keeps h.bp (k1 _ (by omega))) (by omega), hF2.keeps (hF1.keeps h.bq (k1 _ (by omega))) (by omega), ⟨some g', ?_, fun g hg => by cases hg; exact hg'⟩, (h.bel.trans (hF1.below (Nat.le_of_lt (block_lt h.mb)) (fun k e => by have := h2 k e; omega))).trans (hF2.below (by have := block_lt h.mb; have := hF1.size; omega) (fun k e => by omega))⟩, ?_⟩
  · have := set_row m3 0 (.slice a' (fs.length + 1) c')
    simpa using this
  · have e2 : nI fs ++ [(q : Int)] = nI (fs ++ [q]) := by simp [nI]
    rw [e2] at hS'
    exact hS'.fr hF2 (fun g hg e => by cases hg; omega)
  · have hF1' : Fr (fun j => B ≤ j ∧ ∃ cs t f, W.heap[j]? = some (.cells cs t f)) W w' := hF1.mono (fun k _ hk => by
      refine ⟨by have := h2 k hk; omega, ?_⟩
      subst hk
      obtain ⟨cur, hc⟩ := h1.blk
      exact ⟨_, _, _, hc⟩)
    exact hF1'.next hF2 (fun i _ e => by subst e; exact ⟨by omega, _, _, _, h.fb⟩)
end
end Go.Proofs.Ytlmgogonghafeab
