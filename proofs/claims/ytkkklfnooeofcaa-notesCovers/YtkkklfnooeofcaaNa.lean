/-
  NotesNumbers: its states; lists of one cell each.
-/
import Derived.Test.YtkkklfnooeofcaaAm
import Derived.Test.YtkkklfnooeofcaaSw
import Derived.Test.YtkkklfnooeofcaaTa
namespace Go.Proofs.Ytkkklfnooeofcaa
open Go.RowKit Go.Maps Go.ChangeMaps Go.MapKept Go.WideMaps
set_option linter.unusedVariables false

/-- A slice of values of one cell each. -/
def IsO {α : Type} (f : α → Value) (w : World) (a : Option Addr) (n c : Nat) (ts : List α) : Prop :=
  ts.length = n ∧ n ≤ c ∧ c ≤ 9223372036854775807 ∧ (0 < n → ∃ b off, a = some ⟨b, off, none⟩ ∧ b < w.heap.size ∧ ∀ j v, (cl (fun x => [f x]) ts)[j]? = some v → w.cell? ⟨b, off + j, none⟩ = some v)
theorem cl_ones {α : Type} (f : α → Value) : ∀ (ts : List α) (k : Nat) (hk : k < ts.length), (cl (fun x => [f x]) ts)[k]? = some (f ts[k])
  | x :: ts, 0, _ => by simp [cl]
  | x :: ts, k + 1, hk => by
    have := cl_ones f ts k (by simpa using hk)
    simp [cl] at this ⊢
    exact this
theorem IsO.at {α : Type} {f : α → Value} {w : World} {a : Option Addr} {n c : Nat} {ts : List α} (h : IsO f w a n c ts) (k : Nat) (hk : k < ts.length) : ∃ b off, a = some ⟨b, off, none⟩ ∧ b < w.heap.size ∧ w.cell? ⟨b, off + k, none⟩ = some (f ts[k]) := by
  obtain ⟨h1, h2, h3, h5⟩ := h
  obtain ⟨b, off, e, hb, hc⟩ := h5 (by omega)
  exact ⟨b, off, e, hb, hc k _ (cl_ones f ts k hk)⟩

set_option maxRecDepth 100000 in
set_option maxHeartbeats 2000000 in
theorem put_full (O : Nat → Prop) (r : Nat) (Ns : List Nt) (w : World) (h : BD w O r 256 Ns) (a : Option Addr) (n c : Nat) (f t : Nat) (hf : f < t) (ht : t ≤ n) (cc : Int) (s : ByteArray) (hs : sayE cc s = 0) (hsz : s.size ≤ 9223372036854775807) :
    Calls Try.prog 24 #[.pointer (some ⟨r, 0, none⟩), .slice a n c, .int .i64 f, .int .i64 t, .int .i64 cc, .string s] w fun e w' => e = .returned (.tuple #[.int .i64 0, .int .i64 234]) ∧ w' = w := by
  obtain ⟨b, ps, rfl, hK⟩ := h
  have r1 := cell_row hK.box 1
  simp at r1
  have n1 : ¬ (f : Int) < 0 := by omega
  have n2 : ¬ (n : Int) < (t : Int) := by omega
  have n3 : ¬ (t : Int) ≤ (f : Int) := by omega
  have HS := hd hs
  clear hK hs hf ht
  go_enter Try.func24, Try.ntmps24
  go_wp2_with fail
  refine (say_any cc s w hsz).mono ?_
  rintro e w' ⟨rfl, rfl⟩
  rw [HS.out]
  go_wp2
  refine bodyPost_ret (v := .tuple #[.int .i64 0, .int .i64 234]) (by simp [results, Try.results24, go_sem]) rfl ?_
  exact ⟨rfl, rfl⟩

theorem se_isE {w : World} {β : Option Nat} {a : Option Addr} {n c : Nat} {xs : List El} (h : SE w β (.slice a n c) xs) : IsE w a n c xs := by
  obtain ⟨a1, c1, hv1, hI1, -⟩ := h.form
  injection hv1 with e1 e2 e3
  subst e1 e2 e3
  exact hI1

/-- A board, and a text. -/
structure NuS (w u : World) (O : Nat → Prop) (r g : Nat) (β : Option Nat) (v : Value) (xs : List El) (Ns : List Nt) : Prop where
  bd : BD u O r g Ns
  se : SE u β v xs
  ap : ∀ k, β = some k → ¬ O k
  new : ∀ k, O k → w.heap.size ≤ k
  low : Below w.heap.size w u
theorem NuS.below {w u u' : World} {O : Nat → Prop} {r g : Nat} {β : Option Nat} {v : Value} {xs : List El} {Ns : List Nt} (h : NuS w u O r g β v xs Ns) (hb : Below u.heap.size u u') : NuS w u' O r g β v xs Ns :=
  ⟨h.bd.below hb, h.se.below hb, h.ap, h.new, h.low.trans (hb.mono h.low.size)⟩
theorem NuS.now {w u u' : World} {O : Nat → Prop} {r g g' : Nat} {β : Option Nat} {v : Value} {xs : List El} {Ns Ns' : List Nt} (h : NuS w u O r g β v xs Ns) (hN : NowB u u' O r g' Ns') : ∃ O', NuS w u' O' r g' β v xs Ns' := by
  obtain ⟨O', h1, h2, h3⟩ := hN
  refine ⟨O', h1, h.se.fr h3 (fun k hk => h.ap k hk), fun k hk ho => ?_, fun k ho => ?_, h.low.trans (h3.below h.low.size h.new)⟩
  · rcases h2 k ho with h4 | h4
    · exact h.ap k hk h4
    · have := h.se.lt k hk; omega
  · rcases h2 k ho with h4 | h4
    · exact h.new k h4
    · exact Nat.le_trans h.low.size h4

theorem all_len {w0 u : World} {v : Value} {Ns : List Nt} {xs : List El} (h : AllP w0 u v Ns xs) : ∃ a c, v = .slice a Ns.length c := by
  obtain ⟨L, β, h1, -, h2, -⟩ := h
  obtain ⟨a, c, hv, -, -⟩ := h1.form
  exact ⟨a, c, by rw [hv, ← h2, List.length_map]⟩

/-- Open notes without answers. -/
def opn (Ns : List Nt) : Prop := ∀ n ∈ Ns, n.sh = false ∧ n.sd = []
theorem keep_open {xs : List El} {n : Nt} (h : n.sh = false) : keepN xs n = true := by simp [keepN, h]
theorem opn.keep {Ns : List Nt} (h : opn Ns) (xs : List El) : Ns.filter (keepN xs) = Ns := List.filter_eq_self.2 fun n hn => keep_open (h n hn).1
def nB : ByteArray := ⟨#[110]⟩
theorem say_n : sayE 1 nB = 0 := by decide
def ntU (k : Nat) (sh : Bool) : Nt := ⟨k, 1, nB, sh, [], ((txt 3).drop 0).take (2 - 0)⟩
theorem keep_all {k : Nat} : keepN (txt 3) (ntU k true) = true := by
  have : reachP (txt 3) (((txt 3).drop 0).take (2 - 0)) = (0, 2) := by decide
  simp only [keepN, ntU, this]
  decide
theorem keep_not {k : Nat} : keepN ((txt 3).drop 2) (ntU k true) = false := by
  have : reachP ((txt 3).drop 2) (((txt 3).drop 0).take (2 - 0)) = (0, 0) := by decide
  simp only [keepN, ntU, this]
  decide
theorem opn.sweep1 {Ns : List Nt} (h : opn Ns) (k : Nat) : (Ns ++ [ntU k true]).filter (keepN (txt 3)) = Ns ++ [ntU k true] := by
  rw [List.filter_append, h.keep, List.filter_cons_of_pos (keep_all), List.filter_nil]
theorem opn.sweep2 {Ns : List Nt} (h : opn Ns) (k : Nat) : (Ns ++ [ntU k true]).filter (keepN ((txt 3).drop 2)) = Ns := by
  rw [List.filter_append, h.keep, List.filter_cons_of_neg (by rw [keep_not]; decide), List.filter_nil, List.append_nil]
theorem opn.snoc {Ns : List Nt} (h : opn Ns) (k : Nat) : opn (Ns ++ [ntU k false]) := by
  intro n hn
  rcases List.mem_append.1 hn with hn | hn
  · exact h n hn
  · rw [List.mem_singleton.1 hn]
    exact ⟨rfl, rfl⟩
theorem opn.room {Ns : List Nt} (h : opn Ns) : ∀ n ∈ Ns, roomy n.sd.length 24 := by
  intro n hn
  rw [(h n hn).2]
  exact ⟨by decide, by decide⟩

end Go.Proofs.Ytkkklfnooeofcaa
