/-
  Rows of told notes, sorted by their numbers.
-/
import Derived.Test.YtkkklfnooeofcabSx
import Derived.Test.YtkkklfnooeofcabMLa
import Derived.Shelf.SlSortCmp.NoneTotal
namespace Go.Proofs.Ytkkklfnooeofcab
open Go.Shelf Go.RowKit Go.Lib Go.Sort
set_option linter.unusedVariables false

/-- A note as it is told, and where the list of its answers lies. -/
structure TN where
  n : Nt
  s : Nat × Nat
  a : Option Addr
  l : Nat
  c : Nat
instance : Inhabited TN := ⟨⟨nt1, (0, 0), none, 0, 0⟩⟩
def tnc (t : TN) : List Value := [.int .i64 (t.n.id : Int), .int .i64 t.n.cl, .string t.n.wo, .int .i64 (t.s.1 : Int), .int .i64 (t.s.2 : Int), .bool ((t.s.1 : Int) == (t.s.2 : Int)), .bool t.n.sh, .slice t.a t.l t.c]
theorem sz_tnc : Sz tnc 8 := fun x => ⟨rfl, fun v hv => by simp [tnc] at hv; rcases hv with rfl | rfl | rfl | rfl | rfl | rfl | rfl | rfl <;> rfl⟩
theorem tnc_ntA (t : TN) : (tnc t).toArray = ntA t.n t.s (.slice t.a t.l t.c) := rfl
theorem Try.infoN : (Try.prog.info? 47).map (fun i => (i.zero, i.size, i.bytes)) = some (some (.agg #[.int .i64 0, .int .i64 0, .string ⟨#[]⟩, .int .i64 0, .int .i64 0, .bool false, .bool false, .slice none 0 0]), 8, 80) := by kernel_rfl

theorem nan_any (x : Int) (w : World) : Calls Try.prog 53 #[.int .i64 x] w fun e w' => e = .returned (.bool false) ∧ w' = w := by
  go_enter Try.func53, Try.ntmps53
  go_wp2
  go_ret
  simp
theorem compare_any (x y : Int) (w : World) : Calls Try.prog 43 #[.int .i64 x, .int .i64 y] w fun e w' => e = .returned (.int .i64 (Lib.compareInt x y)) ∧ w' = w := by
  unfold Lib.compareInt
  go_enter Try.func43, Try.ntmps43
  by_cases h1 : x < y
  · go_wp2_with (go_at_call 53; refine (nan_any _ _).mono ?_; rintro e w' ⟨rfl, rfl⟩)
    go_ret
    simp
  · by_cases h2 : y < x
    · go_wp2_with (go_at_call 53; refine (nan_any _ _).mono ?_; rintro e w' ⟨rfl, rfl⟩)
      go_ret
      simp
    · go_wp2_with (go_at_call 53; refine (nan_any _ _).mono ?_; rintro e w' ⟨rfl, rfl⟩)
      go_ret
      simp

def cfN (x y : TN) : Int := Lib.compareInt (x.n.id : Int) (y.n.id : Int)
set_option maxRecDepth 100000 in
set_option maxHeartbeats 1000000 in
theorem cmpN_any (x y : TN) (W : World) : Calls Try.prog 42 #[.agg (tnc x).toArray, .agg (tnc y).toArray] W fun e w' => e = .returned (.int .i64 (cfN x y)) ∧ ∃ q os', w' = grow (W.drewN q) os' := by
  have C1 := hd (fun W' => compare_any (x.n.id : Int) (y.n.id : Int) W')
  unfold cfN tnc
  generalize Lib.compareInt (x.n.id : Int) (y.n.id : Int) = c1 at C1 ⊢
  have GR := hd (show (W.alloc (.cells #[.int .i64 (x.n.id : Int), .int .i64 x.n.cl, .string x.n.wo, .int .i64 (x.s.1 : Int), .int .i64 (x.s.2 : Int), .bool ((x.s.1 : Int) == (x.s.2 : Int)), .bool x.n.sh, .slice x.a x.l x.c] 47)).alloc (.cells #[.int .i64 (y.n.id : Int), .int .i64 y.n.cl, .string y.n.wo, .int .i64 (y.s.1 : Int), .int .i64 (y.s.2 : Int), .bool ((y.s.1 : Int) == (y.s.2 : Int)), .bool y.n.sh, .slice y.a y.l y.c] 47) = grow (W.drewN 0) (#[] ++ #[.cells #[.int .i64 (x.n.id : Int), .int .i64 x.n.cl, .string x.n.wo, .int .i64 (x.s.1 : Int), .int .i64 (x.s.2 : Int), .bool ((x.s.1 : Int) == (x.s.2 : Int)), .bool x.n.sh, .slice x.a x.l x.c] 47] ++ #[.cells #[.int .i64 (y.n.id : Int), .int .i64 y.n.cl, .string y.n.wo, .int .i64 (y.s.1 : Int), .int .i64 (y.s.2 : Int), .bool ((y.s.1 : Int) == (y.s.2 : Int)), .bool y.n.sh, .slice y.a y.l y.c] 47]) by rw [alloc_eq_grow, alloc_eq_grow, grow_grow]; rfl)
  go_enter Try.func42, Try.ntmps42
  go_wp2_with (go_at_call 43; refine (C1.out _).mono ?_; rintro e w' ⟨rfl, rfl⟩)
  go_ret
  exact ⟨rfl, 0, _, GR.out⟩

theorem cfN_lt (x y : TN) : ltOf cfN x y = true ↔ x.n.id < y.n.id := by
  unfold ltOf cfN Lib.compareInt
  rw [decide_eq_true_iff]
  by_cases h1 : (x.n.id : Int) < (y.n.id : Int)
  · simp [h1]; omega
  · by_cases h2 : (x.n.id : Int) > (y.n.id : Int)
    · simp [h1, h2]; omega
    · simp [h1, h2]; omega
theorem cfN_nlt (x y : TN) : ltOf cfN x y = false ↔ ¬ x.n.id < y.n.id := by
  rw [← cfN_lt]
  cases ltOf cfN x y <;> simp
theorem swoN : SWO (ltOf cfN) := ⟨fun x => (cfN_nlt x x).2 (by omega), fun x y z h1 h2 => (cfN_lt x z).2 (Nat.lt_trans ((cfN_lt x y).1 h1) ((cfN_lt y z).1 h2)), fun x y z h1 h2 => by
  rw [cfN_nlt] at *
  omega⟩

theorem cmpLaysN (blk off size : Nat) (w : World) : CmpLays Try.prog 42 #[] tnc 8 cfN blk off size w :=
  fun _ _ _ _ x y => cmpN_any x y _

theorem rowN_holds {w : World} {g cap : Nat} {A : List TN} (h : RowF tnc 8 w g A.length cap 47 A) : HoldsK tnc 8 w g 0 A.toArray := by
  intro j hj
  rw [size_flatK] at hj
  have hj' : j < A.length * 8 := by simpa using hj
  rw [get_flatK _ _ _ _ hj]
  have hq : j / 8 < A.length := by omega
  have hm : j % 8 < 8 := Nat.mod_lt _ (by omega)
  have k := h.cell sz_tnc (j / 8) (j % 8) hq hm
  have e1 : j / 8 * 8 + j % 8 = j := by omega
  rw [e1] at k
  have e2 : A.toArray[j / 8]! = A[j / 8] := by
    rw [getElem!_pos A.toArray (j / 8) (by simpa using hq)]
    simp
  obtain ⟨cur, hh, -⟩ := h
  refine ⟨?_, frozen_row hh _⟩
  rw [Nat.zero_add, k, e2]
  generalize A[j / 8] = x
  rw [List.getElem?_eq_getElem (by rw [(sz_tnc x).1]; exact hm), getElem!_pos (tnc x) (j % 8) (by rw [(sz_tnc x).1]; exact hm)]
  rfl

theorem permN_toList {d d' : Array TN} (h : PermIn 0 d.size d d') : d'.toList.Perm d.toList := by
  obtain ⟨h1, -, h3⟩ := h
  rw [← h1] at h3
  have e : d'.extract 0 d'.size = d' := by simp
  rw [e] at h3
  have e' : d.extract 0 d'.size = d := by rw [h1]; simp
  rw [e'] at h3
  exact h3
theorem sortedN_toList {d : Array TN} {n : Nat} (h : SortedIn (ltOf cfN) 0 n d) (hn : d.size = n) : d.toList.Pairwise (fun a b => a.n.id ≤ b.n.id) := by
  subst hn
  rw [List.pairwise_iff_getElem]
  intro i j hi hj hij
  have hi' : i < d.size := by simpa using hi
  have hj' : j < d.size := by simpa using hj
  have := h i j (Nat.zero_le _) hij hj'
  rw [getElem!_pos d i hi', getElem!_pos d j hj', cfN_nlt] at this
  simp
  omega

theorem sortWorldN_fr (w : World) (g n : Nat) (dk : Array TN) (os : Array Obj) (hg : g < w.heap.size) : Fr (fun k => k = g) w (sortWorldK tnc 8 w g 0 n dk os) := by
  unfold sortWorldK putRowK putRow mapBlock grow
  refine ⟨rfl, rfl, rfl, by simp [Sort.ahead], fun k hk hn => ?_⟩
  have hk' : k < ((Sort.ahead w n).heap.modify g (onCells (putCells id 0 (flatK tnc 8 dk)))).size := by simpa [Sort.ahead] using hk
  show ((Sort.ahead w n).heap.modify g _ ++ os)[k]? = _
  rw [Array.getElem?_append_left hk', Array.getElem?_modify, if_neg (fun e => hn e.symm)]
  rfl
theorem sortWorldN_row (w : World) (g n : Nat) (dk : Array TN) (os : Array Obj) {cs : Array Value} {t : TypeId} (hg : w.heap[g]? = some (.cells cs t (0, 0))) : ∃ cs', (sortWorldK tnc 8 w g 0 n dk os).heap[g]? = some (.cells cs' t (0, 0)) ∧ cs'.size = cs.size := by
  unfold sortWorldK putRowK putRow mapBlock grow
  have hl := block_lt hg
  have hk' : g < ((Sort.ahead w n).heap.modify g (onCells (putCells id 0 (flatK tnc 8 dk)))).size := by simpa [Sort.ahead] using hl
  refine ⟨putCells id 0 (flatK tnc 8 dk) cs, ?_, ?_⟩
  · show ((Sort.ahead w n).heap.modify g _ ++ os)[g]? = _
    rw [Array.getElem?_append_left hk', Array.getElem?_modify, if_pos rfl]
    show (w.heap[g]?).map _ = _
    rw [hg]
    rfl
  · simp [putCells]

theorem holdsN_row {w : World} {g cap : Nat} {d : Array TN} {cs : Array Value} (h : HoldsK tnc 8 w g 0 d) (hg : w.heap[g]? = some (.cells cs 47 (0, 0))) (hs : cs.size = cap * 8) (hn : d.size ≤ cap) (hc : cap ≤ 9223372036854775807) : RowF tnc 8 w g d.toList.length cap 47 d.toList := by
  refine ⟨cs.toList, by simpa using hg, ?_, rfl, by simpa using hn, hc, by simpa using hs⟩
  apply List.ext_getElem?
  intro j
  have hl : d.toList.length = d.size := by simp
  rw [hl, List.getElem?_take]
  split
  · rename_i hj
    have hq : j / 8 < d.toList.length := by rw [hl]; omega
    have hm : j % 8 < 8 := Nat.mod_lt _ (by omega)
    have e1 : j / 8 * 8 + j % 8 = j := by omega
    have k := cl_get sz_tnc d.toList (j / 8) (j % 8) hq hm
    rw [e1] at k
    rw [k]
    have c := (h j (by rw [size_flatK]; exact hj)).1
    rw [get_flatK _ _ _ _ hj, Nat.zero_add, cell_row hg] at c
    rw [Array.getElem?_toList, c, getElem!_pos d (j / 8) (by omega)]
    have hm2 : j % 8 < (tnc d.toList[j / 8]).length := by rw [(sz_tnc _).1]; exact hm
    rw [List.getElem?_eq_getElem hm2]
    simp only [Array.getElem_toList] at hm2 ⊢
    rw [getElem!_pos (tnc d[j / 8]) (j % 8) hm2]
    rfl
  · rename_i hj
    rw [List.getElem?_eq_none]
    rw [cl_len sz_tnc, hl]
    omega

set_option maxRecDepth 100000 in
theorem sortN_any (w : World) (β : Option Nat) (v : Value) (A : List TN) (hS : SF tnc 8 w 47 β v A) (hn : A.length < 4611686018427387904) :
    Calls Try.prog 41 #[v, .func (.func 42) #[] #[]] w fun e w' => e = .returned (.tuple #[]) ∧ ∃ L, L.Perm A ∧ L.Pairwise (fun a b => a.n.id ≤ b.n.id) ∧ SF tnc 8 w' 47 β v L ∧ Fr (fun k => β = some k) w w' := by
  cases β with
  | none =>
    obtain ⟨rfl, rfl⟩ := hS
    refine (AnyF.slices_SortFunc_none { sortNt with } none 0 _ w).mono ?_
    rintro e w' ⟨rfl, rfl⟩
    exact ⟨rfl, [], List.Perm.refl _, List.Pairwise.nil, ⟨rfl, rfl⟩, Fr.refl _ _⟩
  | some g =>
    obtain ⟨cap, rfl, hR⟩ := hS
    have eg : ∀ args w, (callFunc 42 args).run Try.prog w = .ok (.enter 42 args) w := enters_of Try.func42 (by kernel_rfl) rfl
    have hsz : A.toArray.size = A.length := by simp
    have hcon := AnyQ.slices_SortFunc sortNt 8 Try.isAgg47 Try.sizeOf47 tnc (fun x => (sz_tnc x).1) (fun x v hv => (sz_tnc x).2 v hv) cfN swoN 42 #[] g 0 cap A.toArray w eg (cmpLaysN g 0 _ w) (rowN_holds hR) hR.lt (by rw [hsz]; exact hn)
    change Calls Try.prog 41 _ _ _ at hcon
    rw [hsz] at hcon
    refine hcon.mono ?_
    rintro e w' ⟨rfl, d', n, os, hp, hs, rfl⟩
    have hp' : PermIn 0 A.toArray.size A.toArray d' := by rw [hsz]; exact hp
    have hd' : d'.size = A.length := by rw [hp.1, hsz]
    have hpl := permN_toList hp'
    have hl : d'.toList.length = A.length := by simpa using hd'
    have hlt := hR.lt
    have hH := holdsK_sortWorldK tnc 8 w g 0 n A.toArray d' os hR.lt (rowN_holds hR) (by rw [hd', hsz])
    obtain ⟨cur, hh, -, -, h4, h5, h6⟩ := hR
    obtain ⟨cs', hg', hcs'⟩ := sortWorldN_row w g n d' os hh
    refine ⟨rfl, d'.toList, by simpa using hpl, sortedN_toList hs hd', ⟨cap, by rw [hl], holdsN_row hH hg' (by rw [hcs']; simpa using h6) (by rw [hd']; exact h4) h5⟩, (sortWorldN_fr w g n d' os hlt).mono (fun k _ h => by rw [h])⟩

end Go.Proofs.Ytkkklfnooeofcab
