/-
  Texts put together: Jq Jr Je Jg Jh.
-/
import Derived.Test.YtfhghijefjhehaaDoorJp
import Derived.Shelf.SlSortCmp.NoneTotal
import Derived.Test.YtfhghijefjhehaaDoorMJ
import Derived.Test.YtfhghijefjhehaaDoorMF
import Derived.Test.YtfhghijefjhehaaDoorMB
/-! Jq -/
namespace Go.Proofs.YtfhghijefjhehaaDoor
open Go.Shelf Go.RowKit Go.Lib Go.Sort
set_option linter.unusedVariables false

instance : Inhabited El := ⟨(0, 0, 0)⟩
def cfE (x y : El) : Int := cfI x.2.1 x.2.2 y.2.1 y.2.2
theorem cf_lt (x y : El) : ltOf cfE x y = true ↔ ltK x y := by
  unfold ltOf cfE cfI orI ltK Lib.compareInt
  rw [decide_eq_true_iff]
  by_cases h1 : x.2.1 < y.2.1
  · simp [h1]
  · by_cases h2 : x.2.1 > y.2.1
    · have h3 : ¬ x.2.1 = y.2.1 := by omega
      simp [h1, h2, h3]
    · have h3 : x.2.1 = y.2.1 := by omega
      by_cases h4 : x.2.2 < y.2.2
      · simp [h3, h4]
      · by_cases h5 : x.2.2 > y.2.2 <;> simp [h3, h4, h5]
theorem cf_nlt (x y : El) : ltOf cfE x y = false ↔ ¬ ltK x y := by
  rw [← cf_lt]
  cases ltOf cfE x y <;> simp
theorem swoE : SWO (ltOf cfE) := ⟨fun x => (cf_nlt x x).2 (ltK.irr x), fun x y z h1 h2 => (cf_lt x z).2 (((cf_lt x y).1 h1).trans ((cf_lt y z).1 h2)), fun x y z h1 h2 => by
  rw [cf_nlt] at *
  unfold ltK at *
  omega⟩

theorem cmpLaysE (blk off size : Nat) (w : World) : CmpLays Tryd.prog 38 #[] elc 3 cfE blk off size w :=
  fun _ _ _ _ x y => cmp_any x.1 x.2.1 x.2.2 y.1 y.2.1 y.2.2 _

theorem row_holds {w : World} {g cap : Nat} {A : List El} (h : RowF elc 3 w g A.length cap 64 A) : HoldsK elc 3 w g 0 A.toArray := by
  intro j hj
  rw [size_flatK] at hj
  have hj' : j < A.length * 3 := by simpa using hj
  rw [get_flatK _ _ _ _ hj]
  have hq : j / 3 < A.length := by omega
  have k := h.cell szEl (j / 3) (j % 3) hq (Nat.mod_lt _ (by omega))
  have e1 : j / 3 * 3 + j % 3 = j := by omega
  rw [e1] at k
  have e2 : A.toArray[j / 3]! = A[j / 3] := by
    rw [getElem!_pos A.toArray (j / 3) (by simpa using hq)]
    simp
  obtain ⟨cur, hh, -⟩ := h
  refine ⟨?_, frozen_row hh _⟩
  rw [Nat.zero_add, k, e2]
  have hm : j % 3 < 3 := Nat.mod_lt _ (by omega)
  generalize A[j / 3] = x
  obtain h | h | h : j % 3 = 0 ∨ j % 3 = 1 ∨ j % 3 = 2 := by omega
  all_goals (rw [h]; rfl)

theorem holds_tx {w : World} {g : Nat} {d : Array El} (h : HoldsK elc 3 w g 0 d) (hg : g < w.heap.size) : IsTx w (some ⟨g, 0, none⟩) d.toList := by
  intro hl
  refine ⟨g, 0, rfl, hg, fun q hq => ?_⟩
  have hq' : q < d.size := by simpa using hq
  have k : ∀ r, r < 3 → w.cell? ⟨g, 0 + q * 3 + r, none⟩ = some ((elc d.toList[q])[r]!) := by
    intro r hr
    have := (h (q * 3 + r) (by rw [size_flatK]; omega)).1
    rw [get_flatK _ _ _ _ (by omega)] at this
    have e1 : (q * 3 + r) / 3 = q := by omega
    have e2 : (q * 3 + r) % 3 = r := by omega
    rw [e1, e2, getElem!_pos d q hq'] at this
    rw [Nat.add_assoc]
    simpa using this
  exact ⟨k 0 (by omega), k 1 (by omega), k 2 (by omega)⟩

theorem perm_toList {d d' : Array El} (h : PermIn 0 d.size d d') : d'.toList.Perm d.toList := by
  obtain ⟨h1, -, h3⟩ := h
  rw [← h1] at h3
  have e : d'.extract 0 d'.size = d' := by simp
  rw [e] at h3
  have e' : d.extract 0 d'.size = d := by rw [h1]; simp
  rw [e'] at h3
  exact h3
theorem sorted_toList {d : Array El} {n : Nat} (h : SortedIn (ltOf cfE) 0 n d) (hn : d.size = n) : d.toList.Pairwise (fun a b => ¬ ltK b a) := by
  subst hn
  rw [List.pairwise_iff_getElem]
  intro i j hi hj hij
  have hi' : i < d.size := by simpa using hi
  have hj' : j < d.size := by simpa using hj
  have := h i j (Nat.zero_le _) hij hj'
  rw [getElem!_pos d i hi', getElem!_pos d j hj', cf_nlt] at this
  simpa using this

theorem sortWorld_fr (w : World) (g n : Nat) (dk : Array El) (os : Array Obj) (hg : g < w.heap.size) : Fr (fun k => k = g) w (sortWorldK elc 3 w g 0 n dk os) := by
  unfold sortWorldK putRowK putRow mapBlock grow
  refine ⟨rfl, rfl, rfl, by simp [Sort.ahead], fun k hk hn => ?_⟩
  have hk' : k < ((Sort.ahead w n).heap.modify g (onCells (putCells id 0 (flatK elc 3 dk)))).size := by simpa [Sort.ahead] using hk
  show ((Sort.ahead w n).heap.modify g _ ++ os)[k]? = _
  rw [Array.getElem?_append_left hk', Array.getElem?_modify, if_neg (fun e => hn e.symm)]
  rfl

set_option maxRecDepth 100000 in
theorem sort_any (w : World) (β : Option Nat) (v : Value) (A : List El) (hS : SF elc 3 w 64 β v A) (hn : A.length < 4611686018427387904) :
    Calls Tryd.prog 37 #[v, .func (.func 38) #[] #[]] w fun e w' => e = .returned (.tuple #[]) ∧ ∃ L a c, v = .slice a L.length c ∧ L.Perm A ∧ L.Pairwise (fun a b => ¬ ltK b a) ∧ IsTx w' a L ∧ Fr (fun k => β = some k) w w' := by
  cases β with
  | none =>
    obtain ⟨rfl, rfl⟩ := hS
    refine (AnyF.slices_SortFunc_none { sortEl with } none 0 _ w).mono ?_
    rintro e w' ⟨rfl, rfl⟩
    exact ⟨rfl, [], none, 0, rfl, List.Perm.refl _, List.Pairwise.nil, fun h => by simp at h, Fr.refl _ _⟩
  | some g =>
    obtain ⟨cap, rfl, hR⟩ := hS
    have eg : ∀ args w, (callFunc 38 args).run Tryd.prog w = .ok (.enter 38 args) w := enters_of Tryd.func38 (by kernel_rfl) rfl
    have hsz : A.toArray.size = A.length := by simp
    have hcon := AnyQ.slices_SortFunc sortEl 3 Tryd.isAgg64 Tryd.sizeOf64 elc (fun x => (szEl x).1) (fun x v hv => (szEl x).2 v hv) cfE swoE 38 #[] g 0 cap A.toArray w eg (cmpLaysE g 0 _ w) (row_holds hR) hR.lt (by rw [hsz]; exact hn)
    change Calls Tryd.prog 37 _ _ _ at hcon
    rw [hsz] at hcon
    refine hcon.mono ?_
    rintro e w' ⟨rfl, d', n, os, hp, hs, rfl⟩
    have hp' : PermIn 0 A.toArray.size A.toArray d' := by rw [hsz]; exact hp
    have hd' : d'.size = A.length := by rw [hp.1, hsz]
    have hpl := perm_toList hp'
    have hl : d'.toList.length = A.length := by simpa using hd'
    refine ⟨rfl, d'.toList, some ⟨g, 0, none⟩, cap, by rw [hl], by simpa using hpl, sorted_toList hs hd', holds_tx ?_ ?_, (sortWorld_fr w g n d' os hR.lt).mono (fun k _ h => by rw [h])⟩
    · exact holdsK_sortWorldK elc 3 w g 0 n A.toArray d' os hR.lt (row_holds hR) (by rw [hd', hsz])
    · exact lt_sortWorldK elc 3 w g 0 n d' os hR.lt

end Go.Proofs.YtfhghijefjhehaaDoor

/-! Jr -/
namespace Go.Proofs.YtfhghijefjhehaaDoor
open Go.RowKit Go.Maps Go.ChangeMaps Go.MapKept Go.WideMaps
set_option linter.unusedVariables false

theorem wpList_next_held (w : World) {ops : Array Oper} {rest : List Oper} {o : Oper} {a : Act} {Q : Exit → Act → World → Prop} (hg : o.guard = none) (it : Operand) (hop : o.op = Op.next it false) (b r n : Nat) (D : DataW Value) (left : Lit → Bool) (cnt : Nat)
    (hit : a.eval it = .pointer (some ⟨r, 0, none⟩)) (h : w.ranges Tryd.prog 64 RV b r n D left cnt)
    (hDone : cnt = 0 → (∀ kl, left kl = false) → wpList Tryd.prog ops Q rest (a.put o.dst (.tuple #[.bool false])) w)
    (hMore : ∀ (key v : Value) (kl : Lit) (w' : World) (cnt' : Nat), keyOf Tryd.prog 64 key = some kl → left kl = true → (∀ zd, D.atKey kl zd = .held v) → w'.ranges Tryd.prog 64 RV b r n D (fun z => left z && !z.sameKey kl) cnt' → cnt' < cnt →
      w.grownBy w' (some r) → w'.heap.size = w.heap.size → (Instr.entry (.pointer (some ⟨r, 0, none⟩))).run Tryd.prog w' = .ok (.tuple #[key, v]) w' → wpList Tryd.prog ops Q rest (a.put o.dst (.tuple #[.bool true, key, v])) w') :
    wpList Tryd.prog ops Q (o :: rest) a w :=
  wpList_next_ranges w hg it hop 64 lawEl RV (fun v : Value => v) (fun v : Value => v) (fun key kl _ => ⟨key, rfl⟩) (fun v y _ => ⟨v, rfl⟩) b r n D left cnt hit h hDone (fun x c kl y w' cnt' hkey hlk hv hat hrg hlt hgr hsz hen => by
    have hy : y.1 = .held c := by
      have h' : (DataW.held c, ([] : List MemPlace)) = y := Option.some.inj (show some (DataW.held c, ([] : List MemPlace)) = some y from hv)
      rw [← h']
    exact hMore x c kl w' cnt' hkey hlk (fun zd => by rw [hat zd, hy]) hrg hlt hgr hsz hen)

theorem ranges_fr {S : Nat → Prop} {w w' : World} {b r n : Nat} {D : DataW Value} {left : Lit → Bool} {cnt : Nat} (h : w.ranges Tryd.prog 64 RV b r n D left cnt) (hF : Fr S w w') (hb : ¬ S b) (hr : ¬ S r) : w'.ranges Tryd.prog 64 RV b r n D left cnt := by
  obtain ⟨es, clock, since, seen, c0, h1, h2, h3, h4, h5, h6⟩ := h
  exact ⟨es, clock, since, seen, c0, hF.keeps h1 hb, h2, h3, h4, hF.keeps h5 hr, h6⟩

/-- What is there to be seen. -/
def thereP (V : List Dd) (x : El) : Prop := (∃ d ∈ V, dEl d = x) ∧ madeB V x = true ∧ goneB V x = false

/-- The map's contents, told apart from its memory. -/
def MD (D : DataW Value) (V : List Dd) : Prop := (∀ d ∈ V, wfE (dEl d)) ∧ (∀ d ∈ V, ∀ z, D.atKey (kE (dEl d)) z = .held (fV (madeB V (dEl d)) (goneB V (dEl d)))) ∧ (∀ kl, Maps.has D kl = true → ∃ d ∈ V, kl = kE (dEl d))

/-- Within list: the map is gone through, the elements A have been taken. -/
def LiI (w wr : World) (m : Nat) (V : List Dd) (D : DataW Value) (left : Lit → Bool) (cnt : Nat) (β : Option Nat) (v : Value) (A : List El) : Prop :=
  wr.ranges Tryd.prog 64 RV m w.heap.size V.length D left cnt ∧ SF elc 3 wr 64 β v A ∧ (∀ g, β = some g → w.heap.size < g) ∧ (∀ x, x ∈ A ↔ thereP V x ∧ left (kE x) = false) ∧ A.Nodup ∧ Below w.heap.size w wr

theorem LiI.fr {w wr u : World} {m : Nat} {V : List Dd} {D : DataW Value} {left : Lit → Bool} {cnt : Nat} {β : Option Nat} {v : Value} {A : List El} (h : LiI w wr m V D left cnt β v A) (hb : Below wr.heap.size wr u) : LiI w u m V D left cnt β v A := by
  obtain ⟨h1, h2, h3, h4, h5, h6⟩ := h
  have hF : Fr (fun _ => False) wr u := Fr.of_below hb
  exact ⟨ranges_fr h1 hF (fun h => h) (fun h => h), h2.fr hF (fun _ _ h => h), h3, h4, h5, h6.trans (hb.mono h6.size)⟩

theorem same_kE {x y : El} (hx : wfE x) (hy : wfE y) : (kE x).sameKey (kE y) = true ↔ x = y := by
  constructor
  · intro h
    exact kE_inj hx hy (WideAt.sameKey_eq h)
  · rintro rfl
    exact WideAt.sameKey_self (lawEl.key (key_el hx))

/-- The step of the iterator. -/
theorem LiI.next {w wr w' : World} {m : Nat} {V : List Dd} {D : DataW Value} {left : Lit → Bool} {cnt cnt' : Nat} {β : Option Nat} {v : Value} {A : List El} (h : LiI w wr m V D left cnt β v A) (hD : MD D V) {key fv : Value} {kl : Lit} (hk : keyOf Tryd.prog 64 key = some kl) (hl : left kl = true) (hat : ∀ zd, D.atKey kl zd = .held fv)
    (hr : w'.ranges Tryd.prog 64 RV m w.heap.size V.length D (fun z => left z && !z.sameKey kl) cnt') (hg : wr.grownBy w' (some w.heap.size)) :
    ∃ x, key = elV x ∧ fv = fV (madeB V x) (goneB V x) ∧ x ∉ A ∧ (∃ d ∈ V, dEl d = x) ∧ w'.ranges Tryd.prog 64 RV m w.heap.size V.length D (fun z => left z && !z.sameKey (kE x)) cnt' ∧ SF elc 3 w' 64 β v A ∧ Below w.heap.size w w' ∧ (∀ y, (∃ d ∈ V, dEl d = y) → ((left (kE y) && !(kE y).sameKey (kE x)) = false ↔ (left (kE y) = false ∨ y = x))) := by
  obtain ⟨hd1, hd2, hd3⟩ := hD
  obtain ⟨h1, h2, h3, h4, h5, h6⟩ := h
  obtain ⟨d, hdV, rfl⟩ := hd3 kl (Maps.has_true_of_atKey hat)
  have hF : Fr (· = w.heap.size) wr w' := fr_grown hg
  refine ⟨dEl d, lawEl.inj hk (key_el (hd1 d hdV)), ?_, ?_, ⟨d, hdV, rfl⟩, hr, h2.fr hF (fun g hg e => by have := h3 g hg; omega), h6.trans (hF.below h6.size (fun k hk => by omega)), ?_⟩
  · have := (hat .nil).symm.trans (hd2 d hdV .nil)
    injection this
  · intro hm
    rw [((h4 _).1 hm).2] at hl
    cases hl
  · rintro y ⟨d', hd', rfl⟩
    have := same_kE (hd1 d' hd') (hd1 d hdV)
    cases hs : (kE (dEl d')).sameKey (kE (dEl d)) with
    | true => simp [this.1 hs]
    | false =>
      have hne : ¬ dEl d' = dEl d := fun e => by rw [this.2 e] at hs; cases hs
      simp [hne]

end Go.Proofs.YtfhghijefjhehaaDoor

/-! Je -/
namespace Go.Proofs.YtfhghijefjhehaaDoor
open Go.RowKit
set_option linter.unusedVariables false

/-- append of one element. -/
theorem push_el (w : World) (β : Option Nat) (v : Value) (xs : List El) (hv : SF elc 3 w 64 β v xs) (b : Nat) (x : El) (hb : w.heap[b]? = some (.cells (elc x).toArray 64 (0, 0))) (hn : xs.length ≤ 5864062014634) :
    ∃ v' w', (∀ ty, (Builtin.append_ #[35, 35] ty #[v, .slice (some ⟨b, 0, none⟩) 1 1]).run Tryd.prog w = .ok v' w') ∧ NowF elc 3 w w' 64 β v' (xs ++ [x]) := by
  obtain ⟨i0, hi0, hz0, hz1, hz2⟩ : ∃ i0, Tryd.prog.info? 64 = some i0 ∧ i0.zero = some (.agg #[.int .u8 0, .int .i64 0, .int .i64 0]) ∧ i0.size = 3 ∧ i0.bytes = 24 := by
    cases hq : Tryd.prog.info? 64 with
    | none => have := Tryd.infoEl; rw [hq] at this; cases this
    | some i =>
      have h := Tryd.infoEl
      rw [hq] at h
      simp only [Option.map_some, Option.some.injEq, Prod.mk.injEq] at h
      exact ⟨i, rfl, h.1, h.2.1, h.2.2⟩
  obtain ⟨v', w', hr, hN⟩ := run_pushF szEl (P := Tryd.prog) w 35 0 64 i0 _ 24 Tryd.underlying35 hi0 hz0 hz1 rfl hz2 β v xs hv ⟨b, 0, none⟩ 1 1 [x] rfl (fun j u hj => by
    rw [cl_one] at hj
    rw [add_lit, cell_row hb, List.getElem?_toArray, Nat.zero_add]
    exact hj) (by omega) (by omega) (by omega)
  exact ⟨v', w', fun ty => hr, hN⟩

/-- A row of elements is a text. -/
theorem SF.text {w : World} {β : Option Nat} {v : Value} {xs : List El} (h : SF elc 3 w 64 β v xs) : ∃ a c, v = .slice a xs.length c ∧ IsTx w a xs := by
  cases β with
  | none =>
    obtain ⟨rfl, rfl⟩ := h
    exact ⟨none, 0, rfl, fun h => by simp at h⟩
  | some g =>
    obtain ⟨cap, rfl, hR⟩ := h
    refine ⟨_, cap, rfl, fun _ => ⟨g, 0, rfl, hR.lt, fun q hq => ?_⟩⟩
    have k0 := hR.cell szEl q 0 hq (by omega)
    have k1 := hR.cell szEl q 1 hq (by omega)
    have k2 := hR.cell szEl q 2 hq (by omega)
    simp only [elc] at k0 k1 k2
    simpa using ⟨k0, k1, k2⟩

end Go.Proofs.YtfhghijefjhehaaDoor

/-! Jg -/
namespace Go.Proofs.YtfhghijefjhehaaDoor
open Go.RowKit
set_option linter.unusedVariables false

theorem cl_set3 (P S : List El) (x y : El) : (((cl elc (P ++ x :: S)).set (P.length * 3) (.int .u8 y.1)).set (P.length * 3 + 1) (.int .i64 y.2.1)).set (P.length * 3 + 2) (.int .i64 y.2.2) = cl elc (P ++ y :: S) := by
  rw [cl_app, cl_app, cl_cons, cl_cons]
  have hl : (cl elc P).length = P.length * 3 := cl_len szEl P
  rw [List.set_append_right _ _ (by omega), List.set_append_right _ _ (by omega), List.set_append_right _ _ (by omega), hl, Nat.sub_self, show P.length * 3 + 1 - P.length * 3 = 1 by omega, show P.length * 3 + 2 - P.length * 3 = 2 by omega]
  rfl

theorem row_set3 {w : World} {g N cap : Nat} {P S : List El} {x : El} (h : RowF elc 3 w g N cap 64 (P ++ x :: S)) (y : El) :
    RowF elc 3 (((w.setCell ⟨g, P.length * 3, none⟩ (.int .u8 y.1)).setCell ⟨g, P.length * 3 + 1, none⟩ (.int .i64 y.2.1)).setCell ⟨g, P.length * 3 + 2, none⟩ (.int .i64 y.2.2)) g N cap 64 (P ++ y :: S) := by
  obtain ⟨cur, h1, h2, h3, h4, h5, h6⟩ := h
  refine ⟨((cur.set (P.length * 3) (.int .u8 y.1)).set (P.length * 3 + 1) (.int .i64 y.2.1)).set (P.length * 3 + 2) (.int .i64 y.2.2), ?_, ?_, ?_, h4, h5, by simpa using h6⟩
  · rw [set_row (set_row (set_row h1 _ _) _ _) _ _]
    simp
  · rw [List.take_set, List.take_set, List.take_set, h2]
    exact cl_set3 P S x y
  · simpa using h3

theorem row_cells {w : World} {g N cap : Nat} {P S : List El} {x : El} (h : RowF elc 3 w g N cap 64 (P ++ x :: S)) :
    (w.cell? ⟨g, P.length * 3, none⟩ = some (.int .u8 x.1) ∧ w.cell? ⟨g, P.length * 3 + 1, none⟩ = some (.int .i64 x.2.1) ∧ w.cell? ⟨g, P.length * 3 + 2, none⟩ = some (.int .i64 x.2.2)) ∧ ∀ i, w.frozen? ⟨g, i, none⟩ = false := by
  have hp : P.length < (P ++ x :: S).length := by simp
  have hx : (P ++ x :: S)[P.length] = x := by simp
  have k0 := h.cell szEl P.length 0 hp (by omega)
  have k1 := h.cell szEl P.length 1 hp (by omega)
  have k2 := h.cell szEl P.length 2 hp (by omega)
  rw [hx] at k0 k1 k2
  obtain ⟨cur, h1, -⟩ := h
  exact ⟨⟨k0, k1, k2⟩, frozen_row h1⟩

end Go.Proofs.YtfhghijefjhehaaDoor

/-! Jh -/
namespace Go.Proofs.YtfhghijefjhehaaDoor
open Go.RowKit
set_option linter.unusedVariables false

/-- While an element is put to its place. -/
def SoI (w wr : World) (g cap : Nat) (xs : List El) (i : Nat) (x : El) (P S : List El) : Prop :=
  RowF elc 3 wr g (i + 1) cap 64 (P ++ x :: S) ∧ Put P x S ∧ (P ++ x :: S).Perm (xs.take (i + 1)) ∧ w.heap.size ≤ g ∧ Below w.heap.size w wr
/-- Behind i elements. -/
def SoO (w wr : World) (v : Value) (xs L : List El) (i : Nat) : Prop :=
  (∃ β, SF elc 3 wr 64 β v L ∧ ∀ g, β = some g → w.heap.size ≤ g) ∧ L.Pairwise ltK ∧ L.Perm (xs.take i) ∧ Below w.heap.size w wr

theorem below_set3 {B : Nat} {w u : World} {g : Nat} (h : Below B w u) (hg : B ≤ g) (a b c : Nat) (x y z : Value) : Below B w (((u.setCell ⟨g, a, none⟩ x).setCell ⟨g, b, none⟩ y).setCell ⟨g, c, none⟩ z) :=
  Below.setCell (Below.setCell (Below.setCell h hg _) hg _) hg _

theorem soI_step {w wr : World} {g cap i : Nat} {xs P S : List El} {x y : El} (h : SoI w wr g cap xs i x (P ++ [y]) S) (hl : ltK x y) :
    SoI w (((((((wr.alloc (.cells #[.int .u8 x.1, .int .i64 x.2.1, .int .i64 x.2.2] 64)).setCell ⟨g, (P.length + 1) * 3, none⟩ (.int .u8 y.1)).setCell ⟨g, (P.length + 1) * 3 + 1, none⟩ (.int .i64 y.2.1)).setCell ⟨g, (P.length + 1) * 3 + 2, none⟩ (.int .i64 y.2.2)).setCell ⟨g, P.length * 3, none⟩ (.int .u8 x.1)).setCell ⟨g, P.length * 3 + 1, none⟩ (.int .i64 x.2.1)).setCell ⟨g, P.length * 3 + 2, none⟩ (.int .i64 x.2.2)) g cap xs i x P (y :: S) := by
  obtain ⟨h1, h2, h3, h4, h5⟩ := h
  have hb : Below w.heap.size w (wr.alloc (.cells #[.int .u8 x.1, .int .i64 x.2.1, .int .i64 x.2.2] 64)) := h5.alloc (by have := h5.size; omega) _
  have r0 : RowF elc 3 (wr.alloc (.cells #[.int .u8 x.1, .int .i64 x.2.1, .int .i64 x.2.2] 64)) g (i + 1) cap 64 ((P ++ [y]) ++ x :: S) := h1.fr (Fr.alloc (fun _ => False) _ _) (fun h => h)
  have r1 := row_set3 r0 y
  rw [show (P ++ [y]).length = P.length + 1 by simp] at r1
  rw [show (P ++ [y]) ++ y :: S = P ++ y :: (y :: S) by simp] at r1
  have r2 := row_set3 r1 x
  refine ⟨r2, h2.step hl, ?_, h4, ?_⟩
  · refine List.Perm.trans ?_ h3
    rw [List.append_assoc]
    refine List.Perm.append_left P ?_
    exact List.Perm.swap y x S
  · exact below_set3 (below_set3 hb h4 _ _ _ _ _ _) h4 _ _ _ _ _ _

/-- The element has come to its place. -/
theorem soI_stop {w wr : World} {g cap i : Nat} {xs P S : List El} {x y : El} (h : SoI w wr g cap xs i x (P ++ [y]) S) (hl : ltK y x) : SoO w wr (.slice (some ⟨g, 0, none⟩) (i + 1) cap) xs ((P ++ [y]) ++ x :: S) (i + 1) := by
  obtain ⟨h1, h2, h3, h4, h5⟩ := h
  have hl1 : ((P ++ [y]) ++ x :: S).length = i + 1 := (by obtain ⟨_, _, _, e, _⟩ := h1; exact e)
  refine ⟨⟨some g, ⟨cap, ?_, ?_⟩, fun g' hg => by cases hg; exact h4⟩, h2.stop hl, h3, h5⟩
  · rw [hl1]
  · rw [hl1]; exact h1
theorem soI_stop0 {w wr : World} {g cap i : Nat} {xs S : List El} {x : El} (h : SoI w wr g cap xs i x [] S) : SoO w wr (.slice (some ⟨g, 0, none⟩) (i + 1) cap) xs (x :: S) (i + 1) := by
  obtain ⟨h1, h2, h3, h4, h5⟩ := h
  have hl1 : ([] ++ x :: S).length = i + 1 := (by obtain ⟨_, _, _, e, _⟩ := h1; exact e)
  refine ⟨⟨some g, ⟨cap, ?_, ?_⟩, fun g' hg => by cases hg; exact h4⟩, h2.stop0, h3, h5⟩
  · rw [show (x :: S).length = i + 1 from hl1]
  · rw [show (x :: S).length = i + 1 from hl1]; exact h1

end Go.Proofs.YtfhghijefjhehaaDoor
