/-
  Texts put together: Kb Kc Kd.
-/
import Derived.Test.YtilidolbplglcaaGreatDoorMSg
import Derived.Maps.OwnSet
/-! Kb -/
namespace Go.Proofs.YtilidolbplglcaaGreatDoor
open Go.RowKit Go.Maps Go.ChangeMaps Go.MapKept Go.WideMaps
set_option linter.unusedVariables false

def RV (v : Value) : Option (DataW Value × List MemPlace) := some (.held v, [])
theorem laidOutK : laidOutB Tryz.prog = true := by kernel_rfl
theorem rowMk : (105 : TypeId) < Tryz.prog.types.size := of_decide_eq_true (by kernel_rfl)
theorem ktMk : Tryz.prog.keyTypeAt 2 105 = true := by kernel_rfl
theorem lawK : KeyLaw Tryz.prog 105 := deep_law_laid laidOutK (m := 2) (Nat.le_of_lt_succ (by decide)) rowMk ktMk (by rw [Tryz.underlying105])
theorem lawMk : Keyed Tryz.prog 105 := Keyed.of_law lawK
def wfM (c s : Int) : Prop := (-9223372036854775808 ≤ c ∧ c ≤ 9223372036854775807) ∧ (-9223372036854775808 ≤ s ∧ s ≤ 9223372036854775807)
def mkV (c s : Int) : Value := .agg #[.int .i64 c, .int .i64 s]
def kM (c s : Int) : Lit := .string (keyBytes [.int .i64 c, .int .i64 s])
theorem keyTypeMk : Tryz.prog.keyType 105 = true := by kernel_rfl
theorem cellsMk : Tryz.prog.cellsOf 105 = 2 := by kernel_rfl
theorem cellsI : Tryz.prog.cellsOf 3 = 1 := by kernel_rfl
theorem formedMk {a b : Value} : (Value.agg #[a, b]).formed Tryz.prog 105 = true := by simp [Value.formed, Tryz.underlying105, cellsMk]
theorem key_mk {c s : Int} (h : wfM c s) : keyOf Tryz.prog 105 (mkV c s) = some (kM c s) := by
  obtain ⟨⟨h2, h3⟩, h4, h5⟩ := h
  have w1 : (Lit.int .i64 c).wf = true := WalkArith.wf_i64 (by omega)
  have w2 : (Lit.int .i64 s).wf = true := WalkArith.wf_i64 (by omega)
  obtain ⟨n, hn⟩ : ∃ n, Tryz.prog.types.size + 1 = n + 1 + 1 := ⟨Tryz.prog.types.size - 1, by have h := rowMk; have h1 : 0 < Tryz.prog.types.size := Nat.lt_of_le_of_lt (Nat.zero_le _) h; omega⟩
  unfold keyOf mkV kM
  rw [Tryz.underlying105, keyTypeMk, formedMk, hn]
  simp [Program.keyLits, Tryz.underlying105, Tryz.underlying3, cellsMk, cellsI, Value.cells, w1, w2]
theorem kM_inj {c s c' s' : Int} (hx : wfM c s) (hy : wfM c' s') (h : kM c s = kM c' s') : c = c' ∧ s = s' := by
  have := lawMk.inj (key_mk hx) (h ▸ key_mk hy)
  simpa [mkV] using this
theorem zeroI (w : World) : (zeroValue 3).run Tryz.prog w = .ok (.int .i64 0) w := by kernel_rfl

/-- Block b is the map of the records E: who made it, to its number. -/
def MR (w : World) (b : Nat) (E : List Ed) : Prop :=
  ∃ D : DataW Value, w.ownsMap Tryz.prog 105 RV b E.length D ∧ (∀ e ∈ E, wfM e.o.cl e.o.sq) ∧ (∀ i (h : i < E.length), ∀ z, D.atKey (kM E[i].o.cl E[i].o.sq) z = .held (.int .i64 ((i : Int) + 1))) ∧ (∀ i (h : i < E.length), Maps.has D (kM E[i].o.cl E[i].o.sq) = true) ∧ (∀ kl, Maps.has D kl = true → ∃ e ∈ E, kl = kM e.o.cl e.o.sq)
theorem MR.lt {w : World} {b : Nat} {E : List Ed} (h : MR w b E) : b < w.heap.size := by
  obtain ⟨D, h, -⟩ := h
  exact h.lt
theorem MR.fr {S : Nat → Prop} {w w' : World} {b : Nat} {E : List Ed} (h : MR w b E) (hF : Fr S w w') (hS : ¬ S b) : MR w' b E := by
  obtain ⟨D, ⟨es, clock, hb, r⟩, q⟩ := h
  exact ⟨D, ⟨es, clock, hF.keeps hb hS, r⟩, q⟩
theorem MR.map {w : World} {b : Nat} {E : List Ed} (h : MR w b E) : ∃ es clock, w.heap[b]? = some (.map es clock) := by
  obtain ⟨D, ⟨es, clock, hb, r⟩, q⟩ := h
  exact ⟨es, clock, hb⟩
theorem MR.made (w : World) : MR (w.alloc (.map #[] 0)) w.heap.size [] :=
  ⟨_, World.ownsMap_made w Tryz.prog 105 RV, by simp, fun i h => by simp at h, fun i h => by simp at h, fun kl h => by cases h⟩
theorem fr_grown {w w' : World} {b : Nat} (h : w.grownBy w' (some b)) : Fr (· = b) w w' := ⟨h.os, h.tape, h.output, h.size, fun k hk hn => h.block k hk (fun e => hn (by injection e))⟩
set_option maxRecDepth 100000 in
/-- A record is there. -/
theorem MR.hit {w : World} {b : Nat} {E : List Ed} (h : MR w b E) {i : Nat} (hi : i < E.length) : (Instr.lookup 61 (.map (some b)) (mkV E[i].o.cl E[i].o.sq) true).run Tryz.prog w = .ok (.tuple #[.int .i64 ((i : Int) + 1), .bool true]) w := by
  obtain ⟨D, hown, hk, ha, hh, hf⟩ := h
  obtain ⟨v', ps, hrun, hv⟩ := hown.look_ok lawMk Tryz.underlying61 (zeroI w) (zd := .held (.int .i64 0)) (zp := []) rfl (key_mk (hk _ (List.getElem_mem hi)))
  rw [hh i hi, ha i hi] at *
  have hv' := congrArg (Option.map Prod.fst) hv
  simp only [RV, Option.map_some, Option.some.injEq] at hv'
  have e : v' = _ := DataW.held.inj hv'
  rw [hrun, e]
set_option maxRecDepth 100000 in
/-- None is there. -/
theorem MR.miss {w : World} {b : Nat} {E : List Ed} (h : MR w b E) {c s : Int} (hx : wfM c s) (hn : ∀ e ∈ E, ¬ (e.o.cl = c ∧ e.o.sq = s)) : (Instr.lookup 61 (.map (some b)) (mkV c s) true).run Tryz.prog w = .ok (.tuple #[.int .i64 0, .bool false]) w := by
  obtain ⟨D, hown, hk, ha, hh, hf⟩ := h
  obtain ⟨v', ps, hrun, hv⟩ := hown.look_ok lawMk Tryz.underlying61 (zeroI w) (zd := .held (.int .i64 0)) (zp := []) rfl (key_mk hx)
  have hno : Maps.has D (kM c s) = false := by
    cases hq : Maps.has D (kM c s) with
    | false => rfl
    | true =>
      obtain ⟨e, he, ee⟩ := hf _ hq
      have := kM_inj hx (hk e he) ee
      exact absurd ⟨this.1.symm, this.2.symm⟩ (hn e he)
  rw [hno] at hrun
  rw [atKey_of_not_has hno] at hv
  have hv' := congrArg (Option.map Prod.fst) hv
  simp only [RV, Option.map_some, Option.some.injEq] at hv'
  have e : v' = _ := DataW.held.inj hv'
  rw [hrun, e]
/-- One record more. -/
theorem MR.put {w : World} {b : Nat} {E : List Ed} (h : MR w b E) {e : Ed} (hd : wfM e.o.cl e.o.sq) (hn : E.length < 9223372036854775807) (hnew : ∀ x ∈ E, ¬ (x.o.cl = e.o.cl ∧ x.o.sq = e.o.sq)) :
    ∃ w', (Instr.mapUpdate 61 (.map (some b)) (mkV e.o.cl e.o.sq) (.int .i64 ((E.length : Int) + 1))).run Tryz.prog w = .ok () w' ∧ MR w' b (E ++ [e]) ∧ Fr (· = b) w w' := by
  obtain ⟨D, hown, hk, ha, hh, hf⟩ := h
  obtain ⟨w', hrun, h1, h2⟩ := hown.update lawMk Tryz.underlying61 (show E.length < maxLen from hn) (key_mk hd) (d := .held (.int .i64 ((E.length : Int) + 1))) (ps := []) rfl
  have hne : ∀ i (hi : i < E.length), kM E[i].o.cl E[i].o.sq ≠ kM e.o.cl e.o.sq := fun i hi he => hnew _ (List.getElem_mem hi) (kM_inj (hk _ (List.getElem_mem hi)) hd he)
  refine ⟨w', hrun, ⟨_, by simpa using h1, ?_, ?_, ?_, ?_⟩, fr_grown h2⟩
  · intro y hy
    rcases List.mem_append.1 hy with hy | hy
    · exact hk y hy
    · rw [List.mem_singleton.1 hy]; exact hd
  · intro i hi z
    rw [List.length_append, List.length_singleton] at hi
    by_cases e1 : i < E.length
    · rw [List.getElem_append_left e1, atKey_put_other (hne i e1)]
      exact ha i e1 z
    · obtain rfl : i = E.length := by omega
      simp only [List.getElem_concat_length]
      exact atKey_put_same hown.isMap (lawMk.key (key_mk hd)) _ _
  · intro i hi
    rw [List.length_append, List.length_singleton] at hi
    by_cases e1 : i < E.length
    · rw [List.getElem_append_left e1, has_put_other (hne i e1)]
      exact hh i e1
    · obtain rfl : i = E.length := by omega
      simp only [List.getElem_concat_length]
      exact has_put_same hown.isMap (lawMk.key (key_mk hd)) _
  · intro kl hq
    by_cases e1 : kl = kM e.o.cl e.o.sq
    · exact ⟨e, by simp, e1⟩
    · rw [has_put_other e1] at hq
      obtain ⟨y, hy, e2⟩ := hf kl hq
      exact ⟨y, by simp [hy], e2⟩

end Go.Proofs.YtilidolbplglcaaGreatDoor

/-! Kc -/
namespace Go.Proofs.YtilidolbplglcaaGreatDoor
open Go.RowKit
set_option linter.unusedVariables false

/-- The Seqs of each client have no gap. -/
structure BQ (E : List Ed) : Prop where
  has : ∀ (c : Int) (j : Nat), 1 ≤ j → j ≤ cnP c E → ∃ i, ∃ h : i < E.length, E[i].o.cl = c ∧ E[i].o.sq = (j : Int)
  le : ∀ e ∈ E, 1 ≤ e.o.sq ∧ e.o.sq ≤ (cnP e.o.cl E : Int)
  last : ∀ i (h : i < E.length), E[i].o.sq = (cnP E[i].o.cl E : Int) → laP E[i].o.cl E = (E[i].o.sq, E[i].tag)
  none : ∀ c, cnP c E = 0 → laP c E = (0, 0)
theorem BQ.nil : BQ [] := ⟨fun c j h1 h2 => by simp [cnP] at h2; omega, fun e he => (by cases he), fun i h => (by simp at h), fun c _ => rfl⟩
theorem BQ.add {E : List Ed} (h : BQ E) {e : Ed} (hs : e.o.sq = (cnP e.o.cl E : Int) + 1) : BQ (E ++ [e]) := by
  refine ⟨fun c j h1 h2 => ?_, fun x hx => ?_, fun i hi hq => ?_, fun c hc => ?_⟩
  · rw [cnP_snoc] at h2
    by_cases e1 : e.o.cl = c
    · rw [if_pos e1] at h2
      by_cases e2 : j ≤ cnP c E
      · obtain ⟨i, hi, h3⟩ := h.has c j h1 e2
        exact ⟨i, by simp; omega, by rw [List.getElem_append_left hi]; exact h3⟩
      · refine ⟨E.length, by simp, ?_⟩
        simp only [List.getElem_concat_length]
        subst e1
        exact ⟨rfl, by omega⟩
    · rw [if_neg e1] at h2
      obtain ⟨i, hi, h3⟩ := h.has c j h1 (by omega)
      exact ⟨i, by simp; omega, by rw [List.getElem_append_left hi]; exact h3⟩
  · rw [cnP_snoc]
    rcases List.mem_append.1 hx with hx | hx
    · have := h.le x hx
      split <;> omega
    · rw [List.mem_singleton.1 hx, if_pos rfl]
      omega
  · rw [List.length_append, List.length_singleton] at hi
    rw [laP_snoc]
    by_cases e1 : i < E.length
    · rw [List.getElem_append_left e1] at hq ⊢
      rw [cnP_snoc] at hq
      have h3 := h.le _ (List.getElem_mem e1)
      by_cases e2 : e.o.cl = E[i].o.cl
      · rw [if_pos e2] at hq
        omega
      · rw [if_neg e2] at hq ⊢
        exact h.last i e1 (by omega)
    · obtain rfl : i = E.length := by omega
      simp only [List.getElem_concat_length]
      rw [if_pos trivial]
  · rw [cnP_snoc] at hc
    rw [laP_snoc]
    by_cases e1 : e.o.cl = c
    · rw [if_pos e1] at hc
      omega
    · rw [if_neg e1] at hc ⊢
      exact h.none c (by omega)
theorem BQ.miss {E : List Ed} (h : BQ E) (c : Int) : ∀ e ∈ E, ¬ (e.o.cl = c ∧ e.o.sq = (cnP c E : Int) + 1) := fun e he ⟨h1, h2⟩ => by
  have := (h.le e he).2
  rw [h1] at this
  omega

/-- Where last is. -/
def LaS (E : List Ed) (c : Int) (cn j : Nat) (tag rev : Int) (there : Bool) : Prop :=
  ((j = 0 ∧ tag = 0) ∨ ∃ i, ∃ h : i < E.length, E[i].o.cl = c ∧ E[i].o.sq = (j : Int) ∧ E[i].tag = tag) ∧ ((there = false ∧ j = cn) ∨ (there = true ∧ ∃ i, ∃ h : i < E.length, E[i].o.cl = c ∧ E[i].o.sq = (j : Int) + 1 ∧ rev = (i : Int) + 1))
theorem LaS.fin {E : List Ed} {c : Int} {cn : Nat} {tag rev : Int} (hQ : BQ E) (hcn : cnP c E = cn) (h : LaS E c cn cn tag rev false) : laP c E = ((cn : Int), tag) := by
  rcases h.1 with ⟨h1, h2⟩ | ⟨i, hi, h1, h2, h3⟩
  · rw [hQ.none c (by omega), h1, h2]
    rfl
  · have h4 := hQ.last i hi (by rw [h1, hcn]; exact h2)
    rw [h1, h2, h3] at h4
    exact h4

end Go.Proofs.YtilidolbplglcaaGreatDoor

/-! Kd -/
namespace Go.Proofs.YtilidolbplglcaaGreatDoor
open Go.RowKit
set_option linter.unusedVariables false

theorem srvQ_sorted : ∀ (l : List Ev) (k : Nat) (q : List (Int × OpE)), (q.map (·.1)).Pairwise (· < ·) → (∀ x ∈ q, x.1 ≤ (k : Int)) → ((srvQ k q l).map (·.1)).Pairwise (· < ·)
  | [], k, q, h, _ => h
  | .own p :: l, k, q, h, hk => by
    simp only [srvQ]
    refine srvQ_sorted l (k + 1) _ ?_ (fun x hx => ?_)
    · rw [thrQ_m]
      exact h.sublist ((List.dropWhile_sublist _).map _)
    · have := thrQ_all (p := fun m => m ≤ (k : Int)) (fun z hz => hk z (dropQ_mem hz)) x hx
      omega
  | .oth r :: l, k, q, h, hk => by
    simp only [srvQ]
    refine srvQ_sorted l (k + 1) _ ?_ (fun x hx => ?_)
    · rw [List.map_append]
      refine List.pairwise_append.2 ⟨h, by simp, fun a ha b hb => ?_⟩
      obtain ⟨z, hz, rfl⟩ := List.mem_map.1 ha
      have := hk z hz
      simp at hb
      omega
    · rcases List.mem_append.1 hx with hx | hx
      · have := hk x hx
        omega
      · rw [List.mem_singleton.1 hx]
        simp
theorem quQ_sorted (c : Int) (E : List Ed) (D : List OpE) : ((quQ c E D).map (·.1)).Pairwise (· < ·) := srvQ_sorted _ 0 [] List.Pairwise.nil (fun x hx => by cases hx)

/-- Records, numbered. -/
def nmD : Nat → List OpE → List (Int × OpE)
  | _, [] => []
  | k, d :: D => ((k : Int) + 1, d) :: nmD (k + 1) D
theorem nmD_snoc (d : OpE) : ∀ (D : List OpE) (k : Nat), nmD k (D ++ [d]) = nmD k D ++ [(((k + D.length : Nat) : Int) + 1, d)]
  | [], k => by simp [nmD]
  | x :: D, k => by
    simp only [List.cons_append, nmD]
    rw [nmD_snoc d D (k + 1), List.length_cons, show k + 1 + D.length = k + (D.length + 1) by omega]
theorem nmD_lt : ∀ (D : List OpE) (k : Nat), ∀ x ∈ nmD k D, (k : Int) < x.1
  | [], k, x, h => by cases h
  | d :: D, k, x, h => by
    simp only [nmD, List.mem_cons] at h
    rcases h with rfl | h
    · simp only
      omega
    · have := nmD_lt D (k + 1) x h
      omega
theorem nmD_ops : ∀ (D : List OpE) (k : Nat), (nmD k D).map (·.2) = D
  | [], k => rfl
  | d :: D, k => by simp [nmD, nmD_ops D (k + 1)]
theorem nmD_len (D : List OpE) (k : Nat) : (nmD k D).length = D.length := by
  have := congrArg List.length (nmD_ops D k)
  simpa using this
theorem nmD_drop : ∀ (D : List OpE) (k n : Nat), (dropQ (nmD k D) ((k + n : Nat) : Int)).map (·.2) = D.drop n
  | [], k, n => by simp [nmD, dropQ]
  | d :: D, k, 0 => by
    rw [dropQ_none (fun x hx => by have := nmD_lt _ _ x hx; omega), nmD_ops]
    rfl
  | d :: D, k, n + 1 => by
    have h := nmD_drop D (k + 1) n
    have e : dropQ (nmD k (d :: D)) ((k + (n + 1) : Nat) : Int) = dropQ (nmD (k + 1) D) ((k + 1 + n : Nat) : Int) := by
      simp only [nmD, dropQ]
      rw [List.dropWhile_cons_of_pos (by simp; omega), show k + (n + 1) = k + 1 + n by omega]
    rw [e, h]
    rfl
theorem srvQ_none (c : Int) : ∀ (E : List Ed) (D : List OpE) (k : Nat) (q : List (Int × OpE)), D.length = E.length → (∀ e ∈ E, e.o.cl ≠ c) → srvQ k q (evO c E D) = q ++ nmD k D
  | [], [], k, q, _, _ => by simp [evO, srvQ, nmD]
  | e :: E, d :: D, k, q, hl, h => by
    simp only [evO, nmD]
    rw [if_neg (h e (by simp))]
    simp only [srvQ]
    rw [srvQ_none c E D (k + 1) _ (by simpa using hl) (fun x hx => h x (by simp [hx]))]
    simp
theorem cnP_none {c : Int} {E : List Ed} (h : cnP c E = 0) : ∀ e ∈ E, e.o.cl ≠ c := fun e he hc => by
  unfold cnP at h
  have h2 : e ∈ E.filter (fun e => decide (e.o.cl = c)) := List.mem_filter.2 ⟨he, by simpa using hc⟩
  rw [List.length_eq_zero_iff.1 h] at h2
  cases h2
theorem quQ_none {c : Int} {E : List Ed} {D : List OpE} (hl : D.length = E.length) (h : cnP c E = 0) : quQ c E D = nmD 0 D := by
  unfold quQ
  rw [srvQ_none c E D 0 [] hl (cnP_none h)]
  rfl

/-- What is to be taken off. -/
def sumQ (t : Int) : List (Int × OpE) → Int
  | [] => 0
  | x :: q => (if t < x.1 then gr x.2 else 0) + sumQ t q
theorem sumQ_snoc (t : Int) (x : Int × OpE) : ∀ q, sumQ t (q ++ [x]) = sumQ t q + (if t < x.1 then gr x.2 else 0)
  | [] => by simp [sumQ]
  | y :: q => by
    simp only [List.cons_append, sumQ]
    rw [sumQ_snoc t x q]
    omega
theorem sumQ_all {t : Int} : ∀ q : List (Int × OpE), (∀ x ∈ q, t < x.1) → sumQ t q = grL (q.map (·.2))
  | [], _ => rfl
  | x :: q, h => by
    simp only [sumQ, List.map_cons]
    rw [grL_cons, if_pos (h x (by simp)), sumQ_all q (fun y hy => h y (by simp [hy]))]
theorem sumQ_drop {t : Int} : ∀ q : List (Int × OpE), (q.map (·.1)).Pairwise (· < ·) → sumQ t q = grL ((dropQ q t).map (·.2))
  | [], _ => rfl
  | x :: q, h => by
    rw [List.map_cons, List.pairwise_cons] at h
    by_cases hx : x.1 ≤ t
    · have e : dropQ (x :: q) t = dropQ q t := by
        unfold dropQ
        rw [List.dropWhile_cons_of_pos (by simpa using hx)]
      rw [e, ← sumQ_drop q h.2, sumQ, if_neg (by omega)]
      omega
    · have e : dropQ (x :: q) t = x :: q := by
        unfold dropQ
        rw [List.dropWhile_cons_of_neg (by simpa using hx)]
      rw [e]
      refine sumQ_all _ (fun y hy => ?_)
      rcases List.mem_cons.1 hy with rfl | hy
      · omega
      · have := h.1 y.1 (List.mem_map.2 ⟨y, hy, rfl⟩)
        omega
theorem sumQ_le (t : Int) : ∀ q : List (Int × OpE), -(q.length : Int) ≤ sumQ t q ∧ sumQ t q ≤ q.length
  | [] => by simp [sumQ]
  | x :: q => by
    have := sumQ_le t q
    have := gr_le x.2
    simp only [sumQ, List.length_cons]
    split <;> omega
/-- How long the text of a client was. -/
theorem lnP_some (E : List Ed) (D : List OpE) (e : Ed) : lnP E D e = grL D - sumQ e.tag (quQ e.o.cl E D) := by
  unfold lnP
  rw [sumQ_drop _ (quQ_sorted _ _ _)]
theorem lnP_none {E : List Ed} {D : List OpE} {e : Ed} (hl : D.length = E.length) (h : cnP e.o.cl E = 0) {n : Nat} (hn : e.tag = (n : Int)) : lnP E D e = grL (D.take n) := by
  unfold lnP
  have h2 := nmD_drop D 0 n
  rw [Nat.zero_add] at h2
  rw [quQ_none hl h, hn, h2]
  have h3 := grL_app (D.take n) (D.drop n)
  rw [List.take_append_drop] at h3
  omega
theorem keep_next {D : List OpE} {i : Nat} (hi : i < D.length) (hv : validP D[i] = 0) (hn : i + 1 ≤ 4096) : keepE ⟨true, nmD 0 (D.take i), (i : Int)⟩ ((i : Int) + 1) D[i] = 0 ∧ keepS ⟨true, nmD 0 (D.take i), (i : Int)⟩ ((i : Int) + 1) D[i] = ⟨true, nmD 0 (D.take (i + 1)), (i : Int) + 1⟩ := by
  have h1 : keepE ⟨true, nmD 0 (D.take i), (i : Int)⟩ ((i : Int) + 1) D[i] = 0 := by
    unfold keepE
    rw [if_neg (by omega), if_neg]
    simp only
    omega
  refine ⟨h1, ?_⟩
  unfold keepS
  rw [if_pos h1, List.take_succ_eq_append_getElem hi, nmD_snoc, List.length_take, Nat.min_eq_left (by omega), Nat.zero_add]
theorem valid_ok {o : OpE} (h : validP o = 0) : OkOp o := by
  obtain ⟨k1, k2, k3, k4⟩ := validP_zero h
  unfold validP at h
  split at h
  · omega
  · split at h
    · omega
    · split at h
      · omega
      · rename_i b3
        unfold holdP at b3
        unfold OkOp
        split at b3
        · simp [inR] at b3
          omega
        · simp at b3
          omega

end Go.Proofs.YtilidolbplglcaaGreatDoor
