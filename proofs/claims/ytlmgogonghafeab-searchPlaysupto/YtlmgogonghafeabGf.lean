/-
  Pieces that are one's own: each a part of a row, no two of one part.
-/
import Derived.Test.YtlmgogonghafeabGa
namespace Go.Proofs.Ytlmgogonghafeab
open Go.RowKit Go.Lib
set_option linter.unusedVariables false

theorem one_ub (l : By) : ∀ v ∈ l.map ub, v.oneCell' = true := by
  intro v hv
  obtain ⟨b, -, rfl⟩ := List.mem_map.1 hv
  rfl

/-- The piece is a part of a row, with its room. -/
def PcO (w : World) (q : Pc) : Prop := ∃ fz L S R, Seg w q.b 5 fz L (q.bs.map ub) S R ∧ L.length = q.off ∧ q.bs.length + S.length = q.cap ∧ q.cap ≤ 9223372036854775807
theorem PcO.lt {w : World} {q : Pc} (h : PcO w q) : q.b < w.heap.size := by
  obtain ⟨fz, L, S, R, h1, -⟩ := h
  exact h1.lt
theorem PcO.le {w : World} {q : Pc} (h : PcO w q) : q.bs.length ≤ q.cap := by
  obtain ⟨fz, L, S, R, -, -, h3, -⟩ := h
  omega
theorem PcO.cap {w : World} {q : Pc} (h : PcO w q) : q.cap ≤ 9223372036854775807 := by
  obtain ⟨fz, L, S, R, -, -, -, h4⟩ := h
  exact h4
theorem PcO.ok {w : World} {q : Pc} (h : PcO w q) : OkPc w q := by
  obtain ⟨fz, L, S, R, h1, h2, h3, h4⟩ := h
  refine ⟨h1.lt, by omega, h4, fun j hj => ?_⟩
  have := h1.cells 0 (Nat.zero_le _) j (ub q.bs[j]) (by rw [List.drop_zero, List.getElem?_map, List.getElem?_eq_getElem hj]; rfl)
  rw [add_lit, h2] at this
  exact this
theorem PcO.fr {w w' : World} {q : Pc} {Q : Nat → Prop} (h : PcO w q) (hF : Fr Q w w') (hS : ¬ Q q.b) : PcO w' q := by
  obtain ⟨fz, L, S, R, h1, h2⟩ := h
  exact ⟨fz, L, S, R, h1.fr hF hS, h2⟩
theorem PcO.ty {w : World} {q : Pc} (h : PcO w q) : ∃ cs f, w.heap[q.b]? = some (.cells cs 5 f) := by
  obtain ⟨fz, L, S, R, h1, h2⟩ := h
  exact ⟨_, _, h1.1⟩

/-- Of the row at b nothing changes but the cells of a part. -/
def ChR (w w' : World) (b off cap : Nat) : Prop :=
  ∃ fz cur cur' : _, w.heap[b]? = some (.cells (cur : List Value).toArray 5 fz) ∧ w'.heap[b]? = some (.cells (cur' : List Value).toArray 5 fz) ∧ cur'.length = cur.length ∧ ∀ i, (i < off ∨ off + cap ≤ i) → cur'[i]? = cur[i]?
theorem ChR.of {w w' : World} {b : Nat} {fz : Nat × Nat} {L xs S R xs' S' : List Value} (h : Seg w b 5 fz L xs S R) (h' : Seg w' b 5 fz L xs' S' R) (hl : xs'.length + S'.length = xs.length + S.length) : ChR w w' b L.length (xs.length + S.length) := by
  refine ⟨fz, _, _, h.1, h'.1, by simp; omega, ?_⟩
  intro i hi
  rcases hi with hi | hi
  · rw [List.getElem?_append_left hi, List.getElem?_append_left hi]
  · have k : ∀ (X Y : List Value), X.length + Y.length = xs.length + S.length → (L ++ (X ++ (Y ++ R)))[i]? = R[i - (L.length + (xs.length + S.length))]? := by
      intro X Y hXY
      rw [show L ++ (X ++ (Y ++ R)) = (L ++ (X ++ Y)) ++ R by simp, List.getElem?_append_right (by rw [List.length_append, List.length_append]; omega)]
      congr 1
      rw [List.length_append, List.length_append]
      omega
    rw [k _ _ hl, k _ _ rfl]
/-- A piece elsewhere stays. -/
theorem PcO.keep {w w' : World} {q : Pc} {b off cap : Nat} (h : PcO w q) (hc : ChR w w' b off cap) (hF : Fr (· = b) w w') (ha : q.b ≠ b ∨ q.off + q.cap ≤ off ∨ off + cap ≤ q.off) : PcO w' q := by
  by_cases hb : q.b = b
  · have ha : q.off + q.cap ≤ off ∨ off + cap ≤ q.off := by
      rcases ha with ha | ha
      · exact absurd hb ha
      · exact ha
    obtain ⟨fz, L, S, R, h1, h2, h3, h4⟩ := h
    obtain ⟨fz2, cur, cur', c1, c2, c3, c4⟩ := hc
    have e0 := h1.1
    rw [hb, c1] at e0
    injection e0 with e0
    injection e0 with e1 e2 e3
    have e1 : cur = L ++ (q.bs.map ub ++ (S ++ R)) := by simpa using congrArg Array.toList e1
    subst e3
    have hlen : cur.length = L.length + (q.bs.length + (S.length + R.length)) := by rw [e1]; simp
    have hmid : (cur'.drop q.off).take q.cap = q.bs.map ub ++ S := by
      have h0 : (cur.drop q.off).take q.cap = q.bs.map ub ++ S := by
        rw [e1, ← h2, List.drop_left, ← h3, ← List.append_assoc]
        rw [show q.bs.length + S.length = (q.bs.map ub ++ S).length by simp, List.take_left]
      rw [← h0]
      apply List.ext_getElem?
      intro j
      rw [List.getElem?_take, List.getElem?_take]
      split
      · rw [List.getElem?_drop, List.getElem?_drop]
        exact c4 _ (by omega)
      · rfl
    refine ⟨fz2, cur'.take q.off, S, cur'.drop (q.off + q.cap), ⟨?_, ?_⟩, ?_, h3, h4⟩
    · rw [hb, c2]
      congr 3
      rw [← List.append_assoc (q.bs.map ub), ← hmid]
      rw [show cur'.drop (q.off + q.cap) = (cur'.drop q.off).drop q.cap by rw [List.drop_drop], List.take_append_drop, List.take_append_drop]
    · have := h1.2
      rw [show (cur'.take q.off).length + ((q.bs.map ub).length + (S.length + (cur'.drop (q.off + q.cap)).length)) = L.length + ((q.bs.map ub).length + (S.length + R.length)) by simp; omega]
      exact this
    · rw [List.length_take]
      omega
  · exact h.fr hF hb

/-- What a call makes of a piece: the same part of the same row, or a row of its own. -/
structure NowQ (w w' : World) (q q' : Pc) : Prop where
  own : PcO w' q'
  how : (q'.b = q.b ∧ q'.off = q.off ∧ q'.cap = q.cap ∧ ChR w w' q.b q.off q.cap ∧ Fr (· = q.b) w w') ∨ (w.heap.size ≤ q'.b ∧ Fr (fun _ => False) w w')
theorem NowQ.keep {w w' : World} {q q' q2 : Pc} (h : NowQ w w' q q') (h2 : PcO w q2) (ha : q2.b ≠ q.b ∨ q2.off + q2.cap ≤ q.off ∨ q.off + q.cap ≤ q2.off) : PcO w' q2 := by
  rcases h.how with ⟨-, -, -, hc, hF⟩ | ⟨-, hF⟩
  · exact h2.keep hc hF ha
  · exact h2.fr hF (fun h => h)
theorem NowQ.frame {w w' : World} {q q' : Pc} (h : NowQ w w' q q') : Fr (· = q.b) w w' := by
  rcases h.how with ⟨-, -, -, -, hF⟩ | ⟨-, hF⟩
  · exact hF
  · exact hF.mono (fun _ _ h => h.elim)

/-- Two pieces share no cell. -/
def Aprt (q r : Pc) : Prop := q.b ≠ r.b ∨ q.off + q.cap ≤ r.off ∨ r.off + r.cap ≤ q.off
theorem Aprt.symm {q r : Pc} (h : Aprt q r) : Aprt r q := by
  unfold Aprt at *
  rcases h with h | h | h
  · exact .inl (fun e => h e.symm)
  · exact .inr (.inr h)
  · exact .inr (.inl h)

/-- Blocks of an index. -/
def Ow (x : Nat) (β : Option Nat) (ps : List Pc) (k : Nat) : Prop := k = x ∨ β = some k ∨ ∃ q ∈ ps, q.b = k
def tyI (w : World) (k : Nat) : Prop := ∃ cs t f, w.heap[k]? = some (.cells cs t f) ∧ (t = 60 ∨ t = 35 ∨ t = 5)

/-- An index's pieces: at block x, its list at β. -/
structure PcS (w : World) (x : Nat) (sz : Int) (β : Option Nat) (v : Value) (ps : List Pc) : Prop where
  idx : w.heap[x]? = some (.cells #[v, .int .i64 sz] 60 (0, 0))
  row : SF pcv 1 w 35 β v ps
  all : ∀ q ∈ ps, PcO w q
  long : ∀ q ∈ ps, 0 < q.bs.length ∧ q.bs.length ≤ 128
  two : ps.Pairwise Aprt
section
variable {w w' : World} {x : Nat} {sz : Int} {β : Option Nat} {v : Value} {ps : List Pc}
theorem SF.tyB (h : SF pcv 1 w 35 β v ps) : ∀ g, β = some g → ∃ cs, w.heap[g]? = some (.cells cs 35 (0, 0)) := by
  intro g hg
  subst hg
  obtain ⟨cap, hv, cur, hh, -⟩ := h
  exact ⟨_, hh⟩
theorem PcS.own_ty (h : PcS w x sz β v ps) : ∀ k, Ow x β ps k → tyI w k := by
  intro k hk
  rcases hk with rfl | hk | ⟨q, hq, rfl⟩
  · exact ⟨_, _, _, h.idx, .inl rfl⟩
  · obtain ⟨cs, hc⟩ := SF.tyB h.row k hk
    exact ⟨_, _, _, hc, .inr (.inl rfl)⟩
  · obtain ⟨cs, f, hc⟩ := (h.all q hq).ty
    exact ⟨_, _, _, hc, .inr (.inr rfl)⟩
theorem PcS.own_lt (h : PcS w x sz β v ps) : ∀ k, Ow x β ps k → k < w.heap.size := by
  intro k hk
  obtain ⟨cs, t, f, hc, -⟩ := h.own_ty k hk
  exact block_lt hc
theorem PcS.fr {Q : Nat → Prop} (h : PcS w x sz β v ps) (hF : Fr Q w w') (hQ : ∀ k, Ow x β ps k → ¬ Q k) : PcS w' x sz β v ps :=
  ⟨hF.keeps h.idx (hQ _ (.inl rfl)), h.row.fr hF (fun g hg => hQ _ (.inr (.inl hg))), fun q hq => (h.all q hq).fr hF (hQ _ (.inr (.inr ⟨q, hq, rfl⟩))), h.long, h.two⟩
theorem PcS.isP (h : PcS w x sz β v ps) : ∃ a c, v = .slice a ps.length c ∧ IsP w a ps.length c ps := by
  obtain ⟨a, c, hv, hlc, hc⟩ := h.row.form
  refine ⟨a, c, hv, rfl, hlc, hc, fun hn => ?_, fun q hq => (h.all q hq).ok⟩
  cases β with
  | none =>
    obtain ⟨-, h2⟩ := h.row
    rw [h2] at hn
    simp at hn
  | some g =>
    have hlt := h.row.lt g rfl
    obtain ⟨cap, hv2, hR⟩ := h.row
    rw [hv] at hv2
    obtain ⟨rfl, -, -⟩ := Value.slice.inj hv2
    refine ⟨g, 0, rfl, hlt, fun i hi => ?_⟩
    have := hR.cell szP i 0 hi (by omega)
    rw [Nat.mul_one, Nat.add_zero] at this
    rw [Nat.zero_add, this]
    rfl
end

/-- An index at block x, of one's own blocks O: it holds the text T. -/
def IM (w : World) (O : Nat → Prop) (x : Nat) (T : By) : Prop := ∃ β v ps, PcS w x ((T.length : Nat) : Int) β v ps ∧ txP ps = T ∧ ∀ k, Ow x β ps k → O k
theorem IM.ix {w : World} {O : Nat → Prop} {x : Nat} {T : By} (h : IM w O x T) : IX w x T := by
  obtain ⟨β, v, ps, h1, h2, h3⟩ := h
  obtain ⟨a, c, rfl, hP⟩ := h1.isP
  exact ⟨a, _, c, ps, h1.idx, hP, h2⟩
theorem IM.fr {w w' : World} {O Q : Nat → Prop} {x : Nat} {T : By} (h : IM w O x T) (hF : Fr Q w w') (hQ : ∀ k, O k → ¬ Q k) : IM w' O x T := by
  obtain ⟨β, v, ps, h1, h2, h3⟩ := h
  exact ⟨β, v, ps, h1.fr hF (fun k hk => hQ k (h3 k hk)), h2, h3⟩
theorem IM.below {w w' : World} {O : Nat → Prop} {x : Nat} {T : By} (h : IM w O x T) (hb : Below w.heap.size w w') : IM w' O x T :=
  h.fr (Q := fun _ => False) (Fr.of_below hb) (fun _ _ h => h)
theorem IM.more {w : World} {O O' : Nat → Prop} {x : Nat} {T : By} (h : IM w O x T) (hO : ∀ k, k < w.heap.size → O k → O' k) : IM w O' x T := by
  obtain ⟨β, v, ps, h1, h2, h3⟩ := h
  exact ⟨β, v, ps, h1, h2, fun k hk => hO k (h1.own_lt k hk) (h3 k hk)⟩
end Go.Proofs.Ytlmgogonghafeab
