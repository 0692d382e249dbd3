/-
  SpaceFresh: the objects, and what is pure.
-/
import Derived.Test.YtmbnimlibnheeaaDoorXc
namespace Go.Proofs.YtmbnimlibnheeaaDoor
open Go.RowKit Go.Lib
set_option linter.unusedVariables false

/-! ### The marks -/
def sqI : Nat → Int → List Int
  | 0, _ => []
  | n + 1, k => (k + 1) :: sqI n (k + 1)
theorem sqI_drop (m : Nat) : ∀ (n : Nat) (k : Int), ((sqI n k).dropWhile (fun x => decide (x ≤ k + (m : Int)))).length = n - m := by
  induction m with
  | zero =>
    intro n k
    cases n with
    | zero => rfl
    | succ n =>
      have : ¬ (k + 1 ≤ k + ((0 : Nat) : Int)) := by omega
      rw [sqI, List.dropWhile_cons_of_neg (by simpa using this)]
      have hl : ∀ n k, (sqI n k).length = n := fun n => by
        induction n with
        | zero => intro k; rfl
        | succ n ih => intro k; simp [sqI, ih]
      simp [hl]
  | succ m ih =>
    intro n k
    cases n with
    | zero => simp [sqI]
    | succ n =>
      have : k + 1 ≤ k + ((m + 1 : Nat) : Int) := by omega
      rw [sqI, List.dropWhile_cons_of_pos (by simpa using this), show k + ((m + 1 : Nat) : Int) = (k + 1) + (m : Int) by omega, ih n (k + 1)]
      omega
theorem qOf_marks (l : List OpE) : ∀ n : Nat, (qOf 1 n l).map (·.1) = sqI l.length (n : Int) := by
  induction l with
  | nil => intro n; rfl
  | cons o l ih =>
    intro n
    have := ih (n + 1)
    simp only [qOf, List.map_cons, List.length_cons, sqI, this, Int.mul_one]
    simp
theorem dropQ_marks (l : List (Int × OpE)) (m : Int) : (dropQ l m).map (·.1) = (l.map (·.1)).dropWhile (fun x => decide (x ≤ m)) := by
  unfold dropQ
  induction l with
  | nil => rfl
  | cons x l ih =>
    by_cases h : x.1 ≤ m
    · rw [List.dropWhile_cons_of_pos (by simpa using h), List.map_cons, List.dropWhile_cons_of_pos (by simpa using h), ih]
    · rw [List.dropWhile_cons_of_neg (by simpa using h), List.map_cons, List.dropWhile_cons_of_neg (by simpa using h)]
theorem cross_marks (p : Sp) (o : OpE) : (crossS p o).q.map (·.1) = p.q.map (·.1) := by
  unfold crossS
  split
  · exact thrQ_m _ _ _
  · rfl
/-- How many are left behind DropTo. -/
theorem left_len (f : Bool) (L : List OpE) (o : OpE) (m : Nat) : (dropS (crossS (fillP f 1 L) o) (m : Int)).q.length = L.length - m := by
  have h1 : ((dropS (crossS (fillP f 1 L) o) (m : Int)).q.map (·.1)).length = L.length - m := by
    simp only [dropS]
    rw [dropQ_marks, cross_marks]
    show (((qOf 1 0 L).map (·.1)).dropWhile _).length = _
    rw [qOf_marks]
    have := sqI_drop m L.length (((0 : Nat) : Int))
    rw [show (((0 : Nat) : Int)) + (m : Int) = (m : Int) by omega] at this
    exact this
  simpa using h1

abbrev opz : OpE := ⟨1, 3, 122, 1, 1⟩
theorem valid_opz : validP opz = 0 := by decide
theorem fill_front (L : List OpE) : (fillP true 1 (L ++ [opz])).q.take L.length = (fillP false 1 L).q := by
  show (qOf 1 0 (L ++ [opz])).take L.length = qOf 1 0 L
  rw [qOf_snoc]
  have := qOf_len 1 L 0
  rw [← this, List.take_left]
theorem fill_last (L : List OpE) : (fillP true 1 (L ++ [opz])).q[L.length]? = some ((L.length : Int) + 1, opz) := by
  show (qOf 1 0 (L ++ [opz]))[L.length]? = _
  rw [qOf_snoc, List.getElem?_append_right (by rw [qOf_len]; exact Nat.le_refl _), qOf_len]
  simp
theorem fill_len (f : Bool) (L : List OpE) : (fillP f 1 L).q.length = L.length := qOf_len 1 L 0

/-! ### The objects -/
def mkO (g n c : Nat) (xs : List (Int × OpE)) : Thg := fun w S => RowF mkd 6 w g n c 39 xs ∧ ∀ k, S k ↔ k = g
theorem frm_mk (g n c : Nat) (xs : List (Int × OpE)) : Frm (mkO g n c xs) :=
  ⟨fun w w' S T h hF hS => ⟨h.1.fr hF (hS g ((h.2 g).2 rfl)), h.2⟩, fun w S h k hk => by rw [(h.2 k).1 hk]; exact h.1.lt⟩
def kO (v : Value) (xs : List (Int × OpE)) : Thg := fun w S => ∃ β, SF mkd 6 w 39 β v xs ∧ ∀ k, S k ↔ β = some k
theorem frm_k (v : Value) (xs : List (Int × OpE)) : Frm (kO v xs) :=
  ⟨fun w w' S T h hF hS => by
    obtain ⟨β, h1, h2⟩ := h
    exact ⟨β, h1.fr hF (fun g hg => hS g ((h2 g).2 hg)), h2⟩, fun w S h k hk => by
    obtain ⟨β, h1, h2⟩ := h
    exact h1.lt k ((h2 k).1 hk)⟩
def famO (g n : Nat) (xs : List (Int × OpE)) (g' n' c' : Nat) (ys : List (Int × OpE)) : Thg := fun w S => (∃ c, RowF mkd 6 w g n c 39 xs) ∧ RowF mkd 6 w g' n' c' 39 ys ∧ ∀ k, S k ↔ (k = g ∨ k = g')
theorem frm_fam (g n : Nat) (xs : List (Int × OpE)) (g' n' c' : Nat) (ys : List (Int × OpE)) : Frm (famO g n xs g' n' c' ys) :=
  ⟨fun w w' S T h hF hS => by
    obtain ⟨⟨c, h1⟩, h2, h3⟩ := h
    exact ⟨⟨c, h1.fr hF (hS _ ((h3 _).2 (.inl rfl)))⟩, h2.fr hF (hS _ ((h3 _).2 (.inr rfl))), h3⟩, fun w S h k hk => by
    obtain ⟨⟨c, h1⟩, h2, h3⟩ := h
    rcases (h3 k).1 hk with rfl | rfl
    · exact h1.lt
    · exact h2.lt⟩

/-- An operation in a block of its own. -/
def opO (g : Nat) (o : OpE) : Thg := fun w S => w.heap[g]? = some (.cells #[.int .i64 o.kind, .int .i64 o.pos, .int .u8 o.ch, .int .i64 o.cl, .int .i64 o.sq] 29 (0, 0)) ∧ ∀ k, S k ↔ k = g
theorem frm_op (g : Nat) (o : OpE) : Frm (opO g o) :=
  ⟨fun w w' S T h hF hS => ⟨hF.keeps h.1 (hS g ((h.2 g).2 rfl)), h.2⟩, fun w S h k hk => by rw [(h.2 k).1 hk]; exact block_lt h.1⟩
/-- Seven objects. -/
def F6 (o a b c d e f : Thg) : Nat → Thg := fun j => if j = 0 then a else if j = 1 then b else if j = 2 then c else if j = 3 then d else if j = 4 then e else if j = 5 then f else if j = 6 then o else noObj
section
variable {o a b c d e f G : Thg}
theorem F6_0 : setO (F6 o a b c d e f) 0 G = F6 o G b c d e f := by funext j; unfold setO F6; by_cases h : j = 0 <;> simp [h]
theorem F6_1 : setO (F6 o a b c d e f) 1 G = F6 o a G c d e f := by
  funext j; unfold setO F6
  by_cases h : j = 1
  · subst h; simp
  · simp [h]
theorem F6_2 : setO (F6 o a b c d e f) 2 G = F6 o a b G d e f := by
  funext j; unfold setO F6
  by_cases h : j = 2
  · subst h; simp
  · simp [h]
theorem F6_3 : setO (F6 o a b c d e f) 3 G = F6 o a b c G e f := by
  funext j; unfold setO F6
  by_cases h : j = 3
  · subst h; simp
  · simp [h]
theorem F6_4 : setO (F6 o a b c d e f) 4 G = F6 o a b c d G f := by
  funext j; unfold setO F6
  by_cases h : j = 4
  · subst h; simp
  · simp [h]
theorem F6_5 : setO (F6 o a b c d e f) 5 G = F6 o a b c d e G := by
  funext j; unfold setO F6
  by_cases h : j = 5
  · subst h; simp
  · simp [h]
theorem F6_nil : setO (fun _ => noObj) 6 o = F6 o noObj noObj noObj noObj noObj noObj := by
  funext j; unfold setO F6
  by_cases h : j = 6
  · subst h; simp
  · simp [h]
end

section
variable {w0 w w' : World} {K : Nat → Prop} {F : Nat → Thg} {x : Nat} {p : Sp} {g n c : Nat} {xs : List (Int × OpE)}

theorem MO.row (h : MO w0 w K F) (i : Nat) (hi : F i = mkO g n c xs) : RowF mkd 6 w g n c 39 xs := by
  obtain ⟨S, h1, -⟩ := h.now i
  rw [hi] at h1
  exact h1.1
theorem MO.isK (h : MO w0 w K F) (i : Nat) (hi : F i = mkO g n c xs) : IsK w (some ⟨g, 0, none⟩) n c xs := (h.row i hi).isK
theorem MO.op {o : OpE} (h : MO w0 w K F) (i : Nat) (hi : F i = opO g o) : w.heap[g]? = some (.cells #[.int .i64 o.kind, .int .i64 o.pos, .int .u8 o.ch, .int .i64 o.cl, .int .i64 o.sq] 29 (0, 0)) := by
  obtain ⟨S, h1, -⟩ := h.now i
  rw [hi] at h1
  exact h1.1
theorem MO.sp (h : MO w0 w K F) (i : Nat) (hi : F i = spO x p) : ∃ S, SpAt w x p S := by
  obtain ⟨S, h1, -⟩ := h.now i
  rw [hi] at h1
  exact ⟨S, h1⟩
/-- Queue, its answer an object. -/
theorem mo_queueO (h : MO w0 w K F) (i j : Nat) (hi : F i = spO x p) (hn : p.q.length = n) :
    Calls Tryd.prog 10 #[.pointer (some ⟨x, 0, none⟩)] w fun e w' => ∃ g c, e = .returned (.slice (some ⟨g, 0, none⟩) n c) ∧ Hid (MO w0 w' K (setO F j (mkO g n c p.q))) := by
  obtain ⟨S, hS⟩ := h.sp i hi
  refine (queue_row x p S w hS).mono ?_
  rintro e w' ⟨g, c, rfl, hR⟩
  rw [hn] at hR ⊢
  exact ⟨g, c, rfl, h.put j (frm_mk _ _ _ _) (S' := fun k => k = g) ⟨hR.out.1, fun k => Iff.rfl⟩ (fun k hk => by subst hk; exact hR.out.2.1) hR.out.2.2⟩
/-- Queue, its answer looked at. -/
theorem mo_queueL (h : MO w0 w K F) (i : Nat) (hi : F i = spO x p) (hn : p.q.length = n) :
    Calls Tryd.prog 10 #[.pointer (some ⟨x, 0, none⟩)] w fun e w' => ∃ g c, e = .returned (.slice (some ⟨g, 0, none⟩) n c) ∧ Hid (IsK w' (some ⟨g, 0, none⟩) n c p.q ∧ MO w0 w' K F) := by
  obtain ⟨S, hS⟩ := h.sp i hi
  refine (queue_row x p S w hS).mono ?_
  rintro e w' ⟨g, c, rfl, hR⟩
  rw [hn] at hR ⊢
  exact ⟨g, c, rfl, hR.out.1.isK, h.below hR.out.2.2⟩
theorem mo_queues (h : MO w0 w K F) {a1 a2 : Option Addr} {c1 c2 : Nat} (h1 : IsK w a1 n c1 xs) (h2 : IsK w a2 n c2 xs) :
    Calls Tryd.prog 15 #[.slice a1 n c1, .slice a2 n c2] w fun e w' => e = .returned (.bool true) ∧ Hid (MO w0 w' K F) := by
  refine (queues_true a1 a2 n c1 c2 xs w h1 h2).mono ?_
  rintro e w' ⟨rfl, hb⟩
  exact ⟨rfl, h.below hb⟩
/-- An element written. -/
theorem mo_mark (h : MO w0 w K F) (i : Nat) (hi : F i = mkO g n c xs) (k : Nat) (hk : k < n) (v : Int) : MO w0 (Go.Proofs.YtmbnimlibnheeaaDoor.set6 w g (k * 6) v 0 0 0 0 0) K (setO F i (mkO g n c (xs.set k (mz v)))) := by
  obtain ⟨S, h1, h2⟩ := h.now i
  rw [hi] at h1
  exact (h2 _ _ S (frm_mk _ _ _ _) ⟨h1.1.set6 k v 0 0 0 0 0 hk, h1.2⟩ (fun k hk => .inl hk) ((Fr.set6 w g (k * 6) v 0 0 0 0 0).mono (fun j _ hj => (h1.2 j).2 hj))).1
/-- An element appended: to a list that grows. -/
theorem mo_kpush (h : MO w0 w K F) (i : Nat) {v : Value} (hi : F i = kO v xs) (m : Int) (k p' cc q s : Int) (hn : xs.length ≤ 1000) :
    ∃ v' w', (∀ ty, (Builtin.append_ #[30, 30] ty #[v, .slice (some ⟨w.heap.size, 0, none⟩) 1 1]).run Tryd.prog (w.alloc (.cells #[.int .i64 m, .int .i64 k, .int .i64 p', .int .u8 cc, .int .i64 q, .int .i64 s] 39)) = .ok v' w') ∧ MO w0 w' K (setO F i (kO v' (xs ++ [(m, ⟨k, p', cc, q, s⟩)]))) := by
  have b1 : Below w.heap.size w (w.alloc (.cells #[.int .i64 m, .int .i64 k, .int .i64 p', .int .u8 cc, .int .i64 q, .int .i64 s] 39)) := (Below.refl _ _).alloc (Nat.le_refl _) _
  obtain ⟨S, h1, h2⟩ := (h.below b1).now i
  rw [hi] at h1
  obtain ⟨β, h3, h4⟩ := h1
  obtain ⟨v', w', hr, g', hS, hN⟩ := push_mk _ β v xs h3 w.heap.size (m, ⟨k, p', cc, q, s⟩) (heap_alloc_new _ _) (by omega)
  refine ⟨v', w', hr, (h2 _ w' (fun k => k = g') (frm_k _ _) ⟨some g', hS, fun k => ⟨fun h => by rw [h], fun h => by injection h with h; exact h.symm⟩⟩ (fun k hk => ?_) ?_).1⟩
  · subst hk
    rcases hN with ⟨e, -⟩ | ⟨e, -⟩
    · exact .inl ((h4 _).2 e)
    · exact .inr (by omega)
  · rcases hN with ⟨e, hF⟩ | ⟨e, hF⟩
    · exact hF.mono (fun k _ hk => by subst hk; exact (h4 _).2 e)
    · exact hF.mono (fun k _ hk => hk.elim)
/-- An element appended to a list that is kept. -/
theorem mo_fam (h : MO w0 w K F) (i : Nat) (hi : F i = mkO g n c xs) (v : Int) (hn : n ≤ 1000) :
    ∃ g' c' w', (∀ ty, (Builtin.append_ #[30, 30] ty #[.slice (some ⟨g, 0, none⟩) n c, .slice (some ⟨w.heap.size, 0, none⟩) 1 1]).run Tryd.prog (w.alloc (.cells #[.int .i64 v, .int .i64 0, .int .i64 0, .int .u8 0, .int .i64 0, .int .i64 0] 39)) = .ok (.slice (some ⟨g', 0, none⟩) (n + 1) c') w') ∧ MO w0 w' K (setO F i (famO g n xs g' (n + 1) c' (xs ++ [mz v]))) := by
  have b1 : Below w.heap.size w (w.alloc (.cells #[.int .i64 v, .int .i64 0, .int .i64 0, .int .u8 0, .int .i64 0, .int .i64 0] 39)) := (Below.refl _ _).alloc (Nat.le_refl _) _
  obtain ⟨S, h1, h2⟩ := (h.below b1).now i
  rw [hi] at h1
  have hl := h1.1.caps.1
  obtain ⟨v', w', hr, g', hS, hN⟩ := push_mk _ (some g) (.slice (some ⟨g, 0, none⟩) n c) xs ⟨c, by rw [hl], by rw [hl]; exact h1.1⟩ w.heap.size (mz v) (heap_alloc_new _ _) (by omega)
  obtain ⟨c', rfl, hR⟩ := hS
  have hl2 : (xs ++ [mz v]).length = n + 1 := by simp [hl]
  rw [hl2] at hr hR
  have hold : ∃ c, RowF mkd 6 w' g n c 39 xs := by
    rcases hN with ⟨e, hF⟩ | ⟨e, hF⟩
    · injection e with e
      subst e
      exact ⟨c', RowF.front sz_mkd hR hl⟩
    · exact ⟨c, h1.1.fr hF (fun h => h)⟩
  refine ⟨g', c', w', hr, (h2 _ w' (fun k => k = g ∨ k = g') (frm_fam _ _ _ _ _ _ _) ⟨hold, hR, fun k => Iff.rfl⟩ (fun k hk => ?_) ?_).1⟩
  · rcases hk with rfl | rfl
    · exact .inl ((h1.2 _).2 rfl)
    · rcases hN with ⟨e, -⟩ | ⟨e, -⟩
      · injection e with e
        exact .inl ((h1.2 _).2 e.symm)
      · exact .inr (Nat.le_of_eq e.symm)
  · rcases hN with ⟨e, hF⟩ | ⟨e, hF⟩
    · injection e with e
      exact hF.mono (fun k _ hk => (h1.2 k).2 (by rw [hk, e]))
    · exact hF.mono (fun k _ hk => hk.elim)
theorem MO.fam {g' n' c' : Nat} {ys : List (Int × OpE)} (h : MO w0 w K F) (i : Nat) (hi : F i = famO g n xs g' n' c' ys) : (∃ c, RowF mkd 6 w g n c 39 xs) ∧ RowF mkd 6 w g' n' c' 39 ys := by
  obtain ⟨S, h1, -⟩ := h.now i
  rw [hi] at h1
  exact ⟨h1.1, h1.2.1⟩
theorem mo_twice {x y : Nat} {p q : Sp} (h : MO w0 w K F) (i j : Nat) (hi : F i = spO x p) (hj : F j = spO y q) (hp : p.q.length ≤ 100) (hq : q.q.length ≤ 100) :
    Calls Tryd.prog 20 #[.pointer (some ⟨x, 0, none⟩), .pointer (some ⟨y, 0, none⟩)] w fun e w' => e = .returned (.bool true) ∧ Hid (MO w0 w' K F) := by
  obtain ⟨S1, h1⟩ := h.sp i hi
  obtain ⟨S2, h2⟩ := h.sp j hj
  refine (twice_any x y p q S1 S2 w h1 h2 hp hq).mono ?_
  rintro e w' ⟨rfl, hb⟩
  exact ⟨rfl, h.below hb.out⟩
end

end Go.Proofs.YtmbnimlibnheeaaDoor
