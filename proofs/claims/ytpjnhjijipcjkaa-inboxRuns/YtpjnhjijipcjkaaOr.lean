/-
  What InboxOrder has: two inboxes, three lists, the array seen; what Held answers, by its places.
-/
import Derived.Test.YtpjnhjijipcjkaaLk
import Derived.Test.YtpjnhjijipcjkaaSc
import Derived.Test.YtpjnhjijipcjkaaOc
namespace Go.Proofs.Ytpjnhjijipcjkaa
open Go.RowKit
set_option linter.unusedVariables false

theorem mergeSort_of_sorted {l : List Int} (h : l.Pairwise (fun a b => a < b)) : l.mergeSort leI = l :=
  List.mergeSort_of_pairwise (h.imp (fun h => by simp only [leI, decide_eq_true_eq]; omega))

/-- Held, by the places: the numbers from c + 1 on that are held. -/
theorem held_filter {p : Ib} (h : p.ok) : heldL p = ((List.range' (p.c + 1) p.R).filter (fun k => hasK p.H k)).map (fun k : Nat => (k : Int)) := by
  have hs : (((List.range' (p.c + 1) p.R).filter (fun k => hasK p.H k)).map (fun k : Nat => (k : Int))).Pairwise (fun a b => a < b) := by
    refine List.pairwise_map.2 (List.Pairwise.imp (fun {a b} h => by omega) (List.Pairwise.filter _ (List.pairwise_lt_range' (s := p.c + 1) (n := p.R))))
  rw [← mergeSort_of_sorted hs]
  unfold heldL
  refine mergeSort_of_perm_i ?_
  refine (List.perm_ext_iff_of_nodup ?_ ?_).2 fun x => ?_
  · exact List.pairwise_map.2 (h.once.imp (fun h e => h (by omega)))
  · exact hs.imp (fun h e => by omega)
  · rw [List.mem_map, List.mem_map]
    constructor
    · rintro ⟨q, hq, rfl⟩
      have := h.key q hq
      exact ⟨q.1, List.mem_filter.2 ⟨List.mem_range'_1.2 (by omega), hasK_mem (v := q.2) hq⟩, rfl⟩
    · rintro ⟨k, hk, rfl⟩
      obtain ⟨v, hv⟩ := hasK_true (List.mem_filter.1 hk).2
      exact ⟨_, hv, rfl⟩

/-- The array seen at block g. -/
structure SeenK (w : World) (g : Nat) (B : Nat → Bool) (cur : Array Value) : Prop where
  blk : w.heap[g]? = some (.cells cur 59 (0, 0))
  size : cur.size = 21
  b : ∀ i, i < 21 → cur[i]? = some (.bool (B i))
def seenO (g : Nat) (B : Nat → Bool) : Thg := fun w S => (∃ cur, SeenK w g B cur) ∧ S g ∧ ∀ k, S k → k < w.heap.size
theorem frm_seen (g : Nat) (B : Nat → Bool) : Frm (seenO g B) :=
  ⟨fun w w' S T h hF hS => by
    obtain ⟨⟨cur, h⟩, h1, h2⟩ := h
    exact ⟨⟨cur, hF.keeps h.blk (hS g h1), h.size, h.b⟩, h1, fun k hk => Nat.lt_of_lt_of_le (h2 k hk) hF.size⟩, fun w S h => h.2.2⟩

def FR (x : Nat) (p : Ib) (y : Nat) (q : Ib) (vl : Value) (l : List Int) (g : Nat) (B : Nat → Bool) : Nat → Thg
  | 0 => inO x p
  | 1 => inO y q
  | 2 => rowO vl l
  | 3 => seenO g B
  | _ => noObj
section
variable {x : Nat} {p p' : Ib} {y : Nat} {q q' : Ib} {vl vl' : Value} {l l' : List Int} {g : Nat} {B B' : Nat → Bool}
theorem FR_0 : setO (FR x p y q vl l g B) 0 (inO x p') = FR x p' y q vl l g B := by
  funext j
  rcases j with _ | _ | _ | _ | j <;> simp [setO, FR]
theorem FR_1 : setO (FR x p y q vl l g B) 1 (inO y q') = FR x p y q' vl l g B := by
  funext j
  rcases j with _ | _ | _ | _ | j <;> simp [setO, FR]
theorem FR_2 : setO (FR x p y q vl l g B) 2 (rowO vl' l') = FR x p y q vl' l' g B := by
  funext j
  rcases j with _ | _ | _ | _ | j <;> simp [setO, FR]
theorem FR_3 : setO (FR x p y q vl l g B) 3 (seenO g B') = FR x p y q vl l g B' := by
  funext j
  rcases j with _ | _ | _ | _ | j <;> simp [setO, FR]

variable {w0 w : World} {K : Nat → Prop}
theorem or_put0 (h : MO w0 w K (FR x p y q vl l g B)) (n z : Int) : Calls Try.prog 14 #[.pointer (some ⟨x, 0, none⟩), .int .i64 n, .int .i64 z] w fun e w' => e = .returned (.int .i64 (iputE p n)) ∧ MO w0 w' K (FR x (iputS p n (.int .i64 z)) y q vl l g B) := by
  refine (mi_put h 0 rfl n z).mono ?_
  rintro e w' ⟨rfl, h1, -⟩
  rw [FR_0] at h1
  exact ⟨rfl, h1⟩
theorem or_put1 (h : MO w0 w K (FR x p y q vl l g B)) (n z : Int) : Calls Try.prog 14 #[.pointer (some ⟨y, 0, none⟩), .int .i64 n, .int .i64 z] w fun e w' => e = .returned (.int .i64 (iputE q n)) ∧ MO w0 w' K (FR x p y (iputS q n (.int .i64 z)) vl l g B) := by
  refine (mi_put h 1 rfl n z).mono ?_
  rintro e w' ⟨rfl, h1, -⟩
  rw [FR_1] at h1
  exact ⟨rfl, h1⟩
theorem or_pop0 (h : MO w0 w K (FR x p y q vl l g B)) : Calls Try.prog 16 #[.pointer (some ⟨x, 0, none⟩)] w fun e w' => e = .returned (.int .i64 (itossE p)) ∧ MO w0 w' K (FR x (ipopS p) y q vl l g B) := by
  refine (mi_pop h 0 rfl).mono ?_
  rintro e w' ⟨rfl, h1, -⟩
  rw [FR_0] at h1
  exact ⟨rfl, h1⟩
theorem or_pop1 (h : MO w0 w K (FR x p y q vl l g B)) : Calls Try.prog 16 #[.pointer (some ⟨y, 0, none⟩)] w fun e w' => e = .returned (.int .i64 (itossE q)) ∧ MO w0 w' K (FR x p y (ipopS q) vl l g B) := by
  refine (mi_pop h 1 rfl).mono ?_
  rintro e w' ⟨rfl, h1, -⟩
  rw [FR_1] at h1
  exact ⟨rfl, h1⟩
theorem or_seen (h : MO w0 w K (FR x p y q vl l g B)) : ∃ cur, SeenK w g B cur := by
  obtain ⟨S, ⟨h1, -⟩, -⟩ := h.now 3
  exact h1
theorem or_row (h : MO w0 w K (FR x p y q vl l g B)) : IsL w vl l := by
  obtain ⟨S, ⟨β, h1, -⟩, -⟩ := h.now 2
  exact h1.isL
theorem SeenK.cell {w : World} {g : Nat} {B : Nat → Bool} {cur : Array Value} (h : SeenK w g B cur) {i : Nat} (hi : i < 21) : w.cell? ⟨g, i, none⟩ = some (.bool (B i)) := (cell_row h.blk i).trans (h.b i hi)
theorem or_set (h : MO w0 w K (FR x p y q vl l g B)) {i : Nat} (hi : i < 21) (b : Bool) : MO w0 (w.setCell ⟨g, i, none⟩ (.bool b)) K (FR x p y q vl l g (upd B i b)) := by
  obtain ⟨S, ⟨⟨cur, hK⟩, hg, hS⟩, h3⟩ := h.now 3
  have hF : Fr (· = g) w (w.setCell ⟨g, i, none⟩ (.bool b)) := Fr.setCell _ _ _ rfl
  have hs := hK.size
  have hK2 : SeenK (w.setCell ⟨g, i, none⟩ (.bool b)) g (upd B i b) (cur.setIfInBounds i (.bool b)) := by
    refine ⟨set_row hK.blk _ _, by simp [hs], fun j hj => ?_⟩
    by_cases e : j = i
    · subst e
      rw [Array.getElem?_setIfInBounds_self_of_lt (by omega)]
      simp [upd]
    · rw [Array.getElem?_setIfInBounds_ne (by omega), hK.b j hj]
      simp [upd, e]
  have := (h3 (seenO g (upd B i b)) _ S (frm_seen _ _) ⟨⟨_, hK2⟩, hg, fun k hk => Nat.lt_of_lt_of_le (hS k hk) hF.size⟩ (fun k hk => .inl hk) (hF.mono (fun k _ hk => by rw [hk]; exact hg))).1
  rw [FR_3] at this
  exact this
theorem or_grow (h : MO w0 w K (FR x p y q vl l g B)) (b : Nat) (z : Int) (hb : w.heap[b]? = some (.cells #[.int .i64 z] 3 (0, 0))) (hn : l.length ≤ 100000) :
    ∃ v' w', (∀ ty, (Builtin.append_ #[22, 22] ty #[vl, .slice (some ⟨b, 0, none⟩) 1 1]).run Try.prog w = .ok v' w') ∧ MO w0 w' K (FR x p y q v' (l ++ [z]) g B) := by
  obtain ⟨S, ⟨β, h1, h2, h3⟩, h4⟩ := h.now 2
  obtain ⟨v', w', hr, hN⟩ := push_int w β vl l h1 b z hb hn
  obtain ⟨g', h5, h6, h7⟩ := hN.out
  have hlt := h5.lt g' rfl
  obtain ⟨h8, -⟩ := h4 (rowO v' (l ++ [z])) w' (fun k => k < w'.heap.size ∧ (S k ∨ k = g')) (frm_row _ _) ⟨some g', h5, fun k hk => by injection hk with hk; subst hk; exact ⟨hlt, .inr rfl⟩, fun k hk => hk.1⟩ (fun k hk => by
    rcases hk.2 with hk | rfl
    · exact .inl hk
    · rcases h6 with h6 | h6
      · exact .inl (h2 _ h6)
      · exact .inr (by omega)) (h7.mono (fun k _ hk => h2 k hk))
  rw [FR_2] at h8
  exact ⟨v', w', hr, h8⟩
end

/-- What an inbox of InboxOrder holds: of the numbers from n on those of B, each with a hundred more. -/
structure OR (B : Nat → Bool) (n : Nat) (p : Ib) : Prop where
  r : p.R = 20
  c : p.c + 1 = n
  has : ∀ m, n ≤ m → m ≤ 20 → hasK p.H m = B m
  far : ∀ m, 20 < m → hasK p.H m = false
  val : ∀ m, n ≤ m → m ≤ 20 → hasK p.H m = true → atK p.H m iz = .int .i64 (100 + (m : Int))

theorem OR.pop {B : Nat → Bool} {n : Nat} {p : Ib} (h : OR B n p) (hn : n ≤ 20) (hB : B n = true) : p.hd = true ∧ atK p.H (p.c + 1) iz = .int .i64 (100 + (n : Int)) ∧ OR B (n + 1) (ipopS p) := by
  have hc := h.c
  have hh : p.hd = true := by
    unfold Ib.hd
    rw [hc, h.has n (Nat.le_refl _) hn, hB]
  refine ⟨hh, by rw [hc]; exact h.val n (Nat.le_refl _) hn (by rw [h.has n (Nat.le_refl _) hn, hB]), ?_⟩
  rw [ipopS, if_pos hh]
  refine ⟨h.r, by simp only; omega, fun m h1 h2 => ?_, fun m h1 => ?_, fun m h1 h2 h3 => ?_⟩
  · simp only [hasK_cut]
    rw [h.has m (by omega) h2]
    simp
    omega
  · simp only [hasK_cut]
    rw [h.far m h1]
    simp
  · simp only [hasK_cut] at h3 ⊢
    rw [atK_cut (by omega)]
    exact h.val m (by omega) h2 (by simp at h3; exact h3.1)
theorem OR.held {B : Nat → Bool} {n : Nat} {p q : Ib} (h : OR B n p) (h' : OR B n q) (hp : p.ok) (hq : q.ok) : heldL p = heldL q := by
  rw [held_filter hp, held_filter hq, h.r, h'.r, show p.c = q.c by have := h.c; have := h'.c; omega]
  congr 1
  refine List.filter_congr fun m hm => ?_
  rw [List.mem_range'_1] at hm
  have := h'.c
  by_cases h20 : m ≤ 20
  · rw [h.has m (by omega) h20, h'.has m (by omega) h20]
  · rw [h.far m (by omega), h'.far m (by omega)]

/-- The things of the list ls, put. -/
structure OL (ls : List Nat) (p : Ib) : Prop where
  r : p.R = 20
  c : p.c = 0
  has : ∀ m, hasK p.H m = decide (m ∈ ls)
  val : ∀ m, hasK p.H m = true → atK p.H m iz = .int .i64 (100 + (m : Int))
theorem OL.put {ls : List Nat} {p : Ib} (h : OL ls p) (m : Nat) (h1 : 1 ≤ m) (h2 : m ≤ 20) (hm : m ∉ ls) : iputE p m = 0 ∧ OL (ls ++ [m]) (iputS p m (.int .i64 (100 + (m : Int)))) := by
  have hh : hasK p.H m = false := by rw [h.has]; simpa using hm
  have hE : iputE p m = 0 := by
    unfold iputE
    rw [if_neg (by omega), Int.toNat_natCast, if_neg (by rw [hh, h.c]; simp; omega), if_neg (by rw [h.c, h.r]; omega)]
  refine ⟨hE, ?_⟩
  rw [iputS, if_pos hE, Int.toNat_natCast]
  refine ⟨h.r, h.c, fun k => ?_, fun k hk => ?_⟩
  · simp only [hasK_snoc, h.has]
    simp
  · simp only [hasK_snoc, atK_snoc hh] at hk ⊢
    by_cases e : k = m
    · simp [e]
    · simp only [e, if_false]
      exact h.val k (by simpa [e] using hk)
theorem OL.or {ls : List Nat} {p : Ib} {B : Nat → Bool} (h : OL ls p) (hB : ∀ m, 1 ≤ m → m ≤ 20 → B m = decide (m ∈ ls)) (hl : ∀ m ∈ ls, 1 ≤ m ∧ m ≤ 20) : OR B 1 p :=
  ⟨h.r, by rw [h.c], fun m h1 h2 => by rw [h.has, hB m h1 h2], fun m h1 => by rw [h.has]; simp; intro h2; have := hl m h2; omega, fun m _ _ h3 => h.val m h3⟩

/-- The numbers of B from 1 to m, rising. -/
def fl (B : Nat → Bool) (m : Nat) : List Nat := (List.range' 1 m).filter (fun k => B k)
theorem fl_succ (B : Nat → Bool) (m : Nat) : fl B (m + 1) = fl B m ++ (if B (m + 1) then [m + 1] else []) := by
  unfold fl
  rw [List.range'_concat, List.filter_append]
  simp [List.filter_cons, Nat.add_comm]
theorem fl_pre (B : Nat → Bool) {m k : Nat} (h : m ≤ k) : ∃ t, fl B k = fl B m ++ t := by
  induction k with
  | zero =>
    obtain rfl : m = 0 := by omega
    exact ⟨[], by simp⟩
  | succ k ih =>
    by_cases e : m = k + 1
    · subst e; exact ⟨[], by simp⟩
    · obtain ⟨t, ht⟩ := ih (by omega)
      exact ⟨t ++ (if B (k + 1) then [k + 1] else []), by rw [fl_succ, ht, List.append_assoc]⟩
theorem fl_at (B : Nat → Bool) {m : Nat} (hm : m + 1 ≤ 20) (hB : B (m + 1) = true) : (fl B m).length < (fl B 20).length ∧ (fl B 20)[(fl B m).length]? = some (m + 1) := by
  obtain ⟨t, ht⟩ := fl_pre B hm
  rw [fl_succ B m, if_pos hB] at ht
  rw [ht]
  constructor
  · simp
  · simp
theorem OR.fl {B : Nat → Bool} {p : Ib} (h : OR B 1 p) (hp : p.ok) : heldL p = (fl B 20).map (fun k : Nat => (k : Int)) := by
  rw [held_filter hp, h.r, show p.c + 1 = 1 from h.c]
  congr 1
  refine List.filter_congr fun m hm => ?_
  rw [List.mem_range'_1] at hm
  rw [h.has m (by omega) (by omega)]

end Go.Proofs.Ytpjnhjijipcjkaa
