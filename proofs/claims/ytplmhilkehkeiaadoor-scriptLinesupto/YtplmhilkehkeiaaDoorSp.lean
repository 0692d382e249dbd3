/-
  Lines of a script, without memory.
-/
import Derived.Lib.Bytealg
namespace Go.Proofs.YtplmhilkehkeiaaDoor
set_option linter.unusedVariables false

abbrev Bs := List UInt8

/-- Ahead of the first space, and behind it. -/
def cut1 : Bs → Option (Bs × Bs)
  | [] => none
  | b :: r => if b = 32 then some ([], r) else (cut1 r).map (fun p => (b :: p.1, p.2))

/-- Cut at the first m spaces. -/
def spl : Nat → Bs → List Bs
  | 0, s => [s]
  | m + 1, s => match cut1 s with
    | none => [s]
    | some p => p.1 :: spl m p.2

/-- Cut at every space. -/
def wordsP (s : Bs) : List Bs := spl s.length s

theorem cut1_len {s : Bs} {p : Bs × Bs} (h : cut1 s = some p) : p.2.length < s.length ∧ p.1.length < s.length ∧ s = p.1 ++ 32 :: p.2 := by
  induction s generalizing p with
  | nil => simp [cut1] at h
  | cons b r ih =>
    rw [cut1] at h
    split at h
    · cases h; rename_i e; subst e; simp
    · cases hc : cut1 r with
      | none => rw [hc] at h; simp at h
      | some q =>
        rw [hc] at h
        simp only [Option.map_some, Option.some.injEq] at h
        subst h
        have := ih hc
        refine ⟨by simp; omega, by simp; omega, ?_⟩
        simp [this.2.2]

theorem spl_none {m : Nat} {s : Bs} (h : cut1 s = none) : spl m s = [s] := by
  cases m with
  | zero => rfl
  | succ m => simp [spl, h]
theorem spl_some {m : Nat} {s : Bs} {p : Bs × Bs} (h : cut1 s = some p) : spl (m + 1) s = p.1 :: spl m p.2 := by simp [spl, h]
theorem spl_zero (s : Bs) : spl 0 s = [s] := rfl

theorem spl_pos (m : Nat) (s : Bs) : 0 < (spl m s).length := by
  cases m with
  | zero => simp [spl]
  | succ m => cases h : cut1 s <;> simp [spl, h]
theorem spl_le (m : Nat) (s : Bs) : (spl m s).length ≤ m + 1 := by
  induction m generalizing s with
  | zero => simp [spl]
  | succ m ih =>
    cases h : cut1 s with
    | none => rw [spl_none h]; simp
    | some p => rw [spl_some h]; have := ih p.2; simp; omega

theorem spl_mem {m : Nat} {s x : Bs} (h : x ∈ spl m s) : x.length ≤ s.length := by
  induction m generalizing s with
  | zero => simp [spl] at h; rw [h]; exact Nat.le_refl _
  | succ m ih =>
    cases hc : cut1 s with
    | none => rw [spl_none hc] at h; simp at h; rw [h]; exact Nat.le_refl _
    | some p =>
      rw [spl_some hc] at h
      have hl := cut1_len hc
      simp only [List.mem_cons] at h
      rcases h with rfl | h
      · omega
      · have := ih h; omega

/-- As many cuts as there are bytes are enough. -/
theorem spl_more (m : Nat) (s : Bs) (h : s.length ≤ m) : spl m s = wordsP s := by
  unfold wordsP
  induction m generalizing s with
  | zero =>
    obtain rfl : s = [] := by simpa using h
    rfl
  | succ m ih =>
    cases hc : cut1 s with
    | none => rw [spl_none hc, spl_none hc]
    | some p =>
      have hl := cut1_len hc
      obtain ⟨k, hk⟩ : ∃ k, s.length = k + 1 := ⟨s.length - 1, by omega⟩
      rw [hk, spl_some hc, spl_some hc]
      have h1 := ih p.2 (by omega)
      rw [h1]
      congr 1
      have : ∀ k, p.2.length ≤ k → spl k p.2 = spl p.2.length p.2 := by
        intro k
        have hm : p.2.length ≤ m := by omega
        clear h1 hk hl hc ih h
        generalize p.2 = t
        induction k generalizing t with
        | zero => intro h; obtain rfl : t = [] := by simpa using h
                  rfl
        | succ k ihk =>
          intro h
          cases hc : cut1 t with
          | none => rw [spl_none hc, spl_none hc]
          | some q =>
            have hl := cut1_len hc
            obtain ⟨j, hj⟩ : ∃ j, t.length = j + 1 := ⟨t.length - 1, by omega⟩
            rw [hj, spl_some hc, spl_some hc, ihk q.2 (by omega)]
            congr 1
            have hind : ∀ (n : Nat) (u : Bs), u.length ≤ n → ∀ j, u.length ≤ j → spl j u = spl u.length u := by
              intro n
              induction n with
              | zero => intro u hu j _; obtain rfl : u = [] := by simpa using hu
                        rw [spl_none rfl, spl_none rfl]
              | succ n ihn =>
                intro u hu j hj
                cases hcu : cut1 u with
                | none => rw [spl_none hcu, spl_none hcu]
                | some y =>
                  have hly := cut1_len hcu
                  obtain ⟨a, ha⟩ : ∃ a, u.length = a + 1 := ⟨u.length - 1, by omega⟩
                  obtain ⟨c, hcj⟩ : ∃ c, j = c + 1 := ⟨j - 1, by omega⟩
                  rw [hcj, ha, spl_some hcu, spl_some hcu, ihn y.2 (by omega) c (by omega), ihn y.2 (by omega) a (by omega)]
            exact (hind j q.2 (by omega) j (by omega)).symm
      exact (this k (by omega)).symm

theorem words_some {s : Bs} {p : Bs × Bs} (h : cut1 s = some p) : wordsP s = p.1 :: wordsP p.2 := by
  have hl := cut1_len h
  obtain ⟨k, hk⟩ : ∃ k, s.length = k + 1 := ⟨s.length - 1, by omega⟩
  unfold wordsP
  rw [hk, spl_some h, spl_more k p.2 (by omega)]
  rfl
theorem words_none {s : Bs} (h : cut1 s = none) : wordsP s = [s] := spl_none h

/-- m cuts are all, or there are m + 1 pieces and more words. -/
theorem spl_or (m : Nat) (s : Bs) : (spl m s = wordsP s ∧ (wordsP s).length ≤ m + 1) ∨ ((spl m s).length = m + 1 ∧ m + 1 < (wordsP s).length) := by
  induction m generalizing s with
  | zero =>
    cases h : cut1 s with
    | none => left; rw [words_none h]; exact ⟨rfl, by simp⟩
    | some p =>
      right
      rw [words_some h]
      have := spl_pos p.2.length p.2
      refine ⟨rfl, ?_⟩
      simp only [List.length_cons]
      unfold wordsP
      omega
  | succ m ih =>
    cases h : cut1 s with
    | none => left; rw [words_none h, spl_none h]; exact ⟨rfl, by simp⟩
    | some p =>
      rw [words_some h, spl_some h]
      rcases ih p.2 with ⟨h1, h2⟩ | ⟨h1, h2⟩
      · left; rw [h1]; exact ⟨rfl, by simp; omega⟩
      · right; simp only [List.length_cons]; omega

/-- The first word. -/
def verbP (s : Bs) : Bs := match cut1 s with
  | none => s
  | some p => p.1
theorem spl_head (m : Nat) (s : Bs) : spl (m + 1) s = verbP s :: (spl (m + 1) s).tail := by
  cases h : cut1 s with
  | none => rw [spl_none h]; simp [verbP, h]
  | some p => rw [spl_some h]; simp [verbP, h]
theorem words_head (s : Bs) : wordsP s = verbP s :: (wordsP s).tail := by
  cases h : cut1 s with
  | none => rw [words_none h]; simp [verbP, h]
  | some p => rw [words_some h]; simp [verbP, h]

/-- The cut and the index. -/
theorem cut1_index (s : Bs) : (cut1 s = none ∧ Lib.indexByte s 32 = -1) ∨ ∃ k : Nat, Lib.indexByte s 32 = k ∧ k < s.length ∧ cut1 s = some (s.take k, s.drop (k + 1)) := by
  induction s with
  | nil => left; exact ⟨rfl, rfl⟩
  | cons b r ih =>
    rw [cut1, Lib.indexByte]
    by_cases hb : b = 32
    · right
      refine ⟨0, by simp [hb], by simp, by simp [hb]⟩
    · have hb' : (b == 32) = false := by simpa using hb
      rw [if_neg hb, hb']
      rcases ih with ⟨h1, h2⟩ | ⟨k, h1, h2, h3⟩
      · left; rw [h1, h2]; exact ⟨rfl, rfl⟩
      · right
        refine ⟨k + 1, ?_, by rw [List.length_cons]; omega, by rw [h3]; simp⟩
        rw [h1]
        have : ((k : Int) == -1) = false := by simp
        simp [this]

/-! ### What the document does: byte by byte -/
/-- n: at most so many pieces (0: as many as there are). -/
def cutD (n : Nat) : List Bs → Bs → Bs → List Bs
  | acc, cur, [] => acc ++ [cur]
  | acc, cur, b :: r => if b = 32 ∧ (n = 0 ∨ acc.length < n - 1) then cutD n (acc ++ [cur]) [] r else cutD n acc (cur ++ [b]) r

theorem cutD_four (acc : List Bs) (cur s : Bs) (m : Nat) (h : acc.length + m = 3) : cutD 4 acc cur s = acc ++ (match spl m s with | [] => [] | x :: r => (cur ++ x) :: r) := by
  induction s generalizing acc cur m with
  | nil => rw [cutD, spl_none rfl]; simp
  | cons b r ih =>
    rw [cutD]
    by_cases hb : b = 32
    · cases m with
      | zero =>
        rw [if_neg (by omega), ih _ _ 0 h, spl_zero, spl_zero]
        simp
      | succ m =>
        rw [if_pos ⟨hb, by omega⟩, ih _ _ m (by simp; omega), spl_some (m := m) (p := ([], r)) (by simp [cut1, hb])]
        cases hs : spl m r with
        | nil => have := spl_pos m r; rw [hs] at this; simp at this
        | cons x t => simp
    · rw [if_neg (by simp [hb]), ih _ _ m h]
      cases m with
      | zero => simp [spl_zero]
      | succ m =>
        cases hc : cut1 r with
        | none => rw [spl_none hc, spl_none (by simp [cut1, hb, hc])]; simp
        | some p => rw [spl_some hc, spl_some (p := (b :: p.1, p.2)) (by simp [cut1, hb, hc])]; simp

theorem cutD_all (acc : List Bs) (cur s : Bs) : cutD 0 acc cur s = acc ++ (match wordsP s with | [] => [] | x :: r => (cur ++ x) :: r) := by
  induction s generalizing acc cur with
  | nil => rw [cutD, words_none rfl]; simp
  | cons b r ih =>
    rw [cutD]
    by_cases hb : b = 32
    · rw [if_pos ⟨hb, .inl rfl⟩, ih, words_some (s := b :: r) (p := ([], r)) (by simp [cut1, hb]), words_head r]
      simp
    · rw [if_neg (by simp [hb]), ih]
      cases hc : cut1 r with
      | none => rw [words_none hc, words_none (by simp [cut1, hb, hc])]; simp
      | some p => rw [words_some hc, words_some (s := b :: r) (p := (b :: p.1, p.2)) (by simp [cut1, hb, hc])]; simp

theorem cutD_0 (s : Bs) : cutD 0 [] [] s = wordsP s := by
  rw [cutD_all, words_head s]; simp
theorem cutD_4 (s : Bs) : cutD 4 [] [] s = spl 3 s := by
  rw [cutD_four [] [] s 3 rfl, spl_head 2 s]; simp

/-! ### Numbers -/
/-- The digits, one by one. -/
def digs : Int → Bs → Option Int
  | n, [] => some n
  | n, b :: r => if b < 48 ∨ 57 < b then none else digs (10 * n + (b.toNat - 48)) r
def numP (s : Bs) : Option Int := if s.length < 1 ∨ 6 < s.length ∨ (1 < s.length ∧ s.head? = some 48) then none else digs 0 s

theorem digs_bound (n : Int) (s : Bs) (v : Int) (k : Nat) (hn : 0 ≤ n) (hb : n < 10 ^ k) (h : digs n s = some v) : 0 ≤ v ∧ v < 10 ^ (k + s.length) := by
  induction s generalizing n k with
  | nil => cases h; exact ⟨hn, by simpa using hb⟩
  | cons b r ih =>
    rw [digs] at h
    split at h
    · cases h
    · rename_i hb'
      have h1 : 48 ≤ b.toNat := by
        have : ¬ b < 48 := fun x => hb' (.inl x)
        rw [UInt8.lt_iff_toNat_lt] at this
        simpa using this
      have h2 : b.toNat ≤ 57 := by
        have : ¬ 57 < b := fun x => hb' (.inr x)
        rw [UInt8.lt_iff_toNat_lt] at this
        simpa using this
      have := ih (10 * n + (b.toNat - 48)) (k + 1) (by omega) (by rw [Int.pow_succ]; omega) h
      rw [show k + (b :: r).length = k + 1 + r.length by simp; omega]
      exact this
theorem num_bound {s : Bs} {v : Int} (h : numP s = some v) : 0 ≤ v ∧ v < 1000000 := by
  unfold numP at h
  split at h
  · cases h
  · have := digs_bound 0 s v 0 (by omega) (by simp) h
    refine ⟨this.1, ?_⟩
    have h6 : s.length ≤ 6 := by omega
    have h3 : (10 : Int) ^ (0 + s.length) ≤ 1000000 := by
      rw [Nat.zero_add]
      generalize s.length = n at h6
      match n, h6 with
      | 0, _ | 1, _ | 2, _ | 3, _ | 4, _ | 5, _ | 6, _ => decide
      | n + 7, h => omega
    omega

/-! ### Bytes in signs -/
def sixteen : Bs := [48, 49, 50, 51, 52, 53, 54, 55, 56, 57, 97, 98, 99, 100, 101, 102]
/-- The value of a sign, or -1. -/
def hexI (b : UInt8) : Int := Lib.indexByte sixteen b
theorem index_lt (l : Bs) (c : UInt8) : Lib.indexByte l c < l.length ∨ l = [] := by
  induction l with
  | nil => right; rfl
  | cons b l ih =>
    left
    rw [Lib.indexByte, List.length_cons]
    split
    · omega
    · split
      · omega
      · rcases ih with ih | ih
        · omega
        · subst ih; simp [Lib.indexByte]
theorem hexI_bd (b : UInt8) : -1 ≤ hexI b ∧ hexI b ≤ 15 := by
  refine ⟨Lib.indexByte_ge _ _, ?_⟩
  rcases index_lt sixteen b with h | h
  · have : (sixteen.length : Int) = 16 := rfl
    unfold hexI; omega
  · cases h
/-- Pairs of signs. -/
def pairs : Bs → Option Bs
  | [] => some []
  | [_] => none
  | a :: b :: r => if hexI a < 0 ∨ hexI b < 0 then none else (pairs r).map (fun t => (16 * hexI a + hexI b).toNat.toUInt8 :: t)
def hexP (s : Bs) : Option Bs := if s = [45] then some [] else if s = [] then none else pairs s

theorem pairs_len {s t : Bs} (h : pairs s = some t) : s.length = 2 * t.length := by
  induction s using pairs.induct generalizing t with
  | case1 => cases h; rfl
  | case2 => cases h
  | case3 a b r hx => rw [pairs, if_pos hx] at h; cases h
  | case4 a b r hx ih =>
    rw [pairs, if_neg hx] at h
    cases hp : pairs r with
    | none => rw [hp] at h; cases h
    | some u =>
      rw [hp] at h
      simp only [Option.map_some, Option.some.injEq] at h
      subst h
      have := ih hp
      simp; omega
/-- All signs may be: what hexSize asks. -/
theorem pairs_some (s : Bs) (h2 : s.length % 2 = 0) : (∃ t, pairs s = some t) ↔ ∀ b ∈ s, 0 ≤ hexI b := by
  induction s using pairs.induct with
  | case1 => simp [pairs]
  | case2 => simp at h2
  | case3 a b r hx =>
    rw [pairs, if_pos hx]
    simp only [List.mem_cons]
    constructor
    · rintro ⟨t, ht⟩; cases ht
    · intro h
      have := h a (.inl rfl)
      have := h b (.inr (.inl rfl))
      omega
  | case4 a b r hx ih =>
    rw [pairs, if_neg hx]
    have := ih (by simp at h2; omega)
    constructor
    · rintro ⟨t, ht⟩
      cases hp : pairs r with
      | none => rw [hp] at ht; cases ht
      | some u =>
        have := this.1 ⟨u, hp⟩
        intro c hc
        simp only [List.mem_cons] at hc
        rcases hc with rfl | rfl | hc
        · omega
        · omega
        · exact this c hc
    · intro h
      obtain ⟨t, ht⟩ := this.2 (fun c hc => h c (by simp [hc]))
      exact ⟨_, by rw [ht]; rfl⟩
theorem pairs_odd (s : Bs) (h2 : s.length % 2 = 1) : pairs s = none := by
  cases h : pairs s with
  | none => rfl
  | some t => have := pairs_len h; omega

/-! ### Entries -/
structure En where
  kind : Int
  site : Int := 0
  a : Int := 0
  b : Int := 0
  c : Int := 0
  ch : Int := 0
  bytes : Bs := []
  err : Int := 0

/-- A word of a line: where it goes (0 site, 1 to 3 the numbers, 4 the character, 5 bytes), from where to where. -/
structure Fl where
  place : Int
  lo : Int
  hi : Int

def fl (k : Int) : List Fl :=
  if k = 1 then [⟨0, 1, 64⟩, ⟨1, 0, 4095⟩, ⟨4, 32, 126⟩]
  else if k = 2 then [⟨0, 1, 64⟩, ⟨1, 0, 4095⟩]
  else if k = 3 then [⟨0, 0, 64⟩]
  else if k = 4 ∨ k = 5 ∨ k = 6 then [⟨1, 0, 2047⟩]
  else if k = 7 then [⟨1, 0, 2047⟩, ⟨2, 0, 63⟩, ⟨3, 1, 255⟩]
  else if k = 10 ∨ k = 12 then [⟨1, 0, 262144⟩, ⟨2, 0, 262144⟩, ⟨3, 0, 255⟩]
  else if k = 13 then [⟨0, 0, 64⟩, ⟨5, 0, 64⟩]
  else []

theorem fl_le (k : Int) : (fl k).length ≤ 3 := by
  unfold fl
  repeat' split
  all_goals simp

def verbsL : List Bs := [[], [105, 110, 115, 101, 114, 116], [100, 101, 108, 101, 116, 101], [116, 105, 99, 107], [100, 101, 108, 105, 118, 101, 114], [100, 114, 111, 112], [100, 111, 117, 98, 108, 101], [102, 108, 105, 112], [97, 108, 108], [114, 111, 117, 110, 100], [99, 114, 97, 115, 104], [98, 111, 111, 116], [115, 116, 117, 109, 98, 108, 101], [102, 111, 114, 103, 101]]
def kAux : Nat → List Bs → Bs → Option Nat
  | _, [], _ => none
  | i, x :: r, v => if x = v then some i else kAux (i + 1) r v
theorem kAux_at (L : List Bs) (v : Bs) (b i : Nat) (h : L[i]? = some v) (hn : ∀ j : Nat, j < i → L[j]? ≠ some v) : kAux b L v = some (b + i) := by
  induction L generalizing b i with
  | nil => simp at h
  | cons x r ih =>
    rw [kAux]
    cases i with
    | zero =>
      rw [if_pos (by simpa using h)]; rfl
    | succ i =>
      have h0 := hn 0 (by omega)
      rw [if_neg (by simpa using h0), ih (b + 1) i (by simpa using h) (fun j hj => by have := hn (j + 1) (by omega); simpa using this)]
      congr 1; omega
theorem kAux_none (L : List Bs) (v : Bs) (b : Nat) (hn : ∀ j : Nat, j < L.length → L[j]? ≠ some v) : kAux b L v = none := by
  induction L generalizing b with
  | nil => rfl
  | cons x r ih =>
    have h0 := hn 0 (by simp)
    rw [kAux, if_neg (by simpa using h0)]
    exact ih (b + 1) (fun j hj => by have := hn (j + 1) (by simpa using hj); simpa using this)
theorem kAux_lt (L : List Bs) (v : Bs) (b i : Nat) (h : kAux b L v = some i) : i < b + L.length := by
  induction L generalizing b with
  | nil => cases h
  | cons x r ih =>
    rw [kAux] at h
    split at h
    · cases h; simp
    · have := ih (b + 1) h
      simp; omega
/-- The kind of a verb; 0: none. -/
def kindP (v : Bs) : Int := (((kAux 0 verbsL v).getD 0 : Nat) : Int)
theorem kind_at (i : Nat) (v : Bs) (h : verbsL[i]? = some v) (hn : ∀ j : Nat, j < i → verbsL[j]? ≠ some v) : kindP v = i := by
  unfold kindP
  rw [kAux_at _ _ _ _ h hn]
  simp
theorem kind_none (v : Bs) (hn : ∀ j : Nat, j < 14 → verbsL[j]? ≠ some v) : kindP v = 0 := by
  unfold kindP
  rw [kAux_none verbsL v 0 hn]
  rfl
theorem kind_bd (v : Bs) : 0 ≤ kindP v ∧ kindP v ≤ 13 := by
  unfold kindP
  cases h : kAux 0 verbsL v with
  | none => simp
  | some i =>
    have := kAux_lt _ _ _ _ h
    have h14 : verbsL.length = 14 := rfl
    simp only [Option.getD_some]
    omega

/-- What a word comes to, or its error. -/
def valP (p : Int) (s : Bs) : Except Int Int :=
  if p = 4 then (if s.length = 1 then .ok ((s.headD 0).toNat : Int) else .error 154)
  else if p = 5 then (match hexP s with | some t => .ok (t.length : Int) | none => .error 156)
  else (match numP s with | some v => .ok v | none => .error 154)

theorem val_cases (p : Int) (s : Bs) : (∃ v, valP p s = .ok v ∧ 0 ≤ v ∧ (v < 1000000 ∨ (p = 5 ∧ 2 * v ≤ s.length))) ∨ ∃ e, valP p s = .error e ∧ (e = 154 ∨ e = 156) := by
  unfold valP
  split
  · split
    · left
      refine ⟨_, rfl, by omega, .inl ?_⟩
      have := (s.headD 0).toNat_lt
      omega
    · right; exact ⟨_, rfl, .inl rfl⟩
  · split
    · rename_i h5
      cases h : hexP s with
      | none => right; exact ⟨_, rfl, .inr rfl⟩
      | some t =>
        left
        refine ⟨_, rfl, by omega, .inr ⟨h5, ?_⟩⟩
        unfold hexP at h
        split at h
        · cases h; simp
        · split at h
          · cases h
          · have := pairs_len h
            omega
    · cases h : numP s with
      | none => right; exact ⟨_, rfl, .inl rfl⟩
      | some v =>
        have := num_bound h
        left; exact ⟨v, rfl, this.1, .inl this.2⟩

/-- The values of all words, or the first error. -/
def valsP : List Fl → List Bs → Except Int (List Int)
  | f :: fs, w :: ws => match valP f.place w with
    | .error e => .error e
    | .ok v => match valsP fs ws with
      | .error e => .error e
      | .ok vs => .ok (v :: vs)
  | _, _ => .ok []

def rangeP : List Fl → List Int → Bool
  | f :: fs, v :: vs => f.lo ≤ v && v ≤ f.hi && rangeP fs vs
  | _, _ => true

def putP (e : En) (f : Fl) (s : Bs) (v : Int) : En :=
  if f.place = 0 then { e with site := v }
  else if f.place = 1 then { e with a := v }
  else if f.place = 2 then { e with b := v }
  else if f.place = 3 then { e with c := v }
  else if f.place = 4 then { e with ch := v }
  else if f.place = 5 then { e with bytes := (hexP s).getD [] }
  else e

def putsP : En → List Fl → List Bs → List Int → En
  | e, f :: fs, w :: ws, v :: vs => putsP (putP e f w v) fs ws vs
  | e, _, _, _ => e

/-- The words behind the verb. -/
def tailP (k : Int) (s : Bs) : List Bs := (if k = 1 then spl 3 s else wordsP s).tail

def restP (k : Int) (ws : List Bs) : En :=
  if ws.length ≠ (fl k).length then { kind := k, err := 154 }
  else match valsP (fl k) ws with
    | .error e => { kind := k, err := e }
    | .ok vs => if rangeP (fl k) vs then putsP { kind := k } (fl k) ws vs else { kind := k, err := 155 }

def lineP (s : Bs) : En := if kindP (verbP s) = 0 then { kind := 0, err := 153 } else restP (kindP (verbP s)) (tailP (kindP (verbP s)) s)

/-- The program's words: no more than one above the form. -/
def tailG (k : Int) (s : Bs) : List Bs := (spl (if k = 1 then 3 else (fl k).length + 1) s).tail
theorem rest_tail (k : Int) (s : Bs) : restP k (tailG k s) = restP k (tailP k s) := by
  unfold tailG tailP
  split
  · rfl
  · rcases spl_or ((fl k).length + 1) s with ⟨h, -⟩ | ⟨h1, h2⟩
    · rw [h]
    · unfold restP
      rw [if_pos (by rw [List.length_tail, h1]; omega), if_pos (by rw [List.length_tail]; omega)]

end Go.Proofs.YtplmhilkehkeiaaDoor
