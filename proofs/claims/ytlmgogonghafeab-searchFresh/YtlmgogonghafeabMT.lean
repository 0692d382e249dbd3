/-
  Texts put together: Fn Ap Tw.
-/
import Derived.Test.YtlmgogonghafeabLy
import Derived.Test.YtlmgogonghafeabRt
import Derived.RegionTactic
import Derived.ChangeAlike
/-! Fn -/
namespace Go.Proofs.Ytlmgogonghafeab
open Go.RowKit Go.Lib
set_option linter.unusedVariables false

def okC (c : UInt8) : Bool := decide (32 ≤ c.toNat ∧ c.toNat ≤ 126)
/-- May these bytes be put into a text? -/
def fillB (b : By) : Bool := b.all okC && decide (b.length ≤ 64)
def patB (b : By) : Bool := decide (b ≠ []) && fillB b
theorem patB_iff (b : By) : patB b = true ↔ 1 ≤ b.length ∧ b.length ≤ 64 ∧ ∀ c ∈ b, 32 ≤ c.toNat ∧ c.toNat ≤ 126 := by
  unfold patB fillB okC
  simp only [Bool.and_eq_true, decide_eq_true_eq, List.all_eq_true]
  constructor
  · rintro ⟨h1, h2, h3⟩
    exact ⟨by have := List.length_pos_iff.2 h1; omega, h3, h2⟩
  · rintro ⟨h1, h2, h3⟩
    exact ⟨fun e => by rw [e] at h1; simp at h1, h3, h2⟩
theorem fillB_iff (b : By) : fillB b = true ↔ b.length ≤ 64 ∧ ∀ c ∈ b, 32 ≤ c.toNat ∧ c.toNat ≤ 126 := by
  unfold fillB okC
  simp only [Bool.and_eq_true, decide_eq_true_eq, List.all_eq_true]
  exact ⟨fun h => ⟨h.2, h.1⟩, fun h => ⟨h.2, h.1⟩⟩
theorem patB_ndP (b : By) : patB (ndP b) = true := (patB_iff _).2 ⟨(ndP_len b).1, (ndP_len b).2, ndP_chars b⟩

theorem gets (s : ByteArray) (k : Nat) (h : k < s.size) : s.data.toList[k]'(by simpa using h) = s[k]'h := by
  simp
  rfl

/-- Within the loop: the iterator stands at place k. -/
def FiS (w : World) (s : ByteArray) (k : Nat) (W : World) : Prop := W.heap[w.heap.size]? = some (.stringIter s k) ∧ Below w.heap.size w W

set_option maxRecDepth 100000 in
set_option maxHeartbeats 4000000 in
theorem filling_any (s : ByteArray) (w : World) (hs : s.size ≤ 9223372036854775807) : Calls Try.prog 27 #[.string s] w fun e w' => e = .returned (.bool (fillB s.data.toList)) ∧ Below w.heap.size w w' := by
  have HS := hd hs
  have HL : Hid (s.data.toList.length = s.size) := by show _ = _; simp
  clear hs
  have S0 : Hid (FiS w s 0 (w.iter s 0)) := ⟨heap_alloc_new w _, (Below.refl _ _).alloc (Nat.le_refl _) _⟩
  go_enter Try.func27, Try.ntmps27
  go_wp2
  generalize w.iter s 0 = w0 at *
  go_loopw [] (fun wr => ∃ k : Nat, k ≤ s.size ∧ Hid (FiS w s k wr ∧ ∀ c ∈ s.data.toList.take k, okC c = true)) (fun wr => s.size - wr.iterPos w.heap.size)
  case atStart => exact ⟨0, Nat.zero_le _, S0.out, by simp⟩
  case round =>
    obtain ⟨k, hk, hS⟩ := hrel
    clear S0
    have IP : Hid (wr.iterPos w.heap.size = k) := by show _ = _; simp [World.iterPos, hS.out.1.1]
    by_cases hlt : k < s.size
    · have hkl : k < s.data.toList.length := by rw [HL.out]; exact hlt
      have hg := gets s k hlt
      by_cases ha : (s[k]'hlt).toNat < 128
      · have hnx := fun ty => run_next_ascii_at (P := Try.prog) wr w.heap.size s k ty hS.out.1.1 hlt ha
        have B2 : Hid (Below w.heap.size w (wr.iterAt w.heap.size s (k + 1))) := below_iterAt hS.out.1.2 (Nat.le_refl _) s (k + 1)
        obtain ⟨C, hC⟩ : ∃ C : Nat, (s[k]'hlt).toNat = C := ⟨_, rfl⟩
        by_cases hok : 32 ≤ C ∧ C ≤ 126
        · have Z : Hid (FiS w s (k + 1) (wr.iterAt w.heap.size s (k + 1)) ∧ ∀ c ∈ s.data.toList.take (k + 1), okC c = true) := by
            refine ⟨⟨iterAt_heap wr w.heap.size s k (k + 1) hS.out.1.1, B2.out⟩, fun c hc => ?_⟩
            rw [List.take_succ_eq_append_getElem hkl, List.mem_append] at hc
            rcases hc with hc | hc
            · exact hS.out.2 c hc
            · rw [List.mem_singleton] at hc
              rw [hc, hg]
              unfold okC
              rw [hC]
              simpa using hok
          have IP2 : Hid ((wr.iterAt w.heap.size s (k + 1)).iterPos w.heap.size = k + 1) := by show _ = _; simp [World.iterPos, Z.out.1.1]
          have h1 : ¬ (C : Int) < 32 := by omega
          have h2 : ¬ (126 : Int) < (C : Int) := by omega
          rw [hC] at hnx
          clear hS B2 hg hC hok
          generalize wr.iterAt w.heap.size s (k + 1) = w2 at *
          go_wp2
          exact ⟨⟨k + 1, by omega, Z⟩, by rw [IP.out, IP2.out]; omega⟩
        · have hbad : Hid (fillB s.data.toList = false) := by
            show _ = _
            rw [Bool.eq_false_iff]
            intro h
            have := ((fillB_iff _).1 h).2 _ (List.getElem_mem hkl)
            rw [hg, hC] at this
            exact hok this
          rw [hC] at hnx
          by_cases h1 : C < 32
          · have h1' : (C : Int) < 32 := by omega
            clear hS hg hC hok
            generalize wr.iterAt w.heap.size s (k + 1) = w2 at *
            go_wp2
            go_ret
            exact ⟨by rw [hbad.out]; rfl, B2.out⟩
          · have h1' : ¬ (C : Int) < 32 := by omega
            have h2 : (126 : Int) < (C : Int) := by omega
            clear hS hg hC hok
            generalize wr.iterAt w.heap.size s (k + 1) = w2 at *
            go_wp2
            go_ret
            exact ⟨by rw [hbad.out]; rfl, B2.out⟩
      · have hnx := fun ty => run_next_any_at (P := Try.prog) wr w.heap.size s k ty hS.out.1.1 hlt
        have hdh := decode_high s k hlt (by omega)
        obtain ⟨R, hR⟩ : ∃ R : Nat, (Utf8.decode s k).1 = R := ⟨_, rfl⟩
        have B2 : Hid (Below w.heap.size w (wr.iterAt w.heap.size s (k + (Utf8.decode s k).2))) := below_iterAt hS.out.1.2 (Nat.le_refl _) s _
        generalize wr.iterAt w.heap.size s (k + (Utf8.decode s k).2) = w2 at *
        rw [hR] at hnx hdh
        have hbad : Hid (fillB s.data.toList = false) := by
          show _ = _
          rw [Bool.eq_false_iff]
          intro h
          have := ((fillB_iff _).1 h).2 _ (List.getElem_mem hkl)
          rw [hg] at this
          omega
        have h1 : ¬ (R : Int) < 32 := by omega
        have h2 : (126 : Int) < (R : Int) := by omega
        clear hS hg hdh hR
        go_wp2
        go_ret
        exact ⟨by rw [hbad.out]; rfl, B2.out⟩
    · obtain rfl : k = s.size := by omega
      have hnx := fun ty => run_next_end_at (P := Try.prog) wr w.heap.size s s.size ty hS.out.1.1 (by omega)
      have B := hd hS.out.1.2
      have hf : Hid (fillB s.data.toList = decide (s.size ≤ 64)) := by
        show _ = _
        have h := hS.out.2
        rw [List.take_of_length_le (by rw [HL.out]; omega)] at h
        unfold fillB
        rw [List.all_eq_true.2 h, HL.out]
        rfl
      clear hS IP
      by_cases h6 : s.size ≤ 64
      · have h6' : (s.size : Int) ≤ 64 := by omega
        have e : Hid (fillB s.data.toList = true) := by show _ = _; rw [hf.out]; simpa using h6
        clear hf h6
        go_wp2
        go_ret
        exact ⟨by rw [e.out]; rfl, B.out⟩
      · have h6' : ¬ (s.size : Int) ≤ 64 := by omega
        have e : Hid (fillB s.data.toList = false) := by show _ = _; rw [hf.out]; simpa using h6
        clear hf h6
        go_wp2
        go_ret
        exact ⟨by rw [e.out]; rfl, B.out⟩

set_option maxRecDepth 100000 in
set_option maxHeartbeats 4000000 in
theorem pattern_any (s : ByteArray) (w : World) (hs : s.size ≤ 9223372036854775807) : Calls Try.prog 25 #[.string s] w fun e w' => e = .returned (.bool (patB s.data.toList)) ∧ Below w.heap.size w w' := by
  have CF := hd (filling_any s w hs)
  have HT := hd (toL s)
  by_cases h : s.toList = []
  · have e : Hid (patB s.data.toList = false) := by
      show _ = _
      rw [← HT.out, h]
      rfl
    go_enter Try.func25, Try.ntmps25
    go_wp2
    go_ret
    exact ⟨by rw [e.out]; rfl, Below.refl _ _⟩
  · have e : Hid (patB s.data.toList = fillB s.data.toList) := by
      show _ = _
      unfold patB
      rw [← HT.out]
      simp [h]
    have h2 : s.toList.isEmpty = false := by cases hq : s.toList with
      | nil => exact absurd hq h
      | cons a b => rfl
    go_enter Try.func25, Try.ntmps25
    go_wp2_with (go_at_call 27; refine CF.out.mono ?_; rintro e w1 ⟨rfl, hb⟩)
    go_ret
    exact ⟨by rw [e.out]; rfl, hb⟩

/-- What an index at block x is asked with. -/
theorem IX.cells {w : World} {x : Nat} {T : By} (h : IX w x T) : ∃ a n c ps, w.cell? ⟨x, 0, none⟩ = some (.slice a n c) ∧ w.cell? ⟨x, 1, none⟩ = some (.int .i64 ((T.length : Nat) : Int)) ∧ IsP w a n c ps ∧ txP ps = T := by
  obtain ⟨a, n, c, ps, h1, h2, h3⟩ := h
  have c0 := cell_row h1 0
  have c1 := cell_row h1 1
  simp at c0 c1
  exact ⟨a, n, c, ps, c0, c1, h2, h3⟩
theorem IX.len {w : World} {x : Nat} {T : By} (h : IX w x T) : x < w.heap.size := by
  obtain ⟨a, n, c, ps, h1, h2, h3⟩ := h
  exact block_lt h1

theorem below_drew (w : World) : Below w.heap.size w w.drew := ⟨rfl, rfl, rfl, Nat.le_refl _, fun _ _ => rfl⟩
theorem IsN.mono {w w1 W : World} {v : Value} {l : List Nat} (h : IsN w1 W v l) (hle : w.heap.size ≤ w1.heap.size) : IsN w W v l := by
  obtain ⟨β, h1, h2⟩ := h
  exact ⟨β, h1, fun g hg => Nat.le_trans hle (h2 g hg)⟩

set_option maxRecDepth 100000 in
set_option maxHeartbeats 4000000 in
theorem find_bad (x : Nat) (s : ByteArray) (w : World) (hs : s.size ≤ 9223372036854775807) (hp : patB s.data.toList = false) :
    Calls Try.prog 11 #[.pointer (some ⟨x, 0, none⟩), .string s] w fun e w' => e = .returned (.tuple #[.slice none 0 0, .int .i64 240]) ∧ Below w.heap.size w w' := by
  have CF := pattern_any s w hs
  rw [hp] at CF
  have CF := hd CF
  clear hp
  go_enter Try.func11, Try.ntmps11
  go_wp2_with (go_at_call 25; refine CF.out.mono ?_; rintro e w1 ⟨rfl, hb⟩)
  go_ret2
  exact ⟨rfl, hb⟩
set_option maxRecDepth 100000 in
set_option maxHeartbeats 4000000 in
theorem find_good (x : Nat) (T : By) (s : ByteArray) (w : World) (hI : IX w x T) (hT : T.length ≤ 4000000000) (hp : patB s.data.toList = true) :
    Calls Try.prog 11 #[.pointer (some ⟨x, 0, none⟩), .string s] w fun e w' => ∃ v, e = .returned (.tuple #[v, .int .i64 0]) ∧ IsN w w' v (plc T s.data.toList) ∧ Below w.heap.size w w' := by
  obtain ⟨p1, p64, pc⟩ := (patB_iff _).1 hp
  have CF := pattern_any s w (by have : s.data.toList.length = s.size := by simp
                                 omega)
  rw [hp] at CF
  have CF := hd CF
  have HI := hd hI
  have HT := hd hT
  have P1 := hd p1
  have P64 := hd p64
  have PC := hd pc
  clear hp hI p1 p64 pc hT
  go_enter Try.func11, Try.ntmps11
  go_wp2_with (go_at_call 25; refine CF.out.mono ?_; rintro e w1 ⟨rfl, hb⟩)
  obtain ⟨a, n, c, ps, c0, c1, hP, hTx⟩ := (HI.out.below hb).cells
  have HB := hd hb
  have HPL := hd (fun W (hW : Below w1.heap.size w1 W) => places_any a n c ps s 0 T.length W (hP.below hW) (by rw [hTx]; exact HT.out) (by omega) (by have := HT.out; omega) (by
    rw [hTx]
    rcases Nat.eq_zero_or_pos T.length with h | h
    · exact .inr (List.length_eq_zero_iff.1 h)
    · exact .inl h) (by have := P64.out; simpa using this) (by have := P1.out; simpa using this) (fun k h => by
      have := (PC.out _ (List.getElem_mem (show k < s.data.toList.length by simpa using h))).2
      rw [gets s k h] at this
      omega))
  have e : Hid ((fnd (txP ps) s.data.toList (0 : Int).toNat ((txP ps).length - (0 : Int).toNat)).take T.length = plc T s.data.toList) := by
    show _ = _
    rw [hTx]
    exact List.take_of_length_le (fnd_len P1.out)
  clear hP hTx hb
  go_region_with (go_at_call 26; refine (HPL.out _ (below_drew _)).mono ?_; rintro e2 w2 ⟨v, rfl, hN, hb2⟩)
  all_goals
    go_wp2
    go_ret2
    rw [e.out] at hN
    exact ⟨_, rfl, hN.mono HB.out.size, HB.out.trans (((below_drew _).trans hb2).mono HB.out.size)⟩

set_option maxRecDepth 100000 in
set_option maxHeartbeats 4000000 in
theorem next_bad (x : Nat) (s : ByteArray) (pos : Int) (w : World) (hs : s.size ≤ 9223372036854775807) (hp : patB s.data.toList = false) :
    Calls Try.prog 39 #[.pointer (some ⟨x, 0, none⟩), .string s, .int .i64 pos] w fun e w' => e = .returned (.tuple #[.int .i64 0, .int .i64 240]) ∧ Below w.heap.size w w' := by
  have CF := pattern_any s w hs
  rw [hp] at CF
  have CF := hd CF
  clear hp
  go_enter Try.func39, Try.ntmps39
  go_wp2_with (go_at_call 25; refine CF.out.mono ?_; rintro e w1 ⟨rfl, hb⟩)
  go_ret2
  exact ⟨rfl, hb⟩

/-- The first place from pos on; -1: none. -/
def nxP (T p : By) (pos : Int) : Int := match (plc T p).filter (fun q => decide (pos ≤ ((q : Nat) : Int))) with | [] => -1 | q :: _ => ((q : Nat) : Int)
theorem fnd_pos {T p : By} (hp : 1 ≤ p.length) (pos : Int) : fnd T p pos.toNat (T.length - pos.toNat) = (plc T p).filter (fun q => decide (pos ≤ ((q : Nat) : Int))) := by
  by_cases h : pos.toNat ≤ T.length
  · rw [fnd_from hp h]
    refine List.filter_congr fun q _ => ?_
    rw [decide_eq_decide]
    omega
  · have e : T.length - pos.toNat = 0 := by omega
    rw [e, fnd_zero hp]
    symm
    rw [List.filter_eq_nil_iff]
    intro q hq
    unfold plc at hq
    rcases fnd_mem.1 hq with ⟨h1, h2, h3⟩ | ⟨h1, h2⟩
    · simp
      omega
    · omega
theorem nxP_nil {T p : By} {pos : Int} (h : (plc T p).filter (fun q => decide (pos ≤ ((q : Nat) : Int))) = []) : nxP T p pos = -1 := by unfold nxP; rw [h]
theorem nxP_cons {T p : By} {pos : Int} {q : Nat} {r : List Nat} (h : (plc T p).filter (fun q => decide (pos ≤ ((q : Nat) : Int))) = q :: r) : nxP T p pos = ((q : Nat) : Int) := by unfold nxP; rw [h]

set_option maxRecDepth 100000 in
set_option maxHeartbeats 4000000 in
theorem next_good (x : Nat) (T : By) (s : ByteArray) (pos : Int) (w : World) (hI : IX w x T) (hT : T.length ≤ 4000000000) (hp : patB s.data.toList = true) (hpos : pos ≤ 9223372036854775807) :
    Calls Try.prog 39 #[.pointer (some ⟨x, 0, none⟩), .string s, .int .i64 pos] w fun e w' => e = .returned (.tuple #[.int .i64 (nxP T s.data.toList pos), .int .i64 0]) ∧ Below w.heap.size w w' := by
  obtain ⟨p1, p64, pc⟩ := (patB_iff _).1 hp
  have CF := pattern_any s w (by have : s.data.toList.length = s.size := by simp
                                 omega)
  rw [hp] at CF
  have CF := hd CF
  have HI := hd hI
  have HT := hd hT
  have P1 := hd p1
  have P64 := hd p64
  have PC := hd pc
  have HPos := hd hpos
  clear hp hI p1 p64 pc hT hpos
  go_enter Try.func39, Try.ntmps39
  go_upto_region 3 with (go_at_call 25; refine CF.out.mono ?_; rintro e w1 ⟨rfl, hb⟩)
  obtain ⟨a, n, c, ps, c0, c1, hP, hTx⟩ := (HI.out.below hb).cells
  have HB := hd hb
  have HPL := hd (places_any a n c ps s pos 1 w1 hP (by rw [hTx]; exact HT.out) HPos.out (by omega) (.inl (Nat.le_refl _)) (by have := P64.out; simpa using this) (by have := P1.out; simpa using this) (fun k h => by
      have := (PC.out _ (List.getElem_mem (show k < s.data.toList.length by simpa using h))).2
      rw [gets s k h] at this
      omega))
  have e : Hid ((fnd (txP ps) s.data.toList pos.toNat ((txP ps).length - pos.toNat)).take 1 = ((plc T s.data.toList).filter (fun q => decide (pos ≤ ((q : Nat) : Int)))).take 1) := by
    show _ = _
    rw [hTx, fnd_pos P1.out]
  clear hP hTx hb c1
  go_upto_region 4 with (go_at_call 26; refine HPL.out.mono ?_; rintro e2 w2 ⟨v, rfl, hN, hb2⟩)
  rw [e.out] at hN
  obtain ⟨a', c', rfl, -, hnc, hc63, hrow⟩ := hN.isL
  have B2 := hd (HB.out.trans (hb2.mono HB.out.size))
  clear HPL c0 hb2 hN e CF
  cases hf : (plc T s.data.toList).filter (fun q => decide (pos ≤ ((q : Nat) : Int))) with
  | nil =>
    rw [hf] at hnc hrow
    have E := hd (nxP_nil hf)
    clear hf hrow
    simp only [List.take_nil, List.length_nil] at *
    go_wp2
    go_ret2
    exact ⟨by rw [E.out]; rfl, B2.out⟩
  | cons q r =>
    rw [hf] at hnc hrow
    have E := hd (nxP_cons hf)
    clear hf
    simp only [List.take_succ_cons, List.take_zero, List.length_cons, List.length_nil, Nat.zero_add] at *
    obtain ⟨b, off, rfl, hb, hcell⟩ := hrow (by omega)
    have ck := hcell 0 (by omega)
    simp only [Nat.add_zero, List.getElem_cons_zero] at ck
    clear hcell hrow
    go_wp2
    go_ret2
    exact ⟨by rw [E.out]; rfl, B2.out⟩
end Go.Proofs.Ytlmgogonghafeab

/-! Ap -/
namespace Go.Proofs.Ytlmgogonghafeab
open Go.RowKit Go.Lib
set_option linter.unusedVariables false

/-- A list of numbers of one's own, and all else as it was. -/
def NmI (w wr : World) (v : Value) (l : List Nat) : Prop := ∃ β, SF ei 1 wr 3 β v (nI l) ∧ (∀ k, β = some k → w.heap.size ≤ k) ∧ Below w.heap.size w wr
theorem NmI.push {w wr : World} {v : Value} {xs : List Nat} (h : NmI w wr v xs) (x : Nat) (hx : xs.length ≤ 10000000000000) :
    ∃ v' w', (∀ ty, (Builtin.append_ #[36, 36] ty #[v, .slice (some ⟨wr.heap.size, 0, none⟩) 1 1]).run Try.prog (wr.alloc (.cells #[.int .i64 ((x : Nat) : Int)] 3)) = .ok v' w') ∧ NmI w w' v' (xs ++ [x]) := by
  obtain ⟨β, h1, h2, h3⟩ := h
  have hB : Below w.heap.size w (wr.alloc (.cells #[.int .i64 ((x : Nat) : Int)] 3)) := h3.alloc h3.size _
  obtain ⟨v', w', hr, g, hS, hN⟩ := push_int _ β v (nI xs) (h1.fr (Fr.alloc (fun _ => False) _ _) (fun _ _ h => h)) wr.heap.size (x : Int) (heap_alloc_new wr _) (by simpa [nI] using hx)
  refine ⟨v', w', hr, some g, by simpa [nI] using hS, fun k hk => ?_, ?_⟩
  · cases hk
    rcases hN with ⟨e, -⟩ | ⟨e, -⟩
    · exact h2 _ e
    · rw [e]; exact hB.size
  · rcases hN with ⟨e, hf⟩ | ⟨e, hf⟩
    · exact hB.trans (hf.below hB.size (fun k hk => by rw [hk]; exact h2 g e))
    · exact hB.trans (hf.below hB.size (fun k hk => hk.elim))
theorem NmI.isN {w wr : World} {v : Value} {l : List Nat} (h : NmI w wr v l) : IsN w wr v l := by
  obtain ⟨β, h1, h2, h3⟩ := h
  exact ⟨β, h1, fun g e => h2 g e⟩

/-- Those taken, from the left: (the first free place, those taken). -/
def apN (m : Nat) (s : Nat × List Nat) (p : Nat) : Nat × List Nat := if s.1 ≤ p then (p + m, s.2 ++ [p]) else s
def apS (m : Nat) (l : List Nat) : Nat × List Nat := l.foldl (apN m) (0, [])
theorem apS_succ {m : Nat} {l : List Nat} {k : Nat} (h : k < l.length) : apS m (l.take (k + 1)) = apN m (apS m (l.take k)) l[k] := by
  unfold apS
  rw [List.take_succ_eq_append_getElem h, List.foldl_append]
  rfl
theorem apS_len (m : Nat) (l : List Nat) : (apS m l).2.length ≤ l.length := by
  have h : ∀ (l : List Nat) (s : Nat × List Nat), (l.foldl (apN m) s).2.length ≤ s.2.length + l.length := by
    intro l
    induction l with
    | nil => intro s; simp
    | cons p l ih =>
      intro s
      rw [List.foldl_cons]
      have h1 := ih (apN m s p)
      have h2 : (apN m s p).2.length ≤ s.2.length + 1 := by
        unfold apN
        by_cases h : s.1 ≤ p
        · rw [if_pos h]; simp
        · rw [if_neg h]; omega
      rw [List.length_cons]
      omega
  have := h l (0, [])
  simpa [apS] using this
theorem apS_free {m B : Nat} (l : List Nat) (hl : ∀ p ∈ l, p ≤ B) : (apS m l).1 ≤ B + m := by
  have h : ∀ (l : List Nat) (s : Nat × List Nat), (∀ p ∈ l, p ≤ B) → s.1 ≤ B + m → (l.foldl (apN m) s).1 ≤ B + m := by
    intro l
    induction l with
    | nil => intro s _ h; exact h
    | cons p l ih =>
      intro s hl hs
      rw [List.foldl_cons]
      refine ih _ (fun q hq => hl q (by simp [hq])) ?_
      have := hl p (by simp)
      unfold apN
      by_cases h : s.1 ≤ p
      · rw [if_pos h]; show p + m ≤ B + m; omega
      · rw [if_neg h]; exact hs
  exact h l (0, []) hl (by show 0 ≤ B + m; omega)

set_option maxRecDepth 100000 in
set_option maxHeartbeats 4000000 in
theorem apart_any (a : Option Addr) (n c : Nat) (l : List Nat) (m : Nat) (w : World) (hL : IsL w a n c l) (hn : n ≤ 1000000000) (hm : m ≤ 1000000) (hB : ∀ p ∈ l, p ≤ 1000000000) :
    Calls Try.prog 28 #[.slice a n c, .int .i64 (m : Int)] w fun e w' => ∃ v, e = .returned v ∧ NmI w w' v (apS m l).2 := by
  obtain ⟨hl, hnc, hc, hcell⟩ := hL
  have HL := hd hl
  have HC := hd hcell
  have HB := hd hB
  clear hl hcell hB
  go_enter Try.func28, Try.ntmps28
  go_upto_region 4 with fail
  go_loopw [5, 6, 11] (fun v f i wr => ∃ k fr : Nat, k ≤ n ∧ i = .int .i64 k ∧ f = .int .i64 fr ∧ Hid (fr = (apS m (l.take k)).1) ∧ Hid (NmI w wr v (apS m (l.take k)).2)) (fun _ _ i _ => n - (intOf i).toNat)
  case atStart => exact ⟨0, 0, Nat.zero_le _, rfl, rfl, hd rfl, hd ⟨none, ⟨rfl, rfl⟩, fun k hk => (by cases hk), Below.refl _ _⟩⟩
  case round =>
    obtain ⟨k, fr, hk, rfl, rfl, HF, HI⟩ := hrel
    by_cases hlt : k < n
    · have hkl : k < l.length := by rw [HL.out]; exact hlt
      obtain ⟨b, off, rfl, hb, hcs⟩ := HC.out (by omega)
      have hB' : Below w.heap.size w wr := HI.out.choose_spec.2.2
      have c1 : wr.cell? ⟨b, off + k, none⟩ = some (.int .i64 ((l[k] : Nat) : Int)) := by rw [hB'.cell (p := ⟨b, off + k, none⟩) hb]; exact hcs k hkl
      have hp : l[k] ≤ 1000000000 := HB.out _ (List.getElem_mem hkl)
      have hfr : fr ≤ 1001000000 := by
        rw [HF.out]
        have := apS_free (m := m) (B := 1000000000) (l.take k) (fun p hp => HB.out p (List.mem_of_mem_take hp))
        omega
      have hlen : (apS m (l.take k)).2.length ≤ 10000000000000 := by
        have h1 := apS_len m (l.take k)
        rw [List.length_take] at h1
        omega
      have SU := hd (apS_succ (m := m) hkl)
      clear hcs hB'
      generalize hP : l[k] = P at *
      by_cases hf : fr ≤ P
      · obtain ⟨v', w', hr, hT⟩ := HI.out.push P hlen
        have Z : Hid (P + m = (apS m (l.take (k + 1))).1 ∧ NmI w w' v' (apS m (l.take (k + 1))).2) := by
          rw [SU.out]
          unfold apN
          rw [if_pos (by rw [← HF.out]; exact hf)]
          exact ⟨rfl, hT⟩
        have hf2 : (fr : Int) ≤ (P : Int) := by omega
        clear hT HI SU hP hf
        go_wp2_with (at_builtin; refine wpList_append_k _ rfl _ _ 36 36 rfl _ _ rfl rfl (hr _) ?_)
        exact ⟨⟨k + 1, P + m, by omega, by go_num, by go_num, hd Z.out.1, hd Z.out.2⟩, by simp only [intOf]; omega⟩
      · have e : apS m (l.take (k + 1)) = apS m (l.take k) := by
          rw [SU.out]
          unfold apN
          rw [if_neg (by rw [← HF.out]; exact hf)]
        rw [← e] at HF HI
        have hf2 : ¬ (fr : Int) ≤ (P : Int) := by omega
        clear SU hP hf e
        go_wp2_with fail
        exact ⟨⟨k + 1, fr, by omega, by go_num, rfl, HF, HI⟩, by simp only [intOf]; omega⟩
    · obtain rfl : k = n := by omega
      have Z := hd HI.out
      rw [List.take_of_length_le (by rw [HL.out]; omega)] at Z
      clear HI HF
      go_wp2_with fail
      go_ret
      exact ⟨_, rfl, Z.out⟩
end Go.Proofs.Ytlmgogonghafeab

/-! Tw -/
namespace Go.Proofs.Ytlmgogonghafeab
open Go.RowKit Go.Lib
set_option linter.unusedVariables false

def opc (o : OpE) : List Value := [.int .i64 o.kind, .int .i64 o.pos, .int .u8 o.ch, .int .i64 o.cl, .int .i64 o.sq]
theorem sz_opc : Sz opc 5 := fun x => ⟨rfl, fun v hv => by simp [opc] at hv; rcases hv with rfl | rfl | rfl | rfl | rfl <;> rfl⟩
theorem Try.infoOp : (Try.prog.info? 32).map (fun i => (i.zero, i.size, i.bytes)) = some (some (.agg #[.int .i64 0, .int .i64 0, .int .u8 0, .int .i64 0, .int .i64 0]), 5, 40) := by kernel_rfl
theorem push_op (w : World) (β : Option Nat) (v : Value) (xs : List OpE) (hS : SF opc 5 w 32 β v xs) (o : OpE) (hroom : xs.length ≤ 1000000) :
    ∃ v' w', (∀ ty, (Builtin.append_ #[39, 39] ty #[v, .slice (some ⟨w.heap.size, 0, none⟩) 1 1]).run Try.prog (w.alloc (.cells #[.int .i64 o.kind, .int .i64 o.pos, .int .u8 o.ch, .int .i64 o.cl, .int .i64 o.sq] 32)) = .ok v' w') ∧ NowF opc 5 (w.alloc (.cells #[.int .i64 o.kind, .int .i64 o.pos, .int .u8 o.ch, .int .i64 o.cl, .int .i64 o.sq] 32)) w' 32 β v' (xs ++ [o]) := by
  obtain ⟨i0, hi0, hz0, hz1, hz2⟩ := info_parts Try.infoOp
  have hz := heap_alloc_new w (.cells #[.int .i64 o.kind, .int .i64 o.pos, .int .u8 o.ch, .int .i64 o.cl, .int .i64 o.sq] 32)
  obtain ⟨v', w', hr, hN⟩ := run_pushF sz_opc (P := Try.prog) (w.alloc (.cells #[.int .i64 o.kind, .int .i64 o.pos, .int .u8 o.ch, .int .i64 o.cl, .int .i64 o.sq] 32)) 39 0 32 i0 _ 40 Try.underlying39 hi0 hz0 hz1 rfl hz2 β v xs (hS.fr (Fr.alloc (fun _ => False) _ _) (fun _ _ h => h)) ⟨w.heap.size, 0, none⟩ 1 1 [o] rfl (fun j u hj => by
    rw [add_lit, Nat.zero_add, cell_row hz]
    simp only [cl_one, opc] at hj
    simpa using hj) (by omega) (by omega) (by omega)
  exact ⟨v', w', fun ty => hr, hN⟩

/-- Inside swaps: the variables client, first and ops, and what ops holds. -/
structure OpsI (w wr : World) (cb fb ob : Nat) (cl fs : Int) (os : List OpE) : Prop where
  hc : wr.heap[cb]? = some (.cells #[.int .i64 cl] 3 (0, 0))
  hf : wr.heap[fb]? = some (.cells #[.int .i64 fs] 3 (0, 0))
  row : ∃ β v, wr.heap[ob]? = some (.cells #[v] 39 (0, 0)) ∧ SF opc 5 wr 32 β v os ∧ (∀ k, β = some k → w.heap.size ≤ k)
  cb0 : w.heap.size ≤ cb
  fb0 : w.heap.size ≤ fb
  ob0 : w.heap.size ≤ ob
  bel : Below w.heap.size w wr

set_option maxRecDepth 100000 in
set_option maxHeartbeats 4000000 in
theorem tell_any {w wr : World} {cb fb ob : Nat} {cl fs : Int} {os : List OpE} (h : OpsI w wr cb fb ob cl fs os) (k p c l s : Int) (hos : os.length ≤ 1000000) (hf0 : -1000000 ≤ fs) (hf1 : fs ≤ 1000000) :
    Calls Try.prog 53 #[.agg #[.int .i64 k, .int .i64 p, .int .u8 c, .int .i64 l, .int .i64 s], .pointer (some ⟨cb, 0, none⟩), .pointer (some ⟨fb, 0, none⟩), .pointer (some ⟨ob, 0, none⟩)] wr fun e w' => e = .returned (.tuple #[]) ∧ OpsI w w' cb fb ob cl fs (os ++ [⟨k, p, c, cl, fs + (os.length : Int)⟩]) ∧ wr.heap.size ≤ w'.heap.size ∧ ∀ (j : Nat) (z : ByteArray) (i : Nat), wr.heap[j]? = some (Obj.stringIter z i) → w'.heap[j]? = some (Obj.stringIter z i) := by
  obtain ⟨β, v, hv, hS, hβ⟩ := h.row
  obtain ⟨a, cc, rfl, hcc, hc1⟩ := hS.form
  have H := hd h
  have HR := hd (And.intro hv (And.intro hS hβ))
  obtain ⟨W1, hW1⟩ : ∃ W1, wr.alloc (.cells #[.int .i64 k, .int .i64 p, .int .u8 c, .int .i64 l, .int .i64 s] 32) = W1 := ⟨_, rfl⟩
  have hF1 : Fr (fun _ => False) wr W1 := by rw [← hW1]; exact Fr.alloc _ _ _
  have hn1 : W1.heap[wr.heap.size]? = some (.cells #[.int .i64 k, .int .i64 p, .int .u8 c, .int .i64 l, .int .i64 s] 32 (0, 0)) := by rw [← hW1]; exact heap_alloc_new wr _
  have k1 : W1.cell? ⟨cb, 0, none⟩ = some (.int .i64 cl) := by have := cell_row (hF1.keeps h.hc (fun e => e)) 0; simpa using this
  have k2 : W1.cell? ⟨fb, 0, none⟩ = some (.int .i64 fs) := by have := cell_row (hF1.keeps h.hf (fun e => e)) 0; simpa using this
  have k3 : W1.cell? ⟨ob, 0, none⟩ = some (.slice a os.length cc) := by have := cell_row (hF1.keeps hv (fun e => e)) 0; simpa using this
  have n3 : W1.cell? ⟨wr.heap.size, 3, none⟩ = some (.int .i64 l) := by have := cell_row hn1 3; simpa using this
  have n4 : W1.cell? ⟨wr.heap.size, 4, none⟩ = some (.int .i64 s) := by have := cell_row hn1 4; simpa using this
  have ng : ∀ u : Value, ((W1.setCell ⟨wr.heap.size, 3, none⟩ u).cell? ⟨wr.heap.size, 4, none⟩) = some (.int .i64 s) := by
    intro u
    have := cell_row (set_row hn1 3 u) 4
    simpa using this
  have z3 : W1.frozen? ⟨wr.heap.size, 3, none⟩ = false := frozen_row hn1 3
  have z4 : W1.frozen? ⟨wr.heap.size, 4, none⟩ = false := frozen_row hn1 4
  have zg : ∀ u : Value, (W1.setCell ⟨wr.heap.size, 3, none⟩ u).frozen? ⟨wr.heap.size, 4, none⟩ = false := fun u => frozen_row (set_row hn1 3 u) 4
  have HF1 := hd hF1
  have HN1 := hd hn1
  clear h hv hS hβ hF1 hn1 hc1 hcc
  go_enter Try.func53, Try.ntmps53
  go_upto_region 1 with fail
  clear hW1
  go_region
  obtain ⟨W2, hW2⟩ : ∃ W2, ((W1.setCell ⟨wr.heap.size, 3, none⟩ (.int .i64 cl)).setCell ⟨wr.heap.size, 4, none⟩ (.int .i64 (fs + (os.length : Int)))).drew = W2 := ⟨_, rfl⟩
  have hn2 : W2.heap[wr.heap.size]? = some (.cells #[.int .i64 k, .int .i64 p, .int .u8 c, .int .i64 cl, .int .i64 (fs + (os.length : Int))] 32 (0, 0)) := by
    rw [← hW2]
    have := set_row (set_row HN1.out 3 (.int .i64 cl)) 4 (.int .i64 (fs + (os.length : Int)))
    simp at this
    exact this
  have hF2 : Fr (fun j => j = wr.heap.size) wr W2 := by
    rw [← hW2]
    exact (HF1.out.mono (fun _ _ h => h.elim)).trans (((Fr.setCell (S := fun j => j = wr.heap.size) W1 ⟨wr.heap.size, 3, none⟩ _ rfl).trans (Fr.setCell (S := fun j => j = wr.heap.size) _ ⟨wr.heap.size, 4, none⟩ _ rfl)).trans (Fr.drew (fun j => j = wr.heap.size) _))
  rw [hW2]
  clear hW2 k1 k2 k3 n3 n4 ng z3 z4 zg HN1 HF1
  have hob : ob < wr.heap.size := block_lt HR.out.1
  have hβl : ∀ g, β = some g → g < wr.heap.size := fun g e => HR.out.2.1.lt g e
  have hβo : β ≠ some ob := fun e => by
    obtain ⟨cur, hq⟩ := (show SF opc 5 wr 32 (some ob) _ os from e ▸ HR.out.2.1).blk
    rw [HR.out.1] at hq
    cases hq
  have k3 : W2.cell? ⟨ob, 0, none⟩ = some (.slice a os.length cc) := by have := cell_row (hF2.keeps HR.out.1 (by show ¬ _ = _; omega)) 0; simpa using this
  have r0 : W2.cell? ⟨wr.heap.size, 0, none⟩ = some (.int .i64 k) := by have := cell_row hn2 0; simpa using this
  have r1 : W2.cell? ⟨wr.heap.size, 1, none⟩ = some (.int .i64 p) := by have := cell_row hn2 1; simpa using this
  have r2 : W2.cell? ⟨wr.heap.size, 2, none⟩ = some (.int .u8 c) := by have := cell_row hn2 2; simpa using this
  have r3 : W2.cell? ⟨wr.heap.size, 3, none⟩ = some (.int .i64 cl) := by have := cell_row hn2 3; simpa using this
  have r4 : W2.cell? ⟨wr.heap.size, 4, none⟩ = some (.int .i64 (fs + (os.length : Int))) := by have := cell_row hn2 4; simpa using this
  obtain ⟨v', w', hr, g, hS', hN⟩ := push_op W2 β (.slice a os.length cc) os (HR.out.2.1.fr hF2 (fun g e h => by have := hβl g e; omega)) ⟨k, p, c, cl, fs + (os.length : Int)⟩ hos
  obtain ⟨a', c', rfl, -, -⟩ := hS'.form
  have hF3 : Fr (fun j => j = wr.heap.size ∨ β = some j) wr w' := by
    have hA : Fr (fun j => j = wr.heap.size ∨ β = some j) wr (W2.alloc (.cells #[.int .i64 k, .int .i64 p, .int .u8 c, .int .i64 cl, .int .i64 (fs + (os.length : Int))] 32)) := (hF2.mono (fun _ _ h => .inl h)).trans (Fr.alloc _ _ _)
    rcases hN with ⟨e, hf⟩ | ⟨e, hf⟩
    · exact hA.trans (hf.mono (fun j _ hj => .inr (by rw [hj]; exact e)))
    · exact hA.trans (hf.mono (fun _ _ h => h.elim))
  have hgo : g ≠ ob := fun e => by
    rcases hN with ⟨e1, -⟩ | ⟨e1, -⟩
    · exact hβo (e ▸ e1)
    · have := hF2.size
      simp at e1
      omega
  have ho' : w'.heap[ob]? = some (.cells #[.slice a os.length cc] 39 (0, 0)) := hF3.keeps HR.out.1 (fun h => by rcases h with h | h; omega; exact hβo h)
  have k4 : w'.cell? ⟨ob, 0, none⟩ = some (.slice a os.length cc) := by have := cell_row ho' 0; simpa using this
  have z4 : w'.frozen? ⟨ob, 0, none⟩ = false := frozen_row ho' 0
  have Z : Hid ((OpsI w (w'.setCell ⟨ob, 0, none⟩ (.slice a' (os ++ [(⟨k, p, c, cl, fs + (os.length : Int)⟩ : OpE)]).length c')) cb fb ob cl fs (os ++ [⟨k, p, c, cl, fs + (os.length : Int)⟩])) ∧ wr.heap.size ≤ (w'.setCell ⟨ob, 0, none⟩ (.slice a' (os ++ [(⟨k, p, c, cl, fs + (os.length : Int)⟩ : OpE)]).length c')).heap.size ∧ ∀ (j : Nat) (z : ByteArray) (i : Nat), wr.heap[j]? = some (Obj.stringIter z i) → (w'.setCell ⟨ob, 0, none⟩ (.slice a' (os ++ [(⟨k, p, c, cl, fs + (os.length : Int)⟩ : OpE)]).length c')).heap[j]? = some (Obj.stringIter z i)) := by
    have hF4 : Fr (fun j => j = wr.heap.size ∨ β = some j ∨ j = ob) wr (w'.setCell ⟨ob, 0, none⟩ (.slice a' (os ++ [(⟨k, p, c, cl, fs + (os.length : Int)⟩ : OpE)]).length c')) := (hF3.mono (fun _ _ h => by rcases h with h | h; exact .inl h; exact .inr (.inl h))).trans (Fr.setCell _ _ _ (.inr (.inr rfl)))
    have hne : ∀ j x, wr.heap[j]? = some (.cells #[.int .i64 x] 3 (0, 0)) → ¬ (j = wr.heap.size ∨ β = some j ∨ j = ob) := by
      intro j x hj hs
      rcases hs with h | h | h
      · have := block_lt hj; omega
      · obtain ⟨cur, hq⟩ := (show SF opc 5 wr 32 (some j) _ os from h ▸ HR.out.2.1).blk
        rw [hj] at hq
        cases hq
      · rw [h, HR.out.1] at hj
        cases hj
    refine ⟨?_, hF4.size, fun j z i hj => hF4.keeps hj (fun hs => by
      rcases hs with h | h | h
      · have := block_lt hj; omega
      · obtain ⟨cur, hq⟩ := (show SF opc 5 wr 32 (some j) _ os from h ▸ HR.out.2.1).blk
        rw [hj] at hq
        cases hq
      · rw [h, HR.out.1] at hj
        cases hj)⟩
    refine ⟨hF4.keeps H.out.hc (hne _ _ H.out.hc), hF4.keeps H.out.hf (hne _ _ H.out.hf), ⟨some g, _, ?_, hS'.fr (Fr.setCell (S := fun j => j = ob) w' ⟨ob, 0, none⟩ _ rfl) (fun x e h => by cases e; exact hgo h), ?_⟩, H.out.cb0, H.out.fb0, H.out.ob0, ?_⟩
    · have := set_row ho' 0 (.slice a' (os ++ [(⟨k, p, c, cl, fs + (os.length : Int)⟩ : OpE)]).length c')
      simpa using this
    · intro x e
      cases e
      rcases hN with ⟨e1, -⟩ | ⟨e1, -⟩
      · exact HR.out.2.2 _ e1
      · have h1 := H.out.bel.size
        have h2 := hF2.size
        simp at e1
        omega
    · refine H.out.bel.trans (hF4.below H.out.bel.size ?_)
      intro j hs
      rcases hs with h | h | h
      · rw [h]; exact H.out.bel.size
      · exact HR.out.2.2 _ h
      · rw [h]; exact H.out.ob0
  clear hF3 hgo ho' hS' hN hF2 hn2 hβl hβo HR H hob
  go_wp2_with (at_builtin; refine wpList_append_k _ rfl _ _ 39 39 rfl _ _ rfl rfl (hr _) ?_)
  go_end0
  refine ⟨rfl, ?_⟩
  have Z2 := Z.out
  rw [List.length_append] at Z2
  exact Z2
end Go.Proofs.Ytlmgogonghafeab
