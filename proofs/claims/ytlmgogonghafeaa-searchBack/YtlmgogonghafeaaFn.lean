/-
  isFilling, isPattern.
-/
import Derived.Test.YtlmgogonghafeaaLy
namespace Go.Proofs.Ytlmgogonghafeaa
open Go.RowKit Go.Lib
set_option linter.unusedVariables false

def okC (c : UInt8) : Bool := decide (32 ≤ c.toNat ∧ c.toNat ≤ 126)
/-- May these bytes be put into a text? -/
def fillB (b : By) : Bool := b.all okC && decide (b.length ≤ 64)
def patB (b : By) : Bool := decide (b ≠ []) && fillB b
theorem patB_iff (b : By) : patB b = true ↔ 1 ≤ b.length ∧ b.length ≤ 64 ∧ ∀ c ∈ b, 32 ≤ c.toNat ∧ c.toNat ≤ 126 := by
  unfold patB fillB okC
  simp only [Bool.and_eq_true, decide_eq_true_eq, List.all_eq_true]
  constructor
  · rintro ⟨h1, h2, h3⟩
    exact ⟨by have := List.length_pos_iff.2 h1; omega, h3, h2⟩
  · rintro ⟨h1, h2, h3⟩
    exact ⟨fun e => by rw [e] at h1; simp at h1, h3, h2⟩
theorem fillB_iff (b : By) : fillB b = true ↔ b.length ≤ 64 ∧ ∀ c ∈ b, 32 ≤ c.toNat ∧ c.toNat ≤ 126 := by
  unfold fillB okC
  simp only [Bool.and_eq_true, decide_eq_true_eq, List.all_eq_true]
  exact ⟨fun h => ⟨h.2, h.1⟩, fun h => ⟨h.2, h.1⟩⟩
theorem patB_ndP (b : By) : patB (ndP b) = true := (patB_iff _).2 ⟨(ndP_len b).1, (ndP_len b).2, ndP_chars b⟩

theorem gets (s : ByteArray) (k : Nat) (h : k < s.size) : s.data.toList[k]'(by simpa using h) = s[k]'h := by
  simp
  rfl

/-- Within the loop: the iterator stands at place k. -/
def FiS (w : World) (s : ByteArray) (k : Nat) (W : World) : Prop := W.heap[w.heap.size]? = some (.stringIter s k) ∧ Below w.heap.size w W

set_option maxRecDepth 100000 in
set_option maxHeartbeats 4000000 in
theorem filling_any (s : ByteArray) (w : World) (hs : s.size ≤ 9223372036854775807) : Calls Try.prog 34 #[.string s] w fun e w' => e = .returned (.bool (fillB s.data.toList)) ∧ Below w.heap.size w w' := by
  have HS := hd hs
  have HL : Hid (s.data.toList.length = s.size) := by show _ = _; simp
  clear hs
  have S0 : Hid (FiS w s 0 (w.iter s 0)) := ⟨heap_alloc_new w _, (Below.refl _ _).alloc (Nat.le_refl _) _⟩
  go_enter Try.func34, Try.ntmps34
  go_wp2
  generalize w.iter s 0 = w0 at *
  go_loopw [] (fun wr => ∃ k : Nat, k ≤ s.size ∧ Hid (FiS w s k wr ∧ ∀ c ∈ s.data.toList.take k, okC c = true)) (fun wr => s.size - wr.iterPos w.heap.size)
  case atStart => exact ⟨0, Nat.zero_le _, S0.out, by simp⟩
  case round =>
    obtain ⟨k, hk, hS⟩ := hrel
    clear S0
    have IP : Hid (wr.iterPos w.heap.size = k) := by show _ = _; simp [World.iterPos, hS.out.1.1]
    by_cases hlt : k < s.size
    · have hkl : k < s.data.toList.length := by rw [HL.out]; exact hlt
      have hg := gets s k hlt
      by_cases ha : (s[k]'hlt).toNat < 128
      · have hnx := fun ty => run_next_ascii_at (P := Try.prog) wr w.heap.size s k ty hS.out.1.1 hlt ha
        have B2 : Hid (Below w.heap.size w (wr.iterAt w.heap.size s (k + 1))) := below_iterAt hS.out.1.2 (Nat.le_refl _) s (k + 1)
        obtain ⟨C, hC⟩ : ∃ C : Nat, (s[k]'hlt).toNat = C := ⟨_, rfl⟩
        by_cases hok : 32 ≤ C ∧ C ≤ 126
        · have Z : Hid (FiS w s (k + 1) (wr.iterAt w.heap.size s (k + 1)) ∧ ∀ c ∈ s.data.toList.take (k + 1), okC c = true) := by
            refine ⟨⟨iterAt_heap wr w.heap.size s k (k + 1) hS.out.1.1, B2.out⟩, fun c hc => ?_⟩
            rw [List.take_succ_eq_append_getElem hkl, List.mem_append] at hc
            rcases hc with hc | hc
            · exact hS.out.2 c hc
            · rw [List.mem_singleton] at hc
              rw [hc, hg]
              unfold okC
              rw [hC]
              simpa using hok
          have IP2 : Hid ((wr.iterAt w.heap.size s (k + 1)).iterPos w.heap.size = k + 1) := by show _ = _; simp [World.iterPos, Z.out.1.1]
          have h1 : ¬ (C : Int) < 32 := by omega
          have h2 : ¬ (126 : Int) < (C : Int) := by omega
          rw [hC] at hnx
          clear hS B2 hg hC hok
          generalize wr.iterAt w.heap.size s (k + 1) = w2 at *
          go_wp2
          exact ⟨⟨k + 1, by omega, Z⟩, by rw [IP.out, IP2.out]; omega⟩
        · have hbad : Hid (fillB s.data.toList = false) := by
            show _ = _
            rw [Bool.eq_false_iff]
            intro h
            have := ((fillB_iff _).1 h).2 _ (List.getElem_mem hkl)
            rw [hg, hC] at this
            exact hok this
          rw [hC] at hnx
          by_cases h1 : C < 32
          · have h1' : (C : Int) < 32 := by omega
            clear hS hg hC hok
            generalize wr.iterAt w.heap.size s (k + 1) = w2 at *
            go_wp2
            go_ret
            exact ⟨by rw [hbad.out]; rfl, B2.out⟩
          · have h1' : ¬ (C : Int) < 32 := by omega
            have h2 : (126 : Int) < (C : Int) := by omega
            clear hS hg hC hok
            generalize wr.iterAt w.heap.size s (k + 1) = w2 at *
            go_wp2
            go_ret
            exact ⟨by rw [hbad.out]; rfl, B2.out⟩
      · have hnx := fun ty => run_next_any_at (P := Try.prog) wr w.heap.size s k ty hS.out.1.1 hlt
        have hdh := decode_high s k hlt (by omega)
        obtain ⟨R, hR⟩ : ∃ R : Nat, (Utf8.decode s k).1 = R := ⟨_, rfl⟩
        have B2 : Hid (Below w.heap.size w (wr.iterAt w.heap.size s (k + (Utf8.decode s k).2))) := below_iterAt hS.out.1.2 (Nat.le_refl _) s _
        generalize wr.iterAt w.heap.size s (k + (Utf8.decode s k).2) = w2 at *
        rw [hR] at hnx hdh
        have hbad : Hid (fillB s.data.toList = false) := by
          show _ = _
          rw [Bool.eq_false_iff]
          intro h
          have := ((fillB_iff _).1 h).2 _ (List.getElem_mem hkl)
          rw [hg] at this
          omega
        have h1 : ¬ (R : Int) < 32 := by omega
        have h2 : (126 : Int) < (R : Int) := by omega
        clear hS hg hdh hR
        go_wp2
        go_ret
        exact ⟨by rw [hbad.out]; rfl, B2.out⟩
    · obtain rfl : k = s.size := by omega
      have hnx := fun ty => run_next_end_at (P := Try.prog) wr w.heap.size s s.size ty hS.out.1.1 (by omega)
      have B := hd hS.out.1.2
      have hf : Hid (fillB s.data.toList = decide (s.size ≤ 64)) := by
        show _ = _
        have h := hS.out.2
        rw [List.take_of_length_le (by rw [HL.out]; omega)] at h
        unfold fillB
        rw [List.all_eq_true.2 h, HL.out]
        rfl
      clear hS IP
      by_cases h6 : s.size ≤ 64
      · have h6' : (s.size : Int) ≤ 64 := by omega
        have e : Hid (fillB s.data.toList = true) := by show _ = _; rw [hf.out]; simpa using h6
        clear hf h6
        go_wp2
        go_ret
        exact ⟨by rw [e.out]; rfl, B.out⟩
      · have h6' : ¬ (s.size : Int) ≤ 64 := by omega
        have e : Hid (fillB s.data.toList = false) := by show _ = _; rw [hf.out]; simpa using h6
        clear hf h6
        go_wp2
        go_ret
        exact ⟨by rw [e.out]; rfl, B.out⟩

set_option maxRecDepth 100000 in
set_option maxHeartbeats 4000000 in
theorem pattern_any (s : ByteArray) (w : World) (hs : s.size ≤ 9223372036854775807) : Calls Try.prog 31 #[.string s] w fun e w' => e = .returned (.bool (patB s.data.toList)) ∧ Below w.heap.size w w' := by
  have CF := hd (filling_any s w hs)
  have HT := hd (toL s)
  by_cases h : s.toList = []
  · have e : Hid (patB s.data.toList = false) := by
      show _ = _
      rw [← HT.out, h]
      rfl
    go_enter Try.func31, Try.ntmps31
    go_wp2
    go_ret
    exact ⟨by rw [e.out]; rfl, Below.refl _ _⟩
  · have e : Hid (patB s.data.toList = fillB s.data.toList) := by
      show _ = _
      unfold patB
      rw [← HT.out]
      simp [h]
    have h2 : s.toList.isEmpty = false := by cases hq : s.toList with
      | nil => exact absurd hq h
      | cons a b => rfl
    go_enter Try.func31, Try.ntmps31
    go_wp2_with (go_at_call 34; refine CF.out.mono ?_; rintro e w1 ⟨rfl, hb⟩)
    go_ret
    exact ⟨by rw [e.out]; rfl, hb⟩

/-- What an index at block x is asked with. -/
theorem IX.cells {w : World} {x : Nat} {T : By} (h : IX w x T) : ∃ a n c ps, w.cell? ⟨x, 0, none⟩ = some (.slice a n c) ∧ w.cell? ⟨x, 1, none⟩ = some (.int .i64 ((T.length : Nat) : Int)) ∧ IsP w a n c ps ∧ txP ps = T := by
  obtain ⟨a, n, c, ps, h1, h2, h3⟩ := h
  have c0 := cell_row h1 0
  have c1 := cell_row h1 1
  simp at c0 c1
  exact ⟨a, n, c, ps, c0, c1, h2, h3⟩
theorem IX.len {w : World} {x : Nat} {T : By} (h : IX w x T) : x < w.heap.size := by
  obtain ⟨a, n, c, ps, h1, h2, h3⟩ := h
  exact block_lt h1

theorem below_drew (w : World) : Below w.heap.size w w.drew := ⟨rfl, rfl, rfl, Nat.le_refl _, fun _ _ => rfl⟩
theorem IsN.mono {w w1 W : World} {v : Value} {l : List Nat} (h : IsN w1 W v l) (hle : w.heap.size ≤ w1.heap.size) : IsN w W v l := by
  obtain ⟨β, h1, h2⟩ := h
  exact ⟨β, h1, fun g hg => Nat.le_trans hle (h2 g hg)⟩

set_option maxRecDepth 100000 in
set_option maxHeartbeats 4000000 in
theorem find_bad (x : Nat) (s : ByteArray) (w : World) (hs : s.size ≤ 9223372036854775807) (hp : patB s.data.toList = false) :
    Calls Try.prog 12 #[.pointer (some ⟨x, 0, none⟩), .string s] w fun e w' => e = .returned (.tuple #[.slice none 0 0, .int .i64 240]) ∧ Below w.heap.size w w' := by
  have CF := pattern_any s w hs
  rw [hp] at CF
  have CF := hd CF
  clear hp
  go_enter Try.func12, Try.ntmps12
  go_wp2_with (go_at_call 31; refine CF.out.mono ?_; rintro e w1 ⟨rfl, hb⟩)
  go_ret2
  exact ⟨rfl, hb⟩
set_option maxRecDepth 100000 in
set_option maxHeartbeats 4000000 in
theorem find_good (x : Nat) (T : By) (s : ByteArray) (w : World) (hI : IX w x T) (hT : T.length ≤ 4000000000) (hp : patB s.data.toList = true) :
    Calls Try.prog 12 #[.pointer (some ⟨x, 0, none⟩), .string s] w fun e w' => ∃ v, e = .returned (.tuple #[v, .int .i64 0]) ∧ IsN w w' v (plc T s.data.toList) ∧ Below w.heap.size w w' := by
  obtain ⟨p1, p64, pc⟩ := (patB_iff _).1 hp
  have CF := pattern_any s w (by have : s.data.toList.length = s.size := by simp
                                 omega)
  rw [hp] at CF
  have CF := hd CF
  have HI := hd hI
  have HT := hd hT
  have P1 := hd p1
  have P64 := hd p64
  have PC := hd pc
  clear hp hI p1 p64 pc hT
  go_enter Try.func12, Try.ntmps12
  go_wp2_with (go_at_call 31; refine CF.out.mono ?_; rintro e w1 ⟨rfl, hb⟩)
  obtain ⟨a, n, c, ps, c0, c1, hP, hTx⟩ := (HI.out.below hb).cells
  have HB := hd hb
  have HPL := hd (fun W (hW : Below w1.heap.size w1 W) => places_any a n c ps s 0 T.length W (hP.below hW) (by rw [hTx]; exact HT.out) (by omega) (by have := HT.out; omega) (by
    rw [hTx]
    rcases Nat.eq_zero_or_pos T.length with h | h
    · exact .inr (List.length_eq_zero_iff.1 h)
    · exact .inl h) (by have := P64.out; simpa using this) (by have := P1.out; simpa using this) (fun k h => by
      have := (PC.out _ (List.getElem_mem (show k < s.data.toList.length by simpa using h))).2
      rw [gets s k h] at this
      omega))
  have e : Hid ((fnd (txP ps) s.data.toList (0 : Int).toNat ((txP ps).length - (0 : Int).toNat)).take T.length = plc T s.data.toList) := by
    show _ = _
    rw [hTx]
    exact List.take_of_length_le (fnd_len P1.out)
  clear hP hTx hb
  go_region_with (go_at_call 32; refine (HPL.out _ (below_drew _)).mono ?_; rintro e2 w2 ⟨v, rfl, hN, hb2⟩)
  all_goals
    go_wp2
    go_ret2
    rw [e.out] at hN
    exact ⟨_, rfl, hN.mono HB.out.size, HB.out.trans (((below_drew _).trans hb2).mono HB.out.size)⟩

set_option maxRecDepth 100000 in
set_option maxHeartbeats 4000000 in
theorem next_bad (x : Nat) (s : ByteArray) (pos : Int) (w : World) (hs : s.size ≤ 9223372036854775807) (hp : patB s.data.toList = false) :
    Calls Try.prog 15 #[.pointer (some ⟨x, 0, none⟩), .string s, .int .i64 pos] w fun e w' => e = .returned (.tuple #[.int .i64 0, .int .i64 240]) ∧ Below w.heap.size w w' := by
  have CF := pattern_any s w hs
  rw [hp] at CF
  have CF := hd CF
  clear hp
  go_enter Try.func15, Try.ntmps15
  go_wp2_with (go_at_call 31; refine CF.out.mono ?_; rintro e w1 ⟨rfl, hb⟩)
  go_ret2
  exact ⟨rfl, hb⟩

/-- The first place from pos on; -1: none. -/
def nxP (T p : By) (pos : Int) : Int := match (plc T p).filter (fun q => decide (pos ≤ ((q : Nat) : Int))) with | [] => -1 | q :: _ => ((q : Nat) : Int)
theorem fnd_pos {T p : By} (hp : 1 ≤ p.length) (pos : Int) : fnd T p pos.toNat (T.length - pos.toNat) = (plc T p).filter (fun q => decide (pos ≤ ((q : Nat) : Int))) := by
  by_cases h : pos.toNat ≤ T.length
  · rw [fnd_from hp h]
    refine List.filter_congr fun q _ => ?_
    rw [decide_eq_decide]
    omega
  · have e : T.length - pos.toNat = 0 := by omega
    rw [e, fnd_zero hp]
    symm
    rw [List.filter_eq_nil_iff]
    intro q hq
    unfold plc at hq
    rcases fnd_mem.1 hq with ⟨h1, h2, h3⟩ | ⟨h1, h2⟩
    · simp
      omega
    · omega
theorem nxP_nil {T p : By} {pos : Int} (h : (plc T p).filter (fun q => decide (pos ≤ ((q : Nat) : Int))) = []) : nxP T p pos = -1 := by unfold nxP; rw [h]
theorem nxP_cons {T p : By} {pos : Int} {q : Nat} {r : List Nat} (h : (plc T p).filter (fun q => decide (pos ≤ ((q : Nat) : Int))) = q :: r) : nxP T p pos = ((q : Nat) : Int) := by unfold nxP; rw [h]

set_option maxRecDepth 100000 in
set_option maxHeartbeats 4000000 in
theorem next_good (x : Nat) (T : By) (s : ByteArray) (pos : Int) (w : World) (hI : IX w x T) (hT : T.length ≤ 4000000000) (hp : patB s.data.toList = true) (hpos : pos ≤ 9223372036854775807) :
    Calls Try.prog 15 #[.pointer (some ⟨x, 0, none⟩), .string s, .int .i64 pos] w fun e w' => e = .returned (.tuple #[.int .i64 (nxP T s.data.toList pos), .int .i64 0]) ∧ Below w.heap.size w w' := by
  obtain ⟨p1, p64, pc⟩ := (patB_iff _).1 hp
  have CF := pattern_any s w (by have : s.data.toList.length = s.size := by simp
                                 omega)
  rw [hp] at CF
  have CF := hd CF
  have HI := hd hI
  have HT := hd hT
  have P1 := hd p1
  have P64 := hd p64
  have PC := hd pc
  have HPos := hd hpos
  clear hp hI p1 p64 pc hT hpos
  go_enter Try.func15, Try.ntmps15
  go_upto_region 3 with (go_at_call 31; refine CF.out.mono ?_; rintro e w1 ⟨rfl, hb⟩)
  obtain ⟨a, n, c, ps, c0, c1, hP, hTx⟩ := (HI.out.below hb).cells
  have HB := hd hb
  have HPL := hd (places_any a n c ps s pos 1 w1 hP (by rw [hTx]; exact HT.out) HPos.out (by omega) (.inl (Nat.le_refl _)) (by have := P64.out; simpa using this) (by have := P1.out; simpa using this) (fun k h => by
      have := (PC.out _ (List.getElem_mem (show k < s.data.toList.length by simpa using h))).2
      rw [gets s k h] at this
      omega))
  have e : Hid ((fnd (txP ps) s.data.toList pos.toNat ((txP ps).length - pos.toNat)).take 1 = ((plc T s.data.toList).filter (fun q => decide (pos ≤ ((q : Nat) : Int)))).take 1) := by
    show _ = _
    rw [hTx, fnd_pos P1.out]
  clear hP hTx hb c1
  go_upto_region 4 with (go_at_call 32; refine HPL.out.mono ?_; rintro e2 w2 ⟨v, rfl, hN, hb2⟩)
  rw [e.out] at hN
  obtain ⟨a', c', rfl, -, hnc, hc63, hrow⟩ := hN.isL
  have B2 := hd (HB.out.trans (hb2.mono HB.out.size))
  clear HPL c0 hb2 hN e CF
  cases hf : (plc T s.data.toList).filter (fun q => decide (pos ≤ ((q : Nat) : Int))) with
  | nil =>
    rw [hf] at hnc hrow
    have E := hd (nxP_nil hf)
    clear hf hrow
    simp only [List.take_nil, List.length_nil] at *
    go_wp2
    go_ret2
    exact ⟨by rw [E.out]; rfl, B2.out⟩
  | cons q r =>
    rw [hf] at hnc hrow
    have E := hd (nxP_cons hf)
    clear hf
    simp only [List.take_succ_cons, List.take_zero, List.length_cons, List.length_nil, Nat.zero_add] at *
    obtain ⟨b, off, rfl, hb, hcell⟩ := hrow (by omega)
    have ck := hcell 0 (by omega)
    simp only [Nat.add_zero, List.getElem_cons_zero] at ck
    clear hcell hrow
    go_wp2
    go_ret2
    exact ⟨by rw [E.out]; rfl, B2.out⟩
end Go.Proofs.Ytlmgogonghafeaa
