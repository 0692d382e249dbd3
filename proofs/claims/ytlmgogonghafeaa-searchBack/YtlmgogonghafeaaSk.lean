/-
  The law's swapped.
-/
import Derived.Test.YtlmgogonghafeaaSq
import Derived.Test.YtlmgogonghafeaaCc
import Derived.Lib.AppendStr
namespace Go.Proofs.Ytlmgogonghafeaa
open Go.RowKit Go.Lib
set_option linter.unusedVariables false

/-- Bytes of one's own, by the kit's row. -/
def BsI (w wr : World) (v : Value) (bs : By) : Prop := wr.ownsRow w.heap.size 5 1 v bs.length (bs.map ub) ∧ Below w.heap.size w wr
theorem BsI.nil (w : World) : BsI w w (.slice none 0 0) [] := ⟨World.ownsRow_nil w _ _ _, Below.refl _ _⟩
theorem BsI.str {w wr : World} {v : Value} {bs : By} (h : BsI w wr v bs) (s : ByteArray) (hs : bs.length + s.size ≤ 1000000000) :
    ∃ v' w', (∀ ty, (Builtin.append_ #[41, 9] ty #[v, .string s]).run Try.prog wr = .ok v' w') ∧ BsI w w' v' (bs ++ s.data.toList) := by
  obtain ⟨i0, hi0, hz0, hz1, hz2⟩ := info_parts Try.infoB
  have sl : s.data.toList.length = s.size := by simp
  obtain ⟨v', w', hr, h2, h3, -⟩ := run_append_own_string (P := Try.prog) wr w.heap.size 41 9 0 5 i0 Try.underlying41 Try.underlying9 hi0 hz0 hz1 hz2 v bs.length (bs.map ub) h.1 s (by unfold maxLen; omega) (by omega) h.2.size
  refine ⟨v', w', fun ty => hr, ?_, h.2.grown h3 h.2.size (fun k hk => (World.ownsRow.lt h.1 k hk).1)⟩
  rw [List.length_append, sl, List.map_append]
  exact h2
theorem BsI.byte {w wr : World} {v : Value} {bs : By} (h : BsI w wr v bs) (x : UInt8) (hs : bs.length ≤ 1000000000) :
    ∃ v' w', (∀ ty, (Builtin.append_ #[41, 41] ty #[v, .slice (some ⟨wr.heap.size, 0, none⟩) 1 1]).run Try.prog (wr.alloc (.cells #[.int .u8 ((x.toNat : Nat) : Int)] 5)) = .ok v' w') ∧ BsI w w' v' (bs ++ [x]) := by
  obtain ⟨i0, hi0, hz0, hz1, hz2⟩ := info_parts Try.infoB
  have b1 : Below wr.heap.size wr (wr.alloc (.cells #[.int .u8 ((x.toNat : Nat) : Int)] 5)) := (Below.refl _ _).alloc (Nat.le_refl _) _
  have hB : Below w.heap.size w (wr.alloc (.cells #[.int .u8 ((x.toNat : Nat) : Int)] 5)) := h.2.trans (b1.mono h.2.size)
  have hO : (wr.alloc (.cells #[.int .u8 ((x.toNat : Nat) : Int)] 5)).ownsRow w.heap.size 5 1 v bs.length (bs.map ub) := by
    obtain ⟨h1, h2⟩ := h.1
    refine ⟨h1, ?_⟩
    rcases h2 with h2 | ⟨g, cap, cur, e, hg, hh, r⟩
    · exact .inl h2
    · exact .inr ⟨g, cap, cur, e, hg, by rw [b1.block g (block_lt hh)]; exact hh, r⟩
  obtain ⟨v', w', hr, h2, h3, -⟩ := run_append_own (P := Try.prog) (wr.alloc (.cells #[.int .u8 ((x.toNat : Nat) : Int)] 5)) w.heap.size 41 0 5 i0 _ 1 1 Try.underlying41 hi0 hz0 hz1 hz2 rfl (by omega) v bs.length (bs.map ub) hO ⟨wr.heap.size, 0, none⟩ 1 1 [ub x] rfl (fun j u hj => by
    rw [add_lit, Nat.zero_add, cell_row (heap_alloc_new wr _)]
    cases j with
    | zero => simpa [ub] using hj
    | succ j => simp at hj) (fun u hu => by simp at hu; subst hu; rfl) (by unfold maxLen; omega) (by omega) hB.size
  refine ⟨v', w', fun ty => hr, ?_, hB.grown h3 hB.size (fun k hk => (World.ownsRow.lt hO k hk).1)⟩
  rw [List.length_append, List.map_append]
  exact h2
theorem BsI.text {w wr : World} {v : Value} {bs : By} (h : BsI w wr v bs) : (convert 41 9 v).run Try.prog wr = .ok (.string (bsA bs)) wr := by
  obtain ⟨⟨h1, h2⟩, -⟩ := h
  rcases h2 with ⟨rfl, hn⟩ | ⟨g, cap, cur, rfl, hg, hh, hnc, hcm, hcs, htk⟩
  · obtain rfl := List.length_eq_zero_iff.1 hn
    rw [run_convert_bytes_string wr 41 9 5 _ _ _ Try.underlying41 Try.underlying5 Try.underlying9]
    simp [Conv.bytesToString, bsA, Sem.run_pure]
    rfl
  · refine run_str wr g 0 bs.length cap bs rfl (fun j hj => ?_)
    rw [Nat.zero_add, cell_row hh]
    have e : (cur.toList.take (bs.length * 1))[j]? = some (ub bs[j]) := by rw [htk]; simp [hj]
    rw [List.getElem?_take] at e
    by_cases hj2 : j < bs.length * 1
    · rw [if_pos hj2] at e
      simpa using e
    · omega

theorem sc_len {T p q : By} : ∀ f i : Nat, (sc T p q f i).1.length ≤ f ∧ (sc T p q f i).2.length ≤ f * (q.length + 1)
  | 0, i => ⟨by simp [sc], by simp [sc]⟩
  | f + 1, i => by
    rw [sc]
    have e : (f + 1) * (q.length + 1) = f * (q.length + 1) + (q.length + 1) := Nat.succ_mul f (q.length + 1)
    by_cases hi : i < T.length
    · rw [if_pos hi]
      by_cases hs : stB T p i = true
      · rw [if_pos hs]
        have := sc_len (T := T) (p := p) (q := q) f (i + p.length)
        simp only [List.length_cons, List.length_append]
        omega
      · rw [if_neg hs]
        have := sc_len (T := T) (p := p) (q := q) f (i + 1)
        simp only [List.length_cons]
        omega
    · rw [if_neg hi]
      simp

/-- Where the law's look stands. -/
def SkS (w : World) (T p q : By) (v : Value) (n i : Nat) (wr : World) : Prop :=
  ∃ bs f, BsI w wr v bs ∧ (sc T p q T.length 0).2 = bs ++ (sc T p q f i).2 ∧ (sc T p q T.length 0).1.length = n + (sc T p q f i).1.length ∧ T.length ≤ i + f

set_option maxRecDepth 100000 in
set_option maxHeartbeats 4000000 in
theorem swapped_any (T p q : ByteArray) (w : World) (hT : T.size ≤ 1000000) (h1 : 1 ≤ p.size) (hp : p.size ≤ 64) (hq : q.size ≤ 64) :
    Calls Try.prog 21 #[.string T, .string p, .string q] w fun e w' => e = .returned (.tuple #[.string (bsA (sc T.data.toList p.data.toList q.data.toList T.size 0).2), .int .i64 (((sc T.data.toList p.data.toList q.data.toList T.size 0).1.length : Nat) : Int)]) ∧ Below w.heap.size w w' := by
  have tl' : T.data.toList.length = T.size := by simp
  have pl : p.data.toList.length = p.size := by simp
  have ql : q.data.toList.length = q.size := by simp
  have TL := hd tl'
  have PL := hd pl
  have QL := hd ql
  have CA := hd (fun i (hi : i ≤ 9000000000000000000) W => at_any T p i W (by omega) (by omega) h1 hi)
  clear tl' pl ql
  go_enter Try.func21, Try.ntmps21
  go_upto_region 4 with fail
  go_loopw [8, 9, 10] (fun v nv iv wr => ∃ n i : Nat, i ≤ T.size ∧ n ≤ T.size ∧ iv = .int .i64 i ∧ nv = .int .i64 n ∧ Hid (SkS w T.data.toList p.data.toList q.data.toList v n i wr)) (fun _ _ iv _ => T.size - (intOf iv).toNat)
  case atStart => exact ⟨0, 0, Nat.zero_le _, Nat.zero_le _, rfl, rfl, [], T.size, BsI.nil w, by rw [TL.out]; rfl, by rw [TL.out]; simp, by rw [TL.out]; omega⟩
  case round =>
    obtain ⟨n, i, hi, hn, rfl, rfl, HS⟩ := hrel
    by_cases hlt : i < T.size
    · have C := CA.out i (by omega)
      obtain ⟨bs, f, b1, b2, b3, b4⟩ := HS.out
      obtain ⟨f0, rfl⟩ : ∃ f0, f = f0 + 1 := ⟨f - 1, by rw [TL.out] at b4; omega⟩
      have hbl : bs.length ≤ 65000000 := by
        have h1 := (sc_len (T := T.data.toList) (p := p.data.toList) (q := q.data.toList) T.data.toList.length 0).2
        rw [b2, List.length_append, TL.out, QL.out] at h1
        have h2 : T.size * (q.size + 1) ≤ 1000000 * 65 := Nat.mul_le_mul hT (by omega)
        omega
      have hnl := (sc_len (T := T.data.toList) (p := p.data.toList) (q := q.data.toList) T.data.toList.length 0).1
      rw [b3, TL.out] at hnl
      rw [sc, if_pos (by rw [TL.out]; exact hlt)] at b2 b3
      rw [sc, if_pos (by rw [TL.out]; exact hlt)] at hnl
      cases hst : stB T.data.toList p.data.toList i with
      | true =>
        rw [hst] at C
        rw [if_pos hst] at b2 b3 hnl
        have hle := st_le (T := T.data.toList) (p := p.data.toList) (by rw [PL.out]; exact h1) i hst
        rw [TL.out, PL.out] at hle
        obtain ⟨v', w', hr, hB'⟩ := b1.str q (by omega)
        have Z : Hid (SkS w T.data.toList p.data.toList q.data.toList v' (n + 1) (i + p.size) w') := by
          refine ⟨_, f0, hB', by rw [b2, PL.out]; simp, by rw [b3, PL.out]; simp; omega, by omega⟩
        have hn2 : n + 1 ≤ T.size := by simp at hnl; omega
        have C := hd C
        clear b1 b2 b3 b4 hnl hB' HS hst
        go_wp2_with (first
          | (go_at_call 33; refine (C.out _).mono ?_; rintro e w2 ⟨rfl, rfl⟩)
          | (at_builtin; refine wpList_append_k _ rfl _ _ 41 9 rfl _ _ rfl rfl (hr _) ?_))
        exact ⟨⟨n + 1, i + p.size, by omega, hn2, by go_num, by go_num, Z⟩, by simp only [intOf]; omega⟩
      | false =>
        rw [hst] at C
        rw [if_neg (by rw [hst]; decide)] at b2 b3 hnl
        obtain ⟨v', w', hr, hB'⟩ := b1.byte (T[i]'hlt) (by omega)
        have Z : Hid (SkS w T.data.toList p.data.toList q.data.toList v' n (i + 1) w') := by
          refine ⟨_, f0, hB', ?_, by rw [b3], by omega⟩
          rw [b2, List.append_assoc]
          congr 1
          simp [List.getD, hlt]
          rfl
        have C := hd C
        clear b1 b2 b3 b4 hnl hB' HS hst
        go_wp2_with (first
          | (go_at_call 33; refine (C.out _).mono ?_; rintro e w2 ⟨rfl, rfl⟩)
          | (at_builtin; refine wpList_append_k _ rfl _ _ 41 41 rfl _ _ rfl rfl (hr _) ?_))
        exact ⟨⟨n, i + 1, by omega, hn, by go_num, rfl, Z⟩, by simp only [intOf]; omega⟩
    · obtain rfl : i = T.size := by omega
      obtain ⟨bs, f, b1, b2, b3, b4⟩ := HS.out
      have e0 : (sc T.data.toList p.data.toList q.data.toList f T.size) = ([], []) := by
        cases f with
        | zero => rfl
        | succ f => rw [sc, if_neg (by rw [TL.out]; omega)]
      rw [e0, List.append_nil] at b2
      rw [e0] at b3
      have hst := b1.text
      have HB := hd b1.2
      have B2 := hd b2
      have B3 := hd b3
      rw [TL.out] at B2 B3
      clear b1 b2 b3 b4 e0 HS
      go_wp2_with (simp only [hst])
      go_ret2
      exact ⟨by rw [B2.out, B3.out]; rfl, HB.out⟩
end Go.Proofs.Ytlmgogonghafeaa
