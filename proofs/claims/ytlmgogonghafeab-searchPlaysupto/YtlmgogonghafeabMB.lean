/-
  Texts put together: Bt Ea Nd.
-/
import Derived.Test.YtlmgogonghafeabMC
import Derived.Test.YtlmgogonghafeabMA
import Derived.Lib.BufferMore
import Derived.WalkMore
import Derived.Deep.DeepCutAuto
/-! Bt -/
namespace Go.Proofs.Ytlmgogonghafeab
open Go.RowKit Go.Lib
set_option linter.unusedVariables false

theorem frozen_rowF {w : World} {r : Nat} {cur : Array Value} {t : TypeId} {lo hi : Nat} (h : w.heap[r]? = some (.cells cur t (lo, hi))) (i : Nat) (hi : i < lo) : w.frozen? ⟨r, i, none⟩ = false := by
  simp [World.frozen?, h]
  omega
theorem cell_rowF {w : World} {r : Nat} {cur : Array Value} {t : TypeId} {fr : Nat × Nat} (h : w.heap[r]? = some (.cells cur t fr)) (i : Nat) : w.cell? ⟨r, i, none⟩ = cur[i]? := by
  obtain ⟨lo, hi⟩ := fr
  simp [World.cell?, h]

/-- The row that a conversion of a string makes: its bytes, z zeros, the mark behind. -/
def BRow (w : World) (g : Nat) (bs : By) (z : Nat) : Prop :=
  w.heap[g]? = some (.cells (bs.map ub ++ List.replicate z (Value.int .u8 0)).toArray 5 (bs.length + z, bs.length + z + 1))
section
variable {w w' : World} {g z : Nat} {bs : By}
theorem BRow.fr {S : Nat → Prop} (h : BRow w g bs z) (hF : Fr S w w') (hS : ¬ S g) : BRow w' g bs z := hF.keeps h hS
theorem BRow.lt (h : BRow w g bs z) : g < w.heap.size := block_lt h
theorem BRow.cell (h : BRow w g bs z) (i : Nat) (hi : i < bs.length) : w.cell? ⟨g, i, none⟩ = some (ub bs[i]) := by
  rw [cell_rowF h, List.getElem?_toArray, List.getElem?_append_left (by simpa using hi), List.getElem?_map, List.getElem?_eq_getElem hi]
  rfl
theorem BRow.frozen (h : BRow w g bs z) (i : Nat) (hi : i < bs.length) : w.frozen? ⟨g, i, none⟩ = false := frozen_rowF h i (by omega)
theorem BRow.set (h : BRow w g bs z) (i : Nat) (hi : i < bs.length) (c : UInt8) : BRow (w.setCell ⟨g, i, none⟩ (ub c)) g (bs.set i c) z := by
  have := Lib.heap_setCell_same (i := i) h (ub c)
  unfold BRow
  rw [this]
  simp only [List.setIfInBounds_toArray, List.length_set]
  rw [List.set_append_left _ _ (by simpa using hi), List.map_set]
end
theorem bytes_row (w : World) (s : ByteArray) : BRow (bytesWorld w 5 s) w.heap.size s.data.toList (grownCap w s.size 0 5 - s.size) := by
  have h := bytesWorld_at_new w 5 s
  unfold BRow
  rw [h]
  have e : bytesCells w 5 s = (s.data.toList.map ub ++ List.replicate (grownCap w s.size 0 5 - s.size) (Value.int .u8 0)).toArray := by
    apply Array.toList_inj.1
    simp [bytesCells, ub]
  have hs : (bytesCells w 5 s).size = s.data.toList.length + (grownCap w s.size 0 5 - s.size) := by
    rw [e]; simp
  rw [hs, e]
theorem bytes_below (w : World) (s : ByteArray) : Below w.heap.size w (bytesWorld w 5 s) := ⟨rfl, rfl, rfl, by rw [bytesWorld_size]; omega, fun k hk => bytesWorld_at_old w _ s k hk⟩

/-- The string of bytes. -/
def bsA (l : By) : ByteArray := ⟨l.toArray⟩
theorem bsA_list (l : By) : (bsA l).data.toList = l := rfl
theorem bsA_size (l : By) : (bsA l).size = l.length := by simp [bsA, ByteArray.size]
theorem bsA_get (l : By) (k : Nat) (h : k < (bsA l).size) : (bsA l)[k]'h = l[k]'(by rwa [bsA_size] at h) := rfl
theorem bstr_from (l : By) : ∀ r : ByteArray, (l.map (fun b => ((b.toNat : Nat) : Int))).foldl (fun r n => r.push (UInt8.ofNat n.toNat)) r = ⟨r.data ++ l.toArray⟩ := by
  induction l with
  | nil => intro r; cases r; simp
  | cons b l ih =>
    intro r
    rw [List.map_cons, List.foldl_cons, ih]
    have : UInt8.ofNat ((b.toNat : Int)).toNat = b := by rw [Int.toNat_natCast, UInt8.ofNat_toNat]
    rw [this]
    congr 1
    apply Array.toList_inj.1
    simp [ByteArray.push]
theorem bstr_of (l : By) : bstr (l.map (fun b => ((b.toNat : Nat) : Int))) = bsA l := by
  unfold bstr bsA
  rw [bstr_from]
  congr 1
  simp [ByteArray.empty, ByteArray.emptyWithCapacity]
  rfl
/-- The string of a part of a row of bytes. -/
theorem run_str (w : World) (g off n c : Nat) (l : By) (hl : l.length = n) (hc : ∀ j (h : j < l.length), w.cell? ⟨g, off + j, none⟩ = some (ub l[j])) :
    (convert 35 9 (.slice (some ⟨g, off, none⟩) n c)).run Try.prog w = .ok (.string (bsA l)) w := by
  rw [run_convert_bytes_string w 35 9 5 _ _ _ Try.underlying35 Try.underlying5 Try.underlying9, ← bstr_of]
  refine run_bytesToString w ⟨g, off, none⟩ n c _ ?_
  have := run_loadCells_list (P := Try.prog) w ⟨g, off, none⟩ (l.map ub) (fun j v hj => by
    rw [List.getElem?_map] at hj
    have hlt : j < l.length := by
      by_cases h : j < l.length
      · exact h
      · rw [List.getElem?_eq_none (by omega)] at hj; cases hj
    rw [List.getElem?_eq_getElem hlt] at hj
    rw [add_lit, hc j hlt]
    exact hj)
  rw [List.length_map, hl] at this
  rw [this]
  congr 1
  simp [ub]
end Go.Proofs.Ytlmgogonghafeab

/-! Ea -/
namespace Go.Proofs.Ytlmgogonghafeab
open Go.RowKit
set_option linter.unusedVariables false

def roomy (n bytes : Nat) : Prop := (n + n / 4 + 192) * bytes ≤ 281474976710656 ∧ n ≤ 9223372036854775807
theorem sz_elc : Sz elc 3 := fun x => ⟨rfl, fun v hv => by simp [elc] at hv; rcases hv with rfl | rfl | rfl <;> rfl⟩
theorem se_sf {w : World} {β : Option Nat} {v : Value} {xs : List El} (h : SE w β v xs) : SF elc 3 w 25 β v xs := by
  cases β with
  | none => exact h
  | some g => exact h
theorem sf_se {w : World} {β : Option Nat} {v : Value} {xs : List El} (h : SF elc 3 w 25 β v xs) : SE w β v xs := by
  cases β with
  | none => exact h
  | some g => exact h
theorem push_el (w : World) (β : Option Nat) (v : Value) (xs : List El) (hS : SF elc 3 w 25 β v xs) (x0 x1 x2 : Int) (hroom : roomy (xs.length + 1) 24) :
    ∃ v' w', (∀ ty, (Builtin.append_ #[22, 22] ty #[v, .slice (some ⟨w.heap.size, 0, none⟩) 1 1]).run Try.prog (w.alloc (.cells #[.int .u8 x0, .int .i64 x1, .int .i64 x2] 25)) = .ok v' w') ∧ NowF elc 3 (w.alloc (.cells #[.int .u8 x0, .int .i64 x1, .int .i64 x2] 25)) w' 25 β v' (xs ++ [(x0, x1, x2)]) := by
  obtain ⟨i0, hi0, hz0, hz1, hz2⟩ := info_parts Try.infoE
  have hz := heap_alloc_new w (.cells #[.int .u8 x0, .int .i64 x1, .int .i64 x2] 25)
  obtain ⟨v', w', hr, hN⟩ := run_pushF sz_elc (P := Try.prog) (w.alloc (.cells #[.int .u8 x0, .int .i64 x1, .int .i64 x2] 25)) 22 0 25 i0 _ 24 Try.underlying22 hi0 hz0 hz1 rfl hz2 β v xs (hS.fr (Fr.alloc (fun _ => False) _ _) (fun _ _ h => h)) ⟨w.heap.size, 0, none⟩ 1 1 [(x0, x1, x2)] rfl (fun j u hj => by
    rw [add_lit, Nat.zero_add, cell_row hz]
    simp only [cl_one, elc] at hj
    simpa using hj) (by omega) hroom.2 hroom.1
  exact ⟨v', w', fun ty => hr, hN⟩

/-- A text in memory of one's own. -/
def TxI (w wr : World) (v : Value) (xs : List El) : Prop := ∃ β, SF elc 3 wr 25 β v xs ∧ (∀ k, β = some k → w.heap.size ≤ k) ∧ Below w.heap.size w wr
theorem TxI.push {w wr : World} {v : Value} {xs : List El} (h : TxI w wr v xs) (x0 x1 x2 : Int) (hroom : roomy (xs.length + 1) 24) :
    ∃ v' w', (∀ ty, (Builtin.append_ #[22, 22] ty #[v, .slice (some ⟨wr.heap.size, 0, none⟩) 1 1]).run Try.prog (wr.alloc (.cells #[.int .u8 x0, .int .i64 x1, .int .i64 x2] 25)) = .ok v' w') ∧ TxI w w' v' (xs ++ [(x0, x1, x2)]) := by
  obtain ⟨β, h1, h2, h3⟩ := h
  obtain ⟨v', w', hr, g, hS, hN⟩ := push_el wr β v xs h1 x0 x1 x2 hroom
  have hB : Below w.heap.size w (wr.alloc (.cells #[.int .u8 x0, .int .i64 x1, .int .i64 x2] 25)) := h3.alloc h3.size _
  refine ⟨v', w', hr, some g, hS, fun k hk => ?_, ?_⟩
  · cases hk
    rcases hN with ⟨e, -⟩ | ⟨e, -⟩
    · exact h2 _ e
    · rw [e]; exact hB.size
  · rcases hN with ⟨e, hf⟩ | ⟨e, hf⟩
    · exact hB.trans (hf.below hB.size (fun k hk => by rw [hk]; exact h2 g e))
    · exact hB.trans (hf.below hB.size (fun k hk => hk.elim))
theorem TxI.isE {w wr : World} {v : Value} {xs : List El} (h : TxI w wr v xs) : ∃ a c, v = .slice a xs.length c ∧ IsE wr a xs.length c xs ∧ ∀ b off, a = some ⟨b, off, none⟩ → w.heap.size ≤ b := by
  obtain ⟨β, h1, h2, h3⟩ := h
  obtain ⟨a, c, hv, hE, hb⟩ := (sf_se h1).form
  exact ⟨a, c, hv, hE, fun b off e => h2 _ (hb b off e)⟩
theorem TxI.below {w wr wx : World} {v : Value} {xs : List El} (h : TxI w wr v xs) (hb : Below wr.heap.size wr wx) : TxI w wx v xs := by
  obtain ⟨β, h1, h2, h3⟩ := h
  exact ⟨β, h1.fr (S := fun _ => False) (Fr.of_below hb) (fun _ _ h => h), h2, h3.trans (hb.mono h3.size)⟩

/-- The i-th element that elems makes of a string. -/
def eS (b : By) (i : Nat) : El := (((b.getD i 0).toNat : Int), ((1 + i / 64 % 64 : Nat) : Int), ((1 + i % 64 : Nat) : Int))
def elS (b : By) (n : Nat) : List El := (List.range n).map (eS b)
theorem elS_succ (b : By) (n : Nat) : elS b (n + 1) = elS b n ++ [eS b n] := by simp [elS, List.range_succ]
theorem elS_len (b : By) (n : Nat) : (elS b n).length = n := by simp [elS]

theorem and_lt_tt {k n m : Nat} (h : k < n) (h2 : k < m) : ((k : Int) < (n : Int)) ∧ ((k : Int) < (m : Int)) := by omega

set_option maxRecDepth 100000 in
set_option maxHeartbeats 4000000 in
theorem elems_any (s : ByteArray) (m : Nat) (w : World) (hm : m ≤ 2048) (hs : s.size ≤ 9223372036854775807) : Calls Try.prog 5 #[.string s, .int .i64 (m : Int)] w fun e w' => ∃ v, e = .returned v ∧ TxI w w' v (elS s.data.toList (min s.size m)) := by
  have HS := hd hs
  have HM := hd hm
  clear hs hm
  go_enter Try.func5, Try.ntmps5
  go_wp2
  go_loopw [5, 6] (fun v i wr => ∃ k : Nat, k ≤ min s.size m ∧ i = .int .i64 k ∧ Hid (TxI w wr v (elS s.data.toList k))) (fun _ i _ => min s.size m - (intOf i).toNat)
  case atStart => exact ⟨0, Nat.zero_le _, rfl, hd ⟨none, ⟨rfl, rfl⟩, fun k hk => (by cases hk), Below.refl _ _⟩⟩
  case round =>
    obtain ⟨k, hk, rfl, HI⟩ := hrel
    have HK := hd hk
    clear hk
    by_cases hlt : k < min s.size m
    · have h1 : k < s.size := by omega
      have h2 : k < m := by omega
      have hmm := HM.out
      obtain ⟨v', w', hr, hT⟩ := HI.out.push ((s[k]'h1).toNat : Int) (1 + (k : Int) / 64 % 64) (1 + (k : Int) % 64) (by rw [elS_len]; unfold roomy; omega)
      have Z : Hid (TxI w w' v' (elS s.data.toList (k + 1))) := by
        rw [elS_succ]
        have e : eS s.data.toList k = (((s[k]'h1).toNat : Int), 1 + (k : Int) / 64 % 64, 1 + (k : Int) % 64) := by
          unfold eS
          have : s.data.toList.getD k 0 = s[k]'h1 := by
            simp [List.getD, h1]
            rfl
          rw [this]
          push_cast
          rfl
        rw [e]
        exact hT
      have ME : Hid (min s.size m - (k + 1) < min s.size m - k) := by show _ < _; omega
      clear hT HI hlt
      go_wp2_with (at_builtin; refine wpList_append_k _ rfl _ _ 22 22 rfl _ _ rfl rfl (hr _) ?_)
      exact ⟨⟨k + 1, by omega, by go_num, Z⟩, by simp only [intOf]; exact ME.out⟩
    · have ek : k = min s.size m := by have := HK.out; omega
      have Z := hd HI.out
      rw [ek] at Z
      have HE := hd ek
      by_cases h1 : k < s.size
      · have h2 : ¬ k < m := by omega
        clear hlt ek HI
        go_wp2
        go_ret
        exact ⟨_, rfl, Z.out⟩
      · clear hlt ek HI
        go_wp2
        go_ret
        exact ⟨_, rfl, Z.out⟩
end Go.Proofs.Ytlmgogonghafeab

/-! Nd -/
namespace Go.Proofs.Ytlmgogonghafeab
open Go.RowKit Go.Lib
set_option linter.unusedVariables false

def ndC (c : UInt8) : UInt8 := if c.toNat < 32 ∨ 126 < c.toNat then UInt8.ofNat (32 + c.toNat % 95) else c
def ndP (b : By) : By := if b = [] then [97] else (b.take 64).map ndC
theorem ndC_nat (c : UInt8) : 32 ≤ (ndC c).toNat ∧ (ndC c).toNat ≤ 126 := by
  unfold ndC
  split
  · rename_i h
    rw [UInt8.toNat_ofNat', Nat.mod_eq_of_lt (by omega)]
    omega
  · rename_i h
    omega
theorem ndP_len (b : By) : 1 ≤ (ndP b).length ∧ (ndP b).length ≤ 64 := by
  unfold ndP
  split
  · simp
  · rename_i h
    have : 0 < b.length := List.length_pos_iff.2 h
    simp
    omega
theorem ndP_chars (b : By) : ∀ c ∈ ndP b, 32 ≤ c.toNat ∧ c.toNat ≤ 126 := by
  intro c hc
  unfold ndP at hc
  split at hc
  · simp at hc
    subst hc
    decide
  · obtain ⟨x, -, rfl⟩ := List.mem_map.1 hc
    exact ndC_nat x

/-- How far the loop has come. -/
def ndK (b : By) (k : Nat) : By := (b.take k).map ndC ++ b.drop k
theorem ndK_len (b : By) (k : Nat) : (ndK b k).length = b.length := by simp [ndK]; omega
theorem ndK_zero (b : By) : ndK b 0 = b := by simp [ndK]
theorem ndK_get (b : By) (k : Nat) (h : k < b.length) : (ndK b k)[k]? = some b[k] := by
  unfold ndK
  rw [List.getElem?_append_right (by simp; omega)]
  simp [Nat.min_eq_left (Nat.le_of_lt h), h]
theorem ndK_succ (b : By) (k : Nat) (h : k < b.length) : ndK b (k + 1) = (ndK b k).set k (ndC b[k]) := by
  unfold ndK
  rw [List.set_append_right _ _ (by simp; omega), List.take_succ_eq_append_getElem h, List.map_append, List.append_assoc]
  congr 1
  have e : k - (List.map ndC (List.take k b)).length = 0 := by simp; omega
  rw [e, List.drop_eq_getElem_cons h]
  rfl
theorem ndK_same (b : By) (k : Nat) (h : k < b.length) (hc : ndC b[k] = b[k]) : ndK b (k + 1) = ndK b k := by
  rw [ndK_succ b k h, hc]
  apply List.ext_getElem?
  intro i
  rw [List.getElem?_set]
  split
  · rename_i e
    subst e
    rw [ndK_get b k h]
    simp [ndK_len, h]
  · rfl
theorem ndK_take (b : By) (n : Nat) (h : n ≤ b.length) : (ndK b n).take n = (b.take n).map ndC := by
  unfold ndK
  have e : ((b.take n).map ndC).length = n := by simp; omega
  rw [List.take_append_of_le_length (by omega), List.take_of_length_le (by omega)]

/-- Within the loop. -/
def NdS (w : World) (b : By) (z k : Nat) (W : World) : Prop := BRow W w.heap.size (ndK b k) z ∧ Below w.heap.size w W
theorem NdS.step {w W : World} {b : By} {z k : Nat} (h : NdS w b z k W) (hk : k < b.length) (c : UInt8) (hc : ndC b[k] = c) : NdS w b z (k + 1) (W.setCell ⟨w.heap.size, k, none⟩ (ub c)) := by
  refine ⟨?_, h.2.setCell (Nat.le_refl _) _⟩
  rw [ndK_succ b k hk, hc]
  exact h.1.set k (by rw [ndK_len]; exact hk) c

theorem nd_val (C : Nat) (h : C < 256) : IntKind.u8.wrap (32 + (C : Int) % 95) = ((32 + C % 95 : Nat) : Int) := by
  simp [IntKind.wrap, IntKind.bits, IntKind.signed]
  omega

end Go.Proofs.Ytlmgogonghafeab
