/-
  places: the walk.
-/
import Derived.Test.YtlmgogonghafeabMS
namespace Go.Proofs.Ytlmgogonghafeab
open Go.RowKit Go.Shelf Go.Lib
set_option linter.unusedVariables false
attribute [local go_sem] Oper.semAt_some

/-- Between two characters, t of them having been read. -/
def StP (w : World) (most : Nat) (M : Nat → Nat) (a : Option Addr) (n c : Nat) (pos : Int) (p T : By) (t : Nat) (W : World) : Prop :=
  ∃ H v, PlS w w.heap.size ((most : Nat) : Int) ((p.length - 1 : Nat) : Int) M a n c pos H v (fnd T p pos.toNat t) W ∧ BS p ((T.drop pos.toNat).take t) H ∧ ((fnd T p pos.toNat t).length < most ∨ T = []) ∧ w.heap.size + 10 ≤ W.heap.size
/-- A list of numbers of the call's own. -/
def IsN (w W : World) (v : Value) (l : List Nat) : Prop := ∃ β, SF ei 1 W 3 β v (nI l) ∧ ∀ g, β = some g → w.heap.size ≤ g
/-- What is left at the end. -/
def EnP (w : World) (most : Nat) (M : Nat → Nat) (a : Option Addr) (n c : Nat) (pos : Int) (p T : By) (W : World) : Prop :=
  ∃ H v, PlS w w.heap.size ((most : Nat) : Int) ((p.length - 1 : Nat) : Int) M a n c pos H v ((fnd T p pos.toNat (T.length - pos.toNat)).take most) W
section
variable {w W W' : World} {most : Nat} {M : Nat → Nat} {a : Option Addr} {n c : Nat} {pos : Int} {p T : By} {t l : Nat} {r r' : Loop}
theorem StP.put (h : StP w most M a n c pos p T t W) (hl : W.heap[l]? = some (.loop r)) (hlB : w.heap.size + 8 ≤ l) : StP w most M a n c pos p T t (W.putObj l (.loop r')) := by
  obtain ⟨H, v, h1, h2, h3, h4⟩ := h
  exact ⟨H, v, h1.put hl (fun cs t f e => by cases e) hlB, h2, h3, by simpa [World.putObj] using h4⟩
theorem EnP.put (h : EnP w most M a n c pos p T W) (hl : W.heap[l]? = some (.loop r)) (hlB : w.heap.size + 8 ≤ l) : EnP w most M a n c pos p T (W.putObj l (.loop r')) := by
  obtain ⟨H, v, h1⟩ := h
  exact ⟨H, v, h1.put hl (fun cs t f e => by cases e) hlB⟩
theorem StP.cells {ps : List Pc} (h : StP w most M a n c pos p T t W) (hP : IsP w a n c ps) : W.cell? ⟨w.heap.size + 6, 0, none⟩ = some (.slice a n c) ∧ W.cell? ⟨w.heap.size + 7, 0, none⟩ = some (.int .i64 pos) ∧ IsP W a n c ps := by
  obtain ⟨H, v, h1, h2, h3, h4⟩ := h
  exact ⟨by have := cell_row h1.bp 0; simpa using this, by have := cell_row h1.bq 0; simpa using this, hP.below h1.bel⟩
theorem StP.fin (h : StP w most M a n c pos p T (T.length - pos.toNat) W) (hp : 1 ≤ p.length) : EnP w most M a n c pos p T W := by
  obtain ⟨H, v, h1, h2, h3, h4⟩ := h
  refine ⟨H, v, ?_⟩
  rw [List.take_of_length_le]
  · exact h1
  · rcases h3 with h3 | h3
    · omega
    · have := fnd_len (T := T) (p := p) (s0 := pos.toNat) (t := T.length - pos.toNat) hp
      have e : T.length = 0 := by rw [h3]; rfl
      omega
end

theorem shl1_val (H : Nat) : IntKind.u64.wrap ((H : Int) * 2) = ((H * 2 % 18446744073709551616 : Nat) : Int) := by
  rw [IntKind.wrap_u64]
  omega
theorem or1_val (H : Nat) (h : H < 18446744073709551616) : bits .or .u64 (H : Int) 1 = ((H ||| 1 : Nat) : Int) := by
  have := bits_or_u64_nat H 1 h (by omega)
  simpa using this
theorem or2_val (H : Nat) : bits .or .u64 (IntKind.u64.wrap ((H : Int) * 2)) 1 = ((H * 2 % 18446744073709551616 ||| 1 : Nat) : Int) := by
  rw [shl1_val]
  exact or1_val (H * 2 % 18446744073709551616) (Nat.mod_lt _ (by omega))
theorem or1_lt (H : Nat) (h : H < 18446744073709551616) : H ||| 1 < 18446744073709551616 := by
  have : (18446744073709551616 : Nat) = 2 ^ 64 := rfl
  rw [this] at h ⊢
  exact Nat.or_lt_two_pow h (by omega)
/-- A character of a piece is one of the text. -/
theorem txP_get {ps : List Pc} {j i : Nat} (hj : j < ps.length) (hi : i < ps[j].bs.length) : (txP ps)[beg ps j + i]? = some ps[j].bs[i] := by
  rw [txP_split hj, List.getElem?_append_right (by unfold beg; omega), show beg ps j + i - (txP (ps.take j)).length = i by unfold beg; omega, List.getElem?_append_left hi, List.getElem?_eq_getElem hi]
theorem seen_succ {T : By} {s0 t : Nat} {c : UInt8} (h : T[s0 + t]? = some c) : (T.drop s0).take (t + 1) = (T.drop s0).take t ++ [c] := by
  rw [List.take_add_one, List.getElem?_drop, h]
  rfl
theorem shr_val {Y L : Nat} (hL : L < 64) : (Y : Int) / 2 ^ min L 64 = ((Y / 2 ^ L : Nat) : Int) := by
  rw [Nat.min_eq_left (by omega)]
  simp
theorem fnd_hit {T p : By} {s0 t : Nat} (ht : s0 + t < T.length) (h : p <:+ (T.drop s0).take (t + 1)) : fnd T p s0 (t + 1) = fnd T p s0 t ++ [s0 + (t + 1 - p.length)] := by
  rw [fnd_succ ht, if_pos h]
theorem fnd_miss {T p : By} {s0 t : Nat} (ht : s0 + t < T.length) (h : ¬ p <:+ (T.drop s0).take (t + 1)) : fnd T p s0 (t + 1) = fnd T p s0 t := by
  rw [fnd_succ ht, if_neg h, List.append_nil]

section
variable {w w' W W' : World} {B : Nat} {most last pos : Int} {M : Nat → Nat} {a : Option Addr} {n c H : Nat} {v : Value} {fs : List Nat}
theorem PlS.drw (h : PlS w B most last M a n c pos H v fs W) : PlS w B most last M a n c pos H v fs W.drew :=
  h.fr (S := fun _ => False) (Fr.drew _ _) (fun _ h => h.elim) (fun _ _ _ _ h => h)
end

set_option maxRecDepth 100000 in
set_option maxHeartbeats 8000000 in
theorem places_any (a : Option Addr) (n c : Nat) (ps : List Pc) (s : ByteArray) (pos : Int) (most : Nat) (w : World) (hP : IsP w a n c ps) (hT : (txP ps).length ≤ 4000000000) (hpos : pos ≤ 9223372036854775807) (hmost : most ≤ 9223372036854775807) (hmo : 1 ≤ most ∨ txP ps = []) (h64 : s.size ≤ 64) (h1 : 1 ≤ s.size) (hasc : ∀ k (h : k < s.size), (s[k]'h).toNat < 128) :
    Calls Try.prog 26 #[.slice a n c, .string s, .int .i64 pos, .int .i64 ((most : Nat) : Int)] w fun e w' => ∃ v, e = .returned v ∧ IsN w w' v ((fnd (txP ps) s.data.toList pos.toNat ((txP ps).length - pos.toNat)).take most) ∧ Below w.heap.size w w' := by
  have HP := hd hP
  have HT := hd hT
  have HPos := hd hpos
  have HMo := hd hmo
  have HMS := hd hmost
  clear hP hT hpos hmo hmost
  have H64 := hd h64
  have H1 := hd h1
  have HA := hd hasc
  clear hasc h64 h1
  refine (callsIn_wide (n := 8)).1 ?_
  refine callsIn_of_wp_marks Try.func26 rfl trivial ?_ rfl
  simp only [Try.ntmps26, List.size_toArray, List.length_cons, List.length_nil, Nat.reduceAdd, Nat.reduceSub, Array.replicate_succ, Array.replicate_zero, List.push_toArray, List.append_toArray, List.nil_append, List.cons_append]
  refine wpIn_wide.2 ?_
  go_wp2
  go_step3
  go_upto_region 3 with fail
  have S0 := hd (MkS.start w ((most : Nat) : Int) s)
  generalize ((w.alloc (.cells #[.int .i64 ((most : Nat) : Int)] 3)).alloc (.cells Try.zeroCells102 102)).iter s 0 = W0 at *
  go_loopw [] (fun wr => ∃ (k : Nat) (M : Nat → Nat), k ≤ s.size ∧ Hid (MkS w w.heap.size ((most : Nat) : Int) s k M wr)) (fun wr => s.size - wr.iterPos (w.heap.size + 1 + 1))
  case atStart => exact ⟨0, _, Nat.zero_le _, S0⟩
  case round =>
    obtain ⟨k, M, hk, hS⟩ := hrel
    clear S0
    by_cases hlt : k < s.size
    · have ha := HA.out k hlt
      have hnx := fun ty => run_next_ascii_at (P := Try.prog) wr (w.heap.size + 1 + 1) s k ty hS.out.it hlt ha
      go_upto_region 5 with fail
      have NX := hd (hS.out.next hlt H64.out _ rfl).drew
      have KM := hd ((hS.out.ok (s[k]'hlt)).lt)
      obtain ⟨C, hC⟩ : ∃ C : Nat, (s[k]'hlt).toNat = C := ⟨_, rfl⟩
      rw [hC] at ha NX KM ⊢
      have hC2 : (C : Int) < 256 := by omega
      have hkk : k < 64 := by have := H64.out; omega
      have c0 : (wr.iterAt (w.heap.size + 1 + 1) s (k + 1)).heap[w.heap.size + 1]? = some (.cells (mkc M) 102 (0, 0)) := by
        refine Eq.trans ?_ hS.out.mrk
        unfold World.iterAt
        simp only []
        rw [Array.getElem?_setIfInBounds_ne (by omega)]
      have c1 := cell_row c0 C
      rw [mkc_get M C (by omega)] at c1
      have f1 := frozen_row c0 C
      have sv := shl_val k hkk
      have ov := or_val (M C) k KM.out hkk
      have ME : Hid (s.size - (((wr.iterAt (w.heap.size + 1 + 1) s (k + 1)).setCell ⟨w.heap.size + 1, C, none⟩ (.int .u64 ((M C ||| 2 ^ k : Nat) : Int))).drew).iterPos (w.heap.size + 1 + 1) < s.size - wr.iterPos (w.heap.size + 1 + 1)) := by
        have e1 := NX.out.ip
        have e2 := hS.out.ip
        show _ < _
        rw [e1, e2]
        omega
      clear hS c0 hnx hC
      generalize wr.iterAt (w.heap.size + 1 + 1) s (k + 1) = W2 at *
      go_region
      clear sv ov c1 f1 ha hkk hC2 KM
      generalize (W2.setCell ⟨w.heap.size + 1, C, none⟩ (.int .u64 ((M C ||| 2 ^ k : Nat) : Int))).drew = W3 at *
      go_wp2
      exact ⟨⟨k + 1, _, by omega, NX⟩, ME.out⟩
    · obtain rfl : k = s.size := by omega
      have hnx := fun ty => run_next_end_at (P := Try.prog) wr (w.heap.size + 1 + 1) s s.size ty hS.out.it (by omega)
      have hz := hS.out.sz
      have HS := hd hS.out
      have CF := hd (fun W => from_any a n c pos W)
      clear hk hlt hS
      have HK := hd (HS.out.ok)
      have PL := hd (HS.out.ends (last := ((s.size - 1 : Nat) : Int)) (a := a) (n := n) (c := c) (pos := pos))
      have SZ : Hid ((((((wr.alloc (.cells #[.slice none 0 0] 36)).alloc (.cells #[.int .u64 0] 101)).alloc (.cells #[.int .i64 ((s.size - 1 : Nat) : Int)] 3)).alloc (.cells #[.slice a n c] 57)).alloc (.cells #[.int .i64 pos] 3)).heap.size = w.heap.size + 8) := by
        show _ = _
        have := HS.out.sz
        simp
        omega
      have ls : wrap64 ((s.size : Int) - 1) = ((s.size - 1 : Nat) : Int) := by
        have h1 := H1.out
        have h2 := H64.out
        rw [wrS (by omega) (by omega)]
        omega
      go_wp2
      go_step3
      rw [ls]
      go_wp2_with (go_at_call 52; refine (CF.out _).mono ?_; rintro e w4 ⟨rfl, rfl⟩)
      simp only [Nat.add_assoc, Nat.reduceAdd]
      generalize ((((wr.alloc (.cells #[.slice none 0 0] 36)).alloc (.cells #[.int .u64 0] 101)).alloc (.cells #[.int .i64 ((s.size - 1 : Nat) : Int)] 3)).alloc (.cells #[.slice a n c] 57)).alloc (.cells #[.int .i64 pos] 3) = w5 at *
      have HL : Hid (s.data.toList.length = s.size) := by show _ = _; simp
      clear hnx hz HS CF ls HA
      refine (wpIn_wide (n := 8)).1 ?_
      refine range_as (F := Fence.wide) (α := Fin ps.length) rfl (by omega) (gf := 71) (lb := #[.pointer (some ⟨w.heap.size + 6, 0, none⟩), .pointer (some ⟨w.heap.size + 7, 0, none⟩)]) rfl trivial (enters_of Try.func71 (by kernel_rfl) rfl) (encP ps pos.toNat) (fun _ => rfl) (w5.heap.size + 1) w5.heap.size rfl rfl
        (StP w most M a n c pos s.data.toList (txP ps) 0)
        (EnP w most M a n c pos s.data.toList (txP ps))
        (fun j W => StP w most M a n c pos s.data.toList (txP ps) (beg ps (j.1 + 1) - pos.toNat) W)
        (fun j W => pos.toNat - beg ps j.1 < ps[j.1].bs.length ∧ StP w most M a n c pos s.data.toList (txP ps) (beg ps j.1 - pos.toNat) W)
        (fun j a' W => a' = { tmps := #[.slice a n c, .string s, .int .i64 pos, .int .i64 ((most : Nat) : Int), undef, undef, undef, .pointer (some ⟨w.heap.size, 0, none⟩), .slice none 0 0, .pointer (some ⟨w.heap.size + 1, 0, none⟩), u10, u11, .pointer (some ⟨w.heap.size + 3, 0, none⟩), .pointer (some ⟨w.heap.size + 4, 0, none⟩), .pointer (some ⟨w.heap.size + 5, 0, none⟩), .int .i64 ((beg ps j.1 + (pos.toNat - beg ps j.1) : Nat) : Int), .slice (some ⟨ps[j.1].b, ps[j.1].off + (pos.toNat - beg ps j.1), none⟩) (ps[j.1].bs.length - (pos.toNat - beg ps j.1)) (ps[j.1].bs.length - (pos.toNat - beg ps j.1)), undef, undef, .string s, .pointer (some ⟨w.heap.size + 2, 0, none⟩), .tuple #[.bool false], .bool false, u23, u24, u25, u26, u27, u28, u29, u30, u31, .string s, .int .i64 ((s.size : Nat) : Int), .int .i64 ((s.size - 1 : Nat) : Int), .slice a n c, .int .i64 pos, .func (.func 71) #[] #[.pointer (some ⟨w.heap.size + 6, 0, none⟩), .pointer (some ⟨w.heap.size + 7, 0, none⟩)], .int .i64 ((beg ps j.1 + (pos.toNat - beg ps j.1) : Nat) : Int), .slice (some ⟨ps[j.1].b, ps[j.1].off + (pos.toNat - beg ps j.1), none⟩) (ps[j.1].bs.length - (pos.toNat - beg ps j.1)) (ps[j.1].bs.length - (pos.toNat - beg ps j.1)), undef, undef, undef, undef, undef, undef, undef, undef, undef, undef, undef, undef, undef, undef, undef, undef, undef, undef, undef, undef, undef, undef, undef, undef, undef, undef, undef, undef, undef, undef, undef, undef], defers := [] } ∧ pos.toNat - beg ps j.1 < ps[j.1].bs.length ∧ StP w most M a n c pos s.data.toList (txP ps) (beg ps j.1 - pos.toNat) W)
        (fun c' W => c' = .exit 2 ∧ EnP w most M a n c pos s.data.toList (txP ps) W) ?pY ?pI ?pIe ?pIx ?h0 ?hseq ?hassign ?hbody ?hdone ?hstop
      case pY =>
        rintro j a' W r r' hl ⟨e, h1, h2⟩
        exact ⟨e, h1, h2.put hl (by have := SZ.out; omega)⟩
      case pI =>
        rintro j W r r' hl h2
        exact h2.put hl (by have := SZ.out; omega)
      case pIe =>
        rintro W r r' hl h2
        exact h2.put hl (by have := SZ.out; omega)
      case pIx =>
        rintro c' W r r' hl ⟨e, h2⟩
        exact ⟨e, h2.put hl (by have := SZ.out; omega)⟩
      case h0 =>
        intro r
        have b : Below w5.heap.size w5 ((w5.alloc (.deferred (some []))).alloc (.loop r)) := ((Below.refl _ _).alloc (Nat.le_refl _) _).alloc (by simp) _
        have hz0 : fnd (txP ps) s.data.toList pos.toNat 0 = [] := fnd_zero (by rw [HL.out]; exact H1.out)
        refine ⟨0, .slice none 0 0, ?_, ?_, ?_, by have := SZ.out; simp; omega⟩
        · rw [hz0, HL.out]
          exact PL.out.below b
        · rw [List.take_zero]
          exact BS.zero
        · rw [hz0]
          rcases HMo.out with h | h
          · exact .inl h
          · exact .inr h
      case hseq =>
        intro r W1 X hLB h0 hY
        refine (from1_any (m := 6) W1 (fun t W h => h.cells HP.out) (by have := HT.out; omega) HPos.out hLB h0 hY).mono ?_
        rintro e W' ⟨h1, h2⟩
        refine ⟨h1, ?_⟩
        rcases h2 with ⟨h2, h3⟩ | h2
        · exact .inl ⟨h2, h3.fin (by rw [HL.out]; exact H1.out)⟩
        · exact .inr h2
      case hassign =>
        intro j r W hLB hY K hK
        have HK2 := hd hK
        have HYY := hd hY
        have HLL := hd hLB
        clear hK hY hLB
        simp only [encP]
        gi_wp2
        exact HK2.out _ _ HLL.out ⟨rfl, HYY.out⟩
      case hdone =>
        rintro W ⟨H, v, hpl⟩ hD
        have c3 := cell_row hpl.fb 0
        simp at c3
        have Z : Hid (IsN w (W.putObj w5.heap.size (.deferred none)) v ((fnd (txP ps) s.data.toList pos.toNat ((txP ps).length - pos.toNat)).take most) ∧ Below w.heap.size w (W.putObj w5.heap.size (.deferred none))) := by
          have hp2 := hpl.put (o := .deferred none) hD (fun cs t f e => by cases e) (by have := SZ.out; omega)
          obtain ⟨β, h1, h2⟩ := hp2.row
          exact ⟨⟨β, h1, fun g hg => by have := h2 g hg; omega⟩, hp2.bel⟩
        have HD := hd hD
        clear hD hpl
        go_wp2_with fail
        refine ⟨by simp, .inl ⟨_, _, rfl, run_takeDeferred HD.out, ?_⟩⟩
        refine ⟨v, ?_, v, rfl, Z.out.1, Z.out.2⟩
        simp [results, Try.results26, go_sem]
      case hstop =>
        rintro c' W ⟨rfl, H, v, hpl⟩ hD
        have c3 := cell_row hpl.fb 0
        simp at c3
        have Z : Hid (IsN w (W.putObj w5.heap.size (.deferred none)) v ((fnd (txP ps) s.data.toList pos.toNat ((txP ps).length - pos.toNat)).take most) ∧ Below w.heap.size w (W.putObj w5.heap.size (.deferred none))) := by
          have hp2 := hpl.put (o := .deferred none) hD (fun cs t f e => by cases e) (by have := SZ.out; omega)
          obtain ⟨β, h1, h2⟩ := hp2.row
          exact ⟨⟨β, h1, fun g hg => by have := h2 g hg; omega⟩, hp2.bel⟩
        have HD := hd hD
        clear hD hpl
        refine (wpIn_wide (n := 8)).2 ?_
        go_wp2_with fail
        refine ⟨by simp, .inl ⟨_, _, rfl, run_takeDeferred HD.out, ?_⟩⟩
        refine ⟨v, ?_, v, rfl, Z.out.1, Z.out.2⟩
        simp [results, Try.results26, go_sem]
      case hbody =>
        rintro j r a' W hLB ⟨rfl, hsk, hst⟩
        have HLB := hd hLB
        have HST := hd hst
        clear hLB hst
        have HW5 := hd SZ.out
        have HPJ := hd (HP.out.all _ (List.getElem_mem j.2))
        have HB1 := hd (beg_succ j.2)
        have HB2 := hd (beg_le (ps := ps) (j := j.1 + 1) (by omega))
        have HGT : Hid (∀ i, i < ps[j.1].bs.length → (txP ps)[beg ps j.1 + i]? = ps[j.1].bs[i]?) := fun i h => (txP_get j.2 h).trans (List.getElem?_eq_getElem h).symm
        obtain ⟨jj, hjj⟩ := j
        simp only at *
        generalize ps[jj] = pk at *
        obtain ⟨pb, po, pc, pbs⟩ := pk
        simp only at *
        obtain ⟨sk, hsk0⟩ : ∃ sk, Hid (pos.toNat - beg ps jj = sk) := ⟨_, rfl⟩
        obtain ⟨t0, ht0⟩ : ∃ t0, Hid (beg ps jj - pos.toNat = t0) := ⟨_, rfl⟩
        rw [hsk0.out] at hsk ⊢
        rw [ht0.out] at HST
        obtain ⟨mx, hmx⟩ : ∃ mx, Hid (beg ps jj + sk = mx) := ⟨_, rfl⟩
        rw [hmx.out]
        obtain ⟨ln, hln⟩ : ∃ ln, Hid (pbs.length - sk = ln) := ⟨_, rfl⟩
        rw [hln.out]
        obtain ⟨L, hL⟩ : ∃ L, Hid (s.data.toList.length = L + 1) := ⟨s.size - 1, by show _ = _; have := H1.out; have := HL.out; omega⟩
        have eL : s.size - 1 = L := by have := HL.out; have := hL.out; omega
        rw [eL]
        clear eL
        have HSK := hd hsk
        clear hsk
        gi_wp2
        gi_loopw [42] (fun i wr => ∃ k : Nat, k ≤ ln ∧ i = .int .i64 ((k : Nat) : Int) ∧ Hid (LB (w5.heap.size + 1) w5.heap.size r wr ∧ StP w most M a n c pos s.data.toList (txP ps) (t0 + k) wr)) (fun i _ => ln - (intOf i).toNat)
        case atStart => exact ⟨0, Nat.zero_le _, rfl, ⟨HLB.out, HST.out⟩⟩
        case round =>
          obtain ⟨k, hk, rfl, hS⟩ := hrel
          clear HLB HST
          by_cases hlt : k < ln
          · obtain ⟨H, v, hPl, hBS, hFl, hsz⟩ := hS.out.2
            have HLB := hd hS.out.1
            have HPl := hd hPl
            have HBS := hd hBS
            have HFl := hd hFl
            have HZ := hd hsz
            clear hS hBS hFl hsz
            obtain ⟨o1, o2, o3, o4⟩ := HPJ.out.below hPl.bel
            have hjk : sk + k < pbs.length := by have := hln.out; omega
            have ck := o4 (sk + k) hjk
            obtain ⟨bc, hbc⟩ : ∃ bc : UInt8, pbs[sk + k] = bc := ⟨_, rfl⟩
            have HCH : Hid ((txP ps)[beg ps jj + (sk + k)]? = some bc) := (HGT.out (sk + k) hjk).trans (by rw [List.getElem?_eq_getElem hjk, hbc])
            rw [hbc] at ck
            obtain ⟨C, hC⟩ : ∃ C : Nat, bc.toNat = C := ⟨_, rfl⟩
            have hC2 : C < 256 := by rw [← hC]; exact UInt8.toNat_lt _
            unfold ub at ck
            rw [hC, ← Nat.add_assoc] at ck
            have c4 := cell_row hPl.hb 0
            simp at c4
            have c1 := cell_row hPl.mrk C
            rw [mkc_get M C hC2] at c1
            have f4 := frozen_row hPl.hb 0
            have hC3 : (C : Int) < 256 := by omega
            have i1 : (k : Int) < ((ln : Nat) : Int) := by omega
            have HC := hd hC
            have MK2 := HK.out bc
            rw [hC, ← HL.out] at MK2
            clear hPl o1 o2 o3 o4 hC hbc hjk
            gi_upto_region 15 with fail
            have M2 : M C < 18446744073709551616 := by
              have h1 := MK2.lt
              have h2 : 2 ^ s.data.toList.length ≤ 2 ^ 64 := Nat.pow_le_pow_right (by omega) (by rw [HL.out]; exact H64.out)
              have : (2 : Nat) ^ 64 = 18446744073709551616 := rfl
              omega
            have HM := hd MK2
            obtain ⟨X, hX⟩ : ∃ X : Nat, (H * 2 % 18446744073709551616 ||| 1) = X := ⟨_, rfl⟩
            obtain ⟨Y, hY⟩ : ∃ Y : Nat, (X &&& M C) = Y := ⟨_, rfl⟩
            have ov := or2_val H
            have hX2 : X < 18446744073709551616 := by rw [← hX]; exact or1_lt _ (Nat.mod_lt _ (by omega))
            have av := bits_and_u64_nat X (M C) hX2 M2
            rw [hX] at ov
            rw [hY] at av
            have BS2 := hd (HBS.out.step HM.out (by rw [HL.out]; exact H64.out))
            rw [hX, hY] at BS2
            have P2 := hd ((HPl.out.held Y).drw)
            clear MK2 M2 hX hY hX2 HBS
            gi_cut [71] from 47 (fun u wx => u = undef ∧ Hid (wx = (wr.setCell ⟨w.heap.size + 4, 0, none⟩ (.int .u64 ((Y : Nat) : Int))).drew))
            case first =>
              clear P2 BS2 HM
              gi_region
              all_goals (gi_wp2; gi_meet; exact ⟨rfl, (rfl : _ = _)⟩)
            case rest =>
              obtain ⟨rfl, hcut⟩ := hcut
              clear ov av c1 c4 ck f4 hC3 hC2
              have hLB2 : Hid (LB (w5.heap.size + 1) w5.heap.size r wc ∧ w.heap.size + 10 ≤ wc.heap.size) := by
                rw [hcut.out]
                have e : ∀ b, b ≠ w.heap.size + 4 → ((wr.setCell ⟨w.heap.size + 4, 0, none⟩ (.int .u64 ((Y : Nat) : Int))).drew).heap[b]? = wr.heap[b]? := fun b hb => Below.heap_setCell wr _ _ b (fun h => hb h)
                have := HW5.out
                exact ⟨⟨(e _ (by omega)).trans HLB.out.1, (e _ (by omega)).trans HLB.out.2⟩, by have := HZ.out; simpa using this⟩
              rw [← hcut.out] at P2
              have HW2 := hd hcut
              clear hcut HLB HPl HZ
              obtain ⟨t, ht⟩ : ∃ t, t0 + k = t := ⟨_, rfl⟩
              have htk : Hid (t0 + (k + 1) = t + 1) := by show _ = _; omega
              rw [ht] at P2 BS2 HFl
              have HST : Hid (pos.toNat + t = beg ps jj + (sk + k)) := by
                show _ = _
                have h1 := hsk0.out
                have h2 := ht0.out
                omega
              have HCT : Hid ((txP ps)[pos.toNat + t]? = some bc) := by show _ = _; rw [HST.out]; exact HCH.out
              have HTL : Hid (pos.toNat + t < (txP ps).length) := (List.getElem?_eq_some_iff.1 HCT.out).1
              have BS3 := BS2.out
              rw [← seen_succ HCT.out] at BS3
              have hL64 : L < 64 := by have h1 := hL.out; have h2 := HL.out; have h3 := H64.out; omega
              have hTop := BS3.top hL.out
              have HB3 := hd BS3
              have hsh := shr_val (Y := Y) hL64
              have c4 := cell_row P2.out.hb 0
              have c5 := cell_row P2.out.lb 0
              have c3 := cell_row P2.out.fb 0
              have f3 := frozen_row P2.out.fb 0
              have c0 := cell_row P2.out.mb 0
              simp at c4 c5 c3 c0
              have eL : s.size - 1 = L := by have h1 := hL.out; have h2 := HL.out; omega
              rw [eL] at c5
              have W5 : Hid (wrap64 ((k : Int) + 1) = ((k + 1 : Nat) : Int)) := by
                have h1 := HT.out
                have h2 := HTL.out
                show _ = _
                have h := wrS (x := (k : Int) + 1) (by omega) (by omega)
                rw [h]
                rfl
              have HTT := HT.out
              have hfl := fnd_len (T := txP ps) (p := s.data.toList) (s0 := pos.toNat) (t := t) (by rw [HL.out]; exact H1.out)
              have HFN := hd hfl
              clear ht BS2 BS3 eL hfl
              by_cases hz : s.data.toList <:+ ((txP ps).drop pos.toNat).take (t + 1)
              · have hq : Y / 2 ^ L ≠ 0 := fun e => hTop.1 e hz
                obtain ⟨q, hqq⟩ : ∃ q : Nat, Y / 2 ^ L = q := ⟨_, rfl⟩
                rw [hqq] at hsh hq
                have hq1 : ¬ ((q : Int) = 0) := by omega
                have hlen : L ≤ t := by
                  have := hz.length_le
                  rw [hL.out, List.length_take, List.length_drop] at this
                  omega
                obtain ⟨pl, hpl⟩ : ∃ pl : Nat, Hid (mx + k = pl) := ⟨_, rfl⟩
                obtain ⟨Q, hQ⟩ : ∃ Q : Nat, Hid (pos.toNat + (t + 1 - s.data.toList.length) = Q) := ⟨_, rfl⟩
                have hTL := HTL.out
                have HPQ : Hid (pl = pos.toNat + t ∧ Q + L = pl) := by
                  have h1 := hpl.out
                  have h2 := hQ.out
                  have h3 := HST.out
                  have h4 := hmx.out
                  have h5 := hL.out
                  rw [h5] at h2
                  exact ⟨by omega, by omega⟩
                have w1 : wrap64 ((mx : Int) + (k : Int)) = ((pl : Nat) : Int) := wrA hpl.out.symm (by have := HPQ.out.1; omega)
                have w2 : wrap64 ((pl : Int) - (L : Int)) = ((Q : Nat) : Int) := by
                  have := HPQ.out
                  rw [wrS (by omega) (by omega)]
                  omega
                have HHIT := hd (fnd_hit HTL.out hz)
                rw [hQ.out] at HHIT
                obtain ⟨a', c', w', hrun, m3, hP3, hF3⟩ := P2.out.push hLB2.out.2 Q (by have := HFN.out; have := HFl.out; omega)
                have HP3 := hd hP3
                have hLB3 : Hid (LB (w5.heap.size + 1) w5.heap.size r (w'.setCell ⟨w.heap.size + 3, 0, none⟩ (.slice a' ((fnd (txP ps) s.data.toList pos.toNat t).length + 1) c')) ∧ w.heap.size + 10 ≤ (w'.setCell ⟨w.heap.size + 3, 0, none⟩ (.slice a' ((fnd (txP ps) s.data.toList pos.toNat t).length + 1) c')).heap.size) := by
                  have h1 := hLB2.out.1
                  refine ⟨⟨hF3.keeps h1.1 (fun h => ?_), hF3.keeps h1.2 (fun h => ?_)⟩, Nat.le_trans hLB2.out.2 hF3.size⟩
                  · obtain ⟨_, cs, tt, f, e⟩ := h
                    rw [h1.1] at e
                    cases e
                  · obtain ⟨_, cs, tt, f, e⟩ := h
                    rw [h1.2] at e
                    cases e
                have f3' := frozen_row m3 0
                clear hz hTop hP3 hF3 hTL hlen HTT hL64 HST HCT
                generalize hFN : (fnd (txP ps) s.data.toList pos.toNat t).length = N at *
                have c3' := cell_row m3 0
                simp at c3'
                have HN : Hid (N < most ∨ txP ps = []) := HFl.out
                clear HFl m3
                gi_upto_region 18 with (gi_at_builtin; refine wpListIn_append_k _ rfl _ _ 36 36 rfl _ _ rfl rfl (hrun _) ?_)
                clear hrun c3' f3' c3 f3 c0 c4 c5 w1 w2 hsh hq1
                have hHN := hd hFN
                generalize w'.setCell ⟨w.heap.size + 3, 0, none⟩ (.slice a' (N + 1) c') = w3 at *
                have c0 := cell_row HP3.out.mb 0
                have c3 := cell_row HP3.out.fb 0
                simp at c0 c3
                by_cases hm : N + 1 = most
                · have hme : ((N : Int) + 1 == (most : Int)) = true := by simpa using (by omega : (N : Int) + 1 = (most : Int))
                  have Z : Hid (EnP w most M a n c pos s.data.toList (txP ps) w3) := by
                    have e : (fnd (txP ps) s.data.toList pos.toNat (t + 1)).length = most := by
                      rw [HHIT.out, List.length_append, hHN.out]
                      exact hm
                    have := fnd_take (T := txP ps) (p := s.data.toList) (s0 := pos.toNat) (t := t + 1) (N := (txP ps).length - pos.toNat) (by have := HTL.out; omega) e
                    refine ⟨Y, .slice a' (N + 1) c', ?_⟩
                    rw [this, HHIT.out]
                    exact HP3.out
                  have HL3 := hd hLB3.out.1
                  clear hLB3 hLB2
                  gi_wp2
                  exact ⟨HL3.out, rfl, Z.out⟩
                · have hme : ((N : Int) + 1 == (most : Int)) = false := by simpa using (by omega : ¬ (N : Int) + 1 = (most : Int))
                  have Z : Hid (LB (w5.heap.size + 1) w5.heap.size r w3 ∧ StP w most M a n c pos s.data.toList (txP ps) (t0 + (k + 1)) w3) := by
                    refine ⟨hLB3.out.1, ?_⟩
                    rw [htk.out]
                    have hN := HN.out
                    refine ⟨Y, .slice a' (N + 1) c', by rw [HHIT.out]; exact HP3.out, HB3.out, ?_, hLB3.out.2⟩
                    rw [HHIT.out, List.length_append, hHN.out]
                    rcases hN with h | h
                    · exact .inl (by show N + 1 < most; omega)
                    · exact .inr h
                  clear hLB3 hLB2
                  gi_wp2
                  go_roundw
                  case rel => exact ⟨k + 1, by omega, by rw [W5.out], Z⟩
                  case measure => rw [W5.out]; exact meas hlt
              · have hq : Y / 2 ^ L = 0 := hTop.2 hz
                have hsh0 : (Y : Int) / 2 ^ min L 64 = 0 := by rw [hsh, hq]; rfl
                clear hsh
                have HM2 := hd (fnd_miss HTL.out hz)
                have Z : Hid (LB (w5.heap.size + 1) w5.heap.size r wc ∧ StP w most M a n c pos s.data.toList (txP ps) (t0 + (k + 1)) wc) := by
                  refine ⟨hLB2.out.1, ?_⟩
                  rw [htk.out]
                  exact ⟨Y, v, by rw [HM2.out]; exact P2.out, HB3.out, by rw [HM2.out]; exact HFl.out, hLB2.out.2⟩
                clear hz hTop hq HTT f3 c3 c0 hL64
                gi_wp2
                go_roundw
                case rel => exact ⟨k + 1, by omega, by rw [W5.out], Z⟩
                case measure => rw [W5.out]; exact meas hlt
          · obtain rfl : k = ln := by omega
            have Z : Hid (LB (w5.heap.size + 1) w5.heap.size r wr ∧ StP w most M a n c pos s.data.toList (txP ps) (beg ps (jj + 1) - pos.toNat) wr) := by
              have h := hS.out
              have e : t0 + k = beg ps (jj + 1) - pos.toNat := by
                have h1 := hsk0.out
                have h2 := ht0.out
                have h3 := hln.out
                have h4 := HB1.out
                have h5 := HSK.out
                omega
              rw [e] at h
              exact h
            clear hS
            gi_wp2
            exact Z.out
end Go.Proofs.Ytlmgogonghafeab
