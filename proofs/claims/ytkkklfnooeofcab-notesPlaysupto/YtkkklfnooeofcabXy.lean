/-
  The law NotesPlays, walked.
-/
import Derived.Test.YtkkklfnooeofcabXz
import Derived.Deep.DeepCutAuto
namespace Go.Proofs.Ytkkklfnooeofcab
open Go.RowKit
set_option linter.unusedVariables false

theorem bit1 (s : Int) : bits BinOp.and IntKind.i64 s 1 = 0 ∨ bits BinOp.and IntKind.i64 s 1 = 1 := by
  show IntKind.i64.wrap ((BitVec.ofInt 64 s &&& BitVec.ofInt 64 1).toNat : Int) = 0 ∨ IntKind.i64.wrap ((BitVec.ofInt 64 s &&& BitVec.ofInt 64 1).toNat : Int) = 1
  rw [BitVec.toNat_and, show (BitVec.ofInt 64 1).toNat = 1 from rfl, Nat.and_one_is_mod, IntKind.wrap_i64]
  omega

/-- One step of the script. -/
structure LO where
  kd : Int
  sl : Int
  id : Int
  f : Int
  t : Int
  cc : Int
  s : ByteArray
  a : Option Addr
  n : Nat
  c : Nat
def lopC (o : LO) : List Value := [.int .i64 o.kd, .int .i64 o.sl, .int .i64 o.id, .int .i64 o.f, .int .i64 o.t, .int .i64 o.cc, .string o.s, .slice o.a o.n o.c]
theorem sz_lop : Sz lopC 8 := fun x => ⟨rfl, fun v hv => by simp [lopC] at hv; rcases hv with rfl | rfl | rfl | rfl | rfl | rfl | rfl | rfl <;> rfl⟩
/-- A text that came in. -/
def DocP (w : World) (a : Option Addr) (n c : Nat) : Prop := ∃ xs, IsE w a n c xs ∧ (∀ x ∈ xs, wfE x) ∧ n ≤ 900000
def lopP (w : World) (o : LO) : Prop := (-9223372036854775808 ≤ o.id ∧ o.id ≤ 9223372036854775807) ∧ o.s.size ≤ 9223372036854775807 ∧ DocP w o.a o.n o.c
/-- The script in memory. -/
def IsSc (w : World) (a : Option Addr) (n c : Nat) (os : List LO) : Prop :=
  os.length = n ∧ n ≤ c ∧ c ≤ 9223372036854775807 ∧ (∀ o ∈ os, lopP w o) ∧ (0 < n → ∃ b off, a = some ⟨b, off, none⟩ ∧ b < w.heap.size ∧ ∀ j v, (cl lopC os)[j]? = some v → w.cell? ⟨b, off + j, none⟩ = some v)

/-- While the pairs are made. -/
def LI (w0 wr : World) (X : Nat) (i : Nat) : Prop :=
  w0.heap.size ≤ X ∧ Below w0.heap.size w0 wr ∧ ((i = 0 ∧ PB wr X 0 z6 ∧ PB wr X 6 z6) ∨ (i = 1 ∧ (∃ D, PI wr X 0 D 0 ∧ (∀ j, D j → w0.heap.size ≤ j)) ∧ PB wr X 6 z6) ∨ (i = 2 ∧ PlI w0 wr X 0))

theorem doc_apart {w : World} {a : Option Addr} {n c : Nat} {xs : List El} (hE : IsE w a n c xs) {Dn : Nat → Prop} {X : Nat} (hD : ∀ j, Dn j → w.heap.size ≤ j) (hX : w.heap.size ≤ X) : 0 < n → ∀ b o, a = some ⟨b, o, none⟩ → ¬ Dn b ∧ b ≠ X := by
  intro h0 b o e
  obtain ⟨b2, o2, e2, hlt2⟩ := hE.addr h0
  rw [e] at e2
  injection e2 with e2
  injection e2 with e3 e4
  subst e3
  exact ⟨fun hd' => by have := hD _ hd'; omega, by omega⟩
theorem asks_0 {w W : World} {X k : Nat} {a : Option Addr} {n c : Nat} (h : PlI w W X k) (hd' : DocP w a n c) (hk : k ≤ 400000) : Calls Try.prog 9 #[.pointer (some ⟨X, 0, none⟩), .agg (lopA 5 0 0 0 0 0 ⟨#[]⟩ a n c)] W fun e w' => e = .returned (.bool true) ∧ PlI w w' X (k + 1) := by
  obtain ⟨D, D', p1, p2, p3, p4, p5, p6, hB⟩ := h
  obtain ⟨xs, hE, hwf, hn⟩ := hd'
  exact (asks_all X 0 k D 0 0 0 0 0 ⟨#[]⟩ a n c xs W p1 (hE.below hB) hwf (doc_apart hE p4 p6) hn hk).mono fun e w' h => ⟨h.1, PlI.one p1 p2 p3 p4 p5 p6 hB h.2⟩
theorem asks_6 {w W : World} {X k : Nat} {a : Option Addr} {n c : Nat} (h : PlI w W X k) (hd' : DocP w a n c) (hk : k ≤ 400000) : Calls Try.prog 9 #[.pointer (some ⟨X, 6, none⟩), .agg (lopA 5 0 0 0 0 0 ⟨#[]⟩ a n c)] W fun e w' => e = .returned (.bool true) ∧ PlI w w' X (k + 1) := by
  obtain ⟨D, D', p1, p2, p3, p4, p5, p6, hB⟩ := h
  obtain ⟨xs, hE, hwf, hn⟩ := hd'
  exact (asks_all X 6 k D' 0 0 0 0 0 ⟨#[]⟩ a n c xs W p2 (hE.below hB) hwf (doc_apart hE p5 p6) hn hk).mono fun e w' h => ⟨h.1, PlI.two p1 p2 p3 p4 p5 p6 hB h.2⟩

set_option maxRecDepth 100000 in
set_option maxHeartbeats 16000000 in
theorem plays_law (a3 : Option Addr) (n3 c3 : Nat) (os : List LO) (w : World) (hS : IsSc w a3 n3 c3 os) (hn : n3 ≤ 390000) :
    Calls Try.prog 3 #[.slice a3 n3 c3] w fun e w' => e = .returned (.bool true) ∧ Below w.heap.size w w' := by
  have CF := hd (fixed_any w)
  obtain ⟨hol, hoc, hoc2, hop, hos⟩ := hS
  have HOL := hd hol
  have HOP := hd hop
  have HOS := hd hos
  clear hol hop hos
  go_enter Try.func3, Try.ntmps3
  go_upto_region 2 with (go_at_call 4; refine CF.out.mono ?_; rintro e w1 ⟨r0, O0, g0, rfl, -, -, -, -, -, hb1⟩)
  have HB1 := hd hb1
  clear CF hb1
  go_upto_region 5 with fail
  obtain ⟨X, hXe⟩ : ∃ X, w1.heap.size = X := ⟨_, rfl⟩
  have S0 : Hid (LI w (w1.alloc (.cells #[.pointer none, .pointer none, .slice none 0 0, .slice none 0 0, .slice none 0 0, .slice none 0 0, .pointer none, .pointer none, .slice none 0 0, .slice none 0 0, .slice none 0 0, .slice none 0 0] 32)) X 0) := by
    subst hXe
    refine ⟨HB1.out.size, HB1.out.alloc HB1.out.size _, .inl ⟨rfl, ⟨_, heap_alloc_new w1 _, fun j v hj => ?_⟩, ⟨_, heap_alloc_new w1 _, fun j v hj => ?_⟩⟩⟩
    · match j, hj with
      | 0, hj => simpa [z6] using hj
      | 1, hj => simpa [z6] using hj
      | 2, hj => simpa [z6] using hj
      | 3, hj => simpa [z6] using hj
      | 4, hj => simpa [z6] using hj
      | 5, hj => simpa [z6] using hj
    · match j, hj with
      | 0, hj => simpa [z6] using hj
      | 1, hj => simpa [z6] using hj
      | 2, hj => simpa [z6] using hj
      | 3, hj => simpa [z6] using hj
      | 4, hj => simpa [z6] using hj
      | 5, hj => simpa [z6] using hj
  generalize w1.alloc (.cells #[.pointer none, .pointer none, .slice none 0 0, .slice none 0 0, .slice none 0 0, .slice none 0 0, .pointer none, .pointer none, .slice none 0 0, .slice none 0 0, .slice none 0 0, .slice none 0 0] 32) = w2 at *
  rw [hXe]
  clear hXe HB1
  go_wp2
  go_loopw [7] (fun iv wr => ∃ i : Nat, iv = .int .i64 i ∧ i ≤ 2 ∧ Hid (LI w wr X i)) (fun iv _ => 2 - (intOf iv).toNat)
  case atStart => exact ⟨0, rfl, Nat.zero_le _, S0⟩
  case round =>
    obtain ⟨i, rfl, hi, hI⟩ := hrel
    clear S0
    obtain ⟨hX0, hB0, hI⟩ := hI.out
    rcases hI with ⟨rfl, hz0, hz6⟩ | ⟨rfl, ⟨D1, hP1, hD1⟩, hz6⟩ | ⟨rfl, hPl⟩
    · have CN := hd (new_any wr)
      have HZ := hd hz0
      go_upto_region 10 with (first
        | (go_at_call 5; refine CN.out.mono ?_; rintro e w3 ⟨r, O, rfl, hB, hO, hb3⟩; have c0 : w3.cell? ⟨X, 0, none⟩ = some (.pointer none) := (HZ.out.fr (T := fun _ => False) (Fr.of_below hb3) (fun h => h)).get (i := 0) (.pointer none) rfl; have f0 : w3.frozen? ⟨X, 0, none⟩ = false := (HZ.out.fr (T := fun _ => False) (Fr.of_below hb3) (fun h => h)).frozen (i := 0); have HBB := hd hB; have HOO := hd hO; have HB3 := hd hb3; clear hB hO hb3)
        | (go_at_call 6; refine (rnew_any _).mono ?_; rintro e w5 ⟨q, Oq, rfl, hR, hOq, hb5⟩; obtain ⟨-, -, c1, f1, D, hPI, hD, hF, hX⟩ := pi_make HZ.out HB3.out HBB.out HOO.out hb5 hR hOq; simp only [Nat.zero_add] at c1 f1; have Z : Hid (LI w (w5.setCell ⟨X, 1, none⟩ (.pointer (some ⟨q, 0, none⟩))) X 1) := ⟨hX0, hB0.trans (hF.below hB0.size (fun j hj => by omega)), .inr (.inl ⟨rfl, ⟨D, hPI, fun j hj => Nat.le_trans hB0.size (hD j hj)⟩, hX 6 _ (by simp) hz6⟩)⟩; have hh := hPI.head; have HH := hd hh; clear hR hOq hb5 hPI hD hF hX hh))
      obtain ⟨r2, c2⟩ := HH.out
      have c2 : (w5.setCell ⟨X, 1, none⟩ (.pointer (some ⟨q, 0, none⟩))).cell? ⟨X, 0, none⟩ = some (.pointer (some ⟨r2, 0, none⟩)) := c2
      clear HH c0 f0 c1 f1 HBB HOO HB3 HZ CN
      generalize w5.setCell ⟨X, 1, none⟩ (.pointer (some ⟨q, 0, none⟩)) = w6 at *
      clear hz0 hz6 hX0 hB0
      go_wp2
      exact ⟨⟨1, by first | rfl | go_num, by omega, Z⟩, by simp [intOf]⟩
    · have CN := hd (new_any wr)
      have HZ := hd hz6
      go_upto_region 10 with (first
        | (go_at_call 5; refine CN.out.mono ?_; rintro e w3 ⟨r, O, rfl, hB, hO, hb3⟩; have c0 : w3.cell? ⟨X, 6, none⟩ = some (.pointer none) := (HZ.out.fr (T := fun _ => False) (Fr.of_below hb3) (fun h => h)).get (i := 0) (.pointer none) rfl; have f0 : w3.frozen? ⟨X, 6, none⟩ = false := (HZ.out.fr (T := fun _ => False) (Fr.of_below hb3) (fun h => h)).frozen (i := 0); have HBB := hd hB; have HOO := hd hO; have HB3 := hd hb3; clear hB hO hb3)
        | (go_at_call 6; refine (rnew_any _).mono ?_; rintro e w5 ⟨q, Oq, rfl, hR, hOq, hb5⟩; obtain ⟨-, -, c1, f1, D, hPI, hD, hF, hX⟩ := pi_make HZ.out HB3.out HBB.out HOO.out hb5 hR hOq; simp only [Nat.reduceAdd] at c1 f1; have Z : Hid (LI w (w5.setCell ⟨X, 7, none⟩ (.pointer (some ⟨q, 0, none⟩))) X 2) := ⟨hX0, hB0.trans (hF.below hB0.size (fun j hj => by omega)), .inr (.inr ⟨rfl, D1, D, hP1.other (D := fun _ => False) (off := 6) (hF.mono (fun j _ h => .inr h)) hX (fun _ _ h => h) (by omega), hPI, fun j hj hj' => by have := hP1.old.1 j hj; have := hD j hj'; omega, hD1, fun j hj => Nat.le_trans hB0.size (hD j hj), hX0, hB0.trans (hF.below hB0.size (fun j hj => by omega))⟩)⟩; have hh := hPI.head; have HH := hd hh; clear hR hOq hb5 hPI hD hF hX hh))
      obtain ⟨r2, c2⟩ := HH.out
      have c2 : (w5.setCell ⟨X, 7, none⟩ (.pointer (some ⟨q, 0, none⟩))).cell? ⟨X, 6, none⟩ = some (.pointer (some ⟨r2, 0, none⟩)) := c2
      clear HH c0 f0 c1 f1 HBB HOO HB3 HZ CN
      generalize w5.setCell ⟨X, 7, none⟩ (.pointer (some ⟨q, 0, none⟩)) = w6 at *
      clear hz6 hX0 hB0 hP1 hD1
      go_wp2
      exact ⟨⟨2, by first | rfl | go_num, by omega, Z⟩, by simp [intOf]⟩
    · have HPL := hd hPl
      clear hX0 hB0 hPl
      go_wp2
      go_loopw [8, 9] (fun lv iv wr => ∃ k : Nat, iv = .int .i64 k ∧ k ≤ n3 ∧ (∃ la ln lc, lv = .slice la ln lc ∧ Hid (DocP w la ln lc)) ∧ Hid (PlI w wr X k)) (fun _ iv _ => n3 - (intOf iv).toNat)
      case atStart => exact ⟨0, rfl, Nat.zero_le _, ⟨none, 0, 0, rfl, hd ⟨[], isE_nil w, fun x hx => (by cases hx), by omega⟩⟩, HPL⟩
      case round =>
        obtain ⟨k, rfl, hk, ⟨la, ln, lc, rfl, HLD⟩, HPI⟩ := hrel
        clear HPL
        by_cases hlt : k < n3
        · have hol : k < os.length := by rw [HOL.out]; exact hlt
          obtain ⟨b, off, rfl, hb, hcs⟩ := HOS.out (by omega)
          obtain ⟨D, D', p1, p2, p3, p4, p5, p6, hB⟩ := HPI.out
          have cell : ∀ r u, (lopC os[k])[r]? = some u → r < 8 → wr.cell? ⟨b, off + (k * 8 + r), none⟩ = some u := by
            intro r u hu hr
            rw [hB.cell (p := ⟨b, off + (k * 8 + r), none⟩) hb]
            refine hcs _ _ ?_
            rw [cl_get sz_lop os k r hol hr]
            exact hu
          have hPr := HOP.out _ (List.getElem_mem hol)
          generalize os[k] = o at *
          obtain ⟨kd, sl, id, f, t, cc, s, a, n, c⟩ := o
          obtain ⟨pr1, pr2, xs, pr3, pr4, pr5⟩ := hPr
          simp only at pr1 pr2 pr3 pr4 pr5
          have c0 := cell 0 _ rfl (by omega); have c1 := cell 1 _ rfl (by omega); have c2 := cell 2 _ rfl (by omega); have c3 := cell 3 _ rfl (by omega)
          have c4 := cell 4 _ rfl (by omega); have c5 := cell 5 _ rfl (by omega); have c6 := cell 6 _ rfl (by omega); have c7 := cell 7 _ rfl (by omega)
          simp only [← Nat.add_assoc, Nat.add_zero] at c0 c1 c2 c3 c4 c5 c6 c7
          have i1 : (k : Int) < (n3 : Int) := by omega
          have hbw : ¬ b = wr.heap.size := by have := hB.size; omega
          have b1 : Below wr.heap.size wr (wr.alloc (.cells #[.int .i64 kd, .int .i64 sl, .int .i64 id, .int .i64 f, .int .i64 t, .int .i64 cc, .string s, .slice a n c] 36)) := (Below.refl _ _).alloc (Nat.le_refl _) _
          have hbx := heap_alloc_new wr (.cells #[.int .i64 kd, .int .i64 sl, .int .i64 id, .int .i64 f, .int .i64 t, .int .i64 cc, .string s, .slice a n c] 36)
          have hDoc : Hid (DocP w a n c) := ⟨xs, pr3, pr4, pr5⟩
          have hap : ∀ {Dn : Nat → Prop}, (∀ j, Dn j → w.heap.size ≤ j) → 0 < n → ∀ b o, a = some ⟨b, o, none⟩ → ¬ Dn b ∧ b ≠ X := by
            intro Dn hDn h0 b' o' e
            obtain ⟨b2, o2, e2, hlt2⟩ := pr3.addr h0
            rw [e] at e2
            injection e2 with e2
            injection e2 with e3 e4
            subst e3
            exact ⟨fun hd' => by have := hDn _ hd'; omega, by omega⟩
          have q1 := p1.below b1
          have q2 := p2.below b1
          have bw1 : Below w.heap.size w (wr.alloc (.cells #[.int .i64 kd, .int .i64 sl, .int .i64 id, .int .i64 f, .int .i64 t, .int .i64 cc, .string s, .slice a n c] 36)) := hB.trans (b1.mono hB.size)
          have hX1 := p1.old.2.1
          have hnD : ¬ D wr.heap.size := fun h => by have := p1.old.1 _ h; omega
          have hnD' : ¬ D' wr.heap.size := fun h => by have := p2.old.1 _ h; omega
          go_upto_region 17 with fail
          generalize wr.alloc (.cells #[.int .i64 kd, .int .i64 sl, .int .i64 id, .int .i64 f, .int .i64 t, .int .i64 cc, .string s, .slice a n c] 36) = w4 at *
          have hsz4 := block_lt hbx
          have keepB : ∀ W, Below w4.heap.size w4 W → W.heap[wr.heap.size]? = some (.cells #[.int .i64 kd, .int .i64 sl, .int .i64 id, .int .i64 f, .int .i64 t, .int .i64 cc, .string s, .slice a n c] 36 (0, 0)) := fun W hW => (Fr.of_below (S := fun _ => False) hW).keeps hbx (fun h => h)
          have CS0 := hd (fun W (hW : Below w4.heap.size w4 W) => (step_any kd X 0 k D sl id f t cc s a n c xs W (q1.below hW) ((pr3.below bw1).below hW) pr4 (hap p4) pr5 pr2 pr1 (by omega)).mono fun e w' h => (show e = .returned (.bool true) ∧ (PlI w w' X (k + 1) ∧ w'.heap[wr.heap.size]? = some (.cells #[.int .i64 kd, .int .i64 sl, .int .i64 id, .int .i64 f, .int .i64 t, .int .i64 cc, .string s, .slice a n c] 36 (0, 0))) from
            ⟨h.1, PlI.one (q1.below hW) (q2.below hW) p3 p4 p5 p6 (bw1.trans (hW.mono bw1.size)) h.2, sto_keep h.2 (keepB W hW) hnD (by omega)⟩))
          have CS1 := hd (fun W (hW : Below w4.heap.size w4 W) => (step_any kd X 6 k D' sl id f t cc s a n c xs W (q2.below hW) ((pr3.below bw1).below hW) pr4 (hap p5) pr5 pr2 pr1 (by omega)).mono fun e w' h => (show e = .returned (.bool true) ∧ (PlI w w' X (k + 1) ∧ w'.heap[wr.heap.size]? = some (.cells #[.int .i64 kd, .int .i64 sl, .int .i64 id, .int .i64 f, .int .i64 t, .int .i64 cc, .string s, .slice a n c] 36 (0, 0))) from
            ⟨h.1, PlI.two (q1.below hW) (q2.below hW) p3 p4 p5 p6 (bw1.trans (hW.mono bw1.size)) h.2, sto_keep h.2 (keepB W hW) hnD' (by omega)⟩))
          have CC0 := hd (fun W (hZ : PlI w W X (k + 1) ∧ W.heap[wr.heap.size]? = some (.cells #[.int .i64 kd, .int .i64 sl, .int .i64 id, .int .i64 f, .int .i64 t, .int .i64 cc, .string s, .slice a n c] 36 (0, 0))) => (show Calls Try.prog 8 #[.pointer (some ⟨X, 0, none⟩)] W (fun e w' => e = .returned (.bool true) ∧ (PlI w w' X (k + 1) ∧ w'.heap[wr.heap.size]? = some (.cells #[.int .i64 kd, .int .i64 sl, .int .i64 id, .int .i64 f, .int .i64 t, .int .i64 cc, .string s, .slice a n c] 36 (0, 0)))) by
            have hZ1 := hZ.1
            obtain ⟨E, E', e1, e2, -⟩ := hZ1
            refine e1.calm.mono fun e w' h => ⟨h.1, ?_⟩
            obtain ⟨m, rfl⟩ := h.2
            have hb := below_drewN (Below.refl W.heap.size W) m
            exact ⟨hZ.1.below hb, (Fr.of_below (S := fun _ => False) hb).keeps hZ.2 (fun h => h)⟩))
          have CC1 := hd (fun W (hZ : PlI w W X (k + 1) ∧ W.heap[wr.heap.size]? = some (.cells #[.int .i64 kd, .int .i64 sl, .int .i64 id, .int .i64 f, .int .i64 t, .int .i64 cc, .string s, .slice a n c] 36 (0, 0))) => (show Calls Try.prog 8 #[.pointer (some ⟨X, 6, none⟩)] W (fun e w' => e = .returned (.bool true) ∧ (PlI w w' X (k + 1) ∧ w'.heap[wr.heap.size]? = some (.cells #[.int .i64 kd, .int .i64 sl, .int .i64 id, .int .i64 f, .int .i64 t, .int .i64 cc, .string s, .slice a n c] 36 (0, 0)))) by
            have hZ1 := hZ.1
            obtain ⟨E, E', e1, e2, -⟩ := hZ1
            refine e2.calm.mono fun e w' h => ⟨h.1, ?_⟩
            obtain ⟨m, rfl⟩ := h.2
            have hb := below_drewN (Below.refl W.heap.size W) m
            exact ⟨hZ.1.below hb, (Fr.of_below (S := fun _ => False) hb).keeps hZ.2 (fun h => h)⟩))
          have x0 := cell_row hbx 0; have x1 := cell_row hbx 1; have x2 := cell_row hbx 2; have x3 := cell_row hbx 3
          have x4 := cell_row hbx 4; have x5 := cell_row hbx 5; have x6 := cell_row hbx 6; have x7 := cell_row hbx 7
          simp at x0 x1 x2 x3 x4 x5 x6 x7
          simp only [lopA] at CS0 CS1
          clear cell hcs hB p1 p2 p3 p4 p5 p6 HPI pr3 pr4 pr5 hap q1 q2 bw1 keepB hnD hnD' hbx b1 c0 c1 c2 c3 c4 c5 c6 c7
          go_cut [62] (fun v wx => v = .bool false ∧ Hid (PlI w wx X (k + 1) ∧ wx.heap[wr.heap.size]? = some (.cells #[.int .i64 kd, .int .i64 sl, .int .i64 id, .int .i64 f, .int .i64 t, .int .i64 cc, .string s, .slice a n c] 36 (0, 0))))
          case first =>
            rcases bit1 sl with hbit | hbit
            · refine regPA _ w4 X wr.heap.size kd sl id f t cc s a n c (fun u => PlI w u X (k + 1) ∧ u.heap[wr.heap.size]? = some (.cells #[.int .i64 kd, .int .i64 sl, .int .i64 id, .int .i64 f, .int .i64 t, .int .i64 cc, .string s, .slice a n c] 36 (0, 0))) hsz4 hbit x0 x1 x2 x3 x4 x5 x6 x7 CS0.out CC0.out CC1.out (by simp) rfl rfl ?_
              intro L val u hL hW hV
              have v1 : val 16 = .bool false := by
                rcases hV 16 with h | h | h
                · cases h
                · exact (Option.some.inj h).symm
                · exact absurd (by decide) h
              have Z := hd (hW.2 (hL 5 (by omega)))
              clear hW hV hL
              simp only [slPA, DPA, List.getD_cons_zero, List.getD_cons_succ, List.map_cons, List.map_nil, puts, List.foldl_cons, List.foldl_nil, Act.put, List.setIfInBounds_toArray, List.set_cons_succ, List.set_cons_zero]
              rw [v1]
              go_wp2_with fail
              go_meet
              exact ⟨rfl, Z⟩
            · refine regPC _ w4 X wr.heap.size kd sl id f t cc s a n c (fun u => PlI w u X (k + 1) ∧ u.heap[wr.heap.size]? = some (.cells #[.int .i64 kd, .int .i64 sl, .int .i64 id, .int .i64 f, .int .i64 t, .int .i64 cc, .string s, .slice a n c] 36 (0, 0))) hsz4 hbit x0 x1 x2 x3 x4 x5 x6 x7 CS1.out CC0.out CC1.out (by simp) rfl rfl ?_
              intro L val u hL hW hV
              have v1 : val 16 = .bool false := by
                rcases hV 16 with h | h | h
                · cases h
                · exact (Option.some.inj h).symm
                · exact absurd (by decide) h
              have Z := hd (hW.2 (hL 5 (by omega)))
              clear hW hV hL
              simp only [slPC, DPC, List.getD_cons_zero, List.getD_cons_succ, List.map_cons, List.map_nil, puts, List.foldl_cons, List.foldl_nil, Act.put, List.setIfInBounds_toArray, List.set_cons_succ, List.set_cons_zero]
              rw [v1]
              go_wp2_with fail
              go_meet
              exact ⟨rfl, Z⟩
          case rest =>
            obtain ⟨rfl, HZ⟩ := hcut
            obtain ⟨hZ1, hZ2⟩ := HZ.out
            have y7 := cell_row hZ2 7
            simp at y7
            have HZ1 := hd hZ1
            clear CS0 CS1 CC0 CC1 x0 x1 x2 x3 x4 x5 x6 x7 hsz4 HZ hZ1 hZ2
            by_cases h0 : 0 < n
            · have j1 : (0 : Int) < (n : Int) := by omega
              go_wp2
              exact ⟨⟨k + 1, by go_num, by omega, ⟨a, n, c, rfl, hDoc⟩, HZ1⟩, by simp only [intOf]; omega⟩
            · have j1 : ¬ (0 : Int) < (n : Int) := by omega
              go_wp2
              exact ⟨⟨k + 1, by go_num, by omega, ⟨la, ln, lc, rfl, HLD⟩, HZ1⟩, by simp only [intOf]; omega⟩
        · obtain rfl : k = n3 := by omega
          have i1 : ¬ (k : Int) < (k : Int) := by omega
          have S0 : Hid (PlI w wr X (k + 2 * 0)) := HPI.out
          clear HPI HOS HOP HOL
          go_wp2
          go_loopw [11] (fun iv wr => ∃ i : Nat, iv = .int .i64 i ∧ i ≤ 2 ∧ Hid (PlI w wr X (k + 2 * i))) (fun iv _ => 2 - (intOf iv).toNat)
          case atStart => exact ⟨0, rfl, Nat.zero_le _, S0⟩
          case round =>
            obtain ⟨i, rfl, hi, HPI⟩ := hrel
            clear S0
            rcases (show i = 0 ∨ i = 1 ∨ i = 2 by omega) with rfl | rfl | rfl
            · have NIL : DocP w none 0 0 := ⟨[], isE_nil w, fun x hx => (by cases hx), by omega⟩
              have C1 := hd (asks_0 HPI.out HLD.out (by omega))
              have C2 := hd (fun W (hW : PlI w W X (k + 2 * 0 + 1)) => asks_0 hW NIL (by omega))
              simp only [lopA] at C1 C2
              clear HPI NIL
              go_wp2_with (first
                | (go_at_call 9; refine C1.out.mono ?_; rintro e w5 ⟨rfl, hZ⟩; have HZ5 := hd hZ; clear hZ C1)
                | (go_at_call 9; refine (C2.out _ HZ5.out).mono ?_; rintro e w6 ⟨rfl, hZ⟩; have HZ6 := hd hZ; clear hZ))
              exact ⟨⟨1, by first | rfl | go_num, by omega, HZ6⟩, by simp [intOf]⟩
            · have NIL : DocP w none 0 0 := ⟨[], isE_nil w, fun x hx => (by cases hx), by omega⟩
              have C1 := hd (asks_6 HPI.out HLD.out (by omega))
              have C2 := hd (fun W (hW : PlI w W X (k + 2 * 1 + 1)) => asks_6 hW NIL (by omega))
              simp only [lopA] at C1 C2
              clear HPI NIL
              go_wp2_with (first
                | (go_at_call 9; refine C1.out.mono ?_; rintro e w5 ⟨rfl, hZ⟩; have HZ5 := hd hZ; clear hZ C1)
                | (go_at_call 9; refine (C2.out _ HZ5.out).mono ?_; rintro e w6 ⟨rfl, hZ⟩; have HZ6 := hd hZ; clear hZ))
              exact ⟨⟨2, by first | rfl | go_num, by omega, HZ6⟩, by simp [intOf]⟩
            · obtain ⟨D, D', p1, p2, p3, p4, p5, p6, hB⟩ := HPI.out
              have C1 := hd p1.calm
              have C2 := hd (fun W (hW : Below wr.heap.size wr W) => (p2.below hW).calm)
              have HB := hd hB
              clear p1 p2 p3 p4 p5 p6 hB HPI
              go_wp2_with (first
                | (go_at_call 8; refine C1.out.mono ?_; rintro e w5 ⟨rfl, m5, rfl⟩; clear C1)
                | (go_at_call 8; refine (C2.out _ ?_).mono ?_; exact below_drewN (Below.refl _ _) _; rintro e w6 ⟨rfl, m6, rfl⟩))
              go_ret
              first
                | exact ⟨rfl, below_drewN (below_drewN HB.out _) _⟩
                | exact ⟨rfl, below_drewN HB.out _⟩
end Go.Proofs.Ytkkklfnooeofcab
