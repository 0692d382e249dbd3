/-
  A step of the script.
-/
import Derived.Test.YtmbnimlibnheeabDoorRj
namespace Go.Proofs.YtmbnimlibnheeabDoor
open Go.RowKit
set_option linter.unusedVariables false

theorem Pr.less {w0 w : World} {K K' : Nat → Prop} {F : Nat → Thg} {i j x y : Nat} {p' : Sp} {r' : Rf} {n : Nat} (h : MO w0 w K' (setO (setO F i (spO x p')) j (refO y r'))) (hK : ∀ k, K k → K' k) (hij : i ≠ j) (hR : Rel p' r') (h1 : r'.own.length ≤ n) (h2 : r'.far.length ≤ n) : Pr w0 w K (setO (setO F i (spO x p')) j (refO y r')) i j x y p' r' n :=
  ⟨h.less hK, by rw [setO_other _ _ hij, setO_same], setO_same _ _ _, hR, h1, h2⟩
/-- What a step leaves. -/
def RS (w0 w w' : World) (K : Nat → Prop) (F : Nat → Thg) (i j x y n : Nat) : Prop := KP K w w' ∧ ∃ p' r', Pr w0 w' K (setO (setO F i (spO x p')) j (refO y r')) i j x y p' r' (n + 1)
theorem setO_self {F : Nat → Thg} {i j : Nat} {G H : Thg} (hi : F i = G) (hj : F j = H) : setO (setO F i G) j H = F := by
  funext k
  unfold setO
  split
  · next h => rw [h, hj]
  · split
    · next h => rw [h, hi]
    · rfl
theorem Pr.same {w0 w u w' : World} {K K' : Nat → Prop} {F : Nat → Thg} {i j x y : Nat} {p : Sp} {r : Rf} {n : Nat} (h : Pr w0 u K' F i j x y p r n) (hK : ∀ k, K k → K' k) (hk : KP K w u) (hij : i ≠ j) (h' : Below u.heap.size u w') : RS w0 w w' K F i j x y n := by
  refine ⟨hk.trans (fun k hk => h.mo.kp h' k (hK k hk)), p, r, ?_⟩
  rw [setO_self h.hi h.hj]
  exact ⟨(h.mo.below h').less hK, h.hi, h.hj, h.rel, Nat.le_succ_of_le h.own, Nat.le_succ_of_le h.far⟩

set_option maxRecDepth 100000 in
set_option maxHeartbeats 4000000 in
theorem step_1 (w0 w : World) (F : Nat → Thg) (i j x y : Nat) (p : Sp) (r : Rf) (n : Nat) (K : Nat → Prop) (h : Pr w0 w K F i j x y p r n) (hij : i ≠ j) (hn : n ≤ 9999) (hT : Table w0) (m : Int) (b : Bool) (o : OpE) (ho : OkOp o) :
    Calls Tryd.prog 13 #[.pointer (some ⟨x, 0, none⟩), .pointer (some ⟨y, 0, none⟩), .agg #[.int .i64 1, .bool b, .int .i64 m, .int .i64 o.kind, .int .i64 o.pos, .int .u8 o.ch, .int .i64 o.cl, .int .i64 o.sq]] w fun e w' => e = .returned (.bool true) ∧ Hid (RS w0 w w' K F i j x y n) := by
  have hO : r.own.length ≤ 10000 := by have := h.own; omega
  have hFl : r.far.length ≤ 10000 := by have := h.far; omega
  have H := hd h
  obtain ⟨hE, hR⟩ := h.rel.keep m o
  have HR := hd hR
  have HE := hd hE
  have HLn := hd (rkeepS_len r m o)
  clear hE hR
  obtain ⟨k, ps, c, q, s⟩ := o
  have HO := hd ho
  have HL := hd (And.intro hO hFl)
  have M1 := hd (h.mo.box (.cells #[.int .i64 1, .bool b, .int .i64 m, .int .i64 k, .int .i64 ps, .int .u8 c, .int .i64 q, .int .i64 s] 51))
  have X1 := hd (heap_alloc_new w (.cells #[.int .i64 1, .bool b, .int .i64 m, .int .i64 k, .int .i64 ps, .int .u8 c, .int .i64 q, .int .i64 s] 51))
  have A1 := hd (h.mo.kp ((Below.refl w.heap.size w).alloc (Nat.le_refl _) (.cells #[.int .i64 1, .bool b, .int .i64 m, .int .i64 k, .int .i64 ps, .int .u8 c, .int .i64 q, .int .i64 s] 51)))
  clear h ho hO hFl
  simp only []
  go_enter Tryd.func13, Tryd.ntmps13
  go_wp2_with fail
  refine (mo_keep M1.out i H.out.hi m ⟨k, ps, c, q, s⟩ HO.out).mono ?_
  rintro e w2 ⟨rfl, M2, KP2⟩
  have X2 := (KP2 _ (.inr rfl)).trans X1.out
  obtain ⟨-, -, y2, y3, y4, y5, y6, y7⟩ := cells8 X2
  have l2 := block_lt X2
  have HM2 := hd M2
  have A2 := hd (A1.out.trans (fun k hk => KP2 k (.inl hk)))
  rw [HE.out]
  obtain ⟨E, hEE⟩ : ∃ E, rkeepE r m ⟨k, ps, c, q, s⟩ = E := ⟨_, rfl⟩
  have HEE := hd hEE
  rw [hEE]
  clear hEE
  clear M2 KP2 X2
  go_wp2_with fail
  have C : Calls Tryd.prog 26 #[.pointer (some ⟨y, 0, none⟩), .int .i64 m, .agg #[.int .i64 k, .int .i64 ps, .int .u8 c, .int .i64 q, .int .i64 s]] w2 fun e w' => e = .returned (.int .i64 E) ∧ MO w0 w' (fun k => K k ∨ k = w.heap.size) (setO (setO F i (spO x (keepS p m ⟨k, ps, c, q, s⟩))) j (refO y (rkeepS r m ⟨k, ps, c, q, s⟩))) ∧ KP (fun k => K k ∨ k = w.heap.size) w2 w' := by
    refine (mr_keep HM2.out j (by rw [setO_other _ _ (Ne.symm hij)]; exact H.out.hj) m ⟨k, ps, c, q, s⟩ HL.out.1).mono ?_
    rintro e w' ⟨rfl, h1, h2⟩
    exact ⟨by rw [HEE.out], h1, h2⟩
  refine C.mono ?_
  rintro e w3 ⟨rfl, M3, KP3⟩
  have Z : Hid (RS w0 w w3 K F i j x y n) :=
    ⟨A2.out.trans (fun k hk => KP3 k (.inl hk)), _, _, Pr.less M3 (fun k hk => .inl hk) hij HR.out (by have := HLn.out.1; have := H.out.own; omega) (by rw [HLn.out.2]; exact Nat.le_succ_of_le H.out.far)⟩
  clear M3 KP3 C y2 y3 y4 y5 y6 y7 l2
  go_wp2
  go_ret
  exact ⟨rfl, Z⟩

set_option maxRecDepth 100000 in
set_option maxHeartbeats 4000000 in
theorem step_2 (w0 w : World) (F : Nat → Thg) (i j x y : Nat) (p : Sp) (r : Rf) (n : Nat) (K : Nat → Prop) (h : Pr w0 w K F i j x y p r n) (hij : i ≠ j) (hn : n ≤ 9999) (hT : Table w0) (m : Int) (b : Bool) (o : OpE) (ho : OkOp o) :
    Calls Tryd.prog 13 #[.pointer (some ⟨x, 0, none⟩), .pointer (some ⟨y, 0, none⟩), .agg #[.int .i64 2, .bool b, .int .i64 m, .int .i64 o.kind, .int .i64 o.pos, .int .u8 o.ch, .int .i64 o.cl, .int .i64 o.sq]] w fun e w' => e = .returned (.bool true) ∧ Hid (RS w0 w w' K F i j x y n) := by
  have hO : r.own.length ≤ 10000 := by have := h.own; omega
  have hFl : r.far.length ≤ 10000 := by have := h.far; omega
  have H := hd h
  obtain ⟨hE, hR⟩ := h.rel.drop m
  have HR := hd hR
  have HE := hd hE
  clear hE hR
  obtain ⟨k, ps, c, q, s⟩ := o
  have HO := hd ho
  have HL := hd (And.intro hO hFl)
  have M1 := hd (h.mo.box (.cells #[.int .i64 2, .bool b, .int .i64 m, .int .i64 k, .int .i64 ps, .int .u8 c, .int .i64 q, .int .i64 s] 51))
  have X1 := hd (heap_alloc_new w (.cells #[.int .i64 2, .bool b, .int .i64 m, .int .i64 k, .int .i64 ps, .int .u8 c, .int .i64 q, .int .i64 s] 51))
  have A1 := hd (h.mo.kp ((Below.refl w.heap.size w).alloc (Nat.le_refl _) (.cells #[.int .i64 2, .bool b, .int .i64 m, .int .i64 k, .int .i64 ps, .int .u8 c, .int .i64 q, .int .i64 s] 51)))
  clear h ho hO hFl
  simp only []
  go_enter Tryd.func13, Tryd.ntmps13
  go_wp2_with fail
  refine (mo_drop M1.out i H.out.hi m).mono ?_
  rintro e w2 ⟨rfl, M2, KP2⟩
  have X2 := (KP2 _ (.inr rfl)).trans X1.out
  obtain ⟨-, -, y2, -⟩ := cells8 X2
  have l2 := block_lt X2
  have HM2 := hd M2
  have A2 := hd (A1.out.trans (fun k hk => KP2 k (.inl hk)))
  rw [HE.out]
  obtain ⟨E, hEE⟩ : ∃ E, rdropN r m = E := ⟨_, rfl⟩
  have HEE := hd hEE
  rw [hEE]
  clear hEE M2 KP2 X2
  go_wp2_with fail
  have C : Calls Tryd.prog 27 #[.pointer (some ⟨y, 0, none⟩), .int .i64 m] w2 fun e w' => e = .returned (.int .i64 E) ∧ MO w0 w' (fun k => K k ∨ k = w.heap.size) (setO (setO F i (spO x (dropS p m))) j (refO y (rdropS r m))) ∧ KP (fun k => K k ∨ k = w.heap.size) w2 w' := by
    refine (mr_drop HM2.out j (by rw [setO_other _ _ (Ne.symm hij)]; exact H.out.hj) m HL.out.1).mono ?_
    rintro e w' ⟨rfl, h1, h2⟩
    exact ⟨by rw [HEE.out], h1, h2⟩
  refine C.mono ?_
  rintro e w3 ⟨rfl, M3, KP3⟩
  have Z : Hid (RS w0 w w3 K F i j x y n) :=
    ⟨A2.out.trans (fun k hk => KP3 k (.inl hk)), _, _, Pr.less M3 (fun k hk => .inl hk) hij HR.out (Nat.le_succ_of_le H.out.own) (Nat.le_succ_of_le H.out.far)⟩
  clear M3 KP3 C y2 l2
  go_wp2
  go_ret
  exact ⟨rfl, Z⟩

set_option maxRecDepth 100000 in
set_option maxHeartbeats 4000000 in
theorem step_3 (w0 w : World) (F : Nat → Thg) (i j x y : Nat) (p : Sp) (r : Rf) (n : Nat) (K : Nat → Prop) (h : Pr w0 w K F i j x y p r n) (hij : i ≠ j) (hn : n ≤ 9999) (hT : Table w0) (m : Int) (b : Bool) (o : OpE) (ho : OkOp o) :
    Calls Tryd.prog 13 #[.pointer (some ⟨x, 0, none⟩), .pointer (some ⟨y, 0, none⟩), .agg #[.int .i64 3, .bool b, .int .i64 m, .int .i64 o.kind, .int .i64 o.pos, .int .u8 o.ch, .int .i64 o.cl, .int .i64 o.sq]] w fun e w' => e = .returned (.bool true) ∧ Hid (RS w0 w w' K F i j x y n) := by
  have hO : r.own.length ≤ 10000 := by have := h.own; omega
  have hFl : r.far.length ≤ 10000 := by have := h.far; omega
  have H := hd h
  obtain ⟨hE, hR⟩ := h.rel.cross o
  have HR := hd hR
  have HE := hd hE
  have HLn := hd (rcrossS_len r o)
  clear hE hR
  obtain ⟨k, ps, c, q, s⟩ := o
  have HO := hd ho
  have HL := hd (And.intro hO hFl)
  have M1 := hd (h.mo.box (.cells #[.int .i64 3, .bool b, .int .i64 m, .int .i64 k, .int .i64 ps, .int .u8 c, .int .i64 q, .int .i64 s] 51))
  have X1 := hd (heap_alloc_new w (.cells #[.int .i64 3, .bool b, .int .i64 m, .int .i64 k, .int .i64 ps, .int .u8 c, .int .i64 q, .int .i64 s] 51))
  have A1 := hd (h.mo.kp ((Below.refl w.heap.size w).alloc (Nat.le_refl _) (.cells #[.int .i64 3, .bool b, .int .i64 m, .int .i64 k, .int .i64 ps, .int .u8 c, .int .i64 q, .int .i64 s] 51)))
  clear h ho hO hFl
  simp only []
  obtain ⟨V, hV⟩ : ∃ V, validP ⟨k, ps, c, q, s⟩ = V := ⟨_, rfl⟩
  have HV := hd hV
  obtain ⟨⟨rk, rp, rc, rq, rs⟩, hRR⟩ : ∃ R, rlookO r ⟨k, ps, c, q, s⟩ = R := ⟨_, rfl⟩
  have HRR := hd hRR
  clear hV hRR
  have C1 : Calls Tryd.prog 22 #[.pointer (some ⟨x, 0, none⟩), .agg #[.int .i64 k, .int .i64 ps, .int .u8 c, .int .i64 q, .int .i64 s]] (w.alloc (.cells #[.int .i64 3, .bool b, .int .i64 m, .int .i64 k, .int .i64 ps, .int .u8 c, .int .i64 q, .int .i64 s] 51)) fun e w' => e = .returned (.tuple #[.agg #[.int .i64 rk, .int .i64 rp, .int .u8 rc, .int .i64 rq, .int .i64 rs], .int .i64 V]) ∧ Hid (MO w0 w' (fun k => K k ∨ k = w.heap.size) (setO F i (spO x (crossS p ⟨k, ps, c, q, s⟩))) ∧ KP (fun k => K k ∨ k = w.heap.size) (w.alloc (.cells #[.int .i64 3, .bool b, .int .i64 m, .int .i64 k, .int .i64 ps, .int .u8 c, .int .i64 q, .int .i64 s] 51)) w') := by
    refine (mo_cross M1.out i H.out.hi hT ⟨k, ps, c, q, s⟩ HO.out).mono ?_
    rintro e w' ⟨rfl, h1, h2⟩
    exact ⟨by rw [HE.out, HRR.out, HV.out]; rfl, h1, h2⟩
  have C2 : Hid (∀ U K', MO w0 U K' (setO F i (spO x (crossS p ⟨k, ps, c, q, s⟩))) → Calls Tryd.prog 28 #[.pointer (some ⟨y, 0, none⟩), .agg #[.int .i64 k, .int .i64 ps, .int .u8 c, .int .i64 q, .int .i64 s]] U fun e w' => e = .returned (.tuple #[.agg #[.int .i64 rk, .int .i64 rp, .int .u8 rc, .int .i64 rq, .int .i64 rs], .int .i64 V]) ∧ Hid (KP K' U w' ∧ RS w0 U w' K' F i j x y n)) := by
    intro U K' hU
    refine (mr_cross hU j (by rw [setO_other _ _ (Ne.symm hij)]; exact H.out.hj) ⟨k, ps, c, q, s⟩ HL.out.1 HL.out.2).mono ?_
    rintro e w' ⟨rfl, h1, h2⟩
    exact ⟨by rw [HRR.out, HV.out]; rfl, h2, h2, _, _, Pr.less h1 (fun k hk => hk) hij HR.out (by rw [HLn.out.2]; exact Nat.le_succ_of_le H.out.own) (by have := HLn.out.1; have := H.out.far; omega)⟩
  have HC1 := hd C1
  clear C1
  go_enter Tryd.func13, Tryd.ntmps13
  go_wp2_with fail
  refine HC1.out.mono ?_
  rintro e w2 ⟨rfl, h2⟩
  have X2 := (h2.out.2 _ (.inr rfl)).trans X1.out
  obtain ⟨-, -, -, y3, y4, y5, y6, y7⟩ := cells8 X2
  have l2 := block_lt X2
  have M3 := hd (h2.out.1.box (.cells #[.int .i64 rk, .int .i64 rp, .int .u8 rc, .int .i64 rq, .int .i64 rs] 37))
  have A3 := hd ((A1.out.trans (fun k hk => h2.out.2 k (.inl hk))).trans (fun k hk => (h2.out.1.kp ((Below.refl w2.heap.size w2).alloc (Nat.le_refl _) (.cells #[.int .i64 rk, .int .i64 rp, .int .u8 rc, .int .i64 rq, .int .i64 rs] 37))) k (.inl hk)))
  have X3 := hd (heap_alloc_new w2 (.cells #[.int .i64 rk, .int .i64 rp, .int .u8 rc, .int .i64 rq, .int .i64 rs] 37))
  clear X2 h2 HC1
  go_wp2_with fail
  refine (C2.out _ _ M3.out).mono ?_
  rintro e w4 ⟨rfl, h4⟩
  have X4 := (h4.out.1 _ (.inr rfl)).trans X3.out
  obtain ⟨⟨p0, p1, p2, p3, p4⟩, -⟩ := cells5 X4
  have l4 := block_lt X4
  have n4 : ¬ w2.heap.size = w4.heap.size := by omega
  have Z := hd h4.out.2
  have A4 := hd (A3.out.trans (fun k hk => h4.out.1 k (.inl (.inl hk))))
  have Z2 : Hid (∀ U, Below w4.heap.size w4 U → RS w0 w U K F i j x y n) := by
    intro U hb
    obtain ⟨-, p', r', hP⟩ := Z.out
    exact ⟨A4.out.trans (fun k hk => hP.mo.kp hb k (.inl (.inl hk))), p', r', (hP.mo.below hb).less (fun k hk => .inl (.inl hk)), hP.hi, hP.hj, hP.rel, hP.own, hP.far⟩
  clear X4 h4 C2 M3 X3 y3 y4 y5 y6 y7 l2
  go_wp2_with fail
  refine (one_true ⟨rk, rp, rc, rq, rs⟩ _).mono ?_
  rintro e w5 ⟨rfl, b5⟩
  have Z3 := hd (Z2.out w5 (((Below.refl _ _).alloc (Nat.le_refl _) _).trans (b5.mono (by simp))))
  clear b5 Z Z2 p0 p1 p2 p3 p4 l4 n4
  go_wp2
  go_ret
  exact ⟨rfl, Z3⟩

set_option maxRecDepth 100000 in
set_option maxHeartbeats 4000000 in
theorem step_4 (w0 w : World) (F : Nat → Thg) (i j x y : Nat) (p : Sp) (r : Rf) (n : Nat) (K : Nat → Prop) (h : Pr w0 w K F i j x y p r n) (hij : i ≠ j) (hn : n ≤ 9999) (hT : Table w0) (m : Int) (b : Bool) (o : OpE) (ho : OkOp o) :
    Calls Tryd.prog 13 #[.pointer (some ⟨x, 0, none⟩), .pointer (some ⟨y, 0, none⟩), .agg #[.int .i64 4, .bool b, .int .i64 m, .int .i64 o.kind, .int .i64 o.pos, .int .u8 o.ch, .int .i64 o.cl, .int .i64 o.sq]] w fun e w' => e = .returned (.bool true) ∧ Hid (RS w0 w w' K F i j x y n) := by
  have hO : r.own.length ≤ 10000 := by have := h.own; omega
  have hFl : r.far.length ≤ 10000 := by have := h.far; omega
  have H := hd h
  obtain ⟨hE, hR⟩ := h.rel.cross o
  have HR := hd hR
  have HE := hd hE
  have HLn := hd (rcrossS_len r o)
  clear hE hR
  obtain ⟨k, ps, c, q, s⟩ := o
  have HO := hd ho
  have HL := hd (And.intro hO hFl)
  have M1 := hd (h.mo.box (.cells #[.int .i64 4, .bool b, .int .i64 m, .int .i64 k, .int .i64 ps, .int .u8 c, .int .i64 q, .int .i64 s] 51))
  have X1 := hd (heap_alloc_new w (.cells #[.int .i64 4, .bool b, .int .i64 m, .int .i64 k, .int .i64 ps, .int .u8 c, .int .i64 q, .int .i64 s] 51))
  have A1 := hd (h.mo.kp ((Below.refl w.heap.size w).alloc (Nat.le_refl _) (.cells #[.int .i64 4, .bool b, .int .i64 m, .int .i64 k, .int .i64 ps, .int .u8 c, .int .i64 q, .int .i64 s] 51)))
  clear h ho hO hFl
  simp only []
  obtain ⟨V, hV⟩ : ∃ V, validP ⟨k, ps, c, q, s⟩ = V := ⟨_, rfl⟩
  have HV := hd hV
  obtain ⟨⟨rk, rp, rc, rq, rs⟩, hRR⟩ : ∃ R, rlookO r ⟨k, ps, c, q, s⟩ = R := ⟨_, rfl⟩
  have HRR := hd hRR
  clear hV hRR
  have C1 : Calls Tryd.prog 30 #[.pointer (some ⟨x, 0, none⟩), .agg #[.int .i64 k, .int .i64 ps, .int .u8 c, .int .i64 q, .int .i64 s]] (w.alloc (.cells #[.int .i64 4, .bool b, .int .i64 m, .int .i64 k, .int .i64 ps, .int .u8 c, .int .i64 q, .int .i64 s] 51)) fun e w' => e = .returned (.tuple #[.agg #[.int .i64 rk, .int .i64 rp, .int .u8 rc, .int .i64 rq, .int .i64 rs], .int .i64 V]) ∧ Hid (MO w0 w' (fun k => K k ∨ k = w.heap.size) F ∧ KP (fun k => K k ∨ k = w.heap.size) (w.alloc (.cells #[.int .i64 4, .bool b, .int .i64 m, .int .i64 k, .int .i64 ps, .int .u8 c, .int .i64 q, .int .i64 s] 51)) w') := by
    refine (mo_look M1.out i H.out.hi hT ⟨k, ps, c, q, s⟩ HO.out).mono ?_
    rintro e w' ⟨rfl, h1, h2⟩
    exact ⟨by rw [HE.out, HRR.out, HV.out]; rfl, h1, h2⟩
  have C2 : Hid (∀ U K', MO w0 U K' F → Calls Tryd.prog 31 #[.pointer (some ⟨y, 0, none⟩), .agg #[.int .i64 k, .int .i64 ps, .int .u8 c, .int .i64 q, .int .i64 s]] U fun e w' => e = .returned (.tuple #[.agg #[.int .i64 rk, .int .i64 rp, .int .u8 rc, .int .i64 rq, .int .i64 rs], .int .i64 V]) ∧ Hid (KP K' U w' ∧ RS w0 U w' K' F i j x y n)) := by
    intro U K' hU
    refine (mr_look hU j H.out.hj ⟨k, ps, c, q, s⟩ HL.out.1 HL.out.2).mono ?_
    rintro e w' ⟨rfl, hb⟩
    exact ⟨by rw [HRR.out, HV.out]; rfl, hU.kp hb, Pr.same ⟨hU, H.out.hi, H.out.hj, H.out.rel, H.out.own, H.out.far⟩ (fun k hk => hk) (KP.refl _ _) hij hb⟩
  have HC1 := hd C1
  clear C1
  go_enter Tryd.func13, Tryd.ntmps13
  go_wp2_with fail
  refine HC1.out.mono ?_
  rintro e w2 ⟨rfl, h2⟩
  have X2 := (h2.out.2 _ (.inr rfl)).trans X1.out
  obtain ⟨-, -, -, y3, y4, y5, y6, y7⟩ := cells8 X2
  have l2 := block_lt X2
  have M3 := hd (h2.out.1.box (.cells #[.int .i64 rk, .int .i64 rp, .int .u8 rc, .int .i64 rq, .int .i64 rs] 37))
  have A3 := hd ((A1.out.trans (fun k hk => h2.out.2 k (.inl hk))).trans (fun k hk => (h2.out.1.kp ((Below.refl w2.heap.size w2).alloc (Nat.le_refl _) (.cells #[.int .i64 rk, .int .i64 rp, .int .u8 rc, .int .i64 rq, .int .i64 rs] 37))) k (.inl hk)))
  have X3 := hd (heap_alloc_new w2 (.cells #[.int .i64 rk, .int .i64 rp, .int .u8 rc, .int .i64 rq, .int .i64 rs] 37))
  clear X2 h2 HC1
  go_wp2_with fail
  refine (C2.out _ _ M3.out).mono ?_
  rintro e w4 ⟨rfl, h4⟩
  have X4 := (h4.out.1 _ (.inr rfl)).trans X3.out
  obtain ⟨⟨p0, p1, p2, p3, p4⟩, -⟩ := cells5 X4
  have l4 := block_lt X4
  have n4 : ¬ w2.heap.size = w4.heap.size := by omega
  have Z := hd h4.out.2
  have A4 := hd (A3.out.trans (fun k hk => h4.out.1 k (.inl (.inl hk))))
  have Z2 : Hid (∀ U, Below w4.heap.size w4 U → RS w0 w U K F i j x y n) := by
    intro U hb
    obtain ⟨-, p', r', hP⟩ := Z.out
    exact ⟨A4.out.trans (fun k hk => hP.mo.kp hb k (.inl (.inl hk))), p', r', (hP.mo.below hb).less (fun k hk => .inl (.inl hk)), hP.hi, hP.hj, hP.rel, hP.own, hP.far⟩
  clear X4 h4 C2 M3 X3 y3 y4 y5 y6 y7 l2
  go_wp2_with fail
  refine (one_true ⟨rk, rp, rc, rq, rs⟩ _).mono ?_
  rintro e w5 ⟨rfl, b5⟩
  have Z3 := hd (Z2.out w5 (((Below.refl _ _).alloc (Nat.le_refl _) _).trans (b5.mono (by simp))))
  clear b5 Z Z2 p0 p1 p2 p3 p4 l4 n4
  go_wp2
  go_ret
  exact ⟨rfl, Z3⟩

set_option maxRecDepth 100000 in
set_option maxHeartbeats 4000000 in
theorem step_5 (w0 w : World) (F : Nat → Thg) (i j x y : Nat) (p : Sp) (r : Rf) (n : Nat) (K : Nat → Prop) (h : Pr w0 w K F i j x y p r n) (hij : i ≠ j) (hn : n ≤ 9999) (hT : Table w0) (m : Int) (b : Bool) (o : OpE) (ho : OkOp o) :
    Calls Tryd.prog 13 #[.pointer (some ⟨x, 0, none⟩), .pointer (some ⟨y, 0, none⟩), .agg #[.int .i64 5, .bool b, .int .i64 m, .int .i64 o.kind, .int .i64 o.pos, .int .u8 o.ch, .int .i64 o.cl, .int .i64 o.sq]] w fun e w' => e = .returned (.bool true) ∧ Hid (RS w0 w w' K F i j x y n) := by
  have hO : r.own.length ≤ 10000 := by have := h.own; omega
  have hFl : r.far.length ≤ 10000 := by have := h.far; omega
  have H := hd h
  have HQ := hd h.rel.queue
  obtain ⟨k, ps, c, q, s⟩ := o
  have HO := hd ho
  have HL := hd (And.intro hO hFl)
  have M1 := hd (h.mo.box (.cells #[.int .i64 5, .bool b, .int .i64 m, .int .i64 k, .int .i64 ps, .int .u8 c, .int .i64 q, .int .i64 s] 51))
  have X1 := hd (heap_alloc_new w (.cells #[.int .i64 5, .bool b, .int .i64 m, .int .i64 k, .int .i64 ps, .int .u8 c, .int .i64 q, .int .i64 s] 51))
  have A1 := hd (h.mo.kp ((Below.refl w.heap.size w).alloc (Nat.le_refl _) (.cells #[.int .i64 5, .bool b, .int .i64 m, .int .i64 k, .int .i64 ps, .int .u8 c, .int .i64 q, .int .i64 s] 51)))
  clear h ho hO hFl
  simp only []
  go_enter Tryd.func13, Tryd.ntmps13
  go_wp2_with fail
  refine (mb_queue M1.out i H.out.hi).mono ?_
  rintro e w2 ⟨u2, rfl, h2, b2⟩
  have M2 := hd (M1.out.below b2)
  have A2 := hd (A1.out.trans (fun k hk => M1.out.kp b2 k (.inl hk)))
  obtain ⟨g2, c2, rfl, hR2, -, k2, k3⟩ := h2.form
  have HK2 := hd hR2.isK
  clear h2 b2 hR2
  go_wp2_with fail
  refine (mr_queue M2.out j H.out.hj HL.out.1 HL.out.2).mono ?_
  rintro e w3 ⟨u3, rfl, h3, b3⟩
  obtain ⟨a3, c3, rfl, h4, k4, k5⟩ := h3.isK
  rw [← HQ.out] at h4 k5 ⊢
  have HK3 := hd (HK2.out.below b3 (Nat.le_refl _))
  have HK4 := hd h4
  have M3 := hd (M2.out.below b3)
  have A3 := hd (A2.out.trans (fun k hk => M2.out.kp b3 k (.inl hk)))
  clear h3 b3 h4
  go_wp2_with fail
  refine (queues_true _ _ _ _ _ _ _ HK3.out HK4.out).mono ?_
  rintro e w5 ⟨rfl, b5⟩
  have Z := hd (Pr.same (K := K) (⟨M3.out, H.out.hi, H.out.hj, H.out.rel, H.out.own, H.out.far⟩ : Pr w0 w3 _ F i j x y p r n) (fun k hk => .inl hk) A3.out hij b5)
  clear b5
  go_wp2
  go_ret
  exact ⟨rfl, Z⟩

set_option maxRecDepth 100000 in
set_option maxHeartbeats 4000000 in
theorem step_6 (w0 w : World) (F : Nat → Thg) (i j x y : Nat) (p : Sp) (r : Rf) (n : Nat) (K : Nat → Prop) (h : Pr w0 w K F i j x y p r n) (hij : i ≠ j) (hn : n ≤ 9999) (hT : Table w0) (m : Int) (b : Bool) (o : OpE) (ho : OkOp o) :
    Calls Tryd.prog 13 #[.pointer (some ⟨x, 0, none⟩), .pointer (some ⟨y, 0, none⟩), .agg #[.int .i64 6, .bool b, .int .i64 m, .int .i64 o.kind, .int .i64 o.pos, .int .u8 o.ch, .int .i64 o.cl, .int .i64 o.sq]] w fun e w' => e = .returned (.bool true) ∧ Hid (RS w0 w w' K F i j x y n) := by
  have hO : r.own.length ≤ 10000 := by have := h.own; omega
  have hFl : r.far.length ≤ 10000 := by have := h.far; omega
  have H := hd h
  have HQ := hd h.rel.last
  obtain ⟨k, ps, c, q, s⟩ := o
  have HO := hd ho
  have HL := hd (And.intro hO hFl)
  have M1 := hd (h.mo.box (.cells #[.int .i64 6, .bool b, .int .i64 m, .int .i64 k, .int .i64 ps, .int .u8 c, .int .i64 q, .int .i64 s] 51))
  have X1 := hd (heap_alloc_new w (.cells #[.int .i64 6, .bool b, .int .i64 m, .int .i64 k, .int .i64 ps, .int .u8 c, .int .i64 q, .int .i64 s] 51))
  have A1 := hd (h.mo.kp ((Below.refl w.heap.size w).alloc (Nat.le_refl _) (.cells #[.int .i64 6, .bool b, .int .i64 m, .int .i64 k, .int .i64 ps, .int .u8 c, .int .i64 q, .int .i64 s] 51)))
  clear h ho hO hFl
  simp only []
  go_enter Tryd.func13, Tryd.ntmps13
  go_wp2_with fail
  refine (mo_last M1.out i H.out.hi).mono ?_
  rintro e w2 ⟨rfl, rfl⟩
  rw [HQ.out]
  obtain ⟨E, hE⟩ : ∃ E, r.last = E := ⟨_, rfl⟩
  have HE := hd hE
  rw [hE]
  clear hE
  have C := mr_last M1.out j H.out.hj
  rw [HE.out] at C
  have HC := hd C
  clear C
  go_wp2_with fail
  refine HC.out.mono ?_
  rintro e w3 ⟨rfl, b3⟩
  have Z := hd (Pr.same (K := K) (⟨M1.out, H.out.hi, H.out.hj, H.out.rel, H.out.own, H.out.far⟩ : Pr w0 _ _ F i j x y p r n) (fun k hk => .inl hk) A1.out hij b3)
  clear b3 HC
  go_wp2
  go_ret
  exact ⟨rfl, Z⟩

set_option maxRecDepth 100000 in
set_option maxHeartbeats 4000000 in
theorem step_0 (w0 w : World) (F : Nat → Thg) (i j x y : Nat) (p : Sp) (r : Rf) (n : Nat) (K : Nat → Prop) (h : Pr w0 w K F i j x y p r n) (hij : i ≠ j) (hn : n ≤ 9999) (hT : Table w0) (kd : Int) (hk : kd ≠ 1 ∧ kd ≠ 2 ∧ kd ≠ 3 ∧ kd ≠ 4 ∧ kd ≠ 5 ∧ kd ≠ 6) (m : Int) (b : Bool) (o : OpE) (ho : OkOp o) :
    Calls Tryd.prog 13 #[.pointer (some ⟨x, 0, none⟩), .pointer (some ⟨y, 0, none⟩), .agg #[.int .i64 kd, .bool b, .int .i64 m, .int .i64 o.kind, .int .i64 o.pos, .int .u8 o.ch, .int .i64 o.cl, .int .i64 o.sq]] w fun e w' => e = .returned (.bool true) ∧ Hid (RS w0 w w' K F i j x y n) := by
  have hO : r.own.length ≤ 10000 := by have := h.own; omega
  have hFl : r.far.length ≤ 10000 := by have := h.far; omega
  have H := hd h
  obtain ⟨k, ps, c, q, s⟩ := o
  have HO := hd ho
  have HL := hd (And.intro hO hFl)
  have M1 := hd (h.mo.box (.cells #[.int .i64 kd, .bool b, .int .i64 m, .int .i64 k, .int .i64 ps, .int .u8 c, .int .i64 q, .int .i64 s] 51))
  have X1 := hd (heap_alloc_new w (.cells #[.int .i64 kd, .bool b, .int .i64 m, .int .i64 k, .int .i64 ps, .int .u8 c, .int .i64 q, .int .i64 s] 51))
  have A1 := hd (h.mo.kp ((Below.refl w.heap.size w).alloc (Nat.le_refl _) (.cells #[.int .i64 kd, .bool b, .int .i64 m, .int .i64 k, .int .i64 ps, .int .u8 c, .int .i64 q, .int .i64 s] 51)))
  clear h ho hO hFl
  simp only []
  obtain ⟨k1, k2, k3, k4, k5, k6⟩ := hk
  have Z := hd (Pr.same (K := K) (⟨M1.out, H.out.hi, H.out.hj, H.out.rel, H.out.own, H.out.far⟩ : Pr w0 _ _ F i j x y p r n) (fun k hk => .inl hk) A1.out hij (Below.refl _ _))
  have d1 : (kd == 1) = false := by simpa using k1
  have d2 : (kd == 2) = false := by simpa using k2
  have d3 : (kd == 3) = false := by simpa using k3
  have d4 : (kd == 4) = false := by simpa using k4
  have d5 : (kd == 5) = false := by simpa using k5
  have d6 : (kd == 6) = false := by simpa using k6
  clear k1 k2 k3 k4 k5 k6
  go_enter Tryd.func13, Tryd.ntmps13
  go_wp2
  go_ret
  exact ⟨rfl, Z⟩

/-- A step, whatever its kind. -/
theorem step_any (w0 w : World) (F : Nat → Thg) (i j x y : Nat) (p : Sp) (r : Rf) (n : Nat) (K : Nat → Prop) (h : Pr w0 w K F i j x y p r n) (hij : i ≠ j) (hn : n ≤ 9999) (hT : Table w0) (kd m : Int) (b : Bool) (o : OpE) (ho : OkOp o) :
    Calls Tryd.prog 13 #[.pointer (some ⟨x, 0, none⟩), .pointer (some ⟨y, 0, none⟩), .agg #[.int .i64 kd, .bool b, .int .i64 m, .int .i64 o.kind, .int .i64 o.pos, .int .u8 o.ch, .int .i64 o.cl, .int .i64 o.sq]] w fun e w' => e = .returned (.bool true) ∧ Hid (RS w0 w w' K F i j x y n) := by
  by_cases h1 : kd = 1
  · subst h1; exact step_1 w0 w F i j x y p r n K h hij hn hT m b o ho
  by_cases h2 : kd = 2
  · subst h2; exact step_2 w0 w F i j x y p r n K h hij hn hT m b o ho
  by_cases h3 : kd = 3
  · subst h3; exact step_3 w0 w F i j x y p r n K h hij hn hT m b o ho
  by_cases h4 : kd = 4
  · subst h4; exact step_4 w0 w F i j x y p r n K h hij hn hT m b o ho
  by_cases h5 : kd = 5
  · subst h5; exact step_5 w0 w F i j x y p r n K h hij hn hT m b o ho
  by_cases h6 : kd = 6
  · subst h6; exact step_6 w0 w F i j x y p r n K h hij hn hT m b o ho
  exact step_0 w0 w F i j x y p r n K h hij hn hT kd ⟨h1, h2, h3, h4, h5, h6⟩ m b o ho

end Go.Proofs.YtmbnimlibnheeabDoor
