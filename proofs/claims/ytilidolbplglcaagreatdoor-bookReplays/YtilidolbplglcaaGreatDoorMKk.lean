/-
  Texts put together: Kk Kl Km.
-/
import Derived.Test.YtilidolbplglcaaGreatDoorMKe
import Derived.Test.YtilidolbplglcaaGreatDoorKj
import Derived.Deep.MidRow
/-! Kk -/
namespace Go.Proofs.YtilidolbplglcaaGreatDoor
open Go.RowKit
set_option linter.unusedVariables false

/-- The blocks of an order, and three more. -/
def KX (o b : Nat) (βs βE βD : Option Nat) (p q r : Nat) : Nat → Prop := fun k => OB o b βs βE βD k ∨ k = p ∨ k = q ∨ k = r
/-- An order on the way: the edit at p, the result at q, the done form at r. -/
structure AS (w0 u : World) (o b p q r : Nat) (cs : Array Value) (E : List Ed) (D : List OpE) (M : List Ed) (S : List Int) (vs vE vD : Value) (βs βE βD : Option Nat) (e : Ed) (d : OpE) (G : Nat → Thg) : Prop where
  X : OX u o b cs E D M S vs vE vD βs βE βD
  mo : MO w0 u (KX o b βs βE βD p q r) G
  lo : ∀ k, KX o b βs βE βD p q r k → w0.heap.size ≤ k
  hp : u.heap[p]? = some (.cells (edc e).toArray 48 (0, 0))
  hq : u.heap[q]? = some (.cells #[.int .i64 0, .int .i64 0, .int .u8 0, .int .i64 0, .int .i64 0] 46 (0, 0))
  hr : u.heap[r]? = some (.cells (opc d).toArray 46 (0, 0))
  dj : ∀ k, OB o b βs βE βD k → k ≠ p ∧ k ≠ q ∧ k ≠ r
  qr : q ≠ r ∧ q ≠ p
section
variable {w0 u u' : World} {o b p q r : Nat} {cs : Array Value} {E M : List Ed} {D : List OpE} {S : List Int} {vs vE vD : Value} {βs βE βD : Option Nat} {e : Ed} {d : OpE} {G G' : Nat → Thg}
theorem AS.kp (h : AS w0 u o b p q r cs E D M S vs vE vD βs βE βD e d G) (hk : KP (KX o b βs βE βD p q r) u u') (hm : MO w0 u' (KX o b βs βE βD p q r) G') : AS w0 u' o b p q r cs E D M S vs vE vD βs βE βD e d G' :=
  ⟨h.X.kp (hk.sub (fun k => .inl)), hm, h.lo, (hk p (.inr (.inl rfl))).trans h.hp, (hk q (.inr (.inr (.inl rfl)))).trans h.hq, (hk r (.inr (.inr (.inr rfl)))).trans h.hr, h.dj, h.qr⟩
theorem AS.below (h : AS w0 u o b p q r cs E D M S vs vE vD βs βE βD e d G) (hb : Below u.heap.size u u') : AS w0 u' o b p q r cs E D M S vs vE vD βs βE βD e d G := h.kp (h.mo.kp hb) (h.mo.below hb)
/-- Blocks of the order are written, one may be new. -/
theorem AS.turn (h : AS w0 u o b p q r cs E D M S vs vE vD βs βE βD e d G) {T : Nat → Prop} {cs' : Array Value} {E' M' : List Ed} {D' : List OpE} {vE' vD' : Value} {βE' βD' : Option Nat} (hF : Fr T u u') (hT : ∀ k, T k → OB o b βs βE βD k) (hX : OX u' o b cs' E' D' M' S vs vE' vD' βs βE' βD') (hE : ∀ k, OB o b βs βE' βD' k → OB o b βs βE βD k ∨ u.heap.size ≤ k) :
    AS w0 u' o b p q r cs' E' D' M' S vs vE' vD' βs βE' βD' e d G := by
  have lp := block_lt h.hp
  have lq := block_lt h.hq
  have lr := block_lt h.hr
  have n1 : ∀ k, T k → k ≠ p ∧ k ≠ q ∧ k ≠ r := fun k hk => h.dj k (hT k hk)
  refine ⟨hX, h.mo.turn hF (fun k hk => ⟨.inl (hT k hk), h.lo k (.inl (hT k hk))⟩) ?_ ?_, ?_, hF.keeps h.hp (fun hs => (n1 _ hs).1 rfl), hF.keeps h.hq (fun hs => (n1 _ hs).2.1 rfl), hF.keeps h.hr (fun hs => (n1 _ hs).2.2 rfl), ?_, h.qr⟩
  · rintro k (hk | hk)
    · exact (hE k hk).imp .inl id
    · exact .inl (.inr hk)
  · rintro k (hk | hk)
    · exact hX.old k hk
    · have := hF.size
      rcases hk with rfl | rfl | rfl <;> omega
  · rintro k (hk | hk)
    · rcases hE k hk with hk | hk
      · exact h.lo k (.inl hk)
      · exact Nat.le_trans h.mo.base.size hk
    · exact h.lo k (.inr hk)
  · intro k hk
    rcases hE k hk with hk | hk
    · exact h.dj k hk
    · exact ⟨by omega, by omega, by omega⟩
theorem AS.pushE (h : AS w0 u o b p q r cs E D M S vs vE vD βs βE βD e d G) {u1 : World} (b2 : Below u.heap.size u u1) (t : Nat) (hb : u1.heap[t]? = some (.cells (edc e).toArray 48 (0, 0))) (hn : E.length ≤ 1000000) :
    ∃ a c u', (∀ ty, (Builtin.append_ #[22, 22] ty #[vE, .slice (some ⟨t, 0, none⟩) 1 1]).run Tryz.prog u1 = .ok (.slice a (E.length + 1) c) u') ∧ u'.heap[o]? = some (.cells cs 65 (0, 0)) ∧
      ∃ β', AS w0 (u'.setCell ⟨o, 1, none⟩ (.slice a (E.length + 1) c)) o b p q r (cs.setIfInBounds 1 (.slice a (E.length + 1) c)) (E ++ [e]) D M S vs (.slice a (E.length + 1) c) vD βs β' βD e d G := by
  obtain ⟨a, c, u', k1, k2, g', k3, k4, k5⟩ := h.X.pushE e b2 t hb hn
  refine ⟨a, c, u', k1, k2, some g', h.turn k4 (fun k hk => hk.elim (fun h => .inl h) (fun h => .inr (.inr (.inr (.inl h))))) k3 ?_⟩
  rintro k (hk | hk | hk | hk | hk)
  · exact .inl (.inl hk)
  · exact .inl (.inr (.inl hk))
  · exact .inl (.inr (.inr (.inl hk)))
  · injection hk with hk
    subst hk
    exact k5.imp (fun h => .inr (.inr (.inr (.inl h)))) id
  · exact .inl (.inr (.inr (.inr (.inr hk))))
theorem AS.pushD (h : AS w0 u o b p q r cs E D M S vs vE vD βs βE βD e d G) {u1 : World} (b2 : Below u.heap.size u u1) (t : Nat) (hb : u1.heap[t]? = some (.cells (opc d).toArray 46 (0, 0))) (hn : D.length ≤ 100000) :
    ∃ a c u', (∀ ty, (Builtin.append_ #[24, 24] ty #[vD, .slice (some ⟨t, 0, none⟩) 1 1]).run Tryz.prog u1 = .ok (.slice a (D.length + 1) c) u') ∧ u'.heap[o]? = some (.cells cs 65 (0, 0)) ∧
      ∃ β', AS w0 (u'.setCell ⟨o, 2, none⟩ (.slice a (D.length + 1) c)) o b p q r (cs.setIfInBounds 2 (.slice a (D.length + 1) c)) E (D ++ [d]) M S vs vE (.slice a (D.length + 1) c) βs βE β' e d G := by
  obtain ⟨a, c, u', k1, k2, g', k3, k4, k5⟩ := h.X.pushD d b2 t hb hn
  refine ⟨a, c, u', k1, k2, some g', h.turn k4 (fun k hk => hk.elim (fun h => .inl h) (fun h => .inr (.inr (.inr (.inr h))))) k3 ?_⟩
  rintro k (hk | hk | hk | hk | hk)
  · exact .inl (.inl hk)
  · exact .inl (.inr (.inl hk))
  · exact .inl (.inr (.inr (.inl hk)))
  · exact .inl (.inr (.inr (.inr (.inl hk))))
  · injection hk with hk
    subst hk
    exact k5.imp (fun h => .inr (.inr (.inr (.inr h)))) id
theorem AS.put (h : AS w0 u o b p q r cs E D M S vs vE vD βs βE βD e d G) (hd : wfM e.o.cl e.o.sq) (hn : M.length < 9223372036854775807) (hnew : ∀ x ∈ M, ¬ (x.o.cl = e.o.cl ∧ x.o.sq = e.o.sq)) {u1 : World} (b2 : Below u.heap.size u u1) :
    ∃ u', (Instr.mapUpdate 61 (.map (some b)) (mkV e.o.cl e.o.sq) (.int .i64 ((M.length : Int) + 1))).run Tryz.prog u1 = .ok () u' ∧ AS w0 u' o b p q r cs E D (M ++ [e]) S vs vE vD βs βE βD e d G := by
  have h1 := h.below b2
  obtain ⟨u', k1, k2, k3⟩ := h1.X.put hd hn hnew
  exact ⟨u', k1, h1.turn k3 (fun k hk => .inr (.inl hk)) k2 (fun k hk => .inl hk)⟩
end

/-- The clients' pointers on the way: client c has y. -/
def PF (x : Nat → Nat) (E : List Ed) (cs : Array Value) (c y : Nat) : Prop := cs[4 + c]? = some (.pointer (some ⟨y, 0, none⟩)) ∧ ∀ k : Nat, k ≤ 64 → k ≠ c → cs[4 + k]? = some (ptV x E k)
/-- The clients' spaces on the way: those below j know of the new record. -/
def FJ (x : Nat → Nat) (ls : Nat → Int) (E E' : List Ed) (D D' : List OpE) (c y : Nat) (l : Int) (j : Nat) (G : Nat → Thg) : Prop :=
  G c = spO y ⟨true, quQ (c : Int) E' D', l⟩ ∧ ∀ k : Nat, k ≤ 64 → k ≠ c → cnP (k : Int) E ≠ 0 → (k < j → G k = spO (x k) ⟨true, quQ (k : Int) E' D', (E'.length : Int)⟩) ∧ (j ≤ k → G k = spO (x k) ⟨true, quQ (k : Int) E D, ls k⟩)
theorem PF.set {x : Nat → Nat} {E : List Ed} {cs : Array Value} {c y i : Nat} (h : PF x E cs c y) (hi : i < 4) (v : Value) : PF x E (cs.setIfInBounds i v) c y :=
  ⟨(set_at (by omega)).trans h.1, fun k hk hkc => (set_at (by omega)).trans (h.2 k hk hkc)⟩
section
variable {x : Nat → Nat} {ls : Nat → Int} {E : List Ed} {D : List OpE} {e : Ed} {d : OpE} {c y : Nat} {l : Int} {j : Nat} {G : Nat → Thg}
/-- A client that is passed by. -/
theorem FJ.skip {E' : List Ed} {D' : List OpE} (h : FJ x ls E E' D D' c y l j G) (hj : j = c ∨ cnP (j : Int) E = 0) : FJ x ls E E' D D' c y l (j + 1) G := by
  refine ⟨h.1, fun k hk hkc h0 => ⟨fun hkj => ?_, fun hkj => (h.2 k hk hkc h0).2 (by omega)⟩⟩
  by_cases e : k = j
  · subst e
    rcases hj with hj | hj
    · exact absurd hj hkc
    · exact absurd hj h0
  · exact (h.2 k hk hkc h0).1 (by omega)
/-- A client that is told. -/
theorem keep_rev {k : Nat} (hl : D.length = E.length) (hek : e.o.cl ≠ (k : Int)) (hv : validP d = 0) (hn : E.length ≤ 4095) (hls : ls k ≤ (E.length : Int)) :
    keepE ⟨true, quQ (k : Int) E D, ls k⟩ ((E.length : Int) + 1) d = 0 ∧ keepS ⟨true, quQ (k : Int) E D, ls k⟩ ((E.length : Int) + 1) d = ⟨true, quQ (k : Int) (E ++ [e]) (D ++ [d]), ((E ++ [e]).length : Int)⟩ := by
  have h1 : keepE ⟨true, quQ (k : Int) E D, ls k⟩ ((E.length : Int) + 1) d = 0 := by
    unfold keepE
    rw [if_neg (by omega), if_neg]
    simp only
    omega
  refine ⟨h1, ?_⟩
  unfold keepS
  rw [if_pos h1, quQ_oth hl hek]
  simp
theorem FJ.told {E' : List Ed} {D' : List OpE} (h : FJ x ls E E' D D' c y l j G) (hjc : j ≠ c) {p : Sp} (hp : p = ⟨true, quQ (j : Int) E' D', (E'.length : Int)⟩) : FJ x ls E E' D D' c y l (j + 1) (setO G j (spO (x j) p)) := by
  subst hp
  refine ⟨(setO_other _ _ (Ne.symm hjc)).trans h.1, fun k hk hkc h0 => ⟨fun hkj => ?_, fun hkj => (setO_other _ _ (by omega)).trans ((h.2 k hk hkc h0).2 (by omega))⟩⟩
  by_cases e : k = j
  · subst e
    rw [setO_same]
  · rw [setO_other _ _ e]
    exact (h.2 k hk hkc h0).1 (by omega)
/-- The order, whatever lies where. -/
def Ord (w0 w : World) (o : Nat) (E : List Ed) (D : List OpE) (S : List Int) : Prop :=
  ∃ b cs vs vE vD βs βE βD x ls F, OX w o b cs E D E S vs vE vD βs βE βD ∧ OC w0 w (OB o b βs βE βD) E D cs x ls F
/-- The end: all clients know of the new record; what add answers is laid. -/
theorem AS.fin {w0 u u' : World} {o b p q r : Nat} {cs : Array Value} {S : List Int} {vs vE vD : Value} {βs βE βD : Option Nat} (h : AS w0 u o b p q r cs (E ++ [e]) (D ++ [d]) (E ++ [e]) S vs vE vD βs βE βD e d G) (hP : PF x E cs c y) (hF : FJ x ls E (E ++ [e]) D (D ++ [d]) c y l 65 G) (hec : e.o.cl = (c : Int)) (hl : l ≤ (E.length : Int)) (hw : Fr (· = q) u u') :
    Ord w0 u' o (E ++ [e]) (D ++ [d]) S := by
  have hcn : ∀ k : Nat, k ≠ c → cnP (k : Int) (E ++ [e]) = cnP (k : Int) E := fun k hk => by
    rw [cnP_snoc, if_neg (by omega)]
    rfl
  have hc1 : cnP (c : Int) (E ++ [e]) ≠ 0 := by
    rw [cnP_snoc, if_pos hec]
    omega
  have hm := h.mo.write hw (fun k hk => ⟨.inr (.inr (.inl hk)), by rw [hk]; exact h.lo q (.inr (.inr (.inl rfl)))⟩)
  refine ⟨b, cs, vs, vE, vD, βs, βE, βD, fun k => if k = c then y else x k, fun k => if k = c then l else ((E ++ [e]).length : Int), G, h.X.kp (fun k hk => hw.block k (h.X.old k hk) (fun he => (h.dj k hk).2.1 he)), fun k hk => ?_, fun k hk h0 => ?_, hm.less (fun k hk => .inl hk), fun k hk => h.lo k (.inl hk)⟩
  · by_cases ek : k = c
    · subst ek
      rw [ptV, if_neg hc1, if_pos rfl]
      exact hP.1
    · have h2 := hP.2 k hk ek
      unfold ptV at h2 ⊢
      rw [hcn k ek]
      simp only [if_neg ek]
      exact h2
  · by_cases ek : k = c
    · subst ek
      rw [if_pos rfl, if_pos rfl]
      refine ⟨hF.1, ?_⟩
      simp
      omega
    · rw [if_neg ek, if_neg ek]
      rw [hcn k ek] at h0
      exact ⟨(hF.2 k hk ek h0).1 (by omega), Int.le_refl _⟩
end

end Go.Proofs.YtilidolbplglcaaGreatDoor

/-! Kl -/
namespace Go.Proofs.YtilidolbplglcaaGreatDoor
open Go.RowKit
set_option linter.unusedVariables false

theorem chk_cl {E : List Ed} {D : List OpE} {e : Ed} (h : chkP E D e = 0) : ∃ c : Nat, e.o.cl = (c : Int) ∧ 1 ≤ c ∧ c ≤ 64 := by
  have v := (chk_zero h).1
  unfold validP at v
  split at v
  · omega
  · split at v
    · omega
    · rename_i a
      simp [inR] at a
      exact ⟨e.o.cl.toNat, by omega, by omega, by omega⟩
section
variable {w0 w : World} {o b : Nat} {cs : Array Value} {E : List Ed} {D : List OpE} {S : List Int} {vs vE vD : Value} {βs βE βD : Option Nat} {x : Nat → Nat} {ls : Nat → Int} {F : Nat → Thg}
/-- What add has at its fourth line. -/
def A4 (w0 u : World) (o b p r : Nat) (E : List Ed) (D : List OpE) (S : List Int) (vs vE vD : Value) (βs βE βD : Option Nat) (x : Nat → Nat) (ls : Nat → Int) (e : Ed) (d : OpE) (c : Nat) : Prop :=
  ∃ cs y l G, AS w0 u o b p (p + 1) r cs E D E S vs vE vD βs βE βD e d G ∧ PF x E cs c y ∧ FJ x ls E (E ++ [e]) D (D ++ [d]) c y l 0 G ∧ l ≤ (E.length : Int)
theorem A4.of (hX : OX w o b cs E D E S vs vE vD βs βE βD) (hC : OC w0 w (OB o b βs βE βD) E D cs x ls F) (hl : D.length = E.length) {e : Ed} {c : Nat} (hec : e.o.cl = (c : Int)) (hv : validP e.o = 0) {W u1 u2 u3 : World} (b0 : Below w.heap.size w W)
    (h0 : W.heap[w.heap.size]? = some (.cells (edc e).toArray 48 (0, 0))) (h1 : W.heap[w.heap.size + 1]? = some (.cells #[.int .i64 0, .int .i64 0, .int .u8 0, .int .i64 0, .int .i64 0] 46 (0, 0)))
    {cs1 : Array Value} {F1 : Nat → Thg} {l : Int} {y : Nat} (k1 : OX u1 o b cs1 E D E S vs vE vD βs βE βD) (k2 : F1 c = spO y ⟨true, quQ (c : Int) E D, l⟩) (k3 : l ≤ (E.length : Int)) (k4 : cs1[4 + c]? = some (.pointer (some ⟨y, 0, none⟩))) (k5 : ∀ k, k ≤ 64 → k ≠ c → cs1[4 + k]? = cs[4 + k]? ∧ F1 k = F k)
    (k7 : ∀ k, (OB o b βs βE βD k ∨ k = w.heap.size ∨ k = w.heap.size + 1) → k ≠ o → u1.heap[k]? = W.heap[k]?)
    (m2 : KP (fun k => OB o b βs βE βD k ∨ k = w.heap.size ∨ k = w.heap.size + 1) u1 u2) (m3 : KP (fun k => OB o b βs βE βD k ∨ k = w.heap.size ∨ k = w.heap.size + 1) u2 u3)
    (mo : MO w0 u3 (fun k => OB o b βs βE βD k ∨ k = w.heap.size ∨ k = w.heap.size + 1) (setO (setO F1 c (spO y (dropS ⟨true, quQ (c : Int) E D, l⟩ e.tag))) c (spO y (crossS (dropS ⟨true, quQ (c : Int) E D, l⟩ e.tag) e.o)))) :
    A4 w0 (u3.alloc (.cells (opc (dnP E D e)).toArray 46)) o b w.heap.size u3.heap.size E D S vs vE vD βs βE βD x ls e (dnP E D e) c := by
  have lo := block_lt hX.blk
  have bA : Below u3.heap.size u3 (u3.alloc (.cells (opc (dnP E D e)).toArray 46)) := (Below.refl _ _).alloc (Nat.le_refl _) _
  have n1 : w.heap.size + 1 < W.heap.size := block_lt h1
  have p1 := (m3 _ (.inr (.inl rfl))).trans ((m2 _ (.inr (.inl rfl))).trans ((k7 _ (.inr (.inl rfl)) (by omega)).trans h0))
  have q1 := (m3 _ (.inr (.inr rfl))).trans ((m2 _ (.inr (.inr rfl))).trans ((k7 _ (.inr (.inr rfl)) (by omega)).trans h1))
  have lp := block_lt p1
  have lq := block_lt q1
  have X3 := (k1.kp (m2.sub (fun k => .inl))).kp (m3.sub (fun k => .inl))
  rw [setO_setO, (crossS_good hv).1] at mo
  have hq : (thrQ e.o (dropS ⟨true, quQ (c : Int) E D, l⟩ e.tag).q (dropS ⟨true, quQ (c : Int) E D, l⟩ e.tag).f).2 = quQ (c : Int) (E ++ [e]) (D ++ [dnP E D e]) := by
    rw [← hec, quQ_own hl]
    rfl
  rw [hq] at mo
  refine ⟨cs1, y, l, _, ⟨X3.below bA, mo.adds bA ?_ ?_, ?_, (bA.block _ lp).trans p1, (bA.block _ lq).trans q1, heap_alloc_new _ _, ?_, by omega, by omega⟩, ⟨k4, fun k hk hkc => (k5 k hk hkc).1.trans (hC.pt k hk)⟩, ⟨setO_same _ _ _, fun k hk hkc h => ⟨fun h => by omega, fun _ => ?_⟩⟩, k3⟩
  · rintro k (hk | hk | hk | hk)
    · exact .inl (.inl hk)
    · exact .inl (.inr (.inl hk))
    · exact .inl (.inr (.inr hk))
    · exact .inr (by omega)
  · have := bA.size
    rintro k (hk | hk | hk | hk)
    · have := X3.old k hk; omega
    · omega
    · omega
    · rw [hk]; simp
  · have := hC.mo.base.size
    have := mo.base.size
    rintro k (hk | hk | hk | hk)
    · exact hC.lo k hk
    · omega
    · omega
    · omega
  · intro k hk
    have := hX.old k hk
    exact ⟨by omega, by omega, by omega⟩
  · rw [setO_other _ _ hkc, (k5 k hk hkc).2]
    exact (hC.sp k hk h).1
end

end Go.Proofs.YtilidolbplglcaaGreatDoor

/-! Km -/
namespace Go.Proofs.YtilidolbplglcaaGreatDoor
open Go.RowKit
set_option linter.unusedVariables false

theorem nrv {n : Nat} (h : n ≤ 4095) : ((n + 1 : Nat) : Int) = (n : Int) + 1 := by omega
/-- The cells of the clients, as one value. -/
def ptL (cs : Array Value) : List Value := cs.toList.drop 4
theorem ptL_len {cs : Array Value} (h : cs.size = 69) : (ptL cs).length = 65 := by
  unfold ptL
  rw [List.length_drop, Array.length_toList, h]
theorem ptL_at {cs : Array Value} (k : Nat) : (ptL cs)[k]? = cs[4 + k]? := by
  unfold ptL
  rw [List.getElem?_drop, Array.getElem?_toList]
theorem infoA65 : (Tryz.prog.info? 63).map (·.size) = some 65 := by kernel_rfl
theorem infoPS : (Tryz.prog.info? 62).map (·.size) = some 1 := by kernel_rfl
/-- One of the clients' pointers out of that value. -/
theorem run_ix (w : World) (L : List Value) (j : Nat) (v : Value) (hj : j < 65) (h : L[j]? = some v) : (Instr.index 63 (.agg L.toArray) (.int .i64 (j : Int))).run Tryz.prog w = .ok v w := by
  cases hq : Tryz.prog.info? 62 with
  | none => have := infoPS; rw [hq] at this; cases this
  | some i =>
    have hs : i.size = 1 := by have := infoPS; rw [hq] at this; simpa using this
    have h1 : 0 ≤ (j : Int) ∧ (j : Int) < 65 := by omega
    simp [Instr.index, asIntOf, go_sem, run_underlying Tryz.underlying63, h1, sizeOf, typeInfo, hq, hs, part]
    rw [if_pos hj, h]
    rfl
section
variable {w0 w : World} {o b : Nat} {cs : Array Value} {E : List Ed} {D : List OpE} {S : List Int} {vs vE vD : Value} {βs βE βD : Option Nat} {x : Nat → Nat} {ls : Nat → Int} {F : Nat → Thg}
set_option maxRecDepth 100000 in
set_option maxHeartbeats 8000000 in
theorem badd_any (hX : OX w o b cs E D E S vs vE vD βs βE βD) (hC : OC w0 w (OB o b βs βE βD) E D cs x ls F) (hJ : BJ E D) (hQ : BQ E) (hT : Table w0) (e : Ed) (hc0 : chkP E D e = 0) :
    Calls Tryz.prog 36 #[.pointer (some ⟨o, 0, none⟩), .agg #[.int .i64 e.tag, .int .i64 e.o.kind, .int .i64 e.o.pos, .int .u8 e.o.ch, .int .i64 e.o.cl, .int .i64 e.o.sq]] w fun r w' => r = .returned (dnP E D e).val ∧ Ord w0 w' o (E ++ [e]) (D ++ [dnP E D e]) S := by
  obtain ⟨c, hec, hc1, hc64⟩ := chk_cl hc0
  obtain ⟨hR, -, hdv, -, -⟩ := hJ.b.past hc0
  obtain ⟨hv, -, hsq, -, -, -⟩ := chk_zero hc0
  have hlen := hJ.b.len
  have hls := (hJ.b.seq e.o.cl).1
  have hls2 := (hJ.b.seq e.o.cl).2.1
  have HQN : Hid (∀ z ∈ E, ¬ (z.o.cl = e.o.cl ∧ z.o.sq = e.o.sq)) := fun z hz => by
    have h := hQ.miss e.o.cl z hz
    rw [← hls, ← hsq] at h
    exact h
  have HWF : Hid (wfM e.o.cl e.o.sq) := ⟨by omega, by omega⟩
  have HX := hd hX
  have HC := hd hC
  have HV := hd hv
  have HDV := hd hdv
  have HCS : Hid (∀ k : Nat, k ≤ 64 → cnP (k : Int) E ≠ 0 → ls k ≤ (E.length : Int)) := fun k hk h0 => (hC.sp k hk h0).2
  have HDJ := hd hJ.b.dval
  have HT := hd hT
  have HEC := hd hec
  have HLEN := hd hlen
  obtain ⟨d, hdn⟩ : ∃ d, dnP E D e = d := ⟨_, rfl⟩
  have HDN := hd hdn
  obtain ⟨⟨dk, dp, dc, dl, ds⟩, hdd⟩ : ∃ z, d = z := ⟨_, rfl⟩
  have HDD := hd hdd
  rw [hdn]
  simp only [OpE.val]
  rw [hdd]
  simp only
  rw [← hdd]
  obtain ⟨⟨et, ⟨ek, ep, ec, el, es⟩⟩, hee⟩ : ∃ z, e = z := ⟨_, rfl⟩
  have HEE := hd hee
  have hel : el = (c : Int) := by rw [hee] at hec; exact hec
  subst hel
  obtain ⟨n, hn⟩ : ∃ n, E.length = n := ⟨_, rfl⟩
  have HN := hd hn
  have hb : Below w.heap.size w ((w.alloc (.cells #[.int .i64 et, .int .i64 ek, .int .i64 ep, .int .u8 ec, .int .i64 (c : Int), .int .i64 es] 48)).alloc (.cells #[.int .i64 0, .int .i64 0, .int .u8 0, .int .i64 0, .int .i64 0] 46)) := ((Below.refl _ _).alloc (Nat.le_refl _) _).alloc (by simp) _
  have hz : ((w.alloc (.cells #[.int .i64 et, .int .i64 ek, .int .i64 ep, .int .u8 ec, .int .i64 (c : Int), .int .i64 es] 48)).alloc (.cells #[.int .i64 0, .int .i64 0, .int .u8 0, .int .i64 0, .int .i64 0] 46)).heap.size = w.heap.size + 2 := by simp
  have h1 : ((w.alloc (.cells #[.int .i64 et, .int .i64 ek, .int .i64 ep, .int .u8 ec, .int .i64 (c : Int), .int .i64 es] 48)).alloc (.cells #[.int .i64 0, .int .i64 0, .int .u8 0, .int .i64 0, .int .i64 0] 46)).heap[w.heap.size + 1]? = some (.cells #[.int .i64 0, .int .i64 0, .int .u8 0, .int .i64 0, .int .i64 0] 46 (0, 0)) := by
    have h := heap_alloc_new (w.alloc (.cells #[.int .i64 et, .int .i64 ek, .int .i64 ep, .int .u8 ec, .int .i64 (c : Int), .int .i64 es] 48)) (.cells #[.int .i64 0, .int .i64 0, .int .u8 0, .int .i64 0, .int .i64 0] 46)
    rw [show (w.alloc (.cells #[.int .i64 et, .int .i64 ek, .int .i64 ep, .int .u8 ec, .int .i64 (c : Int), .int .i64 es] 48)).heap.size = w.heap.size + 1 by simp] at h
    exact h
  have h0 : ((w.alloc (.cells #[.int .i64 et, .int .i64 ek, .int .i64 ep, .int .u8 ec, .int .i64 (c : Int), .int .i64 es] 48)).alloc (.cells #[.int .i64 0, .int .i64 0, .int .u8 0, .int .i64 0, .int .i64 0] 46)).heap[w.heap.size]? = some (.cells #[.int .i64 et, .int .i64 ek, .int .i64 ep, .int .u8 ec, .int .i64 (c : Int), .int .i64 es] 48 (0, 0)) := by
    have b2 : Below (w.heap.size + 1) (w.alloc (.cells #[.int .i64 et, .int .i64 ek, .int .i64 ep, .int .u8 ec, .int .i64 (c : Int), .int .i64 es] 48)) ((w.alloc (.cells #[.int .i64 et, .int .i64 ek, .int .i64 ep, .int .u8 ec, .int .i64 (c : Int), .int .i64 es] 48)).alloc (.cells #[.int .i64 0, .int .i64 0, .int .u8 0, .int .i64 0, .int .i64 0] 46)) := (Below.refl _ _).alloc (by simp) _
    exact (b2.block _ (by omega)).trans (heap_alloc_new w _)
  have HB := hd hb
  have HZ := hd hz
  have H0 := hd h0
  have H1 := hd h1
  have HR := hd hR
  rw [hee]
  simp only
  rw [← hee]
  clear hX hC hJ hQ hT hc0 hR hdv hv hsq hlen hls hls2 hec hdn hdd hee hn hb hz h0 h1
  go_enter Tryz.func36, Tryz.ntmps36
  go_upto_region 1 with fail
  generalize (w.alloc (.cells #[.int .i64 et, .int .i64 ek, .int .i64 ep, .int .u8 ec, .int .i64 (c : Int), .int .i64 es] 48)).alloc (.cells #[.int .i64 0, .int .i64 0, .int .u8 0, .int .i64 0, .int .i64 0] 46) = W at *
  obtain ⟨d0, d1, d2, d3, d4, d5⟩ := edCells H0.out
  have hlo : o < W.heap.size := by
    have := block_lt HX.out.blk
    have := HZ.out
    omega
  have CM : Hid (Calls Tryz.prog 47 #[.pointer (some ⟨o, 0, none⟩), .int .i64 (c : Int)] W fun e w' => ∃ y, e = .returned (.pointer (some ⟨y, 0, none⟩)) ∧ Met w0 W w' o b cs E E D S vs vE vD βs βE βD (fun k => OB o b βs βE βD k ∨ k = w.heap.size ∨ k = w.heap.size + 1) F c y) := by
    have hz := HZ.out
    have hbs := HC.out.mo.base.size
    refine meet_any (ls := ls) (x := x) (HX.out.below HB.out) ⟨HC.out.pt, HC.out.sp, HC.out.mo.adds HB.out ?_ ?_, ?_⟩ (fun k hk => .inl hk) HLEN.out HDJ.out ?_ hc64
    · rintro k (hk | hk | hk)
      · exact .inl hk
      · exact .inr (by omega)
      · exact .inr (by omega)
    · rintro k (hk | hk | hk)
      · have := HX.out.old k hk; omega
      · omega
      · omega
    · rintro k (hk | hk | hk)
      · exact HC.out.lo k hk
      · omega
      · omega
    · have := HLEN.out; have := HR.out; omega
  go_upto_region 2 with (go_at_call 47; refine CM.out.mono ?_; rintro e1 u1 ⟨y, rfl, hMet⟩)
  obtain ⟨cs1, F1, l, k1, k2, k3, k4, k5, k6, k7⟩ := hMet
  have HM1 := hd (And.intro k1 (And.intro k2 (And.intro k3 (And.intro k4 (And.intro k5 (And.intro k6 k7))))))
  have HP1 := hd ((k7 _ (.inr (.inl rfl)) (by have := block_lt HX.out.blk; omega)).trans H0.out)
  clear CM k1 k2 k3 k4 k5 k6 k7 d0 d1 d2 d3 d4 d5 hlo
  obtain ⟨d0, d1, d2, d3, d4, d5⟩ := edCells HP1.out
  have hw1 : w.heap.size < u1.heap.size := block_lt HP1.out
  have CD := hd (mo_drop HM1.out.2.2.2.2.2.1 c HM1.out.2.1 et)
  go_upto_region 3 with (go_at_call 48; refine CD.out.mono ?_; rintro e1 u2 ⟨rfl, m2, q2⟩)
  have HM2 := hd (And.intro m2 q2)
  have HP2 := hd ((q2 _ (.inr (.inl rfl))).trans HP1.out)
  clear CD m2 q2 d0 d1 d2 d3 d4 d5 hw1
  obtain ⟨d0, d1, d2, d3, d4, d5⟩ := edCells HP2.out
  have hw1 : w.heap.size < u2.heap.size := block_lt HP2.out
  have CX : Hid (Calls Tryz.prog 49 #[.pointer (some ⟨y, 0, none⟩), .agg #[.int .i64 ek, .int .i64 ep, .int .u8 ec, .int .i64 (c : Int), .int .i64 es]] u2 fun r w' => r = .returned (.tuple #[.agg #[.int .i64 dk, .int .i64 dp, .int .u8 dc, .int .i64 dl, .int .i64 ds], .int .i64 0]) ∧ A4 w0 (w'.alloc (.cells #[.int .i64 dk, .int .i64 dp, .int .u8 dc, .int .i64 dl, .int .i64 ds] 46)) o b w.heap.size w'.heap.size E D S vs vE vD βs βE βD x ls e d c) := by
    have hv := HV.out
    have hc := mo_cross HM2.out.1 c (setO_same _ _ _) HT.out e.o (valid_ok hv)
    rw [(crossS_good hv).2, hv] at hc
    have hd1 : (thrQ e.o (dropS ⟨true, quQ (c : Int) E D, l⟩ et).q (dropS ⟨true, quQ (c : Int) E D, l⟩ et).f).1 = d := by
      rw [← HDN.out]
      unfold dnP
      rw [HEC.out, HEE.out]
      rfl
    rw [hd1] at hc
    have he1 : e.o.val = .agg #[.int .i64 ek, .int .i64 ep, .int .u8 ec, .int .i64 (c : Int), .int .i64 es] := by rw [HEE.out]; rfl
    have he2 : d.val = .agg #[.int .i64 dk, .int .i64 dp, .int .u8 dc, .int .i64 dl, .int .i64 ds] := by rw [HDD.out]; rfl
    rw [he1, he2] at hc
    refine hc.mono ?_
    rintro r u3 ⟨rfl, m3, q3⟩
    refine ⟨rfl, ?_⟩
    obtain ⟨k1, k2, k3, k4, k5, k6, k7⟩ := HM1.out
    have et1 : e.tag = et := by rw [HEE.out]
    have h0 : W.heap[w.heap.size]? = some (.cells (edc e).toArray 48 (0, 0)) := by rw [HEE.out]; exact H0.out
    have hA := A4.of (x := x) (ls := ls) HX.out HC.out HLEN.out HEC.out hv HB.out h0 H1.out k1 k2 k3 k4 k5 k7 HM2.out.2 q3 (by rw [et1]; exact m3)
    rw [HDN.out, HDD.out] at hA
    rw [HDD.out]
    exact hA
  go_upto_region 4 with (go_at_call 49; refine CX.out.mono ?_; rintro e1 u3 ⟨rfl, hA4⟩)
  have HA4 := hd hA4
  clear CX hA4 HM1 HM2 HP1 HP2 d0 d1 d2 d3 d4 d5 hw1 HX HC H0 H1 HB HZ HDJ
  obtain ⟨cs2, y2, l2, G, hAS, hPF, hFJ, hl2⟩ := HA4.out
  obtain ⟨aE, cE, rfl⟩ : ∃ aE cE, vE = .slice aE n cE := by
    obtain ⟨a, c, h1, -⟩ := hAS.X.e.form
    rw [HN.out] at h1
    exact ⟨a, c, h1⟩
  obtain ⟨aD, cD, rfl⟩ : ∃ aD cD, vD = .slice aD n cD := by
    obtain ⟨a, c, h1, -⟩ := hAS.X.d.form
    rw [HLEN.out, HN.out] at h1
    exact ⟨a, c, h1⟩
  have HA := hd hAS
  have HPF := hd hPF
  have HFJ := hd hFJ
  have HL2 := hd hl2
  clear HA4 hAS hPF hFJ hl2
  generalize u3.alloc (.cells #[.int .i64 dk, .int .i64 dp, .int .u8 dc, .int .i64 dl, .int .i64 ds] 46) = u4 at *
  refine addE _ u4 o w.heap.size n cE aE et ek ep ec (c : Int) es rfl rfl (by simp)
    (fun v u => ∃ a3 c3, v = .slice a3 (n + 1) c3 ∧ u.cell? ⟨o, 1, none⟩ = some (.slice aE n cE) ∧ u.frozen? ⟨o, 1, none⟩ = false ∧ ∃ β', AS w0 (u.setCell ⟨o, 1, none⟩ (.slice a3 (n + 1) c3)) o b w.heap.size (w.heap.size + 1) u3.heap.size (cs2.setIfInBounds 1 (.slice a3 (n + 1) c3)) (E ++ [e]) D E S vs (.slice a3 (n + 1) c3) (.slice aD n cD) βs β' βD e d G) ?e0 ?ea ?es ?ek
  case e0 =>
    intro u hu
    have h3 := HA.out.below hu
    have hp := h3.hp
    rw [HEE.out] at hp
    obtain ⟨d0, d1, d2, d3, d4, d5⟩ := edCells hp
    exact ⟨h3.X.cells.2.1, d0, d1, d2, d3, d4, d5⟩
  case ea =>
    intro u t hu ht
    have hn := HN.out
    have hr := HR.out
    obtain ⟨a3, c3, u', k1, k2, β', k3⟩ := HA.out.pushE hu t (by rw [HEE.out]; exact ht) (by omega)
    rw [hn] at k1 k3
    exact ⟨_, u', k1, a3, c3, rfl, (cell_row k2 1).trans HA.out.X.c1, frozen_row k2 1, β', k3⟩
  case es =>
    rintro v u ⟨a3, c3, rfl, h1, h2, -⟩
    exact ⟨⟨_, _, _, rfl⟩, h1, h2⟩
  case ek =>
    rintro V' v u ⟨a3, c3, rfl, -, -, βe, hB⟩
    have HB := hd hB
    have HPF3 := hd (HPF.out.set (i := 1) (by omega) (.slice a3 (n + 1) c3))
    clear hB HA HPF
    generalize cs2.setIfInBounds 1 (.slice a3 (n + 1) c3) = cs3 at *
    generalize u.setCell ⟨o, 1, none⟩ (.slice a3 (n + 1) c3) = wB at *
    rename_i K0 hK0
    refine hK0 _ _ ?_
    clear hK0
    simp only [List.range, List.range.loop, List.map_cons, List.map_nil, sladdE, List.getD_cons_zero, List.getD_cons_succ, puts, List.foldl_cons, List.foldl_nil, Act.put, List.setIfInBounds_toArray, List.set_cons_succ, List.set_cons_zero]
    go_upto_region 5 with fail
    refine addD _ wB o u3.heap.size n cD aD dk dp dc dl ds rfl rfl (by simp)
      (fun v u => ∃ a4 c4, v = .slice a4 (n + 1) c4 ∧ u.cell? ⟨o, 2, none⟩ = some (.slice aD n cD) ∧ u.frozen? ⟨o, 2, none⟩ = false ∧ ∃ β', AS w0 (u.setCell ⟨o, 2, none⟩ (.slice a4 (n + 1) c4)) o b w.heap.size (w.heap.size + 1) u3.heap.size (cs3.setIfInBounds 2 (.slice a4 (n + 1) c4)) (E ++ [e]) (D ++ [d]) E S vs (.slice a3 (n + 1) c3) (.slice a4 (n + 1) c4) βs βe β' e d G) ?d0 ?da ?ds ?dk
    case d0 =>
      intro u hu
      have h3 := HB.out.below hu
      have hr := h3.hr
      rw [HDD.out] at hr
      obtain ⟨⟨o0, o1, o2, o3, o4⟩, -⟩ := opCells hr
      exact ⟨h3.X.cells.2.2.1, o0, o1, o2, o3, o4⟩
    case da =>
      intro u t hu ht
      have hlD : D.length = n := HLEN.out.trans HN.out
      have hr := HR.out
      have hn := HN.out
      obtain ⟨a4, c4, u', k1, k2, β', k3⟩ := HB.out.pushD hu t (by rw [HDD.out]; exact ht) (by omega)
      rw [hlD] at k1 k3
      exact ⟨_, u', k1, a4, c4, rfl, (cell_row k2 2).trans HB.out.X.c2, frozen_row k2 2, β', k3⟩
    case ds =>
      rintro v u ⟨a4, c4, rfl, h1, h2, -⟩
      exact ⟨⟨_, _, _, rfl⟩, h1, h2⟩
    case dk =>
      rintro V' v u ⟨a4, c4, rfl, -, -, βd, hB⟩
      have HB2 := hd hB
      have HPF4 := hd (HPF3.out.set (i := 2) (by omega) (.slice a4 (n + 1) c4))
      clear hB HB HPF3
      generalize cs3.setIfInBounds 2 (.slice a4 (n + 1) c4) = cs4 at *
      generalize u.setCell ⟨o, 2, none⟩ (.slice a4 (n + 1) c4) = wC at *
      rename_i K0 hK0
      refine hK0 _ _ ?_
      clear hK0
      simp only [List.range, List.range.loop, List.map_cons, List.map_nil, sladdD, List.getD_cons_zero, List.getD_cons_succ, puts, List.foldl_cons, List.foldl_nil, Act.put, List.setIfInBounds_toArray, List.set_cons_succ, List.set_cons_zero]
      have g1 := HB2.out.X.cells.2.1
      have lo := HB2.out.X.cells.2.2.2.2
      have hrv : ((n + 1 : Nat) : Int) = (n : Int) + 1 := rfl
      go_upto_region 7 with fail
      refine addM _ wC o w.heap.size b (c : Int) es ((n : Int) + 1) rfl rfl rfl (by simp) (fun u => AS w0 u o b w.heap.size (w.heap.size + 1) u3.heap.size cs4 (E ++ [e]) (D ++ [d]) (E ++ [e]) S vs (.slice a3 (n + 1) c3) (.slice a4 (n + 1) c4) βs βe βd e d G) ?m0 ?ma ?mk
      case m0 =>
        intro u hu
        have h3 := HB2.out.below hu
        have hp := h3.hp
        rw [HEE.out] at hp
        obtain ⟨d0, d1, d2, d3, d4, d5⟩ := edCells hp
        exact ⟨h3.X.cells.2.2.2.1, d4, d5⟩
      case ma =>
        intro u hu
        have hn := HN.out
        have hr := HR.out
        obtain ⟨u', k1, k2⟩ := HB2.out.put HWF.out (by omega) HQN.out hu
        refine ⟨u', ?_, k2⟩
        rw [hn] at k1
        have e1 : mkV e.o.cl e.o.sq = .agg #[.int .i64 (c : Int), .int .i64 es] := by rw [HEE.out]; rfl
        rw [e1] at k1
        exact k1
      case mk =>
        intro V7 wD hB
        have HB3 := hd hB
        clear hB HB2 g1 lo hrv
        rename_i K0 hK0
        refine hK0 _ _ ?_
        clear hK0
        simp only [List.range, List.range.loop, List.map_cons, List.map_nil, sladdM, List.getD_cons_zero, List.getD_cons_succ, puts, List.foldl_cons, List.foldl_nil, Act.put, List.setIfInBounds_toArray, List.set_cons_succ, List.set_cons_zero]
        have lo := HB3.out.X.cells.2.2.2.2
        have hrg := hd (show wD.rangeAt o 4 (ptL cs4) from fun j v hv => by
          rw [ptL_at] at hv
          exact (HB3.out.X.cell _).trans hv)
        have hin := hd (show (Tryz.prog.info? 63).map (·.size) = some (ptL cs4).length by rw [ptL_len HB3.out.X.sz]; exact infoA65)
        go_upto_region 9 with (refine wpList_load_mid rfl 63 (.tmp 66) rfl o 4 rfl (ptL cs4) _ hrg.out Tryz.underlying63 rfl hin.out ?_)
        have HSZ := hd HB3.out.X.sz
        clear hrg hin lo
        go_loopw [68] (fun i wr => ∃ j : Nat, j ≤ 65 ∧ i = .int .i64 (j : Int) ∧ Hid (∃ G, AS w0 wr o b w.heap.size (w.heap.size + 1) u3.heap.size cs4 (E ++ [e]) (D ++ [d]) (E ++ [e]) S vs (.slice a3 (n + 1) c3) (.slice a4 (n + 1) c4) βs βe βd e d G ∧ FJ x ls E (E ++ [e]) D (D ++ [d]) c y2 l2 j G)) (fun i _ => 65 - (intOf i).toNat)
        case atStart => exact ⟨0, Nat.zero_le _, rfl, G, HB3.out, HFJ.out⟩
        case round =>
          clear HB3 HFJ
          obtain ⟨j, hj, rfl, HJ⟩ := hrel
          by_cases hj5 : j < 65
          · have i1 : (j : Int) < 65 := by omega
            have wj : wrap64 ((j : Int) + 1) = (j : Int) + 1 := gq2 (n := 65) hj5 (by omega)
            have hme := gq3 hj5
            by_cases hjc : j = c
            · subst hjc
              have hix := run_ix wr (ptL cs4) j _ hj5 ((ptL_at j).trans HPF4.out.1)
              obtain ⟨G', hA, hF⟩ := HJ.out
              have HN2 := hd (show ∃ G, AS w0 wr o b w.heap.size (w.heap.size + 1) u3.heap.size cs4 (E ++ [e]) (D ++ [d]) (E ++ [e]) S vs (.slice a3 (n + 1) c3) (.slice a4 (n + 1) c4) βs βe βd e d G ∧ FJ x ls E (E ++ [e]) D (D ++ [d]) j y2 l2 (j + 1) G from ⟨G', hA, hF.skip (.inl rfl)⟩)
              have hp := hA.hp
              rw [HEE.out] at hp
              obtain ⟨-, -, -, -, d4, -⟩ := edCells hp
              have lw := block_lt hp
              clear hA hF hp HJ
              go_wp2_with fail
              exact ⟨⟨j + 1, by omega, by go_num, HN2⟩, by simp [intOf]; omega⟩
            · by_cases h0 : cnP (j : Int) E = 0
              · have hix := run_ix wr (ptL cs4) j (.pointer none) hj5 ((ptL_at j).trans ((HPF4.out.2 j (by omega) hjc).trans (by rw [ptV, if_pos h0])))
                obtain ⟨G', hA, hF⟩ := HJ.out
                have HN2 := hd (show ∃ G, AS w0 wr o b w.heap.size (w.heap.size + 1) u3.heap.size cs4 (E ++ [e]) (D ++ [d]) (E ++ [e]) S vs (.slice a3 (n + 1) c3) (.slice a4 (n + 1) c4) βs βe βd e d G ∧ FJ x ls E (E ++ [e]) D (D ++ [d]) c y2 l2 (j + 1) G from ⟨G', hA, hF.skip (.inr h0)⟩)
                clear hA hF HJ
                go_wp2_with fail
                exact ⟨⟨j + 1, by omega, by go_num, HN2⟩, by simp [intOf]; omega⟩
              · have hix := run_ix wr (ptL cs4) j (.pointer (some ⟨x j, 0, none⟩)) hj5 ((ptL_at j).trans ((HPF4.out.2 j (by omega) hjc).trans (by rw [ptV, if_neg h0])))
                obtain ⟨G', hA, hF⟩ := HJ.out
                have hp := hA.hp
                rw [HEE.out] at hp
                obtain ⟨-, -, -, -, d4, -⟩ := edCells hp
                have lw := block_lt hp
                have hr := hA.hr
                rw [HDD.out] at hr
                obtain ⟨⟨o0, o1, o2, o3, o4⟩, -⟩ := opCells hr
                have lr := block_lt hr
                have ejc : ((j : Int) == (c : Int)) = false := by simp; omega
                have hlsj := (HCS.out j (by omega) h0)
                have hne : e.o.cl ≠ (j : Int) := by rw [HEC.out]; omega
                have hdv : validP d = 0 := by have := HDV.out; rw [HDN.out] at this; exact this
                have hk := keep_rev (e := e) (d := d) (k := j) HLEN.out hne hdv HR.out hlsj
                have CK := hd (mo_keep hA.mo j (((hF.2 j (by omega) hjc h0).2 (Nat.le_refl _))) ((E.length : Int) + 1) d (valid_ok hdv))
                have HA := hd (And.intro hA hF)
                rw [hk.1, hk.2, HN.out] at CK
                have he2 : d.val = .agg #[.int .i64 dk, .int .i64 dp, .int .u8 dc, .int .i64 dl, .int .i64 ds] := by rw [HDD.out]; rfl
                rw [he2] at CK
                clear hA hF hp hr HJ hlsj hne hdv hk he2
                go_wp2_with (go_at_call 50; refine CK.out.mono ?_; rintro e1 u5 ⟨rfl, m5, k5⟩)
                exact ⟨⟨j + 1, by omega, by go_num, _, HA.out.1.kp k5 m5, HA.out.2.told hjc rfl⟩, by simp [intOf]; omega⟩
          · obtain rfl : j = 65 := by omega
            obtain ⟨G', hA, hF⟩ := HJ.out
            have hr := hA.hr
            rw [HDD.out] at hr
            obtain ⟨⟨o0, o1, o2, o3, o4⟩, -⟩ := opCells hr
            have lr := block_lt hr
            obtain ⟨⟨q0, q1, q2, q3, q4⟩, ⟨f0, f1, f2, f3, f4⟩⟩ := cells5 hA.hq
            have lq := block_lt hA.hq
            have nqr := hA.qr.1
            have Z := hd (fun W (hW : Fr (· = w.heap.size + 1) wr W) => hA.fin HPF4.out hF HEC.out HL2.out hW)
            clear hA hF HJ hr
            go_wp2_with fail
            refine bodyPost_ret (v := .agg #[.int .i64 dk, .int .i64 dp, .int .u8 dc, .int .i64 dl, .int .i64 ds]) (by simp [results, Tryz.results36, go_sem, q0, q1, q2, q3, q4]) rfl ?_
            exact ⟨rfl, Z.out _ (Fr.set5 wr (w.heap.size + 1) 0 dk dp dc dl ds)⟩
end

end Go.Proofs.YtilidolbplglcaaGreatDoor
