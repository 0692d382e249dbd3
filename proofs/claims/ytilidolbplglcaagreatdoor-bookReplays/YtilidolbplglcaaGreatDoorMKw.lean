/-
  Texts put together: Kw Kx.
-/
import Derived.Test.YtilidolbplglcaaGreatDoorKu
/-! Kw -/
namespace Go.Proofs.YtilidolbplglcaaGreatDoor
open Go.RowKit
set_option linter.unusedVariables false

theorem mark_step {α : Type} (T : List α) (k : Nat) (y : α) (hk : k < T.length) : (List.replicate k y ++ T.drop k).set k y = List.replicate (k + 1) y ++ T.drop (k + 1) := by
  rw [List.set_append_right _ _ (by simp), List.length_replicate, Nat.sub_self, List.drop_eq_getElem_cons hk, List.set_cons_zero, List.replicate_succ']
  simp
theorem rep_add {α : Type} (n m : Nat) (y : α) : List.replicate n y ++ List.replicate m y = List.replicate (n + m) y := by rw [List.replicate_append_replicate]
/-- What is appended behind a list of marks: both are to be read. -/
theorem NowF.marks {α : Type} {f : α → List Value} {k : Nat} (hz : Sz f k) {w w' : World} {t : TypeId} {β : Option Nat} {v v' : Value} {n m : Nat} {y : α} (h : SF f k w t β v (List.replicate n y)) (hN : NowF f k w w' t β v' (List.replicate n y ++ List.replicate m y)) :
    ∃ S : Nat → Prop, Rs f k w' S v (List.replicate n y) ∧ Rs f k w' S v' (List.replicate (n + m) y) ∧ (∀ g, S g → β = some g ∨ w.heap.size ≤ g) ∧ Fr (fun g => β = some g) w w' ∧ ∀ g, S g → g < w'.heap.size := by
  rw [rep_add] at hN
  obtain ⟨g', h1, h2⟩ := hN
  have r1 := h1.rs hz
  rcases h2 with ⟨rfl, h3⟩ | ⟨rfl, h3⟩
  · refine ⟨fun g => g = g', ?_, r1.mono (fun b hb => by injection hb with hb; exact hb.symm), fun g hg => .inl (by rw [hg]), h3.mono (fun k _ hk => by rw [hk]), fun g hg => by rw [hg]; exact h1.lt _ rfl⟩
    obtain ⟨c0, rfl, hR0⟩ := h
    obtain ⟨c1, -, hR1⟩ := h1
    rw [List.length_replicate]
    refine ⟨some ⟨g', 0, none⟩, c0, by rw [List.length_replicate], fun hn => ⟨g', 0, rfl, rfl, hR1.lt, fun i hi j u hu => ?_⟩⟩
    rw [List.length_replicate] at hi hn
    have hj : j < k := by
      rw [← (hz y).1]
      have h5 := (List.getElem?_eq_some_iff.1 hu).1
      rwa [List.getElem_replicate] at h5
    have h6 := hR1.cell hz i j (by rw [List.length_replicate]; omega) hj
    rw [Nat.zero_add, h6]
    rw [List.getElem_replicate] at hu ⊢
    exact hu
  · refine ⟨fun g => β = some g ∨ g = w.heap.size, ?_, r1.mono (fun b hb => .inr (by injection hb with hb; exact hb.symm)), fun g hg => hg.imp id (fun h => by omega), h3.mono (fun k _ hk => hk.elim), fun g hg => by
      rcases hg with hg | hg
      · exact Nat.lt_of_lt_of_le (h.lt g hg) h3.size
      · rw [hg]; exact h1.lt _ rfl⟩
    exact ((h.fr h3 (fun _ _ h => h)).rs hz).mono (fun b hb => .inl hb)
set_option maxRecDepth 100000 in
set_option maxHeartbeats 4000000 in
theorem marked_any (v : Value) (xs : List OpE) (β : Option Nat) (m : Int) (w : World) (hS : SF opc 5 w 46 β v xs) (hn : xs.length ≤ 4096) :
    Calls Tryz.prog 13 #[v, .int .i64 m] w fun e w' => ∃ g, e = .returned g ∧ ∃ S : Nat → Prop, Rs opc 5 w' S v (List.replicate xs.length (mkOp m)) ∧ Rs opc 5 w' S g (List.replicate (xs.length + 2) (mkOp m)) ∧ (∀ k, S k → β = some k ∨ w.heap.size ≤ k) ∧ Fr (fun k => β = some k) w w' ∧ ∀ k, S k → k < w'.heap.size := by
  obtain ⟨a, c, rfl, -⟩ := hS.form
  obtain ⟨n, hl⟩ : ∃ n, xs.length = n := ⟨_, rfl⟩
  have HS : Hid (SF opc 5 w 46 β (.slice a n c) (List.replicate 0 (mkOp m) ++ xs.drop 0) ∧ Fr (fun k => β = some k) w w) := ⟨by rw [← hl]; simpa using hS, Fr.refl _ _⟩
  have HL := hd hl
  rw [hl] at hn ⊢
  clear hS hl
  go_enter Tryz.func13, Tryz.ntmps13
  go_wp2_with fail
  go_loopw [5] (fun iv wr => ∃ i : Nat, i ≤ n ∧ iv = .int .i64 (i : Int) ∧ Hid (SF opc 5 wr 46 β (.slice a n c) (List.replicate i (mkOp m) ++ xs.drop i) ∧ Fr (fun k => β = some k) w wr)) (fun iv _ => n - (intOf iv).toNat)
  case atStart => exact ⟨0, Nat.zero_le _, rfl, HS⟩
  case round =>
    clear HS
    obtain ⟨i, hi, rfl, HR⟩ := hrel
    by_cases hin : i < n
    · have hix : i < xs.length := by have := HL.out; omega
      obtain ⟨hSF, hFr⟩ := HR.out
      cases β with
      | none =>
        exfalso
        obtain ⟨e1, -⟩ := hSF
        injection e1 with _ e2 _
        omega
      | some g =>
        obtain ⟨cap, e1, hRow⟩ := hSF
        injection e1 with e1 e2 e3
        subst e1 e3
        have hlen : (List.replicate i (mkOp m) ++ xs.drop i).length = n := by rw [List.length_append, List.length_replicate, List.length_drop]; have := HL.out; omega
        have hil : i < (List.replicate i (mkOp m) ++ xs.drop i).length := by omega
        have lg := hRow.lt
        have c0 := hRow.cell sz_opc i 0 hil (by omega)
        have c1 := hRow.cell sz_opc i 1 hil (by omega)
        have c2 := hRow.cell sz_opc i 2 hil (by omega)
        have c3 := hRow.cell sz_opc i 3 hil (by omega)
        have c4 := hRow.cell sz_opc i 4 hil (by omega)
        obtain ⟨⟨zk, zp, zc, zl, zs⟩, hz⟩ : ∃ z, (List.replicate i (mkOp m) ++ xs.drop i)[i] = z := ⟨_, rfl⟩
        rw [hz] at c0 c1 c2 c3 c4
        simp only [opc, List.getElem?_cons_zero, List.getElem?_cons_succ, Nat.add_zero] at c0 c1 c2 c3 c4
        have hRO : RowO wr g n c (List.replicate i (mkOp m) ++ xs.drop i) := by rw [hlen] at hRow; exact hRow
        have f0 := hRO.frozen (i * 5)
        have f1 := hRO.frozen (i * 5 + 1)
        have f2 := hRO.frozen (i * 5 + 2)
        have f3 := hRO.frozen (i * 5 + 3)
        have f4 := hRO.frozen (i * 5 + 4)
        have hNX := RowO.set5 hRO i 0 m 0 0 0 hin
        have hms := mark_step xs i (mkOp m) hix
        unfold mkOp at hms hNX
        rw [hms] at hNX
        have hlen2 : (List.replicate (i + 1) (⟨0, m, 0, 0, 0⟩ : OpE) ++ xs.drop (i + 1)).length = n := by rw [List.length_append, List.length_replicate, List.length_drop]; have := HL.out; omega
        have Z : Hid (SF opc 5 (((((wr.setCell ⟨g, i * 5, none⟩ (.int .i64 0)).setCell ⟨g, i * 5 + 1, none⟩ (.int .i64 m)).setCell ⟨g, i * 5 + 2, none⟩ (.int .u8 0)).setCell ⟨g, i * 5 + 3, none⟩ (.int .i64 0)).setCell ⟨g, i * 5 + 4, none⟩ (.int .i64 0)) 46 (some g) (.slice (some ⟨g, 0, none⟩) n c) (List.replicate (i + 1) (mkOp m) ++ xs.drop (i + 1)) ∧ Fr (fun k => some g = some k) w (((((wr.setCell ⟨g, i * 5, none⟩ (.int .i64 0)).setCell ⟨g, i * 5 + 1, none⟩ (.int .i64 m)).setCell ⟨g, i * 5 + 2, none⟩ (.int .u8 0)).setCell ⟨g, i * 5 + 3, none⟩ (.int .i64 0)).setCell ⟨g, i * 5 + 4, none⟩ (.int .i64 0))) := by
          refine ⟨⟨c, by unfold mkOp; rw [hlen2], by unfold mkOp; rw [hlen2]; exact hNX⟩, hFr.trans ((Fr.set5 wr g (i * 5) 0 m 0 0 0).mono (fun k _ hk => by rw [hk]))⟩
        have i1 := gq4 hin
        have w1 := wrn hin (by omega)
        have hme := gq3 hin
        clear HR hRow hRO hNX hms hlen hlen2 hil hz hFr
        go_wp2_with fail
        exact ⟨⟨i + 1, hin, by first | go_num | (rw [w1]; go_num), Z⟩, by first | exact meas hme | (rw [w1]; exact meas hme)⟩
    · obtain rfl : i = n := by omega
      have i3 : ¬ ((i : Int) < (i : Int)) := by omega
      have HF : Hid (SF opc 5 wr 46 β (.slice a i c) (List.replicate i (mkOp m)) ∧ Fr (fun k => β = some k) w wr) := by
        have h := HR.out
        rw [List.drop_eq_nil_of_le (by have := HL.out; omega), List.append_nil] at h
        exact h
      clear HR
      have bA : Below wr.heap.size wr (wr.alloc (.cells #[.int .i64 0, .int .i64 m, .int .u8 0, .int .i64 0, .int .i64 0, .int .i64 0, .int .i64 m, .int .u8 0, .int .i64 0, .int .i64 0] 46)) := (Below.refl _ _).alloc (Nat.le_refl _) _
      have hnew := heap_alloc_new wr (.cells #[.int .i64 0, .int .i64 m, .int .u8 0, .int .i64 0, .int .i64 0, .int .i64 0, .int .i64 m, .int .u8 0, .int .i64 0, .int .i64 0] 46)
      obtain ⟨i0, hi0, hz0, hz1, hz2⟩ := info_parts Tryz.infoO
      have hSA := HF.out.1.fr (Fr.of_below (S := fun _ => False) bA) (fun _ _ h => h)
      obtain ⟨v', u', hap, hN⟩ := run_pushF sz_opc (P := Tryz.prog) _ 24 0 46 i0 _ 40 Tryz.underlying24 hi0 hz0 hz1 rfl hz2 β _ _ hSA ⟨wr.heap.size, 0, none⟩ 2 2 (List.replicate 2 (mkOp m)) rfl (fun j z hj => by
        rw [add_lit, cell_row hnew, Nat.zero_add, List.getElem?_toArray]
        exact hj) (by omega) (by rw [List.length_replicate]; omega) (by rw [List.length_replicate]; omega)
      have hap2 : ∀ ty, (Builtin.append_ #[24, 24] ty #[.slice a i c, .slice (some ⟨wr.heap.size, 0, none⟩) 2 2]).run Tryz.prog (wr.alloc (.cells #[.int .i64 0, .int .i64 m, .int .u8 0, .int .i64 0, .int .i64 0, .int .i64 0, .int .i64 m, .int .u8 0, .int .i64 0, .int .i64 0] 46)) = .ok v' u' := fun ty => hap
      obtain ⟨S, r1, r2, r3, r4, r5⟩ := NowF.marks sz_opc hSA hN
      obtain ⟨va, vn, vc, rfl⟩ := hN.slice
      have Z : Hid (∃ S : Nat → Prop, Rs opc 5 u' S (.slice a i c) (List.replicate i (mkOp m)) ∧ Rs opc 5 u' S (.slice va vn vc) (List.replicate (i + 2) (mkOp m)) ∧ (∀ k, S k → β = some k ∨ w.heap.size ≤ k) ∧ Fr (fun k => β = some k) w u' ∧ ∀ k, S k → k < u'.heap.size) := by
        have hz := HF.out.2.size
        refine ⟨S, r1, r2, fun k hk => (r3 k hk).imp id (fun h => ?_), (HF.out.2.trans (Fr.of_below bA)).trans r4, r5⟩
        have := bA.size
        omega
      have HAP := hd hap2
      clear hap hap2 hN hSA hnew bA r1 r2 r3 r4 r5 hi0 hz0 hz1 hz2 HF
      go_wp2_with (at_builtin; refine wpList_append_k _ rfl _ _ 24 24 rfl _ _ rfl rfl (HAP.out _) ?_)
      go_ret
      exact ⟨_, rfl, Z.out⟩

end Go.Proofs.YtilidolbplglcaaGreatDoor

/-! Kx -/
namespace Go.Proofs.YtilidolbplglcaaGreatDoor
open Go.RowKit
set_option linter.unusedVariables false

section
variable {α : Type} {f : α → List Value} {k : Nat}
theorem Rd.cells {w : World} {v : Value} {ys : List α} (h : Rd f k w v ys) (hz : Sz f k) (hn : 0 < ys.length) : ∃ ad c, v = .slice (some ad) ys.length c ∧ ∀ j u, (cl f ys)[j]? = some u → w.cell? (ad.add j) = some u := by
  obtain ⟨a, c, e, h⟩ := h
  obtain ⟨b, off, rfl, -, hc⟩ := h hn
  refine ⟨⟨b, off, none⟩, c, e, fun j u hu => ?_⟩
  have hj := (List.getElem?_eq_some_iff.1 hu).1
  rw [cl_len hz] at hj
  have hk : 0 < k := by
    rcases Nat.eq_zero_or_pos k with h0 | h0
    · rw [h0] at hj; omega
    · exact h0
  have hi : j / k < ys.length := (Nat.div_lt_iff_lt_mul hk).2 hj
  have hm : j % k < k := Nat.mod_lt _ hk
  have hd := Nat.div_add_mod j k
  have e1 : j / k * k + j % k = j := by rw [Nat.mul_comm]; exact hd
  have hg := cl_get hz ys (j / k) (j % k) hi hm
  rw [e1, hu] at hg
  have h2 := hc (j / k) hi (j % k) u hg.symm
  rw [Nat.add_assoc, e1] at h2
  rw [add_lit]
  exact h2
theorem run_app_zero {P : Program} (w : World) (t e : TypeId) (i : TypeInfo) (hu : P.underlying t = some (.slice e)) (hi : P.info? e = some i) (g N cap : Nat) (a : Option Addr) (c : Nat) (hc : N ≤ cap) (ty : TypeId) :
    (Builtin.append_ #[t, t] ty #[.slice (some ⟨g, 0, none⟩) N cap, .slice a 0 c]).run P w = .ok (.slice (some ⟨g, 0, none⟩) N cap) w := by
  have hl : ∀ (x : Addr), (loadCells x 0).run P w = .ok #[] w := fun x => by simpa using run_loadCells_list (P := P) w x [] (by simp)
  cases a <;> simp [Builtin.append_, run_underlying hu, Builtin.lenOf, Builtin.firstCells, sizeOf, typeInfo, hi, storeCells, hl, hc]
/-- append of a list onto an empty one of its own. -/
theorem run_copyF (hz : Sz f k) {P : Program} (w : World) (t e : TypeId) (i : TypeInfo) (z : Value) (bytes : Nat) (ht : P.underlying t = some (.slice e)) (hi : P.info? e = some i) (hzo : i.zero = some z) (hsz : i.size = k) (hzs : z.cells.size = k) (hby : i.bytes = bytes)
    (g : Nat) (hg : w.heap[g]? = some (.cells #[] e (0, 0))) (v : Value) (ys : List α) (hv : Rd f k w v ys) (h63 : ys.length ≤ 9223372036854775807) (hb : (ys.length + ys.length / 4 + 192) * bytes ≤ 281474976710656) :
    ∃ v' w', (∀ ty, (Builtin.append_ #[t, t] ty #[.slice (some ⟨g, 0, none⟩) 0 0, v]).run P w = .ok v' w') ∧ ∃ g', SF f k w' e (some g') v' ys ∧ (g' = g ∨ w.heap.size ≤ g') ∧ Fr (· = g) w w' := by
  have hrow : RowF f k w g 0 0 e ([] : List α) := ⟨[], hg, by simp [cl_nil], rfl, Nat.le_refl _, by omega, by simp⟩
  by_cases h0 : ys.length = 0
  · obtain rfl := List.eq_nil_of_length_eq_zero h0
    obtain ⟨a, c, rfl, -⟩ := hv
    exact ⟨_, w, fun ty => run_app_zero w t e i ht hi g 0 0 a c (Nat.le_refl _) ty, g, ⟨0, rfl, hrow⟩, .inl rfl, Fr.refl _ _⟩
  · obtain ⟨ad, c, rfl, hc⟩ := hv.cells hz (by omega)
    have hS : SF f k w e (some g) (.slice (some ⟨g, 0, none⟩) 0 0) ([] : List α) := ⟨0, rfl, hrow⟩
    have H := fun ty => run_pushF hz (P := P) w t ty e i z bytes ht hi hzo hsz hzs hby (some g) _ _ hS ad ys.length c ys rfl hc (by omega) (by simpa using h63) (by simpa using hb)
    obtain ⟨v', w', hr, g', h1, h2⟩ := H 0
    refine ⟨v', w', fun ty => ?_, g', by simpa using h1, ?_, ?_⟩
    · obtain ⟨v2, w2, hr2, -⟩ := H ty
      have e1 : (Builtin.append_ #[t, t] ty #[.slice (some ⟨g, 0, none⟩) 0 0, .slice (some ad) ys.length c]).run P w = (Builtin.append_ #[t, t] 0 #[.slice (some ⟨g, 0, none⟩) 0 0, .slice (some ad) ys.length c]).run P w := rfl
      rw [e1]
      exact hr
    · rcases h2 with ⟨h2, -⟩ | ⟨h2, -⟩
      · exact .inl (by injection h2 with h2; exact h2.symm)
      · exact .inr (by omega)
    · rcases h2 with ⟨h2, h3⟩ | ⟨h2, h3⟩
      · injection h2 with h2
        subst h2
        exact h3
      · exact h3.mono (fun _ _ h => h.elim)

/-- A list as an object. -/
def lsO (f : α → List Value) (k : Nat) (t : TypeId) (β : Option Nat) (v : Value) (xs : List α) : Thg := fun w S => SF f k w t β v xs ∧ ∀ g, S g ↔ β = some g
theorem frm_ls (f : α → List Value) (k : Nat) (t : TypeId) (β : Option Nat) (v : Value) (xs : List α) : Frm (lsO f k t β v xs) :=
  ⟨fun w w' S T h hF hS => ⟨h.1.fr hF (fun g hg => hS g ((h.2 g).2 hg)), h.2⟩, fun w S h j hj => h.1.lt j ((h.2 j).1 hj)⟩
/-- Lists of one mark each as one object. -/
def mkO (f : α → List Value) (k : Nat) (y : α) (L : List (Value × Nat)) : Thg := fun w S => (∀ x ∈ L, Rs f k w S x.1 (List.replicate x.2 y)) ∧ ∀ j, S j → j < w.heap.size
theorem frm_mk (f : α → List Value) (k : Nat) (y : α) (L : List (Value × Nat)) : Frm (mkO f k y L) :=
  ⟨fun w w' S T h hF hS => ⟨fun x hx => (h.1 x hx).fr hF hS, fun j hj => Nat.lt_of_lt_of_le (h.2 j hj) hF.size⟩, fun w S h => h.2⟩
end
/-- Two objects that one call has made. -/
theorem MO.put2 {w0 w w' : World} {K : Nat → Prop} {F : Nat → Thg} (h : MO w0 w K F) (i j : Nat) (hij : i ≠ j) {G1 G2 : Thg} {S1 S2 : Nat → Prop} (f1 : Frm G1) (f2 : Frm G2) (g1 : G1 w' S1) (g2 : G2 w' S2) (d : ∀ k, S1 k → ¬ S2 k) (l1 : ∀ k, S1 k → w.heap.size ≤ k) (l2 : ∀ k, S2 k → w.heap.size ≤ k) (hb : Below w.heap.size w w') : MO w0 w' K (setO (setO F i G1) j G2) := by
  classical
  obtain ⟨T, hx, hk⟩ := h.tags
  have hs := h.base.size
  refine ⟨⟨fun k => if w.heap.size ≤ k then (if S2 k then j + 1 else i + 1) else T k, fun m => ?_, fun k hk' => ?_⟩, h.base.trans (hb.mono hs), fun k hk => Nat.lt_of_lt_of_le (h.old k hk) hb.size, fun m => ?_⟩
  · by_cases e2 : m = j
    · subst e2
      rw [setO_same]
      refine ⟨S2, g2, fun k hk => ?_⟩
      have := l2 k hk
      simp only
      rw [if_pos this, if_pos hk]
      exact ⟨rfl, by omega⟩
    · rw [setO_other _ _ e2]
      by_cases e1 : m = i
      · subst e1
        rw [setO_same]
        refine ⟨S1, g1, fun k hk => ?_⟩
        have := l1 k hk
        simp only
        rw [if_pos this, if_neg (d k hk)]
        exact ⟨rfl, by omega⟩
      · rw [setO_other _ _ e1]
        obtain ⟨S, h3, h4⟩ := hx m
        refine ⟨S, (h.frm m).fr _ _ S (fun _ => False) h3 (Fr.of_below hb) (fun _ _ h => h), fun k hk => ?_⟩
        have := (h.frm m).old _ _ h3 k hk
        simp only
        rw [if_neg (by omega)]
        exact h4 k hk
  · have := h.old k hk'
    simp only
    rw [if_neg (by omega)]
    exact hk k hk'
  · by_cases e2 : m = j
    · subst e2; rw [setO_same]; exact f2
    · rw [setO_other _ _ e2]
      by_cases e1 : m = i
      · subst e1; rw [setO_same]; exact f1
      · rw [setO_other _ _ e1]; exact h.frm m

end Go.Proofs.YtilidolbplglcaaGreatDoor
