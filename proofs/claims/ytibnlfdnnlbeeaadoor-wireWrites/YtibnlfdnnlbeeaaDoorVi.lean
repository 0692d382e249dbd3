/-
  wire.EncodeItem, wire.DecodeItem.
-/
import Derived.Test.YtibnlfdnnlbeeaaDoorVg
import Derived.Test.YtibnlfdnnlbeeaaDoorVh
namespace Go.Proofs.YtibnlfdnnlbeeaaDoor
open Go.RowKit
set_option linter.unusedVariables false

/-- An item as a value. -/
def It.val (x : It) : Value := .agg #[.int .i64 x.kind, .int .i64 x.epoch, .int .i64 x.tag, .int .i64 x.ok, .int .i64 x.pos, .int .u8 x.ch, .int .i64 x.cl, .int .i64 x.sq]
def OkI (x : It) : Prop := 0 ≤ x.ch ∧ x.ch ≤ 255
/-- What EncodeItem answers. -/
def EncO (w : World) (x : It) (e : Ending) (w' : World) : Prop := Below w.heap.size w w' ∧
  ((nmP x.kind = 0 ∧ ErrB w' e 0 61) ∨
   (nmP x.kind ≠ 0 ∧ okTo (nmP x.kind) (VX x) 14 ∧ ∃ v, e = .returned (.tuple #[v, .nilIface]) ∧ OwnB w' w.heap.size v (bytesAt (nmP x.kind) (VX x) 14).length (bytesAt (nmP x.kind) (VX x) 14)) ∨
   (nmP x.kind ≠ 0 ∧ ∃ k, k < 14 ∧ okTo (nmP x.kind) (VX x) k ∧ hasP 16130 k = true ∧ allowsP (nmP x.kind) (VX x) k = false ∧ ErrB w' e ((numAt k : Int) + 1) 63))

theorem nm_or (k : Int) : nmP k = 0 ∨ nmP k = 2 ∨ nmP k = 16128 := by
  unfold nmP
  split
  · exact .inr (.inl rfl)
  · split
    · exact .inr (.inr rfl)
    · exact .inl rfl
theorem kind_of (k : Int) (h : nmP k ≠ 0) : k = 1 ∨ k = 2 := by
  unfold nmP at h
  split at h
  · exact .inl (by assumption)
  · split at h
    · exact .inr (by assumption)
    · exact absurd rfl h

theorem writeO (x : It) (w0 w : World) (b0 : Below w0.heap.size w0 w) (hL : Lims w) :
    Calls Tryd.prog 20 #[.agg #[.int .i64 ((VX x) 0), .int .i64 ((VX x) 1), .int .i64 ((VX x) 2), .int .i64 ((VX x) 3), .int .i64 ((VX x) 4), .int .i64 ((VX x) 5), .int .i64 ((VX x) 6), .int .i64 ((VX x) 7), .int .i64 ((VX x) 8), .int .i64 ((VX x) 9), .int .i64 ((VX x) 10), .int .i64 ((VX x) 11), .int .i64 ((VX x) 12), .int .i64 ((VX x) 13)], .int .u16 16130, .func (Fn.func 22) #[] #[]] w (EncO w0 x) := by
  have k0 : VX x 0 = x.kind := rfl
  rcases nm_or x.kind with h | h
  · refine (write_bad (VX x) w (by rw [k0]; exact h)).mono ?_
    rintro e w' ⟨b, he⟩
    exact ⟨b0.trans (b.mono b0.size), .inl ⟨h, he⟩⟩
  · have hne : nmP x.kind ≠ 0 := by omega
    have hk := kind_of x.kind hne
    refine (write_any (VX x) (nmP x.kind) w h (by rw [k0]; omega) (by rw [k0]) hL).mono ?_
    rintro e w' ⟨b, ⟨h1, v, rfl, h2⟩ | ⟨k, hk, h1, h2, h3, v, rfl, h4⟩⟩
    · exact ⟨b0.trans (b.mono b0.size), .inr (.inl ⟨hne, h1, v, rfl, h2.mono b0.size⟩)⟩
    · exact ⟨b0.trans (b.mono b0.size), .inr (.inr ⟨hne, k, hk, h1, h2, h3, v, rfl, h4⟩)⟩

theorem EncO.form {w w' : World} {x : It} {e : Ending} (h : EncO w x e w') : ∃ u v, e = .returned (.tuple #[u, v]) := by
  rcases h.2 with ⟨-, v, rfl, -⟩ | ⟨-, -, v, rfl, -⟩ | ⟨-, k, -, -, -, -, v, rfl, -⟩ <;> exact ⟨_, _, rfl⟩

set_option maxHeartbeats 2000000 in
theorem encode_any (x : It) (w : World) (hc : OkI x) (hL : Lims w) : Calls Tryd.prog 8 #[x.val] w (EncO w x) := by
  suffices h : ∀ Q : Ending → World → Prop, (∀ e w', EncO w x e w' → Q e w') → Calls Tryd.prog 8 #[.agg #[.int .i64 x.kind, .int .i64 x.epoch, .int .i64 x.tag, .int .i64 x.ok, .int .i64 x.pos, .int .u8 x.ch, .int .i64 x.cl, .int .i64 x.sq]] w Q from h _ (fun _ _ h => h)
  intro Q hQ
  have HQ := hd hQ
  have bz : Below w.heap.size w (w.alloc (.cells #[.int .i64 x.kind, .int .i64 x.epoch, .int .i64 x.tag, .int .i64 x.ok, .int .i64 x.pos, .int .u8 x.ch, .int .i64 x.cl, .int .i64 x.sq] 26)) := (Below.refl _ _).alloc (Nat.le_refl _) _
  have BZ := hd bz
  have HL := hd (hL.below bz hL.lt)
  clear hQ bz hL
  go_enter Tryd.func8, Tryd.ntmps8
  go_wp2_with fail
  generalize w.alloc (.cells #[.int .i64 x.kind, .int .i64 x.epoch, .int .i64 x.tag, .int .i64 x.ok, .int .i64 x.pos, .int .u8 x.ch, .int .i64 x.cl, .int .i64 x.sq] 26) = w0 at *
  refine (ofItem_any x _ hc).mono ?_
  rintro e w1 ⟨rfl, b1⟩
  have B1 := hd (BZ.out.trans (b1.mono BZ.out.size))
  have L1 := hd (HL.out.below b1 HL.out.lt)
  clear b1
  go_wp2_with fail
  refine (writeO x w _ B1.out L1.out).mono ?_
  rintro e w2 hE
  obtain ⟨u, v, rfl⟩ := hE.form
  have HE := hd hE
  clear hE
  go_wp2
  exact HQ.out _ _ HE.out

/-- What the answer of read comes to. -/
def RdR (w : World) (bs : List Int) (V : Nat → Int) (v : Value) : Prop :=
  (V = (fun _ => 0) ∧ bs = [] ∧ IsF w v 0 62) ∨
  (V = (fun _ => 0) ∧ bs ≠ [] ∧ nmP (bs.getD 0 0) = 0 ∧ IsF w v 0 61) ∨
  (V = (fun _ => 0) ∧ bs ≠ [] ∧ nmP (bs.getD 0 0) ≠ 0 ∧ bs.length ≠ sizeP (nmP (bs.getD 0 0)) ∧ IsF w v bs.length 62) ∨
  (V = (fun _ => 0) ∧ bs ≠ [] ∧ nmP (bs.getD 0 0) ≠ 0 ∧ bs.length = sizeP (nmP (bs.getD 0 0)) ∧ ∃ k, k < 14 ∧ goodTo (nmP (bs.getD 0 0)) bs k ∧ hasP (nmP (bs.getD 0 0)) k = true ∧ allowsP (nmP (bs.getD 0 0)) (valsTo (nmP (bs.getD 0 0)) bs (k + 1)) k = false ∧ IsF w v (posAt (nmP (bs.getD 0 0)) k) 63) ∨
  (V = valsTo (nmP (bs.getD 0 0)) bs 14 ∧ v = .nilIface ∧ bs ≠ [] ∧ nmP (bs.getD 0 0) ≠ 0 ∧ bs.length = sizeP (nmP (bs.getD 0 0)) ∧ goodTo (nmP (bs.getD 0 0)) bs 14)
theorem RdR.below {w w' : World} {bs : List Int} {V : Nat → Int} {v : Value} (h : RdR w bs V v) (hb : Below w.heap.size w w') : RdR w' bs V v := by
  rcases h with ⟨h1, h2, h3⟩ | ⟨h1, h2, h3, h4⟩ | ⟨h1, h2, h3, h4, h5⟩ | ⟨h1, h2, h3, h4, k, q1, q2, q3, q4, q5⟩ | h
  · exact .inl ⟨h1, h2, h3.below hb⟩
  · exact .inr (.inl ⟨h1, h2, h3, h4.below hb⟩)
  · exact .inr (.inr (.inl ⟨h1, h2, h3, h4, h5.below hb⟩))
  · exact .inr (.inr (.inr (.inl ⟨h1, h2, h3, h4, k, q1, q2, q3, q4, q5.below hb⟩)))
  · exact .inr (.inr (.inr (.inr h)))
theorem IsF.keep {w w' : World} {v : Value} {p c : Int} {r : Nat} {cur : Array Value} (h : IsF w v p c) (hb : But r w w') (hr : w.heap[r]? = some (.cells cur 26 (0, 0))) : IsF w' v p c := by
  obtain ⟨b, e, hh⟩ := h
  refine ⟨b, e, (hb.block b (block_lt hh) ?_).trans hh⟩
  rintro rfl
  rw [hh] at hr
  injection hr with h1
  injection h1 with _ h2
  exact absurd h2 (by decide)
theorem RdR.keep {w w' : World} {bs : List Int} {V : Nat → Int} {v : Value} {r : Nat} {cur : Array Value} (h : RdR w bs V v) (hb : But r w w') (hr : w.heap[r]? = some (.cells cur 26 (0, 0))) : RdR w' bs V v := by
  rcases h with ⟨h1, h2, h3⟩ | ⟨h1, h2, h3, h4⟩ | ⟨h1, h2, h3, h4, h5⟩ | ⟨h1, h2, h3, h4, k, q1, q2, q3, q4, q5⟩ | h
  · exact .inl ⟨h1, h2, h3.keep hb hr⟩
  · exact .inr (.inl ⟨h1, h2, h3, h4.keep hb hr⟩)
  · exact .inr (.inr (.inl ⟨h1, h2, h3, h4, h5.keep hb hr⟩))
  · exact .inr (.inr (.inr (.inl ⟨h1, h2, h3, h4, k, q1, q2, q3, q4, q5.keep hb hr⟩)))
  · exact .inr (.inr (.inr (.inr h)))
theorem ReadO.form {w w' : World} {bs : List Int} {e : Ending} (h : ReadO w bs e w') (hR : Rng bs) : ∃ V v, e = .returned (.tuple #[.agg #[.int .i64 (V 0), .int .i64 (V 1), .int .i64 (V 2), .int .i64 (V 3), .int .i64 (V 4), .int .i64 (V 5), .int .i64 (V 6), .int .i64 (V 7), .int .i64 (V 8), .int .i64 (V 9), .int .i64 (V 10), .int .i64 (V 11), .int .i64 (V 12), .int .i64 (V 13)], v]) ∧ (0 ≤ V 11 ∧ V 11 ≤ 255) ∧ RdR w' bs V v ∧ Below w.heap.size w w' := by
  obtain ⟨b, h⟩ := h
  rcases h with ⟨h2, v, rfl, h3⟩ | ⟨h2, h3, v, rfl, h4⟩ | ⟨h2, h3, h4, v, rfl, h5⟩ | ⟨h2, h3, h4, k, q1, q2, q3, q4, v, rfl, q5⟩ | ⟨h1, h2, h3, h4, rfl⟩
  · exact ⟨fun _ => 0, v, rfl, ⟨Int.le_refl 0, by simp⟩, .inl ⟨rfl, h2, h3⟩, b⟩
  · exact ⟨fun _ => 0, v, rfl, ⟨Int.le_refl 0, by simp⟩, .inr (.inl ⟨rfl, h2, h3, h4⟩), b⟩
  · exact ⟨fun _ => 0, v, rfl, ⟨Int.le_refl 0, by simp⟩, .inr (.inr (.inl ⟨rfl, h2, h3, h4, h5⟩)), b⟩
  · exact ⟨fun _ => 0, v, rfl, ⟨Int.le_refl 0, by simp⟩, .inr (.inr (.inr (.inl ⟨rfl, h2, h3, h4, k, q1, q2, q3, q4, q5⟩))), b⟩
  · refine ⟨valsTo (nmP (bs.getD 0 0)) bs 14, .nilIface, rfl, ?_, .inr (.inr (.inr (.inr ⟨rfl, rfl, h1, h2, h3, h4⟩))), b⟩
    have h11 : hasP 1512 11 = false := by decide
    have h := hR.get (posAt (nmP (bs.getD 0 0)) 11)
    generalize nmP (bs.getD 0 0) = nm at *
    have e : valsTo nm bs 14 11 = if hasP nm 11 then bs.getD (posAt nm 11) 0 else 0 := by simp [valsTo, fldV, h11]
    rw [e]
    split
    · exact h
    · simp

/-- What DecodeItem answers. -/
def DecO (w : World) (bs : List Int) (e : Ending) (w' : World) : Prop := ∃ V v, e = .returned (.tuple #[.agg #[.int .i64 (V 0), .int .i64 (V 1), .int .i64 (V 8), .int .i64 (V 9), .int .i64 (V 10), .int .u8 (V 11), .int .i64 (V 12), .int .i64 (V 13)], v]) ∧ RdR w' bs V v ∧ (0 ≤ V 11 ∧ V 11 ≤ 255) ∧ Below w.heap.size w w'

set_option maxRecDepth 100000 in
set_option maxHeartbeats 4000000 in
theorem decode_any (a : Option Addr) (n c : Nat) (bs : List Int) (w : World) (hB : IsB w a n c bs) (hR : Rng bs) (hn : n ≤ 140737488351232) (hL : Lims w) : Calls Tryd.prog 9 #[.slice a n c] w (DecO w bs) := by
  suffices h : ∀ Q : Ending → World → Prop, (∀ e w', DecO w bs e w' → Q e w') → Calls Tryd.prog 9 #[.slice a n c] w Q from h _ (fun _ _ h => h)
  intro Q hQ
  have HQ := hd hQ
  have bz : Below w.heap.size w (w.alloc (.cells #[.int .i64 0, .int .i64 0, .int .i64 0, .int .i64 0, .int .i64 0, .int .u8 0, .int .i64 0, .int .i64 0] 26)) := (Below.refl _ _).alloc (Nat.le_refl _) _
  have hi := heap_alloc_new w (.cells #[.int .i64 0, .int .i64 0, .int .i64 0, .int .i64 0, .int .i64 0, .int .u8 0, .int .i64 0, .int .i64 0] 26)
  have BZ := hd bz
  have HI := hd hi
  have HL := hd (hL.below bz hL.lt)
  have HB := hd (hB.below bz)
  clear hQ bz hL hB hi
  go_enter Tryd.func9, Tryd.ntmps9
  go_wp2_with fail
  generalize w.alloc (.cells #[.int .i64 0, .int .i64 0, .int .i64 0, .int .i64 0, .int .i64 0, .int .u8 0, .int .i64 0, .int .i64 0] 26) = w0 at *
  refine (read_any a n c bs _ HB.out hR hn HL.out).mono ?_
  rintro e w1 hO
  obtain ⟨V, v, rfl, h11, hr, b1⟩ := hO.form hR
  have HR1 := hd hr
  have hv : VB (w1.alloc (.cells #[.int .i64 (V 0), .int .i64 (V 1), .int .i64 (V 2), .int .i64 (V 3), .int .i64 (V 4), .int .i64 (V 5), .int .i64 (V 6), .int .i64 (V 7), .int .i64 (V 8), .int .i64 (V 9), .int .i64 (V 10), .int .i64 (V 11), .int .i64 (V 12), .int .i64 (V 13)] 52)) w1.heap.size V := heap_alloc_new _ _
  have b2 : Below w1.heap.size w1 (w1.alloc (.cells #[.int .i64 (V 0), .int .i64 (V 1), .int .i64 (V 2), .int .i64 (V 3), .int .i64 (V 4), .int .i64 (V 5), .int .i64 (V 6), .int .i64 (V 7), .int .i64 (V 8), .int .i64 (V 9), .int .i64 (V 10), .int .i64 (V 11), .int .i64 (V 12), .int .i64 (V 13)] 52)) := (Below.refl _ _).alloc (Nat.le_refl _) _
  have hi2 := ((b1.trans (b2.mono b1.size)).block _ (block_lt HI.out)).trans HI.out
  have R2 := hd (hr.below b2)
  have B2 := hd (BZ.out.trans ((b1.trans (b2.mono b1.size)).mono BZ.out.size))
  have HI2 := hd hi2
  have c0 := hv.at 0 (by omega)
  have c1 := hv.at 1 (by omega)
  have c2 := hv.at 2 (by omega)
  have c3 := hv.at 3 (by omega)
  have c4 := hv.at 4 (by omega)
  have c5 := hv.at 5 (by omega)
  have c6 := hv.at 6 (by omega)
  have c7 := hv.at 7 (by omega)
  have c8 := hv.at 8 (by omega)
  have c9 := hv.at 9 (by omega)
  have c10 := hv.at 10 (by omega)
  have c11 := hv.at 11 (by omega)
  have c12 := hv.at 12 (by omega)
  have c13 := hv.at 13 (by omega)
  clear hO hr b1 b2 hv hi2 HR1 HI BZ HL HB
  go_wp2_with fail
  generalize w1.alloc (.cells #[.int .i64 (V 0), .int .i64 (V 1), .int .i64 (V 2), .int .i64 (V 3), .int .i64 (V 4), .int .i64 (V 5), .int .i64 (V 6), .int .i64 (V 7), .int .i64 (V 8), .int .i64 (V 9), .int .i64 (V 10), .int .i64 (V 11), .int .i64 (V 12), .int .i64 (V 13)] 52) = w2 at *
  refine (item_any V _ h11).mono ?_
  rintro e w3 ⟨rfl, b3⟩
  have hi3 := (b3.block _ (block_lt HI2.out)).trans HI2.out
  obtain ⟨A1, A2⟩ := item_set (V := V) hi3
  have R3 := R2.out.below b3
  have e0 := cell_row hi3 0
  simp at e0
  have f0 := frozen_row hi3 0
  have q0 := cell_row A1 0
  simp at q0
  have e1 := cell_row hi3 1
  simp at e1
  have f1 := frozen_row hi3 1
  have q1 := cell_row A1 1
  simp at q1
  have e2 := cell_row hi3 2
  simp at e2
  have f2 := frozen_row hi3 2
  have q2 := cell_row A1 2
  simp at q2
  have e3 := cell_row hi3 3
  simp at e3
  have f3 := frozen_row hi3 3
  have q3 := cell_row A1 3
  simp at q3
  have e4 := cell_row hi3 4
  simp at e4
  have f4 := frozen_row hi3 4
  have q4 := cell_row A1 4
  simp at q4
  have e5 := cell_row hi3 5
  simp at e5
  have f5 := frozen_row hi3 5
  have q5 := cell_row A1 5
  simp at q5
  have e6 := cell_row hi3 6
  simp at e6
  have f6 := frozen_row hi3 6
  have q6 := cell_row A1 6
  simp at q6
  have e7 := cell_row hi3 7
  simp at e7
  have f7 := frozen_row hi3 7
  have q7 := cell_row A1 7
  simp at q7
  have R : Hid (RdR ((((((((w3.setCell ⟨w.heap.size, 0, none⟩ (.int .i64 (V 0))).setCell ⟨w.heap.size, 1, none⟩ (.int .i64 (V 1))).setCell ⟨w.heap.size, 2, none⟩ (.int .i64 (V 8))).setCell ⟨w.heap.size, 3, none⟩ (.int .i64 (V 9))).setCell ⟨w.heap.size, 4, none⟩ (.int .i64 (V 10))).setCell ⟨w.heap.size, 5, none⟩ (.int .u8 (V 11))).setCell ⟨w.heap.size, 6, none⟩ (.int .i64 (V 12))).setCell ⟨w.heap.size, 7, none⟩ (.int .i64 (V 13))) bs V v ∧ Below w.heap.size w ((((((((w3.setCell ⟨w.heap.size, 0, none⟩ (.int .i64 (V 0))).setCell ⟨w.heap.size, 1, none⟩ (.int .i64 (V 1))).setCell ⟨w.heap.size, 2, none⟩ (.int .i64 (V 8))).setCell ⟨w.heap.size, 3, none⟩ (.int .i64 (V 9))).setCell ⟨w.heap.size, 4, none⟩ (.int .i64 (V 10))).setCell ⟨w.heap.size, 5, none⟩ (.int .u8 (V 11))).setCell ⟨w.heap.size, 6, none⟩ (.int .i64 (V 12))).setCell ⟨w.heap.size, 7, none⟩ (.int .i64 (V 13)))) := ⟨R3.keep A2 hi3, (B2.out.trans (b3.mono B2.out.size)).trans (A2.below (Nat.le_trans B2.out.size b3.size) (Nat.le_refl _))⟩
  clear R3 A1 A2 hi3 b3 c0 c1 c2 c3 c4 c5 c6 c7 c8 c9 c10 c11 c12 c13
  go_wp2
  refine bodyPost_ret (v := .tuple #[.agg #[.int .i64 (V 0), .int .i64 (V 1), .int .i64 (V 8), .int .i64 (V 9), .int .i64 (V 10), .int .u8 (V 11), .int .i64 (V 12), .int .i64 (V 13)], v]) (by simp [results, Tryd.results9, go_sem, q0, q1, q2, q3, q4, q5, q6, q7]) rfl ?_
  exact HQ.out _ _ ⟨V, v, rfl, R.out.1, h11, R.out.2⟩

end Go.Proofs.YtibnlfdnnlbeeaaDoor
