/-
  The tale: sightAt.
-/
import Derived.Test.YtfhghijefjhehaaDoorML
namespace Go.Proofs.YtfhghijefjhehaaDoor
open Go.RowKit
set_option linter.unusedVariables false

/-- Within sightAt. -/
def SiI (w wr : World) (s m : Nat) (V : List Dd) (bx : Array Value) : Prop := SG wr s m V ∧ wr.heap[w.heap.size]? = some (.cells bx 50 (0, 0)) ∧ (w.heap.size < s ∧ w.heap.size < m) ∧ Below w.heap.size w wr
theorem SiI.below {w wr u : World} {s m : Nat} {V : List Dd} {bx : Array Value} (h : SiI w wr s m V bx) (hb : Below wr.heap.size wr u) : SiI w u s m V bx := by
  obtain ⟨h1, h2, h3, h4⟩ := h
  exact ⟨h1.below hb, block_keep hb h2 (block_lt h2), h3, h4.trans (hb.mono h4.size)⟩
theorem SiI.see {w wr u : World} {s m : Nat} {V V' : List Dd} {bx : Array Value} (h : SiI w wr s m V bx) (hF : Fr (fun k => k = s ∨ k = m) wr u) (hS : SG u s m V') : SiI w u s m V' bx := by
  obtain ⟨h1, h2, h3, h4⟩ := h
  exact ⟨hS, hF.keeps h2 (by omega), h3, h4.trans (hF.below h4.size (fun k hk => by omega))⟩

theorem take_snoc {α : Type} (l : List α) (k : Nat) (d : α) (h : l[k]? = some d) : l.take (k + 1) = l.take k ++ [d] := by
  rw [List.take_add_one, h]
  rfl

set_option maxRecDepth 100000 in
set_option maxHeartbeats 8000000 in
theorem sightAt_any (w : World) (x : Nat) (C : Int) (aL : Option Addr) (nL cL : Nat) (vE : Value) (S : Nat → Ls) (L : Nat → Option Nat) (log : List Ed) (st : Int) (sN hN mN : Nat) (ok op oc ol os : Int) (ad : Option Addr) (nd cd : Nat)
    (h : TL w x C (.slice aL nL cL) vE S L) (hL : IsL w aL nL log) (deeds : Nat → List Dd) (hS : ∀ c, c < 65 → S (130 + c) = .ds (deeds c)) (f : Nat → Dd)
    (hf : ∀ k (hk : k < log.length), k < hN → ∃ cN qN : Nat, log[k].o.cl = (cN : Int) ∧ cN < 65 ∧ log[k].o.sq = (qN : Int) + 1 ∧ (deeds cN)[qN]? = some (f k)) (h1 : hN ≤ nL) (h2 : nL ≤ cL) (h2' : cL ≤ 4611686018427387904) (h3 : sN < 65) (h4 : mN ≤ (deeds sN).length)
    (w1 : ∀ k, k < hN → wfE (dEl (f k))) (w2 : ∀ d ∈ deeds sN, wfE (dEl d)) (hb1 : ∀ c, (deeds c).length ≤ 2305843009213693952) :
    Calls Tryd.prog 21 #[.pointer (some ⟨x, 0, none⟩), .agg #[.int .i64 st, .int .i64 (sN : Int), .int .i64 (hN : Int), .int .i64 (mN : Int), .int .i64 ok, .int .i64 op, .int .u8 oc, .int .i64 ol, .int .i64 os, .slice ad nd cd]] w fun e w' => ∃ s m, e = .returned (.pointer (some ⟨s, 0, none⟩)) ∧ SG w' s m ((List.range hN).map f ++ (deeds sN).take mN) ∧ w.heap.size ≤ s ∧ w.heap.size ≤ m ∧ Below w.heap.size w w' := by
  have hb : Below w.heap.size w (w.alloc (.cells #[.int .i64 st, .int .i64 (sN : Int), .int .i64 (hN : Int), .int .i64 (mN : Int), .int .i64 ok, .int .i64 op, .int .u8 oc, .int .i64 ol, .int .i64 os, .slice ad nd cd] 50)) := (Below.refl _ _).alloc (Nat.le_refl _) _
  have hE := hd (heap_alloc_new w (.cells #[.int .i64 st, .int .i64 (sN : Int), .int .i64 (hN : Int), .int .i64 (mN : Int), .int .i64 ok, .int .i64 op, .int .u8 oc, .int .i64 ol, .int .i64 os, .slice ad nd cd] 50))
  have HB := hd hb
  have HT := hd (fun u (hu : Below w.heap.size w u) => h.below hu)
  have HL := hd (fun u (hu : Below w.heap.size w u) => hL.below hu (Nat.le_refl _))
  have HLL := hd hL.1
  have HS := hd hS
  have HF := hd hf
  have HW1 := hd w1
  have HW2 := hd w2
  have HB1 := hd hb1
  have H2' := hd h2'
  clear h hb hL hS hf w1 w2 hb1 h2'
  go_enter Tryd.func21, Tryd.ntmps21
  go_upto_region 1 with fail
  generalize w.alloc (.cells #[.int .i64 st, .int .i64 (sN : Int), .int .i64 (hN : Int), .int .i64 (mN : Int), .int .i64 ok, .int .i64 op, .int .u8 oc, .int .i64 ol, .int .i64 os, .slice ad nd cd] 50) = w0 at *
  go_upto_region 2 with (go_at_call 33; refine (newSight_any _).mono ?_; rintro e u ⟨s, m, rfl, hg, gs, gm, bu⟩)
  have I0 : Hid (SiI w u s m [] #[.int .i64 st, .int .i64 (sN : Int), .int .i64 (hN : Int), .int .i64 (mN : Int), .int .i64 ok, .int .i64 op, .int .u8 oc, .int .i64 ol, .int .i64 os, .slice ad nd cd]) := by
    have := block_lt hE.out
    exact ⟨hg, block_keep bu hE.out this, ⟨by omega, by omega⟩, HB.out.trans (bu.mono HB.out.size)⟩
  clear hg gs gm bu hE HB
  have e1 := cell_row I0.out.2.1 1; have e2 := cell_row I0.out.2.1 2; have e3 := cell_row I0.out.2.1 3
  simp at e1 e2 e3
  have t1 := (HT.out u I0.out.2.2.2).heads.2.1
  have i1 : (hN : Int) ≤ (cL : Int) := by omega
  have i2 : (0 : Int) ≤ (hN : Int) := by omega
  have i3 : hN ≤ cL := by omega
  clear e1 e3
  go_quiet (fail)
  have I1 := hd (I0.out.below (below_drewN (Below.refl _ _) nq))
  clear e2 t1 I0
  generalize u.drewN nq = u1 at *
  go_wp2_with fail
  go_loopw [20] (fun v wr => ∃ k : Nat, k ≤ hN ∧ v = .int .i64 k ∧ Hid (SiI w wr s m ((List.range k).map f) #[.int .i64 st, .int .i64 (sN : Int), .int .i64 (hN : Int), .int .i64 (mN : Int), .int .i64 ok, .int .i64 op, .int .u8 oc, .int .i64 ol, .int .i64 os, .slice ad nd cd])) (fun v _ => hN - (intOf v).toNat)
  case atStart => exact ⟨0, Nat.zero_le _, rfl, I1.out⟩
  case round =>
    obtain ⟨k, hk, rfl, HR⟩ := hrel
    clear I1
    by_cases hlt : k < hN
    · have l1 : k < log.length := by have := HLL.out; omega
      obtain ⟨b, off, rfl, sb, q⟩ := (HL.out wr HR.out.2.2.2).2 (by omega)
      obtain ⟨q0, q1, q2, q3, q4, q5⟩ := q k l1
      obtain ⟨cN, qN, hcl, hc65, hsq, hdd⟩ := HF.out k l1 hlt
      rw [hcl] at q4
      rw [hsq] at q5
      clear q hcl hsq
      generalize log[k].tag = tg at q0
      generalize log[k].o.kind = kd at q1
      generalize log[k].o.pos = ps at q2
      generalize log[k].o.ch = ch at q3
      have i4 : (k : Int) < (hN : Int) := by omega
      have HA : Hid (SiI w (wr.alloc (.cells #[.int .i64 tg, .int .i64 kd, .int .i64 ps, .int .u8 ch, .int .i64 (cN : Int), .int .i64 ((qN : Int) + 1)] 48)) s m ((List.range k).map f) #[.int .i64 st, .int .i64 (sN : Int), .int .i64 (hN : Int), .int .i64 (mN : Int), .int .i64 ok, .int .i64 op, .int .u8 oc, .int .i64 ol, .int .i64 os, .slice ad nd cd]) := HR.out.below ((Below.refl _ _).alloc (Nat.le_refl _) _)
      have CD := hd (deed_any (HT.out _ HA.out.2.2.2) cN qN hc65 (deeds cN) (HS.out cN hc65) (f k) hdd (by have := HB1.out cN; omega) kd ps ch)
      have HWk := hd (HW1.out k hlt)
      clear hdd hc65 HR
      go_wp2_with fail
      refine CD.out.mono ?_
      rintro e u2 ⟨rfl, bu2⟩
      have H3 := hd (HA.out.below bu2)
      have CS := hd (see_any u2 s m ((List.range k).map f) (f k) H3.out.1 HWk.out (by have := H2'.out; simp only [List.length_map, List.length_range]; omega))
      clear HA CD bu2 HWk q0 q1 q2 q3 q4 q5
      go_wp2_with fail
      refine CS.out.mono ?_
      rintro e u3 ⟨rfl, hg, hF⟩
      have H4 := hd (H3.out.see hF hg)
      rw [show (List.range k).map f ++ [f k] = (List.range (k + 1)).map f by rw [List.range_succ, List.map_append]; rfl] at H4
      have E3 : wrap64 ((k : Int) + 1) = ((k + 1 : Nat) : Int) := by have := H2'.out; rw [wrap64]; omega
      clear hg hF CS H3 sb i1 i2 i3
      go_wp2
      exact ⟨⟨k + 1, by omega, by rw [E3], H4.out⟩, by rw [E3]; simp only [intOf, Int.toNat_natCast]; omega⟩
    · obtain rfl : k = hN := by omega
      have e1 := cell_row HR.out.2.1 1; have e3 := cell_row HR.out.2.1 3
      simp at e1 e3
      obtain ⟨v, hv, hS⟩ := (HT.out w (Below.refl _ _)).slot (130 + sN) (by omega)
      rw [HS.out sN h3] at hS
      have SFW := hd (show SF ddc 9 w 89 (L (130 + sN)) v (deeds sN) from hS)
      obtain ⟨a3, c3, rfl, g1, g2⟩ := SFW.out.form
      have lx := (HT.out w (Below.refl _ _)).lt
      have t0 : wr.cell? ⟨x, 133 + sN, none⟩ = some (.slice a3 (deeds sN).length c3) := by
        rw [show 133 + sN = 3 + (130 + sN) by omega]
        exact (HR.out.2.2.2.cell (p := ⟨x, 3 + (130 + sN), none⟩) lx).trans hv
      clear hv hS lx HL HF HW1 HLL
      have c65 : (sN : Int) < 65 := by omega
      have i4 : (mN : Int) ≤ (c3 : Int) := by omega
      have i5 : (0 : Int) ≤ (mN : Int) := by omega
      have i6 : mN ≤ c3 := by omega
      have G3 := hd g1
      have HKL := hd (show k ≤ cL by omega)
      have HD := hd h4
      clear h1 h2 h4 g1 g2 i1 i2 i3 hk hlt
      generalize hnd : (deeds sN).length = n at *
      have HND := hd hnd
      clear hnd
      go_upto_region 7 with fail
      go_quiet (fail)
      have J1 : Hid (SiI w (wr.drewN nq) s m ((List.range k).map f ++ (deeds sN).take 0) #[.int .i64 st, .int .i64 (sN : Int), .int .i64 (k : Int), .int .i64 (mN : Int), .int .i64 ok, .int .i64 op, .int .u8 oc, .int .i64 ol, .int .i64 os, .slice ad nd cd]) := by
        have t := HR.out.below (below_drewN (Below.refl _ _) nq)
        rw [List.take_zero, List.append_nil]
        exact t
      clear e1 e3 t0 HR i4 i5 i6
      generalize wr.drewN nq = u5 at *
      go_wp2_with fail
      go_loopw [42] (fun v wr => ∃ j : Nat, j ≤ mN ∧ v = .int .i64 j ∧ Hid (SiI w wr s m ((List.range k).map f ++ (deeds sN).take j) #[.int .i64 st, .int .i64 (sN : Int), .int .i64 (k : Int), .int .i64 (mN : Int), .int .i64 ok, .int .i64 op, .int .u8 oc, .int .i64 ol, .int .i64 os, .slice ad nd cd])) (fun v _ => mN - (intOf v).toNat)
      case atStart => exact ⟨0, Nat.zero_le _, rfl, J1.out⟩
      case round =>
        obtain ⟨j, hj, rfl, HR⟩ := hrel
        clear J1
        by_cases hlt : j < mN
        · have jl : j < (deeds sN).length := by have := HD.out; have := HND.out; omega
          obtain ⟨g, cap, hv, lg, lc, d0, d1, d2, d3, d4, d5, d6, d7, d8⟩ := dd_cells (SFW.out.fr (Fr.of_below (S := fun _ => False) HR.out.2.2.2) (fun _ _ h => h)) j jl
          obtain ⟨rfl, -, rfl⟩ : a3 = some ⟨g, 0, none⟩ ∧ n = (deeds sN).length ∧ c3 = cap := by simpa using hv
          have HWj := hd (HW2.out _ (List.getElem_mem jl))
          have TK := hd (take_snoc (deeds sN) j _ (List.getElem?_eq_getElem jl))
          have i7 : (j : Int) < (mN : Int) := by omega
          clear hv
          generalize (deeds sN)[j] = d at *
          obtain ⟨⟨dt, ⟨dk, dp, dc, dl, ds⟩⟩, ec, el, es⟩ := d
          simp only at d0 d1 d2 d3 d4 d5 d6 d7 d8
          have HA : Hid (SiI w (wr.alloc (.cells #[.int .i64 dt, .int .i64 dk, .int .i64 dp, .int .u8 dc, .int .i64 dl, .int .i64 ds, .int .u8 ec, .int .i64 el, .int .i64 es] 89)) s m ((List.range k).map f ++ (deeds sN).take j) #[.int .i64 st, .int .i64 (sN : Int), .int .i64 (k : Int), .int .i64 (mN : Int), .int .i64 ok, .int .i64 op, .int .u8 oc, .int .i64 ol, .int .i64 os, .slice ad nd cd]) := HR.out.below ((Below.refl _ _).alloc (Nat.le_refl _) _)
          have CS := hd (see_any _ s m _ ⟨⟨dt, ⟨dk, dp, dc, dl, ds⟩⟩, ec, el, es⟩ HA.out.1 HWj.out (by have := H2'.out; have := HKL.out; have := HB1.out sN; simp only [List.length_append, List.length_take, List.length_map, List.length_range]; omega))
          simp only [ddc] at CS
          have E3 : wrap64 ((j : Int) + 1) = ((j + 1 : Nat) : Int) := by have := HB1.out sN; have := HD.out; have := HND.out; rw [wrap64]; omega
          clear HR HWj
          go_wp2_with fail
          refine CS.out.mono ?_
          rintro e u3 ⟨rfl, hg, hF⟩
          have H4 := hd (HA.out.see hF hg)
          rw [List.append_assoc, ← TK.out] at H4
          clear hg hF CS HA d0 d1 d2 d3 d4 d5 d6 d7 d8 lg lc TK
          go_wp2
          exact ⟨⟨j + 1, by omega, by rw [E3], H4.out⟩, by rw [E3]; simp only [intOf, Int.toNat_natCast]; omega⟩
        · obtain rfl : j = mN := by omega
          have Z := hd (show SG wr s m ((List.range k).map f ++ (deeds sN).take j) ∧ w.heap.size ≤ s ∧ w.heap.size ≤ m ∧ Below w.heap.size w wr from ⟨HR.out.1, by have := HR.out.2.2.1; omega, by have := HR.out.2.2.1; omega, HR.out.2.2.2⟩)
          clear HR
          go_wp2
          go_ret
          exact ⟨s, m, rfl, Z.out⟩

end Go.Proofs.YtfhghijefjhehaaDoor
