/-
  The document's line.
-/
import Derived.Test.YtmbnimlibnheeabDoorRd
import Derived.Test.YtmbnimlibnheeabDoorWe
namespace Go.Proofs.YtmbnimlibnheeabDoor
open Go.RowKit
set_option linter.unusedVariables false

def bendK (f : Bool) (F : List OpE) (e : Nat × Nat × OpE) (k : Nat) : List OpE := F.take e.1 ++ cLin (F.drop e.1) e.2.2 f k
def bendA (f : Bool) (F : List OpE) (e : Nat × Nat × OpE) (k : Nat) : OpE := cArr (F.drop e.1) e.2.2 f k
section
variable {f : Bool} {F : List OpE} {e : Nat × Nat × OpE}
theorem bendK_zero : bendK f F e 0 = F := by simp [bendK, cLin, throughP]
theorem bendA_zero : bendA f F e 0 = e.2.2 := by simp [bendA, cArr, throughP]
theorem bendK_len (h : EOk F.length e) (k : Nat) (hk : k ≤ e.2.1 - e.1) : (bendK f F e k).length = F.length := by
  obtain ⟨h1, h2⟩ := h
  unfold bendK
  rw [List.length_append, cLin_len _ _ _ _ (by simp; omega)]
  simp
  omega
theorem bendK_end (h : EOk F.length e) : bendK f F e (e.2.1 - e.1) = bend f F e := by
  obtain ⟨h1, h2⟩ := h
  unfold bendK bend cLin
  rw [List.drop_drop, show e.1 + (e.2.1 - e.1) = e.2.1 by omega, List.append_assoc]
theorem bend_step (h : EOk F.length e) (k : Nat) (hk : k < e.2.1 - e.1) (hF : e.1 + k < F.length) :
    (∀ hb : e.1 + k < (bendK f F e k).length, (bendK f F e k)[e.1 + k] = F[e.1 + k]) ∧ bendK f F e (k + 1) = (bendK f F e k).set (e.1 + k) (shiftP F[e.1 + k] (bendA f F e k) f) ∧ bendA f F e (k + 1) = shiftP (bendA f F e k) F[e.1 + k] (!f) := by
  obtain ⟨h1, h2⟩ := h
  have hk2 : k < (F.drop e.1).length := by simp; omega
  have hg : (F.drop e.1)[k] = F[e.1 + k] := by simp
  have hl : (F.take e.1).length = e.1 := by simp; omega
  refine ⟨fun hb => ?_, ?_, ?_⟩
  · have h3 := cLin_at (F.drop e.1) e.2.2 f k hk2
    have h4 : (bendK f F e k)[e.1 + k]? = some F[e.1 + k] := by
      unfold bendK
      rw [List.getElem?_append_right (by omega), hl, Nat.add_sub_cancel_left, h3, hg]
    rw [List.getElem?_eq_getElem hb] at h4
    exact Option.some.inj h4
  · unfold bendK
    rw [cLin_next _ _ _ _ hk2, hg, List.set_append_right _ _ (by omega), hl, Nat.add_sub_cancel_left]
    rfl
  · unfold bendA
    rw [cArr_next _ _ _ _ hk2, hg]
end
theorem formsL_succ (f : Bool) (L : List OpE) (far : List (Nat × Nat × OpE)) (j : Nat) (h : j < far.length) : formsL f L (far.take (j + 1)) = bend f (formsL f L (far.take j)) far[j] := by
  rw [List.take_succ_eq_append_getElem h, formsL_more]

/-- What the call has made: the operation at s, the answer at s + 1, the forms at g. -/
def LR (w wr : World) (o : OpE) (g N : Nat) (T : List OpE) : Prop :=
  RowO wr g N N T ∧ wr.heap[w.heap.size]? = some (.cells (opc o).toArray 37 (0, 0)) ∧ wr.heap[w.heap.size + 1]? = some (.cells (opc zop).toArray 37 (0, 0)) ∧ Below w.heap.size w wr

set_option maxRecDepth 100000 in
set_option maxHeartbeats 8000000 in
theorem rline_any (x : Nat) (r : Rf) (o : OpE) (S : Nat → Prop) (w : World) (h : RefAt w x r S) (hl : r.own.length ≤ 10000) (hfl : r.far.length ≤ 10000) :
    Calls Tryd.prog 33 #[.pointer (some ⟨x, 0, none⟩), o.val] w fun e w' => ∃ g c, e = .returned (.tuple #[.slice (some ⟨g, 0, none⟩) r.own.length c, (rpast r o).val]) ∧ w.heap.size ≤ g ∧ RowO w' g r.own.length c r.forms ∧ Below w.heap.size w w' := by
  obtain ⟨i0, hi0, hz0, hz1, hz2⟩ := info_parts Tryd.infoO
  have HP := hd (show rpast r o = (throughP o (r.forms.drop r.dr) r.f).1 from rfl)
  have HFL := hd (Rf.forms_len h.2)
  have HFM := hd (show r.forms = formsL r.f (r.own.map (·.2)) r.far from rfl)
  have HOK := hd h.2
  obtain ⟨⟨vo, vf, βo, βf, hK, -⟩, -⟩ := h
  obtain ⟨ao, co, hvo, hco1, hco2⟩ := hK.ro.form
  obtain ⟨af, cf, hvf, hcf1, hcf2⟩ := hK.rf.form
  subst hvo
  subst hvf
  have hxl := block_lt hK.box
  have C4 : Hid (∀ W, Below w.heap.size w W → W.cell? ⟨x, 0, none⟩ = some (.bool r.f) ∧ W.cell? ⟨x, 1, none⟩ = some (.slice ao r.own.length co) ∧ W.cell? ⟨x, 2, none⟩ = some (.slice af r.far.length cf) ∧ W.cell? ⟨x, 3, none⟩ = some (.int .i64 r.dr)) := fun W hW => by
    have hb := (hK.below hW).box
    have c0 := cell_row hb 0
    have c1 := cell_row hb 1
    have c2 := cell_row hb 2
    have c3 := cell_row hb 3
    simp at c0 c1 c2 c3
    exact ⟨c0, c1, c2, c3⟩
  have CO : Hid (∀ j (hj : j < r.own.length), ∃ go, ao = some ⟨go, 0, none⟩ ∧ go < w.heap.size ∧ ∀ W, Below w.heap.size w W → W.cell? ⟨go, j * 6 + 1, none⟩ = some (.int .i64 r.own[j].2.kind) ∧ W.cell? ⟨go, j * 6 + 2, none⟩ = some (.int .i64 r.own[j].2.pos) ∧ W.cell? ⟨go, j * 6 + 3, none⟩ = some (.int .u8 r.own[j].2.ch) ∧ W.cell? ⟨go, j * 6 + 4, none⟩ = some (.int .i64 r.own[j].2.cl) ∧ W.cell? ⟨go, j * 6 + 5, none⟩ = some (.int .i64 r.own[j].2.sq)) := fun j hj => by
    have hro := hK.ro
    cases βo with
    | none =>
      obtain ⟨-, h2⟩ := hro
      rw [h2] at hj
      simp at hj
    | some g' =>
      obtain ⟨cap, h1, hR⟩ := hro
      injection h1 with h1
      refine ⟨g', h1, hR.lt, fun W hW => ?_⟩
      have hR2 := hR.fr (S := fun _ => False) (Fr.of_below hW) (fun h => h)
      have b1 := hR2.cell sz_mkd j 1 hj (by omega)
      have b2 := hR2.cell sz_mkd j 2 hj (by omega)
      have b3 := hR2.cell sz_mkd j 3 hj (by omega)
      have b4 := hR2.cell sz_mkd j 4 hj (by omega)
      have b5 := hR2.cell sz_mkd j 5 hj (by omega)
      simp [mkd] at b1 b2 b3 b4 b5
      exact ⟨b1, b2, b3, b4, b5⟩
  have CF : Hid (∀ j (hj : j < r.far.length), ∃ gf, af = some ⟨gf, 0, none⟩ ∧ gf < w.heap.size ∧ ∀ W, Below w.heap.size w W → W.cell? ⟨gf, j * 7, none⟩ = some (.int .i64 r.far[j].1) ∧ W.cell? ⟨gf, j * 7 + 1, none⟩ = some (.int .i64 r.far[j].2.1) ∧ W.cell? ⟨gf, j * 7 + 2, none⟩ = some (.int .i64 r.far[j].2.2.kind) ∧ W.cell? ⟨gf, j * 7 + 3, none⟩ = some (.int .i64 r.far[j].2.2.pos) ∧ W.cell? ⟨gf, j * 7 + 4, none⟩ = some (.int .u8 r.far[j].2.2.ch) ∧ W.cell? ⟨gf, j * 7 + 5, none⟩ = some (.int .i64 r.far[j].2.2.cl) ∧ W.cell? ⟨gf, j * 7 + 6, none⟩ = some (.int .i64 r.far[j].2.2.sq)) := fun j hj => by
    have hro := hK.rf
    cases βf with
    | none =>
      obtain ⟨-, h2⟩ := hro
      rw [h2] at hj
      simp at hj
    | some g' =>
      obtain ⟨cap, h1, hR⟩ := hro
      injection h1 with h1
      refine ⟨g', h1, hR.lt, fun W hW => ?_⟩
      have hR2 := hR.fr (S := fun _ => False) (Fr.of_below hW) (fun h => h)
      have b0 := hR2.cell sz_fr j 0 hj (by omega)
      have b1 := hR2.cell sz_fr j 1 hj (by omega)
      have b2 := hR2.cell sz_fr j 2 hj (by omega)
      have b3 := hR2.cell sz_fr j 3 hj (by omega)
      have b4 := hR2.cell sz_fr j 4 hj (by omega)
      have b5 := hR2.cell sz_fr j 5 hj (by omega)
      have b6 := hR2.cell sz_fr j 6 hj (by omega)
      simp [fr] at b0 b1 b2 b3 b4 b5 b6
      exact ⟨b0, b1, b2, b3, b4, b5, b6⟩
  obtain ⟨L, hL⟩ : ∃ L, r.own.map (·.2) = L := ⟨_, rfl⟩
  have hLN : L.length = r.own.length := by rw [← hL]; simp
  have COL : Hid (∀ j (hj : j < r.own.length) (hj2 : j < L.length), r.own[j].2 = L[j]) := fun j hj hj2 => by subst hL; simp
  rw [hL] at HFM
  obtain ⟨N, hN⟩ : ∃ N, r.own.length = N := ⟨_, rfl⟩
  have HN := hd hN
  have HLN := hd (hLN.trans hN)
  rw [hN] at hl hco1 C4 HFL ⊢
  obtain ⟨M, hM⟩ : ∃ M, r.far.length = M := ⟨_, rfl⟩
  have HM := hd hM
  rw [hM] at hfl hcf1 C4
  rw [HP.out]
  obtain ⟨k, ps, c, q, s⟩ := o
  simp only [OpE.val]
  obtain ⟨c0, c1, c2, c3⟩ := C4.out w (Below.refl _ _)
  clear hK hL hLN hN hM HP
  go_enter Tryd.func33, Tryd.ntmps33
  go_wp2_with (first | (at_make; refine wpList_make_k _ rfl _ _ 68 rfl 37 i0 _ Tryd.underlying68 hi0 hz0 _ _ _ _ N N rfl rfl rfl rfl (Nat.le_refl _) (by rw [hz2]; omega) (by omega) ?_; intro w3 cur hg3 hcur hb3) | fail)
  have RM := (row_made hg3.out (by have := hcur.out; rw [hz1] at this; exact this) (by omega)).1
  obtain ⟨hp, hr, hB, hz⟩ := two_of hb3.out
  have hsz : ((w.alloc (.cells #[.int .i64 k, .int .i64 ps, .int .u8 c, .int .i64 q, .int .i64 s] 37)).alloc (.cells #[.int .i64 0, .int .i64 0, .int .u8 0, .int .i64 0, .int .i64 0] 37)).heap.size = w.heap.size + 2 := by simp
  rw [hsz] at RM
  have S0 : Hid (∃ zs, LR w w3 ⟨k, ps, c, q, s⟩ (w.heap.size + 2) N zs ∧ zs.length = N ∧ zs.take 0 = L.take 0) := ⟨_, ⟨RM, hp, hr, hB⟩, by simp, by simp⟩
  clear hg3 hcur hb3 hi0 hz0 hz1 hz2 RM hp hr hB hz hsz c0 c1 c2 c3
  obtain ⟨g, hg⟩ : ∃ g, w.heap.size + 2 = g := ⟨_, rfl⟩
  rw [hg] at S0
  try simp only [Nat.add_assoc, Nat.reduceAdd]
  try rw [hg]
  go_loopw [7] (fun u wr => ∃ j : Nat, j ≤ N ∧ u = .int .i64 j ∧ Hid (∃ zs, LR w wr ⟨k, ps, c, q, s⟩ g N zs ∧ zs.length = N ∧ zs.take j = L.take j)) (fun u _ => N - (intOf u).toNat)
  case atStart => exact ⟨0, Nat.zero_le _, rfl, S0⟩
  case round =>
    obtain ⟨j, hj, rfl, hr⟩ := hrel
    clear S0
    obtain ⟨zs, ⟨hR, hp, ha, hB⟩, hzl, hzt⟩ := hr.out
    by_cases hlt : j < N
    · have jo : j < r.own.length := by rw [HN.out]; exact hlt
      have jL : j < L.length := by rw [HLN.out]; exact hlt
      have jz : j < zs.length := by omega
      obtain ⟨go, rfl, hgo, hgc⟩ := CO.out j jo
      obtain ⟨k1, k2, k3, k4, k5⟩ := hgc wr hB
      obtain ⟨c0, c1, c2, c3⟩ := C4.out wr hB
      rw [COL.out j jo jL] at k1 k2 k3 k4 k5
      obtain ⟨y0, y1, y2, y3, y4⟩ := hR.isO.at j hlt jz
      simp only [Nat.zero_add] at y0 y1 y2 y3 y4
      have f0 := hR.frozen (j * 5)
      have f1 := hR.frozen (j * 5 + 1)
      have f2 := hR.frozen (j * 5 + 2)
      have f3 := hR.frozen (j * 5 + 3)
      have f4 := hR.frozen (j * 5 + 4)
      have Z : Hid (∀ k' p' c' q' s', L[j] = ⟨k', p', c', q', s'⟩ → ∃ zs, LR w (set5 wr g (j * 5) k' p' c' q' s') ⟨k, ps, c, q, s⟩ g N zs ∧ zs.length = N ∧ zs.take (j + 1) = L.take (j + 1)) := by
        intro k' p' c' q' s' hLj
        have hF := Fr.set5 wr g (j * 5) k' p' c' q' s'
        refine ⟨zs.set j ⟨k', p', c', q', s'⟩, ⟨hR.set5 j k' p' c' q' s' hlt, hF.keeps hp (by omega), hF.keeps ha (by omega), hB.trans (hF.below hB.size (fun i h => by omega))⟩, by simpa using hzl, ?_⟩
        rw [take_set_succ zs j _ jz, hzt, List.take_succ_eq_append_getElem jL, hLj]
      have i1 : (j : Int) < (N : Int) := by omega
      clear hr hR hp ha hB hzl hzt hgc
      generalize L[j] = X at *
      obtain ⟨x0, x1, x2, x3, x4⟩ := X
      simp only at k1 k2 k3 k4 k5
      generalize zs[j] = Y at *
      have Z2 := hd (Z.out x0 x1 x2 x3 x4 rfl)
      clear Z jL jo jz
      go_wp2
      exact ⟨⟨j + 1, by omega, by go_num, Z2⟩, by simp [intOf]; omega⟩
    · obtain rfl : j = N := by omega
      have hzs : zs = L := by
        rw [List.take_of_length_le (by omega), List.take_of_length_le (by rw [HLN.out]; exact Nat.le_refl _)] at hzt
        exact hzt
      subst hzs
      obtain ⟨c0, c1, c2, c3⟩ := C4.out wr hB
      have S1 : Hid (LR w wr ⟨k, ps, c, q, s⟩ g j (formsL r.f zs (r.far.take 0))) := ⟨hR, hp, ha, hB⟩
      have i1 : ¬ (j : Int) < (j : Int) := by omega
      clear hr hR hp ha hB hzl hzt hlt hj CO COL
      go_wp2
      go_loopw [8] (fun u wr => ∃ i : Nat, i ≤ M ∧ u = .int .i64 i ∧ Hid (LR w wr ⟨k, ps, c, q, s⟩ g j (formsL r.f zs (r.far.take i)))) (fun u _ => M - (intOf u).toNat)
      case atStart => exact ⟨0, Nat.zero_le _, rfl, S1⟩
      case round =>
        obtain ⟨i, hi, rfl, hr⟩ := hrel
        clear S1 c0 c1 c2 c3
        obtain ⟨hR, hp, ha, hB⟩ := hr.out
        obtain ⟨c0, c1, c2, c3⟩ := C4.out wr hB
        by_cases hlt : i < M
        · have jf : i < r.far.length := by rw [HM.out]; exact hlt
          obtain ⟨gf, rfl, hgf, hgc⟩ := CF.out i jf
          have hEO := HOK.out.far r.far[i] (List.getElem_mem jf)
          rw [HN.out] at hEO
          have hFl : (formsL r.f zs (r.far.take i)).length = j := by
            rw [formsL_len _ _ (fun e he => by rw [HLN.out]; have := HOK.out.far e (List.mem_of_mem_take he); rwa [HN.out] at this), HLN.out]
          have hsucc := formsL_succ r.f zs r.far i jf
          have HSU := hd hsucc
          have HFl := hd hFl
          obtain ⟨n0, n1, n2, n3, n4, n5, n6⟩ := hgc wr hB
          generalize formsL r.f zs (r.far.take i) = F at *
          generalize r.far[i] = e at *
          obtain ⟨ea, eb, eo⟩ := e
          obtain ⟨e0, e1, e2, e3, e4⟩ := eo
          simp only at n0 n1 n2 n3 n4 n5 n6
          have hEO' : ea ≤ eb ∧ eb ≤ j := hEO
          have HEO : Hid (EOk F.length (ea, eb, (⟨e0, e1, e2, e3, e4⟩ : OpE))) := by rw [hFl]; exact hEO
          have HGC : Hid (∀ W, Below w.heap.size w W → W.cell? ⟨gf, i * 7 + 1, none⟩ = some (.int .i64 eb)) := fun W hW => (hgc W hW).2.1
          have i2 : (i : Int) < (M : Int) := by omega
          have bq : Below wr.heap.size wr (wr.alloc (.cells #[.int .i64 e0, .int .i64 e1, .int .u8 e2, .int .i64 e3, .int .i64 e4] 37)) := (Below.refl _ _).alloc (Nat.le_refl _) _
          have hsw := hB.size
          have S3 : Hid (LR w (wr.alloc (.cells #[.int .i64 e0, .int .i64 e1, .int .u8 e2, .int .i64 e3, .int .i64 e4] 37)) ⟨k, ps, c, q, s⟩ g j (bendK r.f F (ea, eb, ⟨e0, e1, e2, e3, e4⟩) 0) ∧ (wr.alloc (.cells #[.int .i64 e0, .int .i64 e1, .int .u8 e2, .int .i64 e3, .int .i64 e4] 37)).heap[wr.heap.size]? = some (.cells (opc (bendA r.f F (ea, eb, ⟨e0, e1, e2, e3, e4⟩) 0)).toArray 37 (0, 0))) := by
            rw [bendK_zero, bendA_zero]
            exact ⟨⟨hR.fr (S := fun _ => False) (Fr.of_below bq) (fun h => h), (bq.block _ (block_lt hp)).trans hp, (bq.block _ (block_lt ha)).trans ha, hB.trans (bq.mono hsw)⟩, heap_alloc_new wr _⟩
          have hgq : g < wr.heap.size := hR.lt
          have hxr : x < wr.heap.size := by omega
          have hgr : gf < wr.heap.size := by omega
          clear hr hR hp ha hB hgc hEO hsucc hFl bq jf
          go_wp2
          obtain ⟨q9, hq9⟩ : ∃ q, wr.heap.size = q := ⟨_, rfl⟩
          rw [hq9] at S3 hgq hsw
          try rw [hq9]
          clear n0 n1 n2 n3 n4 n5 n6 c0 c1 c2 c3 hxr hgr
          go_loopw [10] (fun u wq => ∃ t D : Nat, t ≤ eb - ea ∧ D = ea + t ∧ u = .int .i64 D ∧ Hid (LR w wq ⟨k, ps, c, q, s⟩ g j (bendK r.f F (ea, eb, ⟨e0, e1, e2, e3, e4⟩) t) ∧ wq.heap[q9]? = some (.cells (opc (bendA r.f F (ea, eb, ⟨e0, e1, e2, e3, e4⟩) t)).toArray 37 (0, 0)))) (fun u _ => eb - (intOf u).toNat)
          case atStart => exact ⟨0, ea, Nat.zero_le _, rfl, rfl, S3⟩
          case round =>
            clear S3 hq9
            obtain ⟨t, D, ht, hD, rfl, hr⟩ := hrel
            obtain ⟨⟨hR, hp, ha, hB⟩, hQ⟩ := hr.out
            obtain ⟨c0, c1, c2, c3⟩ := C4.out wr hB
            have cT := HGC.out wr hB
            by_cases htl : t < eb - ea
            · have hDF : ea + t < F.length := by rw [HFl.out]; omega
              have hbl : ea + t < (bendK r.f F (ea, eb, ⟨e0, e1, e2, e3, e4⟩) t).length := by rw [bendK_len HEO.out t (by omega)]; exact hDF
              obtain ⟨s1, s2, s3⟩ := bend_step (f := r.f) HEO.out t htl hDF
              simp only at s1 s2 s3
              obtain ⟨y0, y1, y2, y3, y4⟩ := hR.isO.at (ea + t) (by omega) hbl
              simp only [Nat.zero_add] at y0 y1 y2 y3 y4
              rw [s1 hbl] at y0 y1 y2 y3 y4
              have hx9 : x ≠ q9 ∧ x ≠ g ∧ x < wr.heap.size := by have := hB.size; omega
              have SB := hd s2
              have SA := hd s3
              generalize F[ea + t] = Bo at *
              rw [← hD] at y0 y1 y2 y3 y4
              generalize hAo : bendA r.f F (ea, eb, ⟨e0, e1, e2, e3, e4⟩) t = Ao at *
              obtain ⟨a0, a1, a2, a3, a4⟩ := Ao
              obtain ⟨b0, b1, b2, b3, b4⟩ := Bo
              simp only at y0 y1 y2 y3 y4
              obtain ⟨⟨z0, z1, z2, z3, z4⟩, -⟩ := cells5 (show wr.heap[q9]? = some (.cells #[.int .i64 a0, .int .i64 a1, .int .u8 a2, .int .i64 a3, .int .i64 a4] 37 (0, 0)) from hQ)
              obtain ⟨W, hW⟩ : ∃ W, W = wr.alloc (.cells #[.int .i64 b0, .int .i64 b1, .int .u8 b2, .int .i64 b3, .int .i64 b4] 37) := ⟨_, rfl⟩
              have HW := hd hW
              have bW : Below wr.heap.size wr W := by rw [hW]; exact (Below.refl _ _).alloc (Nat.le_refl _) _
              have XW : W.heap[wr.heap.size]? = some (.cells #[.int .i64 b0, .int .i64 b1, .int .u8 b2, .int .i64 b3, .int .i64 b4] 37 (0, 0)) := by rw [hW]; exact heap_alloc_new wr _
              obtain ⟨⟨A0, A1, A2, A3, A4⟩, hA⟩ : ∃ A, shiftP ⟨b0, b1, b2, b3, b4⟩ ⟨a0, a1, a2, a3, a4⟩ r.f = A := ⟨_, rfl⟩
              obtain ⟨⟨B0, B1, B2, B3, B4⟩, hBb⟩ : ∃ A, shiftP ⟨a0, a1, a2, a3, a4⟩ ⟨b0, b1, b2, b3, b4⟩ (!r.f) = A := ⟨_, rfl⟩
              rw [hA] at SB
              rw [hBb] at SA
              have hs2 := bW.size
              have hqW := block_lt XW
              have hQl := block_lt hQ
              have hgl := hR.lt
              have CS1 : Hid (∀ v, Below W.heap.size W v → RowO v g j j (bendK r.f F (ea, eb, ⟨e0, e1, e2, e3, e4⟩) t) ∧ v.heap[q9]? = some (.cells #[.int .i64 a0, .int .i64 a1, .int .u8 a2, .int .i64 a3, .int .i64 a4] 37 (0, 0)) ∧ v.heap[wr.heap.size]? = some (.cells #[.int .i64 b0, .int .i64 b1, .int .u8 b2, .int .i64 b3, .int .i64 b4] 37 (0, 0)) ∧ v.heap[w.heap.size]? = some (.cells (opc ⟨k, ps, c, q, s⟩).toArray 37 (0, 0)) ∧ v.heap[w.heap.size + 1]? = some (.cells (opc zop).toArray 37 (0, 0)) ∧ Below w.heap.size w v) := fun v kv => by
                have bv : Below wr.heap.size wr v := bW.trans (kv.mono bW.size)
                exact ⟨hR.fr (S := fun _ => False) (Fr.of_below bv) (fun h => h), (bv.block _ hQl).trans hQ, (kv.block _ hqW).trans XW, (bv.block _ (block_lt hp)).trans hp, (bv.block _ (block_lt ha)).trans ha, hB.trans (bv.mono hB.size)⟩
              have C1 : Hid (∀ U, Below W.heap.size W U → Calls Tryd.prog 43 #[.agg #[.int .i64 b0, .int .i64 b1, .int .u8 b2, .int .i64 b3, .int .i64 b4], .agg #[.int .i64 a0, .int .i64 a1, .int .u8 a2, .int .i64 a3, .int .i64 a4], .bool r.f] U fun e w' => e = .returned (.agg #[.int .i64 A0, .int .i64 A1, .int .u8 A2, .int .i64 A3, .int .i64 A4]) ∧ Below W.heap.size W w') := fun U hU => by
                refine (rshift_any ⟨b0, b1, b2, b3, b4⟩ ⟨a0, a1, a2, a3, a4⟩ r.f U).mono ?_
                rintro e w' ⟨rfl, h⟩
                rw [hA]
                exact ⟨rfl, hU.trans (h.mono hU.size)⟩
              have C2 : Hid (∀ U0 U, Below U0.heap.size U0 U → Calls Tryd.prog 43 #[.agg #[.int .i64 a0, .int .i64 a1, .int .u8 a2, .int .i64 a3, .int .i64 a4], .agg #[.int .i64 b0, .int .i64 b1, .int .u8 b2, .int .i64 b3, .int .i64 b4], .bool (!r.f)] U fun e w' => e = .returned (.agg #[.int .i64 B0, .int .i64 B1, .int .u8 B2, .int .i64 B3, .int .i64 B4]) ∧ Below U0.heap.size U0 w') := fun U0 U hU => by
                refine (rshift_any ⟨a0, a1, a2, a3, a4⟩ ⟨b0, b1, b2, b3, b4⟩ (!r.f) U).mono ?_
                rintro e w' ⟨rfl, h⟩
                rw [hBb]
                exact ⟨rfl, hU.trans (h.mono hU.size)⟩
              have CZ : Hid (∀ v v2, Below W.heap.size W v → Below (set5 v g (D * 5) A0 A1 A2 A3 A4).heap.size (set5 v g (D * 5) A0 A1 A2 A3 A4) v2 → (LR w (set5 v2 q9 0 B0 B1 B2 B3 B4) ⟨k, ps, c, q, s⟩ g j (bendK r.f F (ea, eb, ⟨e0, e1, e2, e3, e4⟩) (t + 1)) ∧ (set5 v2 q9 0 B0 B1 B2 B3 B4).heap[q9]? = some (.cells (opc (bendA r.f F (ea, eb, ⟨e0, e1, e2, e3, e4⟩) (t + 1))).toArray 37 (0, 0))) ∧ v2.heap[q9]? = some (.cells #[.int .i64 a0, .int .i64 a1, .int .u8 a2, .int .i64 a3, .int .i64 a4] 37 (0, 0))) := fun v v2 kv kv2 => by
                obtain ⟨t1, t2, t3, t4, t5, t6⟩ := CS1.out v kv
                have hF1 := Fr.set5 v g (D * 5) A0 A1 A2 A3 A4
                have hF2 := Fr.set5 v2 q9 0 B0 B1 B2 B3 B4
                have hF12 : Fr (· = g) v v2 := hF1.trans (Fr.of_below kv2)
                have r1 := t1.set5 D A0 A1 A2 A3 A4 (by omega)
                have r2 : RowO v2 g j j (bendK r.f F (ea, eb, ⟨e0, e1, e2, e3, e4⟩) (t + 1)) := by
                  rw [SB.out, ← hD]
                  exact RowO.fr (S := fun _ => False) r1 (Fr.of_below kv2) (fun h => h)
                have hq2 := hF12.keeps t2 (by omega)
                refine ⟨⟨⟨r2.fr hF2 (by omega), hF2.keeps (hF12.keeps t4 (by omega)) (by omega), hF2.keeps (hF12.keeps t5 (by omega)) (by omega), (t6.trans (hF12.below t6.size (fun i h => by omega))).trans (hF2.below (Nat.le_trans t6.size hF12.size) (fun i h => by omega))⟩, ?_⟩, hq2⟩
                rw [SA.out]
                exact set5_op (x := ⟨a0, a1, a2, a3, a4⟩) hq2 B0 B1 B2 B3 B4
              have m1 : ¬ (q9 = g) := by omega
              have m2 : ¬ (wr.heap.size = g) := by omega
              have m3 : ¬ (x = g) := by omega
              have m4 : ¬ (g = q9) := by omega
              have m5 : ¬ (g = wr.heap.size) := by omega
              have m6 : ¬ (g = x) := by omega
              have i3 : (D : Int) < (eb : Int) := by omega
              have i4 : D < j := by omega
              have hgf2 : gf < wr.heap.size := by have := hB.size; omega
              have hx3 := hx9.2.2
              have HCELL : Hid (∀ v, Below W.heap.size W v → (v.cell? ⟨g, D * 5, none⟩ = some (.int .i64 b0) ∧ v.cell? ⟨g, D * 5 + 1, none⟩ = some (.int .i64 b1) ∧ v.cell? ⟨g, D * 5 + 2, none⟩ = some (.int .u8 b2) ∧ v.cell? ⟨g, D * 5 + 3, none⟩ = some (.int .i64 b3) ∧ v.cell? ⟨g, D * 5 + 4, none⟩ = some (.int .i64 b4)) ∧ (∀ o, v.frozen? ⟨g, o, none⟩ = false) ∧ v.cell? ⟨x, 0, none⟩ = some (.bool r.f)) := fun v kv => by
                obtain ⟨t1, t2, t3, t4, t5, t6⟩ := CS1.out v kv
                have bv : Below wr.heap.size wr v := bW.trans (kv.mono bW.size)
                have cb : ∀ o, v.cell? ⟨g, o, none⟩ = wr.cell? ⟨g, o, none⟩ := fun o => bv.cell (p := ⟨g, o, none⟩) hgl
                exact ⟨⟨(cb _).trans y0, (cb _).trans y1, (cb _).trans y2, (cb _).trans y3, (cb _).trans y4⟩, fun o => t1.frozen o, (C4.out v t6).1⟩
              have HD := hd hD
              clear hD hr hR hp ha hB hQ hW bW XW hs2 hqW hx9 SB SA s1 s2 s3 hDF hbl hAo hA hBb
              go_wp2_with fail
              rw [← HW.out]
              obtain ⟨-, -, xw⟩ := HCELL.out W (Below.refl _ _)
              obtain ⟨-, w9, w11, -⟩ := CS1.out W (Below.refl _ _)
              obtain ⟨⟨g0, g1, g2, g3, g4⟩, -⟩ := cells5 w9
              obtain ⟨⟨h0, h1, h2, h3, h4⟩, -⟩ := cells5 w11
              clear w9 w11 y0 y1 y2 y3 y4 z0 z1 z2 z3 z4 c0 c1 c2 c3 cT
              go_region_law (first | (go_simp; go_at_call 43; refine (C1.out _ (by repeat (first | exact Below.refl _ _ | refine Below.drew ?_ | refine below_drewN ?_ _))).mono ?_; rintro ex v ⟨rfl, kv⟩; obtain ⟨⟨l0, l1, l2, l3, l4⟩, lf, lx⟩ := HCELL.out v kv; have lf0 := lf (D * 5); have lf1 := lf (D * 5 + 1); have lf2 := lf (D * 5 + 2); have lf3 := lf (D * 5 + 3); have lf4 := lf (D * 5 + 4); obtain ⟨-, v9, v11, -⟩ := CS1.out v kv; obtain ⟨⟨p0, p1, p2, p3, p4⟩, -⟩ := cells5 v9; obtain ⟨⟨r0, r1, r2, r3, r4⟩, -⟩ := cells5 v11; have KV := hd kv; clear kv lf v9 v11))
              all_goals (
                clear g0 g1 g2 g3 g4 h0 h1 h2 h3 h4 xw HW C1
                obtain ⟨W5, hW5⟩ : ∃ W5, W5 = ((((v.setCell ⟨g, D * 5, none⟩ (.int .i64 A0)).setCell ⟨g, D * 5 + 1, none⟩ (.int .i64 A1)).setCell ⟨g, D * 5 + 2, none⟩ (.int .u8 A2)).setCell ⟨g, D * 5 + 3, none⟩ (.int .i64 A3)).setCell ⟨g, D * 5 + 4, none⟩ (.int .i64 A4) := ⟨_, rfl⟩
                have hF5 : Fr (· = g) v W5 := by rw [hW5]; exact Fr.set5 v g (D * 5) A0 A1 A2 A3 A4
                have CZ2 := hd (fun v2 (h : Below W5.heap.size W5 v2) => CZ.out v v2 KV.out (by rw [hW5] at h; exact h))
                obtain ⟨-, u9, u11, -⟩ := CS1.out v KV.out
                have u9' := hF5.keeps u9 m1
                have u11' := hF5.keeps u11 m2
                obtain ⟨⟨s0, s1, s2, s3, s4⟩, -⟩ := cells5 u9'
                obtain ⟨⟨t0, t1, t2, t3, t4⟩, -⟩ := cells5 u11'
                have hxv : x < v.heap.size := cell_in lx
                have sx := (hF5.cell (p := ⟨x, 0, none⟩) hxv m3).trans lx
                have C3 := hd (C2.out W5)
                go_wp2_with fail
                rw [← hW5]
                clear hW5 hF5 CZ C2 CS1 HCELL KV u9 u11 u9' u11' l0 l1 l2 l3 l4 lf0 lf1 lf2 lf3 lf4 p0 p1 p2 p3 p4 r0 r1 r2 r3 r4 lx hxv
                go_region_law (first | (go_simp; go_at_call 43; refine (C3.out _ (by repeat (first | exact Below.refl _ _ | refine Below.drew ?_ | refine below_drewN ?_ _))).mono ?_; rintro ex v2 ⟨rfl, kv2⟩; obtain ⟨z1, z2⟩ := CZ2.out v2 kv2; obtain ⟨⟨p0, p1, p2, p3, p4⟩, ⟨pf0, pf1, pf2, pf3, pf4⟩⟩ := cells5 z2; have Z := hd z1; clear z1 z2 kv2))
                all_goals go_wp2
                all_goals exact ⟨⟨t + 1, D + 1, by omega, by have := HD.out; omega, by go_num, Z⟩, by simp [intOf]; omega⟩)
            · obtain rfl : t = eb - ea := by omega
              have Z : Hid (LR w wr ⟨k, ps, c, q, s⟩ g j (formsL r.f zs (r.far.take (i + 1)))) := by
                rw [HSU.out, ← bendK_end HEO.out]
                exact ⟨hR, hp, ha, hB⟩
              have i3 : ¬ (D : Int) < (eb : Int) := by omega
              clear hr hR hp ha hB hQ hD
              go_wp2
              exact ⟨⟨i + 1, by omega, by go_num, Z⟩, by simp [intOf]; omega⟩
        · obtain rfl : i = M := by omega
          have hT : formsL r.f zs (r.far.take i) = r.forms := by
            rw [List.take_of_length_le (by rw [HM.out]; exact Nat.le_refl _)]
            exact HFM.out.symm
          rw [hT] at hR
          have hd1 : r.dr ≤ j := by have := HOK.out.dr; rw [HN.out] at this; exact this
          have S4 : Hid (LR w wr (cArr (r.forms.drop r.dr) ⟨k, ps, c, q, s⟩ r.f 0) g j r.forms) := by
            rw [show cArr (r.forms.drop r.dr) ⟨k, ps, c, q, s⟩ r.f 0 = ⟨k, ps, c, q, s⟩ from by simp [cArr, throughP]]
            exact ⟨hR, hp, ha, hB⟩
          have i2 : ¬ (i : Int) < (i : Int) := by omega
          have HFN : Hid (r.forms.length = j) := HFL.out
          obtain ⟨d, hdd⟩ : ∃ d, r.dr = d := ⟨_, rfl⟩
          rw [hdd] at hd1 S4 c3
          have HEND : Hid (cArr (r.forms.drop d) ⟨k, ps, c, q, s⟩ r.f (j - d) = (throughP ⟨k, ps, c, q, s⟩ (r.forms.drop r.dr) r.f).1) := by
            unfold cArr
            rw [show ((r.forms.drop d).take (j - d)) = r.forms.drop d from List.take_of_length_le (by rw [List.length_drop, HFN.out]; exact Nat.le_refl _), hdd]
            exact hd rfl
          clear hr hR hp ha hB hT hi hlt CF HFM HFL
          go_wp2
          go_loopw [12] (fun u wq => ∃ t D : Nat, t ≤ j - d ∧ D = d + t ∧ u = .int .i64 D ∧ Hid (LR w wq (cArr (r.forms.drop d) ⟨k, ps, c, q, s⟩ r.f t) g j r.forms)) (fun u _ => j - (intOf u).toNat)
          case atStart => exact ⟨0, d, Nat.zero_le _, rfl, rfl, S4⟩
          case round =>
            clear S4 c0 c1 c2 c3
            obtain ⟨t, D, ht, hD, rfl, hr⟩ := hrel
            obtain ⟨hR, hp, ha, hB⟩ := hr.out
            obtain ⟨c0, c1, c2, c3⟩ := C4.out wr hB
            by_cases htl : t < j - d
            · have hDF : D < r.forms.length := by rw [HFN.out]; omega
              have ht2 : t < (r.forms.drop d).length := by rw [List.length_drop, HFN.out]; omega
              have hnx := cArr_next (r.forms.drop d) ⟨k, ps, c, q, s⟩ r.f t ht2
              have hgt : (r.forms.drop d)[t] = r.forms[D] := by simp [hD]
              rw [hgt] at hnx
              obtain ⟨y0, y1, y2, y3, y4⟩ := hR.isO.at D (by omega) hDF
              simp only [Nat.zero_add] at y0 y1 y2 y3 y4
              have hgl := hR.lt
              have hsl := block_lt hp
              have HNX := hd hnx
              generalize r.forms[D] = Bo at *
              generalize cArr (r.forms.drop d) ⟨k, ps, c, q, s⟩ r.f t = Ao at *
              obtain ⟨a0, a1, a2, a3, a4⟩ := Ao
              obtain ⟨b0, b1, b2, b3, b4⟩ := Bo
              simp only at y0 y1 y2 y3 y4
              obtain ⟨⟨z0, z1, z2, z3, z4⟩, -⟩ := cells5 (show wr.heap[w.heap.size]? = some (.cells #[.int .i64 a0, .int .i64 a1, .int .u8 a2, .int .i64 a3, .int .i64 a4] 37 (0, 0)) from hp)
              obtain ⟨⟨B0, B1, B2, B3, B4⟩, hBb⟩ : ∃ A, shiftP ⟨a0, a1, a2, a3, a4⟩ ⟨b0, b1, b2, b3, b4⟩ (!r.f) = A := ⟨_, rfl⟩
              rw [hBb] at HNX
              have C2 : Hid (∀ U, Below wr.heap.size wr U → Calls Tryd.prog 43 #[.agg #[.int .i64 a0, .int .i64 a1, .int .u8 a2, .int .i64 a3, .int .i64 a4], .agg #[.int .i64 b0, .int .i64 b1, .int .u8 b2, .int .i64 b3, .int .i64 b4], .bool (!r.f)] U fun e w' => e = .returned (.agg #[.int .i64 B0, .int .i64 B1, .int .u8 B2, .int .i64 B3, .int .i64 B4]) ∧ (LR w (set5 w' w.heap.size 0 B0 B1 B2 B3 B4) (cArr (r.forms.drop d) ⟨k, ps, c, q, s⟩ r.f (t + 1)) g j r.forms) ∧ w'.heap[w.heap.size]? = some (.cells #[.int .i64 a0, .int .i64 a1, .int .u8 a2, .int .i64 a3, .int .i64 a4] 37 (0, 0))) := fun U hU => by
                refine (rshift_any ⟨a0, a1, a2, a3, a4⟩ ⟨b0, b1, b2, b3, b4⟩ (!r.f) U).mono ?_
                rintro e w' ⟨rfl, h⟩
                rw [hBb]
                have bv : Below wr.heap.size wr w' := hU.trans (h.mono hU.size)
                have hF := Fr.set5 w' w.heap.size 0 B0 B1 B2 B3 B4
                have hq2 := (bv.block _ hsl).trans hp
                have bB := hB.trans (bv.mono hB.size)
                refine ⟨rfl, ⟨(hR.fr (S := fun _ => False) (Fr.of_below bv) (fun h => h)).fr hF (by omega), ?_, hF.keeps ((bv.block _ (block_lt ha)).trans ha) (by omega), bB.trans (hF.below bB.size (fun i h => by omega))⟩, hq2⟩
                rw [HNX.out]
                exact set5_op (x := ⟨a0, a1, a2, a3, a4⟩) hq2 B0 B1 B2 B3 B4
              have i3 : (D : Int) < (j : Int) := by omega
              have HD := hd hD
              have hlim : D < j := by omega
              clear hD hr hR hp ha hB hnx hgt hDF ht2 hBb HNX
              go_wp2_with fail
              go_region_law (first | (go_simp; go_at_call 43; refine (C2.out _ (by repeat (first | exact Below.refl _ _ | refine Below.drew ?_ | refine below_drewN ?_ _))).mono ?_; rintro ex v2 ⟨rfl, z1, z2⟩; obtain ⟨⟨p0, p1, p2, p3, p4⟩, ⟨pf0, pf1, pf2, pf3, pf4⟩⟩ := cells5 z2; have Z := hd z1; clear z1 z2))
              all_goals go_wp2
              all_goals exact ⟨⟨t + 1, D + 1, by omega, by have := HD.out; omega, by go_num, Z⟩, by simp [intOf]; omega⟩
            · obtain rfl : t = j - d := by omega
              have i3 : ¬ (D : Int) < (j : Int) := by omega
              generalize cArr (r.forms.drop d) ⟨k, ps, c, q, s⟩ r.f (j - d) = Ao at *
              obtain ⟨a0, a1, a2, a3, a4⟩ := Ao
              obtain ⟨⟨z0, z1, z2, z3, z4⟩, -⟩ := cells5 (show wr.heap[w.heap.size]? = some (.cells #[.int .i64 a0, .int .i64 a1, .int .u8 a2, .int .i64 a3, .int .i64 a4] 37 (0, 0)) from hp)
              obtain ⟨⟨r0, r1, r2, r3, r4⟩, ⟨f0, f1, f2, f3, f4⟩⟩ := cells5 (show wr.heap[w.heap.size + 1]? = some (.cells #[.int .i64 0, .int .i64 0, .int .u8 0, .int .i64 0, .int .i64 0] 37 (0, 0)) from ha)
              have Z : Hid (∀ W, Fr (· = w.heap.size + 1) wr W → w.heap.size ≤ g ∧ RowO W g j j r.forms ∧ Below w.heap.size w W) := fun W h => ⟨by omega, hR.fr h (by omega), hB.trans (h.below hB.size (fun i h => by omega))⟩
              clear hr hR hp ha hB hD
              go_wp2_with fail
              go_region
              go_wp2
              refine bodyPost_ret (v := .tuple #[.slice (some ⟨g, 0, none⟩) j j, .agg #[.int .i64 a0, .int .i64 a1, .int .u8 a2, .int .i64 a3, .int .i64 a4]]) (by simp [results, Tryd.results33, go_sem, r0, r1, r2, r3, r4]) rfl ?_
              have Z2 := Z.out (set5 wr (w.heap.size + 1) 0 a0 a1 a2 a3 a4).drew ((Fr.set5 wr (w.heap.size + 1) 0 a0 a1 a2 a3 a4).trans (Fr.drew _ _))
              refine ⟨g, j, ?_, Z2⟩
              rw [← HEND.out]

end Go.Proofs.YtmbnimlibnheeabDoor
