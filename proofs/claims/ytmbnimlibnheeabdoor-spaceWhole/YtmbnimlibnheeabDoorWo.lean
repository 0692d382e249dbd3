/-
  SpaceWhole: behind the exchange: what stays, the order of all texts.
-/
import Derived.Test.YtmbnimlibnheeabDoorWy
import Derived.Test.YtmbnimlibnheeabDoorWz
import Derived.Test.YtmbnimlibnheeabDoorMS
namespace Go.Proofs.YtmbnimlibnheeabDoor
open Go.RowKit Go.Lib
set_option linter.unusedVariables false

theorem ord_se {u v : Value} {β γ : Option Nat} {xs ys : List El} {w : World} (hu : SE w β u xs) (hv : SE w γ v ys) (hO : Ord xs ys) :
    Calls Tryd.prog 10 #[u, v] w fun e w' => e = .returned (.bool true) ∧ Below w.heap.size w w' := by
  obtain ⟨a, c, rfl, h1, -⟩ := hu.form
  obtain ⟨b, d, rfl, h2, -⟩ := hv.form
  exact ordered_any a b _ c _ d xs ys w h1 h2 hO

noncomputable def whole23 : Code := (Tryd.f3.body.bind (restAtV 23)).getD .skip

set_option maxRecDepth 100000 in
set_option maxHeartbeats 16000000 in
theorem whole_rest {w w4 : World} {x y : Nat} {s t : Sd} {N M : Nat} {K : Nat → Prop} {Gs Gt Ins : List El} {X : List En} {vs vt : Value} {βs βt βi : Option Nat} {L : List El} {bx : Nat} (ai : Option Addr) (nl ci nx cx : Nat) (h : LS w w4 x y s t N M K Gs Gt Ins X vs βs vt βt (.slice ai nl ci) (.slice (some ⟨bx, 0, none⟩) nx cx) L βi bx) (hs : s.way = []) (ht : t.way = []) (hp : put1 L = Ins) (u0 u1 u2 u3 u4 u9 u10 u11 u12 u13 u14 u15 u16 u17 u18 u19 u20 u21 u22 u23 u24 u25 u26 u27 u28 u29 u30 u31 u32 u33 u34 u35 u36 u37 u38 u39 u40 u41 u42 u43 u44 u45 u46 u47 u48 u49 u50 u51 u52 u53 u54 u55 u56 u57 u58 u59 u60 u61 u62 u63 u64 u65 u66 u67 u68 u69 u70 u71 u72 u73 u74 u75 u76 u77 u78 u79 u80 u81 u82 u83 u84 u85 u86 u87 u88 u89 u90 u91 u92 u93 u94 u95 u96 u97 u98 u99 u100 u101 u102 u103 u104 u105 u106 u107 u108 u109 u110 u111 u112 u113 u114 u115 u116 u117 u118 u119 u120 u121 u122 u123 u124 u125 u126 u127 u128 u129 u130 u131 u132 u133 u134 u135 u136 u137 u138 u139 u140 u141 u142 u143 u144 u145 u146 u147 u148 u149 u150 u151 u152 u153 u154 u155 u156 u157 u158 u159 u160 u161 u162 u163 u164 u165 u166 u167 u168 u169 u170 u171 u172 u173 u174 u175 u176 u177 u178 u179 u180 u181 u182 u183 u184 u185 u186 u187 u188 u189 u190 u191 u192 u193 u194 u195 u196 u197 u198 u199 u200 u201 u202 u203 u204 u205 u206 u207 u208 u209 u210 u211 u212 u213 u214 u215 u216 u217 u218 u219 u220 u221 u222 u223 u224 u225 u226 u227 u228 u229 u230 u231 u232 u233 u234 u235 u236 u237 u238 u239 u240 u241 u242 u243 u244 u245 u246 u247 u248 u249 u250 u251 u252 u253 u254 u255 u256 : Value) :
    Code.wp Tryd.prog whole23 (bodyPost Tryd.prog Tryd.f3 fun e w' => e = .returned (.bool true) ∧ Below w.heap.size w w') ⟨#[u0, u1, u2, u3, u4, .pointer (some ⟨x, 0, none⟩), .pointer (some ⟨y, 0, none⟩), .slice ai nl ci, .slice (some ⟨bx, 0, none⟩) nx cx, u9, u10, u11, u12, u13, u14, u15, u16, u17, u18, u19, u20, u21, u22, u23, u24, u25, u26, u27, u28, u29, u30, u31, u32, u33, u34, u35, u36, u37, u38, u39, u40, u41, u42, u43, u44, u45, u46, u47, u48, u49, u50, u51, u52, u53, u54, u55, u56, u57, u58, u59, u60, u61, u62, u63, u64, u65, u66, u67, u68, u69, u70, u71, u72, u73, u74, u75, u76, u77, u78, u79, u80, u81, u82, u83, u84, u85, u86, u87, u88, u89, u90, u91, u92, u93, u94, u95, u96, u97, u98, u99, u100, u101, u102, u103, u104, u105, u106, u107, u108, u109, u110, u111, u112, u113, u114, u115, u116, u117, u118, u119, u120, u121, u122, u123, u124, u125, u126, u127, u128, u129, u130, u131, u132, u133, u134, u135, u136, u137, u138, u139, u140, u141, u142, u143, u144, u145, u146, u147, u148, u149, u150, u151, u152, u153, u154, u155, u156, u157, u158, u159, u160, u161, u162, u163, u164, u165, u166, u167, u168, u169, u170, u171, u172, u173, u174, u175, u176, u177, u178, u179, u180, u181, u182, u183, u184, u185, u186, u187, u188, u189, u190, u191, u192, u193, u194, u195, u196, u197, u198, u199, u200, u201, u202, u203, u204, u205, u206, u207, u208, u209, u210, u211, u212, u213, u214, u215, u216, u217, u218, u219, u220, u221, u222, u223, u224, u225, u226, u227, u228, u229, u230, u231, u232, u233, u234, u235, u236, u237, u238, u239, u240, u241, u242, u243, u244, u245, u246, u247, u248, u249, u250, u251, u252, u253, u254, u255, u256], []⟩ w4 := by
  obtain ⟨Ts, Tt, hw, hX⟩ := h.ww.wt
  obtain ⟨f1, f2, f3, f4, f5, f6, f7⟩ := hw.fin hs ht
  obtain ⟨z1, aw, cw, vg, βg, e0, -, -, e6, xl, se, sg, -⟩ := h.ww.see
  obtain ⟨z2, ay, cy, vh, βh, g0, -, -, g6, yl, te, tg, -⟩ := h.ww.swap.see
  obtain ⟨ai', ci', hvi, hiE, -⟩ := h.il.form
  injection hvi with hv1 hv2 hv3
  subst hv1 hv2 hv3
  obtain ⟨cx', hvx, hxR⟩ := h.xl
  injection hvx with hv1 hv2 hv3
  subst hv3
  rw [List.length_map] at hv2
  subst hv2
  rw [← f1] at te
  obtain ⟨sd, hsd⟩ : ∃ d, d = s.d := ⟨_, rfl⟩
  rw [← hsd] at se te f2 f4 f6 f7
  have fd : ∀ z ∈ sd, z ∈ Ins := fun z hz => ((f4 z).1 hz).1
  have FO : Hid (∀ e ∈ X, Ord e.T sd) := fun e he => by
    rcases hX e he with a | a
    · exact same_ord (f6 _ a).1 f2 (f6 _ a).2 fd f5
    · exact same_ord (f7 _ a).1 f2 (f7 _ a).2 fd f5
  have FS : Hid (Ord sd sd) := same_ord (Same.refl _) f2 fd fd f5
  have FC : Hid (cnt sd L L.length = sd.length) := cnt_all f2 (by rw [hp]; exact f3) (by rw [hp]; exact fd)
  have FM : Hid (∀ z ∈ L, z.1 ≠ 0 → (z ∈ sd ↔ z ∉ Gs ∧ z ∉ Gt)) := fun z hz h0 => ⟨fun a => ((f4 z).1 a).2, fun a => (f4 z).2 ⟨by rw [← hp]; exact List.mem_filter.2 ⟨hz, by simpa using h0⟩, a⟩⟩
  have FE : Hid (∀ e ∈ X, SE w4 e.β e.v e.T) := fun e he => (h.ww.ent e he).1
  have FX : Hid (∀ k (hk : k < X.length), w4.cell? ⟨bx, k, none⟩ = some X[k].v) := fun k hk => by
    have := hxR.cell sz_svv k 0 (by simpa using hk) (by omega)
    simp only [Nat.mul_one, Nat.add_zero, List.getElem_map] at this
    rw [this, (h.ww.ent X[k] (List.getElem_mem hk)).1.svv]
    rfl
  have hxc : X.length ≤ cx ∧ cx ≤ 9223372036854775807 := by
    obtain ⟨_, _, _, _, a, b, _⟩ := hxR
    simpa using And.intro a b
  have HBW := hd h.ww.bel
  obtain ⟨ga, gc, hvg, -, -⟩ := sg.form
  obtain ⟨ha, hc, hvh, -, -⟩ := tg.form
  generalize Gs.length = gn at hvg
  generalize Gt.length = hn at hvh
  subst hvg hvh
  obtain ⟨aS, cs, hve, -, -⟩ := se.form
  obtain ⟨at', ct, hvt, -, -⟩ := te.form
  subst hve hvt
  obtain ⟨D, hD⟩ : ∃ D, D = sd.length := ⟨_, rfl⟩
  rw [← hD] at se te e0 g0 FC
  have EG := hd (And.intro sg tg)
  have ET := hd (And.intro se te)
  have EI := hd hiE
  have bl : bx < w4.heap.size := h.xt.lt
  have hc1 := hiE.2.1
  have hc2 := hiE.2.2.1
  have XL := hd (And.intro xl (And.intro yl bl))
  have E0 := hd (And.intro e0 (And.intro e6 (And.intro g0 g6)))
  obtain ⟨nl, hnl⟩ : ∃ nl, nl = L.length := ⟨_, rfl⟩
  rw [← hnl] at EI hc1 FC ⊢
  have HNL := hd hnl
  obtain ⟨nx, hnx⟩ : ∃ nx, nx = X.length := ⟨_, rfl⟩
  rw [← hnx] at hxc ⊢
  have HNX := hd hnx
  have hx1 := hxc.1
  have hx2 := hxc.2
  clear hnl hnx hxc h hs ht hw hX f1 f2 f3 f4 f5 f6 f7 e0 e6 xl se sg g0 g6 yl te tg hiE hxR fd hp hsd hD bl
  conv => arg 2; whnf
  go_wp2_with fail
  go_loopw [14, 15] (fun want i wr => ∃ k : Nat, k ≤ nl ∧ i = .int .i64 k ∧ want = .int .i64 (cnt sd L k) ∧ Hid (Below w4.heap.size w4 wr)) (fun _ i _ => nl - (intOf i).toNat)
  case atStart => exact ⟨0, Nat.zero_le _, rfl, by rw [cnt_zero]; rfl, Below.refl _ _⟩
  case round =>
    obtain ⟨k, hk, rfl, rfl, HB⟩ := hrel
    by_cases hlt : k < nl
    · have kx : k < L.length := by have := HNL.out; omega
      have i1 : (k : Int) < (nl : Int) := by omega
      obtain ⟨b1, o1, rfl, l1⟩ := EI.out.addr (by omega)
      have CC : Hid (∀ V, Below w4.heap.size w4 V → V.cell? ⟨x, 0, none⟩ = some (.slice aS D cs) ∧ V.cell? ⟨x, 6, none⟩ = some (.slice ga gn gc) ∧ V.cell? ⟨y, 0, none⟩ = some (.slice at' D ct) ∧ V.cell? ⟨y, 6, none⟩ = some (.slice ha hn hc) ∧ V.cell? ⟨b1, o1 + k * 3, none⟩ = some (.int .u8 L[k].1) ∧ V.cell? ⟨b1, o1 + k * 3 + 1, none⟩ = some (.int .i64 L[k].2.1) ∧ V.cell? ⟨b1, o1 + k * 3 + 2, none⟩ = some (.int .i64 L[k].2.2)) := fun V hV => by
        obtain ⟨a0, a1, a2⟩ := EI.out.at k hlt kx
        exact ⟨(hV.cell (p := ⟨x, 0, none⟩) XL.out.1).trans E0.out.1, (hV.cell (p := ⟨x, 6, none⟩) XL.out.1).trans E0.out.2.1, (hV.cell (p := ⟨y, 0, none⟩) XL.out.2.1).trans E0.out.2.2.1, (hV.cell (p := ⟨y, 6, none⟩) XL.out.2.1).trans E0.out.2.2.2, (hV.cell (p := ⟨b1, o1 + k * 3, none⟩) l1).trans a0, (hV.cell (p := ⟨b1, o1 + k * 3 + 1, none⟩) l1).trans a1, (hV.cell (p := ⟨b1, o1 + k * 3 + 2, none⟩) l1).trans a2⟩
      have CN1 := hd (cnt_succ sd L k kx)
      have FM1 := hd (FM.out _ (List.getElem_mem kx))
      have hcl := cnt_le sd L k
      generalize L[k] = z at *
      obtain ⟨zc, zl, zq⟩ := z
      simp only [] at CC CN1 FM1
      obtain ⟨p0, p1, q0, q1, r0, r1, r2⟩ := CC.out wr HB.out
      have xl : x < wr.heap.size := by have := HB.out.size; have := XL.out.1; omega
      have yl : y < wr.heap.size := by have := HB.out.size; have := XL.out.2.1; omega
      have bl : b1 < wr.heap.size := by have := HB.out.size; omega
      have LB := hd l1
      have i0 : (0 : Int) ≤ (k : Int) := by omega
      clear kx l1
      by_cases t0 : zc = 0
      · subst t0
        have CN : Hid (cnt sd L (k + 1) = cnt sd L k) := by rw [CN1.out, if_neg (fun h => h.1 rfl)]; exact (rfl : _ = _)
        clear CN1 FM1
        go_wp2_with fail
        exact ⟨⟨k + 1, by omega, by go_num, by rw [CN.out], HB⟩, by simp [intOf]; omega⟩
      · have t1 : (zc == 0) = false := by simpa using t0
        have FM2 := hd (FM1.out t0)
        clear FM1
        by_cases g1 : (zc, zl, zq) ∈ Gs
        · have G1 := hd (decide_eq_true g1)
          have G3 : Hid (decide ((zc, zl, zq) ∈ sd) = false) := decide_eq_false (fun h => (FM2.out.1 h).1 g1)
          have CN : Hid (cnt sd L (k + 1) = cnt sd L k) := by rw [CN1.out, if_neg (fun h => (FM2.out.1 h.2).1 g1)]; exact (rfl : _ = _)
          clear CN1 FM2 g1
          have C1 : Hid (∀ W, Below w4.heap.size w4 W → ∀ V, Below W.heap.size W V → Calls Tryd.prog 9 #[.slice ga gn gc, .agg #[.int .u8 zc, .int .i64 zl, .int .i64 zq]] V fun e w' => e = .returned (.bool true) ∧ Below W.heap.size W w') := fun W hW V hV => (in_any _ βg Gs zc zl zq V ((EG.out.1.below hW).below hV)).mono (fun e w' h => ⟨by rw [h.1, G1.out], hV.trans (h.2.mono hV.size)⟩)
          have C3 : Hid (∀ W, Below w4.heap.size w4 W → ∀ V, Below W.heap.size W V → Calls Tryd.prog 9 #[.slice aS D cs, .agg #[.int .u8 zc, .int .i64 zl, .int .i64 zq]] V fun e w' => e = .returned (.bool false) ∧ Below W.heap.size W w') := fun W hW V hV => (in_any _ βs sd zc zl zq V ((ET.out.1.below hW).below hV)).mono (fun e w' h => ⟨by rw [h.1, G3.out], hV.trans (h.2.mono hV.size)⟩)
          have C4 : Hid (∀ W, Below w4.heap.size w4 W → ∀ V, Below W.heap.size W V → Calls Tryd.prog 9 #[.slice at' D ct, .agg #[.int .u8 zc, .int .i64 zl, .int .i64 zq]] V fun e w' => e = .returned (.bool false) ∧ Below W.heap.size W w') := fun W hW V hV => (in_any _ βt sd zc zl zq V ((ET.out.2.below hW).below hV)).mono (fun e w' h => ⟨by rw [h.1, G3.out], hV.trans (h.2.mono hV.size)⟩)
          go_upto_region 28 with fail
          refine wh28t _ _ x y b1 o1 nl ci k zc zl zq ga ha gn gc hn hc rfl rfl rfl rfl (by simp) xl yl bl p1 q1 r0 r1 r2 i1 i0 (C1.out _ HB.out) ?_
          intro V w5 hV b5
          have H5 := hd (HB.out.trans (b5.mono HB.out.size))
          clear b5 p0 p1 q0 q1 r0 r1 r2 xl yl bl HB C1
          rename_i K0 hK0
          refine hK0 _ _ ?_
          simp only [slwh28t, List.getD_cons_zero, List.getD_cons_succ, List.range, List.range.loop, List.map_cons, List.map_nil, puts, List.foldl_cons, List.foldl_nil, Act.put, List.setIfInBounds_toArray, List.set_cons_succ, List.set_cons_zero]
          clear hK0
          rw [hV]
          clear hV
          obtain ⟨p0, p1, q0, q1, r0, r1, r2⟩ := CC.out w5 H5.out
          have xl : x < w5.heap.size := by have := H5.out.size; have := XL.out.1; omega
          have yl : y < w5.heap.size := by have := H5.out.size; have := XL.out.2.1; omega
          have bl : b1 < w5.heap.size := by have := H5.out.size; have := LB.out; omega
          go_upto_region 31 with fail
          refine wh31 _ _ x y b1 o1 nl ci k zc zl zq aS at' D cs D ct false rfl rfl rfl rfl rfl (by simp) xl yl bl p0 q0 r0 r1 r2 i1 i0 (C3.out _ H5.out) (C4.out _ H5.out) ?_
          intro V2 w6 hV2 b6
          have H6 := hd (H5.out.trans (b6.mono H5.out.size))
          clear b6 p0 p1 q0 q1 r0 r1 r2 xl yl bl H5 C3 C4
          rename_i K0 hK0
          refine hK0 _ _ ?_
          simp only [slwh31, List.getD_cons_zero, List.getD_cons_succ, List.range, List.range.loop, List.map_cons, List.map_nil, puts, List.foldl_cons, List.foldl_nil, Act.put, List.setIfInBounds_toArray, List.set_cons_succ, List.set_cons_zero]
          clear hK0
          rw [hV2]
          clear hV2
          go_wp2_with fail
          exact ⟨⟨k + 1, by omega, by go_num, by rw [CN.out] <;> go_num, H6⟩, by simp [intOf]; omega⟩
        · by_cases g2 : (zc, zl, zq) ∈ Gt
          · have G1 := hd (decide_eq_false g1)
            have G2 := hd (decide_eq_true g2)
            have G3 : Hid (decide ((zc, zl, zq) ∈ sd) = false) := decide_eq_false (fun h => (FM2.out.1 h).2 g2)
            have CN : Hid (cnt sd L (k + 1) = cnt sd L k) := by rw [CN1.out, if_neg (fun h => (FM2.out.1 h.2).2 g2)]; exact (rfl : _ = _)
            clear CN1 FM2 g1 g2
            have C1 : Hid (∀ W, Below w4.heap.size w4 W → ∀ V, Below W.heap.size W V → Calls Tryd.prog 9 #[.slice ga gn gc, .agg #[.int .u8 zc, .int .i64 zl, .int .i64 zq]] V fun e w' => e = .returned (.bool false) ∧ Below W.heap.size W w') := fun W hW V hV => (in_any _ βg Gs zc zl zq V ((EG.out.1.below hW).below hV)).mono (fun e w' h => ⟨by rw [h.1, G1.out], hV.trans (h.2.mono hV.size)⟩)
            have C2 : Hid (∀ W, Below w4.heap.size w4 W → ∀ V, Below W.heap.size W V → Calls Tryd.prog 9 #[.slice ha hn hc, .agg #[.int .u8 zc, .int .i64 zl, .int .i64 zq]] V fun e w' => e = .returned (.bool true) ∧ Below W.heap.size W w') := fun W hW V hV => (in_any _ βh Gt zc zl zq V ((EG.out.2.below hW).below hV)).mono (fun e w' h => ⟨by rw [h.1, G2.out], hV.trans (h.2.mono hV.size)⟩)
            have C3 : Hid (∀ W, Below w4.heap.size w4 W → ∀ V, Below W.heap.size W V → Calls Tryd.prog 9 #[.slice aS D cs, .agg #[.int .u8 zc, .int .i64 zl, .int .i64 zq]] V fun e w' => e = .returned (.bool false) ∧ Below W.heap.size W w') := fun W hW V hV => (in_any _ βs sd zc zl zq V ((ET.out.1.below hW).below hV)).mono (fun e w' h => ⟨by rw [h.1, G3.out], hV.trans (h.2.mono hV.size)⟩)
            have C4 : Hid (∀ W, Below w4.heap.size w4 W → ∀ V, Below W.heap.size W V → Calls Tryd.prog 9 #[.slice at' D ct, .agg #[.int .u8 zc, .int .i64 zl, .int .i64 zq]] V fun e w' => e = .returned (.bool false) ∧ Below W.heap.size W w') := fun W hW V hV => (in_any _ βt sd zc zl zq V ((ET.out.2.below hW).below hV)).mono (fun e w' h => ⟨by rw [h.1, G3.out], hV.trans (h.2.mono hV.size)⟩)
            go_upto_region 28 with fail
            refine wh28f _ _ x y b1 o1 nl ci k zc zl zq ga ha gn gc hn hc true rfl rfl rfl rfl (by simp) xl yl bl p1 q1 r0 r1 r2 i1 i0 (C1.out _ HB.out) (C2.out _ HB.out) ?_
            intro V w5 hV b5
            have H5 := hd (HB.out.trans (b5.mono HB.out.size))
            clear b5 p0 p1 q0 q1 r0 r1 r2 xl yl bl HB C1 C2
            rename_i K0 hK0
            refine hK0 _ _ ?_
            simp only [slwh28f, List.getD_cons_zero, List.getD_cons_succ, List.range, List.range.loop, List.map_cons, List.map_nil, puts, List.foldl_cons, List.foldl_nil, Act.put, List.setIfInBounds_toArray, List.set_cons_succ, List.set_cons_zero]
            clear hK0
            rw [hV]
            clear hV
            obtain ⟨p0, p1, q0, q1, r0, r1, r2⟩ := CC.out w5 H5.out
            have xl : x < w5.heap.size := by have := H5.out.size; have := XL.out.1; omega
            have yl : y < w5.heap.size := by have := H5.out.size; have := XL.out.2.1; omega
            have bl : b1 < w5.heap.size := by have := H5.out.size; have := LB.out; omega
            go_upto_region 31 with fail
            refine wh31 _ _ x y b1 o1 nl ci k zc zl zq aS at' D cs D ct false rfl rfl rfl rfl rfl (by simp) xl yl bl p0 q0 r0 r1 r2 i1 i0 (C3.out _ H5.out) (C4.out _ H5.out) ?_
            intro V2 w6 hV2 b6
            have H6 := hd (H5.out.trans (b6.mono H5.out.size))
            clear b6 p0 p1 q0 q1 r0 r1 r2 xl yl bl H5 C3 C4
            rename_i K0 hK0
            refine hK0 _ _ ?_
            simp only [slwh31, List.getD_cons_zero, List.getD_cons_succ, List.range, List.range.loop, List.map_cons, List.map_nil, puts, List.foldl_cons, List.foldl_nil, Act.put, List.setIfInBounds_toArray, List.set_cons_succ, List.set_cons_zero]
            clear hK0
            rw [hV2]
            clear hV2
            go_wp2_with fail
            exact ⟨⟨k + 1, by omega, by go_num, by rw [CN.out] <;> go_num, H6⟩, by simp [intOf]; omega⟩
          · have G1 := hd (decide_eq_false g1)
            have G2 := hd (decide_eq_false g2)
            have G3 : Hid (decide ((zc, zl, zq) ∈ sd) = true) := decide_eq_true (FM2.out.2 ⟨g1, g2⟩)
            have CN : Hid (cnt sd L (k + 1) = cnt sd L k + 1) := by rw [CN1.out, if_pos ⟨t0, FM2.out.2 ⟨g1, g2⟩⟩]; exact (rfl : _ = _)
            clear CN1 FM2 g1 g2
            have C1 : Hid (∀ W, Below w4.heap.size w4 W → ∀ V, Below W.heap.size W V → Calls Tryd.prog 9 #[.slice ga gn gc, .agg #[.int .u8 zc, .int .i64 zl, .int .i64 zq]] V fun e w' => e = .returned (.bool false) ∧ Below W.heap.size W w') := fun W hW V hV => (in_any _ βg Gs zc zl zq V ((EG.out.1.below hW).below hV)).mono (fun e w' h => ⟨by rw [h.1, G1.out], hV.trans (h.2.mono hV.size)⟩)
            have C2 : Hid (∀ W, Below w4.heap.size w4 W → ∀ V, Below W.heap.size W V → Calls Tryd.prog 9 #[.slice ha hn hc, .agg #[.int .u8 zc, .int .i64 zl, .int .i64 zq]] V fun e w' => e = .returned (.bool false) ∧ Below W.heap.size W w') := fun W hW V hV => (in_any _ βh Gt zc zl zq V ((EG.out.2.below hW).below hV)).mono (fun e w' h => ⟨by rw [h.1, G2.out], hV.trans (h.2.mono hV.size)⟩)
            have C3 : Hid (∀ W, Below w4.heap.size w4 W → ∀ V, Below W.heap.size W V → Calls Tryd.prog 9 #[.slice aS D cs, .agg #[.int .u8 zc, .int .i64 zl, .int .i64 zq]] V fun e w' => e = .returned (.bool true) ∧ Below W.heap.size W w') := fun W hW V hV => (in_any _ βs sd zc zl zq V ((ET.out.1.below hW).below hV)).mono (fun e w' h => ⟨by rw [h.1, G3.out], hV.trans (h.2.mono hV.size)⟩)
            have C4 : Hid (∀ W, Below w4.heap.size w4 W → ∀ V, Below W.heap.size W V → Calls Tryd.prog 9 #[.slice at' D ct, .agg #[.int .u8 zc, .int .i64 zl, .int .i64 zq]] V fun e w' => e = .returned (.bool true) ∧ Below W.heap.size W w') := fun W hW V hV => (in_any _ βt sd zc zl zq V ((ET.out.2.below hW).below hV)).mono (fun e w' h => ⟨by rw [h.1, G3.out], hV.trans (h.2.mono hV.size)⟩)
            go_upto_region 28 with fail
            refine wh28f _ _ x y b1 o1 nl ci k zc zl zq ga ha gn gc hn hc false rfl rfl rfl rfl (by simp) xl yl bl p1 q1 r0 r1 r2 i1 i0 (C1.out _ HB.out) (C2.out _ HB.out) ?_
            intro V w5 hV b5
            have H5 := hd (HB.out.trans (b5.mono HB.out.size))
            clear b5 p0 p1 q0 q1 r0 r1 r2 xl yl bl HB C1 C2
            rename_i K0 hK0
            refine hK0 _ _ ?_
            simp only [slwh28f, List.getD_cons_zero, List.getD_cons_succ, List.range, List.range.loop, List.map_cons, List.map_nil, puts, List.foldl_cons, List.foldl_nil, Act.put, List.setIfInBounds_toArray, List.set_cons_succ, List.set_cons_zero]
            clear hK0
            rw [hV]
            clear hV
            obtain ⟨p0, p1, q0, q1, r0, r1, r2⟩ := CC.out w5 H5.out
            have xl : x < w5.heap.size := by have := H5.out.size; have := XL.out.1; omega
            have yl : y < w5.heap.size := by have := H5.out.size; have := XL.out.2.1; omega
            have bl : b1 < w5.heap.size := by have := H5.out.size; have := LB.out; omega
            go_upto_region 31 with fail
            refine wh31 _ _ x y b1 o1 nl ci k zc zl zq aS at' D cs D ct true rfl rfl rfl rfl rfl (by simp) xl yl bl p0 q0 r0 r1 r2 i1 i0 (C3.out _ H5.out) (C4.out _ H5.out) ?_
            intro V2 w6 hV2 b6
            have H6 := hd (H5.out.trans (b6.mono H5.out.size))
            clear b6 p0 p1 q0 q1 r0 r1 r2 xl yl bl H5 C3 C4
            rename_i K0 hK0
            refine hK0 _ _ ?_
            simp only [slwh31, List.getD_cons_zero, List.getD_cons_succ, List.range, List.range.loop, List.map_cons, List.map_nil, puts, List.foldl_cons, List.foldl_nil, Act.put, List.setIfInBounds_toArray, List.set_cons_succ, List.set_cons_zero]
            clear hK0
            rw [hV2]
            clear hV2
            go_wp2_with fail
            exact ⟨⟨k + 1, by omega, by go_num, by rw [CN.out] <;> go_num, H6⟩, by simp [intOf]; omega⟩
    · obtain rfl : k = nl := by omega
      rw [FC.out]
      have i1 : ¬ ((k : Int) < (k : Int)) := by omega
      clear FM hlt hk
      go_wp2_with fail
      go_loopw [17] (fun i wr => ∃ k : Nat, k ≤ nx ∧ i = .int .i64 k ∧ Hid (Below w4.heap.size w4 wr)) (fun i _ => nx - (intOf i).toNat)
      case atStart => exact ⟨0, Nat.zero_le _, rfl, HB⟩
      case round =>
        clear HB
        obtain ⟨j, hj, rfl, HB⟩ := hrel
        have CT : Hid (∀ V, Below w4.heap.size w4 V → V.cell? ⟨x, 0, none⟩ = some (.slice aS D cs) ∧ V.cell? ⟨y, 0, none⟩ = some (.slice at' D ct)) := fun V hV => ⟨(hV.cell (p := ⟨x, 0, none⟩) XL.out.1).trans E0.out.1, (hV.cell (p := ⟨y, 0, none⟩) XL.out.2.1).trans E0.out.2.2.1⟩
        have xl : x < wr.heap.size := by have := HB.out.size; have := XL.out.1; omega
        have yl : y < wr.heap.size := by have := HB.out.size; have := XL.out.2.1; omega
        by_cases hlt : j < nx
        · have jx : j < X.length := by have := HNX.out; omega
          have i2 : (j : Int) < (nx : Int) := by omega
          have bl : bx < wr.heap.size := by have := HB.out.size; have := XL.out.2.2; omega
          have r0 : wr.cell? ⟨bx, j, none⟩ = some X[j].v := (HB.out.cell (p := ⟨bx, j, none⟩) XL.out.2.2).trans (FX.out j jx)
          obtain ⟨ea, ec, hev, -, -⟩ := (FE.out _ (List.getElem_mem jx)).form
          have CO : Hid (∀ V, Below wr.heap.size wr V → Calls Tryd.prog 10 #[X[j].v, .slice aS D cs] V fun e w' => e = .returned (.bool true) ∧ Below wr.heap.size wr w') := fun V hV => (ord_se (((FE.out _ (List.getElem_mem jx)).below HB.out).below hV) ((ET.out.1.below HB.out).below hV) (FO.out _ (List.getElem_mem jx))).mono (fun e w' h => ⟨h.1, hV.trans (h.2.mono hV.size)⟩)
          generalize X[j].T.length = en at hev
          rw [hev] at r0 CO
          clear hev
          obtain ⟨p0, q0⟩ := CT.out wr HB.out
          have i0 : (0 : Int) ≤ (j : Int) := by omega
          clear jx
          go_upto_region 36 with fail
          refine wh36 _ _ x bx nx cx j aS ea D cs en ec rfl rfl rfl (by simp) xl bl p0 r0 i2 i0 CO.out ?_
          intro V w5 hV b5
          have H5 := hd (HB.out.trans (b5.mono HB.out.size))
          clear b5 p0 q0 r0 CO HB xl yl bl
          rename_i K0 hK0
          refine hK0 _ _ ?_
          simp only [slwh36, List.getD_cons_zero, List.getD_cons_succ, List.range, List.range.loop, List.map_cons, List.map_nil, puts, List.foldl_cons, List.foldl_nil, Act.put, List.setIfInBounds_toArray, List.set_cons_succ, List.set_cons_zero]
          clear hK0
          rw [hV]
          clear hV
          go_wp2_with fail
          exact ⟨⟨j + 1, by omega, by go_num, H5⟩, by simp [intOf]; omega⟩
        · have i2 : ¬ ((j : Int) < (nx : Int)) := by omega
          have CO : Hid (∀ V, Below wr.heap.size wr V → Calls Tryd.prog 10 #[.slice aS D cs, .slice at' D ct] V fun e w' => e = .returned (.bool true) ∧ Below wr.heap.size wr w') := fun V hV => (ord_se ((ET.out.1.below HB.out).below hV) ((ET.out.2.below HB.out).below hV) FS.out).mono (fun e w' h => ⟨h.1, hV.trans (h.2.mono hV.size)⟩)
          obtain ⟨p0, q0⟩ := CT.out wr HB.out
          have ZB : Hid (∀ V, Below w4.heap.size w4 V → Below w.heap.size w V) := fun V hV => HBW.out.trans (hV.mono HBW.out.size)
          go_upto_region 38 with fail
          refine wh38 _ _ x y D aS at' cs ct rfl rfl rfl (by simp) xl yl p0 q0 CO.out ?_
          intro V w5 hV b5
          have H5 := hd (ZB.out _ (HB.out.trans (b5.mono HB.out.size)))
          clear b5 p0 q0 CO HB xl yl ZB
          rename_i K0 hK0
          refine hK0 _ _ ?_
          simp only [slwh38, List.getD_cons_zero, List.getD_cons_succ, List.range, List.range.loop, List.map_cons, List.map_nil, puts, List.foldl_cons, List.foldl_nil, Act.put, List.setIfInBounds_toArray, List.set_cons_succ, List.set_cons_zero]
          clear hK0
          rw [hV]
          clear hV
          go_wp2
          go_ret
          exact ⟨rfl, H5.out⟩

end Go.Proofs.YtmbnimlibnheeabDoor
