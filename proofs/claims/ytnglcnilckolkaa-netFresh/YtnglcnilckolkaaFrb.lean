/-
  NetFresh: the walk from region 31 to 41.
-/
import Derived.Test.YtnglcnilckolkaaFy
import Derived.Test.YtnglcnilckolkaaFrc
namespace Go.Proofs.Ytnglcnilckolkaa
open Go.RowKit
set_option linter.unusedVariables false

theorem g3_at2 (b : List Int) (k : Nat) (hk : k < 3) : ∃ f t, (g3 b)[k]? = some ⟨f, t, b, false⟩ ∧ (g3 b).getD k zDG = ⟨f, t, b, false⟩ := by
  have : k = 0 ∨ k = 1 ∨ k = 2 := by omega
  rcases this with rfl | rfl | rfl <;> exact ⟨_, _, rfl, rfl⟩
theorem Ent.at {w : World} {E : Ent} {A : Option Addr} {m C : Nat} (h : FE w E) (hv : E.v = .slice A (m + 1) C) : ∃ g, A = some ⟨g, 0, none⟩ ∧ IsG w (some ⟨g, 0, none⟩) (m + 1) C E.L := by
  have hG := h.fg.isG2 hv
  have hso := h.so
  unfold Ent.v at hv hso
  cases hβ : E.β with
  | none =>
    rw [hβ] at hso
    have h0 := hso.2
    have hl := hG.1.1
    rw [h0] at hl
    simp at hl
  | some g =>
    rw [hβ] at hv
    injection hv with e1 e2 e3
    have : A = some ⟨g, 0, none⟩ := e1.symm
    subst this
    exact ⟨g, rfl, hG⟩

set_option maxRecDepth 100000 in
set_option maxHeartbeats 8000000 in
theorem fresh_31 (w u : World) (a : Option Addr) (n c : Nat) (b : List Int) (i : Int) (x y gw g1 C1 m : Nat) (z0 z1 z2 : It) (E2 : Ent) (A2 : Option Addr) (C2 : Nat) (hy : Hid (FY w u a n c b x y gw g1 C1 m z0 z1 z2 E2 A2 C2)) (u2 u3 u4 u5 u6 u7 u9 u11 u12 u13 u17 u18 u19 u20 u21 u22 u23 u24 u25 u26 u27 u28 u29 u30 u31 u32 u33 u34 u35 u36 u37 u38 u39 u40 u41 u42 u43 u44 u45 u46 u47 u48 u49 u50 u51 u52 u53 u54 u55 u56 u57 u58 u59 u60 u61 u62 u63 u64 u65 u66 u67 u68 u69 u70 u71 u72 u73 u74 u75 u76 u77 u78 u79 u80 u81 u82 u83 u84 u85 u86 u87 u88 u89 u90 u91 u92 u93 u94 u95 u96 u97 u98 u99 u100 u101 u102 u103 u104 u105 u106 u107 u108 u109 u110 u111 u112 u113 u114 u115 u116 u117 u118 u119 u120 u121 u122 u123 u124 u125 u126 u127 u128 u129 u130 u131 u132 u133 u134 u135 u136 u137 u138 u139 u140 u141 u142 u143 u144 u145 u146 u147 u148 u149 u150 u151 u152 u153 u154 u155 u156 u157 u158 u159 u160 u161 u162 u163 u164 u165 u166 u167 u168 u169 u170 u171 u172 u173 u174 u175 u176 u177 u178 u179 u180 u181 u182 u183 u184 u185 u186 u187 u188 u189 u190 u191 u192 u193 u194 u195 u196 u197 u198 u199 u200 u201 u202 u203 u204 u205 u206 u207 u208 u209 u210 u211 u212 u213 u214 u215 u216 u217 u218 u219 u220 u221 u222 u223 u224 u225 u226 u227 u228 u229 u230 u231 u232 u233 u234 u235 u236 u237 u238 u239 u240 u241 u242 u243 u244 u245 u246 u247 u248 u249 u250 u251 u252 u253 u254 u255 u256 u257 u258 u259 u260 u261 u262 u263 u264 u265 u266 u267 u268 u269 u270 u271 u272 u273 u274 u275 u276 u277 u278 u279 u280 u281 u282 u283 u284 u285 u286 u287 u288 u289 u290 u291 u292 u293 u294 u295 u296 u297 u298 u299 u300 u301 u302 u303 u304 u305 u306 u307 u308 u309 u310 u311 u312 u313 u314 u315 u316 u317 u318 u319 u320 u321 u322 u323 u324 u325 u326 u327 u328 u329 u330 u331 u332 u333 u334 u335 u336 : Value) :
    Code.wp Try.prog fresh31 (bodyPost Try.prog Try.f6 fun e w' => e = .returned (.bool true) ∧ Below w.heap.size w w') ⟨#[.slice a n c, .int .i64 i, u2, u3, u4, u5, u6, u7, .pointer (some ⟨x, 0, none⟩), u9, .pointer (some ⟨y, 0, none⟩), u11, u12, u13, .slice (some ⟨gw, 0, none⟩) 3 3, .slice (some ⟨g1, 0, none⟩) 3 C1, .slice A2 3 C2, u17, u18, u19, u20, u21, u22, u23, u24, u25, u26, u27, u28, u29, u30, u31, u32, u33, u34, u35, u36, u37, u38, u39, u40, u41, u42, u43, u44, u45, u46, u47, u48, u49, u50, u51, u52, u53, u54, u55, u56, u57, u58, u59, u60, u61, u62, u63, u64, u65, u66, u67, u68, u69, u70, u71, u72, u73, u74, u75, u76, u77, u78, u79, u80, u81, u82, u83, u84, u85, u86, u87, u88, u89, u90, u91, u92, u93, u94, u95, u96, u97, u98, u99, u100, u101, u102, u103, u104, u105, u106, u107, u108, u109, u110, u111, u112, u113, u114, u115, u116, u117, u118, u119, u120, u121, u122, u123, u124, u125, u126, u127, u128, u129, u130, u131, u132, u133, u134, u135, u136, u137, u138, u139, u140, u141, u142, u143, u144, u145, u146, u147, u148, u149, u150, u151, u152, u153, u154, u155, u156, u157, u158, u159, u160, u161, u162, u163, u164, u165, u166, u167, u168, u169, u170, u171, u172, u173, u174, u175, u176, u177, u178, u179, u180, u181, u182, u183, u184, u185, u186, u187, u188, u189, u190, u191, u192, u193, u194, u195, u196, u197, u198, u199, u200, u201, u202, u203, u204, u205, u206, u207, u208, u209, u210, u211, u212, u213, u214, u215, u216, u217, u218, u219, u220, u221, u222, u223, u224, u225, u226, u227, u228, u229, u230, u231, u232, u233, u234, u235, u236, u237, u238, u239, u240, u241, u242, u243, u244, u245, u246, u247, u248, u249, u250, u251, u252, u253, u254, u255, u256, u257, u258, u259, u260, u261, u262, u263, u264, u265, u266, u267, u268, u269, u270, u271, u272, u273, u274, u275, u276, u277, u278, u279, u280, u281, u282, u283, u284, u285, u286, u287, u288, u289, u290, u291, u292, u293, u294, u295, u296, u297, u298, u299, u300, u301, u302, u303, u304, u305, u306, u307, u308, u309, u310, u311, u312, u313, u314, u315, u316, u317, u318, u319, u320, u321, u322, u323, u324, u325, u326, u327, u328, u329, u330, u331, u332, u333, u334, u335, u336], []⟩ u := by
  conv => arg 2; whnf
  conv => arg 4; zeta
  have hn : n ≤ 60 := hy.out.n60
  have hC1 : 3 ≤ C1 := by obtain ⟨cur, -, -, -, h1, -⟩ := hy.out.l; exact h1
  obtain ⟨c2, -, -⟩ := lcell hy.out.l hy.out.bl hy.out.a0 hy.out.a1 hy.out.a2
  have lg := hy.out.l.lt
  go_upto_region 32 with fail
  clear c2
  obtain ⟨go, co, w1, hap, T1, I1, F1, hgo⟩ := push_keep (n := n) hy.out.t0 (by simp) 209 (by omega)
  have l1 : RowO w1 g1 3 C1 [mkZ z0, mkZ z1, mkZ z2] := hy.out.l.fr F1 hy.out.n0
  have t1 : TR w1 z1.γ z1.c (List.replicate n 194) := hy.out.t1.fr F1 (fun q e e1 => hy.out.s01 q e1 e)
  obtain ⟨-, c6, -⟩ := lcell l1 hy.out.bl hy.out.a0 hy.out.a1 hy.out.a2
  have lg1 := l1.lt
  have X1 := hd (And.intro T1 (And.intro I1 (And.intro F1 (And.intro hgo (And.intro l1 t1)))))
  clear T1 I1 F1 hgo l1 t1 lg
  go_upto_region 33 with (at_builtin; refine wpList_append_k _ rfl _ _ 28 28 rfl _ _ rfl rfl (hap _) ?_)
  clear hap
  obtain ⟨gp, cp, w2, hap, T2, I2, F2, hgp⟩ := push_keep (n := n) X1.out.2.2.2.2.2 (by simp) 210 (by omega)
  have l2 : RowO w2 g1 3 C1 [mkZ z0, mkZ z1, mkZ z2] := X1.out.2.2.2.2.1.fr F2 hy.out.n1
  have X2 := hd (And.intro T2 (And.intro I2 (And.intro F2 (And.intro hgp l2))))
  clear T2 I2 F2 hgp l2
  go_upto_region 34 with (at_builtin; refine wpList_append_k _ rfl _ _ 28 28 rfl _ _ rfl rfl (hap _) ?_)
  clear hap c6 lg1
  obtain ⟨gv, cv, w3, hap, ⟨C', l3⟩, V3, lv, hcv, hgv, F3⟩ := push_v X2.out.2.2.2.2
  have tv3 : TV w w3 x y (g3 b) 3 (gy b) 1 gw := ((hy.out.tv.write (X1.out.2.2.1.mono (fun q _ e => Nat.le_of_lt (hy.out.q0 q e).1))).write (X2.out.2.2.1.mono (fun q _ e => Nat.le_of_lt (hy.out.q1 q e).1))).write (F3.mono (fun q _ e => by rw [e]; exact Nat.le_of_lt hy.out.qg.1))
  have X3 := hd (And.intro l3 (And.intro V3 (And.intro lv (And.intro hgv F3))))
  have TV3 := hd tv3
  clear l3 V3 lv hgv F3 tv3
  go_upto_region 35 with (at_builtin; refine wpList_append_k _ rfl _ _ 43 43 rfl _ _ rfl rfl (hap _) ?_)
  clear hap
  go_wp2_with fail
  refine (into_any i 3 w3 (by omega) (by omega)).mono ?_
  rintro e w3' ⟨rfl, hw3⟩
  rw [hw3]
  clear hw3 w3'
  have k3lt : intoP i 3 < 3 := into_lt i
  obtain ⟨f, t, hd1, hd2⟩ := g3_at2 b (intoP i 3) k3lt
  have CI0 := fun U : World => into_any i 3 U (by omega) (by omega)
  obtain ⟨k3, hk3⟩ : ∃ k3, k3 = intoP i 3 := ⟨_, rfl⟩
  rw [← hk3] at CI0 k3lt hd1 hd2 ⊢
  have HK3 := hd hk3
  have CI := hd CI0
  clear hk3 CI0
  go_wp2_with fail
  refine (tv_deliver TV3.out k3 k3lt).mono ?_
  rintro e w4 ⟨γd, cd, he, Td, hγ, tv4, F4⟩
  rw [hd2] at he Td
  simp only [dgv] at he
  rw [hy.out.bl] at he
  subst he
  obtain ⟨w5, hw5⟩ : ∃ q, q = w4.alloc (.cells #[.int .i64 f, .int .i64 t, .slice (at0 γd) n cd, .bool false] 37) := ⟨_, rfl⟩
  have F5 : Below w4.heap.size w4 w5 := by rw [hw5]; exact (Below.refl _ _).alloc (Nat.le_refl _) _
  have D5 : w5.heap[w4.heap.size]? = some (.cells #[.int .i64 f, .int .i64 t, .slice (at0 γd) n cd, .bool false] 37 (0, 0)) := by rw [hw5]; exact heap_alloc_new _ _
  have X4 := hd (And.intro Td (And.intro hγ (And.intro tv4 (And.intro F4 (And.intro F5 D5)))))
  have HW5 := hd hw5
  clear Td hγ tv4 F4 F5 D5 hw5
  go_upto_region 36 with fail
  rw [← HW5.out]
  clear HW5
  have Y5 : Hid (IsB w5 a n c b ∧ w5.heap[gw]? = some (.cells #[.int .i64 0, .int .i64 1, .slice a n c, .bool false, .int .i64 0, .int .i64 1, .slice a n c, .bool false, .int .i64 2, .int .i64 0, .slice a n c, .bool false] 37 (0, 0))) := by
    have G1 : Fr (fun k => z0.γ = some k ∨ z1.γ = some k ∨ k = g1 ∨ (w.heap.size ≤ k ∧ k < gw)) u w5 := ((((X1.out.2.2.1.mono (fun _ _ h => .inl h)).trans (X2.out.2.2.1.mono (fun _ _ h => .inr (.inl h)))).trans (X3.out.2.2.2.2.mono (fun _ _ h => .inr (.inr (.inl h))))).trans (X4.out.2.2.2.1.mono (fun _ _ h => .inr (.inr (.inr h))))).trans (Fr.of_below X4.out.2.2.2.2.1)
    have gwl := hy.out.tv.2
    have qg := hy.out.qg
    refine ⟨hy.out.hb.old hy.out.hb0 G1 (fun k h => ?_), G1.keeps hy.out.row (fun h => ?_)⟩
    · rcases h with h | h | h | h
      · have := hy.out.q0 k h; omega
      · have := hy.out.q1 k h; omega
      · omega
      · exact h.1
    · rcases h with h | h | h | h
      · have := hy.out.q0 _ h; omega
      · have := hy.out.q1 _ h; omega
      · omega
      · omega
  have wan5 := wt_isG Y5.out.2 hy.out.bl Y5.out.1
  obtain ⟨Ae, ce, CE0⟩ := wan5.cellsD k3 k3lt (by rw [wt_map]; exact hd1)
  have hbd : IsB w5 (at0 γd) n cd b := (X4.out.1.fr (Fr.of_below (S := fun _ => False) X4.out.2.2.2.2.1) (fun _ _ h => h)).isB hy.out.bl
  have ca : ∀ U, Below w5.heap.size w5 U → Calls Try.prog 18 #[.agg #[.int .i64 f, .int .i64 t, .slice (at0 γd) n cd, .bool false], .agg #[.int .i64 f, .int .i64 t, .slice Ae n ce, .bool false]] U fun e w' => e = .returned (.bool true) ∧ Below w5.heap.size w5 w' := by
    have hb' := CE0.hb
    have hbl := hy.out.bl
    rw [← hbl] at hbd ⊢
    exact alike_calls (d := ⟨f, t, b, false⟩) hbd hb'
  have e2 : w5.cell? ⟨gw, k3 * 4 + 2, none⟩ = some (.slice Ae n ce) := by have hbl := hy.out.bl; rw [← hbl]; exact CE0.c2
  have CA := hd ca
  have E2' := hd e2
  have CE := hd CE0
  have DB := hd X4.out.2.2.2.2.2
  clear ca e2 CE0 hbd wan5 hd1 hd2 Y5
  generalize hdb : w4.heap.size = db at *
  have HDB := hd hdb
  clear hdb
  have F5' : Hid (Below w4.heap.size w4 w5) := hd (by rw [HDB.out]; exact X4.out.2.2.2.2.1)
  refine fresh_region36 _ _ db gw k3 i f t (at0 γd) n cd false f t Ae n ce false rfl rfl rfl rfl (by simp) k3lt (block_lt DB.out) CE.out.lt (by rw [cell_row DB.out]; rfl) (by rw [cell_row DB.out]; rfl) (by rw [cell_row DB.out]; rfl) (by rw [cell_row DB.out]; rfl) CE.out.c0 CE.out.c1 E2'.out CE.out.c3 CI.out CA.out ?_
  intro V w6 h11 F6
  have D6 := (F6.block db (block_lt DB.out)).trans DB.out
  have T6 := (X4.out.1.fr (Fr.of_below (S := fun _ => False) F5'.out) (fun _ _ h => h)).fr (Fr.of_below (S := fun _ => False) F6) (fun _ _ h => h)
  have tv6 := (X4.out.2.2.1.below F5'.out).below F6
  have X6 := hd (And.intro F6 (And.intro D6 (And.intro T6 tv6)))
  clear F6 D6 T6 tv6 CA E2' CE CI
  rename_i K0 hK0
  refine hK0 _ _ ?_
  simp only [List.range, List.range.loop, List.map_cons, List.map_nil, Nat.reduceAdd, puts, List.foldl_cons, List.foldl_nil, Act.put, List.setIfInBounds_toArray, List.set_cons_succ, List.set_cons_zero]
  clear hK0
  rw [h11]
  have d2 : w6.cell? ⟨db, 2, none⟩ = some (.slice (at0 γd) n cd) := by rw [cell_row X6.out.2.1]; rfl
  have lf : db < w6.heap.size := block_lt X6.out.2.1
  have hcp := X6.out.2.2.1.cap
  have hbl := hy.out.bl
  rw [hbl] at hcp
  have HBL := hd hbl
  clear hbl
  go_upto_region 38 with fail
  go_wp2_with fail
  refine (fill_any γd n cd cd b 177 w6 X6.out.2.2.1 (by rw [HBL.out]; exact Nat.le_refl _) hcp.1 hcp.2).mono ?_
  rintro e w7 ⟨rfl, tf, F7⟩
  rw [List.drop_of_length_le (by rw [HBL.out]; exact Nat.le_refl _), List.append_nil] at tf
  have hγ3 := X4.out.2.1
  have hγ4 : ∀ g, γd = some g → g < w4.heap.size := X4.out.1.lt
  have d7 : w7.heap[db]? = some (.cells #[.int .i64 f, .int .i64 t, .slice (at0 γd) n cd, .bool false] 37 (0, 0)) := F7.keeps X6.out.2.1 (fun e => by have := hγ4 db e; have := HDB.out; omega)
  have gw3 : gw < w3.heap.size := by have h1 := X1.out.2.2.1.size; have h2 := X2.out.2.2.1.size; have h3 := X3.out.2.2.2.2.size; have h4 := block_lt hy.out.row; omega
  have tv7 := X6.out.2.2.2.write (F7.mono (fun q _ e => by have := hγ3 q e; omega))
  have e2 : w7.cell? ⟨db, 2, none⟩ = some (.slice (at0 γd) n cd) := by rw [cell_row d7]; rfl
  have lf7 : db < w7.heap.size := block_lt d7
  obtain ⟨gq, cq, w8, hap, T8, I8, F8, hgq⟩ := push_keep (n := n) tf (by simp) 211 (by omega)
  have tv8 := tv7.write (F8.mono (fun q _ e => by have := hγ3 q e; omega))
  have X8 := hd (And.intro F7 (And.intro T8 (And.intro I8 (And.intro F8 tv8))))
  have HG := hd (And.intro hγ3 hγ4)
  clear F7 T8 I8 F8 tv8 tf tv7 d7 hγ3 hγ4 gw3 hgq d2 lf
  go_upto_region 40 with (at_builtin; refine wpList_append_k _ rfl _ _ 28 28 rfl _ _ rfl rfl (hap _) ?_)
  clear hap e2 lf7
  go_wp2_with fail
  refine (tv_flight X8.out.2.2.2.2).mono ?_
  rintro e wA ⟨E3, rfl, fe3, lo3, hi3, d3, tvA, bA⟩
  obtain ⟨A3, C3, v3⟩ := Ent.v_of (w := wA) 2 d3 (by
    have : k3 = 0 ∨ k3 = 1 ∨ k3 = 2 := by omega
    rcases this with rfl | rfl | rfl <;> rfl)
  rw [v3]
  obtain ⟨gr3, rfl, G3⟩ := Ent.at fe3 v3
  have XA := hd (And.intro G3 (And.intro d3 (And.intro tvA bA)))
  clear fe3 lo3 hi3 d3 tvA bA v3 G3
  go_upto_region 41 with fail
  go_cut [25] (fun v wx => ∃ gz C4, v = .slice (some ⟨gz, 0, none⟩) 1 C4 ∧ Hid ((∃ L, IsG wx (some ⟨gz, 0, none⟩) 1 C4 L ∧ L.map It.d = gy b) ∧ TV w wx y x (gy b) 1 (without (g3 b) k3) 3 gw ∧ Below wA.heap.size wA wx))
  case first =>
    go_wp2_with fail
    refine (tv_flight XA.out.2.2.1.swap).mono ?_
    rintro e wB ⟨E4, rfl, fe4, lo4, hi4, d4, tvB, bB⟩
    obtain ⟨A4, C4, v4⟩ := Ent.v_of (w := wB) 1 d4 rfl
    rw [v4]
    obtain ⟨gz, rfl, G4⟩ := Ent.at fe4 v4
    have ZZ : Hid ((∃ L, IsG wB (some ⟨gz, 0, none⟩) 1 C4 L ∧ L.map It.d = gy b) ∧ TV w wB y x (gy b) 1 (without (g3 b) k3) 3 gw ∧ Below wA.heap.size wA wB) := hd ⟨⟨E4.L, G4, d4⟩, tvB, bB⟩
    clear fe4 lo4 hi4 d4 tvB bB v4 G4
    go_wp2_with fail
    go_meet
    exact ⟨gz, C4, rfl, ZZ⟩
  case rest =>
    obtain ⟨gz, C4, rfl, ⟨zed, tvB, bB⟩⟩ := hcut
    have b9 : Below w8.heap.size w8 wc := XA.out.2.2.2.trans (bB.mono XA.out.2.2.2.size)
    have FF := fz_of (cv := cv) (f := f) (t := t) (ds := false) (k3 := k3) (gr3 := gr3) (C3 := C3) hy.out X1.out.1 X1.out.2.1 X1.out.2.2.1 X1.out.2.2.2.1 X2.out.1 X2.out.2.1 X2.out.2.2.1 X2.out.2.2.2.1 X3.out.1 X3.out.2.1 X3.out.2.2.1 X3.out.2.2.2.1 X3.out.2.2.2.2 X4.out.2.2.2.1 HG.out.1 HG.out.2 F5'.out DB.out (by rw [HDB.out]; exact Nat.le_refl _) X6.out.1 X8.out.1 X8.out.2.1 X8.out.2.2.1 X8.out.2.2.2.1 b9 ⟨E3.L, XA.out.1.below bB, XA.out.2.1⟩ zed
    rename_i K0 hK0
    refine hK0 _ _ ?_
    exact fresh_42 w _ a n c b i k3 gw g1 C1 A2 C2 go gp gq gv db z0.γ z1.γ z2.γ γd z0.c z1.c z2.c cd gr3 C3 gz C4 co cp cv cq (hd ⟨FF, tvB.base⟩) hn HBL HK3 hcv hC1 _ _ _ _ _ _ _ _ _ _ _ _ _ _ _ _ _ _ _ _ _ _ _ _ _ _ _ _ _ _ _ _ _ _ _ _ _ _ _ _ _ _ _ _ _ _ _ _ _ _ _ _ _ _ _ _ _ _ _ _ _ _ _ _ _ _ _ _ _ _ _ _ _ _ _ _ _ _ _ _ _ _ _ _ _ _ _ _ _ _ _ _ _ _ _ _ _ _ _ _ _ _ _ _ _ _ _ _ _ _ _ _ _ _ _ _ _ _ _ _ _ _ _ _ _ _ _ _ _ _ _ _ _ _ _ _ _ _ _ _ _ _ _ _ _ _ _ _ _ _ _ _ _ _ _ _ _ _ _ _ _ _ _ _ _ _ _ _ _ _ _ _ _ _ _ _ _ _ _ _ _ _ _ _ _ _ _ _ _ _ _ _ _ _ _ _ _ _ _ _ _ _ _ _ _ _ _ _ _ _ _ _ _ _ _ _ _ _ _ _ _ _ _ _ _ _ _ _ _ _ _ _ _ _ _ _ _ _ _ _ _ _ _ _ _ _ _ _ _ _ _ _ _ _ _ _ _ _ _ _ _ _ _ _ _ _ _ _ _ _ _ _ _ _ _ _ _ _ _ _ _ _ _ _ _ _ _ _ _ _ _ _ _ _ _ _ _ _ _ _ _ _ _ _ _ _ _ _ _ _ _ _ _ _ _ _ _ _ _ _ _ _ _ _ _

end Go.Proofs.Ytnglcnilckolkaa
