/-
  NetFresh: the walk from region 3 on (the bytes are at most 60).
-/
import Derived.Test.YtnglcnilckolkaaFrb
namespace Go.Proofs.Ytnglcnilckolkaa
open Go.RowKit
set_option linter.unusedVariables false

set_option maxRecDepth 100000 in
set_option maxHeartbeats 8000000 in
theorem fresh_rest (a : Option Addr) (n c : Nat) (b : List Int) (i : Int) (w : World) (hB : IsB w a n c b) (hn : n ≤ 60) (u2 u3 u5 u6 u7 u8 u9 u10 u11 u12 u13 u14 u15 u16 u17 u18 u19 u20 u21 u22 u23 u24 u25 u26 u27 u28 u29 u30 u31 u32 u33 u34 u35 u36 u37 u38 u39 u40 u41 u42 u43 u44 u45 u46 u47 u48 u49 u50 u51 u52 u53 u54 u55 u56 u57 u58 u59 u60 u61 u62 u63 u64 u65 u66 u67 u68 u69 u70 u71 u72 u73 u74 u75 u76 u77 u78 u79 u80 u81 u82 u83 u84 u85 u86 u87 u88 u89 u90 u91 u92 u93 u94 u95 u96 u97 u98 u99 u100 u101 u102 u103 u104 u105 u106 u107 u108 u109 u110 u111 u112 u113 u114 u115 u116 u117 u118 u119 u120 u121 u122 u123 u124 u125 u126 u127 u128 u129 u130 u131 u132 u133 u134 u135 u136 u137 u138 u139 u140 u141 u142 u143 u144 u145 u146 u147 u148 u149 u150 u151 u152 u153 u154 u155 u156 u157 u158 u159 u160 u161 u162 u163 u164 u165 u166 u167 u168 u169 u170 u171 u172 u173 u174 u175 u176 u177 u178 u179 u180 u181 u182 u183 u184 u185 u186 u187 u188 u189 u190 u191 u192 u193 u194 u195 u196 u197 u198 u199 u200 u201 u202 u203 u204 u205 u206 u207 u208 u209 u210 u211 u212 u213 u214 u215 u216 u217 u218 u219 u220 u221 u222 u223 u224 u225 u226 u227 u228 u229 u230 u231 u232 u233 u234 u235 u236 u237 u238 u239 u240 u241 u242 u243 u244 u245 u246 u247 u248 u249 u250 u251 u252 u253 u254 u255 u256 u257 u258 u259 u260 u261 u262 u263 u264 u265 u266 u267 u268 u269 u270 u271 u272 u273 u274 u275 u276 u277 u278 u279 u280 u281 u282 u283 u284 u285 u286 u287 u288 u289 u290 u291 u292 u293 u294 u295 u296 u297 u298 u299 u300 u301 u302 u303 u304 u305 u306 u307 u308 u309 u310 u311 u312 u313 u314 u315 u316 u317 u318 u319 u320 u321 u322 u323 u324 u325 u326 u327 u328 u329 u330 u331 u332 u333 u334 u335 u336 : Value) :
    Code.wp Try.prog fresh3 (bodyPost Try.prog Try.f6 fun e w' => e = .returned (.bool true) ∧ Below w.heap.size w w') ⟨#[.slice a n c, .int .i64 i, u2, u3, .bool false, u5, u6, u7, u8, u9, u10, u11, u12, u13, u14, u15, u16, u17, u18, u19, u20, u21, u22, u23, u24, u25, u26, u27, u28, u29, u30, u31, u32, u33, u34, u35, u36, u37, u38, u39, u40, u41, u42, u43, u44, u45, u46, u47, u48, u49, u50, u51, u52, u53, u54, u55, u56, u57, u58, u59, u60, u61, u62, u63, u64, u65, u66, u67, u68, u69, u70, u71, u72, u73, u74, u75, u76, u77, u78, u79, u80, u81, u82, u83, u84, u85, u86, u87, u88, u89, u90, u91, u92, u93, u94, u95, u96, u97, u98, u99, u100, u101, u102, u103, u104, u105, u106, u107, u108, u109, u110, u111, u112, u113, u114, u115, u116, u117, u118, u119, u120, u121, u122, u123, u124, u125, u126, u127, u128, u129, u130, u131, u132, u133, u134, u135, u136, u137, u138, u139, u140, u141, u142, u143, u144, u145, u146, u147, u148, u149, u150, u151, u152, u153, u154, u155, u156, u157, u158, u159, u160, u161, u162, u163, u164, u165, u166, u167, u168, u169, u170, u171, u172, u173, u174, u175, u176, u177, u178, u179, u180, u181, u182, u183, u184, u185, u186, u187, u188, u189, u190, u191, u192, u193, u194, u195, u196, u197, u198, u199, u200, u201, u202, u203, u204, u205, u206, u207, u208, u209, u210, u211, u212, u213, u214, u215, u216, u217, u218, u219, u220, u221, u222, u223, u224, u225, u226, u227, u228, u229, u230, u231, u232, u233, u234, u235, u236, u237, u238, u239, u240, u241, u242, u243, u244, u245, u246, u247, u248, u249, u250, u251, u252, u253, u254, u255, u256, u257, u258, u259, u260, u261, u262, u263, u264, u265, u266, u267, u268, u269, u270, u271, u272, u273, u274, u275, u276, u277, u278, u279, u280, u281, u282, u283, u284, u285, u286, u287, u288, u289, u290, u291, u292, u293, u294, u295, u296, u297, u298, u299, u300, u301, u302, u303, u304, u305, u306, u307, u308, u309, u310, u311, u312, u313, u314, u315, u316, u317, u318, u319, u320, u321, u322, u323, u324, u325, u326, u327, u328, u329, u330, u331, u332, u333, u334, u335, u336], []⟩ w := by
  have HY := hd hB
  have hcap : n ≤ c ∧ c ≤ 9223372036854775807 := ⟨hB.2.1, hB.2.2.1⟩
  have HL := hd hB.1
  clear hB
  conv => arg 2; whnf
  obtain ⟨i0, hi0, hz0, hz1, hz2⟩ := info_parts Try.info5
  go_wp2_with (first | (at_make; refine wpList_make_b _ rfl _ _ 28 rfl 5 i0 Try.underlying28 hi0 hz0 hz1 hz2 _ _ _ _ (n + 4) rfl rfl (by go_num) (by go_num) (by omega) ?_; intro w1 hg1 hb1 hs1) | fail)
  have R0 : Hid (RowB w1 w.heap.size (fillB b (n + 4) 0) ∧ Below w.heap.size w w1) := ⟨by rw [fillB_zero]; exact hg1.out, hb1.out⟩
  clear hg1 hb1 hs1
  go_loopw [6] (fun v wr => ∃ k : Nat, k ≤ n ∧ v = .int .i64 k ∧ Hid (RowB wr w.heap.size (fillB b (n + 4) k) ∧ Below w.heap.size w wr)) (fun v _ => n - (intOf v).toNat)
  case atStart => exact ⟨0, Nat.zero_le _, rfl, R0⟩
  case round =>
    obtain ⟨k, hk, rfl, HR⟩ := hrel
    clear R0
    by_cases hlt : k < n
    · have hlen := fillB_len b n (n + 4) k HL.out (by omega) (by omega)
      have B1 := HY.out.below HR.out.2
      obtain ⟨bb, off, rfl, hb, hc⟩ := B1.2.2.2 (by omega)
      have e1 := hc k hlt
      have e2 := cell_of HR.out.1 k (by omega)
      have f2 := frozen_row HR.out.1 k
      have i2 : (k : Int) < (n : Int) := by omega
      have i3 : (k : Int) < (n : Int) + 4 := by omega
      obtain ⟨y, hy⟩ : ∃ y, b.getD k 0 = y := ⟨_, rfl⟩
      rw [hy] at e1
      have Z : Hid (RowB (wr.setCell ⟨w.heap.size, k, none⟩ (.int .u8 y)) w.heap.size (fillB b (n + 4) (k + 1)) ∧ Below w.heap.size w (wr.setCell ⟨w.heap.size, k, none⟩ (.int .u8 y))) := by
        refine ⟨?_, HR.out.2.setCell (by simp) _⟩
        rw [← fillB_set b n (n + 4) k HL.out hlt (by omega), hy]
        exact HR.out.1.set k y
      clear hlen B1 hc hy
      generalize (fillB b (n + 4) k).getD k 0 = z at e2
      go_wp2_with fail
      exact ⟨⟨k + 1, by omega, by go_num, Z⟩, by simp [intOf]; omega⟩
    · obtain rfl : n = k := by omega
      have hlen := fillB_len b n (n + 4) n HL.out (by omega) (by omega)
      have hfe : fillB b (n + 4) n = b ++ [0, 0, 0, 0] := by
        unfold fillB
        rw [List.take_of_length_le (by rw [HL.out]; exact Nat.le_refl _), show n + 4 - n = 4 by omega]
        rfl
      have tr : TR wr (some w.heap.size) (n + 4) (b ++ [0, 0, 0, 0]) := by
        have h1 := HR.out.1
        rw [hfe] at h1
        exact tr_block h1 (by simp [HL.out]) (by omega)
      have T1 := hd tr
      have B1 := hd HR.out.2
      have gr0 : w.heap.size < wr.heap.size := block_lt HR.out.1
      have GR0 := hd gr0
      clear HR hlen hfe tr gr0 hlt hk
      have j1 : (n : Int) ≤ (n : Int) + 4 := by omega
      have j0 : (0 : Int) ≤ (n : Int) := by omega
      go_upto_region 9 with fail
      go_wp2_with fail
      refine (tw_new wr).mono ?_
      rintro e1 w3 ⟨x, rfl, Sx, hx, kx, bx⟩
      have X1 := hd (And.intro hx (And.intro kx bx))
      clear hx kx bx
      go_wp2_with fail
      refine (tw_new w3).mono ?_
      rintro e2 w4 ⟨y, rfl, Sy, hy, ky, by_⟩
      have t4 := tw_of B1.out X1.out.1 X1.out.2.1 X1.out.2.2 hy ky by_
      have T4 := hd (And.intro t4 (And.intro ((T1.out.fr (Fr.of_below (S := fun _ => False) X1.out.2.2) (fun _ _ h => h)).fr (Fr.of_below (S := fun _ => False) by_) (fun _ _ h => h)) (((HY.out.below B1.out).below X1.out.2.2).below by_)))
      clear t4 X1 hy ky by_ T1 B1
      generalize hW2 : wr.heap.size = sr at *
      clear hW2 wr w1 w3
      generalize hgr : w.heap.size = gr at *
      have HGR := hd hgr
      clear hgr
      go_upto_region 13 with fail
      go_wp2_with fail
      refine (tw_send T4.out.1 (by omega) 0 1 (some ⟨gr, 0, none⟩) n (n + 4) b (mine_isB T4.out.2.1 HL.out)).mono ?_
      rintro e w5 ⟨rfl, t0, f0⟩
      obtain ⟨s0, s1⟩ := snd_ok (G := []) (f := 0) (t := 1) (by decide) HL.out hn (by simp)
      have s0 : sendE 2 ([] : List DG).length 0 1 n = 0 := s0
      rw [s0]
      rw [s1] at t0
      have T5 := hd (And.intro t0 (And.intro (T4.out.2.1.fr f0 (fun g e e' => by cases e; have := GR0.out; omega)) (T4.out.2.2.kp HY.out f0)))
      clear t0 f0 s0 s1 T4
      go_wp2_with fail
      refine (tw_send T5.out.1.swap (by omega) 2 0 (some ⟨gr, 0, none⟩) n (n + 4) b (mine_isB T5.out.2.1 HL.out)).mono ?_
      rintro e w6 ⟨rfl, t0, f0⟩
      obtain ⟨s0, s1⟩ := snd_ok (G := []) (f := 2) (t := 0) (by decide) HL.out hn (by simp)
      have s0 : sendE 2 ([] : List DG).length 2 0 n = 0 := s0
      rw [s0]
      rw [s1] at t0
      have T6 := hd (And.intro t0.swap (And.intro (T5.out.2.1.fr f0 (fun g e e' => by cases e; have := GR0.out; omega)) (T5.out.2.2.kp HY.out f0)))
      clear t0 f0 s0 s1 T5
      go_wp2_with fail
      refine (tw_double T6.out.1 (by omega) 0).mono ?_
      rintro e w7 ⟨rfl, t0, f0⟩
      have s0 : doubleE ([] ++ [⟨0, 1, b, false⟩] : List DG).length 0 = 0 := rfl
      have s1 : doubleG ([] ++ [⟨0, 1, b, false⟩]) 0 = [⟨0, 1, b, false⟩, ⟨0, 1, b, false⟩] := by
        rw [doubleG_yes s0]
        rfl
      rw [s0]
      rw [s1] at t0
      have T7 := hd (And.intro t0 (And.intro (T6.out.2.1.fr f0 (fun g e e' => by cases e; have := GR0.out; omega)) (T6.out.2.2.kp HY.out f0)))
      clear t0 f0 s0 s1 T6
      go_wp2_with fail
      refine (tw_send T7.out.1 (by omega) 2 0 (some ⟨gr, 0, none⟩) n (n + 4) b (mine_isB T7.out.2.1 HL.out)).mono ?_
      rintro e w8 ⟨rfl, t0, f0⟩
      obtain ⟨s0, s1⟩ := snd_ok (G := [⟨0, 1, b, false⟩, ⟨0, 1, b, false⟩]) (f := 2) (t := 0) (by decide) HL.out hn (by simp)
      have s0 : sendE 2 ([⟨0, 1, b, false⟩, ⟨0, 1, b, false⟩] : List DG).length 2 0 n = 0 := s0
      rw [s0]
      rw [s1] at t0
      have T8 := hd (And.intro t0 (And.intro (T7.out.2.1.fr f0 (fun g e e' => by cases e; have := GR0.out; omega)) (T7.out.2.2.kp HY.out f0)))
      clear t0 f0 s0 s1 T7
      have T9 : Hid (TW w w8 x y (g3 b) 3 (gy b) 1 (fun k => k < sr) ∧ TR w8 (some gr) (n + 4) (b ++ [0, 0, 0, 0]) ∧ IsB w8 a n c b) := T8
      clear T8
      go_upto_region 17 with fail
      have cz : w8.cell? ⟨gr, n, none⟩ = some (.int .u8 0) := by
        obtain ⟨g, hg, h1, -⟩ := T9.out.2.1.cell n (by simp [HL.out])
        cases hg
        rw [h1]
        simp [List.getD_eq_getElem?_getD, HL.out]
      have lgr := T9.out.2.1.lt gr rfl
      have j2 : (n : Int) < (n : Int) + 4 := by omega
      have CZ := hd cz
      go_wp2_with fail
      refine (same_true (some ⟨gr, 0, none⟩) a n (n + 4) c b w8 (mine_isB T9.out.2.1 HL.out) T9.out.2.2).mono ?_
      rintro e w9 ⟨rfl, m9, hm9⟩
      have b9 : Below w8.heap.size w8 w9 := by rw [hm9]; exact below_drewN (Below.refl _ _) m9
      have cz9 := (b9.cell (p := ⟨gr, n, none⟩) lgr).trans CZ.out
      have t9 := (T9.out.1.own (Fr.of_below b9)).sub (F' := fun k => k < sr) (fun k hk => .inl hk)
      have T10 := hd (And.intro t9 (And.intro (T9.out.2.1.fr (Fr.of_below (S := fun _ => False) b9) (fun _ _ h => h)) (T9.out.2.2.below b9)))
      clear b9 hm9 m9 t9 cz CZ T9 lgr
      have lgr := T10.out.2.1.lt gr rfl
      go_upto_region 19 with fail
      clear cz9
      go_wp2_with fail
      refine (fill_any (some gr) (n + 4) (n + 4) (n + 4) (b ++ [0, 0, 0, 0]) 225 w9 T10.out.2.1 (by simp [HL.out]) (Nat.le_refl _) (by omega)).mono ?_
      rintro e w11 ⟨rfl, -, f11⟩
      have t11 := (T10.out.1.own (f11.mono (fun k _ e => by cases e; exact ⟨GR0.out, by rw [HGR.out]; exact Nat.le_refl _⟩))).sub (F' := fun k => k < sr) (fun k hk => .inl hk)
      have T11 := hd (And.intro t11 (T10.out.2.2.old HY.out f11 (fun k e => by cases e; rw [HGR.out]; exact Nat.le_refl _)))
      clear t11 f11 T10 lgr
      obtain ⟨w12, hw12⟩ : ∃ q, q = w11.alloc (.cells #[.int .i64 0, .int .i64 1, .slice a n c, .bool false, .int .i64 0, .int .i64 1, .slice a n c, .bool false, .int .i64 2, .int .i64 0, .slice a n c, .bool false] 37) := ⟨_, rfl⟩
      have b12 : Below w11.heap.size w11 w12 := by rw [hw12]; exact (Below.refl _ _).alloc (Nat.le_refl _) _
      have r12 : w12.heap[w11.heap.size]? = some (.cells #[.int .i64 0, .int .i64 1, .slice a n c, .bool false, .int .i64 0, .int .i64 1, .slice a n c, .bool false, .int .i64 2, .int .i64 0, .slice a n c, .bool false] 37 (0, 0)) := by rw [hw12]; exact heap_alloc_new _ _
      have t12 : TV w w12 x y (g3 b) 3 (gy b) 1 w11.heap.size := ⟨(T11.out.1.own (Fr.of_below b12)).sub (fun k hk => by
        rcases hk with hk | hk
        · exact .inl (by have := GR0.out; have := HGR.out; omega)
        · exact .inr hk), T11.out.1.base.size⟩
      have T12 := hd (And.intro t12 (And.intro r12 (T11.out.2.below b12)))
      have HW12 := hd hw12
      clear t12 r12 b12 T11 hw12
      go_upto_region 21 with fail
      rw [← HW12.out]
      clear HW12
      generalize hgw : w11.heap.size = gw at *
      clear hgw
      go_wp2_with fail
      refine (tv_flight T12.out.1).mono ?_
      rintro e w13 ⟨E1, rfl, fe1, lo1, hi1, d1, t13, b13⟩
      obtain ⟨A1, C1, v1⟩ := Ent.v_of (w := w13) 3 d1 rfl
      rw [v1]
      have T13 := hd (And.intro t13 (And.intro ((b13.block gw (block_lt T12.out.2.1)).trans T12.out.2.1) (T12.out.2.2.below b13)))
      have Q1 := hd (And.intro v1 (And.intro d1 (And.intro fe1 (And.intro lo1 hi1))))
      have gwl : gw < w12.heap.size := block_lt T12.out.2.1
      have GW := hd gwl
      clear fe1 lo1 hi1 d1 t13 b13 v1 T12 gwl
      go_wp2_with fail
      refine (tv_flight T13.out.1).mono ?_
      rintro e w14 ⟨E2, rfl, fe2, lo2, hi2, d2, t14, b14⟩
      obtain ⟨A2, C2, v2⟩ := Ent.v_of (w := w14) 3 d2 rfl
      rw [v2]
      have r14 := (b14.block gw (block_lt T13.out.2.1)).trans T13.out.2.1
      have hb14 := T13.out.2.2.below b14
      have T14 := hd (And.intro t14 (And.intro r14 hb14))
      have Q2 := hd (And.intro v2 (And.intro d2 (And.intro fe2 (And.intro lo2 hi2))))
      have fe1' : FE w14 E1 := Q1.out.2.2.1.below b14
      have F1 := hd fe1'
      have S14 := hd b14.size
      have CF := hd (flights_true A1 (some ⟨gw, 0, none⟩) 3 C1 3 E1.L (wt a c b) w14 (fe1'.fg.isG2 Q1.out.1) (wt_isG r14 HL.out hb14) (Q1.out.2.1.trans rfl))
      clear fe2 lo2 hi2 d2 t14 b14 v2 T13 r14 hb14 fe1'
      go_wp2_with fail
      refine CF.out.mono ?_
      rintro e w15 ⟨rfl, b15⟩
      obtain ⟨g1, z0, z1, z2, hA1, hL1, l3⟩ := three_of (F1.out.below b15) Q1.out.1 Q1.out.2.1
      subst hA1
      have L15 := hd l3
      have T15 := hd (And.intro (T14.out.1.below b15) (And.intro ((b15.block gw (block_lt T14.out.2.1)).trans T14.out.2.1) (And.intro (T14.out.2.2.below b15) (Q2.out.2.2.1.below b15))))
      have S15 := hd (And.intro Q1.out.2.2.2 (And.intro Q2.out.2.2.2 (And.intro GW.out (And.intro b15.size S14.out))))
      clear b15 CF F1 T14 l3 hL1 S14 GW
      go_upto_block 2 with fail
      go_cut [] (fun wx => Hid (LK w15 wx g1 C1 n b z0 z1 z2 3))
      case rest =>
        have fy : FY w wc a n c b x y gw g1 C1 E1.hi z0 z1 z2 E2 A2 C2 := by
          have hs := hcut.out.fr
          have lo1 : E1.lo = w12.heap.size := S15.out.1.1
          have hi1 : E1.hi = w13.heap.size := S15.out.1.2
          have lo2 : E2.lo = w13.heap.size := S15.out.2.1.1
          have hi2 : E2.hi = w14.heap.size := S15.out.2.1.2
          have gwl : gw < w12.heap.size := S15.out.2.2.1
          have s15 : w14.heap.size ≤ w15.heap.size := S15.out.2.2.2.1
          have s14 : w13.heap.size ≤ w14.heap.size := S15.out.2.2.2.2
          have wz := hs.size
          have lmt := L15.out.at_
          have ba := L15.out.v0.2.2.2
          have bb := L15.out.v1.2.2.2
          have bc := L15.out.v2.2.2.2
          have q0 : ∀ q, z0.γ = some q → gw < q ∧ q < E1.hi := fun q e => ⟨by have := (ba q e).1; omega, (ba q e).2⟩
          have q1 : ∀ q, z1.γ = some q → gw < q ∧ q < E1.hi := fun q e => ⟨by have := (bb q e).1; omega, (bb q e).2⟩
          have q2 : ∀ q, z2.γ = some q → gw < q ∧ q < E1.hi := fun q e => ⟨by have := (bc q e).1; omega, (bc q e).2⟩
          have inS : ∀ q, (q = g1 ∨ z0.γ = some q ∨ z1.γ = some q ∨ z2.γ = some q) → gw < q ∧ q < E1.hi := by
            rintro q (h | h | h | h)
            · exact ⟨by omega, by omega⟩
            · exact q0 q h
            · exact q1 q h
            · exact q2 q h
          have h26 : E2.hi ≤ wc.heap.size := by omega
          refine ⟨T15.out.1.write (hs.mono (fun q _ h => Nat.le_of_lt (inS q h).1)), hs.keeps T15.out.2.1 (fun h => by have := inS _ h; omega), HY.out, T15.out.2.2.1.old HY.out hs (fun q h => by have := (inS q h).1; have := T15.out.1.2; omega), HL.out, hn, by simpa using hcut.out.row, by simpa using hcut.out.t0, by simpa using hcut.out.t1, by simpa using hcut.out.t2,
            ⟨L15.out.v0.1, L15.out.v0.2.2.1⟩, ⟨L15.out.v1.1, L15.out.v1.2.2.1⟩, ⟨L15.out.v2.1, L15.out.v2.2.2.1⟩, q0, q1, q2, ⟨by omega, lmt.2⟩, L15.out.s01, L15.out.s02, L15.out.s12, L15.out.n0, L15.out.n1, L15.out.n2, ?_, Q2.out.1, Q2.out.2.1, by omega, h26, by omega⟩
          have fe := T15.out.2.2.2
          exact FLk.fr fe hs (fun q h1 h2 h => by have := inS q h; omega)
        rename_i K0 hK0
        refine hK0 _ _ ?_
        exact fresh_31 w _ a n c b i x y gw g1 C1 E1.hi z0 z1 z2 E2 A2 C2 (hd fy) _ _ _ _ _ _ _ _ _ _ _ _ _ _ _ _ _ _ _ _ _ _ _ _ _ _ _ _ _ _ _ _ _ _ _ _ _ _ _ _ _ _ _ _ _ _ _ _ _ _ _ _ _ _ _ _ _ _ _ _ _ _ _ _ _ _ _ _ _ _ _ _ _ _ _ _ _ _ _ _ _ _ _ _ _ _ _ _ _ _ _ _ _ _ _ _ _ _ _ _ _ _ _ _ _ _ _ _ _ _ _ _ _ _ _ _ _ _ _ _ _ _ _ _ _ _ _ _ _ _ _ _ _ _ _ _ _ _ _ _ _ _ _ _ _ _ _ _ _ _ _ _ _ _ _ _ _ _ _ _ _ _ _ _ _ _ _ _ _ _ _ _ _ _ _ _ _ _ _ _ _ _ _ _ _ _ _ _ _ _ _ _ _ _ _ _ _ _ _ _ _ _ _ _ _ _ _ _ _ _ _ _ _ _ _ _ _ _ _ _ _ _ _ _ _ _ _ _ _ _ _ _ _ _ _ _ _ _ _ _ _ _ _ _ _ _ _ _ _ _ _ _ _ _ _ _ _ _ _ _ _ _ _ _ _ _ _ _ _ _ _ _ _ _ _ _ _ _ _ _ _ _ _ _ _ _ _ _ _ _ _ _ _ _ _ _ _ _ _ _ _ _ _ _ _ _ _ _ _ _ _ _ _ _ _ _ _ _ _ _ _ _ _ _ _ _ _ _ _ _
      go_wp2_with fail
      have M0 : Hid (LK w15 w15 g1 C1 n b z0 z1 z2 0) := hd ⟨by simpa using L15.out.row, by simpa using L15.out.v0.2.1, by simpa using L15.out.v1.2.1, by simpa using L15.out.v2.2.1, Fr.refl _ _⟩
      go_loopw [17] (fun v wr => ∃ k : Nat, k ≤ 3 ∧ v = .int .i64 k ∧ Hid (LK w15 wr g1 C1 n b z0 z1 z2 k)) (fun v _ => 3 - (intOf v).toNat)
      case atStart => exact ⟨0, Nat.zero_le _, rfl, M0⟩
      case round =>
        obtain ⟨k, hk, rfl, hq⟩ := hrel
        clear M0
        by_cases hlt : k < 3
        · have hk3 : k = 0 ∨ k = 1 ∨ k = 2 := by omega
          rcases hk3 with rfl | rfl | rfl
          · have c2 : wr.cell? ⟨g1, 2, none⟩ = some (.slice (at0 z0.γ) n z0.c) := by
              rw [hq.out.row.cell4 2 (by omega)]
              simp [cO, opc, L15.out.v0.1, L15.out.v0.2.2.1, HL.out]
            have lg := hq.out.row.lt
            have tk : TR wr z0.γ z0.c b := by simpa using hq.out.t0
            have hcp := tk.cap
            go_wp2_with fail
            refine (fill_any z0.γ n z0.c z0.c b 193 wr tk (by rw [HL.out]; exact Nat.le_refl _) (by rw [← HL.out]; exact hcp.1) hcp.2).mono ?_
            rintro e wf ⟨rfl, tf, ff⟩
            rw [List.drop_of_length_le (by rw [HL.out]; exact Nat.le_refl _), List.append_nil] at tf
            have rf : RowO wf g1 3 C1 [z0, z1, z2] := by simpa using hq.out.row.fr ff (fun e => L15.out.n0 e)
            have e0 : wf.cell? ⟨g1, 0, none⟩ = some (.int .i64 z0.d.f) := by rw [rf.cell4 0 (by omega)]; rfl
            have e3 : wf.cell? ⟨g1, 3, none⟩ = some (.bool z0.d.s) := by rw [rf.cell4 3 (by omega)]; rfl
            have f0 := rf.frz 0
            have f3 := rf.frz 3
            have lf := rf.lt
            have r1 : RowO (wf.setCell ⟨g1, 0, none⟩ (.int .i64 9)) g1 3 C1 [⟨⟨9, z0.d.t, z0.d.b, z0.d.s⟩, z0.a, z0.c, z0.γ⟩, z1, z2] := rf.set1 0 _ (by omega) rfl rfl
            have r2 : RowO ((wf.setCell ⟨g1, 0, none⟩ (.int .i64 9)).setCell ⟨g1, 3, none⟩ (.bool true)) g1 3 C1 [mkZ z0, z1, z2] := r1.set1 3 _ (by omega) rfl rfl
            have fs : Fr (fun q => q = g1) wf ((wf.setCell ⟨g1, 0, none⟩ (.int .i64 9)).setCell ⟨g1, 3, none⟩ (.bool true)) := Fr.trans (S := fun q => q = g1) (Fr.setCell (S := fun q => q = g1) wf _ _ rfl) (Fr.setCell (S := fun q => q = g1) _ _ _ rfl)
            have tS := tf.fr fs (fun q e e1 => L15.out.n0 (e1 ▸ e))
            have Z : Hid (LK w15 ((wf.setCell ⟨g1, 0, none⟩ (.int .i64 9)).setCell ⟨g1, 3, none⟩ (.bool true)) g1 C1 n b z0 z1 z2 1) := hd ⟨by simpa using r2, by simpa using tS, by simpa using ((hq.out.t1.fr ff (fun q e e1 => L15.out.s01 q e1 e)).fr fs (fun q e e1 => L15.out.n1 (e1 ▸ e))), by simpa using ((hq.out.t2.fr ff (fun q e e1 => L15.out.s02 q e1 e)).fr fs (fun q e e1 => L15.out.n2 (e1 ▸ e))), (hq.out.fr.trans (ff.mono (fun q _ e => .inr (.inl e)))).trans (fs.mono (fun q _ e => .inl e))⟩
            clear hq c2 tk hcp tf ff rf r1 r2 fs tS lg
            go_wp2_with fail
            exact ⟨⟨1, by omega, by go_num, Z⟩, by simp [intOf]⟩
          · have c2 : wr.cell? ⟨g1, 6, none⟩ = some (.slice (at0 z1.γ) n z1.c) := by
              rw [hq.out.row.cell4 6 (by omega)]
              simp [cO, opc, mkZ, L15.out.v1.1, L15.out.v1.2.2.1, HL.out]
            have lg := hq.out.row.lt
            have tk : TR wr z1.γ z1.c b := by simpa using hq.out.t1
            have hcp := tk.cap
            go_wp2_with fail
            refine (fill_any z1.γ n z1.c z1.c b 194 wr tk (by rw [HL.out]; exact Nat.le_refl _) (by rw [← HL.out]; exact hcp.1) hcp.2).mono ?_
            rintro e wf ⟨rfl, tf, ff⟩
            rw [List.drop_of_length_le (by rw [HL.out]; exact Nat.le_refl _), List.append_nil] at tf
            have rf : RowO wf g1 3 C1 [mkZ z0, z1, z2] := by simpa using hq.out.row.fr ff (fun e => L15.out.n1 e)
            have e0 : wf.cell? ⟨g1, 4, none⟩ = some (.int .i64 z1.d.f) := by rw [rf.cell4 4 (by omega)]; rfl
            have e3 : wf.cell? ⟨g1, 7, none⟩ = some (.bool z1.d.s) := by rw [rf.cell4 7 (by omega)]; rfl
            have f0 := rf.frz 4
            have f3 := rf.frz 7
            have lf := rf.lt
            have r1 : RowO (wf.setCell ⟨g1, 4, none⟩ (.int .i64 9)) g1 3 C1 [mkZ z0, ⟨⟨9, z1.d.t, z1.d.b, z1.d.s⟩, z1.a, z1.c, z1.γ⟩, z2] := rf.set1 4 _ (by omega) rfl rfl
            have r2 : RowO ((wf.setCell ⟨g1, 4, none⟩ (.int .i64 9)).setCell ⟨g1, 7, none⟩ (.bool true)) g1 3 C1 [mkZ z0, mkZ z1, z2] := r1.set1 7 _ (by omega) rfl rfl
            have fs : Fr (fun q => q = g1) wf ((wf.setCell ⟨g1, 4, none⟩ (.int .i64 9)).setCell ⟨g1, 7, none⟩ (.bool true)) := Fr.trans (S := fun q => q = g1) (Fr.setCell (S := fun q => q = g1) wf _ _ rfl) (Fr.setCell (S := fun q => q = g1) _ _ _ rfl)
            have tS := tf.fr fs (fun q e e1 => L15.out.n1 (e1 ▸ e))
            have Z : Hid (LK w15 ((wf.setCell ⟨g1, 4, none⟩ (.int .i64 9)).setCell ⟨g1, 7, none⟩ (.bool true)) g1 C1 n b z0 z1 z2 2) := hd ⟨by simpa using r2, by simpa using ((hq.out.t0.fr ff (fun q e e1 => L15.out.s01 q e e1)).fr fs (fun q e e1 => L15.out.n0 (e1 ▸ e))), by simpa using tS, by simpa using ((hq.out.t2.fr ff (fun q e e1 => L15.out.s12 q e1 e)).fr fs (fun q e e1 => L15.out.n2 (e1 ▸ e))), (hq.out.fr.trans (ff.mono (fun q _ e => .inr (.inr (.inl e))))).trans (fs.mono (fun q _ e => .inl e))⟩
            clear hq c2 tk hcp tf ff rf r1 r2 fs tS lg
            go_wp2_with fail
            exact ⟨⟨2, by omega, by go_num, Z⟩, by simp [intOf]⟩
          · have c2 : wr.cell? ⟨g1, 10, none⟩ = some (.slice (at0 z2.γ) n z2.c) := by
              rw [hq.out.row.cell4 10 (by omega)]
              simp [cO, opc, mkZ, L15.out.v2.1, L15.out.v2.2.2.1, HL.out]
            have lg := hq.out.row.lt
            have tk : TR wr z2.γ z2.c b := by simpa using hq.out.t2
            have hcp := tk.cap
            go_wp2_with fail
            refine (fill_any z2.γ n z2.c z2.c b 195 wr tk (by rw [HL.out]; exact Nat.le_refl _) (by rw [← HL.out]; exact hcp.1) hcp.2).mono ?_
            rintro e wf ⟨rfl, tf, ff⟩
            rw [List.drop_of_length_le (by rw [HL.out]; exact Nat.le_refl _), List.append_nil] at tf
            have rf : RowO wf g1 3 C1 [mkZ z0, mkZ z1, z2] := by simpa using hq.out.row.fr ff (fun e => L15.out.n2 e)
            have e0 : wf.cell? ⟨g1, 8, none⟩ = some (.int .i64 z2.d.f) := by rw [rf.cell4 8 (by omega)]; rfl
            have e3 : wf.cell? ⟨g1, 11, none⟩ = some (.bool z2.d.s) := by rw [rf.cell4 11 (by omega)]; rfl
            have f0 := rf.frz 8
            have f3 := rf.frz 11
            have lf := rf.lt
            have r1 : RowO (wf.setCell ⟨g1, 8, none⟩ (.int .i64 9)) g1 3 C1 [mkZ z0, mkZ z1, ⟨⟨9, z2.d.t, z2.d.b, z2.d.s⟩, z2.a, z2.c, z2.γ⟩] := rf.set1 8 _ (by omega) rfl rfl
            have r2 : RowO ((wf.setCell ⟨g1, 8, none⟩ (.int .i64 9)).setCell ⟨g1, 11, none⟩ (.bool true)) g1 3 C1 [mkZ z0, mkZ z1, mkZ z2] := r1.set1 11 _ (by omega) rfl rfl
            have fs : Fr (fun q => q = g1) wf ((wf.setCell ⟨g1, 8, none⟩ (.int .i64 9)).setCell ⟨g1, 11, none⟩ (.bool true)) := Fr.trans (S := fun q => q = g1) (Fr.setCell (S := fun q => q = g1) wf _ _ rfl) (Fr.setCell (S := fun q => q = g1) _ _ _ rfl)
            have tS := tf.fr fs (fun q e e1 => L15.out.n2 (e1 ▸ e))
            have Z : Hid (LK w15 ((wf.setCell ⟨g1, 8, none⟩ (.int .i64 9)).setCell ⟨g1, 11, none⟩ (.bool true)) g1 C1 n b z0 z1 z2 3) := hd ⟨by simpa using r2, by simpa using ((hq.out.t0.fr ff (fun q e e1 => L15.out.s02 q e e1)).fr fs (fun q e e1 => L15.out.n0 (e1 ▸ e))), by simpa using ((hq.out.t1.fr ff (fun q e e1 => L15.out.s12 q e e1)).fr fs (fun q e e1 => L15.out.n1 (e1 ▸ e))), by simpa using tS, (hq.out.fr.trans (ff.mono (fun q _ e => .inr (.inr (.inr e))))).trans (fs.mono (fun q _ e => .inl e))⟩
            clear hq c2 tk hcp tf ff rf r1 r2 fs tS lg
            go_wp2_with fail
            exact ⟨⟨3, by omega, by go_num, Z⟩, by simp [intOf]⟩
        · obtain rfl : k = 3 := by omega
          go_wp2_with fail
          go_meet
          exact hq

end Go.Proofs.Ytnglcnilckolkaa
