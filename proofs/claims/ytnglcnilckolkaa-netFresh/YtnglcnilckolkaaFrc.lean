/-
  NetFresh: the walk from region 42 on.
-/
import Derived.Test.YtnglcnilckolkaaFrd
namespace Go.Proofs.Ytnglcnilckolkaa
open Go.RowKit
set_option linter.unusedVariables false

set_option maxRecDepth 100000 in
set_option maxHeartbeats 8000000 in
theorem fresh_42 (w u : World) (a : Option Addr) (n c : Nat) (b : List Int) (i : Int) (k3 gw g1 C1 : Nat) (A2 : Option Addr) (C2 go gp gq gv db : Nat) (s0 s1 s2 sd : Option Nat) (c0 c1 c2 cd gr3 C3 gz C4 co cp cv cq : Nat)
    (hz : Hid (FZ u a n c b k3 gw g1 A2 C2 go gp gq gv db s0 s1 s2 sd c0 c1 c2 cd gr3 C3 gz C4 ∧ Below w.heap.size w u)) (hn : n ≤ 60) (hbl : Hid (b.length = n)) (hk3 : Hid (k3 = intoP i 3)) (hcv : 4 ≤ cv) (hC1 : 3 ≤ C1) (u2 u3 u4 u5 u6 u7 u8 u9 u10 u11 u12 u13 u17 u22 u26 u27 u28 u29 u30 u31 u32 u33 u34 u35 u36 u37 u38 u39 u40 u41 u42 u43 u44 u45 u46 u47 u48 u49 u50 u51 u52 u53 u54 u55 u56 u57 u58 u59 u60 u61 u62 u63 u64 u65 u66 u67 u68 u69 u70 u71 u72 u73 u74 u75 u76 u77 u78 u79 u80 u81 u82 u83 u84 u85 u86 u87 u88 u89 u90 u91 u92 u93 u94 u95 u96 u97 u98 u99 u100 u101 u102 u103 u104 u105 u106 u107 u108 u109 u110 u111 u112 u113 u114 u115 u116 u117 u118 u119 u120 u121 u122 u123 u124 u125 u126 u127 u128 u129 u130 u131 u132 u133 u134 u135 u136 u137 u138 u139 u140 u141 u142 u143 u144 u145 u146 u147 u148 u149 u150 u151 u152 u153 u154 u155 u156 u157 u158 u159 u160 u161 u162 u163 u164 u165 u166 u167 u168 u169 u170 u171 u172 u173 u174 u175 u176 u177 u178 u179 u180 u181 u182 u183 u184 u185 u186 u187 u188 u189 u190 u191 u192 u193 u194 u195 u196 u197 u198 u199 u200 u201 u202 u203 u204 u205 u206 u207 u208 u209 u210 u211 u212 u213 u214 u215 u216 u217 u218 u219 u220 u221 u222 u223 u224 u225 u226 u227 u228 u229 u230 u231 u232 u233 u234 u235 u236 u237 u238 u239 u240 u241 u242 u243 u244 u245 u246 u247 u248 u249 u250 u251 u252 u253 u254 u255 u256 u257 u258 u259 u260 u261 u262 u263 u264 u265 u266 u267 u268 u269 u270 u271 u272 u273 u274 u275 u276 u277 u278 u279 u280 u281 u282 u283 u284 u285 u286 u287 u288 u289 u290 u291 u292 u293 u294 u295 u296 u297 u298 u299 u300 u301 u302 u303 u304 u305 u306 u307 u308 u309 u310 u311 u312 u313 u314 u315 u316 u317 u318 u319 u320 u321 u322 u323 u324 u325 u326 u327 u328 u329 u330 u331 u332 u333 u334 u335 u336 : Value) :
    Code.wp Try.prog fresh42 (bodyPost Try.prog Try.f6 fun e w' => e = .returned (.bool true) ∧ Below w.heap.size w w') ⟨#[.slice a n c, .int .i64 i, u2, u3, u4, u5, u6, u7, u8, u9, u10, u11, u12, u13, .slice (some ⟨gw, 0, none⟩) 3 3, .slice (some ⟨g1, 0, none⟩) 3 C1, .slice A2 3 C2, u17, .slice (some ⟨go, 0, none⟩) (n + 1) co, .slice (some ⟨gp, 0, none⟩) (n + 1) cp, .slice (some ⟨gv, 0, none⟩) 4 cv, .pointer (some ⟨db, 0, none⟩), u22, .slice (some ⟨gq, 0, none⟩) (n + 1) cq, .slice (some ⟨gr3, 0, none⟩) 2 C3, .slice (some ⟨gz, 0, none⟩) 1 C4, u26, u27, u28, u29, u30, u31, u32, u33, u34, u35, u36, u37, u38, u39, u40, u41, u42, u43, u44, u45, u46, u47, u48, u49, u50, u51, u52, u53, u54, u55, u56, u57, u58, u59, u60, u61, u62, u63, u64, u65, u66, u67, u68, u69, u70, u71, u72, u73, u74, u75, u76, u77, u78, u79, u80, u81, u82, u83, u84, u85, u86, u87, u88, u89, u90, u91, u92, u93, u94, u95, u96, u97, u98, u99, u100, u101, u102, u103, u104, u105, u106, u107, u108, u109, u110, u111, u112, u113, u114, u115, u116, u117, u118, u119, u120, u121, u122, u123, u124, u125, u126, u127, u128, u129, u130, u131, u132, u133, u134, u135, u136, u137, u138, u139, u140, u141, u142, u143, u144, u145, u146, u147, u148, u149, u150, u151, u152, u153, u154, u155, u156, u157, u158, u159, u160, u161, u162, u163, u164, u165, u166, u167, u168, u169, u170, u171, u172, u173, u174, u175, u176, u177, u178, u179, u180, u181, u182, u183, u184, u185, u186, u187, u188, u189, u190, u191, u192, u193, u194, u195, u196, u197, u198, u199, u200, u201, u202, u203, u204, u205, u206, u207, u208, u209, u210, u211, u212, u213, u214, u215, u216, u217, u218, u219, u220, u221, u222, u223, u224, u225, u226, u227, u228, u229, u230, u231, u232, u233, u234, u235, u236, u237, u238, u239, u240, u241, u242, u243, u244, u245, u246, u247, u248, u249, u250, u251, u252, u253, u254, u255, u256, u257, u258, u259, u260, u261, u262, u263, u264, u265, u266, u267, u268, u269, u270, u271, u272, u273, u274, u275, u276, u277, u278, u279, u280, u281, u282, u283, u284, u285, u286, u287, u288, u289, u290, u291, u292, u293, u294, u295, u296, u297, u298, u299, u300, u301, u302, u303, u304, u305, u306, u307, u308, u309, u310, u311, u312, u313, u314, u315, u316, u317, u318, u319, u320, u321, u322, u323, u324, u325, u326, u327, u328, u329, u330, u331, u332, u333, u334, u335, u336], []⟩ u := by
  conv => arg 2; whnf
  conv => arg 4; zeta
  have k3lt : k3 < 3 := by rw [hk3.out]; exact into_lt i
  go_upto_block 4 with fail
  go_cut [] (fun wx => Hid (FZ wx a n c b k3 gw g1 A2 C2 go gp gq gv db s0 s1 s2 sd c0 c1 c2 cd gr3 C3 gz C4 ∧ Below w.heap.size w wx))
  case first =>
    go_wp2_with fail
    go_loopw [26] (fun v wx => ∃ k : Nat, k ≤ 2 ∧ v = .int .i64 k ∧ Hid (FZ wx a n c b k3 gw g1 A2 C2 go gp gq gv db s0 s1 s2 sd c0 c1 c2 cd gr3 C3 gz C4 ∧ Below w.heap.size w wx)) (fun v _ => 2 - (intOf v).toNat)
    case atStart => exact ⟨0, Nat.zero_le _, rfl, hz⟩
    case round =>
      obtain ⟨k, hk, rfl, hq⟩ := hrel
      clear hz
      by_cases hlt : k < 2
      · have i1 : (k : Int) < 2 := by omega
        obtain ⟨L, hL, hLm⟩ := hq.out.1.rest
        obtain ⟨d, hd1, hd2, hdb⟩ := g3_rest b k3 k k3lt hlt
        obtain ⟨Ad, cdd, CD0⟩ := hL.cellsD k hlt (by rw [hLm]; exact hd1)
        have CI := hd (into_any i 3 wr (by omega) (by omega))
        rw [← hk3.out] at CI
        by_cases hge : k3 ≤ k
        · rw [if_pos hge] at hd2
          obtain ⟨Ae, ce, CE0⟩ := hq.out.1.wan.cellsD (k + 1) (by omega) hd2
          have CA := hd (alike_calls CD0.hb CE0.hb)
          have CD := hd CD0
          have CE := hd CE0
          clear hL hLm hd1 hd2 CD0 CE0
          have i2 : (k3 : Int) ≤ (k : Int) := by omega
          go_upto_region 46 with fail
          go_wp2_with fail
          refine CI.out.mono ?_
          rintro e w1 ⟨rfl, rfl⟩
          go_upto_region 48 with fail
          refine fresh_region48 _ _ gr3 C3 gw k (k + 1) d.f d.t Ad d.b.length cdd d.s d.f d.t Ae d.b.length ce d.s rfl rfl rfl rfl (by simp) hlt (by omega) CD.out.lt CE.out.lt CD.out.c0 CD.out.c1 CD.out.c2 CD.out.c3 CE.out.c0 CE.out.c1 CE.out.c2 CE.out.c3 CA.out ?_
          intro V u1 h14 bu
          have Z1 := hd (And.intro (hq.out.1.below bu) (hq.out.2.trans (bu.mono hq.out.2.size)))
          clear CD CE CA bu hq CI
          rename_i K0 hK0
          refine hK0 _ _ ?_
          simp only [List.range, List.range.loop, List.map_cons, List.map_nil, Nat.reduceAdd, puts, List.foldl_cons, List.foldl_nil, Act.put, List.setIfInBounds_toArray, List.set_cons_succ, List.set_cons_zero]
          clear hK0
          rw [h14]
          go_wp2_with fail
          exact ⟨⟨k + 1, by omega, by go_num, Z1⟩, by simp [intOf]; omega⟩
        · rw [if_neg hge] at hd2
          obtain ⟨Ae, ce, CE0⟩ := hq.out.1.wan.cellsD k (by omega) hd2
          have CA := hd (alike_calls CD0.hb CE0.hb)
          have CD := hd CD0
          have CE := hd CE0
          clear hL hLm hd1 hd2 CD0 CE0
          have i2 : ¬ (k3 : Int) ≤ (k : Int) := by omega
          go_upto_region 46 with fail
          go_wp2_with fail
          refine CI.out.mono ?_
          rintro e w1 ⟨rfl, rfl⟩
          go_upto_region 48 with fail
          refine fresh_region48 _ _ gr3 C3 gw k k d.f d.t Ad d.b.length cdd d.s d.f d.t Ae d.b.length ce d.s rfl rfl rfl rfl (by simp) hlt (by omega) CD.out.lt CE.out.lt CD.out.c0 CD.out.c1 CD.out.c2 CD.out.c3 CE.out.c0 CE.out.c1 CE.out.c2 CE.out.c3 CA.out ?_
          intro V u1 h14 bu
          have Z1 := hd (And.intro (hq.out.1.below bu) (hq.out.2.trans (bu.mono hq.out.2.size)))
          clear CD CE CA bu hq CI
          rename_i K0 hK0
          refine hK0 _ _ ?_
          simp only [List.range, List.range.loop, List.map_cons, List.map_nil, Nat.reduceAdd, puts, List.foldl_cons, List.foldl_nil, Act.put, List.setIfInBounds_toArray, List.set_cons_succ, List.set_cons_zero]
          clear hK0
          rw [h14]
          go_wp2_with fail
          exact ⟨⟨k + 1, by omega, by go_num, Z1⟩, by simp [intOf]; omega⟩
      · have i1 : ¬ (k : Int) < 2 := by omega
        obtain rfl : k = 2 := by omega
        go_wp2_with fail
        go_meet
        exact hq
  case rest =>
    rename_i K0 hK0
    refine hK0 _ _ ?_
    exact fresh_50 w _ a n c b i k3 gw g1 C1 A2 C2 go gp gq gv db s0 s1 s2 sd c0 c1 c2 cd gr3 C3 gz C4 co cp cv cq hcut hn hbl hk3 hcv hC1 _ _ _ _ _ _ _ _ _ _ _ _ _ _ _ _ _ _ _ _ _ _ _ _ _ _ _ _ _ _ _ _ _ _ _ _ _ _ _ _ _ _ _ _ _ _ _ _ _ _ _ _ _ _ _ _ _ _ _ _ _ _ _ _ _ _ _ _ _ _ _ _ _ _ _ _ _ _ _ _ _ _ _ _ _ _ _ _ _ _ _ _ _ _ _ _ _ _ _ _ _ _ _ _ _ _ _ _ _ _ _ _ _ _ _ _ _ _ _ _ _ _ _ _ _ _ _ _ _ _ _ _ _ _ _ _ _ _ _ _ _ _ _ _ _ _ _ _ _ _ _ _ _ _ _ _ _ _ _ _ _ _ _ _ _ _ _ _ _ _ _ _ _ _ _ _ _ _ _ _ _ _ _ _ _ _ _ _ _ _ _ _ _ _ _ _ _ _ _ _ _ _ _ _ _ _ _ _ _ _ _ _ _ _ _ _ _ _ _ _ _ _ _ _ _ _ _ _ _ _ _ _ _ _ _ _ _ _ _ _ _ _ _ _ _ _ _ _ _ _ _ _ _ _ _ _ _ _ _ _ _ _ _ _ _ _ _ _ _ _ _ _ _ _ _ _ _ _ _ _ _ _ _ _ _ _ _ _ _ _ _ _ _ _ _ _ _ _ _ _ _ _ _ _ _ _ _ _ _ _ _ _ _ _ _ _ _ _ _ _ _ _ _ _ _

end Go.Proofs.Ytnglcnilckolkaa
