/-
  NetFresh: the walk from region 52 on.
-/
import Derived.Test.YtnglcnilckolkaaFrf
namespace Go.Proofs.Ytnglcnilckolkaa
open Go.RowKit
set_option linter.unusedVariables false
noncomputable def fresh52 : Code := (Try.f6.body.bind (restAt 52)).getD .skip

set_option maxRecDepth 100000 in
set_option maxHeartbeats 8000000 in
theorem fresh_52 (w u : World) (a : Option Addr) (n c : Nat) (b : List Int) (i : Int) (k3 gw g1 C1 : Nat) (A2 : Option Addr) (C2 go gp gq gv db : Nat) (s0 s1 s2 sd : Option Nat) (c0 c1 c2 cd gr3 C3 gz C4 co cp cv cq : Nat)
    (hz : Hid (FZ u a n c b k3 gw g1 A2 C2 go gp gq gv db s0 s1 s2 sd c0 c1 c2 cd gr3 C3 gz C4 ∧ Below w.heap.size w u)) (hn : n ≤ 60) (hbl : Hid (b.length = n)) (hk3 : Hid (k3 = intoP i 3)) (hcv : 4 ≤ cv) (hC1 : 3 ≤ C1) (u2 u3 u4 u5 u6 u7 u8 u9 u10 u11 u12 u13 u17 u22 u26 u27 u28 u29 u30 u31 u32 u33 u34 u35 u36 u37 u38 u39 u40 u41 u42 u43 u44 u45 u46 u47 u48 u49 u50 u51 u52 u53 u54 u55 u56 u57 u58 u59 u60 u61 u62 u63 u64 u65 u66 u67 u68 u69 u70 u71 u72 u73 u74 u75 u76 u77 u78 u79 u80 u81 u82 u83 u84 u85 u86 u87 u88 u89 u90 u91 u92 u93 u94 u95 u96 u97 u98 u99 u100 u101 u102 u103 u104 u105 u106 u107 u108 u109 u110 u111 u112 u113 u114 u115 u116 u117 u118 u119 u120 u121 u122 u123 u124 u125 u126 u127 u128 u129 u130 u131 u132 u133 u134 u135 u136 u137 u138 u139 u140 u141 u142 u143 u144 u145 u146 u147 u148 u149 u150 u151 u152 u153 u154 u155 u156 u157 u158 u159 u160 u161 u162 u163 u164 u165 u166 u167 u168 u169 u170 u171 u172 u173 u174 u175 u176 u177 u178 u179 u180 u181 u182 u183 u184 u185 u186 u187 u188 u189 u190 u191 u192 u193 u194 u195 u196 u197 u198 u199 u200 u201 u202 u203 u204 u205 u206 u207 u208 u209 u210 u211 u212 u213 u214 u215 u216 u217 u218 u219 u220 u221 u222 u223 u224 u225 u226 u227 u228 u229 u230 u231 u232 u233 u234 u235 u236 u237 u238 u239 u240 u241 u242 u243 u244 u245 u246 u247 u248 u249 u250 u251 u252 u253 u254 u255 u256 u257 u258 u259 u260 u261 u262 u263 u264 u265 u266 u267 u268 u269 u270 u271 u272 u273 u274 u275 u276 u277 u278 u279 u280 u281 u282 u283 u284 u285 u286 u287 u288 u289 u290 u291 u292 u293 u294 u295 u296 u297 u298 u299 u300 u301 u302 u303 u304 u305 u306 u307 u308 u309 u310 u311 u312 u313 u314 u315 u316 u317 u318 u319 u320 u321 u322 u323 u324 u325 u326 u327 u328 u329 u330 u331 u332 u333 u334 u335 u336 : Value) :
    Code.wp Try.prog fresh52 (bodyPost Try.prog Try.f6 fun e w' => e = .returned (.bool true) ∧ Below w.heap.size w w') ⟨#[.slice a n c, .int .i64 i, u2, u3, u4, u5, u6, u7, u8, u9, u10, u11, u12, u13, .slice (some ⟨gw, 0, none⟩) 3 3, .slice (some ⟨g1, 0, none⟩) 3 C1, .slice A2 3 C2, u17, .slice (some ⟨go, 0, none⟩) (n + 1) co, .slice (some ⟨gp, 0, none⟩) (n + 1) cp, .slice (some ⟨gv, 0, none⟩) 4 cv, .pointer (some ⟨db, 0, none⟩), u22, .slice (some ⟨gq, 0, none⟩) (n + 1) cq, .slice (some ⟨gr3, 0, none⟩) 2 C3, .slice (some ⟨gz, 0, none⟩) 1 C4, u26, u27, u28, u29, u30, u31, u32, u33, u34, u35, u36, u37, u38, u39, u40, u41, u42, u43, u44, u45, u46, u47, u48, u49, u50, u51, u52, u53, u54, u55, u56, u57, u58, u59, u60, u61, u62, u63, u64, u65, u66, u67, u68, u69, u70, u71, u72, u73, u74, u75, u76, u77, u78, u79, u80, u81, u82, u83, u84, u85, u86, u87, u88, u89, u90, u91, u92, u93, u94, u95, u96, u97, u98, u99, u100, u101, u102, u103, u104, u105, u106, u107, u108, u109, u110, u111, u112, u113, u114, u115, u116, u117, u118, u119, u120, u121, u122, u123, u124, u125, u126, u127, u128, u129, u130, u131, u132, u133, u134, u135, u136, u137, u138, u139, u140, u141, u142, u143, u144, u145, u146, u147, u148, u149, u150, u151, u152, u153, u154, u155, u156, u157, u158, u159, u160, u161, u162, u163, u164, u165, u166, u167, u168, u169, u170, u171, u172, u173, u174, u175, u176, u177, u178, u179, u180, u181, u182, u183, u184, u185, u186, u187, u188, u189, u190, u191, u192, u193, u194, u195, u196, u197, u198, u199, u200, u201, u202, u203, u204, u205, u206, u207, u208, u209, u210, u211, u212, u213, u214, u215, u216, u217, u218, u219, u220, u221, u222, u223, u224, u225, u226, u227, u228, u229, u230, u231, u232, u233, u234, u235, u236, u237, u238, u239, u240, u241, u242, u243, u244, u245, u246, u247, u248, u249, u250, u251, u252, u253, u254, u255, u256, u257, u258, u259, u260, u261, u262, u263, u264, u265, u266, u267, u268, u269, u270, u271, u272, u273, u274, u275, u276, u277, u278, u279, u280, u281, u282, u283, u284, u285, u286, u287, u288, u289, u290, u291, u292, u293, u294, u295, u296, u297, u298, u299, u300, u301, u302, u303, u304, u305, u306, u307, u308, u309, u310, u311, u312, u313, u314, u315, u316, u317, u318, u319, u320, u321, u322, u323, u324, u325, u326, u327, u328, u329, u330, u331, u332, u333, u334, u335, u336], []⟩ u := by
  conv => arg 2; whnf
  conv => arg 4; zeta
  go_upto_block 6 with fail
  go_cut [] (fun wx => Hid (FZ wx a n c b k3 gw g1 A2 C2 go gp gq gv db s0 s1 s2 sd c0 c1 c2 cd gr3 C3 gz C4 ∧ Below w.heap.size w wx))
  case first =>
    go_wp2_with fail
    go_loopw [28] (fun v wx => ∃ k : Nat, k ≤ 3 ∧ v = .int .i64 k ∧ Hid (FZ wx a n c b k3 gw g1 A2 C2 go gp gq gv db s0 s1 s2 sd c0 c1 c2 cd gr3 C3 gz C4 ∧ Below w.heap.size w wx)) (fun v _ => 3 - (intOf v).toNat)
    case atStart => exact ⟨0, Nat.zero_le _, rfl, hz⟩
    case round =>
      obtain ⟨k, hk, rfl, hq⟩ := hrel
      clear hz
      by_cases hlt : k < 3
      · have hk3 : k = 0 ∨ k = 1 ∨ k = 2 := by omega
        rcases hk3 with rfl | rfl | rfl
        · have e0 := hq.out.1.f0
          have e3 := hq.out.1.t0
          go_wp2_with fail
          exact ⟨⟨1, by omega, by go_num, hq⟩, by simp [intOf]⟩
        · have e0 := hq.out.1.f1
          have e3 := hq.out.1.t1
          go_wp2_with fail
          exact ⟨⟨2, by omega, by go_num, hq⟩, by simp [intOf]⟩
        · have e0 := hq.out.1.f2
          have e3 := hq.out.1.t2
          go_wp2_with fail
          exact ⟨⟨3, by omega, by go_num, hq⟩, by simp [intOf]⟩
      · obtain rfl : k = 3 := by omega
        go_wp2_with fail
        go_meet
        exact hq
  case rest =>
    rename_i K0 hK0
    refine hK0 _ _ ?_
    exact fresh_57 w _ a n c b i k3 gw g1 C1 A2 C2 go gp gq gv db s0 s1 s2 sd c0 c1 c2 cd gr3 C3 gz C4 co cp cv cq hcut hn hbl hk3 hcv hC1 _ _ _ _ _ _ _ _ _ _ _ _ _ _ _ _ _ _ _ _ _ _ _ _ _ _ _ _ _ _ _ _ _ _ _ _ _ _ _ _ _ _ _ _ _ _ _ _ _ _ _ _ _ _ _ _ _ _ _ _ _ _ _ _ _ _ _ _ _ _ _ _ _ _ _ _ _ _ _ _ _ _ _ _ _ _ _ _ _ _ _ _ _ _ _ _ _ _ _ _ _ _ _ _ _ _ _ _ _ _ _ _ _ _ _ _ _ _ _ _ _ _ _ _ _ _ _ _ _ _ _ _ _ _ _ _ _ _ _ _ _ _ _ _ _ _ _ _ _ _ _ _ _ _ _ _ _ _ _ _ _ _ _ _ _ _ _ _ _ _ _ _ _ _ _ _ _ _ _ _ _ _ _ _ _ _ _ _ _ _ _ _ _ _ _ _ _ _ _ _ _ _ _ _ _ _ _ _ _ _ _ _ _ _ _ _ _ _ _ _ _ _ _ _ _ _ _ _ _ _ _ _ _ _ _ _ _ _ _ _ _ _ _ _ _ _ _ _ _ _ _ _ _ _ _ _ _ _ _ _ _ _ _ _ _ _ _ _ _ _ _ _ _ _ _ _ _ _ _ _ _ _ _ _ _ _ _ _ _ _ _ _ _ _ _ _ _ _ _ _ _ _ _ _ _ _ _ _ _ _ _ _ _ _ _ _ _ _ _ _ _ _ _ _ _

end Go.Proofs.Ytnglcnilckolkaa
