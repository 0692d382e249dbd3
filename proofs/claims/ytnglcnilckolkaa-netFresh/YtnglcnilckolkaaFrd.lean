/-
  NetFresh: the walk from region 50 on.
-/
import Derived.Test.YtnglcnilckolkaaFre
namespace Go.Proofs.Ytnglcnilckolkaa
open Go.RowKit
set_option linter.unusedVariables false
noncomputable def fresh50 : Code := (Try.f6.body.bind (restAt 50)).getD .skip

set_option maxRecDepth 100000 in
set_option maxHeartbeats 8000000 in
theorem fresh_50 (w u : World) (a : Option Addr) (n c : Nat) (b : List Int) (i : Int) (k3 gw g1 C1 : Nat) (A2 : Option Addr) (C2 go gp gq gv db : Nat) (s0 s1 s2 sd : Option Nat) (c0 c1 c2 cd gr3 C3 gz C4 co cp cv cq : Nat)
    (hz : Hid (FZ u a n c b k3 gw g1 A2 C2 go gp gq gv db s0 s1 s2 sd c0 c1 c2 cd gr3 C3 gz C4 ∧ Below w.heap.size w u)) (hn : n ≤ 60) (hbl : Hid (b.length = n)) (hk3 : Hid (k3 = intoP i 3)) (hcv : 4 ≤ cv) (hC1 : 3 ≤ C1) (u2 u3 u4 u5 u6 u7 u8 u9 u10 u11 u12 u13 u17 u22 u26 u27 u28 u29 u30 u31 u32 u33 u34 u35 u36 u37 u38 u39 u40 u41 u42 u43 u44 u45 u46 u47 u48 u49 u50 u51 u52 u53 u54 u55 u56 u57 u58 u59 u60 u61 u62 u63 u64 u65 u66 u67 u68 u69 u70 u71 u72 u73 u74 u75 u76 u77 u78 u79 u80 u81 u82 u83 u84 u85 u86 u87 u88 u89 u90 u91 u92 u93 u94 u95 u96 u97 u98 u99 u100 u101 u102 u103 u104 u105 u106 u107 u108 u109 u110 u111 u112 u113 u114 u115 u116 u117 u118 u119 u120 u121 u122 u123 u124 u125 u126 u127 u128 u129 u130 u131 u132 u133 u134 u135 u136 u137 u138 u139 u140 u141 u142 u143 u144 u145 u146 u147 u148 u149 u150 u151 u152 u153 u154 u155 u156 u157 u158 u159 u160 u161 u162 u163 u164 u165 u166 u167 u168 u169 u170 u171 u172 u173 u174 u175 u176 u177 u178 u179 u180 u181 u182 u183 u184 u185 u186 u187 u188 u189 u190 u191 u192 u193 u194 u195 u196 u197 u198 u199 u200 u201 u202 u203 u204 u205 u206 u207 u208 u209 u210 u211 u212 u213 u214 u215 u216 u217 u218 u219 u220 u221 u222 u223 u224 u225 u226 u227 u228 u229 u230 u231 u232 u233 u234 u235 u236 u237 u238 u239 u240 u241 u242 u243 u244 u245 u246 u247 u248 u249 u250 u251 u252 u253 u254 u255 u256 u257 u258 u259 u260 u261 u262 u263 u264 u265 u266 u267 u268 u269 u270 u271 u272 u273 u274 u275 u276 u277 u278 u279 u280 u281 u282 u283 u284 u285 u286 u287 u288 u289 u290 u291 u292 u293 u294 u295 u296 u297 u298 u299 u300 u301 u302 u303 u304 u305 u306 u307 u308 u309 u310 u311 u312 u313 u314 u315 u316 u317 u318 u319 u320 u321 u322 u323 u324 u325 u326 u327 u328 u329 u330 u331 u332 u333 u334 u335 u336 : Value) :
    Code.wp Try.prog fresh50 (bodyPost Try.prog Try.f6 fun e w' => e = .returned (.bool true) ∧ Below w.heap.size w w') ⟨#[.slice a n c, .int .i64 i, u2, u3, u4, u5, u6, u7, u8, u9, u10, u11, u12, u13, .slice (some ⟨gw, 0, none⟩) 3 3, .slice (some ⟨g1, 0, none⟩) 3 C1, .slice A2 3 C2, u17, .slice (some ⟨go, 0, none⟩) (n + 1) co, .slice (some ⟨gp, 0, none⟩) (n + 1) cp, .slice (some ⟨gv, 0, none⟩) 4 cv, .pointer (some ⟨db, 0, none⟩), u22, .slice (some ⟨gq, 0, none⟩) (n + 1) cq, .slice (some ⟨gr3, 0, none⟩) 2 C3, .slice (some ⟨gz, 0, none⟩) 1 C4, u26, u27, u28, u29, u30, u31, u32, u33, u34, u35, u36, u37, u38, u39, u40, u41, u42, u43, u44, u45, u46, u47, u48, u49, u50, u51, u52, u53, u54, u55, u56, u57, u58, u59, u60, u61, u62, u63, u64, u65, u66, u67, u68, u69, u70, u71, u72, u73, u74, u75, u76, u77, u78, u79, u80, u81, u82, u83, u84, u85, u86, u87, u88, u89, u90, u91, u92, u93, u94, u95, u96, u97, u98, u99, u100, u101, u102, u103, u104, u105, u106, u107, u108, u109, u110, u111, u112, u113, u114, u115, u116, u117, u118, u119, u120, u121, u122, u123, u124, u125, u126, u127, u128, u129, u130, u131, u132, u133, u134, u135, u136, u137, u138, u139, u140, u141, u142, u143, u144, u145, u146, u147, u148, u149, u150, u151, u152, u153, u154, u155, u156, u157, u158, u159, u160, u161, u162, u163, u164, u165, u166, u167, u168, u169, u170, u171, u172, u173, u174, u175, u176, u177, u178, u179, u180, u181, u182, u183, u184, u185, u186, u187, u188, u189, u190, u191, u192, u193, u194, u195, u196, u197, u198, u199, u200, u201, u202, u203, u204, u205, u206, u207, u208, u209, u210, u211, u212, u213, u214, u215, u216, u217, u218, u219, u220, u221, u222, u223, u224, u225, u226, u227, u228, u229, u230, u231, u232, u233, u234, u235, u236, u237, u238, u239, u240, u241, u242, u243, u244, u245, u246, u247, u248, u249, u250, u251, u252, u253, u254, u255, u256, u257, u258, u259, u260, u261, u262, u263, u264, u265, u266, u267, u268, u269, u270, u271, u272, u273, u274, u275, u276, u277, u278, u279, u280, u281, u282, u283, u284, u285, u286, u287, u288, u289, u290, u291, u292, u293, u294, u295, u296, u297, u298, u299, u300, u301, u302, u303, u304, u305, u306, u307, u308, u309, u310, u311, u312, u313, u314, u315, u316, u317, u318, u319, u320, u321, u322, u323, u324, u325, u326, u327, u328, u329, u330, u331, u332, u333, u334, u335, u336], []⟩ u := by
  conv => arg 2; whnf
  conv => arg 4; zeta
  obtain ⟨Lz, hLz, hzm⟩ := hz.out.1.zed
  obtain ⟨Az, cz, CZ0⟩ := hLz.cellsD 0 (by omega) (d := ⟨2, 0, b, false⟩) (by rw [hzm]; rfl)
  have y2 : u.cell? ⟨gz, 0 + 2, none⟩ = some (.slice Az n cz) := by rw [← hbl.out]; exact CZ0.c2
  have ca : ∀ U, Below u.heap.size u U → Calls Try.prog 18 #[.agg #[.int .i64 2, .int .i64 0, .slice Az n cz, .bool false], .agg #[.int .i64 2, .int .i64 0, .slice a n c, .bool false]] U fun e w' => e = .returned (.bool true) ∧ Below u.heap.size u w' := by
    have hb' := CZ0.hb
    have hb2 := hz.out.1.hb
    rw [← hbl.out] at hb2 ⊢
    exact alike_calls (d := ⟨2, 0, b, false⟩) hb' hb2
  obtain ⟨Lu, hLu, hum⟩ := hz.out.1.uu
  have CA := hd ca
  have CF : Hid (∀ U, Below u.heap.size u U → Calls Try.prog 20 #[.slice A2 3 C2, .slice (some ⟨gw, 0, none⟩) 3 3] U fun e w' => e = .returned (.bool true) ∧ Below u.heap.size u w') := hd (fun U hU => (flights_true A2 (some ⟨gw, 0, none⟩) 3 C2 3 Lu (wt a c b) U (hLu.below hU) (hz.out.1.wan.below hU) (hum.trans rfl)).mono (fun e w' h => ⟨h.1, hU.trans (h.2.mono hU.size)⟩))
  have C0 := hd CZ0
  have Y2 := hd y2
  clear hLz hzm CZ0 ca hLu hum y2
  go_upto_region 50 with fail
  refine fresh_region50 _ _ gz C4 gv cv gw A2 C2 a n c 2 0 Az n cz false rfl rfl rfl rfl rfl (by simp) C0.out.lt hz.out.1.lv C0.out.c0 C0.out.c1 Y2.out C0.out.c3 hz.out.1.vv CA.out CF.out ?_
  intro V u1 h24 bu
  have Z2 := hd (And.intro (hz.out.1.below bu) (hz.out.2.trans (bu.mono hz.out.2.size)))
  clear C0 Y2 CA CF bu hz
  rename_i K0 hK0
  refine hK0 _ _ ?_
  simp only [List.range, List.range.loop, List.map_cons, List.map_nil, Nat.reduceAdd, puts, List.foldl_cons, List.foldl_nil, Act.put, List.setIfInBounds_toArray, List.set_cons_succ, List.set_cons_zero]
  clear hK0
  rw [h24]
  go_upto_if 254 with fail
  go_cut [] (fun wx => Hid (FZ wx a n c b k3 gw g1 A2 C2 go gp gq gv db s0 s1 s2 sd c0 c1 c2 cd gr3 C3 gz C4 ∧ Below w.heap.size w wx))
  case first =>
    go_wp2_with fail
    go_meet
    exact Z2
  case rest =>
    rename_i K0 hK0
    refine hK0 _ _ ?_
    exact fresh_52 w _ a n c b i k3 gw g1 C1 A2 C2 go gp gq gv db s0 s1 s2 sd c0 c1 c2 cd gr3 C3 gz C4 co cp cv cq hcut hn hbl hk3 hcv hC1 _ _ _ _ _ _ _ _ _ _ _ _ _ _ _ _ _ _ _ _ _ _ _ _ _ _ _ _ _ _ _ _ _ _ _ _ _ _ _ _ _ _ _ _ _ _ _ _ _ _ _ _ _ _ _ _ _ _ _ _ _ _ _ _ _ _ _ _ _ _ _ _ _ _ _ _ _ _ _ _ _ _ _ _ _ _ _ _ _ _ _ _ _ _ _ _ _ _ _ _ _ _ _ _ _ _ _ _ _ _ _ _ _ _ _ _ _ _ _ _ _ _ _ _ _ _ _ _ _ _ _ _ _ _ _ _ _ _ _ _ _ _ _ _ _ _ _ _ _ _ _ _ _ _ _ _ _ _ _ _ _ _ _ _ _ _ _ _ _ _ _ _ _ _ _ _ _ _ _ _ _ _ _ _ _ _ _ _ _ _ _ _ _ _ _ _ _ _ _ _ _ _ _ _ _ _ _ _ _ _ _ _ _ _ _ _ _ _ _ _ _ _ _ _ _ _ _ _ _ _ _ _ _ _ _ _ _ _ _ _ _ _ _ _ _ _ _ _ _ _ _ _ _ _ _ _ _ _ _ _ _ _ _ _ _ _ _ _ _ _ _ _ _ _ _ _ _ _ _ _ _ _ _ _ _ _ _ _ _ _ _ _ _ _ _ _ _ _ _ _ _ _ _ _ _ _ _ _ _ _ _ _ _ _ _ _ _ _ _ _ _ _ _ _ _

end Go.Proofs.Ytnglcnilckolkaa
