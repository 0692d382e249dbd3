/-
  OtOwn: its last part.
-/
import Derived.Test.YtmkgkgdngjmcmabDoorOk
import Derived.Deep.DeepCutAuto
namespace Go.Proofs.YtmkgkgdngjmcmabDoor
open Go.RowKit Go.Lib
set_option linter.unusedVariables false

/-- The number of the first region. -/
def regOf : Code → Option Nat
  | .region n _ _ => some n
  | .seq a _ => regOf a
  | _ => none
/-- The rest of a sequence, from the region on. -/
def restAt (n : Nat) : Code → Option Code
  | .seq a b => if regOf a = some n then some (.seq a b) else restAt n b
  | _ => none

noncomputable def own_last_code : Code := (Tryd.f3.body.bind (restAt 33)).getD .skip
set_option maxRecDepth 100000 in
set_option maxHeartbeats 8000000 in
theorem own_last (W w0 w1 : World) (a b : Option Addr) (n c m d : Nat) (A B : List OpE) (hW : Below W.heap.size W w0) (hT : Table w0) (hA : IsO w0 a n c A) (hB : IsO w0 b m d B) (hn : n ≤ 4096) (hm : m ≤ 4096) (k p ch cl sq : Int) (b1 b10 b2 b3 b4 b5 b6 b7 b8 b9 e1 e10 e2 e3 e4 e5 e6 e7 e8 e9 : Nat) (h : St w0 w1 [(b1, m, e1, (weaveP A B).2), (b2, n, e2, (weaveP A B).1), (b3, n, e3, (throughP ⟨k, p, ch, cl, sq⟩ A true).2), (b4, m + 1, e4, fillP m 107), (b5, n + 1, e5, fillP n 106), (b6, m + 1, e6, fillP m 105), (b7, n + 1, e7, fillP n 104), (b8, n + 1, e8, fillP n 103), (b9, m + 1, e9, fillP m 102), (b10, n + 1, e10, fillP n 101)]) (u0 u3 u4 u5 u6 u7 u8 u9 u10 u11 u12 u13 u14 u15 u16 u17 u18 u19 u20 u21 u31 u32 u33 u34 u35 u36 u37 u38 u39 u40 u41 u42 u43 u44 u45 u46 u47 u48 u49 u50 u51 u52 u53 u54 u55 u56 u57 u58 u59 u60 u61 u62 u63 u64 u65 u66 u67 u68 u69 u70 u71 u72 u73 u74 u75 u76 u77 u78 u79 u80 u81 u82 u83 u84 u85 u86 u87 u88 u89 u90 u91 u92 u93 u94 u95 u96 u97 u98 u99 u100 u101 u102 u103 u104 u105 u106 u107 u108 u109 u110 u111 u112 u113 u114 u115 u116 u117 u118 u119 u120 u121 u122 u123 u124 u125 u126 u127 u128 u129 u130 u131 u132 u133 u134 u135 u136 u137 u138 u139 u140 u141 u142 u143 u144 u145 u146 u147 u148 u149 u150 u151 u152 u153 u154 u155 u156 u157 u158 u159 u160 u161 u162 u163 u164 u165 u166 u167 u168 u169 u170 u171 u172 u173 u174 u175 u176 u177 u178 u179 u180 u181 u182 u183 u184 u185 u186 u187 u188 u189 u190 u191 u192 u193 u194 u195 u196 u197 u198 u199 u200 u201 u202 u203 u204 u205 u206 u207 u208 u209 u210 u211 u212 u213 u214 u215 u216 u217 u218 u219 u220 u221 u222 u223 u224 u225 u226 u227 u228 u229 u230 u231 u232 u233 u234 u235 u236 u237 u238 u239 u240 u241 u242 u243 u244 u245 u246 u247 u248 u249 u250 u251 u252 u253 u254 u255 u256 u257 u258 u259 u260 u261 u262 u263 u264 u265 u266 u267 u268 u269 u270 u271 u272 u273 u274 u275 u276 u277 u278 u279 u280 u281 u282 u283 u284 : Value) :
    Code.wp Tryd.prog own_last_code (bodyPost Tryd.prog Tryd.f3 fun e w' => e = .returned (.bool true) ∧ Below W.heap.size W w') ⟨#[u0, .slice a n c, .slice b m d, u3, u4, u5, u6, u7, u8, u9, u10, u11, u12, u13, u14, u15, u16, u17, u18, u19, u20, u21, .slice (some ⟨b2, 0, none⟩) (n) e2, .slice (some ⟨b1, 0, none⟩) (m) e1, .slice (some ⟨b10, 0, none⟩) (n + 1) e10, .slice (some ⟨b9, 0, none⟩) (m + 1) e9, .slice (some ⟨b8, 0, none⟩) (n + 1) e8, .slice (some ⟨b7, 0, none⟩) (n + 1) e7, .slice (some ⟨b6, 0, none⟩) (m + 1) e6, .slice (some ⟨b5, 0, none⟩) (n + 1) e5, .slice (some ⟨b4, 0, none⟩) (m + 1) e4, u31, u32, u33, u34, u35, u36, u37, u38, u39, u40, u41, u42, u43, u44, u45, u46, u47, u48, u49, u50, u51, u52, u53, u54, u55, u56, u57, u58, u59, u60, u61, u62, u63, u64, u65, u66, u67, u68, u69, u70, u71, u72, u73, u74, u75, u76, u77, u78, u79, u80, u81, u82, u83, u84, u85, u86, u87, u88, u89, u90, u91, u92, u93, u94, u95, u96, u97, u98, u99, u100, u101, u102, u103, u104, u105, u106, u107, u108, u109, u110, u111, u112, u113, u114, u115, u116, u117, u118, u119, u120, u121, u122, u123, u124, u125, u126, u127, u128, u129, u130, u131, u132, u133, u134, u135, u136, u137, u138, u139, u140, u141, u142, u143, u144, u145, u146, u147, u148, u149, u150, u151, u152, u153, u154, u155, u156, u157, u158, u159, u160, u161, u162, u163, u164, u165, u166, u167, u168, u169, u170, u171, u172, u173, u174, u175, u176, u177, u178, u179, u180, u181, u182, u183, u184, u185, u186, u187, u188, u189, u190, u191, u192, u193, u194, u195, u196, u197, u198, u199, u200, u201, u202, u203, u204, u205, u206, u207, u208, u209, u210, u211, u212, u213, u214, u215, u216, u217, u218, u219, u220, u221, u222, u223, u224, u225, u226, u227, u228, u229, u230, u231, u232, u233, u234, u235, u236, u237, u238, u239, u240, u241, u242, u243, u244, u245, u246, u247, u248, u249, u250, u251, u252, u253, u254, u255, u256, u257, u258, u259, u260, u261, u262, u263, u264, u265, u266, u267, u268, u269, u270, u271, u272, u273, u274, u275, u276, u277, u278, u279, u280, u281, u282, u283, u284], []⟩ w1 := by
  have HW := hd hW
  have HT := hd hT
  have HA := hd hA
  have HB := hd hB
  have H1 : Hid (St w0 w1 [(b1, m, e1, (weaveP A B).2), (b2, n, e2, (weaveP A B).1), (b3, n, e3, (throughP ⟨k, p, ch, cl, sq⟩ A true).2), (b4, m + 1, e4, fillP m 107), (b5, n + 1, e5, fillP n 106), (b6, m + 1, e6, fillP m 105), (b7, n + 1, e7, fillP n 104), (b8, n + 1, e8, fillP n 103), (b9, m + 1, e9, fillP m 102), (b10, n + 1, e10, fillP n 101)]) := h
  clear hW hT hA hB h
  conv => arg 2; whnf
  go_wp2_with fail
  refine (c_copy H1.out (HA.out.below H1.out.bel) (by omega)).mono ?_
  rintro e w2 ⟨g2, c2, rfl, H2⟩
  replace H2 : Hid (St w0 w2 [(g2, n, c2, A), (b1, m, e1, (weaveP A B).2), (b2, n, e2, (weaveP A B).1), (b3, n, e3, (throughP ⟨k, p, ch, cl, sq⟩ A true).2), (b4, m + 1, e4, fillP m 107), (b5, n + 1, e5, fillP n 106), (b6, m + 1, e6, fillP m 105), (b7, n + 1, e7, fillP n 104), (b8, n + 1, e8, fillP n 103), (b9, m + 1, e9, fillP m 102), (b10, n + 1, e10, fillP n 101)]) := H2
  clear H1
  go_wp2_with fail
  refine (c_copy H2.out (HB.out.below H2.out.bel) (by omega)).mono ?_
  rintro e w3 ⟨g3, c3, rfl, H3⟩
  replace H3 : Hid (St w0 w3 [(g3, m, c3, B), (g2, n, c2, A), (b1, m, e1, (weaveP A B).2), (b2, n, e2, (weaveP A B).1), (b3, n, e3, (throughP ⟨k, p, ch, cl, sq⟩ A true).2), (b4, m + 1, e4, fillP m 107), (b5, n + 1, e5, fillP n 106), (b6, m + 1, e6, fillP m 105), (b7, n + 1, e7, fillP n 104), (b8, n + 1, e8, fillP n 103), (b9, m + 1, e9, fillP m 102), (b10, n + 1, e10, fillP n 101)]) := H3
  clear H2
  go_wp2_with fail
  refine (c_weave H3.out HT.out (H3.out.isO (.tail _ (.head _))) (H3.out.isO (.head _)) (by omega) (by omega)).mono ?_
  rintro e w4 ⟨g4, q4, c4, d4, rfl, H4⟩
  replace H4 : Hid (St w0 w4 [(q4, m, d4, (weaveP A B).2), (g4, n, c4, (weaveP A B).1), (g3, m, c3, B), (g2, n, c2, A), (b1, m, e1, (weaveP A B).2), (b2, n, e2, (weaveP A B).1), (b3, n, e3, (throughP ⟨k, p, ch, cl, sq⟩ A true).2), (b4, m + 1, e4, fillP m 107), (b5, n + 1, e5, fillP n 106), (b6, m + 1, e6, fillP m 105), (b7, n + 1, e7, fillP n 104), (b8, n + 1, e8, fillP n 103), (b9, m + 1, e9, fillP m 102), (b10, n + 1, e10, fillP n 101)]) := H4
  clear H3
  go_wp2_with fail
  refine (num_any 0 _).mono ?_
  rintro e u ⟨rfl, rfl⟩
  go_wp2_with fail
  refine (c_same H4.out (H4.out.isO (.tail _ (.head _))) (H4.out.isO (.tail _ (.tail _ (.tail _ (.tail _ (.tail _ (.head _))))))) rfl).mono ?_
  rintro e w5 ⟨rfl, H5⟩
  clear H4
  go_wp2_with fail
  refine (c_same H5.out (H5.out.isO (.head _)) (H5.out.isO (.tail _ (.tail _ (.tail _ (.tail _ (.head _)))))) rfl).mono ?_
  rintro e w6 ⟨rfl, H6⟩
  clear H5
  go_wp2_with fail
  refine (c_copy H6.out (HA.out.below H6.out.bel) (by omega)).mono ?_
  rintro e w7 ⟨g7, c7, rfl, H7⟩
  replace H7 : Hid (St w0 w7 [(g7, n, c7, A), (q4, m, d4, (weaveP A B).2), (g4, n, c4, (weaveP A B).1), (g3, m, c3, B), (g2, n, c2, A), (b1, m, e1, (weaveP A B).2), (b2, n, e2, (weaveP A B).1), (b3, n, e3, (throughP ⟨k, p, ch, cl, sq⟩ A true).2), (b4, m + 1, e4, fillP m 107), (b5, n + 1, e5, fillP n 106), (b6, m + 1, e6, fillP m 105), (b7, n + 1, e7, fillP n 104), (b8, n + 1, e8, fillP n 103), (b9, m + 1, e9, fillP m 102), (b10, n + 1, e10, fillP n 101)]) := H7
  clear H6
  go_wp2_with fail
  refine (c_fill (l1 := []) H7.out 106 (by omega)).mono ?_
  rintro e w8 ⟨g8, c8, rfl, H8⟩
  replace H8 : Hid (St w0 w8 [(g8, n + 1, c8, fillP n 106), (q4, m, d4, (weaveP A B).2), (g4, n, c4, (weaveP A B).1), (g3, m, c3, B), (g2, n, c2, A), (b1, m, e1, (weaveP A B).2), (b2, n, e2, (weaveP A B).1), (b3, n, e3, (throughP ⟨k, p, ch, cl, sq⟩ A true).2), (b4, m + 1, e4, fillP m 107), (b5, n + 1, e5, fillP n 106), (b6, m + 1, e6, fillP m 105), (b7, n + 1, e7, fillP n 104), (b8, n + 1, e8, fillP n 103), (b9, m + 1, e9, fillP m 102), (b10, n + 1, e10, fillP n 101)]) := H8
  clear H7
  go_wp2_with fail
  refine (c_same H8.out (H8.out.isO (.tail _ (.tail _ (.tail _ (.tail _ (.tail _ (.tail _ (.tail _ (.tail _ (.tail _ (.head _))))))))))) (H8.out.isO (.head _)) rfl).mono ?_
  rintro e w9 ⟨rfl, H9⟩
  clear H8
  go_wp2_with fail
  refine (c_copy H9.out (HB.out.below H9.out.bel) (by omega)).mono ?_
  rintro e w10 ⟨g10, c10, rfl, H10⟩
  replace H10 : Hid (St w0 w10 [(g10, m, c10, B), (g8, n + 1, c8, fillP n 106), (q4, m, d4, (weaveP A B).2), (g4, n, c4, (weaveP A B).1), (g3, m, c3, B), (g2, n, c2, A), (b1, m, e1, (weaveP A B).2), (b2, n, e2, (weaveP A B).1), (b3, n, e3, (throughP ⟨k, p, ch, cl, sq⟩ A true).2), (b4, m + 1, e4, fillP m 107), (b5, n + 1, e5, fillP n 106), (b6, m + 1, e6, fillP m 105), (b7, n + 1, e7, fillP n 104), (b8, n + 1, e8, fillP n 103), (b9, m + 1, e9, fillP m 102), (b10, n + 1, e10, fillP n 101)]) := H10
  clear H9
  go_wp2_with fail
  refine (c_fill (l1 := []) H10.out 107 (by omega)).mono ?_
  rintro e w11 ⟨g11, c11, rfl, H11⟩
  replace H11 : Hid (St w0 w11 [(g11, m + 1, c11, fillP m 107), (g8, n + 1, c8, fillP n 106), (q4, m, d4, (weaveP A B).2), (g4, n, c4, (weaveP A B).1), (g3, m, c3, B), (g2, n, c2, A), (b1, m, e1, (weaveP A B).2), (b2, n, e2, (weaveP A B).1), (b3, n, e3, (throughP ⟨k, p, ch, cl, sq⟩ A true).2), (b4, m + 1, e4, fillP m 107), (b5, n + 1, e5, fillP n 106), (b6, m + 1, e6, fillP m 105), (b7, n + 1, e7, fillP n 104), (b8, n + 1, e8, fillP n 103), (b9, m + 1, e9, fillP m 102), (b10, n + 1, e10, fillP n 101)]) := H11
  clear H10
  go_wp2_with fail
  refine (c_same H11.out (H11.out.isO (.tail _ (.tail _ (.tail _ (.tail _ (.tail _ (.tail _ (.tail _ (.tail _ (.tail _ (.head _))))))))))) (H11.out.isO (.head _)) rfl).mono ?_
  rintro e w12 ⟨rfl, H12⟩
  clear H11
  go_wp2_with fail
  refine (c_copy H12.out (HA.out.below H12.out.bel) (by omega)).mono ?_
  rintro e w13 ⟨g13, c13, rfl, H13⟩
  replace H13 : Hid (St w0 w13 [(g13, n, c13, A), (g11, m + 1, c11, fillP m 107), (g8, n + 1, c8, fillP n 106), (q4, m, d4, (weaveP A B).2), (g4, n, c4, (weaveP A B).1), (g3, m, c3, B), (g2, n, c2, A), (b1, m, e1, (weaveP A B).2), (b2, n, e2, (weaveP A B).1), (b3, n, e3, (throughP ⟨k, p, ch, cl, sq⟩ A true).2), (b4, m + 1, e4, fillP m 107), (b5, n + 1, e5, fillP n 106), (b6, m + 1, e6, fillP m 105), (b7, n + 1, e7, fillP n 104), (b8, n + 1, e8, fillP n 103), (b9, m + 1, e9, fillP m 102), (b10, n + 1, e10, fillP n 101)]) := H13
  clear H12
  go_wp2_with fail
  refine (c_fill (l1 := []) H13.out 101 (by omega)).mono ?_
  rintro e w14 ⟨g14, c14, rfl, H14⟩
  replace H14 : Hid (St w0 w14 [(g14, n + 1, c14, fillP n 101), (g11, m + 1, c11, fillP m 107), (g8, n + 1, c8, fillP n 106), (q4, m, d4, (weaveP A B).2), (g4, n, c4, (weaveP A B).1), (g3, m, c3, B), (g2, n, c2, A), (b1, m, e1, (weaveP A B).2), (b2, n, e2, (weaveP A B).1), (b3, n, e3, (throughP ⟨k, p, ch, cl, sq⟩ A true).2), (b4, m + 1, e4, fillP m 107), (b5, n + 1, e5, fillP n 106), (b6, m + 1, e6, fillP m 105), (b7, n + 1, e7, fillP n 104), (b8, n + 1, e8, fillP n 103), (b9, m + 1, e9, fillP m 102), (b10, n + 1, e10, fillP n 101)]) := H14
  clear H13
  go_wp2_with fail
  refine (c_same H14.out (H14.out.isO (.tail _ (.tail _ (.tail _ (.tail _ (.tail _ (.tail _ (.tail _ (.tail _ (.tail _ (.tail _ (.tail _ (.tail _ (.tail _ (.tail _ (.tail _ (.tail _ (.head _)))))))))))))))))) (H14.out.isO (.head _)) rfl).mono ?_
  rintro e w15 ⟨rfl, H15⟩
  clear H14
  go_wp2_with fail
  refine (c_copy H15.out (HB.out.below H15.out.bel) (by omega)).mono ?_
  rintro e w16 ⟨g16, c16, rfl, H16⟩
  replace H16 : Hid (St w0 w16 [(g16, m, c16, B), (g14, n + 1, c14, fillP n 101), (g11, m + 1, c11, fillP m 107), (g8, n + 1, c8, fillP n 106), (q4, m, d4, (weaveP A B).2), (g4, n, c4, (weaveP A B).1), (g3, m, c3, B), (g2, n, c2, A), (b1, m, e1, (weaveP A B).2), (b2, n, e2, (weaveP A B).1), (b3, n, e3, (throughP ⟨k, p, ch, cl, sq⟩ A true).2), (b4, m + 1, e4, fillP m 107), (b5, n + 1, e5, fillP n 106), (b6, m + 1, e6, fillP m 105), (b7, n + 1, e7, fillP n 104), (b8, n + 1, e8, fillP n 103), (b9, m + 1, e9, fillP m 102), (b10, n + 1, e10, fillP n 101)]) := H16
  clear H15
  go_wp2_with fail
  refine (c_fill (l1 := []) H16.out 102 (by omega)).mono ?_
  rintro e w17 ⟨g17, c17, rfl, H17⟩
  replace H17 : Hid (St w0 w17 [(g17, m + 1, c17, fillP m 102), (g14, n + 1, c14, fillP n 101), (g11, m + 1, c11, fillP m 107), (g8, n + 1, c8, fillP n 106), (q4, m, d4, (weaveP A B).2), (g4, n, c4, (weaveP A B).1), (g3, m, c3, B), (g2, n, c2, A), (b1, m, e1, (weaveP A B).2), (b2, n, e2, (weaveP A B).1), (b3, n, e3, (throughP ⟨k, p, ch, cl, sq⟩ A true).2), (b4, m + 1, e4, fillP m 107), (b5, n + 1, e5, fillP n 106), (b6, m + 1, e6, fillP m 105), (b7, n + 1, e7, fillP n 104), (b8, n + 1, e8, fillP n 103), (b9, m + 1, e9, fillP m 102), (b10, n + 1, e10, fillP n 101)]) := H17
  clear H16
  go_wp2_with fail
  refine (c_same H17.out (H17.out.isO (.tail _ (.tail _ (.tail _ (.tail _ (.tail _ (.tail _ (.tail _ (.tail _ (.tail _ (.tail _ (.tail _ (.tail _ (.tail _ (.tail _ (.tail _ (.tail _ (.head _)))))))))))))))))) (H17.out.isO (.head _)) rfl).mono ?_
  rintro e w18 ⟨rfl, H18⟩
  clear H17
  go_wp2_with fail
  refine (c_copy H18.out (HA.out.below H18.out.bel) (by omega)).mono ?_
  rintro e w19 ⟨g19, c19, rfl, H19⟩
  replace H19 : Hid (St w0 w19 [(g19, n, c19, A), (g17, m + 1, c17, fillP m 102), (g14, n + 1, c14, fillP n 101), (g11, m + 1, c11, fillP m 107), (g8, n + 1, c8, fillP n 106), (q4, m, d4, (weaveP A B).2), (g4, n, c4, (weaveP A B).1), (g3, m, c3, B), (g2, n, c2, A), (b1, m, e1, (weaveP A B).2), (b2, n, e2, (weaveP A B).1), (b3, n, e3, (throughP ⟨k, p, ch, cl, sq⟩ A true).2), (b4, m + 1, e4, fillP m 107), (b5, n + 1, e5, fillP n 106), (b6, m + 1, e6, fillP m 105), (b7, n + 1, e7, fillP n 104), (b8, n + 1, e8, fillP n 103), (b9, m + 1, e9, fillP m 102), (b10, n + 1, e10, fillP n 101)]) := H19
  clear H18
  go_wp2_with fail
  refine (c_fill (l1 := []) H19.out 103 (by omega)).mono ?_
  rintro e w20 ⟨g20, c20, rfl, H20⟩
  replace H20 : Hid (St w0 w20 [(g20, n + 1, c20, fillP n 103), (g17, m + 1, c17, fillP m 102), (g14, n + 1, c14, fillP n 101), (g11, m + 1, c11, fillP m 107), (g8, n + 1, c8, fillP n 106), (q4, m, d4, (weaveP A B).2), (g4, n, c4, (weaveP A B).1), (g3, m, c3, B), (g2, n, c2, A), (b1, m, e1, (weaveP A B).2), (b2, n, e2, (weaveP A B).1), (b3, n, e3, (throughP ⟨k, p, ch, cl, sq⟩ A true).2), (b4, m + 1, e4, fillP m 107), (b5, n + 1, e5, fillP n 106), (b6, m + 1, e6, fillP m 105), (b7, n + 1, e7, fillP n 104), (b8, n + 1, e8, fillP n 103), (b9, m + 1, e9, fillP m 102), (b10, n + 1, e10, fillP n 101)]) := H20
  clear H19
  go_wp2_with fail
  refine (c_same H20.out (H20.out.isO (.tail _ (.tail _ (.tail _ (.tail _ (.tail _ (.tail _ (.tail _ (.tail _ (.tail _ (.tail _ (.tail _ (.tail _ (.tail _ (.tail _ (.tail _ (.tail _ (.head _)))))))))))))))))) (H20.out.isO (.head _)) rfl).mono ?_
  rintro e w21 ⟨rfl, H21⟩
  clear H20
  go_wp2_with fail
  refine (c_copy H21.out (HA.out.below H21.out.bel) (by omega)).mono ?_
  rintro e w22 ⟨g22, c22, rfl, H22⟩
  replace H22 : Hid (St w0 w22 [(g22, n, c22, A), (g20, n + 1, c20, fillP n 103), (g17, m + 1, c17, fillP m 102), (g14, n + 1, c14, fillP n 101), (g11, m + 1, c11, fillP m 107), (g8, n + 1, c8, fillP n 106), (q4, m, d4, (weaveP A B).2), (g4, n, c4, (weaveP A B).1), (g3, m, c3, B), (g2, n, c2, A), (b1, m, e1, (weaveP A B).2), (b2, n, e2, (weaveP A B).1), (b3, n, e3, (throughP ⟨k, p, ch, cl, sq⟩ A true).2), (b4, m + 1, e4, fillP m 107), (b5, n + 1, e5, fillP n 106), (b6, m + 1, e6, fillP m 105), (b7, n + 1, e7, fillP n 104), (b8, n + 1, e8, fillP n 103), (b9, m + 1, e9, fillP m 102), (b10, n + 1, e10, fillP n 101)]) := H22
  clear H21
  go_wp2_with fail
  refine (c_fill (l1 := []) H22.out 104 (by omega)).mono ?_
  rintro e w23 ⟨g23, c23, rfl, H23⟩
  replace H23 : Hid (St w0 w23 [(g23, n + 1, c23, fillP n 104), (g20, n + 1, c20, fillP n 103), (g17, m + 1, c17, fillP m 102), (g14, n + 1, c14, fillP n 101), (g11, m + 1, c11, fillP m 107), (g8, n + 1, c8, fillP n 106), (q4, m, d4, (weaveP A B).2), (g4, n, c4, (weaveP A B).1), (g3, m, c3, B), (g2, n, c2, A), (b1, m, e1, (weaveP A B).2), (b2, n, e2, (weaveP A B).1), (b3, n, e3, (throughP ⟨k, p, ch, cl, sq⟩ A true).2), (b4, m + 1, e4, fillP m 107), (b5, n + 1, e5, fillP n 106), (b6, m + 1, e6, fillP m 105), (b7, n + 1, e7, fillP n 104), (b8, n + 1, e8, fillP n 103), (b9, m + 1, e9, fillP m 102), (b10, n + 1, e10, fillP n 101)]) := H23
  clear H22
  go_wp2_with fail
  refine (c_same H23.out (H23.out.isO (.tail _ (.tail _ (.tail _ (.tail _ (.tail _ (.tail _ (.tail _ (.tail _ (.tail _ (.tail _ (.tail _ (.tail _ (.tail _ (.tail _ (.tail _ (.tail _ (.head _)))))))))))))))))) (H23.out.isO (.head _)) rfl).mono ?_
  rintro e w24 ⟨rfl, H24⟩
  clear H23
  go_wp2_with fail
  refine (c_copy H24.out (HB.out.below H24.out.bel) (by omega)).mono ?_
  rintro e w25 ⟨g25, c25, rfl, H25⟩
  replace H25 : Hid (St w0 w25 [(g25, m, c25, B), (g23, n + 1, c23, fillP n 104), (g20, n + 1, c20, fillP n 103), (g17, m + 1, c17, fillP m 102), (g14, n + 1, c14, fillP n 101), (g11, m + 1, c11, fillP m 107), (g8, n + 1, c8, fillP n 106), (q4, m, d4, (weaveP A B).2), (g4, n, c4, (weaveP A B).1), (g3, m, c3, B), (g2, n, c2, A), (b1, m, e1, (weaveP A B).2), (b2, n, e2, (weaveP A B).1), (b3, n, e3, (throughP ⟨k, p, ch, cl, sq⟩ A true).2), (b4, m + 1, e4, fillP m 107), (b5, n + 1, e5, fillP n 106), (b6, m + 1, e6, fillP m 105), (b7, n + 1, e7, fillP n 104), (b8, n + 1, e8, fillP n 103), (b9, m + 1, e9, fillP m 102), (b10, n + 1, e10, fillP n 101)]) := H25
  clear H24
  go_wp2_with fail
  refine (c_fill (l1 := []) H25.out 105 (by omega)).mono ?_
  rintro e w26 ⟨g26, c26, rfl, H26⟩
  replace H26 : Hid (St w0 w26 [(g26, m + 1, c26, fillP m 105), (g23, n + 1, c23, fillP n 104), (g20, n + 1, c20, fillP n 103), (g17, m + 1, c17, fillP m 102), (g14, n + 1, c14, fillP n 101), (g11, m + 1, c11, fillP m 107), (g8, n + 1, c8, fillP n 106), (q4, m, d4, (weaveP A B).2), (g4, n, c4, (weaveP A B).1), (g3, m, c3, B), (g2, n, c2, A), (b1, m, e1, (weaveP A B).2), (b2, n, e2, (weaveP A B).1), (b3, n, e3, (throughP ⟨k, p, ch, cl, sq⟩ A true).2), (b4, m + 1, e4, fillP m 107), (b5, n + 1, e5, fillP n 106), (b6, m + 1, e6, fillP m 105), (b7, n + 1, e7, fillP n 104), (b8, n + 1, e8, fillP n 103), (b9, m + 1, e9, fillP m 102), (b10, n + 1, e10, fillP n 101)]) := H26
  clear H25
  go_wp2_with fail
  refine (c_same H26.out (H26.out.isO (.tail _ (.tail _ (.tail _ (.tail _ (.tail _ (.tail _ (.tail _ (.tail _ (.tail _ (.tail _ (.tail _ (.tail _ (.tail _ (.tail _ (.tail _ (.tail _ (.head _)))))))))))))))))) (H26.out.isO (.head _)) rfl).mono ?_
  rintro e w27 ⟨rfl, H27⟩
  clear H26
  go_wp2_with fail
  go_ret
  exact ⟨rfl, HW.out.trans (H27.out.bel.mono HW.out.size)⟩

end Go.Proofs.YtmkgkgdngjmcmabDoor
