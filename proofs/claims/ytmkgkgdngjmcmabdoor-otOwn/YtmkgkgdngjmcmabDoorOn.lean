/-
  OtOwn: its middle.
-/
import Derived.Test.YtmkgkgdngjmcmabDoorOl
import Derived.Deep.DeepCutAuto
namespace Go.Proofs.YtmkgkgdngjmcmabDoor
open Go.RowKit Go.Lib
set_option linter.unusedVariables false

noncomputable def own_mid_code : Code := (Tryd.f3.body.bind (restAt 17)).getD .skip
set_option maxRecDepth 100000 in
set_option maxHeartbeats 8000000 in
theorem own_mid (W w0 w1 : World) (a b : Option Addr) (n c m d : Nat) (A B : List OpE) (hW : Below W.heap.size W w0) (hT : Table w0) (hA : IsO w0 a n c A) (hB : IsO w0 b m d B) (hn : n ≤ 4096) (hm : m ≤ 4096) (k p ch cl sq : Int) (b1 b2 b3 b4 b5 b6 b7 e1 e2 e3 e4 e5 e6 e7 : Nat) (h : St w0 w1 [(b1, m, e1, (weaveP A B).2), (b2, n, e2, (weaveP A B).1), (b3, m, e3, (weaveP A B).2), (b4, n, e4, (weaveP A B).1), (b5, n, e5, (throughP ⟨k, p, ch, cl, sq⟩ A true).2), (b6, m, e6, B), (b7, n, e7, A)]) (u0 u3 u4 u5 u6 u7 u8 u9 u12 u14 u17 u20 u21 u22 u23 u24 u25 u26 u27 u28 u29 u30 u31 u32 u33 u34 u35 u36 u37 u38 u39 u40 u41 u42 u43 u44 u45 u46 u47 u48 u49 u50 u51 u52 u53 u54 u55 u56 u57 u58 u59 u60 u61 u62 u63 u64 u65 u66 u67 u68 u69 u70 u71 u72 u73 u74 u75 u76 u77 u78 u79 u80 u81 u82 u83 u84 u85 u86 u87 u88 u89 u90 u91 u92 u93 u94 u95 u96 u97 u98 u99 u100 u101 u102 u103 u104 u105 u106 u107 u108 u109 u110 u111 u112 u113 u114 u115 u116 u117 u118 u119 u120 u121 u122 u123 u124 u125 u126 u127 u128 u129 u130 u131 u132 u133 u134 u135 u136 u137 u138 u139 u140 u141 u142 u143 u144 u145 u146 u147 u148 u149 u150 u151 u152 u153 u154 u155 u156 u157 u158 u159 u160 u161 u162 u163 u164 u165 u166 u167 u168 u169 u170 u171 u172 u173 u174 u175 u176 u177 u178 u179 u180 u181 u182 u183 u184 u185 u186 u187 u188 u189 u190 u191 u192 u193 u194 u195 u196 u197 u198 u199 u200 u201 u202 u203 u204 u205 u206 u207 u208 u209 u210 u211 u212 u213 u214 u215 u216 u217 u218 u219 u220 u221 u222 u223 u224 u225 u226 u227 u228 u229 u230 u231 u232 u233 u234 u235 u236 u237 u238 u239 u240 u241 u242 u243 u244 u245 u246 u247 u248 u249 u250 u251 u252 u253 u254 u255 u256 u257 u258 u259 u260 u261 u262 u263 u264 u265 u266 u267 u268 u269 u270 u271 u272 u273 u274 u275 u276 u277 u278 u279 u280 u281 u282 u283 u284 : Value) :
    Code.wp Tryd.prog own_mid_code (bodyPost Tryd.prog Tryd.f3 fun e w' => e = .returned (.bool true) ∧ Below W.heap.size W w') ⟨#[u0, .slice a n c, .slice b m d, u3, u4, u5, u6, u7, u8, u9, .slice (some ⟨b7, 0, none⟩) (n) e7, .slice (some ⟨b6, 0, none⟩) (m) e6, u12, .slice (some ⟨b5, 0, none⟩) (n) e5, u14, .slice (some ⟨b4, 0, none⟩) (n) e4, .slice (some ⟨b3, 0, none⟩) (m) e3, u17, .slice (some ⟨b2, 0, none⟩) (n) e2, .slice (some ⟨b1, 0, none⟩) (m) e1, u20, u21, u22, u23, u24, u25, u26, u27, u28, u29, u30, u31, u32, u33, u34, u35, u36, u37, u38, u39, u40, u41, u42, u43, u44, u45, u46, u47, u48, u49, u50, u51, u52, u53, u54, u55, u56, u57, u58, u59, u60, u61, u62, u63, u64, u65, u66, u67, u68, u69, u70, u71, u72, u73, u74, u75, u76, u77, u78, u79, u80, u81, u82, u83, u84, u85, u86, u87, u88, u89, u90, u91, u92, u93, u94, u95, u96, u97, u98, u99, u100, u101, u102, u103, u104, u105, u106, u107, u108, u109, u110, u111, u112, u113, u114, u115, u116, u117, u118, u119, u120, u121, u122, u123, u124, u125, u126, u127, u128, u129, u130, u131, u132, u133, u134, u135, u136, u137, u138, u139, u140, u141, u142, u143, u144, u145, u146, u147, u148, u149, u150, u151, u152, u153, u154, u155, u156, u157, u158, u159, u160, u161, u162, u163, u164, u165, u166, u167, u168, u169, u170, u171, u172, u173, u174, u175, u176, u177, u178, u179, u180, u181, u182, u183, u184, u185, u186, u187, u188, u189, u190, u191, u192, u193, u194, u195, u196, u197, u198, u199, u200, u201, u202, u203, u204, u205, u206, u207, u208, u209, u210, u211, u212, u213, u214, u215, u216, u217, u218, u219, u220, u221, u222, u223, u224, u225, u226, u227, u228, u229, u230, u231, u232, u233, u234, u235, u236, u237, u238, u239, u240, u241, u242, u243, u244, u245, u246, u247, u248, u249, u250, u251, u252, u253, u254, u255, u256, u257, u258, u259, u260, u261, u262, u263, u264, u265, u266, u267, u268, u269, u270, u271, u272, u273, u274, u275, u276, u277, u278, u279, u280, u281, u282, u283, u284], []⟩ w1 := by
  have HW := hd hW
  have HT := hd hT
  have HA := hd hA
  have HB := hd hB
  have H1 : Hid (St w0 w1 [(b1, m, e1, (weaveP A B).2), (b2, n, e2, (weaveP A B).1), (b3, m, e3, (weaveP A B).2), (b4, n, e4, (weaveP A B).1), (b5, n, e5, (throughP ⟨k, p, ch, cl, sq⟩ A true).2), (b6, m, e6, B), (b7, n, e7, A)]) := h
  clear hW hT hA hB h
  conv => arg 2; whnf
  go_wp2_with fail
  refine (c_copy H1.out (H1.out.isO (.tail _ (.tail _ (.tail _ (.tail _ (.head _)))))) (by omega)).mono ?_
  rintro e w2 ⟨g2, c2, rfl, H2⟩
  replace H2 : Hid (St w0 w2 [(g2, n, c2, (throughP ⟨k, p, ch, cl, sq⟩ A true).2), (b1, m, e1, (weaveP A B).2), (b2, n, e2, (weaveP A B).1), (b3, m, e3, (weaveP A B).2), (b4, n, e4, (weaveP A B).1), (b5, n, e5, (throughP ⟨k, p, ch, cl, sq⟩ A true).2), (b6, m, e6, B), (b7, n, e7, A)]) := H2
  clear H1
  go_wp2_with fail
  refine (c_copy H2.out (H2.out.isO (.tail _ (.tail _ (.tail _ (.tail _ (.head _)))))) (by omega)).mono ?_
  rintro e w3 ⟨g3, c3, rfl, H3⟩
  replace H3 : Hid (St w0 w3 [(g3, n, c3, (weaveP A B).1), (g2, n, c2, (throughP ⟨k, p, ch, cl, sq⟩ A true).2), (b1, m, e1, (weaveP A B).2), (b2, n, e2, (weaveP A B).1), (b3, m, e3, (weaveP A B).2), (b4, n, e4, (weaveP A B).1), (b5, n, e5, (throughP ⟨k, p, ch, cl, sq⟩ A true).2), (b6, m, e6, B), (b7, n, e7, A)]) := H3
  clear H2
  go_wp2_with fail
  refine (c_copy H3.out (H3.out.isO (.tail _ (.tail _ (.tail _ (.tail _ (.head _)))))) (by omega)).mono ?_
  rintro e w4 ⟨g4, c4, rfl, H4⟩
  replace H4 : Hid (St w0 w4 [(g4, m, c4, (weaveP A B).2), (g3, n, c3, (weaveP A B).1), (g2, n, c2, (throughP ⟨k, p, ch, cl, sq⟩ A true).2), (b1, m, e1, (weaveP A B).2), (b2, n, e2, (weaveP A B).1), (b3, m, e3, (weaveP A B).2), (b4, n, e4, (weaveP A B).1), (b5, n, e5, (throughP ⟨k, p, ch, cl, sq⟩ A true).2), (b6, m, e6, B), (b7, n, e7, A)]) := H4
  clear H3
  go_wp2_with fail
  refine (c_fill (l1 := [(g4, m, c4, (weaveP A B).2), (g3, n, c3, (weaveP A B).1), (g2, n, c2, (throughP ⟨k, p, ch, cl, sq⟩ A true).2), (b1, m, e1, (weaveP A B).2), (b2, n, e2, (weaveP A B).1), (b3, m, e3, (weaveP A B).2), (b4, n, e4, (weaveP A B).1), (b5, n, e5, (throughP ⟨k, p, ch, cl, sq⟩ A true).2), (b6, m, e6, B)]) H4.out 101 (by omega)).mono ?_
  rintro e w5 ⟨g5, c5, rfl, H5⟩
  replace H5 : Hid (St w0 w5 [(g4, m, c4, (weaveP A B).2), (g3, n, c3, (weaveP A B).1), (g2, n, c2, (throughP ⟨k, p, ch, cl, sq⟩ A true).2), (b1, m, e1, (weaveP A B).2), (b2, n, e2, (weaveP A B).1), (b3, m, e3, (weaveP A B).2), (b4, n, e4, (weaveP A B).1), (b5, n, e5, (throughP ⟨k, p, ch, cl, sq⟩ A true).2), (b6, m, e6, B), (g5, n + 1, c5, fillP n 101)]) := H5
  clear H4
  go_wp2_with fail
  refine (c_fill (l1 := [(g4, m, c4, (weaveP A B).2), (g3, n, c3, (weaveP A B).1), (g2, n, c2, (throughP ⟨k, p, ch, cl, sq⟩ A true).2), (b1, m, e1, (weaveP A B).2), (b2, n, e2, (weaveP A B).1), (b3, m, e3, (weaveP A B).2), (b4, n, e4, (weaveP A B).1), (b5, n, e5, (throughP ⟨k, p, ch, cl, sq⟩ A true).2)]) H5.out 102 (by omega)).mono ?_
  rintro e w6 ⟨g6, c6, rfl, H6⟩
  replace H6 : Hid (St w0 w6 [(g4, m, c4, (weaveP A B).2), (g3, n, c3, (weaveP A B).1), (g2, n, c2, (throughP ⟨k, p, ch, cl, sq⟩ A true).2), (b1, m, e1, (weaveP A B).2), (b2, n, e2, (weaveP A B).1), (b3, m, e3, (weaveP A B).2), (b4, n, e4, (weaveP A B).1), (b5, n, e5, (throughP ⟨k, p, ch, cl, sq⟩ A true).2), (g6, m + 1, c6, fillP m 102), (g5, n + 1, c5, fillP n 101)]) := H6
  clear H5
  go_wp2_with fail
  refine (c_same H6.out (H6.out.isO (.tail _ (.tail _ (.tail _ (.tail _ (.tail _ (.tail _ (.tail _ (.head _))))))))) (H6.out.isO (.tail _ (.tail _ (.head _)))) rfl).mono ?_
  rintro e w7 ⟨rfl, H7⟩
  clear H6
  go_wp2_with fail
  refine (c_same H7.out (H7.out.isO (.tail _ (.tail _ (.tail _ (.tail _ (.tail _ (.tail _ (.head _)))))))) (H7.out.isO (.tail _ (.head _))) rfl).mono ?_
  rintro e w8 ⟨rfl, H8⟩
  clear H7
  go_wp2_with fail
  refine (c_same H8.out (H8.out.isO (.tail _ (.tail _ (.tail _ (.tail _ (.tail _ (.head _))))))) (H8.out.isO (.head _)) rfl).mono ?_
  rintro e w9 ⟨rfl, H9⟩
  clear H8
  go_wp2_with fail
  refine (c_fill (l1 := [(g4, m, c4, (weaveP A B).2), (g3, n, c3, (weaveP A B).1), (g2, n, c2, (throughP ⟨k, p, ch, cl, sq⟩ A true).2), (b1, m, e1, (weaveP A B).2), (b2, n, e2, (weaveP A B).1), (b3, m, e3, (weaveP A B).2), (b4, n, e4, (weaveP A B).1)]) H9.out 103 (by omega)).mono ?_
  rintro e w10 ⟨g10, c10, rfl, H10⟩
  replace H10 : Hid (St w0 w10 [(g4, m, c4, (weaveP A B).2), (g3, n, c3, (weaveP A B).1), (g2, n, c2, (throughP ⟨k, p, ch, cl, sq⟩ A true).2), (b1, m, e1, (weaveP A B).2), (b2, n, e2, (weaveP A B).1), (b3, m, e3, (weaveP A B).2), (b4, n, e4, (weaveP A B).1), (g10, n + 1, c10, fillP n 103), (g6, m + 1, c6, fillP m 102), (g5, n + 1, c5, fillP n 101)]) := H10
  clear H9
  go_wp2_with fail
  refine (c_same H10.out (H10.out.isO (.tail _ (.tail _ (.tail _ (.tail _ (.tail _ (.tail _ (.head _)))))))) (H10.out.isO (.tail _ (.head _))) rfl).mono ?_
  rintro e w11 ⟨rfl, H11⟩
  clear H10
  go_wp2_with fail
  refine (c_same H11.out (H11.out.isO (.tail _ (.tail _ (.tail _ (.tail _ (.tail _ (.head _))))))) (H11.out.isO (.head _)) rfl).mono ?_
  rintro e w12 ⟨rfl, H12⟩
  clear H11
  go_wp2_with fail
  refine (c_fill (l1 := [(g4, m, c4, (weaveP A B).2), (g3, n, c3, (weaveP A B).1), (g2, n, c2, (throughP ⟨k, p, ch, cl, sq⟩ A true).2), (b1, m, e1, (weaveP A B).2), (b2, n, e2, (weaveP A B).1), (b3, m, e3, (weaveP A B).2)]) H12.out 104 (by omega)).mono ?_
  rintro e w13 ⟨g13, c13, rfl, H13⟩
  replace H13 : Hid (St w0 w13 [(g4, m, c4, (weaveP A B).2), (g3, n, c3, (weaveP A B).1), (g2, n, c2, (throughP ⟨k, p, ch, cl, sq⟩ A true).2), (b1, m, e1, (weaveP A B).2), (b2, n, e2, (weaveP A B).1), (b3, m, e3, (weaveP A B).2), (g13, n + 1, c13, fillP n 104), (g10, n + 1, c10, fillP n 103), (g6, m + 1, c6, fillP m 102), (g5, n + 1, c5, fillP n 101)]) := H13
  clear H12
  go_wp2_with fail
  refine (c_same H13.out (H13.out.isO (.tail _ (.tail _ (.tail _ (.tail _ (.tail _ (.head _))))))) (H13.out.isO (.head _)) rfl).mono ?_
  rintro e w14 ⟨rfl, H14⟩
  clear H13
  go_wp2_with fail
  refine (c_fill (l1 := [(g4, m, c4, (weaveP A B).2), (g3, n, c3, (weaveP A B).1), (g2, n, c2, (throughP ⟨k, p, ch, cl, sq⟩ A true).2), (b1, m, e1, (weaveP A B).2), (b2, n, e2, (weaveP A B).1)]) H14.out 105 (by omega)).mono ?_
  rintro e w15 ⟨g15, c15, rfl, H15⟩
  replace H15 : Hid (St w0 w15 [(g4, m, c4, (weaveP A B).2), (g3, n, c3, (weaveP A B).1), (g2, n, c2, (throughP ⟨k, p, ch, cl, sq⟩ A true).2), (b1, m, e1, (weaveP A B).2), (b2, n, e2, (weaveP A B).1), (g15, m + 1, c15, fillP m 105), (g13, n + 1, c13, fillP n 104), (g10, n + 1, c10, fillP n 103), (g6, m + 1, c6, fillP m 102), (g5, n + 1, c5, fillP n 101)]) := H15
  clear H14
  go_wp2_with fail
  refine (c_same H15.out (H15.out.isO (.tail _ (.tail _ (.tail _ (.tail _ (.head _)))))) (H15.out.isO (.tail _ (.head _))) rfl).mono ?_
  rintro e w16 ⟨rfl, H16⟩
  clear H15
  go_wp2_with fail
  refine (c_same H16.out (H16.out.isO (.tail _ (.tail _ (.tail _ (.head _))))) (H16.out.isO (.head _)) rfl).mono ?_
  rintro e w17 ⟨rfl, H17⟩
  clear H16
  go_wp2_with fail
  refine (c_fill (l1 := [(g4, m, c4, (weaveP A B).2), (g3, n, c3, (weaveP A B).1), (g2, n, c2, (throughP ⟨k, p, ch, cl, sq⟩ A true).2), (b1, m, e1, (weaveP A B).2)]) H17.out 106 (by omega)).mono ?_
  rintro e w18 ⟨g18, c18, rfl, H18⟩
  replace H18 : Hid (St w0 w18 [(g4, m, c4, (weaveP A B).2), (g3, n, c3, (weaveP A B).1), (g2, n, c2, (throughP ⟨k, p, ch, cl, sq⟩ A true).2), (b1, m, e1, (weaveP A B).2), (g18, n + 1, c18, fillP n 106), (g15, m + 1, c15, fillP m 105), (g13, n + 1, c13, fillP n 104), (g10, n + 1, c10, fillP n 103), (g6, m + 1, c6, fillP m 102), (g5, n + 1, c5, fillP n 101)]) := H18
  clear H17
  go_upto_region 32 with fail
  go_cut [30] (fun v wx => ∃ g c9, v = .slice (some ⟨g, 0, none⟩) (m + 1) c9 ∧ Hid (St w0 wx ([(g4, m, c4, (weaveP A B).2), (g3, n, c3, (weaveP A B).1), (g2, n, c2, (throughP ⟨k, p, ch, cl, sq⟩ A true).2)] ++ (g, m + 1, c9, fillP m 107) :: [(g18, n + 1, c18, fillP n 106), (g15, m + 1, c15, fillP m 105), (g13, n + 1, c13, fillP n 104), (g10, n + 1, c10, fillP n 103), (g6, m + 1, c6, fillP m 102), (g5, n + 1, c5, fillP n 101)])))
  case first =>
    go_wp2_with fail
    refine (c_fill (l1 := [(g4, m, c4, (weaveP A B).2), (g3, n, c3, (weaveP A B).1), (g2, n, c2, (throughP ⟨k, p, ch, cl, sq⟩ A true).2)]) H18.out 107 (by omega)).mono ?_
    rintro e w9 ⟨g9, c9, rfl, H9⟩
    go_wp2_with fail
    go_meet
    exact ⟨g9, c9, rfl, H9⟩
  case rest =>
  obtain ⟨g19, c19, rfl, H19⟩ := hcut
  obtain ⟨w19, rfl⟩ : ∃ u, u = wc := ⟨wc, rfl⟩
  rename_i K0 hK0
  refine hK0 _ _ ?_
  exact own_last W w0 w19 a b n c m d A B HW.out HT.out HA.out HB.out hn hm k p ch cl sq g4 g5 g3 g2 g19 g18 g15 g13 g10 g6 c4 c5 c3 c2 c19 c18 c15 c13 c10 c6 H19.out _ _ _ _ _ _ _ _ _ _ _ _ _ _ _ _ _ _ _ _ _ _ _ _ _ _ _ _ _ _ _ _ _ _ _ _ _ _ _ _ _ _ _ _ _ _ _ _ _ _ _ _ _ _ _ _ _ _ _ _ _ _ _ _ _ _ _ _ _ _ _ _ _ _ _ _ _ _ _ _ _ _ _ _ _ _ _ _ _ _ _ _ _ _ _ _ _ _ _ _ _ _ _ _ _ _ _ _ _ _ _ _ _ _ _ _ _ _ _ _ _ _ _ _ _ _ _ _ _ _ _ _ _ _ _ _ _ _ _ _ _ _ _ _ _ _ _ _ _ _ _ _ _ _ _ _ _ _ _ _ _ _ _ _ _ _ _ _ _ _ _ _ _ _ _ _ _ _ _ _ _ _ _ _ _ _ _ _ _ _ _ _ _ _ _ _ _ _ _ _ _ _ _ _ _ _ _ _ _ _ _ _ _ _ _ _ _ _ _ _ _ _ _ _ _ _ _ _ _ _ _ _ _ _ _ _ _ _ _ _ _ _ _ _ _ _ _ _ _ _ _ _ _ _ _ _ _ _ _ _ _ _ _ _ _ _ _ _ _ _ _ _ _ _

end Go.Proofs.YtmkgkgdngjmcmabDoor
