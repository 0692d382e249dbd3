/-
  SpaceLines: the walk.
-/
import Derived.Test.YtmbnimlibnheeaaDoorLi
namespace Go.Proofs.YtmbnimlibnheeaaDoor
open Go.RowKit
set_option linter.unusedVariables false

set_option maxRecDepth 100000 in
set_option maxHeartbeats 8000000 in
theorem spaceLines_any (f : Bool) (a : Option Addr) (N c : Nat) (a2 : Option Addr) (N2 c2 : Nat) (xs ys : List OpE) (w : World) (hT : Table w) (hE : IsO w a N c xs) (hO : OkO xs) (hE2 : IsO w a2 N2 c2 ys) (hO2 : OkO ys) :
    Calls Tryd.prog 4 #[.bool f, .slice a N c, .slice a2 N2 c2] w fun e w' => e = .returned (.bool true) ∧ Below w.heap.size w w' := by
  obtain ⟨i0, hi0, hz0, hz1, hz2⟩ := info_parts Tryd.infoO
  have HT := hd hT
  have HE := hd hE
  have HO := hd hO
  have HE2 := hd hE2
  have HO2 := hd hO2
  have HN2 := hd hE2.1
  have hc1 : N2 ≤ c2 := hE2.2.1
  have hc2 : c2 ≤ 9223372036854775807 := hE2.2.2.1
  clear hT hE hO hE2 hO2
  go_enter Tryd.func4, Tryd.ntmps4
  go_wp2_with fail
  refine (filled_1 0 f a N c xs (MO.nil w) HE.out HO.out).mono ?_
  rintro e w1 ⟨x, n, L, rfl, hn, hn6, -, hM1, -⟩
  have M1 := hd (((hM1.nilrow 1).nilrow 2).nilrow 3)
  rw [FL_start] at M1
  have HN := hd hn
  clear HE HO hM1 hn
  go_wp2_with fail
  refine (mb_queue M1.out 0 rfl).mono ?_
  rintro e w2 ⟨u, rfl, hA, b2⟩
  obtain ⟨gb, cb, rfl, hRb, hgb, hcb1, hcb2⟩ := hA.form
  have hl0 : (fillP f 1 L).q.length = n := by rw [HN.out]; exact qOf_len 1 L 0
  rw [hl0] at hRb hcb2 ⊢
  have M2 := hd (M1.out.adds (K' := (· = gb)) b2 (fun k hk => .inr (by omega)) (fun k hk => by rw [hk]; exact hRb.lt))
  have R2 := hd hRb
  clear hA b2 hRb hgb M1
  go_wp2_with (first | (at_make; refine wpList_make_k _ rfl _ _ 23 rfl 29 i0 _ Tryd.underlying23 hi0 hz0 _ _ _ _ n n rfl rfl rfl rfl (Nat.le_refl _) (by rw [hz2]; omega) (by omega) ?_; intro w3 cur hg3 hcur hb3) | fail)
  have RM := (row_made hg3.out (by have := hcur.out; rw [hz1] at this; exact this) (by omega)).1
  have S0 : Hid (∃ zs, MO w w3 (· = gb) (FL x (fillP f 1 L) (.slice (some ⟨w2.heap.size, 0, none⟩) n n) zs nilV [] nilV []) ∧ zs.length = n ∧ zs.take 0 = L.take 0 ∧ RowF mkd 6 w3 gb n cb 39 (fillP f 1 L).q) := by
    refine ⟨List.replicate n zop, ?_, by simp, by simp, R2.out.fr (S := fun _ => False) (Fr.of_below hb3.out) (fun h => h)⟩
    have := M2.out.put 1 (G := rowO (.slice (some ⟨w2.heap.size, 0, none⟩) n n) (List.replicate n zop)) (S' := (· = w2.heap.size)) (frm_row _ _) ⟨some w2.heap.size, ⟨n, by simp, by simpa using RM⟩, fun g hg => by injection hg with hg; exact hg.symm, fun k hk => by rw [hk]; exact block_lt hg3.out⟩ (fun k hk => by rw [hk]; exact Nat.le_refl _) hb3.out
    rwa [FL_1] at this
  clear hg3 hcur hb3 hi0 hz0 hz1 hz2 RM M2 R2
  generalize w2.heap.size = go at *
  go_loopw [12] (fun u wr => ∃ j : Nat, j ≤ n ∧ u = .int .i64 j ∧ Hid (∃ zs, MO w wr (· = gb) (FL x (fillP f 1 L) (.slice (some ⟨go, 0, none⟩) n n) zs nilV [] nilV []) ∧ zs.length = n ∧ zs.take j = L.take j ∧ RowF mkd 6 wr gb n cb 39 (fillP f 1 L).q)) (fun u _ => n - (intOf u).toNat)
  case atStart => exact ⟨0, Nat.zero_le _, rfl, S0⟩
  case round =>
    obtain ⟨j, hj, rfl, hr⟩ := hrel
    clear S0
    obtain ⟨zs, hM, hzl, hzt, hRb⟩ := hr.out
    by_cases hlt : j < n
    · have jq : j < (fillP f 1 L).q.length := by omega
      have jL : j < L.length := by have := HN.out; omega
      have hos : ((fillP f 1 L).q[j]).2 = L[j] := by
        have h1 : ((qOf 1 0 L).map (·.2))[j]? = L[j]? := by rw [qOf_os]
        have jq' : j < (qOf 1 0 L).length := jq
        simp only [List.getElem?_map, List.getElem?_eq_getElem jq', List.getElem?_eq_getElem jL, Option.map_some, Option.some.injEq] at h1
        exact h1
      have k1 := hRb.cell sz_mkd j 1 jq (by omega)
      have k2 := hRb.cell sz_mkd j 2 jq (by omega)
      have k3 := hRb.cell sz_mkd j 3 jq (by omega)
      have k4 := hRb.cell sz_mkd j 4 jq (by omega)
      have k5 := hRb.cell sz_mkd j 5 jq (by omega)
      simp [mkd] at k1 k2 k3 k4 k5
      rw [hos] at k1 k2 k3 k4 k5
      obtain ⟨ao, co, e1, hI⟩ := mo_row hM 1 rfl
      rw [hzl] at e1 hI
      injection e1 with e1 e2 e3
      subst e1
      subst e3
      have jz : j < zs.length := by omega
      obtain ⟨y0, y1, y2, y3, y4⟩ := hI.at j hlt jz
      simp only [Nat.zero_add] at y0 y1 y2 y3 y4
      have fz : ∀ o, wr.frozen? ⟨go, o, none⟩ = false := by
        obtain ⟨S, h1, -⟩ := hM.now 1
        obtain ⟨β, h2, -⟩ := (show rowO (.slice (some ⟨go, 0, none⟩) n n) zs wr S from h1)
        cases β with
        | none => obtain ⟨e, -⟩ := h2; simp at e
        | some g' =>
          obtain ⟨cap, e, hR⟩ := h2
          injection e with e1 e2 e3
          injection e1 with e1
          injection e1 with e1
          subst e1
          exact fun o => hR.frozen o
      have f0 := fz (j * 5)
      have f1 := fz (j * 5 + 1)
      have f2 := fz (j * 5 + 2)
      have f3 := fz (j * 5 + 3)
      have f4 := fz (j * 5 + 4)
      have Z : Hid (∀ k p c q s, L[j] = ⟨k, p, c, q, s⟩ → ∃ zs, MO w (set5 wr go (j * 5) k p c q s) (· = gb) (FL x (fillP f 1 L) (.slice (some ⟨go, 0, none⟩) n n) zs nilV [] nilV []) ∧ zs.length = n ∧ zs.take (j + 1) = L.take (j + 1) ∧ RowF mkd 6 (set5 wr go (j * 5) k p c q s) gb n cb 39 (fillP f 1 L).q) := by
        intro k p c q s hLj
        obtain ⟨m1, m2⟩ := mo_rowset hM 1 rfl j hlt k p c q s
        rw [FL_1] at m1
        refine ⟨_, m1, by simpa using hzl, ?_, ?_⟩
        · rw [take_set_succ zs j _ jz, hzt, List.take_succ_eq_append_getElem jL, hLj]
        · obtain ⟨cur, hh, r⟩ := hRb
          exact ⟨cur, (m2 gb rfl).trans hh, r⟩
      have i1 : (j : Int) < (n : Int) := by omega
      clear hr hM hzl hzt hRb hI fz jq hos e2
      have HLJ : Hid (∃ q, L[j] = q) := ⟨_, rfl⟩
      generalize L[j] = X at *
      obtain ⟨x0, x1, x2, x3, x4⟩ := X
      simp only at k1 k2 k3 k4 k5
      generalize zs[j] = Y at *
      clear jz
      have Z2 := hd (Z.out x0 x1 x2 x3 x4 rfl)
      clear Z HLJ jL
      go_wp2
      exact ⟨⟨j + 1, by omega, by go_num, Z2⟩, by simp [intOf]; omega⟩
    · obtain rfl : j = n := by omega
      have hzs : zs = L := by
        rw [List.take_of_length_le (by omega), List.take_of_length_le (by rw [HN.out]; exact Nat.le_refl _)] at hzt
        exact hzt
      subst hzs
      have S1 : Hid (∃ p ins outs, MO w wr NoK (FL x p (.slice (some ⟨go, 0, none⟩) j j) zs nilV ins nilV outs) ∧ LnP f zs ins p outs ∧ ins.length = 0) := ⟨_, [], [], hM.less (fun k hk => hk.elim), LnP.start f zs, rfl⟩
      have i1 : ¬ (j : Int) < (j : Int) := by omega
      clear hr hM hzl hzt hRb hj hlt
      go_wp2
      go_loopw [13, 14, 15] (fun vi vo u wr => ∃ i : Nat, i ≤ N2 ∧ i ≤ 60 ∧ u = .int .i64 i ∧ Hid (∃ p ins outs, MO w wr NoK (FL x p (.slice (some ⟨go, 0, none⟩) j j) zs vi ins vo outs) ∧ LnP f zs ins p outs ∧ ins.length ≤ i)) (fun _ _ u _ => N2 - (intOf u).toNat)
      case atStart =>
        obtain ⟨p, ins, outs, h1, h2, h3⟩ := S1.out
        exact ⟨0, Nat.zero_le _, by omega, rfl, ⟨p, ins, outs, h1, h2, by omega⟩⟩
      case round =>
        obtain ⟨i, hi, hi6, rfl, hr⟩ := hrel
        clear S1
        obtain ⟨p, ins, outs, hM, hLn, hil⟩ := hr.out
        by_cases hlt : i < N2 ∧ i < 60
        · obtain ⟨hlt, hlt6⟩ := hlt
          have jx : i < ys.length := by have := HN2.out; omega
          obtain ⟨b, off, rfl, hbl⟩ := HE2.out.addr (by omega)
          have hok := HO2.out ys[i] (List.getElem_mem jx)
          have HC : Hid (∀ W, Below w.heap.size w W → W.cell? ⟨b, off + i * 5, none⟩ = some (.int .i64 ys[i].kind) ∧ W.cell? ⟨b, off + i * 5 + 1, none⟩ = some (.int .i64 ys[i].pos) ∧ W.cell? ⟨b, off + i * 5 + 2, none⟩ = some (.int .u8 ys[i].ch) ∧ W.cell? ⟨b, off + i * 5 + 3, none⟩ = some (.int .i64 ys[i].cl) ∧ W.cell? ⟨b, off + i * 5 + 4, none⟩ = some (.int .i64 ys[i].sq)) :=
            fun W hW => (HE2.out.fr (S := fun _ => False) ⟨hW.os, hW.tape, hW.output, hW.size, fun k hk _ => hW.block k hk⟩ (fun _ _ _ _ h => h)).at i hlt jx
          have HM := hd hM
          have HLn := hd hLn
          have CC : Hid (∀ W, MO w W NoK (FL x p (.slice (some ⟨go, 0, none⟩) j j) zs u13 ins u14 outs) → Calls Tryd.prog 12 #[.pointer (some ⟨x, 0, none⟩), ys[i].val] W fun e w' => e = .returned (.tuple #[(crossO p ys[i]).val, .int .i64 (validP ys[i])]) ∧ MO w w' NoK (FL x (crossS p ys[i]) (.slice (some ⟨go, 0, none⟩) j j) zs u13 ins u14 outs)) := fun W hW => by
            refine (mo_cross hW 0 rfl HT.out ys[i] hok).mono ?_
            rintro e w' ⟨rfl, h1, h2⟩
            rw [FL_0] at h1
            exact ⟨rfl, h1⟩
          have HST : Hid (validP ys[i] = 0 → LnP f zs (ins ++ [ys[i]]) (crossS p ys[i]) (outs ++ [crossO p ys[i]])) := fun h => hLn.step _ h
          have CV : Hid (∀ W, Calls Tryd.prog 13 #[ys[i].val] W fun e w' => e = .returned (.int .i64 (validP ys[i])) ∧ Below W.heap.size W w') := fun W => valid_any _ _ _ _ _ W hok.1 hok.2
          have hol : outs.length ≤ 60 := by have := hLn.len.2; omega
          clear hr hM hLn hok
          generalize validP ys[i] = V at *
          generalize crossS p ys[i] = p2 at *
          generalize crossO p ys[i] = R at *
          generalize ys[i] = z at *
          obtain ⟨zk, zp, zc, zl, zt⟩ := z
          obtain ⟨rk, rp, rc, rq, rs⟩ := R
          simp only [OpE.val] at CC CV HC
          have i1 : (i : Int) < (N2 : Int) := by omega
          have i2 : (i : Int) < 60 := by omega
          clear jx
          obtain ⟨p0, p1, p2', p3, p4⟩ := HC.out wr HM.out.base
          go_wp2_with fail
          refine (CV.out wr).mono ?_
          rintro e wA ⟨rfl, bA⟩
          have MA := hd (HM.out.below bA)
          clear p0 p1 p2' p3 p4 bA CV
          by_cases hv : V = 0
          · subst hv
            obtain ⟨p0, p1, p2', p3, p4⟩ := HC.out wA MA.out.base
            go_wp2_with fail
            refine (CC.out wA MA.out).mono ?_
            rintro e wB ⟨rfl, hMB⟩
            have bB : Below wB.heap.size wB (wB.alloc (.cells #[.int .i64 rk, .int .i64 rp, .int .u8 rc, .int .i64 rq, .int .i64 rs] 29)) := (Below.refl _ _).alloc (Nat.le_refl _) _
            have X16 := heap_alloc_new wB (.cells #[.int .i64 rk, .int .i64 rp, .int .u8 rc, .int .i64 rq, .int .i64 rs] 29)
            have hMC := hMB.adds (K' := (· = wB.heap.size)) bB (fun k hk => .inr (by omega)) (fun k hk => by simp; omega)
            obtain ⟨ai, mi, ci, wC, hap1, hMD, kD⟩ := mo_push hMC 2 rfl (by omega) zk zp zc zl zt
            rw [FL_2] at hMD
            have XD := (kD wB.heap.size rfl).trans X16
            obtain ⟨⟨y0, y1, y2, y3, y4⟩, -⟩ := cells5 XD
            obtain ⟨ao, mo, co, wE, hap2, hME, -⟩ := mo_push hMD 3 rfl (by omega) rk rp rc rq rs
            rw [FL_3] at hME
            have zz : (wB.alloc (.cells #[.int .i64 rk, .int .i64 rp, .int .u8 rc, .int .i64 rq, .int .i64 rs] 29)).heap.size = wB.heap.size + 1 := by simp
            rw [zz] at hap1
            have Z : Hid (∃ p ins outs, MO w wE NoK (FL x p (.slice (some ⟨go, 0, none⟩) j j) zs (.slice ai mi ci) ins (.slice ao mo co) outs) ∧ LnP f zs ins p outs ∧ ins.length ≤ i + 1) := ⟨_, _, _, hME.less (fun k hk => hk.elim), HST.out (by first | rfl | trivial), by simp; omega⟩
            have q := HC.out wB hMB.base
            obtain ⟨b0, b1, b2', b3, b4⟩ := q
            have hbB : b < wB.heap.size := cell_in b0
            have HAP2 := hd hap2
            have HY := hd (And.intro y0 (And.intro y1 (And.intro y2 (And.intro y3 y4))))
            clear hMB bB X16 hMC hMD kD XD hME zz p0 p1 p2' p3 p4 MA CC HST HC hap2 y0 y1 y2 y3 y4 HM HLn hol
            go_wp2_with (first | (at_builtin; refine wpList_append_k _ rfl _ _ 23 23 rfl _ _ rfl rfl (hap1 _) ?_; clear hap1 b0 b1 b2' b3 b4; obtain ⟨y0, y1, y2, y3, y4⟩ := HY.out; have hap2 := HAP2.out) | (at_builtin; refine wpList_append_k _ rfl _ _ 23 23 rfl _ _ rfl rfl (hap2 _) ?_))
            exact ⟨⟨i + 1, by omega, by omega, by go_num, Z⟩, by simp [intOf]; omega⟩
          · have hv' : (V == 0) = false := by simpa using hv
            have Z : Hid (∃ p ins outs, MO w wA NoK (FL x p (.slice (some ⟨go, 0, none⟩) j j) zs u13 ins u14 outs) ∧ LnP f zs ins p outs ∧ ins.length ≤ i + 1) := ⟨p, ins, outs, MA.out, HLn.out, by omega⟩
            clear MA CC HST HC HM HLn
            go_wp2
            exact ⟨⟨i + 1, by omega, by omega, by go_num, Z⟩, by simp [intOf]; omega⟩
        · have HM := hd hM
          obtain ⟨l1, l2⟩ := hLn.len
          have hmk := hLn.mark
          have hos := hLn.2.2.1
          have hou := hLn.2.2.2
          obtain ⟨ai, ci, e1, hIi⟩ := mo_row hM 2 rfl
          obtain ⟨ao, co, e2, hIo⟩ := mo_row hM 3 rfl
          obtain ⟨aw, cw, e3, hIw⟩ := mo_row hM 1 rfl
          have hzl : zs.length = j := HN.out.symm
          rw [hzl] at e3 hIw l1
          injection e3 with e3 e4 e5
          subst e3
          subst e5
          rw [l2] at e2 hIo
          obtain ⟨m, hm⟩ : ∃ m, ins.length = m := ⟨_, rfl⟩
          rw [hm] at e1 hIi e2 hIo hil
          subst e1 e2
          have hco1 : m ≤ co := hIo.2.1
          have hco2 : co ≤ 9223372036854775807 := hIo.2.2.1
          have hol : outs.length = m := by rw [l2, hm]
          have HOL := hd hol
          have HQL := hd l1
          have HMK := hd hmk
          have HIi := hd hIi
          have HIo := hd hIo
          have HIw := hd hIw
          have HOS := hd hos
          have HOU := hd hou
          have TW := hd (HM.out.table HT.out)
          clear hr hM hLn l1 l2 hmk hos hou hIi hIo hIw hzl e4 hm hol HE2 HO2
          cases f
          · have CW : Hid (Calls Tryd.prog 17 #[.slice ai m ci, .slice (some ⟨go, 0, none⟩) j j] wr fun e w' => ∃ gc gd cc cd, e = .returned (.tuple #[.slice (some ⟨gd, 0, none⟩) m cd, .slice (some ⟨gc, 0, none⟩) j cc, .int .i64 0]) ∧ RowO w' gc j cc p.os ∧ RowO w' gd m cd outs ∧ Below wr.heap.size wr w') := by
              refine (weave_any ai _ m ci j j ins zs wr TW.out HIi.out HIw.out (by omega) (by omega)).mono ?_
              rintro e w' ⟨g, h, cg, ch, rfl, -, -, h1, h2, h3⟩
              have e5 := HOS.out
              have e6 := HOU.out
              simp only [Bool.false_eq_true, if_false] at e5 e6
              rw [← e6] at h1
              rw [← e5] at h2
              exact ⟨h, g, ch, cg, rfl, h2, h1, h3⟩
            rcases (by omega : (¬ (i : Int) < (N2 : Int)) ∨ ((i : Int) < (N2 : Int) ∧ ¬ (i : Int) < 60)) with i1 | ⟨i1, i2⟩ <;>
            · clear hlt
              go_wp2_with fail
              refine CW.out.mono ?_
              rintro e wv ⟨gc, gd, cc, cd, rfl, hRc, hRd, bv⟩
              have hcc1 : j ≤ cc := hRc.isO.2.1
              have hcc2 : cc ≤ 9223372036854775807 := hRc.isO.2.2.1
              have hcd1 : m ≤ cd := hRd.isO.2.1
              have hcd2 : cd ≤ 9223372036854775807 := hRd.isO.2.2.1
              have MV := hd (HM.out.below bv)
              have RCv := hd hRc
              have RDv := hd hRd
              have IOv := hd (HIo.out.below bv)
              clear CW hRc hRd bv HM HIi HIo HIw HOS HOU TW
              go_wp2_with fail
              refine (mb_queue MV.out 0 rfl).mono ?_
              rintro e wq ⟨u, rfl, hA, bq⟩
              obtain ⟨gr, cr, rfl, hRr, -, hcr1, hcr2⟩ := hA.form
              rw [HQL.out] at hRr hcr2 ⊢
              have RC := hd (RCv.out.fr (S := fun _ => False) (Fr.of_below bq) (fun h => h))
              have RD := hd (RDv.out.fr (S := fun _ => False) (Fr.of_below bq) (fun h => h))
              have IOq := hd (IOv.out.below bq)
              have RR := hd hRr
              have BQ := hd (MV.out.base.trans (bq.mono MV.out.base.size))
              clear hA hRr bq MV RCv RDv IOv
              go_wp2
              go_loopw [24] (fun u wr => ∃ k : Nat, k ≤ j ∧ u = .int .i64 k ∧ Hid (Below wq.heap.size wq wr)) (fun u _ => j - (intOf u).toNat)
              case atStart => exact ⟨0, Nat.zero_le _, rfl, Below.refl _ _⟩
              case round =>
                obtain ⟨k, hk, rfl, HB⟩ := hrel
                by_cases hkn : k < j
                · have k1 : k < p.q.length := by have := HQL.out; omega
                  have k2 : k < p.os.length := by rw [Sp.os_len]; exact k1
                  have hoq : p.os[k] = p.q[k].2 := by simp [Sp.os]
                  have t1 := HMK.out k k1
                  have RCk := RC.out.fr (S := fun _ => False) (Fr.of_below HB.out) (fun h => h)
                  have RRk := RR.out.fr (S := fun _ => False) (Fr.of_below HB.out) (fun h => h)
                  obtain ⟨a0, a1, a2', a3, a4⟩ := RCk.isO.at k hkn k2
                  simp only [Nat.zero_add] at a0 a1 a2' a3 a4
                  rw [hoq] at a0 a1 a2' a3 a4
                  have b0 := RRk.cell sz_mkd k 0 k1 (by omega)
                  have b1 := RRk.cell sz_mkd k 1 k1 (by omega)
                  have b2 := RRk.cell sz_mkd k 2 k1 (by omega)
                  have b3 := RRk.cell sz_mkd k 3 k1 (by omega)
                  have b4 := RRk.cell sz_mkd k 4 k1 (by omega)
                  have b5 := RRk.cell sz_mkd k 5 k1 (by omega)
                  simp [mkd] at b0 b1 b2 b3 b4 b5
                  rw [t1] at b0
                  have gcl : gc < wr.heap.size := RCk.lt
                  have grl : gr < wr.heap.size := RRk.lt
                  generalize p.q[k] = pk at *
                  obtain ⟨pm, o0, o1, o2, o3, o4⟩ := pk
                  simp only at a0 a1 a2' a3 a4 b1 b2 b3 b4 b5
                  have i3 : (k : Int) < (j : Int) := by omega
                  have hwr : IntKind.i64.wrap ((k : Int) + 1) = (k : Int) + 1 := by rw [IntKind.wrap_i64]; omega
                  have C : Hid (∀ U, Below wr.heap.size wr U → Calls Tryd.prog 14 #[.agg #[.int .i64 o0, .int .i64 o1, .int .u8 o2, .int .i64 o3, .int .i64 o4], .agg #[.int .i64 o0, .int .i64 o1, .int .u8 o2, .int .i64 o3, .int .i64 o4]] U fun e w' => e = .returned (.bool true) ∧ Below wr.heap.size wr w') := by
                    intro U hU
                    refine (one_true ⟨o0, o1, o2, o3, o4⟩ U).mono ?_
                    rintro e w' ⟨rfl, h⟩
                    exact ⟨rfl, hU.trans (h.mono hU.size)⟩
                  have CS : Hid (∀ v, Below wr.heap.size wr v → v.cell? ⟨gc, k * 5, none⟩ = some (.int .i64 o0) ∧ v.cell? ⟨gc, k * 5 + 1, none⟩ = some (.int .i64 o1) ∧ v.cell? ⟨gc, k * 5 + 2, none⟩ = some (.int .u8 o2) ∧ v.cell? ⟨gc, k * 5 + 3, none⟩ = some (.int .i64 o3) ∧ v.cell? ⟨gc, k * 5 + 4, none⟩ = some (.int .i64 o4) ∧ v.cell? ⟨gr, k * 6, none⟩ = some (.int .i64 ((k : Int) + 1)) ∧ v.cell? ⟨gr, k * 6 + 1, none⟩ = some (.int .i64 o0) ∧ v.cell? ⟨gr, k * 6 + 2, none⟩ = some (.int .i64 o1) ∧ v.cell? ⟨gr, k * 6 + 3, none⟩ = some (.int .u8 o2) ∧ v.cell? ⟨gr, k * 6 + 4, none⟩ = some (.int .i64 o3) ∧ v.cell? ⟨gr, k * 6 + 5, none⟩ = some (.int .i64 o4)) := by
                    intro v kv
                    have cb : ∀ o, v.cell? ⟨gc, o, none⟩ = wr.cell? ⟨gc, o, none⟩ := fun o => kv.cell (p := ⟨gc, o, none⟩) gcl
                    have cd' : ∀ o, v.cell? ⟨gr, o, none⟩ = wr.cell? ⟨gr, o, none⟩ := fun o => kv.cell (p := ⟨gr, o, none⟩) grl
                    exact ⟨(cb _).trans a0, (cb _).trans a1, (cb _).trans a2', (cb _).trans a3, (cb _).trans a4, (cd' _).trans b0, (cd' _).trans b1, (cd' _).trans b2, (cd' _).trans b3, (cd' _).trans b4, (cd' _).trans b5⟩
                  clear k1 k2 hoq t1 RCk RRk gcl grl
                  go_wp2_with fail
                  go_region_held3 (fun U => U.cell? ⟨gc, k * 5, none⟩ = some (.int .i64 o0) ∧ U.cell? ⟨gc, k * 5 + 1, none⟩ = some (.int .i64 o1) ∧ U.cell? ⟨gc, k * 5 + 2, none⟩ = some (.int .u8 o2) ∧ U.cell? ⟨gc, k * 5 + 3, none⟩ = some (.int .i64 o3) ∧ U.cell? ⟨gc, k * 5 + 4, none⟩ = some (.int .i64 o4) ∧ U.cell? ⟨gr, k * 6, none⟩ = some (.int .i64 ((k : Int) + 1)) ∧ U.cell? ⟨gr, k * 6 + 1, none⟩ = some (.int .i64 o0) ∧ U.cell? ⟨gr, k * 6 + 2, none⟩ = some (.int .i64 o1) ∧ U.cell? ⟨gr, k * 6 + 3, none⟩ = some (.int .u8 o2) ∧ U.cell? ⟨gr, k * 6 + 4, none⟩ = some (.int .i64 o3) ∧ U.cell? ⟨gr, k * 6 + 5, none⟩ = some (.int .i64 o4)) (first | (with_reducible exact ⟨by assumption, by assumption, by assumption, by assumption, by assumption, by assumption, by assumption, by assumption, by assumption, by assumption, by assumption⟩) | (go_keep; done)) (first | (go_at_call 14; refine (C.out _ ?_).mono ?_; (first | exact Below.refl _ _ | exact (Below.refl _ _).drew | exact below_drewN (Below.refl _ _) _); rintro e v ⟨rfl, kv⟩; obtain ⟨m0, m1, m2, m3, m4, m5, m6, m7, m8, m9, m10⟩ := CS.out v kv; have Q3 := hd kv; clear kv))
                  go_wp2_with fail
                  exact ⟨⟨k + 1, by omega, by go_num, by repeat (first | exact HB.out.trans (Q3.out.mono HB.out.size) | refine Below.drew ?_ | refine below_drewN ?_ _)⟩, by simp [intOf]; omega⟩
                · have i3 : ¬ (k : Int) < (j : Int) := by omega
                  have RD2 := hd (RD.out.fr (S := fun _ => False) (Fr.of_below HB.out) (fun h => h))
                  have IO2 := hd (IOq.out.below HB.out)
                  have BW := hd (BQ.out.trans (HB.out.mono BQ.out.size))
                  clear RC RD IOq RR BQ HB HMK HQL
                  generalize hwz : wr = wz at *
                  clear hwz
                  go_wp2
                  go_loopw [25] (fun u wr => ∃ k : Nat, k ≤ m ∧ u = .int .i64 k ∧ Hid (Below wz.heap.size wz wr)) (fun u _ => m - (intOf u).toNat)
                  case atStart => exact ⟨0, Nat.zero_le _, rfl, Below.refl _ _⟩
                  case round =>
                    obtain ⟨k, hk, rfl, HB⟩ := hrel
                    by_cases hkn : k < m
                    · have k1 : k < outs.length := by have := HOL.out; omega
                      have RDk := RD2.out.fr (S := fun _ => False) (Fr.of_below HB.out) (fun h => h)
                      have IOk := IO2.out.below HB.out
                      obtain ⟨bo, oo, rfl, hbo⟩ := IOk.addr (by omega)
                      obtain ⟨a0, a1, a2', a3, a4⟩ := RDk.isO.at k hkn k1
                      obtain ⟨b0, b1, b2, b3, b4⟩ := IOk.at k hkn k1
                      simp only [Nat.zero_add] at a0 a1 a2' a3 a4
                      have gdl : gd < wr.heap.size := RDk.lt
                      generalize outs[k] = ok at *
                      obtain ⟨o0, o1, o2, o3, o4⟩ := ok
                      simp only at a0 a1 a2' a3 a4 b0 b1 b2 b3 b4
                      have i4 : (k : Int) < (m : Int) := by omega
                      have C : Hid (∀ U, Below wr.heap.size wr U → Calls Tryd.prog 14 #[.agg #[.int .i64 o0, .int .i64 o1, .int .u8 o2, .int .i64 o3, .int .i64 o4], .agg #[.int .i64 o0, .int .i64 o1, .int .u8 o2, .int .i64 o3, .int .i64 o4]] U fun e w' => e = .returned (.bool true) ∧ Below wr.heap.size wr w') := by
                        intro U hU
                        refine (one_true ⟨o0, o1, o2, o3, o4⟩ U).mono ?_
                        rintro e w' ⟨rfl, h⟩
                        exact ⟨rfl, hU.trans (h.mono hU.size)⟩
                      have CS : Hid (∀ v, Below wr.heap.size wr v → v.cell? ⟨gd, k * 5, none⟩ = some (.int .i64 o0) ∧ v.cell? ⟨gd, k * 5 + 1, none⟩ = some (.int .i64 o1) ∧ v.cell? ⟨gd, k * 5 + 2, none⟩ = some (.int .u8 o2) ∧ v.cell? ⟨gd, k * 5 + 3, none⟩ = some (.int .i64 o3) ∧ v.cell? ⟨gd, k * 5 + 4, none⟩ = some (.int .i64 o4) ∧ v.cell? ⟨bo, oo + k * 5, none⟩ = some (.int .i64 o0) ∧ v.cell? ⟨bo, oo + k * 5 + 1, none⟩ = some (.int .i64 o1) ∧ v.cell? ⟨bo, oo + k * 5 + 2, none⟩ = some (.int .u8 o2) ∧ v.cell? ⟨bo, oo + k * 5 + 3, none⟩ = some (.int .i64 o3) ∧ v.cell? ⟨bo, oo + k * 5 + 4, none⟩ = some (.int .i64 o4)) := by
                        intro v kv
                        have cb : ∀ o, v.cell? ⟨gd, o, none⟩ = wr.cell? ⟨gd, o, none⟩ := fun o => kv.cell (p := ⟨gd, o, none⟩) gdl
                        have cd' : ∀ o, v.cell? ⟨bo, o, none⟩ = wr.cell? ⟨bo, o, none⟩ := fun o => kv.cell (p := ⟨bo, o, none⟩) hbo
                        exact ⟨(cb _).trans a0, (cb _).trans a1, (cb _).trans a2', (cb _).trans a3, (cb _).trans a4, (cd' _).trans b0, (cd' _).trans b1, (cd' _).trans b2, (cd' _).trans b3, (cd' _).trans b4⟩
                      clear k1 RDk IOk gdl hbo
                      go_wp2_with fail
                      go_region_held3 (fun U => U.cell? ⟨gd, k * 5, none⟩ = some (.int .i64 o0) ∧ U.cell? ⟨gd, k * 5 + 1, none⟩ = some (.int .i64 o1) ∧ U.cell? ⟨gd, k * 5 + 2, none⟩ = some (.int .u8 o2) ∧ U.cell? ⟨gd, k * 5 + 3, none⟩ = some (.int .i64 o3) ∧ U.cell? ⟨gd, k * 5 + 4, none⟩ = some (.int .i64 o4) ∧ U.cell? ⟨bo, oo + k * 5, none⟩ = some (.int .i64 o0) ∧ U.cell? ⟨bo, oo + k * 5 + 1, none⟩ = some (.int .i64 o1) ∧ U.cell? ⟨bo, oo + k * 5 + 2, none⟩ = some (.int .u8 o2) ∧ U.cell? ⟨bo, oo + k * 5 + 3, none⟩ = some (.int .i64 o3) ∧ U.cell? ⟨bo, oo + k * 5 + 4, none⟩ = some (.int .i64 o4)) (first | (with_reducible exact ⟨by assumption, by assumption, by assumption, by assumption, by assumption, by assumption, by assumption, by assumption, by assumption, by assumption⟩) | (go_keep; done)) (first | (go_at_call 14; refine (C.out _ ?_).mono ?_; (first | exact Below.refl _ _ | exact (Below.refl _ _).drew | exact below_drewN (Below.refl _ _) _); rintro e v ⟨rfl, kv⟩; obtain ⟨m0, m1, m2, m3, m4, m5, m6, m7, m8, m9⟩ := CS.out v kv; have Q3 := hd kv; clear kv))
                      go_wp2_with fail
                      exact ⟨⟨k + 1, by omega, by go_num, by repeat (first | exact HB.out.trans (Q3.out.mono HB.out.size) | refine Below.drew ?_ | refine below_drewN ?_ _)⟩, by simp [intOf]; omega⟩
                    · have i4 : ¬ (k : Int) < (m : Int) := by omega
                      have Z := hd (BW.out.trans (HB.out.mono BW.out.size))
                      go_wp2
                      go_ret
                      exact ⟨rfl, Z.out⟩
          · have CW : Hid (Calls Tryd.prog 17 #[.slice (some ⟨go, 0, none⟩) j j, .slice ai m ci] wr fun e w' => ∃ gc gd cc cd, e = .returned (.tuple #[.slice (some ⟨gc, 0, none⟩) j cc, .slice (some ⟨gd, 0, none⟩) m cd, .int .i64 0]) ∧ RowO w' gc j cc p.os ∧ RowO w' gd m cd outs ∧ Below wr.heap.size wr w') := by
              refine (weave_any _ ai j j m ci zs ins wr TW.out HIw.out HIi.out (by omega) (by omega)).mono ?_
              rintro e w' ⟨g, h, cg, ch, rfl, -, -, h1, h2, h3⟩
              have e5 := HOS.out
              have e6 := HOU.out
              simp only [if_true] at e5 e6
              rw [← e5] at h1
              rw [← e6] at h2
              exact ⟨g, h, cg, ch, rfl, h1, h2, h3⟩
            rcases (by omega : (¬ (i : Int) < (N2 : Int)) ∨ ((i : Int) < (N2 : Int) ∧ ¬ (i : Int) < 60)) with i1 | ⟨i1, i2⟩ <;>
            · clear hlt
              go_wp2_with fail
              refine CW.out.mono ?_
              rintro e wv ⟨gc, gd, cc, cd, rfl, hRc, hRd, bv⟩
              have hcc1 : j ≤ cc := hRc.isO.2.1
              have hcc2 : cc ≤ 9223372036854775807 := hRc.isO.2.2.1
              have hcd1 : m ≤ cd := hRd.isO.2.1
              have hcd2 : cd ≤ 9223372036854775807 := hRd.isO.2.2.1
              have MV := hd (HM.out.below bv)
              have RCv := hd hRc
              have RDv := hd hRd
              have IOv := hd (HIo.out.below bv)
              clear CW hRc hRd bv HM HIi HIo HIw HOS HOU TW
              go_wp2_with fail
              refine (mb_queue MV.out 0 rfl).mono ?_
              rintro e wq ⟨u, rfl, hA, bq⟩
              obtain ⟨gr, cr, rfl, hRr, -, hcr1, hcr2⟩ := hA.form
              rw [HQL.out] at hRr hcr2 ⊢
              have RC := hd (RCv.out.fr (S := fun _ => False) (Fr.of_below bq) (fun h => h))
              have RD := hd (RDv.out.fr (S := fun _ => False) (Fr.of_below bq) (fun h => h))
              have IOq := hd (IOv.out.below bq)
              have RR := hd hRr
              have BQ := hd (MV.out.base.trans (bq.mono MV.out.base.size))
              clear hA hRr bq MV RCv RDv IOv
              go_wp2
              go_loopw [24] (fun u wr => ∃ k : Nat, k ≤ j ∧ u = .int .i64 k ∧ Hid (Below wq.heap.size wq wr)) (fun u _ => j - (intOf u).toNat)
              case atStart => exact ⟨0, Nat.zero_le _, rfl, Below.refl _ _⟩
              case round =>
                obtain ⟨k, hk, rfl, HB⟩ := hrel
                by_cases hkn : k < j
                · have k1 : k < p.q.length := by have := HQL.out; omega
                  have k2 : k < p.os.length := by rw [Sp.os_len]; exact k1
                  have hoq : p.os[k] = p.q[k].2 := by simp [Sp.os]
                  have t1 := HMK.out k k1
                  have RCk := RC.out.fr (S := fun _ => False) (Fr.of_below HB.out) (fun h => h)
                  have RRk := RR.out.fr (S := fun _ => False) (Fr.of_below HB.out) (fun h => h)
                  obtain ⟨a0, a1, a2', a3, a4⟩ := RCk.isO.at k hkn k2
                  simp only [Nat.zero_add] at a0 a1 a2' a3 a4
                  rw [hoq] at a0 a1 a2' a3 a4
                  have b0 := RRk.cell sz_mkd k 0 k1 (by omega)
                  have b1 := RRk.cell sz_mkd k 1 k1 (by omega)
                  have b2 := RRk.cell sz_mkd k 2 k1 (by omega)
                  have b3 := RRk.cell sz_mkd k 3 k1 (by omega)
                  have b4 := RRk.cell sz_mkd k 4 k1 (by omega)
                  have b5 := RRk.cell sz_mkd k 5 k1 (by omega)
                  simp [mkd] at b0 b1 b2 b3 b4 b5
                  rw [t1] at b0
                  have gcl : gc < wr.heap.size := RCk.lt
                  have grl : gr < wr.heap.size := RRk.lt
                  generalize p.q[k] = pk at *
                  obtain ⟨pm, o0, o1, o2, o3, o4⟩ := pk
                  simp only at a0 a1 a2' a3 a4 b1 b2 b3 b4 b5
                  have i3 : (k : Int) < (j : Int) := by omega
                  have hwr : IntKind.i64.wrap ((k : Int) + 1) = (k : Int) + 1 := by rw [IntKind.wrap_i64]; omega
                  have C : Hid (∀ U, Below wr.heap.size wr U → Calls Tryd.prog 14 #[.agg #[.int .i64 o0, .int .i64 o1, .int .u8 o2, .int .i64 o3, .int .i64 o4], .agg #[.int .i64 o0, .int .i64 o1, .int .u8 o2, .int .i64 o3, .int .i64 o4]] U fun e w' => e = .returned (.bool true) ∧ Below wr.heap.size wr w') := by
                    intro U hU
                    refine (one_true ⟨o0, o1, o2, o3, o4⟩ U).mono ?_
                    rintro e w' ⟨rfl, h⟩
                    exact ⟨rfl, hU.trans (h.mono hU.size)⟩
                  have CS : Hid (∀ v, Below wr.heap.size wr v → v.cell? ⟨gc, k * 5, none⟩ = some (.int .i64 o0) ∧ v.cell? ⟨gc, k * 5 + 1, none⟩ = some (.int .i64 o1) ∧ v.cell? ⟨gc, k * 5 + 2, none⟩ = some (.int .u8 o2) ∧ v.cell? ⟨gc, k * 5 + 3, none⟩ = some (.int .i64 o3) ∧ v.cell? ⟨gc, k * 5 + 4, none⟩ = some (.int .i64 o4) ∧ v.cell? ⟨gr, k * 6, none⟩ = some (.int .i64 ((k : Int) + 1)) ∧ v.cell? ⟨gr, k * 6 + 1, none⟩ = some (.int .i64 o0) ∧ v.cell? ⟨gr, k * 6 + 2, none⟩ = some (.int .i64 o1) ∧ v.cell? ⟨gr, k * 6 + 3, none⟩ = some (.int .u8 o2) ∧ v.cell? ⟨gr, k * 6 + 4, none⟩ = some (.int .i64 o3) ∧ v.cell? ⟨gr, k * 6 + 5, none⟩ = some (.int .i64 o4)) := by
                    intro v kv
                    have cb : ∀ o, v.cell? ⟨gc, o, none⟩ = wr.cell? ⟨gc, o, none⟩ := fun o => kv.cell (p := ⟨gc, o, none⟩) gcl
                    have cd' : ∀ o, v.cell? ⟨gr, o, none⟩ = wr.cell? ⟨gr, o, none⟩ := fun o => kv.cell (p := ⟨gr, o, none⟩) grl
                    exact ⟨(cb _).trans a0, (cb _).trans a1, (cb _).trans a2', (cb _).trans a3, (cb _).trans a4, (cd' _).trans b0, (cd' _).trans b1, (cd' _).trans b2, (cd' _).trans b3, (cd' _).trans b4, (cd' _).trans b5⟩
                  clear k1 k2 hoq t1 RCk RRk gcl grl
                  go_wp2_with fail
                  go_region_held3 (fun U => U.cell? ⟨gc, k * 5, none⟩ = some (.int .i64 o0) ∧ U.cell? ⟨gc, k * 5 + 1, none⟩ = some (.int .i64 o1) ∧ U.cell? ⟨gc, k * 5 + 2, none⟩ = some (.int .u8 o2) ∧ U.cell? ⟨gc, k * 5 + 3, none⟩ = some (.int .i64 o3) ∧ U.cell? ⟨gc, k * 5 + 4, none⟩ = some (.int .i64 o4) ∧ U.cell? ⟨gr, k * 6, none⟩ = some (.int .i64 ((k : Int) + 1)) ∧ U.cell? ⟨gr, k * 6 + 1, none⟩ = some (.int .i64 o0) ∧ U.cell? ⟨gr, k * 6 + 2, none⟩ = some (.int .i64 o1) ∧ U.cell? ⟨gr, k * 6 + 3, none⟩ = some (.int .u8 o2) ∧ U.cell? ⟨gr, k * 6 + 4, none⟩ = some (.int .i64 o3) ∧ U.cell? ⟨gr, k * 6 + 5, none⟩ = some (.int .i64 o4)) (first | (with_reducible exact ⟨by assumption, by assumption, by assumption, by assumption, by assumption, by assumption, by assumption, by assumption, by assumption, by assumption, by assumption⟩) | (go_keep; done)) (first | (go_at_call 14; refine (C.out _ ?_).mono ?_; (first | exact Below.refl _ _ | exact (Below.refl _ _).drew | exact below_drewN (Below.refl _ _) _); rintro e v ⟨rfl, kv⟩; obtain ⟨m0, m1, m2, m3, m4, m5, m6, m7, m8, m9, m10⟩ := CS.out v kv; have Q3 := hd kv; clear kv))
                  go_wp2_with fail
                  exact ⟨⟨k + 1, by omega, by go_num, by repeat (first | exact HB.out.trans (Q3.out.mono HB.out.size) | refine Below.drew ?_ | refine below_drewN ?_ _)⟩, by simp [intOf]; omega⟩
                · have i3 : ¬ (k : Int) < (j : Int) := by omega
                  have RD2 := hd (RD.out.fr (S := fun _ => False) (Fr.of_below HB.out) (fun h => h))
                  have IO2 := hd (IOq.out.below HB.out)
                  have BW := hd (BQ.out.trans (HB.out.mono BQ.out.size))
                  clear RC RD IOq RR BQ HB HMK HQL
                  generalize hwz : wr = wz at *
                  clear hwz
                  go_wp2
                  go_loopw [25] (fun u wr => ∃ k : Nat, k ≤ m ∧ u = .int .i64 k ∧ Hid (Below wz.heap.size wz wr)) (fun u _ => m - (intOf u).toNat)
                  case atStart => exact ⟨0, Nat.zero_le _, rfl, Below.refl _ _⟩
                  case round =>
                    obtain ⟨k, hk, rfl, HB⟩ := hrel
                    by_cases hkn : k < m
                    · have k1 : k < outs.length := by have := HOL.out; omega
                      have RDk := RD2.out.fr (S := fun _ => False) (Fr.of_below HB.out) (fun h => h)
                      have IOk := IO2.out.below HB.out
                      obtain ⟨bo, oo, rfl, hbo⟩ := IOk.addr (by omega)
                      obtain ⟨a0, a1, a2', a3, a4⟩ := RDk.isO.at k hkn k1
                      obtain ⟨b0, b1, b2, b3, b4⟩ := IOk.at k hkn k1
                      simp only [Nat.zero_add] at a0 a1 a2' a3 a4
                      have gdl : gd < wr.heap.size := RDk.lt
                      generalize outs[k] = ok at *
                      obtain ⟨o0, o1, o2, o3, o4⟩ := ok
                      simp only at a0 a1 a2' a3 a4 b0 b1 b2 b3 b4
                      have i4 : (k : Int) < (m : Int) := by omega
                      have C : Hid (∀ U, Below wr.heap.size wr U → Calls Tryd.prog 14 #[.agg #[.int .i64 o0, .int .i64 o1, .int .u8 o2, .int .i64 o3, .int .i64 o4], .agg #[.int .i64 o0, .int .i64 o1, .int .u8 o2, .int .i64 o3, .int .i64 o4]] U fun e w' => e = .returned (.bool true) ∧ Below wr.heap.size wr w') := by
                        intro U hU
                        refine (one_true ⟨o0, o1, o2, o3, o4⟩ U).mono ?_
                        rintro e w' ⟨rfl, h⟩
                        exact ⟨rfl, hU.trans (h.mono hU.size)⟩
                      have CS : Hid (∀ v, Below wr.heap.size wr v → v.cell? ⟨gd, k * 5, none⟩ = some (.int .i64 o0) ∧ v.cell? ⟨gd, k * 5 + 1, none⟩ = some (.int .i64 o1) ∧ v.cell? ⟨gd, k * 5 + 2, none⟩ = some (.int .u8 o2) ∧ v.cell? ⟨gd, k * 5 + 3, none⟩ = some (.int .i64 o3) ∧ v.cell? ⟨gd, k * 5 + 4, none⟩ = some (.int .i64 o4) ∧ v.cell? ⟨bo, oo + k * 5, none⟩ = some (.int .i64 o0) ∧ v.cell? ⟨bo, oo + k * 5 + 1, none⟩ = some (.int .i64 o1) ∧ v.cell? ⟨bo, oo + k * 5 + 2, none⟩ = some (.int .u8 o2) ∧ v.cell? ⟨bo, oo + k * 5 + 3, none⟩ = some (.int .i64 o3) ∧ v.cell? ⟨bo, oo + k * 5 + 4, none⟩ = some (.int .i64 o4)) := by
                        intro v kv
                        have cb : ∀ o, v.cell? ⟨gd, o, none⟩ = wr.cell? ⟨gd, o, none⟩ := fun o => kv.cell (p := ⟨gd, o, none⟩) gdl
                        have cd' : ∀ o, v.cell? ⟨bo, o, none⟩ = wr.cell? ⟨bo, o, none⟩ := fun o => kv.cell (p := ⟨bo, o, none⟩) hbo
                        exact ⟨(cb _).trans a0, (cb _).trans a1, (cb _).trans a2', (cb _).trans a3, (cb _).trans a4, (cd' _).trans b0, (cd' _).trans b1, (cd' _).trans b2, (cd' _).trans b3, (cd' _).trans b4⟩
                      clear k1 RDk IOk gdl hbo
                      go_wp2_with fail
                      go_region_held3 (fun U => U.cell? ⟨gd, k * 5, none⟩ = some (.int .i64 o0) ∧ U.cell? ⟨gd, k * 5 + 1, none⟩ = some (.int .i64 o1) ∧ U.cell? ⟨gd, k * 5 + 2, none⟩ = some (.int .u8 o2) ∧ U.cell? ⟨gd, k * 5 + 3, none⟩ = some (.int .i64 o3) ∧ U.cell? ⟨gd, k * 5 + 4, none⟩ = some (.int .i64 o4) ∧ U.cell? ⟨bo, oo + k * 5, none⟩ = some (.int .i64 o0) ∧ U.cell? ⟨bo, oo + k * 5 + 1, none⟩ = some (.int .i64 o1) ∧ U.cell? ⟨bo, oo + k * 5 + 2, none⟩ = some (.int .u8 o2) ∧ U.cell? ⟨bo, oo + k * 5 + 3, none⟩ = some (.int .i64 o3) ∧ U.cell? ⟨bo, oo + k * 5 + 4, none⟩ = some (.int .i64 o4)) (first | (with_reducible exact ⟨by assumption, by assumption, by assumption, by assumption, by assumption, by assumption, by assumption, by assumption, by assumption, by assumption⟩) | (go_keep; done)) (first | (go_at_call 14; refine (C.out _ ?_).mono ?_; (first | exact Below.refl _ _ | exact (Below.refl _ _).drew | exact below_drewN (Below.refl _ _) _); rintro e v ⟨rfl, kv⟩; obtain ⟨m0, m1, m2, m3, m4, m5, m6, m7, m8, m9⟩ := CS.out v kv; have Q3 := hd kv; clear kv))
                      go_wp2_with fail
                      exact ⟨⟨k + 1, by omega, by go_num, by repeat (first | exact HB.out.trans (Q3.out.mono HB.out.size) | refine Below.drew ?_ | refine below_drewN ?_ _)⟩, by simp [intOf]; omega⟩
                    · have i4 : ¬ (k : Int) < (m : Int) := by omega
                      have Z := hd (BW.out.trans (HB.out.mono BW.out.size))
                      go_wp2
                      go_ret
                      exact ⟨rfl, Z.out⟩

end Go.Proofs.YtmbnimlibnheeaaDoor
