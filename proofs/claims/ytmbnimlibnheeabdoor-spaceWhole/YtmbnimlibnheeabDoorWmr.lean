/-
  makes: behind the choice of the operation.
-/
import Derived.Test.YtmbnimlibnheeabDoorWa2
import Derived.Deep.QuietTactic
import Derived.BigQuiet
namespace Go.Proofs.YtmbnimlibnheeabDoor
open Go.RowKit Go.Lib
set_option linter.unusedVariables false

/-- The number of the first region. -/
def regOfV : Code → Option Nat
  | .region n _ _ => some n
  | .seq a _ => regOfV a
  | _ => none
/-- The rest of a sequence, from the region on. -/
def restAtV (n : Nat) : Code → Option Code
  | .seq a b => if regOfV a = some n then some (.seq a b) else restAtV n b
  | _ => none
noncomputable def makes9 : Code := (Tryd.f20.body.bind (restAtV 9)).getD .skip

set_option maxRecDepth 100000 in
set_option maxHeartbeats 8000000 in
theorem makes_restV (B : Nat) (T : Nat → Prop) (w wk : World) (x z bo : Nat) (s : Sd) (base : Int) (at' : Option Addr) (ct : Nat) (aw : Option Addr) (nw cw : Nat) (βt : Option Nat) (m n : Nat) (hm : m < 1000) (hlen : n < 3000) (hway : s.way.length ≤ 10000) (hn : s.d.length = n) (hmm : s.made = m) (hv1 : ∀ pc ∈ s.way, VO pc.o) (ho1 : ∀ k, T k → B ≤ k ∧ k < w.heap.size) (htx : T x) (hbo : w.heap.size < bo) (G0 : List El) (hcut : Hid (MKG T w wk x z s base (.slice at' s.d.length ct) aw nw cw βt bo m n G0)) (u1 u3 u9 u10 u11 u12 u13 u14 u15 u16 u17 u18 u19 u20 u21 u22 u23 u24 u25 u26 u27 u28 u29 u30 u31 u32 u33 u34 u35 u36 u37 u38 u39 u40 u41 u42 u43 u44 u45 u46 u47 u48 u49 u50 u51 u52 u53 u54 u55 u56 u57 u58 u59 u60 u61 u62 u63 u64 u65 u66 u67 u68 u69 u70 u71 u72 u73 u74 u75 u76 u77 u78 u79 u80 u81 u82 u83 u84 u85 u86 u87 u88 u89 u90 u91 u92 u93 u94 u95 u96 u97 u98 u99 u100 u101 u102 u103 u104 u105 u106 u107 u108 u109 u110 u111 u112 u113 u114 u115 u116 u117 u118 u119 u120 u121 u122 u123 u124 u125 u126 u127 u128 u129 u130 u131 u132 u133 u134 u135 u136 u137 u138 u139 u140 u141 u142 u143 u144 u145 u146 u147 u148 u149 u150 u151 : Value) :
    Code.wp Tryd.prog makes9 (bodyPost Tryd.prog Tryd.f20 fun e w' => e = .returned (.bool true) ∧ Hid (∃ o T' G' vt' βt', FitO s.d.length o ∧ VO o ∧ KG s.d base s.made G0 o G' ∧ SAV B T' w' x (s.make o) base vt' βt' G' ∧ (∀ k, T' k → (T k ∧ βt ≠ some k) ∨ w.heap.size ≤ k) ∧ Fr T w w' ∧ SE w' βt (.slice at' s.d.length ct) s.d)) ⟨#[.pointer (some ⟨x, 0, none⟩), u1, undef, u3, .bool false, .pointer (some ⟨bo, 0, none⟩), undef, undef, undef, u9, u10, u11, u12, u13, u14, u15, u16, u17, u18, u19, u20, u21, u22, u23, u24, u25, u26, u27, u28, u29, u30, u31, u32, u33, u34, u35, u36, u37, u38, u39, u40, u41, u42, u43, u44, u45, u46, u47, u48, u49, u50, u51, u52, u53, u54, u55, u56, u57, u58, u59, u60, u61, u62, u63, u64, u65, u66, u67, u68, u69, u70, u71, u72, u73, u74, u75, u76, u77, u78, u79, u80, u81, u82, u83, u84, u85, u86, u87, u88, u89, u90, u91, u92, u93, u94, u95, u96, u97, u98, u99, u100, u101, u102, u103, u104, u105, u106, u107, u108, u109, u110, u111, u112, u113, u114, u115, u116, u117, u118, u119, u120, u121, u122, u123, u124, u125, u126, u127, u128, u129, u130, u131, u132, u133, u134, u135, u136, u137, u138, u139, u140, u141, u142, u143, u144, u145, u146, u147, u148, u149, u150, u151], []⟩ wk := by
  have H5 := hd (And.intro hv1 (And.intro ho1 (And.intro htx (And.intro hbo (And.intro hn hmm)))))
  clear hv1 ho1 htx hbo hn hmm
  conv => arg 2; whnf
  obtain ⟨o, T', vg', βg', G', hf, hv, K, hG, hT1, hT2, Xo, Fk, hKG⟩ := hcut.out
  obtain ⟨ok, op, oc, ol, oq⟩ := o
  have HKG := hd hKG
  clear hKG
  obtain ⟨hn, hmm⟩ := H5.out.2.2.2.2
  have ho1 := H5.out.2.1
  obtain ⟨hft, hval⟩ := hv.fits hf (by omega)
  obtain ⟨af, cf, hvf, hEf, -⟩ := K.te.form
  injection hvf with hv1' hv2' hv3'
  subst hv1' hv3'
  obtain ⟨⟨e0, -⟩, -⟩ := K.cells
  obtain ⟨⟨y0, y1, y2, y3, y4⟩, -⟩ := cells5 (show wk.heap[bo]? = some (.cells #[.int .i64 ok, .int .i64 op, .int .u8 oc, .int .i64 ol, .int .i64 oq] 37 (0, 0)) from Xo)
  have xl := K.lt
  have yl := block_lt Xo
  have hfd : FitO s.d.length ⟨ok, op, oc, ol, oq⟩ := by rw [hn]; exact hf
  have CA : Hid (∀ V, Below wk.heap.size wk V → Calls Tryd.prog 23 #[.slice at' s.d.length ct, .agg #[.int .i64 ok, .int .i64 op, .int .u8 oc, .int .i64 ol, .int .i64 oq]] V fun e w' => ∃ g N C, e = .returned (.tuple #[.slice (some ⟨g, 0, none⟩) N C, .int .i64 0]) ∧ Hid (wk.heap.size ≤ g ∧ SE w' (some g) (.slice (some ⟨g, 0, none⟩) N C) (putP s.d ⟨ok, op, oc, ol, oq⟩) ∧ Below wk.heap.size wk w')) := by
    intro V hV
    refine (apply_good at' s.d.length ct ok op oc ol oq s.d V (hEf.below hV) hv.ok.1 hv.ok.2 (by rw [hn]; exact hft)).mono ?_
    rintro e w' ⟨v, rfl, hO, hB⟩
    obtain ⟨g, hg, C, rfl, hR⟩ := hO
    exact ⟨g, _, C, rfl, Nat.le_trans hV.size hg, ⟨C, by rw [← putP_apply hfd], by rw [← putP_apply hfd]; exact hR⟩, hV.trans (hB.mono hV.size)⟩
  have HK := hd (And.intro K (And.intro hG (And.intro hT1 (And.intro hT2 (And.intro Xo (And.intro Fk (And.intro hfd (And.intro hv (And.intro hval (And.intro ho1 (And.intro hn hmm)))))))))))
  clear K hG hT1 hT2 Xo Fk hf hv hft hval hEf hv2' hfd hn hmm ho1 hcut
  go_wp2_with fail
  go_cut [6, 7] (fun v e wx => e = .int .i64 0 ∧ ∃ g N C, v = .slice (some ⟨g, 0, none⟩) N C ∧ Hid (wk.heap.size ≤ g ∧ SE wx (some g) (.slice (some ⟨g, 0, none⟩) N C) (putP s.d ⟨ok, op, oc, ol, oq⟩) ∧ Below wk.heap.size wk wx))
  case first =>
    go_region_law (first | (go_simp; go_at_call 23; refine (CA.out _ (by repeat (first | exact Below.refl _ _ | refine Below.drew ?_ | refine below_drewN ?_ _ | refine Below.alloc ?_ (by simp) _))).mono ?_; rintro ex w3 ⟨g, N, C, rfl, k3⟩))
    all_goals
      go_wp2_with fail
      go_meet
      exact ⟨rfl, _, _, _, rfl, k3⟩
  case rest =>
    obtain ⟨w7, rfl⟩ : ∃ u, u = wc := ⟨wc, rfl⟩
    obtain ⟨rfl, g, N', C, rfl, h7⟩ := hcut
    obtain ⟨hg7, hE7, b7⟩ := h7.out
    obtain ⟨K, hG, hT1, hT2, Xo, Fk, hfd, hv, hval, ho1, hn, hmm⟩ := HK.out
    have gl := (hE7.tg rfl).lt
    have HNE := hd (show βg' ≠ some g from fun he => by have := (hT2 g (K.gt g he)).2.1; omega)
    have HOL := hd (And.intro K.ne (show ∀ k, βt = some k → k < wk.heap.size from fun k hk => (hT2 k (K.tt k hk)).2.1))
    have HGW := hd hg7
    have HGL := hd hG
    have HFV := hd (And.intro hfd hv)
    have K7 := (K.below b7).mono (T' := TB T' wk.heap.size w7.heap.size) (fun k hk => .inl hk)
    have K8 := K7.setMade ((m : Int) + 1)
    obtain ⟨w8, hw8⟩ : ∃ u, u = w7.setCell ⟨x, 2, none⟩ (.int .i64 ((m : Int) + 1)) := ⟨_, rfl⟩
    rw [← hw8] at K8
    have F8 : Fr (· = x) w7 w8 := by rw [hw8]; exact Fr.setCell _ _ _ rfl
    have hkz := Fk.size
    have hb7 := b7.size
    have h8z := F8.size
    have nxo : x ≠ bo := (hT2 x K.tx).2.2
    have Xo8 := F8.keeps ((b7.block _ (block_lt Xo)).trans Xo) (fun he => nxo he.symm)
    have hE8 := hE7.fr F8 (fun k hk => (hE7.tg hk).ne K7.tg (by decide))
    obtain ⟨S, hS, hSs⟩ := K8.sp.at
    have hold8 : ∀ k, TB T' wk.heap.size w7.heap.size k → k < w8.heap.size ∧ k ≠ bo ∧ (T k ∨ w.heap.size ≤ k) := by
      have := block_lt Xo
      rintro k (hk | hk)
      · obtain ⟨h1, h2, h3⟩ := hT2 k hk
        exact ⟨by omega, h3, h1⟩
      · have := hkz
        exact ⟨by omega, by omega, .inr (by omega)⟩
    have CK : Hid (∀ V, Below w8.heap.size w8 V → Calls Tryd.prog 25 #[.pointer (some ⟨z, 0, none⟩), .int .i64 ((m : Int) + 1), .agg #[.int .i64 ok, .int .i64 op, .int .u8 oc, .int .i64 ol, .int .i64 oq]] V fun e w' => e = .returned (.int .i64 0) ∧ Hid (∃ T9, SC T9 w' x z s.d ⟨s.f, s.q ++ [((m : Int) + 1, ⟨ok, op, oc, ol, oq⟩)], (m : Int) + 1⟩ ((m : Int) + 1) s.took base s.way (.slice at' s.d.length ct) aw nw cw vg' βt βg' G' ∧ (∀ k, T9 k → k < w'.heap.size ∧ (T k ∨ w.heap.size ≤ k)) ∧ T9 g ∧ (∀ k, T k → T9 k) ∧ SE w' (some g) (.slice (some ⟨g, 0, none⟩) N' C) (putP s.d ⟨ok, op, oc, ol, oq⟩) ∧ w'.heap[bo]? = some (.cells #[.int .i64 ok, .int .i64 op, .int .u8 oc, .int .i64 ol, .int .i64 oq] 37 (0, 0)) ∧ Fr T w w')) := by
      intro V hV
      have hVz := hV.size
      have hFV : Fr (fun _ => False) w8 V := Fr.of_below hV
      have hSV : ∀ k, S k → SpS (TB T' wk.heap.size w7.heap.size) V k := fun k hk => by
        obtain ⟨a, b⟩ := hSs k hk
        exact ⟨a, b.imp (fun h => h.fr hFV (fun h => h)) (fun b => b.imp (fun h => h.fr hFV (fun h => h)) (fun h => h.fr hFV (fun h => h)))⟩
      refine (keep_any z ⟨s.f, s.q, s.made⟩ ((m : Int) + 1) ⟨ok, op, oc, ol, oq⟩ S V (hS.below hV) hv.ok).mono ?_
      rintro e w' ⟨rfl, S', hA', h2', hF'⟩
      have hz' := hF'.size
      have hk : keepE ⟨s.f, s.q, s.made⟩ ((m : Int) + 1) ⟨ok, op, oc, ol, oq⟩ = 0 := by
        rw [keepE, if_neg (by rw [hval]; omega), if_neg (by simp only; omega)]
      have hks : keepS ⟨s.f, s.q, s.made⟩ ((m : Int) + 1) ⟨ok, op, oc, ol, oq⟩ = ⟨s.f, s.q ++ [((m : Int) + 1, ⟨ok, op, oc, ol, oq⟩)], (m : Int) + 1⟩ := by rw [keepS, if_pos hk]
      rw [hks] at hA'
      have nS : ∀ k t, Tg V k t → t ≠ 72 → t ≠ 3 → t ≠ 37 → ¬ S k := fun k t hk' h1 h2 h3 hs => (hSV k hs).not hk' h1 h2 h3 rfl
      have hEV := hE8.below hV
      have FW : Fr T w w' := by
        have f1 : Fr T w w8 := (Fk.trans (Fr.of_below b7)).next F8 (fun j hj he => by
          rcases (hT2 x K.tx).1 with h | h
          · exact he ▸ h
          · omega)
        refine (f1.trans (Fr.of_below hV)).next hF' (fun j hj hs => ?_)
        rcases (hold8 j (hSs j hs).1).2.2 with h | h
        · exact h
        · omega
      refine ⟨by rw [hk], TB (TB T' wk.heap.size w7.heap.size) V.heap.size w'.heap.size, (K8.below hV).space hSV hA' hF' (fun k hk => .inl hk) (fun k hk => ?_), ?_, .inl (.inr ⟨hg7, gl⟩), fun k hk => .inl (.inl (hT1 k hk)), hEV.fr hF' (fun k hk => nS _ _ (hEV.tg hk) (by decide) (by decide) (by decide)), hF'.keeps ((hV.block _ (block_lt Xo8)).trans Xo8) (fun hs => (hold8 _ (hSs _ hs).1).2.1 rfl), FW⟩
      · rcases h2' k hk with h | h
        · exact .inl (hSs k h).1
        · exact .inr ⟨h, hA'.1.old k hk⟩
      · rintro k (hk | hk)
        · have := hold8 k hk
          exact ⟨by omega, this.2.2⟩
        · have := hkz
          exact ⟨hk.2, .inr (by omega)⟩
    obtain ⟨⟨-, -, i2, -⟩, fx7⟩ := K7.cells
    have fx2 := fx7 2
    rw [hmm] at i2
    have xl7 := K7.lt
    obtain ⟨⟨-, j1, j2, -⟩, -⟩ := K8.cells
    obtain ⟨⟨o0, o1, o2, o3, o4⟩, -⟩ := cells5 (show w8.heap[bo]? = some (.cells #[.int .i64 ok, .int .i64 op, .int .u8 oc, .int .i64 ol, .int .i64 oq] 37 (0, 0)) from Xo8)
    have xl8 := K8.lt
    have ol8 := block_lt Xo8
    have hwm : IntKind.i64.wrap ((m : Int) + 1) = (m : Int) + 1 := by rw [IntKind.wrap_i64]; omega
    have HW8 := hd hw8
    clear hg7 hE7 b7 K hG hT1 hT2 Xo Fk hfd hv hval ho1 hn hmm gl K7 K8 F8 hkz hb7 h8z nxo Xo8 hE8 S hS hSs hold8 fx7 hw8 h7 CA e0 y0 y1 y2 y3 y4 xl yl
    go_wp2_with fail
    rw [← HW8.out]
    go_cut [8] (fun v wx => v = .int .i64 0 ∧ Hid (∃ T9, SC T9 wx x z s.d ⟨s.f, s.q ++ [((m : Int) + 1, ⟨ok, op, oc, ol, oq⟩)], (m : Int) + 1⟩ ((m : Int) + 1) s.took base s.way (.slice at' s.d.length ct) aw nw cw vg' βt βg' G' ∧ (∀ k, T9 k → k < wx.heap.size ∧ (T k ∨ w.heap.size ≤ k)) ∧ T9 g ∧ (∀ k, T k → T9 k) ∧ SE wx (some g) (.slice (some ⟨g, 0, none⟩) N' C) (putP s.d ⟨ok, op, oc, ol, oq⟩) ∧ wx.heap[bo]? = some (.cells #[.int .i64 ok, .int .i64 op, .int .u8 oc, .int .i64 ol, .int .i64 oq] 37 (0, 0)) ∧ Fr T w wx))
    case first =>
      go_region_law (first | (go_simp; go_at_call 25; refine (CK.out _ (by repeat (first | exact Below.refl _ _ | refine Below.drew ?_ | refine below_drewN ?_ _ | refine Below.alloc ?_ (by simp) _))).mono ?_; rintro ex w3 ⟨rfl, k3⟩))
      all_goals
        go_wp2_with fail
        go_meet
        exact ⟨rfl, k3⟩
    case rest =>
      obtain ⟨w9, rfl⟩ : ∃ u, u = wc := ⟨wc, rfl⟩
      obtain ⟨rfl, h9⟩ := hcut
      obtain ⟨T9, K9, hT9, hTg, hTT, hE9, X9, F9⟩ := h9.out
      have hmm := H5.out.2.2.2.2.2
      have ho1 := H5.out.2.1
      have hv1 := H5.out.1
      have K10 := K9.setText hE9 hTg HNE.out
      obtain ⟨w10, hw10⟩ : ∃ u, u = w9.setCell ⟨x, 0, none⟩ (.slice (some ⟨g, 0, none⟩) N' C) := ⟨_, rfl⟩
      rw [← hw10] at K10
      have F10 : Fr (· = x) w9 w10 := by rw [hw10]; exact Fr.setCell _ _ _ rfl
      have nxo : bo ≠ x := by
        have := (H5.out.2.1 x H5.out.2.2.1).2
        have := H5.out.2.2.2.1
        omega
      have X10 := F10.keeps X9 nxo
      have hw9z := F9.size
      have hw10z := F10.size
      have hnw : nw ≤ 10000 := by have := K9.wy.1; omega
      obtain ⟨a4, c4, wb, hr, ⟨u1, u2, u3⟩, K13, sz13, F13⟩ := SC.send2 K10 (pc := ⟨(m : Int) + 1, s.took, ⟨ok, op, oc, ol, oq⟩⟩) (((Below.refl _ _).drew).alloc (Nat.le_refl _) (.cells #[.int .i64 ((m : Int) + 1), .int .i64 s.took, .int .i64 ok, .int .i64 op, .int .u8 oc, .int .i64 ol, .int .i64 oq] 39)) (heap_alloc_new w10.drew _) hnw
      obtain ⟨W13, hW13⟩ : ∃ u, u = wb.setCell ⟨x, 4, none⟩ (.slice a4 (nw + 1) c4) := ⟨_, rfl⟩
      rw [← hW13] at K13 F13
      have szA : (w10.drew.alloc (.cells #[.int .i64 ((m : Int) + 1), .int .i64 s.took, .int .i64 ok, .int .i64 op, .int .u8 oc, .int .i64 ol, .int .i64 oq] 39)).heap.size = w10.heap.size + 1 := by simp
      have hTx : T x := H5.out.2.2.1
      have hBw : ∀ k, TB T9 w10.heap.size wb.heap.size k → (T k ∨ w.heap.size ≤ k) ∧ k < W13.heap.size := by
        have h13 := F13.size
        have hwb : wb.heap.size ≤ W13.heap.size := by rw [hW13]; simp
        rintro k (hk | hk)
        · have := hT9 k hk
          exact ⟨this.2, by omega⟩
        · exact ⟨.inr (by omega), by omega⟩
      have F14 : Fr T w W13 := ((F9.next F10 (fun j _ he => he ▸ hTx))).next F13 (fun j hj hs => by
        rcases (hT9 j hs.1).2 with h | h
        · exact h
        · omega)
      have O10 := K9.te.fr F10 (fun k hk => (K9.te.tg hk).ne K9.tg (by decide))
      have O13 := O10.fr F13 (fun k hk he => he.2 (O10.tg hk))
      have Z : Hid (∀ mm, ∃ o T' G' vt' βt', FitO s.d.length o ∧ VO o ∧ KG s.d base s.made G0 o G' ∧ SAV B T' (W13.drewN mm) x (s.make o) base vt' βt' G' ∧ (∀ k, T' k → (T k ∧ βt ≠ some k) ∨ w.heap.size ≤ k) ∧ Fr T w (W13.drewN mm) ∧ SE (W13.drewN mm) βt (.slice at' s.d.length ct) s.d) := by
        intro mm
        refine ⟨⟨ok, op, oc, ol, oq⟩, fun k => TB T9 w10.heap.size wb.heap.size k ∧ βt ≠ some k, G', .slice (some ⟨g, 0, none⟩) N' C, some g, HFV.out.1, HFV.out.2, by rw [hmm]; exact HKG.out, ⟨z, a4, nw + 1, c4, vg', βg', ?_, ?_, ?_, ?_⟩, fun k hk => (hBw k hk.1).1.imp (fun h => ⟨h, hk.2⟩) id, F14.trans (Fr.drewN _ _ _), O13.fr (S := fun _ => False) (Fr.drewN _ _ _) (fun _ _ h => h)⟩
        · have e1 : ((s.make ⟨ok, op, oc, ol, oq⟩).made : Int) = (m : Int) + 1 := by simp [Sd.make, hmm]
          rw [e1]
          have h13 := K13.fr (S := fun _ => False) (Fr.drewN _ W13 mm) (fun _ _ h => h)
          have := h13.dropO βt (fun k hk => (O13.tg hk).fr (S := fun _ => False) (Fr.drewN _ W13 mm) (fun h => h)) (fun k hk he => by have h1 := Option.some.inj he; have h2 := HOL.out.2 k hk; have h3 := HGW.out; omega) (fun k hk he => HOL.out.1 k he hk)
          simpa [Sd.make, hmm] using this
        · intro pc hpc
          simp only [Sd.make, List.mem_append, List.mem_singleton] at hpc
          rcases hpc with h | rfl
          · exact hv1 pc h
          · exact HFV.out.2
        · have := HGL.out
          simp only [Sd.make]
          omega
        · intro k hk
          have := hBw k hk.1
          refine ⟨?_, this.2⟩
          rcases this.1 with h | h
          · exact (ho1 k h).1
          · have := (ho1 x hTx)
            omega
      obtain ⟨⟨i0, -⟩, fx9⟩ := K9.cells
      have fx0 := fx9 0
      have xl9 := K9.lt
      obtain ⟨⟨-, -, j2, j3, j4, -⟩, -⟩ := K10.cells
      obtain ⟨⟨o0, o1, o2, o3, o4⟩, -⟩ := cells5 X10
      have xl10 := K10.lt
      have ol10 := block_lt X10
      obtain ⟨⟨-, q1, q2, -⟩, -⟩ := K13.cells
      obtain ⟨S, hS, -⟩ := K13.sp.at
      have xl13 := K13.lt
      have HL : Hid (∀ mm, SpAt (W13.drewN mm) z ⟨s.f, s.q ++ [((m : Int) + 1, ⟨ok, op, oc, ol, oq⟩)], (m : Int) + 1⟩ S) := fun mm => hS.fr (T := fun _ => False) (Fr.drewN _ _ _) (fun _ _ h => h)
      have HQ := hd (And.intro q1 (And.intro q2 xl13))
      have HW10 := hd hw10
      have HW13 := hd hW13
      rw [show w10.drew.heap.size = w10.heap.size from rfl] at hr
      clear O10 O13 K9 hT9 hTg hTT hE9 X9 F9 K10 F10 X10 hw9z hw10z K13 sz13 F13 szA hBw F14 fx9 hS hw10 hW13 h9 CK q1 q2 xl13 HK HW8 ho1 hv1
      go_wp2_with fail
      rw [← HW10.out]
      go_cut [] (fun wx => wx = W13)
      case first =>
        go_region_law (refine step_append_k rfl (.tmp 119) (.tmp 130) 28 28 rfl _ _ (by simp [Act.eval]) (by simp [Act.eval]) (hr _) ?_)
        all_goals
          go_wp2_with fail
          go_meet
          exact HW13.out.symm
      case rest =>
        obtain rfl := hcut
        obtain ⟨q1, q2, xl13⟩ := HQ.out
        clear hr u1 u2 u3 i0 fx0 xl9 j2 j3 j4 o0 o1 o2 o3 o4 xl10 ol10
        go_wp2_with fail
        go_quiet ((go_at_call 14; exact Calls.quiet_of_same (last_any z _ S _ (HL.out _))))
        go_wp2
        go_ret
        exact ⟨rfl, Z.out _⟩

end Go.Proofs.YtmbnimlibnheeabDoor
