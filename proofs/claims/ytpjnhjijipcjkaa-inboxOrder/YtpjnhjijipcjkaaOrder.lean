/-
  InboxOrder.
-/
import Derived.Test.YtpjnhjijipcjkaaOr
import Derived.Test.YtpjnhjijipcjkaaFx
import Derived.Deep.DeepCutAuto
namespace Go.Proofs.Ytpjnhjijipcjkaa
open Go.RowKit
set_option linter.unusedVariables false

theorem order_laid {w0 w : World} {x y : Nat} (h : MO w0 w NoK (setO (setO noF 0 (inO x ⟨20, 0, []⟩)) 1 (inO y ⟨20, 0, []⟩))) (cur : Array Value) (hc : cur = Array.replicate 21 (.bool false)) : MO w0 (w.alloc (.cells cur 59)) NoK (FR x ⟨20, 0, []⟩ y ⟨20, 0, []⟩ (.slice none 0 0) [] w.heap.size (fun _ => false)) := by
  have h1 := h.put 3 (w' := w.alloc (.cells cur 59)) (frm_seen w.heap.size (fun _ => false)) (S' := (· = w.heap.size)) ⟨⟨cur, heap_alloc_new _ _, by rw [hc]; simp, fun i hi => by rw [hc, Array.getElem?_replicate, if_pos hi]⟩, rfl, fun k hk => by rw [hk]; simp⟩ (fun k hk => by rw [hk]; omega) ((Below.refl _ _).alloc (Nat.le_refl _) _)
  have h2 := h1.put 2 (frm_row (.slice none 0 0) []) (S' := fun _ => False) (w' := w.alloc (.cells cur 59)) ⟨none, ⟨rfl, rfl⟩, (fun g h => by cases h), fun k hk => hk.elim⟩ (fun k hk => hk.elim) (Below.refl _ _)
  refine cast ?_ h2
  congr 1
  funext j
  rcases j with _ | _ | _ | _ | j <;> simp [setO, FR, noF]

/-- The list so far. -/
structure OS (ls : List Nat) (B : Nat → Bool) : Prop where
  nd : ls.Nodup
  rg : ∀ m ∈ ls, 1 ≤ m ∧ m ≤ 20
  sn : ∀ m, B m = decide (m ∈ ls)
theorem OS.len {ls : List Nat} {B : Nat → Bool} (h : OS ls B) : ls.length ≤ 20 := few_keys 20 0 ls (fun q hq => by have := h.rg q hq; omega) h.nd
theorem OS.snoc {ls : List Nat} {B : Nat → Bool} (h : OS ls B) {m : Nat} (h1 : 1 ≤ m) (h2 : m ≤ 20) (hm : B m = false) : OS (ls ++ [m]) (upd B m true) := by
  have hn : m ∉ ls := by rw [h.sn] at hm; simpa using hm
  refine ⟨List.nodup_append.2 ⟨h.nd, by simp, fun a ha b hb => by simp at hb; subst hb; exact fun e => hn (e ▸ ha)⟩, fun k hk => ?_, fun k => ?_⟩
  · simp at hk
    rcases hk with hk | rfl
    · exact h.rg k hk
    · exact ⟨h1, h2⟩
  · unfold upd
    by_cases e : k = m
    · simp [e]
    · simp [e, h.sn]
def zl (ls : List Nat) : List Int := ls.map (fun k : Nat => (k : Int))

set_option maxRecDepth 100000 in
set_option maxHeartbeats 16000000 in
theorem inboxOrder_any (a0 : Option Addr) (n0 c0 : Nat) (X : Nat → Int) (w : World) (hI : IsI w a0 n0 c0 X) :
    Calls Try.prog 6 #[.slice a0 n0 c0] w fun e w' => e = .returned (.bool true) ∧ RowKit.Below w.heap.size w w' := by
  have HI := hd hI
  have n0c := hI.1
  have n0m := hI.2.1
  clear hI
  go_enter Try.func6, Try.ntmps6
  go_wp2_with fail
  refine (fixed_true w).mono ?_
  rintro e w1 ⟨rfl, hb1⟩
  have HB := hd hb1
  clear hb1
  go_wp2_with fail
  refine (mi_new (MO.nil' w1) 0 20 (by omega) (by omega)).mono ?_
  rintro e w2 ⟨x, rfl, h2, -⟩
  have M2 := hd h2
  clear h2
  go_wp2_with fail
  refine (mi_new M2.out 1 20 (by omega) (by omega)).mono ?_
  rintro e w3 ⟨y, rfl, h3, -⟩
  have S0 : Hid (∃ ls B, ls.length = 0 ∧ OS ls B ∧ MO w1 (w3.alloc (.cells #[.bool false, .bool false, .bool false, .bool false, .bool false, .bool false, .bool false, .bool false, .bool false, .bool false, .bool false, .bool false, .bool false, .bool false, .bool false, .bool false, .bool false, .bool false, .bool false, .bool false, .bool false] 59)) NoK (FR x ⟨20, 0, []⟩ y ⟨20, 0, []⟩ (.slice none 0 0) (zl ls) w3.heap.size B)) :=
    ⟨[], fun _ => false, rfl, ⟨by simp, by simp, by simp⟩, order_laid h3 #[.bool false, .bool false, .bool false, .bool false, .bool false, .bool false, .bool false, .bool false, .bool false, .bool false, .bool false, .bool false, .bool false, .bool false, .bool false, .bool false, .bool false, .bool false, .bool false, .bool false, .bool false] rfl⟩
  clear h3 M2
  go_wp2_with fail
  generalize w3.heap.size = g at S0
  go_loopw [8, 9] (fun vl vi wr => ∃ i m : Nat, i ≤ n0 ∧ vi = .int .i64 i ∧ ∃ al cl, vl = .slice al m cl ∧ Hid (∃ ls B, ls.length = m ∧ OS ls B ∧ MO w1 wr NoK (FR x ⟨20, 0, []⟩ y ⟨20, 0, []⟩ (.slice al m cl) (zl ls) g B))) (fun _ vi _ => n0 - (intOf vi).toNat)
  case atStart => exact ⟨0, 0, Nat.zero_le _, rfl, none, 0, rfl, S0⟩
  case round =>
    obtain ⟨i, m, hi, rfl, al, cl, rfl, HM⟩ := hrel
    clear S0
    by_cases hlt : i < n0
    · have i1 : (i : Int) < (n0 : Int) := by omega
      obtain ⟨ls, B, hlm, hO, hM⟩ := HM.out
      obtain ⟨b, off, rfl, hcell⟩ := isI_cell (HI.out.below (HB.out.trans (hM.base.mono HB.out.size)) (Nat.le_refl _)) hlt
      generalize X i = z at hcell
      have H1 := hd (And.intro hlm (And.intro hO hM))
      clear hlm hO hM HM
      go_wp2_with fail
      refine (within_any z 1 20 _ (by omega) (by omega)).mono ?_
      rintro e w5 ⟨n, rfl, hn1, hn2, hw5⟩
      subst hw5
      obtain ⟨hlm, hO, hM⟩ := H1.out
      obtain ⟨cur, hK⟩ := or_seen hM
      have cs := hK.cell (i := n) (by omega)
      have fs := frozen_row hK.blk n
      have hm20 : m ≤ 20 := hlm ▸ hO.len
      have b1 : n < 21 := by omega
      cases hB : B n
      · rw [hB] at cs
        have hM2 := or_set hM (i := n) (by omega) true
        have hM3 := hM2.below ((Below.refl _ _).alloc (Nat.le_refl _) (.cells #[.int .i64 n] 3))
        obtain ⟨v', w6, hap, hM4⟩ := or_grow hM3 (w5.setCell ⟨g, n, none⟩ (.bool true)).heap.size n (heap_alloc_new _ _) (by simp [zl]; omega)
        obtain ⟨av, cv, rfl, -⟩ := or_row hM4
        have hl2 : (zl ls ++ [(n : Int)]).length = m + 1 := by simp [zl, hlm]
        rw [hl2] at hap hM4
        have Z : Hid (∃ ls B, ls.length = m + 1 ∧ OS ls B ∧ MO w1 w6 NoK (FR x ⟨20, 0, []⟩ y ⟨20, 0, []⟩ (.slice av (m + 1) cv) (zl ls) g B)) := by
          refine ⟨ls ++ [n], _, by simp [hlm], hO.snoc hn1 hn2 hB, ?_⟩
          have : zl (ls ++ [n]) = zl ls ++ [(n : Int)] := by simp [zl]
          rw [this]
          exact hM4
        simp only [World.size_setCell] at hap
        clear H1 hlm hO hM hK hM2 hM3 hM4 hB hcell hl2
        go_wp2_with (at_builtin; refine wpList_append_k _ rfl _ _ 22 22 rfl _ _ rfl rfl (hap _) ?_)
        exact ⟨⟨i + 1, m + 1, by omega, by go_num, av, cv, by go_num, Z⟩, by simp [intOf]; omega⟩
      · rw [hB] at cs
        have Z : Hid (∃ ls B, ls.length = m ∧ OS ls B ∧ MO w1 w5 NoK (FR x ⟨20, 0, []⟩ y ⟨20, 0, []⟩ (.slice al m cl) (zl ls) g B)) := ⟨ls, B, H1.out⟩
        clear H1 hlm hO hM hK hB hcell
        go_wp2_with fail
        exact ⟨⟨i + 1, m, by omega, by go_num, al, cl, rfl, Z⟩, by simp [intOf]; omega⟩
    · have i1 : ¬ (i : Int) < (n0 : Int) := by omega
      obtain ⟨ls, B, hlm, hO, hM⟩ := HM.out
      have hm20 : m ≤ 20 := hlm ▸ hO.len
      have HO := hd (And.intro hlm hO)
      have S2 : Hid (∃ p q, MO w1 wr NoK (FR x p y q (.slice al m cl) (zl ls) g B) ∧ OL (ls.take 0) p ∧ OL (ls.reverse.take 0) q) :=
        ⟨_, _, hM, ⟨rfl, rfl, by simp [hasK], by simp [hasK]⟩, ⟨rfl, rfl, by simp [hasK], by simp [hasK]⟩⟩
      clear hlm hO hM HM HI
      go_wp2_with fail
      go_loopw [11] (fun vi wr => ∃ j : Nat, j ≤ m ∧ vi = .int .i64 j ∧ Hid (∃ p q, MO w1 wr NoK (FR x p y q (.slice al m cl) (zl ls) g B) ∧ OL (ls.take j) p ∧ OL (ls.reverse.take j) q)) (fun vi _ => m - (intOf vi).toNat)
      case atStart => exact ⟨0, Nat.zero_le _, rfl, S2⟩
      case round =>
        obtain ⟨j, hj, rfl, HM⟩ := hrel
        clear S2
        by_cases hjl : j < m
        · have j1 : (j : Int) < (m : Int) := by omega
          obtain ⟨p, q, hM, hp, hq⟩ := HM.out
          obtain ⟨al', cl', e, -, -, hrow⟩ := or_row hM
          injection e with e1 e2 e3
          subst e1 e3
          clear e2
          have hll : (zl ls).length = m := by rw [← HO.out.1]; simp [zl]
          obtain ⟨b, off, rfl, -, hrow⟩ := hrow (by omega)
          have hjr : m - 1 - j < ls.length := by rw [HO.out.1]; omega
          have r1 : wr.cell? ⟨b, off + j, none⟩ = some (.int .i64 ((ls[j]'(by rw [HO.out.1]; omega) : Nat) : Int)) := by
            rw [hrow j (by omega)]; simp [zl]
          have r2 : wr.cell? ⟨b, off + (m - 1 - j), none⟩ = some (.int .i64 ((ls[m - 1 - j]'hjr : Nat) : Int)) := by
            rw [hrow (m - 1 - j) (by omega)]; simp [zl]
          have g1 := HO.out.2.rg _ (List.getElem_mem (show j < ls.length by rw [HO.out.1]; omega))
          have g2 := HO.out.2.rg _ (List.getElem_mem hjr)
          have t1 : ls.take (j + 1) = ls.take j ++ [ls[j]'(by rw [HO.out.1]; omega)] := List.take_succ_eq_append_getElem (by rw [HO.out.1]; omega)
          have hrl : j < ls.reverse.length := by rw [List.length_reverse, HO.out.1]; omega
          have t2 : ls.reverse.take (j + 1) = ls.reverse.take j ++ [ls[m - 1 - j]'hjr] := by
            rw [List.take_succ_eq_append_getElem hrl]
            congr 2
            rw [List.getElem_reverse]
            congr 1
            rw [HO.out.1]
          have nd1 : ls[j]'(by rw [HO.out.1]; omega) ∉ ls.take j := by
            have := HO.out.2.nd
            rw [← List.take_append_drop (j + 1) ls, t1] at this
            have h2 := (List.nodup_append.1 this).1
            exact fun hm => (List.nodup_append.1 h2).2.2 _ hm _ (by simp) rfl
          have nd2 : ls[m - 1 - j]'hjr ∉ ls.reverse.take j := by
            have := (List.reverse_perm ls).nodup_iff.2 HO.out.2.nd
            rw [← List.take_append_drop (j + 1) ls.reverse, t2] at this
            have h2 := (List.nodup_append.1 this).1
            exact fun hm => (List.nodup_append.1 h2).2.2 _ hm _ (by simp) rfl
          obtain ⟨k1, hk1⟩ : ∃ k1, ls[j]'(by rw [HO.out.1]; omega) = k1 := ⟨_, rfl⟩
          obtain ⟨k2, hk2⟩ : ∃ k2, ls[m - 1 - j]'hjr = k2 := ⟨_, rfl⟩
          rw [hk1] at r1 g1 t1 nd1
          rw [hk2] at r2 g2 t2 nd2
          obtain ⟨e1, p1⟩ := hp.put k1 g1.1 g1.2 nd1
          obtain ⟨e2, p2⟩ := hq.put k2 g2.1 g2.2 nd2
          have O1 : Hid (∀ V, RowKit.Below wr.heap.size wr V → Calls Try.prog 14 #[.pointer (some ⟨x, 0, none⟩), .int .i64 k1, .int .i64 (100 + (k1 : Int))] V fun e w' => e = .returned (.int .i64 0) ∧ MO w1 w' NoK (FR x (iputS p k1 (.int .i64 (100 + (k1 : Int)))) y q (.slice (some ⟨b, off, none⟩) m cl) (zl ls) g B)) := by
            intro V hV
            refine (or_put0 (hM.below hV) k1 (100 + (k1 : Int))).mono ?_
            rintro e w' ⟨rfl, h3⟩
            rw [e1]
            exact ⟨rfl, h3⟩
          have O2 : Hid (∀ w3 V, MO w1 w3 NoK (FR x (iputS p k1 (.int .i64 (100 + (k1 : Int)))) y q (.slice (some ⟨b, off, none⟩) m cl) (zl ls) g B) → RowKit.Below w3.heap.size w3 V → Calls Try.prog 14 #[.pointer (some ⟨y, 0, none⟩), .int .i64 k2, .int .i64 (100 + (k2 : Int))] V fun e w' => e = .returned (.int .i64 0) ∧ MO w1 w' NoK (FR x (iputS p k1 (.int .i64 (100 + (k1 : Int)))) y (iputS q k2 (.int .i64 (100 + (k2 : Int)))) (.slice (some ⟨b, off, none⟩) m cl) (zl ls) g B)) := by
            intro w3 V hT hV
            refine (or_put1 (hT.below hV) k2 (100 + (k2 : Int))).mono ?_
            rintro e w' ⟨rfl, h3⟩
            rw [e2]
            exact ⟨rfl, h3⟩
          have RR : Hid (∀ V F, MO w1 V NoK F → F 2 = rowO (.slice (some ⟨b, off, none⟩) m cl) (zl ls) → V.cell? ⟨b, off + j, none⟩ = some (.int .i64 k1) ∧ V.cell? ⟨b, off + (m - 1 - j), none⟩ = some (.int .i64 k2)) := by
            intro V F hV hF
            obtain ⟨S, h1, -⟩ := hV.now 2
            rw [hF] at h1
            obtain ⟨β, h1, -⟩ := h1
            obtain ⟨al', cl', e, -, -, hrow⟩ := h1.isL
            injection e with e1 e2 e3
            subst e1 e3
            obtain ⟨b', off', e, -, hrow⟩ := hrow (by omega)
            injection e with e
            injection e with e4 e5
            subst e4 e5
            constructor
            · rw [hrow j (by omega), ← hk1]; simp [zl]
            · rw [hrow (m - 1 - j) (by omega), ← hk2]; simp [zl]
          have T12 := hd (And.intro t1 (And.intro t2 (And.intro p1 p2)))
          have wj1 : IntKind.i64.wrap ((m : Int) - 1) = (m : Int) - 1 := by rw [IntKind.wrap_i64]; omega
          have wj2 : IntKind.i64.wrap ((m : Int) - 1 - j) = ((m - 1 - j : Nat) : Int) := by rw [IntKind.wrap_i64]; omega
          have wk1 : IntKind.i64.wrap (100 + (k1 : Int)) = 100 + (k1 : Int) := by rw [IntKind.wrap_i64]; omega
          have wk2 : IntKind.i64.wrap (100 + (k2 : Int)) = 100 + (k2 : Int) := by rw [IntKind.wrap_i64]; omega
          have hjm : m - 1 - j < m := by omega
          generalize m - 1 - j = j2 at wj2 hjm r2 RR
          have hjI : (j2 : Int) < (m : Int) := by omega
          have hjJ : (0 : Int) ≤ (j2 : Int) := by omega
          clear hM hp hq hrow hll hrl hjr t1 t2 nd1 nd2 hk1 hk2 e1 e2 p1 p2 HM
          go_wp2_with fail
          go_region_held3 (fun V => V.cell? ⟨b, off + j, none⟩ = some (.int .i64 k1) ∧ V.cell? ⟨b, off + j2, none⟩ = some (.int .i64 k2)) (first | (with_reducible exact ⟨by assumption, by assumption⟩) | (go_keep; done)) (first | (go_at_call 14; revert HX1; intro HX1; refine (O2.out _ _ HX1.out (by first | exact Below.refl _ _ | exact (Below.refl _ _).drew | exact below_drewN (Below.refl _ _) _)).mono ?_; rintro e v ⟨rfl, kv⟩; obtain ⟨s1, s2⟩ := RR.out _ _ kv rfl; have HX2 := hd kv; clear kv) | (go_at_call 14; refine (O1.out _ (by first | exact Below.refl _ _ | exact (Below.refl _ _).drew | exact below_drewN (Below.refl _ _) _)).mono ?_; rintro e u ⟨rfl, ku⟩; obtain ⟨s3, s4⟩ := RR.out _ _ ku rfl; have HX1 := hd ku; clear ku))
          have Z : Hid (∃ p q, MO w1 v NoK (FR x p y q (.slice (some ⟨b, off, none⟩) m cl) (zl ls) g B) ∧ OL (ls.take (j + 1)) p ∧ OL (ls.reverse.take (j + 1)) q) := by
            obtain ⟨t1, t2, p1, p2⟩ := T12.out
            exact ⟨_, _, HX2.out, by rw [t1]; exact p1, by rw [t2]; exact p2⟩
          clear O1 O2 RR HX1 HX2 T12
          go_wp2_with fail
          refine ⟨⟨j + 1, by omega, by go_num, ?_⟩, by simp [intOf]; omega⟩
          obtain ⟨p, q, q1, q2⟩ := Z.out
          exact ⟨p, q, q1.below (by repeat (first | exact Below.refl _ _ | refine Below.drew ?_ | refine below_drewN ?_ _)), q2⟩
        · have j1 : ¬ (j : Int) < (m : Int) := by omega
          obtain rfl : j = m := by omega
          obtain ⟨p, q, hM, hp, hq⟩ := HM.out
          have hlen := HO.out.1
          have hpr : OL ls p := by rw [← hlen, List.take_length] at hp; exact hp
          have hqr : OL ls q := by
            have : ls.reverse.take j = ls.reverse := by rw [← hlen, ← List.length_reverse, List.take_length]
            rw [this] at hq
            exact ⟨hq.r, hq.c, fun m => by rw [hq.has]; simp, hq.val⟩
          have hP : OR B 1 p := hpr.or (fun m _ _ => HO.out.2.sn m) HO.out.2.rg
          have hQ : OR B 1 q := hqr.or (fun m _ _ => HO.out.2.sn m) HO.out.2.rg
          have okp := (mi_ok hM 0 rfl).1
          have okq := (mi_ok hM 1 rfl).1
          have hfl := hP.fl okp
          have hpq := hP.held hQ okp okq
          have hL : (fl B 20).length = j := by
            have h1 : (heldL p).length = (fl B 20).length := by rw [hfl]; simp
            rw [← h1, held_len, ← hlen]
            have : (p.H.map (fun q => q.1)).Perm ls := (List.perm_ext_iff_of_nodup okp.keys HO.out.2.nd).2 fun m => by
              have := hpr.has m
              constructor
              · intro hm
                obtain ⟨e, he, rfl⟩ := List.mem_map.1 hm
                rw [hasK_mem (v := e.2) he] at this
                simpa using this.symm
              · intro hm
                rw [decide_eq_true hm] at this
                obtain ⟨v, hv⟩ := hasK_true this
                exact List.mem_map.2 ⟨_, hv, rfl⟩
            simpa using this.length_eq
          have HP := hd (And.intro hP (And.intro hQ (And.intro hfl hpq)))
          have H1 := hd hM
          have HL := hd hL
          clear hM hp hq hpr hqr hP hQ okp okq hfl hpq hL HM hlen
          go_wp2_with fail
          refine (mi_held H1.out 0 rfl).mono ?_
          rintro e w5 ⟨va, rfl, hva, h5, -⟩
          obtain ⟨aa, ca, rfl, ha1, ha2, ha3⟩ := hva.isL
          have H5 := hd (And.intro h5 hva)
          have hLa : (heldL p).length = j := by rw [HP.out.2.2.1]; simp; exact HL.out
          rw [hLa] at ha1 ⊢
          clear h5 hva ha3
          go_wp2_with fail
          refine (mi_held H5.out.1 1 rfl).mono ?_
          rintro e w6 ⟨vb, rfl, hvb, h6, hk6⟩
          have hva6 : IV w6 wr.heap.size (.slice aa j ca) (heldL p) := by
            have := H5.out.2
            rw [hLa] at this
            exact this.kp (fun k h1 h2 => hk6 k (.inr ⟨h1, h2⟩))
          obtain ⟨ab, cb, rfl, hb1, hb2, -⟩ := hvb.isL
          have hLb : (heldL q).length = j := by rw [← HP.out.2.2.2, hLa]
          rw [hLb] at hvb ⊢
          rw [← HP.out.2.2.2] at hvb
          have H6 := hd (And.intro h6 (And.intro hva6 hvb))
          clear h6 hva6 hvb hk6 H5
          go_wp2_with fail
          refine (eq_true _ _ (heldL p) w6 H6.out.2.1.isL H6.out.2.2.isL).mono ?_
          rintro e w7 ⟨rfl, z7, hz7⟩
          have hva7 : IsL w7 (.slice aa j ca) ((fl B 20).map (fun k : Nat => (k : Int))) := by
            rw [hz7, ← HP.out.2.2.1]
            exact H6.out.2.1.isL.below (below_drewN' _ _)
          have M7 : Hid (MO w1 w7 NoK (FR x p y q (.slice al j cl) (zl ls) g B)) := by
            rw [hz7]
            exact (MO.less H6.out.1 (fun k hk => hk.elim)).below (below_drewN' _ _)
          have FA : Hid (∀ n, 1 ≤ n → n ≤ 20 → B n = true → ∃ b off, aa = some ⟨b, off, none⟩ ∧ w7.cell? ⟨b, off + (fl B (n - 1)).length, none⟩ = some (.int .i64 n) ∧ (fl B (n - 1)).length < j) := by
            intro n h1 h2 h3
            obtain ⟨n', rfl⟩ : ∃ n', n = n' + 1 := ⟨n - 1, by omega⟩
            obtain ⟨r1, r2⟩ := fl_at B (m := n') h2 h3
            obtain ⟨a', c', e, -, -, q⟩ := hva7
            injection e with e1 e2 e3
            subst e1
            obtain ⟨b, off, rfl, -, hc⟩ := q (by simp; omega)
            have hr1 : (fl B n').length < ((fl B 20).map (fun k : Nat => (k : Int))).length := by simpa using r1
            refine ⟨b, off, rfl, ?_, by rw [← HL.out]; exact r1⟩
            rw [Nat.add_sub_cancel, hc _ hr1]
            rw [List.getElem?_eq_getElem r1] at r2
            injection r2 with r2
            rw [List.getElem_map, r2]
          obtain ⟨cur7, hK7⟩ := or_seen M7.out
          have FB := hd (fun i (hi : i < 21) => hK7.cell hi)
          clear H6 hz7 hva7 hK7 H1
          go_wp2_with fail
          go_loopw [13, 14] (fun vk vn wr => ∃ n k : Nat, 1 ≤ n ∧ n ≤ 21 ∧ k = (fl B (n - 1)).length ∧ vn = .int .i64 n ∧ vk = .int .i64 k ∧ wr = w7) (fun _ vn _ => 21 - (intOf vn).toNat)
          case atStart => exact ⟨1, 0, by omega, by omega, rfl, rfl, rfl, rfl⟩
          case round =>
            obtain ⟨n, k, hn1, hn2, hkn, rfl, rfl, hw⟩ := hrel
            subst hw
            by_cases hn20 : n ≤ 20
            · have n1 : (n : Int) ≤ 20 := by omega
              have cs := FB.out n (by omega)
              have hstep : (fl B n).length = k + (if B n then 1 else 0) := by
                obtain ⟨n', rfl⟩ : ∃ n', n = n' + 1 := ⟨n - 1, by omega⟩
                rw [fl_succ, List.length_append, hkn, Nat.add_sub_cancel]
                split <;> rfl
              have b1 : n < 21 := by omega
              cases hB : B n
              · rw [hB] at cs hstep
                have Y : Hid ((fl B (n + 1 - 1)).length = k) := by show _ = _; rw [Nat.add_sub_cancel, hstep]; rfl
                clear FA FB hstep hkn hB
                go_wp2_with fail
                exact ⟨⟨n + 1, k, by omega, by omega, Y.out.symm, by go_num, rfl, trivial⟩, by simp [intOf]; omega⟩
              · obtain ⟨b, off, rfl, r1, r2⟩ := FA.out n hn1 hn20 hB
                rw [← hkn] at r1 r2
                rw [hB] at cs hstep
                have Y : Hid ((fl B (n + 1 - 1)).length = k + 1) := by show _ = _; rw [Nat.add_sub_cancel, hstep]; rfl
                clear FA FB hstep hkn hB
                go_wp2_with fail
                exact ⟨⟨n + 1, k + 1, by omega, by omega, Y.out.symm, by go_num, by go_num, trivial⟩, by simp [intOf]; omega⟩
            · have n1 : ¬ (n : Int) ≤ 20 := by omega
              have S4 : Hid (∃ p q, MO w1 wr NoK (FR x p y q (.slice al j cl) (zl ls) g B) ∧ OR B 1 p ∧ OR B 1 q) := ⟨p, q, M7.out, HP.out.1, HP.out.2.1⟩
              clear FA FB M7 HP hkn
              go_wp2_with fail
              go_loopw [15] (fun vn wr => ∃ n : Nat, 1 ≤ n ∧ n ≤ 21 ∧ vn = .int .i64 n ∧ Hid (∃ p q, MO w1 wr NoK (FR x p y q (.slice al j cl) (zl ls) g B) ∧ OR B n p ∧ OR B n q)) (fun vn _ => 21 - (intOf vn).toNat)
              case atStart => exact ⟨1, by omega, by omega, rfl, S4⟩
              case round =>
                clear S4
                obtain ⟨n, hn1, hn2, rfl, HM⟩ := hrel
                obtain ⟨p, q, hM, hP, hQ⟩ := HM.out
                obtain ⟨cur, hK⟩ := or_seen hM
                have H1 := hd (And.intro hM (And.intro hP hQ))
                by_cases hh : n ≤ 20 ∧ B n = true
                · obtain ⟨hn20, hB⟩ := hh
                  have n1 : (n : Int) ≤ 20 := by omega
                  have cs := hK.cell (i := n) (by omega)
                  rw [hB] at cs
                  have b1 : n < 21 := by omega
                  obtain ⟨p1, p2, p3⟩ := hP.pop hn20 hB
                  obtain ⟨q1, q2, q3⟩ := hQ.pop hn20 hB
                  have HR := hd (And.intro p1 (And.intro p2 (And.intro p3 (And.intro q1 (And.intro q2 q3)))))
                  have wn : IntKind.i64.wrap (100 + (n : Int)) = 100 + (n : Int) := by rw [IntKind.wrap_i64]; omega
                  clear hM hP hQ hK HM p1 p2 p3 q1 q2 q3 hB
                  go_wp2_with fail
                  refine (mi_head H1.out.1 0 rfl).mono ?_
                  rintro e w8 ⟨rfl, h8, -⟩
                  rw [HR.out.2.1, HR.out.1]
                  have H8 := hd h8
                  clear h8
                  go_wp2_with fail
                  refine (mi_head H8.out 1 rfl).mono ?_
                  rintro e w9 ⟨rfl, h9, -⟩
                  rw [HR.out.2.2.2.2.1, HR.out.2.2.2.1]
                  have H9 := hd h9
                  clear h9 H8
                  go_wp2_with fail
                  refine (or_pop0 H9.out).mono ?_
                  rintro e w10 ⟨rfl, h10⟩
                  rw [itossE_of HR.out.1]
                  have H10 := hd h10
                  clear h10 H9
                  go_wp2_with fail
                  refine (or_pop1 H10.out).mono ?_
                  rintro e w11 ⟨rfl, h11⟩
                  rw [itossE_of HR.out.2.2.2.1]
                  have Z : Hid (∃ p q, MO w1 w11 NoK (FR x p y q (.slice al j cl) (zl ls) g B) ∧ OR B (n + 1) p ∧ OR B (n + 1) q) := ⟨_, _, h11, HR.out.2.2.1, HR.out.2.2.2.2.2⟩
                  clear h11 H10 HR H1
                  go_wp2_with fail
                  exact ⟨⟨n + 1, by omega, by omega, by go_num, Z⟩, by simp [intOf]; omega⟩
                · have okp := (mi_ok hM 0 rfl).1
                  have okq := (mi_ok hM 1 rfl).1
                  have hpq := hP.held hQ okp okq
                  have hcc : p.c = q.c := by have := hP.c; have := hQ.c; omega
                  have HQ := hd (And.intro hpq hcc)
                  go_upto_region 33 with fail
                  go_cut [140] (fun v wx => v = .bool false ∧ wx = wr)
                  case first =>
                    by_cases hn20 : n ≤ 20
                    · have n1 : (n : Int) ≤ 20 := by omega
                      have cs := hK.cell (i := n) (by omega)
                      have hB : B n = false := by
                        cases hb : B n
                        · rfl
                        · exact absurd ⟨hn20, hb⟩ hh
                      rw [hB] at cs
                      have b1 : n < 21 := by omega
                      clear hM hP hQ hK HM H1 HQ okp okq hpq hcc hB hh
                      go_wp2_with fail
                      go_meet
                      exact ⟨rfl, rfl⟩
                    · have n1 : ¬ (n : Int) ≤ 20 := by omega
                      clear hM hP hQ hK HM H1 HQ okp okq hpq hcc hh
                      go_wp2_with fail
                      go_meet
                      exact ⟨rfl, rfl⟩
                  case rest =>
                  obtain ⟨rfl, hwc⟩ := hcut
                  subst hwc
                  clear hM hP hQ hK HM okp okq hpq hcc hh
                  go_wp2_with fail
                  refine (mi_held H1.out.1 0 rfl).mono ?_
                  rintro e w8 ⟨va, rfl, hva, h8, -⟩
                  obtain ⟨aa, ca, rfl, hca, hca2, -⟩ := hva.isL
                  obtain ⟨Lp, hLp⟩ : ∃ Lp, (heldL p).length = Lp := ⟨_, rfl⟩
                  have hLq : (heldL q).length = Lp := by rw [← HQ.out.1]; exact hLp
                  rw [hLp] at hva hca ⊢
                  have H8 := hd (And.intro h8 hva)
                  have HLq := hd hLq
                  clear h8 hva hLp hLq
                  go_wp2_with fail
                  refine (mi_held H8.out.1 1 rfl).mono ?_
                  rintro e w9 ⟨vb, rfl, hvb, h9, hk9⟩
                  have hva9 := H8.out.2.kp (fun k h1 h2 => hk9 k (.inr ⟨h1, h2⟩))
                  obtain ⟨ab, cb, rfl, hcb, hcb2, -⟩ := hvb.isL
                  have hq2 := hvb.isL
                  rw [HLq.out] at hq2 hcb ⊢
                  rw [← HQ.out.1] at hq2
                  have H9 := hd (And.intro h9 (And.intro hva9.isL hq2))
                  clear h9 hva9 hvb hk9 H8 hq2 HLq
                  go_wp2_with fail
                  refine (eq_true _ _ (heldL p) w9 H9.out.2.1 H9.out.2.2).mono ?_
                  rintro e w10 ⟨rfl, z, rfl⟩
                  have M10 := hd ((MO.less (K' := NoK) H9.out.1 (fun k hk => hk.elim)).below (below_drewN' _ z))
                  generalize w9.drewN z = w10 at M10
                  clear H9
                  go_wp2_with fail
                  refine (mi_cum M10.out 0 rfl).mono ?_
                  rintro e w11 ⟨rfl, rfl⟩
                  go_wp2_with fail
                  refine (mi_cum M10.out 1 rfl).mono ?_
                  rintro e w12 ⟨rfl, rfl⟩
                  rw [HQ.out.2]
                  have Y := hd M10.out.base
                  clear M10
                  go_wp2_with fail
                  go_ret
                  exact ⟨rfl, HB.out.trans (Y.out.mono HB.out.size)⟩

end Go.Proofs.Ytpjnhjijipcjkaa
