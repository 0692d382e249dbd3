/-
  Texts put together: Jo Jp.
-/
import Derived.Test.YtkkklfnooeofcabJn
import Derived.Test.YtkkklfnooeofcabMPa
import Derived.Test.YtkkklfnooeofcabAm
import Derived.BigQuiet
import Derived.Deep.RegionWith
/-! Jo -/
namespace Go.Proofs.Ytkkklfnooeofcab
open Go.RowKit Go.Lib
set_option linter.unusedVariables false

/-- A board that has one note more. -/
theorem RBK.more {w w1 u1 : World} {O : Nat → Prop} {r g : Nat} {β : Option Nat} {v0 v : Value} {ps : List RN} {cc : Int} {s : ByteArray} {es : List El} (h : RBK w O r g β v0 ps) (hw : w1 = w.setCell ⟨r, 1, none⟩ (.int .i64 ((g + 1 : Nat) : Int))) (hg : g < 256) (hP : RPp w1 β ps (g + 1) cc s es v u1) (hwf : ∀ x ∈ es, wfE x) :
    NowR w (u1.setCell ⟨r, 0, none⟩ v) O r (g + 1) (ps.map RN.n ++ [⟨g + 1, cc, s, false, [], es⟩]) ∧ (u1.setCell ⟨r, 0, none⟩ v).cell? ⟨r, 1, none⟩ = some (.int .i64 ((g + 1 : Nat) : Int)) := by
  obtain ⟨e, a1, c1, g2, he, hS, hR, hg2, hF⟩ := hP
  have hs : w1.heap.size = w.heap.size := by rw [hw]; simp
  rw [hs] at he hg2
  have hFs : Fr (· = r) w w1 := by rw [hw]; exact Fr.setCell w ⟨r, 1, none⟩ _ rfl
  have hF3 : Fr (· = r) u1 (u1.setCell ⟨r, 0, none⟩ v) := Fr.setCell u1 ⟨r, 0, none⟩ _ rfl
  have hβ : ∀ k, β = some k → ∃ cur, w.heap[k]? = some (.cells cur 93 (0, 0)) := fun k hk => by
    have := h.row
    rw [hk] at this
    exact this.blk
  have hFO : Fr (fun k => k = r ∨ β = some k) w (u1.setCell ⟨r, 0, none⟩ v) := ((hFs.mono (fun k _ hk => .inl hk)).next hF (fun k _ hk => .inr hk)).next hF3 (fun k _ hk => .inl hk)
  have hb1 : w1.heap[r]? = some (.cells #[v0, .int .i64 ((g + 1 : Nat) : Int)] 56 (0, 0)) := by
    have := set_row h.box 1 (.int .i64 ((g + 1 : Nat) : Int))
    rw [← hw] at this
    simpa using this
  have hb2 : u1.heap[r]? = some (.cells #[v0, .int .i64 ((g + 1 : Nat) : Int)] 56 (0, 0)) := hF.keeps hb1 (fun hk => by
    obtain ⟨cur, hc⟩ := hβ r hk
    exact ty_ne hc h.box (by decide) rfl)
  have hbox : (u1.setCell ⟨r, 0, none⟩ v).heap[r]? = some (.cells #[v, .int .i64 ((g + 1 : Nat) : Int)] 56 (0, 0)) := by
    have := set_row hb2 0 v
    simpa using this
  have hnS : ∀ k cs t, w.heap[k]? = some (.cells cs t (0, 0)) → t ≠ 56 → t ≠ 93 → ¬ (k = r ∨ β = some k) := by
    rintro k cs t hk h1 h2 (e | e)
    · exact ty_ne hk h.box h1 e
    · obtain ⟨cur, hc⟩ := hβ k e
      exact ty_ne hk hc h2 rfl
  obtain ⟨ce, hce⟩ := hS.blk
  obtain ⟨cr, hcr⟩ := hR.blk
  have hsz := hF3.size
  have c1' := cell_row hbox 1
  simp at c1'
  refine ⟨⟨fun k => O k ∨ k = e ∨ k = g2, ⟨some g2, v, ps ++ [⟨⟨g + 1, cc, s, false, [], es⟩, a1, es.length, c1, none, 0, 0, some e, none⟩], by simp, hbox, ?_, ?_, ?_, .inl h.orr, fun k hk => by cases hk; exact .inr (.inr rfl), ?_, ?_, ?_, ?_, by omega⟩, ?_, ?_⟩, c1'⟩
  · exact hR.fr hF3 (fun k hk e => by cases hk; exact ty_ne hcr hb2 (by decide) e)
  · intro p hp
    rcases List.mem_append.1 hp with hp | hp
    · have hk := h.rk p hp
      refine hk.fr hFO (fun k e => ?_) (fun k e => ?_)
      · have := hk.el
        rw [e] at this
        obtain ⟨cur, hc⟩ := this.blk
        exact hnS _ _ _ hc (by decide) (by decide)
      · have := hk.sd
        rw [e] at this
        obtain ⟨cur, hc⟩ := this.blk
        exact hnS _ _ _ hc (by decide) (by decide)
    · rw [List.mem_singleton.1 hp]
      exact ⟨hS.fr hF3 (fun k hk e => by cases hk; exact ty_ne hce hb2 (by decide) e), ⟨rfl, rfl⟩, hwf⟩
  · refine List.pairwise_append.2 ⟨h.dis, by simp, fun x hx y hy k hk e => ?_⟩
    rw [List.mem_singleton.1 hy] at e
    cases e
  · intro p hp
    rcases List.mem_append.1 hp with hp | hp
    · exact ⟨fun k hk => .inl ((h.on p hp).1 k hk), fun k hk => .inl ((h.on p hp).2 k hk)⟩
    · rw [List.mem_singleton.1 hp]
      exact ⟨fun k hk => by cases hk; exact .inr (.inl rfl), fun k hk => by cases hk⟩
  · rintro k (hk | rfl | rfl)
    · exact Nat.lt_of_lt_of_le (h.old k hk) hFO.size
    · exact Nat.lt_of_lt_of_le (block_lt hce) hsz
    · exact Nat.lt_of_lt_of_le (block_lt hcr) hsz
  · refine List.pairwise_append.2 ⟨h.ids, by simp, fun x hx y hy => ?_⟩
    rw [List.mem_singleton.1 hy]
    have := h.bd x hx
    simp only
    omega
  · intro p hp
    rcases List.mem_append.1 hp with hp | hp
    · have := h.bd p hp; omega
    · rw [List.mem_singleton.1 hp]; simp
  · rintro k (hk | rfl | rfl)
    · exact .inl hk
    · exact .inr he
    · rcases hg2 with e | e
      · exact .inl (h.ob _ e)
      · exact .inr e
  · exact hFO.mono (fun k _ hk => by
      rcases hk with rfl | e
      · exact h.orr
      · exact h.ob _ e)

set_option maxRecDepth 100000 in
set_option maxHeartbeats 4000000 in
theorem rput_good (O : Nat → Prop) (r g : Nat) (Ns : List Nt) (w : World) (h : RBD w O r g Ns) (a : Option Addr) (n c : Nat) (xs : List El) (hE : IsE w a n c xs) (hwf : ∀ x ∈ xs, wfE x) (f t : Nat) (hf : f < t) (ht : t ≤ n) (cc : Int) (s : ByteArray) (hs : sayE cc s = 0) (hsz : s.size ≤ 9223372036854775807) (hg : g < 256) (hroom : roomy (t - f) 24) :
    Calls Try.prog 32 #[.pointer (some ⟨r, 0, none⟩), .slice a n c, .int .i64 f, .int .i64 t, .int .i64 cc, .string s] w fun e w' => e = .returned (.tuple #[.int .i64 ((g + 1 : Nat) : Int), .int .i64 0]) ∧ NowR w w' O r (g + 1) (Ns ++ [⟨g + 1, cc, s, false, [], (xs.drop f).take (t - f)⟩]) := by
  have CB := hd (rbad_any cc s w hsz)
  rw [hs] at CB
  obtain ⟨β, v, ps, rfl, hK⟩ := h
  obtain ⟨a0, rc, hv, -, -, -, -, -⟩ := hK.len
  have hle := hd hK.lele
  subst hv
  obtain ⟨ab, off, rfl, hab⟩ := hE.addr (by omega)
  have hnc := hE.2.1
  have hc63 := hE.2.2.1
  have hel : Hid (((xs.drop f).take (t - f)).length = t - f) := by
    have := hE.1
    unfold Hid
    rw [List.length_take, List.length_drop]
    omega
  have HE2 := hd ((hE.drop f (by omega)).take (t - f) (by omega))
  have HWF := hd (show ∀ x ∈ (xs.drop f).take (t - f), wfE x from fun x hx => hwf x (List.mem_of_mem_drop (List.mem_of_mem_take hx)))
  have HRM : Hid (roomy ((xs.drop f).take (t - f)).length 24) := by unfold Hid; rw [hel.out]; exact hroom
  generalize (xs.drop f).take (t - f) = es at *
  have r0 := cell_row hK.box 0
  have r1 := cell_row hK.box 1
  have z1 := frozen_row hK.box 1
  simp at r0 r1
  have lr := block_lt hK.box
  have HKK := hd hK
  have n1 : ¬ (f : Int) < 0 := by omega
  have n2 : ¬ (n : Int) < (t : Int) := by omega
  have n3 : ¬ (t : Int) ≤ (f : Int) := by omega
  have n4 : ((g : Int) == 256) = false := by rw [beq_eq_false_iff_ne]; omega
  have HN := hd (show n ≤ c ∧ c ≤ 9223372036854775807 ∧ f < t ∧ t ≤ n ∧ g < 256 ∧ ab < w.heap.size from ⟨hnc, hc63, hf, ht, hg, hab⟩)
  clear hE hwf hs hnc hc63 hK hroom
  go_enter Try.func32, Try.ntmps32
  go_upto_region 4 with (go_at_call 49; refine CB.out.mono ?_; rintro e w1 ⟨rfl, hw⟩; obtain rfl := hw.symm)
  go_upto_region 9 with fail
  have eg : Hid ((g : Int) + 1 = ((g + 1 : Nat) : Int)) := by unfold Hid; omega
  rw [eg.out]
  obtain ⟨w1, hw1⟩ : ∃ u, w.setCell ⟨r, 1, none⟩ (.int .i64 ((g + 1 : Nat) : Int)) = u := ⟨_, rfl⟩
  have hs1 : w1.heap.size = w.heap.size := by rw [← hw1]; simp
  have hFs : Fr (· = r) w w1 := by rw [← hw1]; exact Fr.setCell w ⟨r, 1, none⟩ _ rfl
  have hb1 : w1.heap[r]? = some (.cells #[.slice a0 ps.length rc, .int .i64 ((g + 1 : Nat) : Int)] 56 (0, 0)) := by
    have := set_row HKK.out.box 1 (.int .i64 ((g + 1 : Nat) : Int))
    rw [hw1] at this
    simpa using this
  have x0 := cell_row hb1 0
  have x1 := cell_row hb1 1
  have HW1 := hd hw1
  simp only [List.getElem?_toArray, List.getElem?_cons_zero, List.getElem?_cons_succ] at x0 x1
  have hne : Hid (ab ≠ r) := by
    rintro rfl
    have hel2 := hel.out
    have hl : 0 < es.length := by have := HN.out; omega
    have k := isE_cells HE2.out (by have := HN.out; omega) 2 _ (cE_get es 0 hl).2.2
    rw [add_lit, cell_row HKK.out.box] at k
    have := (Array.getElem?_eq_some_iff.1 k).1
    simp at this
    omega
  have HEs : IsE w1 (some ⟨ab, off + f * 3, none⟩) (t - f) (c - f) es := HE2.out.fr hFs (fun _ b' off' e => by
    injection e with e
    injection e with e1 e2
    rw [← e1]
    exact hne.out)
  have hrow1 : SF rnc 6 w1 93 β (.slice a0 ps.length rc) ps := HKK.out.row.fr hFs (fun k hk e => by
    have := HKK.out.row
    rw [hk] at this
    obtain ⟨cur, hc⟩ := this.blk
    exact ty_ne hc HKK.out.box (by decide) e)
  have HB1 := hd hb1
  rw [hw1]
  refine regRP _ w1 r ps.length rc (g + 1) ab off n c f t a0 cc s es β ps hel HEs HRM.out HN.out.2.2.1 HN.out.2.2.2.1 HN.out.1 HN.out.2.1 (by have := HN.out; omega) (block_lt hb1) x0 x1 hrow1 hle.out ?_ (by simp) rfl rfl rfl rfl rfl rfl ?_
  · rintro v u ⟨e, a1, c1, g2, he, hS, hR, hg2, hF⟩
    have hk := hF.keeps HB1.out (fun hk => by
      have := hrow1
      rw [hk] at this
      obtain ⟨cur, hc⟩ := this.blk
      exact ty_ne hc HB1.out (by decide) rfl)
    exact ⟨.slice a0 ps.length rc, by rw [cell_row hk]; rfl, frozen_row hk 0⟩
  intro L val u hL hW hV
  obtain ⟨v2, u1, hP, rfl⟩ := hW.2.2.2.2.2.2 (hL 22 (by omega))
  obtain ⟨hNow, q1⟩ := HKK.out.more hw1.symm HN.out.2.2.2.2.1 hP HWF.out
  have Z := hd hNow
  generalize u1.setCell ⟨r, 0, none⟩ v2 = u2 at *
  clear hV hL hW hP hNow hrow1 HEs x0 x1 hb1 HB1 hFs hs1
  simp only [slRP, DRP, List.getD_cons_zero, List.getD_cons_succ, List.map_cons, List.map_nil, puts, List.foldl_cons, List.foldl_nil, Act.put, List.setIfInBounds_toArray, List.set_cons_succ, List.set_cons_zero]
  go_wp2
  refine bodyPost_ret (v := .tuple #[.int .i64 ((g + 1 : Nat) : Int), .int .i64 0]) ?_ rfl ⟨rfl, Z.out⟩
  simp [results, Try.results32, go_sem]
end Go.Proofs.Ytkkklfnooeofcab

/-! Jp -/
namespace Go.Proofs.Ytkkklfnooeofcab
open Go.RowKit Go.Maps Go.ChangeMaps Go.MapKept Go.WideMaps
set_option linter.unusedVariables false

/-- Two rows that tell the same notes, seen in the same text. -/
def TNs (u : World) (xs : List El) (t : TN) : Prop := t.s = reachP xs t.n.el ∧ ∃ γ, SF rpc 2 u 90 γ (.slice t.a t.l t.c) t.n.sd
theorem TNok.s {w0 u : World} {xs : List El} {t : TN} (h : TNok w0 u xs t) : TNs u xs t := ⟨h.1, h.2.imp fun _ h => h.1⟩
theorem TNs.fr0 {u u' : World} {xs : List El} {t : TN} (h : TNs u xs t) (hb : Below u.heap.size u u') : TNs u' xs t := by
  obtain ⟨h1, γ, h2⟩ := h
  exact ⟨h1, γ, h2.fr (S := fun _ => False) (Fr.of_below hb) (fun _ _ h => h)⟩
theorem TNs.eq {u : World} {xs : List El} {t t' : TN} (h : TNs u xs t) (h' : TNs u xs t') (e : t.n = t'.n) : Calls Try.prog 12 #[.agg (tnc t).toArray, .agg (tnc t').toArray] u fun e w' => e = .returned (.bool true) ∧ Below u.heap.size u w' := by
  obtain ⟨h1, γ, h2⟩ := h
  obtain ⟨h3, δ, h4⟩ := h'
  obtain ⟨n, s, a, l, c⟩ := t
  obtain ⟨n', s', a', l', c'⟩ := t'
  simp only at h1 h2 h3 h4 e
  subst e h1 h3
  exact eqNote_true n (reachP xs n.el) (.slice a l c) (.slice a' l' c') γ δ u h2 h4

theorem tn_cells {w : World} {b : Option Nat} {a : Option Addr} {N c : Nat} {L : List TN} (h : SF tnc 8 w 47 b (.slice a N c) L) (k : Nat) (hk : k < L.length) : ∃ g, a = some ⟨g, 0, none⟩ ∧ ∀ j (hj : j < 8), w.cell? ⟨g, k * 8 + j, none⟩ = (tnc L[k])[j]? := by
  cases b with
  | none => obtain ⟨h1, rfl⟩ := h; simp at hk
  | some g =>
    obtain ⟨cap, hv, hR⟩ := h
    injection hv with e1 e2 e3
    subst e1
    refine ⟨g, rfl, fun j hj => ?_⟩
    have := hR.cell sz_tnc k j hk hj
    exact this

set_option maxRecDepth 100000 in
set_option maxHeartbeats 4000000 in
theorem eqNotes_true (xs : List El) (b b' : Option Nat) (a a' : Option Addr) (N c c' : Nat) (L L' : List TN) (w : World) (h : SF tnc 8 w 47 b (.slice a N c) L) (h' : SF tnc 8 w 47 b' (.slice a' N c') L') (hN : L.length = N) (hc : N ≤ c) (hc' : N ≤ c') (hc63 : c ≤ 9223372036854775807) (hc63' : c' ≤ 9223372036854775807) (ho : ∀ t ∈ L, TNs w xs t) (ho' : ∀ t ∈ L', TNs w xs t) (e : L.map TN.n = L'.map TN.n) :
    Calls Try.prog 21 #[.slice a N c, .slice a' N c'] w fun e w' => e = .returned (.bool true) ∧ Below w.heap.size w w' := by
  have HH := hd h
  have HH' := hd h'
  have HO := hd ho
  have HO' := hd ho'
  have HE := hd e
  have HL := hd hN
  clear h h' ho ho' e hN
  go_enter Try.func21, Try.ntmps21
  go_wp2
  go_loopw [5] (fun i wr => ∃ k : Nat, k ≤ N ∧ i = .int .i64 k ∧ Hid (Below w.heap.size w wr)) (fun i _ => N - (intOf i).toNat)
  case atStart => exact ⟨0, Nat.zero_le _, rfl, hd (Below.refl _ _)⟩
  case round =>
    obtain ⟨k, hk, rfl, HB⟩ := hrel
    by_cases hlt : k < N
    · have k1 : k < L.length := by rw [HL.out]; exact hlt
      have k2 : k < L'.length := by
        have := congrArg List.length HE.out
        simp only [List.length_map] at this
        omega
      obtain ⟨g, rfl, cs⟩ := tn_cells (HH.out.fr (S := fun _ => False) (Fr.of_below HB.out) (fun _ _ h => h)) k k1
      obtain ⟨g', rfl, cs'⟩ := tn_cells (HH'.out.fr (S := fun _ => False) (Fr.of_below HB.out) (fun _ _ h => h)) k k2
      have en : L[k].n = L'[k].n := by
        have := congrArg (fun l => l[k]?) HE.out
        simp only [List.getElem?_map, List.getElem?_eq_getElem k1, List.getElem?_eq_getElem k2, Option.map_some] at this
        exact Option.some.inj this
      have s1 := HO.out L[k] (List.getElem_mem k1)
      have s2 := HO'.out L'[k] (List.getElem_mem k2)
      have CQ : Hid (∀ W, Below wr.heap.size wr W → Calls Try.prog 12 #[.agg (tnc L[k]).toArray, .agg (tnc L'[k]).toArray] W fun e w' => e = .returned (.bool true) ∧ Below W.heap.size W w') := fun W hW => (s1.fr0 (HB.out.trans (hW.mono HB.out.size))).eq (s2.fr0 (HB.out.trans (hW.mono HB.out.size))) en
      have x0 := cs 0 (by omega); have x1 := cs 1 (by omega); have x2 := cs 2 (by omega); have x3 := cs 3 (by omega)
      have x4 := cs 4 (by omega); have x5 := cs 5 (by omega); have x6 := cs 6 (by omega); have x7 := cs 7 (by omega)
      have y0 := cs' 0 (by omega); have y1 := cs' 1 (by omega); have y2 := cs' 2 (by omega); have y3 := cs' 3 (by omega)
      have y4 := cs' 4 (by omega); have y5 := cs' 5 (by omega); have y6 := cs' 6 (by omega); have y7 := cs' 7 (by omega)
      clear cs cs' en s1 s2
      generalize L[k] = t at *
      generalize L'[k] = t' at *
      simp only [tnc, Nat.add_zero, List.getElem?_cons_zero, List.getElem?_cons_succ] at x0 x1 x2 x3 x4 x5 x6 x7 y0 y1 y2 y3 y4 y5 y6 y7 CQ
      have i1 : (k : Int) < (N : Int) := by omega
      go_upto_region 6 with fail
      go_cut [26] (fun b wx => b = .bool false ∧ Hid (Below wr.heap.size wr wx))
      case first =>
        go_region_with (go_at_call 12; refine (CQ.out _ ?_).mono ?_; exact below_drewN (Below.refl _ _) _; rintro e w5 ⟨rfl, b5⟩; have b6 : Hid (Below wr.heap.size wr w5) := ((Below.refl _ _).drew.trans b5); clear b5)
        all_goals (go_wp2_with fail; go_meet; exact ⟨rfl, b6⟩)
      case rest =>
        obtain ⟨rfl, HZ⟩ := hcut
        have Z := hd (HB.out.trans (HZ.out.mono HB.out.size))
        clear x0 x1 x2 x3 x4 x5 x6 x7 y0 y1 y2 y3 y4 y5 y6 y7 CQ HB HZ
        go_wp2
        exact ⟨⟨k + 1, hlt, rfl, Z⟩, by simp [intOf]; omega⟩
    · obtain rfl : k = N := by omega
      go_wp2
      go_ret
      exact ⟨rfl, HB.out⟩

theorem SF.iv {w : World} {β : Option Nat} {a : Option Addr} {n c : Nat} {xs : List Int} (h : SF ic 1 w 3 β (.slice a n c) xs) (k : Nat) (hk : k < xs.length) : ∃ b, a = some ⟨b, 0, none⟩ ∧ w.cell? ⟨b, k, none⟩ = some (.int .i64 xs[k]) := by
  cases β with
  | none =>
    obtain ⟨-, rfl⟩ := h
    simp at hk
  | some g =>
    obtain ⟨cap, h, hR⟩ := h
    injection h with h1 h2 h3
    refine ⟨g, h1, ?_⟩
    have := hR.cell sz_ic k 0 hk (by omega)
    simpa [ic] using this

set_option maxRecDepth 100000 in
set_option maxHeartbeats 4000000 in
theorem eqInts_true (u v : Value) (β β' : Option Nat) (xs : List Int) (w : World) (hu : SF ic 1 w 3 β u xs) (hv : SF ic 1 w 3 β' v xs) :
    Calls Try.prog 14 #[u, v] w fun e w' => e = .returned (.bool true) ∧ ∃ m, w' = w.drewN m := by
  obtain ⟨a1, c, rfl, hc, hc'⟩ := hu.form
  obtain ⟨a2, d, rfl, hd1, hd2⟩ := hv.form
  have RU := hd (fun k hk => hu.iv k hk)
  have RV := hd (fun k hk => hv.iv k hk)
  obtain ⟨n, hn⟩ : ∃ n, xs.length = n := ⟨_, rfl⟩
  rw [hn] at hc hd1 ⊢
  have HN := hd hn
  clear hu hv hn
  go_enter Try.func14, Try.ntmps14
  go_wp2
  go_loopw [5] (fun i wr => ∃ k m : Nat, k ≤ n ∧ i = .int .i64 k ∧ wr = w.drewN m) (fun i _ => n - (intOf i).toNat)
  case atStart => exact ⟨0, 0, Nat.zero_le _, rfl, rfl⟩
  case round =>
    obtain ⟨k, m, hk, rfl, rfl⟩ := hrel
    by_cases hlt : k < n
    · have kx : k < xs.length := by have := HN.out; omega
      obtain ⟨b1, rfl, x0⟩ := RU.out k kx
      obtain ⟨b2, rfl, y0⟩ := RV.out k kx
      have i1 : (k : Int) < (n : Int) := by omega
      generalize xs[k] = x at *
      go_wp2
      go_quiet (fail)
      go_wp2
      exact ⟨⟨k + 1, _, by omega, by go_num, rfl⟩, by simp [intOf]; omega⟩
    · obtain rfl : k = n := by omega
      go_wp2
      go_ret
      exact ⟨rfl, _, rfl⟩

end Go.Proofs.Ytkkklfnooeofcab
