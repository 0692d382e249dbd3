/-
  New, Put.
-/
import Derived.Test.YtkkklfnooeofcaaPa
namespace Go.Proofs.Ytkkklfnooeofcaa
open Go.RowKit Go.Maps Go.ChangeMaps Go.MapKept Go.WideMaps
set_option linter.unusedVariables false

theorem new_any (w : World) : Calls Try.prog 22 #[] w fun e w' => ∃ r O, e = .returned (.pointer (some ⟨r, 0, none⟩)) ∧ BD w' O r 0 [] ∧ (∀ k, O k → w.heap.size ≤ k) ∧ Below w.heap.size w w' := by
  have hmm := @run_makeMap Try.prog
  have h1 := MP.made w
  have hB : Below w.heap.size w ((w.alloc (.map #[] 0)).alloc (.cells #[.map (some w.heap.size), .int .i64 0] 73)) := ((Below.refl _ _).alloc (Nat.le_refl _) _).alloc (by simp) _
  have hS : BD ((w.alloc (.map #[] 0)).alloc (.cells #[.map (some w.heap.size), .int .i64 0] 73)) (fun k => k = w.heap.size ∨ k = w.heap.size + 1) (w.heap.size + 1) 0 [] := by
    refine ⟨w.heap.size, [], rfl, ?_, h1.fr (Fr.alloc (fun _ => False) _ _) (fun h => h), by simp, List.Pairwise.nil, .inr rfl, .inl rfl, by simp, ?_, List.Pairwise.nil, by simp, by omega⟩
    · have := heap_alloc_new (w.alloc (.map #[] 0)) (.cells #[.map (some w.heap.size), .int .i64 0] 73)
      rwa [World.size_alloc] at this
    · rintro k (rfl | rfl) <;> simp <;> omega
  have HS := hd hS
  have HB := hd hB
  clear h1 hS hB
  go_enter Try.func22, Try.ntmps22
  go_wp2
  go_ret
  exact ⟨_, _, rfl, HS.out, fun k hk => by rcases hk with rfl | rfl <;> omega, HB.out⟩

theorem rise_len : ∀ (l : List Nat) (m g : Nat), l.Pairwise (· < ·) → (∀ x ∈ l, m ≤ x ∧ x ≤ g) → l.length ≤ g + 1 - m
  | [], m, g, _, _ => by simp
  | x :: l, m, g, h, hb => by
    have h1 := hb x (by simp)
    have := rise_len l (x + 1) g (List.pairwise_cons.1 h).2 (fun y hy => ⟨(List.pairwise_cons.1 h).1 y hy, (hb y (by simp [hy])).2⟩)
    simp only [List.length_cons]
    omega
theorem BK.len {w : World} {O : Nat → Prop} {r b g : Nat} {ps : List NB} (h : BK w O r b g ps) : ps.length ≤ g := by
  have := rise_len (ps.map fun p => p.n.id) 1 g (List.pairwise_map.2 h.ids) (fun x hx => by
    obtain ⟨p, hp, rfl⟩ := List.mem_map.1 hx
    exact h.bd p hp)
  rw [List.length_map] at this
  omega

/-- A board that has one note more. -/
theorem BK.more {w0 w u : World} {O : Nat → Prop} {r b g : Nat} {ps : List NB} (h : BK w0 O r b g ps) (hw : w = w0.setCell ⟨r, 1, none⟩ (.int .i64 ((g + 1 : Nat) : Int))) (hg : g < 256) {cc : Int} {s : ByteArray} {es : List El} (hF : FinP w b (g + 1) cc s es (ps.map keyN) u) :
    NowB w0 u O r (g + 1) (ps.map NB.n ++ [⟨g + 1, cc, s, false, [], es⟩]) ∧ u.cell? ⟨r, 1, none⟩ = some (.int .i64 ((g + 1 : Nat) : Int)) := by
  subst hw
  obtain ⟨x, e, v, hN, hx, he, hM, hFr⟩ := hF
  have hs : (w0.setCell ⟨r, 1, none⟩ (.int .i64 ((g + 1 : Nat) : Int))).heap.size = w0.heap.size := by simp
  rw [hs] at hx he
  have hFs : Fr (· = r) w0 (w0.setCell ⟨r, 1, none⟩ (.int .i64 ((g + 1 : Nat) : Int))) := Fr.setCell w0 ⟨r, 1, none⟩ _ rfl
  obtain ⟨es0, ck, hmb⟩ := h.mp.map
  have hrb : r ≠ b := map_ne h.box hmb ⟨es0, ck, rfl⟩
  have hFO : Fr (fun k => k = r ∨ k = b) w0 u := (hFs.mono (fun k _ hk => .inl hk)).next hFr (fun k _ hk => .inr hk)
  have hbx := set_row h.box 1 (.int .i64 ((g + 1 : Nat) : Int))
  have hbox : u.heap[r]? = some (.cells #[.map (some b), .int .i64 ((g + 1 : Nat) : Int)] 73 (0, 0)) := by
    have := hFr.keeps hbx (show ¬ r = b from hrb)
    simpa using this
  have c1 := cell_row hbox 1
  simp at c1
  refine ⟨⟨fun k => O k ∨ k = x ∨ k = e, ⟨b, ps ++ [⟨⟨g + 1, cc, s, false, [], es⟩, x, none, e, .slice none 0 0, v⟩], by simp, hbox, by simpa using hM, ?_, ?_, .inl h.orr, .inl h.ob, ?_, ?_, ?_, ?_, by omega⟩, ?_, ?_⟩, by simpa using c1⟩
  · intro p hp
    rcases List.mem_append.1 hp with hp | hp
    · have hp1 := h.nk p hp
      refine hp1.fr hFO ?_ ?_ ?_
      · rintro (e1 | e1)
        · exact ty_ne hp1.box h.box (by decide) e1
        · exact map_ne hp1.box hmb ⟨es0, ck, rfl⟩ e1
      · rintro k hk hkk
        have hsf := hp1.said
        rw [hk] at hsf
        obtain ⟨cur, hcur⟩ := hsf.blk
        rcases hkk with e1 | e1
        · exact ty_ne hcur h.box (by decide) e1
        · exact map_ne hcur hmb ⟨es0, ck, rfl⟩ e1
      · rintro hkk
        obtain ⟨cur, hcur⟩ := (se_sf hp1.elems).blk
        rcases hkk with e1 | e1
        · exact ty_ne hcur h.box (by decide) e1
        · exact map_ne hcur hmb ⟨es0, ck, rfl⟩ e1
    · rw [List.mem_singleton.1 hp]
      exact hN
  · rw [List.pairwise_append]
    refine ⟨h.dis, by simp, fun p hp q hq => ?_⟩
    rw [List.mem_singleton.1 hq]
    refine ⟨?_, fun k _ hk => by cases hk⟩
    have := h.old _ (h.on p hp).1
    simp only
    omega
  · intro p hp
    rcases List.mem_append.1 hp with hp | hp
    · exact ⟨.inl (h.on p hp).1, .inl (h.on p hp).2.1, fun k hk => .inl ((h.on p hp).2.2 k hk)⟩
    · rw [List.mem_singleton.1 hp]
      exact ⟨.inr (.inl rfl), .inr (.inr rfl), fun k hk => by cases hk⟩
  · rintro k (hk | rfl | rfl)
    · exact Nat.lt_of_lt_of_le (h.old k hk) hFO.size
    · exact block_lt hN.box
    · exact hN.elems.lt k rfl
  · rw [List.pairwise_append]
    refine ⟨h.ids, by simp, fun p hp q hq => ?_⟩
    rw [List.mem_singleton.1 hq]
    have := h.bd p hp
    simp only
    omega
  · intro p hp
    rcases List.mem_append.1 hp with hp | hp
    · have := h.bd p hp; omega
    · rw [List.mem_singleton.1 hp]; simp
  · rintro k (hk | rfl | rfl)
    · exact .inl hk
    · exact .inr hx
    · exact .inr he
  · exact hFO.mono (fun k _ hk => by rcases hk with rfl | rfl; exact h.orr; exact h.ob)

set_option maxRecDepth 100000 in
set_option maxHeartbeats 4000000 in
theorem put_good (O : Nat → Prop) (r g : Nat) (Ns : List Nt) (w : World) (h : BD w O r g Ns) (a : Option Addr) (n c : Nat) (xs : List El) (hE : IsE w a n c xs) (hwf : ∀ x ∈ xs, wfE x) (f t : Nat) (hf : f < t) (ht : t ≤ n) (cc : Int) (s : ByteArray) (hs : sayE cc s = 0) (hsz : s.size ≤ 9223372036854775807) (hg : g < 256) (hroom : roomy (t - f) 24) :
    Calls Try.prog 24 #[.pointer (some ⟨r, 0, none⟩), .slice a n c, .int .i64 f, .int .i64 t, .int .i64 cc, .string s] w fun e w' => e = .returned (.tuple #[.int .i64 ((g + 1 : Nat) : Int), .int .i64 0]) ∧ NowB w w' O r (g + 1) (Ns ++ [⟨g + 1, cc, s, false, [], (xs.drop f).take (t - f)⟩]) := by
  obtain ⟨b, ps, rfl, hK⟩ := h
  obtain ⟨ab, off, rfl, hab⟩ := hE.addr (by omega)
  have hnc := hE.2.1
  have hc63 := hE.2.2.1
  have hel : Hid (((xs.drop f).take (t - f)).length = t - f) := by
    have := hE.1
    unfold Hid
    rw [List.length_take, List.length_drop]
    omega
  have HE2 := hd ((hE.drop f (by omega)).take (t - f) (by omega))
  have HWF := hd (show ∀ x ∈ (xs.drop f).take (t - f), wfE x from fun x hx => hwf x (List.mem_of_mem_drop (List.mem_of_mem_take hx)))
  have HRM : Hid (roomy ((xs.drop f).take (t - f)).length 24) := by unfold Hid; rw [hel.out]; exact hroom
  generalize (xs.drop f).take (t - f) = es at *
  have r0 := cell_row hK.box 0
  have r1 := cell_row hK.box 1
  have z1 := frozen_row hK.box 1
  simp at r0 r1
  have lr := block_lt hK.box
  obtain ⟨es0, ck, hmb⟩ := hK.mp.map
  have HRB := hd (map_ne hK.box hmb ⟨es0, ck, rfl⟩)
  have HKK := hd hK
  have n1 : ¬ (f : Int) < 0 := by omega
  have n2 : ¬ (n : Int) < (t : Int) := by omega
  have n3 : ¬ (t : Int) ≤ (f : Int) := by omega
  have n4 : ((g : Int) == 256) = false := by rw [beq_eq_false_iff_ne]; omega
  have HS := hd hs
  have HN := hd (show n ≤ c ∧ c ≤ 9223372036854775807 ∧ f < t ∧ t ≤ n ∧ g < 256 ∧ ab < w.heap.size ∧ b < w.heap.size from ⟨hnc, hc63, hf, ht, hg, hab, hK.mp.lt⟩)
  clear hE hwf hs hnc hc63 hmb hK hroom
  go_enter Try.func24, Try.ntmps24
  go_wp2_with fail
  refine (say_any cc s w hsz).mono ?_
  rintro e w' ⟨rfl, rfl⟩
  rw [HS.out]
  go_upto_region 9 with fail
  have eg : Hid ((g : Int) + 1 = ((g + 1 : Nat) : Int)) := by unfold Hid; omega
  rw [eg.out]
  obtain ⟨w1, hw1⟩ : ∃ u, w'.setCell ⟨r, 1, none⟩ (.int .i64 ((g + 1 : Nat) : Int)) = u := ⟨_, rfl⟩
  have hs1 : w1.heap.size = w'.heap.size := by rw [← hw1]; simp
  have hFs : Fr (· = r) w' w1 := by rw [← hw1]; exact Fr.setCell w' ⟨r, 1, none⟩ _ rfl
  have hb1 : w1.heap[r]? = some (.cells #[.map (some b), .int .i64 ((g + 1 : Nat) : Int)] 73 (0, 0)) := by
    have := set_row HKK.out.box 1 (.int .i64 ((g + 1 : Nat) : Int))
    rw [hw1] at this
    simpa using this
  have x0 := cell_row hb1 0
  have x1 := cell_row hb1 1
  have HW1 := hd hw1
  simp only [List.getElem?_toArray, List.getElem?_cons_zero, List.getElem?_cons_succ] at x0 x1
  have hne : Hid (ab ≠ r) := by
    rintro rfl
    have hel2 := hel.out
    have hl : 0 < es.length := by have := HN.out; omega
    have k := isE_cells HE2.out (by have := HN.out; omega) 2 _ (cE_get es 0 hl).2.2
    rw [add_lit, cell_row HKK.out.box] at k
    have := (Array.getElem?_eq_some_iff.1 k).1
    simp at this
    omega
  have HEs : IsE w1 (some ⟨ab, off + f * 3, none⟩) (t - f) (c - f) es := HE2.out.fr hFs (fun _ b' off' e => by
    injection e with e
    injection e with e1 e2
    rw [← e1]
    exact hne.out)
  rw [hw1]
  refine regPut _ w1 r b (g + 1) ab off n c f t cc s es (ps.map keyN) hel HEs (by have := HN.out; omega) (by have := HN.out; omega) HRM.out (by have := HN.out; omega) (by have := HN.out; omega) (by have := HN.out; omega) (by have := HN.out; omega) (by have := HN.out; omega) (by omega) (by have := HN.out; omega) x0 x1 (HKK.out.mp.fr hFs HRB.out.symm) ?_ ?_ (by have := HN.out; omega) HWF.out (by simp) rfl rfl rfl rfl rfl rfl ?_
  · intro p hp
    obtain ⟨q, hq, rfl⟩ := List.mem_map.1 hp
    have := HKK.out.bd q hq
    simp only
    omega
  · rw [List.length_map]
    have := HKK.out.len
    have := HN.out
    omega
  · intro L val u hL hW hV
    obtain ⟨Z1, Z2⟩ := HKK.out.more HW1.out.symm (by have := HN.out; omega) (hW.2.2.2.2 (hL 23 (by omega)))
    have Z := hd Z1
    clear hW hV hL Z1 HEs x0 x1 hFs hb1
    simp only [slPut, DPut, List.getD_cons_zero, List.getD_cons_succ, List.map_cons, List.map_nil, puts, List.foldl_cons, List.foldl_nil, Act.put, List.setIfInBounds_toArray, List.set_cons_succ, List.set_cons_zero]
    go_wp2
    refine bodyPost_ret (v := .tuple #[.int .i64 ((g + 1 : Nat) : Int), .int .i64 0]) (by simp [results, Try.results24, go_sem]) rfl ?_
    exact ⟨rfl, Z.out⟩

end Go.Proofs.Ytkkklfnooeofcaa
