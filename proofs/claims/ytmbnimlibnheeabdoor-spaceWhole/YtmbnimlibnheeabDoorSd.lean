/-
  list, Queue.
-/
import Derived.Test.YtmbnimlibnheeabDoorSb
namespace Go.Proofs.YtmbnimlibnheeabDoor
open Go.RowKit
set_option linter.unusedVariables false

def mkd (x : Int × OpE) : List Value := [.int .i64 x.1, .int .i64 x.2.kind, .int .i64 x.2.pos, .int .u8 x.2.ch, .int .i64 x.2.cl, .int .i64 x.2.sq]
theorem sz_mkd : Sz mkd 6 := fun x => ⟨rfl, fun v hv => by simp [mkd] at hv; rcases hv with rfl | rfl | rfl | rfl | rfl | rfl <;> rfl⟩
theorem Tryd.infoM : (Tryd.prog.info? 84).map (fun i => (i.zero, i.size, i.bytes)) = some (some (.agg #[.int .i64 0, .int .i64 0, .int .i64 0, .int .u8 0, .int .i64 0, .int .i64 0]), 6, 48) := by kernel_rfl

/-- append of one marked operation. -/
theorem push_mk (w : World) (β : Option Nat) (v : Value) (xs : List (Int × OpE)) (hv : SF mkd 6 w 84 β v xs) (b : Nat) (x : Int × OpE) (hb : w.heap[b]? = some (.cells (mkd x).toArray 84 (0, 0))) (hn : xs.length ≤ 100000) :
    ∃ v' w', (∀ ty, (Builtin.append_ #[55, 55] ty #[v, .slice (some ⟨b, 0, none⟩) 1 1]).run Tryd.prog w = .ok v' w') ∧ NowF mkd 6 w w' 84 β v' (xs ++ [x]) := by
  obtain ⟨i0, hi0, hz0, hz1, hz2⟩ := info_parts Tryd.infoM
  obtain ⟨v', w', hr, hN⟩ := run_pushF sz_mkd (P := Tryd.prog) w 55 0 84 i0 _ 48 Tryd.underlying55 hi0 hz0 hz1 rfl hz2 β v xs hv ⟨b, 0, none⟩ 1 1 [x] rfl (fun j u hj => by
    rw [cl_one] at hj
    rw [add_lit, cell_row hb, List.getElem?_toArray, Nat.zero_add]
    exact hj) (by omega) (by omega) (by omega)
  exact ⟨v', w', fun ty => hr, hN⟩

theorem row_empty {α : Type} {f : α → List Value} {k : Nat} {w : World} {g cap : Nat} {e : TypeId} {z : Array Value} {cur : List Value} (hg : w.heap[g]? = some (.cells cur.toArray e (0, 0))) (hc : cur = (madeCells z (cap * k)).toList) (hm : cap ≤ 9223372036854775807) : RowF f k w g 0 cap e [] := by
  refine ⟨cur, hg, by simp [cl_nil], rfl, Nat.zero_le _, hm, ?_⟩
  rw [hc, Array.length_toList, size_madeCells]

/-- A list of marked operations that the call has made, from block base on. -/
def ML (w : World) (base : Nat) (v : Value) (xs : List (Int × OpE)) : Prop := ∃ g, SF mkd 6 w 84 (some g) v xs ∧ base ≤ g
theorem ML.form {w : World} {base : Nat} {v : Value} {xs : List (Int × OpE)} (h : ML w base v xs) : ∃ g c, v = .slice (some ⟨g, 0, none⟩) xs.length c ∧ RowF mkd 6 w g xs.length c 84 xs ∧ base ≤ g ∧ c ≤ 9223372036854775807 ∧ xs.length ≤ c := by
  obtain ⟨g, ⟨c, rfl, hR⟩, hb⟩ := h
  have hR' := hR
  obtain ⟨cur, -, -, -, h1, h2, -⟩ := hR'
  exact ⟨g, c, rfl, hR, hb, h2, h1⟩
theorem ML.fr {S : Nat → Prop} {w w' : World} {base : Nat} {v : Value} {xs : List (Int × OpE)} (h : ML w base v xs) (hF : Fr S w w') (hS : ∀ k, base ≤ k → k < w.heap.size → ¬ S k) : ML w' base v xs := by
  obtain ⟨g, h, hb⟩ := h
  exact ⟨g, h.fr hF (fun k hk => by injection hk with hk; subst hk; exact hS g hb (h.lt _ rfl)), hb⟩
theorem ML.below {w w' : World} {base : Nat} {v : Value} {xs : List (Int × OpE)} (h : ML w base v xs) (hb : Below w.heap.size w w') : ML w' base v xs :=
  h.fr (S := fun _ => False) (Fr.of_below hb) (fun _ _ _ h => h.elim)
theorem ML.mono {w : World} {b b' : Nat} {v : Value} {xs : List (Int × OpE)} (h : ML w b v xs) (hb : b' ≤ b) : ML w b' v xs := by
  obtain ⟨g, h, h2⟩ := h
  exact ⟨g, h, by omega⟩
theorem ML.lt {w : World} {base : Nat} {v : Value} {xs : List (Int × OpE)} (h : ML w base v xs) : base < w.heap.size := by
  obtain ⟨g, h, h2⟩ := h
  have := h.lt _ rfl
  omega

theorem ML.grow {w0 u : World} {base : Nat} {v : Value} {xs : List (Int × OpE)} {m : Int} {k p c q s : Int} (h : ML u base v xs) (hb : Below base w0 u) (hlt : base ≤ w0.heap.size) (hn : xs.length ≤ 100000) :
    ∃ v' w', (∀ ty, (Builtin.append_ #[55, 55] ty #[v, .slice (some ⟨u.heap.size, 0, none⟩) 1 1]).run Tryd.prog (u.drew.alloc (.cells #[.int .i64 m, .int .i64 k, .int .i64 p, .int .u8 c, .int .i64 q, .int .i64 s] 84)) = .ok v' w') ∧ ML w' base v' (xs ++ [(m, ⟨k, p, c, q, s⟩)]) ∧ Below base w0 w' := by
  obtain ⟨g, hS, hg⟩ := h
  have hs := hb.size
  have hFu : Fr (fun _ => False) u (u.drew.alloc (.cells #[.int .i64 m, .int .i64 k, .int .i64 p, .int .u8 c, .int .i64 q, .int .i64 s] 84)) := (Fr.drew _ _).trans (Fr.alloc _ _ _)
  obtain ⟨v', w', hr, hN⟩ := push_mk (u.drew.alloc (.cells #[.int .i64 m, .int .i64 k, .int .i64 p, .int .u8 c, .int .i64 q, .int .i64 s] 84)) (some g) v xs (SF.fr hS hFu (fun _ _ h => h)) u.heap.size (m, ⟨k, p, c, q, s⟩) (heap_alloc_new u.drew _) hn
  obtain ⟨g', h1, h2, h3⟩ := hN.out
  have B2 : Below base w0 (u.drew.alloc (.cells #[.int .i64 m, .int .i64 k, .int .i64 p, .int .u8 c, .int .i64 q, .int .i64 s] 84)) := (hb.drew).alloc (by show base ≤ u.heap.size; omega) _
  have hsz : (u.drew.alloc (.cells #[.int .i64 m, .int .i64 k, .int .i64 p, .int .u8 c, .int .i64 q, .int .i64 s] 84)).heap.size = u.heap.size + 1 := by simp
  refine ⟨v', w', hr, ⟨g', h1, ?_⟩, B2.trans (h3.below (by omega) (fun k hk => by injection hk with hk; omega))⟩
  rcases h2 with h2 | h2
  · injection h2 with h2; omega
  · omega

set_option maxRecDepth 100000 in
set_option maxHeartbeats 4000000 in
theorem list_any (x : Nat) (p : Sp) (S : Nat → Prop) (w : World) (h : SpAt w x p S) :
    Calls Tryd.prog 32 #[.pointer (some ⟨x, 0, none⟩)] w fun e w' => ∃ u, e = .returned u ∧ ML w' w.heap.size u p.q ∧ Below w.heap.size w w' := by
  obtain ⟨i0, hi0, hz0, hz1, hz2⟩ := info_parts Tryd.infoM
  obtain ⟨⟨vm, vo, βm, βo, hK, hSx, hSm, hSo, hS⟩, hok⟩ := h
  have hn4 : p.q.length ≤ 4096 := by have := hok.n; have := hok.m; omega
  obtain ⟨am, cm, hvm, hcm1, hcm2⟩ := hK.rm.form
  obtain ⟨ao, co, hvo, hco1, hco2⟩ := hK.ro.form
  rw [Sp.ms_len] at hvm hcm1
  rw [Sp.os_len] at hvo hco1
  obtain ⟨n, hn⟩ : ∃ n, p.q.length = n := ⟨_, rfl⟩
  have HN := hd hn
  rw [hn] at hvm hvo hcm1 hco1 hn4
  subst hvm hvo
  have HK := hd hK
  have c0 := cell_row hK.box 0
  have c1 := cell_row hK.box 1
  simp at c0 c1
  have hxl := block_lt hK.box
  have hrow : ∀ j (hj : j < n), ∃ gm go, am = some ⟨gm, 0, none⟩ ∧ ao = some ⟨go, 0, none⟩ ∧ ∀ (hq : j < p.q.length) W, Below w.heap.size w W → gm < W.heap.size ∧ W.cell? ⟨gm, j, none⟩ = some (.int .i64 p.q[j].1) ∧ W.cell? ⟨go, j * 5, none⟩ = some (.int .i64 p.q[j].2.kind) ∧ W.cell? ⟨go, j * 5 + 1, none⟩ = some (.int .i64 p.q[j].2.pos) ∧ W.cell? ⟨go, j * 5 + 2, none⟩ = some (.int .u8 p.q[j].2.ch) ∧ W.cell? ⟨go, j * 5 + 3, none⟩ = some (.int .i64 p.q[j].2.cl) ∧ W.cell? ⟨go, j * 5 + 4, none⟩ = some (.int .i64 p.q[j].2.sq) := by
    intro j hj
    have hnn := HN.out
    have h1 := hK.rm
    have h2 := hK.ro
    cases βm with
    | none =>
      obtain ⟨-, h3⟩ := h1
      have : p.q.length = 0 := by rw [← Sp.ms_len, h3]; rfl
      omega
    | some gm =>
      cases βo with
      | none =>
        obtain ⟨-, h3⟩ := h2
        have : p.q.length = 0 := by rw [← Sp.os_len, h3]; rfl
        omega
      | some go =>
        obtain ⟨c1, h3, hRm⟩ := h1
        obtain ⟨c2, h4, hRo⟩ := h2
        injection h3 with h3
        injection h4 with h4
        refine ⟨gm, go, h3, h4, fun hq W hW => ?_⟩
        have hRm' := hRm.fr (S := fun _ => False) (Fr.of_below hW) (fun h => h)
        have hRo' := hRo.fr (S := fun _ => False) (Fr.of_below hW) (fun h => h)
        have jm : j < p.ms.length := by rw [Sp.ms_len]; exact hq
        have jo : j < p.os.length := by rw [Sp.os_len]; exact hq
        have k0 := hRm'.cell sz_ei j 0 jm (by omega)
        have l0 := hRo'.cell sz_opc j 0 jo (by omega)
        have l1 := hRo'.cell sz_opc j 1 jo (by omega)
        have l2 := hRo'.cell sz_opc j 2 jo (by omega)
        have l3 := hRo'.cell sz_opc j 3 jo (by omega)
        have l4 := hRo'.cell sz_opc j 4 jo (by omega)
        simp [ei, opc, Sp.ms, Sp.os] at k0 l0 l1 l2 l3 l4
        exact ⟨hRm'.lt, k0, l0, l1, l2, l3, l4⟩
  have HR := hd hrow
  clear hK hSx hSm hSo hS hok hn hrow
  go_enter Tryd.func32, Tryd.ntmps32
  go_wp2_with (first | (at_make; refine wpList_make_k _ rfl _ _ 55 rfl 84 i0 _ Tryd.underlying55 hi0 hz0 _ _ _ _ 0 n rfl rfl (by go_num) (by go_num) (by omega) (by rw [hz2]; omega) (by omega) ?_; intro w3 cur hg3 hcur hb3; have k1 : w3.cell? ⟨x, 1, none⟩ = some (.slice ao n co) := (hb3.out.cell (p := ⟨x, 1, none⟩) hxl).trans c1; have HRo := hd (row_empty (f := mkd) hg3.out (by have := hcur.out; rw [hz1] at this; exact this) (by omega)); have HB := hd hb3.out; clear hg3 hcur hb3) | fail)
  have S0 : Hid (ML w3 w.heap.size (.slice (some ⟨w.heap.size, 0, none⟩) 0 n) (p.q.take 0) ∧ Below w.heap.size w w3) :=
    ⟨⟨w.heap.size, ⟨n, by simp, by simpa using HRo.out⟩, Nat.le_refl _⟩, HB.out⟩
  clear HRo HB k1
  go_loopw [3, 17] (fun u i wr => ∃ j : Nat, j ≤ n ∧ i = .int .i64 j ∧ Hid (ML wr w.heap.size u (p.q.take j) ∧ Below w.heap.size w wr)) (fun _ i _ => n - (intOf i).toNat)
  case atStart => exact ⟨0, Nat.zero_le _, rfl, S0⟩
  case round =>
    obtain ⟨j, hj, rfl, hr⟩ := hrel
    clear S0
    by_cases hlt : j < n
    · obtain ⟨gm, go, rfl, rfl, hcs⟩ := HR.out j hlt
      have jq : j < p.q.length := by have := HN.out; omega
      obtain ⟨hgl, m0, l0, l1, l2, l3, l4⟩ := hcs jq wr hr.out.2
      have hxr : x < wr.heap.size := Nat.lt_of_lt_of_le hxl hr.out.2.size
      have x0 : wr.cell? ⟨x, 0, none⟩ = some (.slice (some ⟨gm, 0, none⟩) n cm) := (hr.out.2.cell (p := ⟨x, 0, none⟩) hxl).trans c0
      have ext : p.q.take (j + 1) = p.q.take j ++ [p.q[j]] := List.take_succ_eq_append_getElem jq
      have hl : (p.q.take j).length = j := by simp; omega
      have EX := hd ext
      generalize p.q[j] = pj at *
      obtain ⟨mj, k, ps, c, q, s⟩ := pj
      simp only at m0 l0 l1 l2 l3 l4
      obtain ⟨W, hW⟩ : ∃ W, W = wr.alloc (.cells #[.int .i64 k, .int .i64 ps, .int .u8 c, .int .i64 q, .int .i64 s] 37) := ⟨_, rfl⟩
      have HW := hd hW
      have B5 : W.heap[wr.heap.size]? = some (.cells #[.int .i64 k, .int .i64 ps, .int .u8 c, .int .i64 q, .int .i64 s] 37 (0, 0)) := by
        rw [hW]
        exact heap_alloc_new wr _
      have bW : Below wr.heap.size wr W := by
        rw [hW]
        exact (Below.refl _ _).alloc (Nat.le_refl _) _
      obtain ⟨⟨y0, y1, y2, y3, y4⟩, -⟩ := cells5 B5
      have xW0 := (bW.cell (p := ⟨x, 0, none⟩) hxr).trans x0
      have mW0 := (bW.cell (p := ⟨gm, j, none⟩) hgl).trans m0
      have hsW := bW.size
      have hgW := block_lt B5
      have hxW : x < W.heap.size := by omega
      have hmW : gm < W.heap.size := by omega
      obtain ⟨v', w', hap, h1, h2⟩ := ML.grow (m := mj) (k := k) (p := ps) (c := c) (q := q) (s := s) (hr.out.1.below bW) (hr.out.2.trans (bW.mono hr.out.2.size)) (Nat.le_refl _) (by rw [hl]; omega)
      rw [← ext] at h1
      have Z := hd (And.intro h1 h2)
      have HAP := hd hap
      have HC := hd (And.intro y0 (And.intro y1 (And.intro y2 (And.intro y3 (And.intro y4 (And.intro xW0 (And.intro mW0 (And.intro hgW (And.intro hxW hmW)))))))))
      have i2 : (j : Int) < (n : Int) := by omega
      clear h1 h2 hap ext hl hr hcs hW B5 bW y0 y1 y2 y3 y4 xW0 mW0 hsW hgW hxW hmW EX jq HR c0 c1 x0 m0
      go_wp2_with fail
      rw [← HW.out]
      obtain ⟨y0, y1, y2, y3, y4, xW0, mW0, hgW, hxW, hmW⟩ := HC.out
      have hap := HAP.out
      go_region_law (refine step_append_k rfl (.tmp 22) (.tmp 32) 55 55 rfl _ _ (by simp [Act.eval]) (by simp [Act.eval]) (hap _) ?_)
      all_goals go_wp2
      all_goals exact ⟨⟨j + 1, by omega, by go_num, Z⟩, by simp [intOf]; omega⟩
    · obtain rfl : j = n := by omega
      rw [List.take_of_length_le (by rw [HN.out]; exact Nat.le_refl _)] at hr
      go_wp2
      go_ret
      exact ⟨_, rfl, hr.out⟩

theorem queue_any (x : Nat) (p : Sp) (S : Nat → Prop) (w : World) (h : SpAt w x p S) :
    Calls Tryd.prog 17 #[.pointer (some ⟨x, 0, none⟩)] w fun e w' => ∃ u, e = .returned u ∧ ML w' w.heap.size u p.q ∧ Below w.heap.size w w' := by
  have HK := hd h
  clear h
  go_enter Tryd.func17, Tryd.ntmps17
  go_wp2_with fail
  refine (list_any x p S w HK.out).mono ?_
  rintro e w' ⟨u, rfl, h1, h2⟩
  have R := hd (And.intro h1 h2)
  clear h1 h2
  go_wp2
  go_ret
  exact ⟨_, rfl, R.out⟩

end Go.Proofs.YtmbnimlibnheeabDoor
