/-
  NetFresh: what stands where l is marked, and what is made of it.
-/
import Derived.Test.YtnglcnilckolkaaFq
namespace Go.Proofs.Ytnglcnilckolkaa
open Go.RowKit
set_option linter.unusedVariables false

structure FY (w u : World) (a : Option Addr) (n c : Nat) (b : List Int) (x y gw g1 C1 m : Nat) (z0 z1 z2 : It) (E2 : Ent) (A2 : Option Addr) (C2 : Nat) : Prop where
  tv : TV w u x y (g3 b) 3 (gy b) 1 gw
  row : u.heap[gw]? = some (.cells #[.int .i64 0, .int .i64 1, .slice a n c, .bool false, .int .i64 0, .int .i64 1, .slice a n c, .bool false, .int .i64 2, .int .i64 0, .slice a n c, .bool false] 37 (0, 0))
  hb0 : IsB w a n c b
  hb : IsB u a n c b
  bl : b.length = n
  n60 : n ≤ 60
  l : RowO u g1 3 C1 [mkZ z0, mkZ z1, mkZ z2]
  t0 : TR u z0.γ z0.c (List.replicate n 193)
  t1 : TR u z1.γ z1.c (List.replicate n 194)
  t2 : TR u z2.γ z2.c (List.replicate n 195)
  a0 : z0.a = at0 z0.γ ∧ z0.d.b = b
  a1 : z1.a = at0 z1.γ ∧ z1.d.b = b
  a2 : z2.a = at0 z2.γ ∧ z2.d.b = b
  q0 : ∀ q, z0.γ = some q → gw < q ∧ q < m
  q1 : ∀ q, z1.γ = some q → gw < q ∧ q < m
  q2 : ∀ q, z2.γ = some q → gw < q ∧ q < m
  qg : gw < g1 ∧ g1 < m
  s01 : ∀ q, z0.γ = some q → z1.γ ≠ some q
  s02 : ∀ q, z0.γ = some q → z2.γ ≠ some q
  s12 : ∀ q, z1.γ = some q → z2.γ ≠ some q
  n0 : z0.γ ≠ some g1
  n1 : z1.γ ≠ some g1
  n2 : z2.γ ≠ some g1
  fe : FE u E2
  v2 : E2.v = .slice A2 3 C2
  d2 : E2.L.map It.d = g3 b
  lo2 : m ≤ E2.lo
  hi2 : E2.hi ≤ u.heap.size
  mu : m ≤ u.heap.size

theorem lcell {u : World} {g C n : Nat} {b : List Int} {z0 z1 z2 : It} (h : RowO u g 3 C [mkZ z0, mkZ z1, mkZ z2]) (bl : b.length = n) (a0 : z0.a = at0 z0.γ ∧ z0.d.b = b) (a1 : z1.a = at0 z1.γ ∧ z1.d.b = b) (a2 : z2.a = at0 z2.γ ∧ z2.d.b = b) :
    u.cell? ⟨g, 2, none⟩ = some (.slice (at0 z0.γ) n z0.c) ∧ u.cell? ⟨g, 6, none⟩ = some (.slice (at0 z1.γ) n z1.c) ∧ u.cell? ⟨g, 10, none⟩ = some (.slice (at0 z2.γ) n z2.c) := by
  refine ⟨?_, ?_, ?_⟩
  · rw [h.cell4 2 (by omega)]
    simp [cO, opc, mkZ, a0.1, a0.2, bl]
  · rw [h.cell4 6 (by omega)]
    simp [cO, opc, mkZ, a1.1, a1.2, bl]
  · rw [h.cell4 10 (by omega)]
    simp [cO, opc, mkZ, a2.1, a2.2, bl]
theorem RowO.head3 {u : World} {g C : Nat} {L : List It} {x : It} (hL : L.length = 3) (h : RowO u g 4 C (L ++ [x])) : RowO u g 3 C L := by
  obtain ⟨cur, hh, ht, hl, hn, hm, hs⟩ := h
  refine ⟨cur, hh, ?_, hL, by omega, hm, hs⟩
  have e : cur.take (3 * 4) = (cur.take (4 * 4)).take (3 * 4) := by rw [List.take_take]; congr 1
  rw [e, ht, cO_app]
  have h3 : (cO L).length = 3 * 4 := by rw [cO_len, hL]
  rw [← h3, List.take_left]
/-- append of the datagram: l is as it was. -/
theorem push_v {u : World} {g C : Nat} {z0 z1 z2 : It} (h : RowO u g 3 C [z0, z1, z2]) :
    ∃ gv cv w3, (∀ ty, (Builtin.append_ #[43, 43] ty #[.slice (some ⟨g, 0, none⟩) 3 C, .slice (some ⟨u.heap.size, 0, none⟩) 1 1]).run Try.prog (u.alloc (.cells #[.int .i64 8, .int .i64 0, .slice none 0 0, .bool false] 37)) = .ok (.slice (some ⟨gv, 0, none⟩) 4 cv) w3) ∧
      (∃ C', RowO w3 g 3 C' [z0, z1, z2]) ∧ w3.cell? ⟨gv, 12, none⟩ = some (.int .i64 8) ∧ gv < w3.heap.size ∧ 4 ≤ cv ∧ (gv = g ∨ u.heap.size ≤ gv) ∧ Fr (fun k => k = g) u w3 := by
  obtain ⟨g', c', w3, hr, hT, hF⟩ := run_pushD u (some g) C 3 [z0, z1, z2] h rfl ⟨⟨8, 0, [], false⟩, none, 0, none⟩ (by omega)
  have hR : RowO w3 g' 4 c' ([z0, z1, z2] ++ [⟨⟨8, 0, [], false⟩, none, 0, none⟩]) := hT
  refine ⟨g', c', w3, hr, ?_, ?_, hR.lt, ?_, ?_, ?_⟩
  · rcases hF with ⟨e, -⟩ | ⟨-, hF⟩
    · obtain rfl := Option.some.inj e
      exact ⟨c', RowO.head3 rfl hR⟩
    · exact ⟨C, h.fr hF (fun e => e)⟩
  · rw [hR.cell4 12 (by omega)]
    simp [cO, opc]
  · obtain ⟨cur, -, -, -, h1, -⟩ := hR
    exact h1
  · rcases hF with ⟨e, -⟩ | ⟨hg, -⟩
    · exact .inl (Option.some.inj e).symm
    · exact .inr hg
  · rcases hF with ⟨e, hF⟩ | ⟨-, hF⟩
    · obtain rfl := Option.some.inj e
      exact hF
    · exact hF.mono (fun _ _ e => e.elim)

theorem fz_of {w u : World} {a : Option Addr} {n c : Nat} {b : List Int} {x y gw g1 C1 m : Nat} {z0 z1 z2 : It} {E2 : Ent} {A2 : Option Addr} {C2 : Nat} {w1 w2 w3 w4 w5 w6 w7 w8 w9 : World} {k3 go gp gv gq db co cp cv cq cd C' gr3 C3 gz C4 : Nat} {γd : Option Nat} {f t : Int} {ds : Bool} (Y : FY w u a n c b x y gw g1 C1 m z0 z1 z2 E2 A2 C2)
    (T1 : TR w1 (some go) co (List.replicate n 193 ++ [209])) (I1 : IsB w1 (at0 z0.γ) n z0.c (List.replicate n 193)) (F1 : Fr (fun q => z0.γ = some q) u w1) (hgo : z0.γ = some go ∨ u.heap.size ≤ go)
    (T2 : TR w2 (some gp) cp (List.replicate n 194 ++ [210])) (I2 : IsB w2 (at0 z1.γ) n z1.c (List.replicate n 194)) (F2 : Fr (fun q => z1.γ = some q) w1 w2) (hgp : z1.γ = some gp ∨ w1.heap.size ≤ gp)
    (R3 : RowO w3 g1 3 C' [mkZ z0, mkZ z1, mkZ z2]) (V3 : w3.cell? ⟨gv, 12, none⟩ = some (.int .i64 8)) (L3 : gv < w3.heap.size) (hgv : gv = g1 ∨ w2.heap.size ≤ gv) (F3 : Fr (fun k => k = g1) w2 w3)
    (F4 : Fr (fun k => w.heap.size ≤ k ∧ k < gw) w3 w4) (hγ : ∀ g, γd = some g → w3.heap.size ≤ g) (hγ4 : ∀ g, γd = some g → g < w4.heap.size)
    (F5 : Below w4.heap.size w4 w5) (D5 : w5.heap[db]? = some (.cells #[.int .i64 f, .int .i64 t, .slice (at0 γd) n cd, .bool ds] 37 (0, 0))) (hdb : w4.heap.size ≤ db)
    (F6 : Below w5.heap.size w5 w6) (F7 : Fr (fun q => γd = some q) w6 w7)
    (T8 : TR w8 (some gq) cq (List.replicate n 177 ++ [211])) (I8 : IsB w8 (at0 γd) n cd (List.replicate n 177)) (F8 : Fr (fun q => γd = some q) w7 w8)
    (B9 : Below w8.heap.size w8 w9) (rest : ∃ L, IsG w9 (some ⟨gr3, 0, none⟩) 2 C3 L ∧ L.map It.d = without (g3 b) k3) (zed : ∃ L, IsG w9 (some ⟨gz, 0, none⟩) 1 C4 L ∧ L.map It.d = gy b) :
    FZ w9 a n c b k3 gw g1 A2 C2 go gp gq gv db z0.γ z1.γ z2.γ γd z0.c z1.c z2.c cd gr3 C3 gz C4 := by
  have e1 := F1.size
  have e2 := F2.size
  have e3 := F3.size
  have e4 := F4.size
  have e5 := F5.size
  have e6 := F6.size
  have e7 := F7.size
  have e8 := F8.size
  have e9 := B9.size
  have w0u := Y.tv.base.size
  have gwl : w.heap.size ≤ gw := Y.tv.2
  have mu := Y.mu
  -- from w3 on: what is older than w3 and not below gw stays
  have G3 : Fr (fun k => (w.heap.size ≤ k ∧ k < gw) ∨ w3.heap.size ≤ k) w3 w9 := by
    have h5 : Fr (fun k => (w.heap.size ≤ k ∧ k < gw) ∨ w3.heap.size ≤ k) w3 w4 := F4.mono (fun _ _ h => .inl h)
    have h6 := (h5.trans (Fr.of_below F5)).trans (Fr.of_below F6)
    have h7 := h6.trans (F7.mono (fun q _ e => .inr (hγ q e)))
    have h8 := h7.trans (F8.mono (fun q _ e => .inr (hγ q e)))
    exact h8.trans (Fr.of_below B9)
  have G2 : Fr (fun k => k = g1 ∨ (w.heap.size ≤ k ∧ k < gw) ∨ w2.heap.size ≤ k) w2 w9 := (F3.mono (fun _ _ h => .inl h)).trans (G3.mono (fun k _ h => .inr (h.imp id (fun h => by omega))))
  have G1 : Fr (fun k => z1.γ = some k ∨ k = g1 ∨ (w.heap.size ≤ k ∧ k < gw) ∨ w1.heap.size ≤ k) w1 w9 := (F2.mono (fun _ _ h => .inl h)).trans (G2.mono (fun k _ h => .inr (h.imp id (fun h => h.imp id (fun h => by omega)))))
  have G0 : Fr (fun k => z0.γ = some k ∨ z1.γ = some k ∨ k = g1 ∨ (w.heap.size ≤ k ∧ k < gw) ∨ u.heap.size ≤ k) u w9 := (F1.mono (fun _ _ h => .inl h)).trans (G1.mono (fun k _ h => .inr (h.imp id (fun h => h.imp id (fun h => h.imp id (fun h => by omega))))))
  have qg := Y.qg
  have lgw : gw < u.heap.size := block_lt Y.row
  -- the rows of o, p, q and the bytes
  have goS : ¬ (z1.γ = some go ∨ go = g1 ∨ (w.heap.size ≤ go ∧ go < gw) ∨ w1.heap.size ≤ go) := by
    have lt := T1.lt go rfl
    rintro (h | h | h | h)
    · rcases hgo with e | e
      · exact Y.s01 go e h
      · have := (Y.q1 go h).2; omega
    · rcases hgo with e | e
      · exact Y.n0 (h ▸ e)
      · omega
    · rcases hgo with e | e
      · have := (Y.q0 go e).1; omega
      · omega
    · omega
  have gpS : ¬ (gp = g1 ∨ (w.heap.size ≤ gp ∧ gp < gw) ∨ w2.heap.size ≤ gp) := by
    have lt := T2.lt gp rfl
    rintro (h | h | h)
    · rcases hgp with e | e
      · exact Y.n1 (h ▸ e)
      · omega
    · rcases hgp with e | e
      · have := (Y.q1 gp e).1; omega
      · omega
    · omega
  have gvS : ¬ ((w.heap.size ≤ gv ∧ gv < gw) ∨ w3.heap.size ≤ gv) := by
    rintro (h | h)
    · rcases hgv with e | e <;> omega
    · omega
  have g1S : ¬ ((w.heap.size ≤ g1 ∧ g1 < gw) ∨ w3.heap.size ≤ g1) := by
    rintro (h | h) <;> omega
  have T1' := T1.fr G1 (fun g e => by cases e; exact goS)
  have T2' := T2.fr G2 (fun g e => by cases e; exact gpS)
  have T8' := T8.fr (Fr.of_below (S := fun _ => False) B9) (fun _ _ h => h)
  have R3' : RowO w9 g1 3 C' [mkZ z0, mkZ z1, mkZ z2] := R3.fr G3 g1S
  have at0S : ∀ (γ : Option Nat) (g off : Nat), at0 γ = some ⟨g, off, none⟩ → γ = some g := by
    intro γ g off e
    cases γ with
    | none => cases e
    | some g' =>
      have := Option.some.inj e
      injection this with e1
      rw [e1]
  have cellN : ∀ {v : World} {g cc : Nat} {k : Int} {q : Int}, TR v (some g) cc (List.replicate n k ++ [q]) → v.cell? ⟨g, n, none⟩ = some (.int .u8 q) := by
    intro v g cc k q h
    obtain ⟨g', hg', h1, -⟩ := h.cell n (by simp)
    cases hg'
    rw [h1]
    simp [List.getD_eq_getElem?_getD]
  have I2' : IsB w9 (at0 z1.γ) n z1.c (List.replicate n 194) := I2.fr G2 (fun _ g off e h => by
    have e := at0S _ _ _ e
    have := Y.q1 g e
    rcases h with h | h | h
    · exact Y.n1 (h ▸ e)
    · omega
    · omega)
  have I1' : IsB w9 (at0 z0.γ) n z0.c (List.replicate n 193) := I1.fr G1 (fun _ g off e h => by
    have e := at0S _ _ _ e
    have := Y.q0 g e
    rcases h with h | h | h | h
    · exact Y.s01 g e h
    · exact Y.n0 (h ▸ e)
    · omega
    · omega)
  have t2' : TR w9 z2.γ z2.c (List.replicate n 195) := Y.t2.fr G0 (fun g e h => by
    have := Y.q2 g e
    rcases h with h | h | h | h | h
    · exact Y.s02 g h e
    · exact Y.s12 g h e
    · exact Y.n2 (h ▸ e)
    · omega
    · omega)
  have hb' : IsB w9 a n c b := Y.hb.old Y.hb0 G0 (fun k h => by
    rcases h with h | h | h | h | h
    · have := Y.q0 k h; omega
    · have := Y.q1 k h; omega
    · omega
    · exact h.1
    · omega)
  have row' := G0.keeps Y.row (fun h => by
    rcases h with h | h | h | h | h
    · have := Y.q0 _ h; omega
    · have := Y.q1 _ h; omega
    · omega
    · omega
    · omega)
  have fe' : FG w9 E2 := Y.fe.fg.fr G0 (fun k hk h => by
    have := Y.fe.own k hk
    have := Y.lo2
    have := Y.hi2
    rcases h with h | h | h | h | h
    · have := Y.q0 _ h; omega
    · have := Y.q1 _ h; omega
    · omega
    · omega
    · omega)
  have D6 := (F6.block db (block_lt D5)).trans D5
  have D8 : w8.heap[db]? = some (.cells #[.int .i64 f, .int .i64 t, .slice (at0 γd) n cd, .bool ds] 37 (0, 0)) := F8.keeps (F7.keeps D6 (fun e => by have := hγ4 db e; omega)) (fun e => by have := hγ4 db e; omega)
  have D9 := (B9.block db (block_lt D8)).trans D8
  obtain ⟨c2, c6, c10⟩ := lcell R3' Y.bl Y.a0 Y.a1 Y.a2
  exact ⟨hb', wt_isG row' Y.bl hb', rest, zed, ⟨E2.L, fe'.isG2 Y.v2, Y.d2⟩, (G3.cell (p := ⟨gv, 12, none⟩) L3 gvS).trans V3,
    by rw [R3'.cell4 0 (by omega)]; rfl, by rw [R3'.cell4 3 (by omega)]; rfl, c2, by rw [R3'.cell4 4 (by omega)]; rfl, by rw [R3'.cell4 7 (by omega)]; rfl, c6, by rw [R3'.cell4 8 (by omega)]; rfl, by rw [R3'.cell4 11 (by omega)]; rfl, c10,
    cellN T1', cellN T2', cellN T8', I1', I2', t2'.isB (by simp), by rw [cell_row D9]; rfl, I8.below B9, by omega, R3'.lt, T1'.lt go rfl, T2'.lt gp rfl, T8'.lt gq rfl, block_lt D9⟩

end Go.Proofs.Ytnglcnilckolkaa
