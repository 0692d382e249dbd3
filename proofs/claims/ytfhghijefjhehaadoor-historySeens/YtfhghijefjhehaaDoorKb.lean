/-
  A history opened, its texts' elements within their kinds; a list of numbers opened.
-/
import Derived.Test.YtfhghijefjhehaaDoorIv
import Derived.Test.YtfhghijefjhehaaDoorKa
namespace Go.Proofs.YtfhghijefjhehaaDoor
open Go.ChangeShapes Go.WideShapes Go.ChangeAt Go.RowKit Go.Deep Go.Joins
set_option linter.unusedVariables false

theorem wf_i64_range {n : Int} (h : (Lit.int .i64 n).wf = true) : -9223372036854775808 ≤ n ∧ n ≤ 9223372036854775807 := (Lit.wf_int_iff .i64 n).1 h

section
variable {H : Type} {enc : TypeId × Value → H} {W : World}

set_option maxRecDepth 100000 in
/-- A text that came in. -/
theorem isElw_of {fuel : Nat} {v : Value} {d : DataW H} {p : List MemPlace} (hf : DataW.trod enc Tryd.prog W 0 (fun _ => true) true fuel 35 [v] = some (d, p)) (hs : Reaches 35 d) :
    ∃ a n c, ∃ xs : List El, v = .slice a n c ∧ xs.length = n ∧ n * 24 ≤ 140737488351232 ∧ (∀ x ∈ xs, wfE x) ∧ (0 < xs.length → ∃ b off, a = some ⟨b, off, none⟩ ∧ b < W.heap.size ∧ ∀ q (hq : q < xs.length), W.cell? ⟨b, off + q * 3, none⟩ = some (.int .u8 xs[q].1) ∧ W.cell? ⟨b, off + q * 3 + 1, none⟩ = some (.int .i64 xs[q].2.1) ∧ W.cell? ⟨b, off + q * 3 + 2, none⟩ = some (.int .i64 xs[q].2.2)) := by
  rcases DataW.trod_slice Tryd.underlying35 hf with ⟨hcs, _⟩ | ⟨x, l, cc, elems, rest, n, hfu, hcs, hd', _, hl, hm, hlen, hel, hsp, _⟩
  · simp at hcs
    exact ⟨none, 0, 0, [], hcs, rfl, by omega, fun x hx => (by cases hx), fun h => by simp at h⟩
  · simp at hcs
    have hd2 : d = .slice (elems.map (·.1)) (rest.map (·.1)) := (Prod.mk.inj hd').1
    have hsz : l * 24 ≤ 140737488351232 := by
      have := hs (((elems.map (·.1)).length + (rest.map (·.1)).length) * Tryd.prog.bytesOf 64) (by rw [hd2]; simp [DataW.weights, Tryd.underlying35])
      rw [bytesEl] at this
      simp [hlen] at this
      omega
    have each : ∀ i, ∃ q : El, i < l → ((W.cell? (x.add (i * 3)) = some (.int .u8 q.1) ∧ W.cell? (x.add (i * 3 + 1)) = some (.int .i64 q.2.1) ∧ W.cell? (x.add (i * 3 + 2)) = some (.int .i64 q.2.2)) ∧ wfE q) := by
      intro i
      by_cases hi : i < l
      · have he := hel i hi
        rw [cellsEl, List.getElem?_eq_getElem (by omega)] at he
        obtain ⟨cs', h1, h2⟩ := Option.bind_eq_some_iff.1 he
        obtain ⟨_, hlen', hcell⟩ := World.cells?_some h1
        obtain ⟨y0, y1, y2, n', hyx, g0, g1, g2⟩ := trod_s3 Tryd.underlying64 h2
        match cs', hlen' with
        | [v0, v1, v2], _ =>
          simp [cells3, cellsU] at g0 g1 g2
          obtain ⟨z0, e0, _, f0⟩ := DataW.trod_int Tryd.underlying5 g0
          obtain ⟨z1, e1, _, f1⟩ := DataW.trod_int Tryd.underlying3 g1
          obtain ⟨z2, e2, _, f2⟩ := DataW.trod_int Tryd.underlying3 g2
          simp at e0 e1 e2
          subst e0 e1 e2
          have k0 := hcell 0 (by omega)
          have k1 := hcell 1 (by omega)
          have k2 := hcell 2 (by omega)
          rw [add_add] at k0 k1 k2
          exact ⟨(z0, z1, z2), fun _ => ⟨⟨by simpa using k0, by simpa using k1, by simpa using k2⟩, wf_u8_range f0, wf_i64_range f1, wf_i64_range f2⟩⟩
      · exact ⟨((0, 0, 0) : Int × Int × Int), fun h => absurd h hi⟩
    obtain ⟨Q, hQ⟩ := Classical.axiomOfChoice each
    refine ⟨_, l, cc, (List.range l).map Q, hcs, by simp, hsz, fun x hx => ?_, fun h0 => ?_⟩
    · obtain ⟨q, hq, rfl⟩ := List.mem_map.1 hx
      exact (hQ q (List.mem_range.1 hq)).2
    simp at h0
    obtain ⟨b, off, spot⟩ := x
    have c0 := (hQ 0 h0).1.1
    have hspot : spot = none := by simpa [Addr.add] using World.cell?_spot c0
    subst hspot
    have hblk := cell_lt c0
    rw [add_lit] at hblk
    refine ⟨b, off, rfl, hblk, fun q hq => ?_⟩
    have hq' : q < l := by simpa using hq
    have k := (hQ q hq').1
    simp only [add_lit] at k
    simpa [Nat.add_assoc] using k

/-- What is known of one event. -/
def EvOw (W : World) (x : Addr) (i : Nat) (q : Ev) (a : Option Addr) (c : Nat) (xs : List El) : Prop :=
  (W.cell? (x.add (i * 10)) = some (.int .i64 q.step) ∧ W.cell? (x.add (i * 10 + 1)) = some (.int .i64 q.site) ∧ W.cell? (x.add (i * 10 + 2)) = some (.int .i64 q.hav) ∧ W.cell? (x.add (i * 10 + 3)) = some (.int .i64 q.made) ∧
    W.cell? (x.add (i * 10 + 4)) = some (.int .i64 q.o.kind) ∧ W.cell? (x.add (i * 10 + 5)) = some (.int .i64 q.o.pos) ∧ W.cell? (x.add (i * 10 + 6)) = some (.int .u8 q.o.ch) ∧ W.cell? (x.add (i * 10 + 7)) = some (.int .i64 q.o.cl) ∧ W.cell? (x.add (i * 10 + 8)) = some (.int .i64 q.o.sq) ∧ W.cell? (x.add (i * 10 + 9)) = some (.slice a q.len c)) ∧
  (0 ≤ q.o.ch ∧ q.o.ch ≤ 255) ∧ q.len * 24 ≤ 140737488351232 ∧ xs.length = q.len ∧ (∀ x ∈ xs, wfE x) ∧
  (0 < xs.length → ∃ b off, a = some ⟨b, off, none⟩ ∧ b < W.heap.size ∧ ∀ q (hq : q < xs.length), W.cell? ⟨b, off + q * 3, none⟩ = some (.int .u8 xs[q].1) ∧ W.cell? ⟨b, off + q * 3 + 1, none⟩ = some (.int .i64 xs[q].2.1) ∧ W.cell? ⟨b, off + q * 3 + 2, none⟩ = some (.int .i64 xs[q].2.2))

set_option maxRecDepth 100000 in
set_option maxHeartbeats 1000000 in
/-- Events that came in. -/
theorem isEvsw_of {fuel : Nat} {v : Value} {d : DataW H} {p : List MemPlace} (hf : DataW.trod enc Tryd.prog W 0 (fun _ => true) true fuel 23 [v] = some (d, p)) (hs : Reaches 23 d) :
    ∃ a n c evs A K D, v = .slice a n c ∧ n * 96 ≤ 140737488351232 ∧ IsV W a n evs A K ∧ IsX W evs A D ∧ (∀ j (h : j < evs.length), evs[j].len * 24 ≤ 140737488351232) ∧ (∀ j (h : j < evs.length), 0 ≤ evs[j].o.ch ∧ evs[j].o.ch ≤ 255) ∧ ∀ j, j < evs.length → ∀ x ∈ D j, wfE x := by
  rcases DataW.trod_slice Tryd.underlying23 hf with ⟨hcs, _⟩ | ⟨x, l, cc, elems, rest, n, hfu, hcs, hd', _, hl, hm, hlen, hel, hsp, _⟩
  · simp at hcs
    exact ⟨none, 0, 0, [], fun _ => none, fun _ => 0, fun _ => [], hcs, by omega, ⟨rfl, fun h => by omega⟩, fun j h => by simp at h, fun j h => by simp at h, fun j h => by simp at h, fun j h => by simp at h⟩
  · simp at hcs
    have hd2 : d = .slice (elems.map (·.1)) (rest.map (·.1)) := (Prod.mk.inj hd').1
    have hsz : l * 96 ≤ 140737488351232 := by
      have := hs (((elems.map (·.1)).length + (rest.map (·.1)).length) * Tryd.prog.bytesOf 50) (by rw [hd2]; simp [DataW.weights, Tryd.underlying23])
      rw [bytesEv] at this
      simp [hlen] at this
      omega
    have each : ∀ i, ∃ s : Ev × Option Addr × Nat × List El, i < l → EvOw W x i s.1 s.2.1 s.2.2.1 s.2.2.2 := by
      intro i
      by_cases hi : i < l
      · have he := hel i hi
        rw [cellsEv, List.getElem?_eq_getElem (by omega)] at he
        obtain ⟨cs', h1, h2⟩ := Option.bind_eq_some_iff.1 he
        obtain ⟨_, hlen', hcell⟩ := World.cells?_some h1
        obtain ⟨y0, y1, y2, y3, y4, y5, n', hyx, g0, g1, g2, g3, g4, g5⟩ := trod_s6 Tryd.underlying50 h2
        have fs5 : Reaches 35 y5.1 := by
          intro k hk
          refine hs k ?_
          rw [hd2]
          simp only [DataW.weights, Tryd.underlying23]
          refine List.mem_cons_of_mem _ (List.mem_append_left _ (weightsAll_mem (d := elems[i].1) (List.mem_map_of_mem (List.getElem_mem (by omega))) k ?_))
          rw [hyx]
          simp only [DataW.weights, Tryd.underlying50]
          exact DataW.weights_mem_each (j := 5) rfl rfl k hk
        match cs', hlen' with
        | [v0, v1, v2, v3, v4, v5, v6, v7, v8, v9], _ =>
          simp [cells3, cellsOp, cellsEls] at g0 g1 g2 g3 g4 g5
          obtain ⟨z0, e0, _, _⟩ := DataW.trod_int Tryd.underlying3 g0
          obtain ⟨z1, e1, _, _⟩ := DataW.trod_int Tryd.underlying3 g1
          obtain ⟨z2, e2, _, _⟩ := DataW.trod_int Tryd.underlying3 g2
          obtain ⟨z3, e3, _, _⟩ := DataW.trod_int Tryd.underlying3 g3
          simp at e0 e1 e2 e3
          subst e0 e1 e2 e3
          obtain ⟨o, rfl, rfl, rfl, rfl, rfl, hch⟩ := op_of g4
          obtain ⟨a, nn, c, xs, rfl, hx1, hx2, hxw, hx3⟩ := isElw_of (d := y5.1) (p := y5.2) g5 fs5
          have k0 := hcell 0 (by omega)
          have k1 := hcell 1 (by omega)
          have k2 := hcell 2 (by omega)
          have k3 := hcell 3 (by omega)
          have k4 := hcell 4 (by omega)
          have k5 := hcell 5 (by omega)
          have k6 := hcell 6 (by omega)
          have k7 := hcell 7 (by omega)
          have k8 := hcell 8 (by omega)
          have k9 := hcell 9 (by omega)
          rw [add_add] at k0 k1 k2 k3 k4 k5 k6 k7 k8 k9
          exact ⟨(⟨z0, z1, z2, z3, o, nn⟩, a, c, xs), fun _ => ⟨⟨by simpa using k0, by simpa using k1, by simpa using k2, by simpa using k3, by simpa using k4, by simpa using k5, by simpa using k6, by simpa using k7, by simpa using k8, by simpa using k9⟩, hch, hx2, hx1, hxw, hx3⟩⟩
      · exact ⟨(⟨0, 0, 0, 0, ⟨0, 0, 0, 0, 0⟩, 0⟩, none, 0, []), fun h => absurd h hi⟩
    obtain ⟨Q, hQ⟩ := Classical.axiomOfChoice each
    refine ⟨_, l, cc, (List.range l).map fun i => (Q i).1, fun i => (Q i).2.1, fun i => (Q i).2.2.1, fun i => (Q i).2.2.2, hcs, hsz, ⟨by simp, fun h0 => ?_⟩, fun j h => ?_, fun j h => ?_, fun j h => ?_, fun j h => ?_⟩
    · obtain ⟨b, off, spot⟩ := x
      have c0 := (hQ 0 h0).1.1
      have hspot : spot = none := by simpa [Addr.add] using World.cell?_spot c0
      subst hspot
      have hblk := cell_lt c0
      rw [add_lit] at hblk
      refine ⟨b, off, rfl, hblk, fun q hq => ?_⟩
      have hq' : q < l := by simpa using hq
      have k := (hQ q hq').1
      simp only [add_lit] at k
      simpa [Nat.add_assoc] using k
    · have hj : j < l := by simpa using h
      have k := hQ j hj
      exact ⟨by simpa using k.2.2.2.1, k.2.2.2.2.2⟩
    · have hj : j < l := by simpa using h
      simpa using (hQ j hj).2.2.1
    · have hj : j < l := by simpa using h
      simpa using (hQ j hj).2.1
    · have hj : j < l := by simpa using h
      exact (hQ j hj).2.2.2.2.1

set_option maxRecDepth 100000 in
theorem hisw_of {v : Value} {d : DataW H} {p : List MemPlace} {r : Reach} {b0 : Nat} (hv : Value.okWide Tryd.prog W r b0 25 v) (h : DataW.Trod enc Tryd.prog W 0 (fun _ => true) true 25 v d p) (hs : Reaches 25 d) :
    ∃ (C : Int) (aL aE : Option Addr) (nL cL nE cE : Nat) (log : List Ed) (evs : List Ev) (A : Nat → Option Addr) (K : Nat → Nat) (D : Nat → List El), v = .agg #[.int .i64 C, .slice aL nL cL, .slice aE nE cE] ∧ IsL W aL nL log ∧ IsV W aE nE evs A K ∧ IsX W evs A D ∧ nL ≤ 2932031007402 ∧ nE ≤ 1466015503701 ∧
      (∀ j (hj : j < evs.length), evs[j].len ≤ 11728124029610) ∧ (∀ j (h : j < log.length), 0 ≤ log[j].o.ch ∧ log[j].o.ch ≤ 255) ∧ (∀ j (h : j < evs.length), 0 ≤ evs[j].o.ch ∧ evs[j].o.ch ≤ 255) ∧ (∀ j, j < evs.length → ∀ x ∈ D j, wfE x) := by
  obtain ⟨cs, rfl, hsz⟩ := okWide_struct Tryd.underlying25 hv
  obtain ⟨l⟩ := cs
  have hsz' : l.length = 3 := hsz.trans cellsHis
  obtain ⟨fuel, hf⟩ := h
  obtain ⟨y0, y1, y2, n, hyx, g0, g1, g2⟩ := trod_s3 Tryd.underlying25 hf
  have r1 : Reaches 22 y1.1 := by
    intro k hk
    refine hs k ?_
    rw [show d = _ from hyx]
    simp only [DataW.weights, Tryd.underlying25]
    exact DataW.weights_mem_each (j := 1) rfl rfl k hk
  have r2 : Reaches 23 y2.1 := by
    intro k hk
    refine hs k ?_
    rw [show d = _ from hyx]
    simp only [DataW.weights, Tryd.underlying25]
    exact DataW.weights_mem_each (j := 2) rfl rfl k hk
  match l, hsz' with
  | [c0, c1, c2], _ =>
    simp [Value.cells, cells3, cellsEds, cellsEvs] at g0 g1 g2
    obtain ⟨z0, e0, _, _⟩ := DataW.trod_int Tryd.underlying3 g0
    simp at e0
    subst e0
    obtain ⟨aL, nL, cL, log, rfl, hb1, hL, hcl⟩ := isLog_of (d := y1.1) (p := y1.2) g1 r1
    obtain ⟨aE, nE, cE, evs, A, K, D, rfl, hb2, hV, hX, hD, hce, hDw⟩ := isEvsw_of (d := y2.1) (p := y2.2) g2 r2
    exact ⟨z0, aL, aE, nL, cL, nE, cE, log, evs, A, K, D, rfl, hL, hV, hX, by omega, by omega, fun j hj => by have := hD j hj; omega, hcl, hce, hDw⟩

theorem bytesI : Tryd.prog.bytesOf 3 = 8 := by kernel_rfl
set_option maxRecDepth 100000 in
/-- A list of numbers that came in. -/
theorem isW_of {v : Value} {d : DataW H} {p : List MemPlace} (h : DataW.Trod enc Tryd.prog W 0 (fun _ => true) true 34 v d p) (hv : v.cells.toList = [v]) (hs : Reaches 34 d) :
    ∃ a n c, ∃ X : Nat → Int, v = .slice a n c ∧ n * 8 ≤ 140737488351232 ∧ IsW W a n X := by
  obtain ⟨fuel, hf⟩ := h
  rw [hv] at hf
  rcases DataW.trod_slice Tryd.underlying34 hf with ⟨hcs, _⟩ | ⟨x, l, cc, elems, rest, n, hfu, hcs, hd', _, hl, hm, hlen, hel, hsp, _⟩
  · simp at hcs
    exact ⟨none, 0, 0, fun _ => 0, hcs, by omega, fun h => by omega⟩
  · simp at hcs
    have hd2 : d = .slice (elems.map (·.1)) (rest.map (·.1)) := (Prod.mk.inj hd').1
    have hsz : l * 8 ≤ 140737488351232 := by
      have := hs (((elems.map (·.1)).length + (rest.map (·.1)).length) * Tryd.prog.bytesOf 3) (by rw [hd2]; simp [DataW.weights, Tryd.underlying34])
      rw [bytesI] at this
      simp [hlen] at this
      omega
    have each : ∀ i, ∃ q : Int, i < l → W.cell? (x.add i) = some (.int .i64 q) := by
      intro i
      by_cases hi : i < l
      · have he := hel i hi
        rw [cells3, List.getElem?_eq_getElem (by omega)] at he
        obtain ⟨cs', h1, h2⟩ := Option.bind_eq_some_iff.1 he
        obtain ⟨_, hlen', hcell⟩ := World.cells?_some h1
        match cs', hlen' with
        | [v0], _ =>
          obtain ⟨z0, e0, _, _⟩ := DataW.trod_int Tryd.underlying3 h2
          simp at e0
          subst e0
          have k0 := hcell 0 (by omega)
          rw [add_add] at k0
          exact ⟨z0, fun _ => by simpa using k0⟩
      · exact ⟨0, fun h => absurd h hi⟩
    obtain ⟨Q, hQ⟩ := Classical.axiomOfChoice each
    refine ⟨_, l, cc, Q, hcs, hsz, fun h0 => ?_⟩
    obtain ⟨b, off, spot⟩ := x
    have c0 := hQ 0 h0
    have hspot : spot = none := by simpa [Addr.add] using World.cell?_spot c0
    subst hspot
    have hblk := cell_lt c0
    rw [add_lit] at hblk
    refine ⟨b, off, rfl, hblk, fun q hq => ?_⟩
    have k := hQ q hq
    simp only [add_lit] at k
    exact k
end

end Go.Proofs.YtfhghijefjhehaaDoor
