/-
  Scripts within scripts, opened.
-/
import Derived.Test.YtpjnhjijipcjkaaCommonS
import Derived.Test.YtpjnhjijipcjkaaMQ
namespace Go.Proofs.Ytpjnhjijipcjkaa
open Go.ChangeShapes Go.WideShapes Go.ChangeAt Go.RowKit Go.Deep Go.Joins
set_option linter.unusedVariables false

theorem weightsAll_mem {H : Type} {P : Program} {e : TypeId} : ∀ {l : List (DataW H)} {d : DataW H}, d ∈ l → ∀ n ∈ d.weights P e, n ∈ DataW.weightsAll P e l
  | d :: r, d', h, n, hn => by
    unfold DataW.weightsAll
    rcases List.mem_cons.1 h with rfl | h
    · exact List.mem_append_left _ hn
    · exact List.mem_append_right _ (weightsAll_mem h n hn)

section
variable {H : Type} {enc : TypeId × Value → H} {P : Program} {w : World} {base : Nat} {spare : Nat → Bool} {held : Bool}
theorem trod_struct5f {t : TypeId} {f0 f1 f2 f3 f4 : Field} {fuel : Nat} {cs : List Value} {x : DataW H × List MemPlace} (ht : P.underlying t = some (.struct #[f0, f1, f2, f3, f4])) (h : DataW.trod enc P w base spare held fuel t cs = some x) :
    ∃ y0 y1 y2 y3 y4 n, fuel = n + 1 ∧ x = (.agg [y0.1, y1.1, y2.1, y3.1, y4.1], y0.2 ++ (y1.2 ++ (y2.2 ++ (y3.2 ++ y4.2)))) ∧ cs.length = P.cellsOf t ∧ DataW.trod enc P w base spare held n f0.type ((cs.drop f0.offset).take (P.cellsOf f0.type)) = some y0 ∧
      DataW.trod enc P w base spare held n f1.type ((cs.drop f1.offset).take (P.cellsOf f1.type)) = some y1 ∧ DataW.trod enc P w base spare held n f2.type ((cs.drop f2.offset).take (P.cellsOf f2.type)) = some y2 ∧
      DataW.trod enc P w base spare held n f3.type ((cs.drop f3.offset).take (P.cellsOf f3.type)) = some y3 ∧ DataW.trod enc P w base spare held n f4.type ((cs.drop f4.offset).take (P.cellsOf f4.type)) = some y4 := by
  obtain ⟨xs, n, hn, rfl, hl, hlen, hf⟩ := DataW.trod_struct ht h
  match xs, hlen with
  | [y0, y1, y2, y3, y4], _ => exact ⟨y0, y1, y2, y3, y4, n, hn, by simp, hl, by simpa using hf 0 f0 rfl, by simpa using hf 1 f1 rfl, by simpa using hf 2 f2 rfl, by simpa using hf 3 f3 rfl, by simpa using hf 4 f4 rfl⟩
end

set_option maxRecDepth 100000 in
set_option maxHeartbeats 1000000 in
theorem isT_of {H : Type} {enc : TypeId × Value → H} {W : World} : ∀ (fuel : Nat) {v : Value} {d : DataW H} {p : List MemPlace},
    DataW.trod enc Try.prog W 0 (fun _ => true) true fuel 47 [v] = some (d, p) → Fits 47 d → ∃ al nl cl, v = .slice al nl cl ∧ ∀ D, fuel ≤ D → TrD (D + 1) W al nl cl := by
  intro fuel
  induction fuel using Nat.strongRecOn with
  | _ fuel ih =>
  intro v d p hf hs
  rcases DataW.trod_slice Try.underlying47 hf with ⟨hcs, _⟩ | ⟨x, l, cc, elems, rest, n, hfu, hcs, hd', _, hl, hm, hlen, hel, hsp, _⟩
  · simp at hcs
    exact ⟨none, 0, 0, hcs, fun D _ => ⟨Nat.le_refl _, by omega, by omega, fun h => by omega⟩⟩
  · simp at hcs
    have hd2 : d = .slice (elems.map (·.1)) (rest.map (·.1)) := (Prod.mk.inj hd').1
    have hsz : l * 56 ≤ 140737488351232 := by
      have := hs (((elems.map (·.1)).length + (rest.map (·.1)).length) * Try.prog.bytesOf 56) (by rw [hd2]; simp [DataW.weights, Try.underlying47])
      rw [bytesOp] at this
      simp [hlen] at this
      omega
    have each : ∀ D, n ≤ D → ∀ i, i < l → ∃ q : OpV, (W.cell? (x.add (i * 5)) = some (.int .i64 q.kind) ∧ W.cell? (x.add (i * 5 + 1)) = some (.int .i64 q.slot) ∧ W.cell? (x.add (i * 5 + 2)) = some (.int .i64 q.n) ∧ W.cell? (x.add (i * 5 + 3)) = some (.int .i64 q.v) ∧ W.cell? (x.add (i * 5 + 4)) = some (.slice q.ia q.il q.ic)) ∧ TrD D W q.ia q.il q.ic := by
      intro D hD i hi
      have he := hel i hi
      rw [cellsOp, List.getElem?_eq_getElem (by omega)] at he
      obtain ⟨cs', h1, h2⟩ := Option.bind_eq_some_iff.1 he
      obtain ⟨_, hlen', hcell⟩ := World.cells?_some h1
      obtain ⟨y0, y1, y2, y3, y4, n', hn', hyx, _, g0, g1, g2, g3, g4⟩ := trod_struct5f Try.underlying56 h2
      match cs', hlen' with
      | [v0, v1, v2, v3, v4], _ =>
        simp [cells3, cellsOps] at g0 g1 g2 g3 g4
        obtain ⟨z0, e0, _, _⟩ := DataW.trod_int Try.underlying3 g0
        obtain ⟨z1, e1, _, _⟩ := DataW.trod_int Try.underlying3 g1
        obtain ⟨z2, e2, _, _⟩ := DataW.trod_int Try.underlying3 g2
        obtain ⟨z3, e3, _, _⟩ := DataW.trod_int Try.underlying3 g3
        simp at e0 e1 e2 e3
        subst e0 e1 e2 e3
        have fs4 : Fits 47 y4.1 := by
          intro k hk
          refine hs k ?_
          rw [hd2]
          simp only [DataW.weights, Try.underlying47]
          refine List.mem_cons_of_mem _ (List.mem_append_left _ (weightsAll_mem (d := elems[i].1) (List.mem_map_of_mem (List.getElem_mem (by omega))) k ?_))
          rw [show elems[i] = _ from hyx]
          simp only [DataW.weights, Try.underlying56]
          exact DataW.weights_mem_each (j := 4) rfl rfl k hk
        obtain ⟨ia, il, ic, rfl, hT⟩ := ih n' (by omega) (d := y4.1) (p := y4.2) g4 fs4
        obtain ⟨D', rfl⟩ : ∃ D', D = D' + 1 := ⟨D - 1, by omega⟩
        have k0 := hcell 0 (by omega)
        have k1 := hcell 1 (by omega)
        have k2 := hcell 2 (by omega)
        have k3 := hcell 3 (by omega)
        have k4 := hcell 4 (by omega)
        rw [add_add] at k0 k1 k2 k3 k4
        exact ⟨⟨z0, z1, z2, z3, ia, il, ic⟩, ⟨by simpa using k0, by simpa using k1, by simpa using k2, by simpa using k3, by simpa using k4⟩, hT D' (by omega)⟩
    refine ⟨_, l, cc, hcs, fun D hD => ⟨hl, by simpa [maxLen] using hm, by omega, fun h0 => ?_⟩⟩
    obtain ⟨q0, ⟨c0, -⟩, -⟩ := each D (by omega) 0 h0
    obtain ⟨b, off, spot⟩ := x
    have hspot : spot = none := by simpa [Addr.add] using World.cell?_spot c0
    subst hspot
    have hblk := cell_lt c0
    rw [add_plain] at hblk
    refine ⟨b, off, rfl, hblk, fun i hi => ?_⟩
    obtain ⟨q, h1, h2⟩ := each D (by omega) i hi
    exact ⟨q, op_cells h1, h2⟩

end Go.Proofs.Ytpjnhjijipcjkaa
