/-
  SpaceWhole: what the law keeps: the list of what was put in, the texts that were shown.
-/
import Derived.Test.YtmbnimlibnheeabDoorWx
import Derived.Test.YtmbnimlibnheeabDoorGa
namespace Go.Proofs.YtmbnimlibnheeabDoor
open Go.RowKit Go.Lib
set_option linter.unusedVariables false

def svv (v : Value) : List Value := match v with
  | .slice a n c => [.slice a n c]
  | _ => [.slice none 0 0]
theorem sz_svv : Sz svv 1 := fun x => ⟨by cases x <;> rfl, fun v hv => by cases x <;> (simp [svv] at hv; subst hv; rfl)⟩
theorem Tryd.infoEs : (Tryd.prog.info? 26).map (fun i => (i.zero, i.size, i.bytes)) = some (some (.slice none 0 0), 1, 24) := by kernel_rfl
theorem SE.svv {w : World} {β : Option Nat} {v : Value} {xs : List El} (h : SE w β v xs) : Go.Proofs.YtmbnimlibnheeabDoor.svv v = [v] := by
  obtain ⟨a, c, rfl, -, -⟩ := h.form
  rfl

theorem push_two (w : World) (g : Nat) (v : Value) (xs : List Value) (hv : SF svv 1 w 26 (some g) v xs) (b : Nat) (a1 a2 : Option Addr) (n1 n2 c1 c2 : Nat) (hb : w.heap[b]? = some (.cells #[.slice a1 n1 c1, .slice a2 n2 c2] 26 (0, 0))) (hn : xs.length ≤ 100000) :
    ∃ v' w', (∀ ty, (Builtin.append_ #[32, 32] ty #[v, .slice (some ⟨b, 0, none⟩) 2 2]).run Tryd.prog w = .ok v' w') ∧ NowF svv 1 w w' 26 (some g) v' (xs ++ [.slice a1 n1 c1, .slice a2 n2 c2]) := by
  obtain ⟨i0, hi0, hz0, hz1, hz2⟩ := info_parts Tryd.infoEs
  obtain ⟨v', w', hr, hN⟩ := run_pushF sz_svv (P := Tryd.prog) w 32 0 26 i0 _ 24 Tryd.underlying32 hi0 hz0 hz1 rfl hz2 (some g) v xs hv ⟨b, 0, none⟩ 2 2 [.slice a1 n1 c1, .slice a2 n2 c2] rfl (fun j u hj => by
    have e : cl svv [Value.slice a1 n1 c1, .slice a2 n2 c2] = [Value.slice a1 n1 c1, .slice a2 n2 c2] := rfl
    rw [e] at hj
    rw [add_lit, cell_row hb, Nat.zero_add]
    simpa using hj) (by omega) (by omega) (by omega)
  exact ⟨v', w', fun ty => hr, hN⟩

/-- Two sides, the list of what was put in (L at βi), the texts that were shown (X at bx). -/
structure LS (w0 w : World) (x y : Nat) (s t : Sd) (N M : Nat) (K : Nat → Prop) (Gs Gt Ins : List El) (X : List En) (vs : Value) (βs : Option Nat) (vt : Value) (βt : Option Nat) (vi vx : Value) (L : List El) (βi : Option Nat) (bx : Nat) : Prop where
  ww : WW w0 w x y s t 0 32 N M K Gs Gt Ins X vs βs vt βt
  il : SE w βi vi L
  ik : ∀ g, βi = some g → K g ∧ ∀ e ∈ X, e.β ≠ some g
  xl : SF svv 1 w 26 (some bx) vx (X.map (·.v))
  xk : K bx

section
variable {w0 w u w' : World} {x y : Nat} {s t : Sd} {N M : Nat} {K : Nat → Prop} {Gs Gt Ins : List El} {X : List En} {vs vt vi vx : Value} {βs βt βi : Option Nat} {L : List El} {bx : Nat}
theorem LS.below (h : LS w0 w x y s t N M K Gs Gt Ins X vs βs vt βt vi vx L βi bx) (hu : Below w.heap.size w u) : LS w0 u x y s t N M K Gs Gt Ins X vs βs vt βt vi vx L βi bx :=
  ⟨h.ww.below hu, h.il.below hu, h.ik, h.xl.fr (S := fun _ => False) (Fr.of_below hu) (fun _ _ h => h), h.xk⟩
theorem LS.xt (h : LS w0 w x y s t N M K Gs Gt Ins X vs βs vt βt vi vx L βi bx) : Tg w bx 26 := h.xl.blk

/-- One more of what was put in. -/
theorem LS.ins (h : LS w0 w x y s t N M K Gs Gt Ins X vs βs vt βt vi vx L βi bx) (hu : Below w.heap.size w u) {b : Nat} {el : El} (hb : u.heap[b]? = some (.cells (elc el).toArray 41 (0, 0))) (hL : L.length ≤ 4096) :
    ∃ v' u', (∀ ty, (Builtin.append_ #[26, 26] ty #[vi, .slice (some ⟨b, 0, none⟩) 1 1]).run Tryd.prog u = .ok v' u') ∧ ∃ K' β', LS w0 u' x y s t N M K' Gs Gt Ins X vs βs vt βt v' vx (L ++ [el]) β' bx := by
  have H := h.below hu
  obtain ⟨v', u', hr, β', n1, n2, n3⟩ := run_pushE u βi vi L H.il b el hb hL
  have hsz := n3.size
  have xt := H.xt
  refine ⟨v', u', hr, fun k => K k ∨ β' = some k, β', ?_⟩
  have nx : ∀ g, βi = some g → ¬ (bx = g) := fun g hg he => (H.il.tg hg).ne xt (by decide) he.symm
  refine ⟨H.ww.own (S := fun k => βi = some k) n3 (fun k hk => ⟨(H.ww.kk k (H.ik k hk).1).1, fun T1 T2 _ _ h4 => h4 k (H.ik k hk).1⟩) (fun e he g hg hs => (H.ik g hs).2 e he hg) _ (fun k hk => ?_) (fun k hk => ?_) (fun e he g hg hk => .inl hk), n1, fun g hg => ⟨.inr hg, fun e he hg' => ?_⟩, H.xl.fr n3 (fun g hg he => by injection hg with hg; exact nx g he hg), .inl H.xk⟩
  · rcases hk with hk | hk
    · exact .inl hk
    · rcases n2 with n2 | ⟨g', n2, hg'⟩
      · exact .inl (H.ik k (n2 ▸ hk)).1
      · rw [n2] at hk
        injection hk with hk
        exact .inr (hk ▸ hg')
  · rcases hk with hk | hk
    · exact Nat.lt_of_lt_of_le (H.ww.kk k hk).2 hsz
    · exact n1.lt k hk
  · rcases n2 with n2 | ⟨g', n2, hg''⟩
    · exact (H.ik g (n2 ▸ hg)).2 e he hg'
    · rw [n2] at hg
      injection hg with hg
      have := (H.ww.ent e he).1.lt g hg'
      omega

theorem WW.more (h : WW w0 w x y s t 0 32 N M K Gs Gt Ins X vs βs vt βt) : WW w0 w x y s t 0 32 N M K Gs Gt Ins (X ++ [⟨vs, βs, s.d⟩, ⟨vt, βt, t.d⟩]) vs βs vt βt := by
  obtain ⟨T1, T2, h1, h2, h3, h4⟩ := h.mem
  obtain ⟨Ts, Tt, h5, h6⟩ := h.wt
  refine { h with wt := ⟨_, _, h5.show_, fun e he => ?_⟩, ent := fun e he => ?_ }
  · rcases List.mem_append.1 he with he | he
    · exact (h6 e he).imp (fun h => List.mem_append.2 (.inl h)) (fun h => List.mem_append.2 (.inl h))
    · simp only [List.mem_cons, List.not_mem_nil, or_false] at he
      rcases he with rfl | rfl
      · exact .inl (by simp)
      · exact .inr (by simp)
  · rcases List.mem_append.1 he with he | he
    · exact h.ent e he
    · simp only [List.mem_cons, List.not_mem_nil, or_false] at he
      rcases he with rfl | rfl
      · exact ⟨h1.tt.1, .inr (.inl ⟨rfl, rfl, rfl⟩)⟩
      · exact ⟨h2.tt.1, .inr (.inr ⟨rfl, rfl, rfl⟩)⟩

/-- Both texts are shown. -/
theorem LS.shows (h : LS w0 w x y s t N M K Gs Gt Ins X vs βs vt βt vi vx L βi bx) (hu : Below w.heap.size w u) {b : Nat} (hb : u.heap[b]? = some (.cells #[vs, vt] 26 (0, 0))) (hX : X.length ≤ 4096) :
    ∃ v' u', (∀ ty, (Builtin.append_ #[32, 32] ty #[vx, .slice (some ⟨b, 0, none⟩) 2 2]).run Tryd.prog u = .ok v' u') ∧ ∃ K' g', LS w0 u' x y s t N M K' Gs Gt Ins (X ++ [⟨vs, βs, s.d⟩, ⟨vt, βt, t.d⟩]) vs βs vt βt vi v' L βi g' := by
  have H := h.below hu
  obtain ⟨T1, T2, h1, h2, h3, h4⟩ := H.ww.mem
  obtain ⟨a1, c1, e1, -, -⟩ := h1.tt.1.form
  obtain ⟨a2, c2, e2, -, -⟩ := h2.tt.1.form
  obtain ⟨v', u', hr, g', n1, n2⟩ := push_two u bx vx (X.map (·.v)) H.xl b a1 a2 _ _ c1 c2 (by rw [hb, e1, e2]) (by simp; omega)
  rw [← e1, ← e2] at n1
  have hF : Fr (fun k => k = bx) u u' := by
    rcases n2 with ⟨a, b⟩ | ⟨a, b⟩
    · injection a with a
      rw [a]
      exact b
    · exact b.mono (fun k _ h => h.elim)
  have hsz := hF.size
  have xt := H.xt
  have W := H.ww.more
  have hg : g' = bx ∨ u.heap.size ≤ g' := by
    rcases n2 with ⟨a, -⟩ | ⟨a, -⟩
    · injection a with a
      exact .inl a.symm
    · exact .inr (by omega)
  have ne : ∀ e ∈ X ++ [⟨vs, βs, s.d⟩, ⟨vt, βt, t.d⟩], ∀ g, e.β = some g → ¬ (g = bx) := fun e he g hg hb => ((W.ent e he).1.tg hg).ne xt (by decide) hb
  refine ⟨v', u', hr, fun k => K k ∨ k = g', g', W.own (S := fun k => k = bx) hF (fun k hk => ?_) ne _ (fun k hk => ?_) (fun k hk => ?_) (fun e he g hg hk => .inl hk), H.il.fr hF (fun g hg hb => (H.il.tg hg).ne xt (by decide) hb), fun g hg => ⟨.inl (H.ik g hg).1, fun e he hg' => ?_⟩, ?_, .inr rfl⟩
  · subst hk
    exact ⟨(H.ww.kk _ H.xk).1, fun T1 T2 _ _ h4 => h4 _ H.xk⟩
  · rcases hk with hk | hk
    · exact .inl hk
    · rcases hg with hg | hg
      · exact .inl (by rw [hk, hg]; exact H.xk)
      · exact .inr (by omega)
  · rcases hk with hk | hk
    · exact Nat.lt_of_lt_of_le (H.ww.kk k hk).2 hsz
    · exact hk ▸ n1.lt g' rfl
  · rcases List.mem_append.1 he with he | he
    · exact (H.ik g hg).2 e he hg'
    · have hk := h4 g (H.ik g hg).1
      simp only [List.mem_cons, List.not_mem_nil, or_false] at he
      rcases he with rfl | rfl
      · exact hk.1 (h1.tt.2 g hg')
      · exact hk.2 (h2.tt.2 g hg')
  · rw [List.map_append]
    exact n1

/-- Behind an act. -/
theorem LS.act (h : LS w0 w x y s t N M K Gs Gt Ins X vs βs vt βt vi vx L βi bx) {s' t' : Sd} {M' : Nat} {K' : Nat → Prop} {Gs' Gt' Ins' : List El} {vs' vt' : Value} {βs' βt' : Option Nat} (hw : WW w0 w' x y s' t' 0 32 N M' K' Gs' Gt' Ins' X vs' βs' vt' βt') (hk : ∀ k, K k → K' k) (he : ∀ k, K k → w'.heap[k]? = w.heap[k]?) : LS w0 w' x y s' t' N M' K' Gs' Gt' Ins' X vs' βs' vt' βt' vi vx L βi bx := by
  refine ⟨hw, ?_, fun g hg => ⟨hk g (h.ik g hg).1, (h.ik g hg).2⟩, ?_, hk bx h.xk⟩
  · have := h.il
    cases hβ : βi with
    | none => rw [hβ] at this; exact this
    | some g =>
      rw [hβ] at this
      obtain ⟨cap, e, cur, hh, r⟩ := this
      exact ⟨cap, e, cur, (he g (h.ik g hβ).1).trans hh, r⟩
  · obtain ⟨cap, e, cur, hh, r⟩ := h.xl
    exact ⟨cap, e, cur, (he bx h.xk).trans hh, r⟩

theorem Way.at {T : Nat → Prop} {w : World} {a : Option Addr} {n c : Nat} {W : List Pc} (h : Way T w a n c W) (i : Nat) (hi : i < n) : ∃ g off, a = some ⟨g, off, none⟩ ∧ g < w.heap.size ∧ ∃ pc, W[i]? = some pc ∧ ∀ j v, (pcl pc)[j]? = some v → w.cell? ⟨g, off + i * 7 + j, none⟩ = some v := by
  obtain ⟨h1, h2, h3, h4⟩ := h
  rcases h4 with h4 | ⟨g, k, cur, rfl, ht, hg, hl, hc⟩
  · omega
  · have hi' : i < W.length := by omega
    refine ⟨g, k * 7, rfl, block_lt hg, W[i], List.getElem?_eq_getElem hi', fun j v hj => ?_⟩
    have hj7 : j < 7 := by
      have := (List.getElem?_eq_some_iff.1 hj).1
      simpa [pcl] using this
    rw [cell_row hg, List.getElem?_toArray]
    have e := cl_get sz_pcl W i j hi' hj7
    rw [hj, ← hc, List.getElem?_take, if_pos (by omega), List.getElem?_drop] at e
    rw [show k * 7 + i * 7 + j = k * 7 + (i * 7 + j) by omega]
    exact e

theorem WW.see {b1 b2 : Int} (h : WW w0 w x y s t b1 b2 N M K Gs Gt Ins X vs βs vt βt) :
    ∃ z aw cw vg βg, w.cell? ⟨x, 0, none⟩ = some vs ∧ w.cell? ⟨x, 1, none⟩ = some (.pointer (some ⟨z, 0, none⟩)) ∧ w.cell? ⟨x, 4, none⟩ = some (.slice aw s.way.length cw) ∧ w.cell? ⟨x, 6, none⟩ = some vg ∧ x < w.heap.size ∧ SE w βs vs s.d ∧ SE w βg vg Gs ∧ s.way.length ≤ cw ∧ cw ≤ 9223372036854775807 ∧
      ∀ i, i < s.way.length → ∃ g off, aw = some ⟨g, off, none⟩ ∧ g < w.heap.size ∧ ∃ pc, s.way[i]? = some pc ∧ ∀ j v, (pcl pc)[j]? = some v → w.cell? ⟨g, off + i * 7 + j, none⟩ = some v := by
  obtain ⟨T1, T2, ⟨z, aw, nw, cw, vg, βg, c, -⟩, -, -⟩ := h.mem
  have hn := c.wy.1
  subst hn
  exact ⟨z, aw, cw, vg, βg, cell_row c.box _, cell_row c.box _, cell_row c.box _, cell_row c.box _, block_lt c.box, c.te, c.gn, c.wy.2.1, c.wy.2.2.1, fun i hi => c.wy.at i hi⟩
end

end Go.Proofs.YtmbnimlibnheeabDoor
