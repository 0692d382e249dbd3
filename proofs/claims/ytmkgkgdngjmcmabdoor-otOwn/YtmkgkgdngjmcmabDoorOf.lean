/-
  fill; several rows at once.
-/
import Derived.Test.YtmkgkgdngjmcmabDoorPa
import Derived.Test.YtmkgkgdngjmcmabDoorNe
namespace Go.Proofs.YtmkgkgdngjmcmabDoor
open Go.RowKit Go.Lib
set_option linter.unusedVariables false

def fillN (n : Nat) (mark : Int) : List OpE := (List.range n).map fun (i : Nat) => ⟨1, mark, 109, mark, i⟩
def fillP (n : Nat) (mark : Int) : List OpE := fillN n mark ++ [⟨2, mark, 0, mark, 0⟩]

theorem fillN_succ (n : Nat) (mark : Int) : fillN (n + 1) mark = fillN n mark ++ [⟨1, mark, 109, mark, n⟩] := by
  unfold fillN
  rw [List.range_succ, List.map_append]
  rfl
theorem fillN_len (n : Nat) (mark : Int) : (fillN n mark).length = n := by simp [fillN]

/-- The first k marked, the rest as it was. -/
def midP (xs : List OpE) (k : Nat) (mark : Int) : List OpE := fillN k mark ++ xs.drop k

theorem midP_set (xs : List OpE) (k : Nat) (mark : Int) (h : k < xs.length) : (midP xs k mark).set k ⟨1, mark, 109, mark, k⟩ = midP xs (k + 1) mark := by
  unfold midP
  rw [List.drop_eq_getElem_cons h, List.set_append_right _ _ (by rw [fillN_len]; omega), fillN_len, Nat.sub_self, List.set_cons_zero, fillN_succ]
  simp
theorem midP_end (xs : List OpE) (n : Nat) (mark : Int) (h : xs.length = n) : midP xs n mark = fillN n mark := by
  unfold midP
  rw [List.drop_of_length_le (by omega), List.append_nil]

theorem app_one {w : World} {g n cap : Nat} {xs : List OpE} (hR : RowO w g n cap xs) (x : OpE) (hs : n + 1 ≤ 4194304) :
    ∃ g' cg w', (∀ ty, (Builtin.append_ #[24, 24] ty #[.slice (some ⟨g, 0, none⟩) n cap, .slice (some ⟨w.heap.size, 0, none⟩) 1 1]).run Tryd.prog (w.alloc (.cells (opc x).toArray 23)) = .ok (.slice (some ⟨g', 0, none⟩) (n + 1) cg) w') ∧ RowO w' g' (n + 1) cg (xs ++ [x]) ∧ (g' = g ∨ w.heap.size ≤ g') ∧ Fr (· = g) w w' := by
  have F := Fr.alloc (· = g) w (.cells (opc x).toArray 23)
  obtain ⟨g', cg, w', k1, k2, k3, k4⟩ := app_at (w.alloc (.cells (opc x).toArray 23)) g n cap xs [x] (hR.fr (S := fun _ => False) (Fr.alloc _ w _) (fun h => h)) ⟨w.heap.size, 0, none⟩ 1 1 rfl (fun j u hj => by
    rw [add_lit, Nat.zero_add, cell_row (heap_alloc_new _ _), List.getElem?_toArray]
    rw [cO_one] at hj
    exact hj) hs
  refine ⟨g', cg, w', k1, k2, ?_, F.trans k4⟩
  rcases k3 with k3 | k3
  · exact .inl k3
  · exact .inr (by rw [World.size_alloc] at k3; omega)

set_option maxRecDepth 100000 in
set_option maxHeartbeats 4000000 in
/-- fill: the row's places are written, one more behind. -/
theorem fill_any (g n c : Nat) (xs : List OpE) (mark : Int) (w : World) (hR : RowO w g n c xs) (hn : n ≤ 4096) :
    Calls Tryd.prog 13 #[.slice (some ⟨g, 0, none⟩) n c, .int .i64 mark] w fun e w' => ∃ g' c', e = .returned (.slice (some ⟨g', 0, none⟩) (n + 1) c') ∧ RowO w' g' (n + 1) c' (fillP n mark) ∧ (g' = g ∨ w.heap.size ≤ g') ∧ Fr (· = g) w w' := by
  have hc := hR.isO.2.1
  have hc2 := hR.isO.2.2.1
  have hl : Hid (xs.length = n) := hR.isO.1
  have S0 : Hid (RowO w g n c (midP xs 0 mark) ∧ Fr (· = g) w w) := ⟨by simpa [midP, fillN] using hR, Fr.refl _ _⟩
  clear hR
  go_enter Tryd.func13, Tryd.ntmps13
  go_wp2_with fail
  go_loopw [5] (fun i wr => ∃ k : Nat, k ≤ n ∧ i = .int .i64 k ∧ Hid (RowO wr g n c (midP xs k mark) ∧ Fr (· = g) w wr)) (fun i _ => n - (intOf i).toNat)
  case atStart => exact ⟨0, Nat.zero_le _, rfl, S0⟩
  case round =>
    obtain ⟨k, hk, rfl, hr⟩ := hrel
    clear S0
    by_cases hlt : k < n
    · have i1 : (k : Int) < (n : Int) := by omega
      obtain ⟨hR, hF⟩ := hr.out
      have kx : k < xs.length := by have := hl.out; omega
      have jy : k < (midP xs k mark).length := by rw [hR.isO.1]; exact hlt
      obtain ⟨a0, a1, a2, a3, a4⟩ := hR.at k hlt jy
      have f0 := hR.frozen (k * 5)
      have f1 := hR.frozen (k * 5 + 1)
      have f2 := hR.frozen (k * 5 + 2)
      have f3 := hR.frozen (k * 5 + 3)
      have f4 := hR.frozen (k * 5 + 4)
      have Z := hR.set5 k 1 mark 109 mark k hlt
      rw [midP_set xs k mark kx] at Z
      have Z2 : Hid (RowO _ g n c (midP xs (k + 1) mark) ∧ Fr (· = g) w _) := ⟨Z, ((((hF.trans (Fr.setCell _ ⟨g, k * 5, none⟩ (.int .i64 1) rfl)).trans (Fr.setCell _ ⟨g, k * 5 + 1, none⟩ (.int .i64 mark) rfl)).trans (Fr.setCell _ ⟨g, k * 5 + 2, none⟩ (.int .u8 109) rfl)).trans (Fr.setCell _ ⟨g, k * 5 + 3, none⟩ (.int .i64 mark) rfl)).trans (Fr.setCell _ ⟨g, k * 5 + 4, none⟩ (.int .i64 k) rfl)⟩
      clear Z hr hR hF
      generalize (midP xs k mark)[k] = Y at *
      go_wp2
      exact ⟨⟨k + 1, by omega, by go_num, Z2⟩, by simp [intOf]; omega⟩
    · obtain rfl : k = n := by omega
      obtain ⟨hR, hF⟩ := hr.out
      rw [midP_end xs k mark hl.out] at hR
      obtain ⟨g', cg, w', hap, k2, k3, k4⟩ := app_one hR ⟨2, mark, 0, mark, 0⟩ (by omega)
      simp only [opc] at hap
      have R : Hid (RowO w' g' (k + 1) cg (fillP k mark) ∧ (g' = g ∨ w.heap.size ≤ g') ∧ Fr (· = g) w w') := ⟨k2, by have := hF.size; omega, hF.trans k4⟩
      clear hr hR hF k2 k3 k4
      go_wp2_with (at_builtin; refine wpList_append_k _ rfl _ _ 24 24 rfl _ _ rfl rfl (hap _) ?_)
      go_ret
      exact ⟨_, _, rfl, R.out⟩

theorem RowO.front {w : World} {g n c : Nat} {xs : List OpE} {x : OpE} (h : RowO w g (n + 1) c (xs ++ [x])) (hn : xs.length = n) : RowO w g n c xs := by
  obtain ⟨cur, hh, ht, hl, h1, h2, h3⟩ := h
  refine ⟨cur, hh, ?_, hn, by omega, h2, h3⟩
  have := congrArg (List.take (n * 5)) ht
  rw [List.take_take, Nat.min_eq_left (by omega), cO_app, List.take_append_of_le_length (by rw [cO_len, hn]; exact Nat.le_refl _)] at this
  exact this.trans (List.take_of_length_le (by rw [cO_len, hn]; exact Nat.le_refl _))

/-- Rows of the call's own, no two at one block, all from base on. -/
abbrev Ent := Nat × Nat × Nat × List OpE
structure RowsO (base : Nat) (w : World) (l : List Ent) : Prop where
  row : ∀ e ∈ l, RowO w e.1 e.2.1 e.2.2.1 e.2.2.2
  low : ∀ e ∈ l, base ≤ e.1
  nod : (l.map (·.1)).Nodup

theorem RowsO.below {base : Nat} {w w' : World} {l : List Ent} (h : RowsO base w l) (hb : Below w.heap.size w w') : RowsO base w' l :=
  ⟨fun e he => (h.row e he).fr (S := fun _ => False) (Fr.of_below hb) (fun h => h), h.low, h.nod⟩
theorem RowsO.add {base : Nat} {w : World} {l : List Ent} (h : RowsO base w l) {g n c : Nat} {xs : List OpE} (hR : RowO w g n c xs) (hb : base ≤ g) (hf : ∀ e ∈ l, e.1 ≠ g) : RowsO base w ((g, n, c, xs) :: l) :=
  ⟨fun e he => by
    rcases List.mem_cons.mp he with rfl | he
    · exact hR
    · exact h.row e he, fun e he => by
    rcases List.mem_cons.mp he with rfl | he
    · exact hb
    · exact h.low e he, by
    rw [List.map_cons, List.nodup_cons]
    refine ⟨fun hm => ?_, h.nod⟩
    obtain ⟨e, he, e1⟩ := List.mem_map.mp hm
    exact hf e he e1⟩
/-- A row that a call made, behind the others. -/
theorem RowsO.new {base : Nat} {w w' : World} {l : List Ent} (h : RowsO base w l) (hb : Below w.heap.size w w') (hB : base ≤ w.heap.size) {g n c : Nat} {xs : List OpE} (hR : RowO w' g n c xs) (hg : w.heap.size ≤ g) : RowsO base w' ((g, n, c, xs) :: l) :=
  (h.below hb).add hR (Nat.le_trans hB hg) (fun e he => by have := (h.row e he).lt; omega)
theorem RowsO.drop {base : Nat} {w : World} {l : List Ent} {e : Ent} (h : RowsO base w (e :: l)) : RowsO base w l :=
  ⟨fun x hx => h.row x (List.mem_cons_of_mem _ hx), fun x hx => h.low x (List.mem_cons_of_mem _ hx), (List.nodup_cons.mp h.nod).2⟩
/-- One row written over. -/
theorem RowsO.fill {base : Nat} {w w' : World} {l1 l2 : List Ent} {g n c : Nat} {xs : List OpE} (h : RowsO base w (l1 ++ (g, n, c, xs) :: l2)) (hF : Fr (· = g) w w') (hB : base ≤ w.heap.size) {g' n' c' : Nat} {ys : List OpE} (hR : RowO w' g' n' c' ys) (hg : g' = g ∨ w.heap.size ≤ g') :
    RowsO base w' (l1 ++ (g', n', c', ys) :: l2) := by
  have hn := (List.perm_middle (a := g) (l₁ := l1.map (·.1)) (l₂ := l2.map (·.1))).nodup_iff.mp (by have := h.nod; simpa using this)
  have hne : ∀ e, e ∈ l1 ++ l2 → e.1 ≠ g := fun e he hq => (List.nodup_cons.mp hn).1 (by rw [← hq, ← List.map_append]; exact List.mem_map_of_mem he)
  have hmem : ∀ e, e ∈ l1 ++ l2 → e ∈ l1 ++ (g, n, c, xs) :: l2 := fun e he => by
    rcases List.mem_append.mp he with he | he
    · exact List.mem_append_left _ he
    · exact List.mem_append_right _ (List.mem_cons_of_mem _ he)
  have hne' : ∀ e, e ∈ l1 ++ l2 → e.1 ≠ g' := fun e he hq => by
    rcases hg with hg | hg
    · exact hne e he (hq.trans hg)
    · have := (h.row e (hmem e he)).lt; omega
  have hb : base ≤ g := h.low (g, n, c, xs) (by simp)
  have hsp : ∀ e, e ∈ l1 ++ (g', n', c', ys) :: l2 → e = (g', n', c', ys) ∨ e ∈ l1 ++ l2 := fun e he => by
    rcases List.mem_append.mp he with he | he
    · exact .inr (List.mem_append_left _ he)
    · rcases List.mem_cons.mp he with he | he
      · exact .inl he
      · exact .inr (List.mem_append_right _ he)
  refine ⟨fun e he => ?_, fun e he => ?_, ?_⟩
  · rcases hsp e he with rfl | he
    · exact hR
    · exact (h.row e (hmem e he)).fr hF (hne e he)
  · rcases hsp e he with rfl | he
    · show base ≤ g'; omega
    · exact h.low e (hmem e he)
  · rw [List.map_append, List.map_cons]
    refine (List.perm_middle.nodup_iff).mpr (List.nodup_cons.mpr ⟨fun hm => ?_, (List.nodup_cons.mp hn).2⟩)
    rw [← List.map_append] at hm
    obtain ⟨e, he, e1⟩ := List.mem_map.mp hm
    exact hne' e he e1

end Go.Proofs.YtmkgkgdngjmcmabDoor
