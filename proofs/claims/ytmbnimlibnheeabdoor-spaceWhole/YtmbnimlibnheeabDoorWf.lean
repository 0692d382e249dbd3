/-
  SpaceWhole: Find, ordered, within.
-/
import Derived.Test.YtmbnimlibnheeabDoorTg
import Derived.Deep.QuietTactic
import Derived.BigQuiet
import Derived.Laws.StructEq
import Derived.Deep.RegionHeld3
namespace Go.Proofs.YtmbnimlibnheeabDoor
open Go.RowKit Go.Lib
set_option linter.unusedVariables false

def findP (cl sq : Int) : List El → Nat → Int
  | [], _ => -1
  | x :: xs, k => if x.2.1 = cl ∧ x.2.2 = sq then (k : Int) else findP cl sq xs (k + 1)

theorem findP_at {cl sq : Int} {xs : List El} {k : Nat} (hk : k < xs.length) : findP cl sq (xs.drop k) k = if xs[k].2.1 = cl ∧ xs[k].2.2 = sq then (k : Int) else findP cl sq (xs.drop (k + 1)) (k + 1) := by
  rw [List.drop_eq_getElem_cons hk]
  rfl
theorem findP_end {cl sq : Int} {xs : List El} {k : Nat} (hk : k = xs.length) : findP cl sq (xs.drop k) k = -1 := by
  rw [hk, List.drop_length]
  rfl

/-- The elements that both have stand in the same order in both; all of b are of unlike edits. -/
def Ord (a b : List El) : Prop := (b.map (·.2)).Nodup ∧ (∀ x ∈ a, ∀ y ∈ b, x.2 = y.2 → x = y) ∧ (a.filter (fun x => decide (x ∈ b))).Sublist b

theorem sub_at {x : El} {l b : List El} (h : (x :: l).Sublist b) : ∃ k : Nat, b[k]? = some x ∧ l.Sublist (b.drop (k + 1)) := by
  induction b with
  | nil => cases h
  | cons y b ih =>
    cases h with
    | cons _ h' =>
      obtain ⟨k, h1, h2⟩ := ih h'
      exact ⟨k + 1, by simpa using h1, by simpa using h2⟩
    | cons_cons _ h' => exact ⟨0, rfl, by simpa using h'⟩

theorem findP_none {cl sq : Int} : ∀ {ys : List El} {k : Nat}, (∀ y ∈ ys, ¬ (y.2.1 = cl ∧ y.2.2 = sq)) → findP cl sq ys k = -1
  | [], _, _ => rfl
  | y :: ys, k, h => by
    unfold findP
    rw [if_neg (h y List.mem_cons_self)]
    exact findP_none (fun z hz => h z (List.mem_cons_of_mem _ hz))

theorem findP_some {cl sq : Int} : ∀ {ys : List El} {k j : Nat} {y : El}, (ys.map (·.2)).Nodup → ys[j]? = some y → y.2 = (cl, sq) → findP cl sq ys k = ((k + j : Nat) : Int)
  | [], _, _, _, _, h, _ => by simp at h
  | z :: ys, k, 0, y, _, h, e => by
    simp at h
    subst h
    unfold findP
    rw [if_pos (by rw [e]; exact ⟨rfl, rfl⟩)]
    rfl
  | z :: ys, k, j + 1, y, hn, h, e => by
    rw [List.map_cons, List.nodup_cons] at hn
    have hy : ys[j]? = some y := by simpa using h
    have hmem : y ∈ ys := List.mem_of_getElem? hy
    unfold findP
    rw [if_neg, findP_some hn.2 hy e]
    · congr 1; omega
    · rintro ⟨e1, e2⟩
      exact hn.1 (List.mem_map.2 ⟨y, hmem, by rw [e]; exact (Prod.ext e1 e2).symm⟩)

/-- What holds in the loop of ordered: last is m - 1. -/
def ORel (xs ys : List El) (i m : Nat) : Prop := ((xs.drop i).filter (fun x => decide (x ∈ ys))).Sublist (ys.drop m)

/-- One element more: it is not there, or it is behind all before. -/
theorem ORel.step {xs ys : List El} {i m : Nat} (hO : Ord xs ys) (h : ORel xs ys i m) (hi : i < xs.length) :
    (findP xs[i].2.1 xs[i].2.2 ys 0 = -1 ∧ ORel xs ys (i + 1) m) ∨ (∃ k : Nat, findP xs[i].2.1 xs[i].2.2 ys 0 = (k : Int) ∧ m ≤ k ∧ ys[k]? = some xs[i] ∧ ORel xs ys (i + 1) (k + 1)) := by
  obtain ⟨h1, h2, h3⟩ := hO
  unfold ORel at h
  rw [List.drop_eq_getElem_cons hi, List.filter_cons] at h
  by_cases hm : xs[i] ∈ ys
  · rw [if_pos (decide_eq_true hm)] at h
    obtain ⟨k, hk1, hk2⟩ := sub_at h
    rw [List.getElem?_drop] at hk1
    rw [List.drop_drop] at hk2
    refine .inr ⟨m + k, ?_, by omega, hk1, ?_⟩
    · have := findP_some (k := 0) h1 hk1 (cl := xs[i].2.1) (sq := xs[i].2.2) rfl
      rw [Nat.zero_add] at this
      exact this
    · unfold ORel
      rw [show m + k + 1 = m + (k + 1) by omega]
      exact hk2
  · rw [if_neg (by simpa using hm)] at h
    refine .inl ⟨findP_none (fun y hy e => ?_), h⟩
    have : xs[i] = y := h2 _ (List.getElem_mem hi) y hy (Prod.ext e.1.symm e.2.symm)
    exact hm (this ▸ hy)

set_option maxRecDepth 100000 in
set_option maxHeartbeats 4000000 in
theorem find_any (a : Option Addr) (n c : Nat) (cl sq : Int) (xs : List El) (w : World) (hE : IsE w a n c xs) :
    Calls Tryd.prog 24 #[.slice a n c, .int .i64 cl, .int .i64 sq] w fun e w' => e = .returned (.int .i64 (findP cl sq xs 0)) ∧ Below w.heap.size w w' := by
  have HE := hd hE
  have HL := hd hE.1
  have hc : n ≤ 9223372036854775807 := by have := hE.2.1; have := hE.2.2.1; omega
  clear hE
  go_enter Tryd.func24, Tryd.ntmps24
  go_wp2
  go_loopw [11] (fun i wr => ∃ k : Nat, k ≤ n ∧ i = .int .i64 k ∧ Hid (findP cl sq xs 0 = findP cl sq (xs.drop k) k) ∧ Hid (Below w.heap.size w wr)) (fun i _ => n - (intOf i).toNat)
  case atStart => exact ⟨0, Nat.zero_le _, rfl, (rfl : _ = _), Below.refl _ _⟩
  case round =>
    obtain ⟨k, hk, rfl, hr, hB⟩ := hrel
    by_cases hlt : k < n
    · have kx : k < xs.length := by have := HL.out; omega
      have HE2 := HE.out.below hB.out
      obtain ⟨b, off, rfl, hb⟩ := HE2.addr (by omega)
      obtain ⟨e0, e1, e2⟩ := HE2.at k hlt kx
      have FA := hd (hr.out.trans (findP_at kx))
      generalize xs[k] = X at *
      obtain ⟨x0, x1, x2⟩ := X
      simp only [] at e0 e1 e2 FA
      have i1 : (k : Int) < (n : Int) := by omega
      have B2 : Hid (Below w.heap.size w (wr.alloc (.cells #[.int .u8 x0, .int .i64 x1, .int .i64 x2] 41))) := hB.out.alloc hB.out.size _
      clear hr hB HE2
      by_cases t1 : x1 = cl
      · by_cases t2 : x2 = sq
        · have R : Hid (findP cl sq xs 0 = (k : Int)) := by rw [FA.out, if_pos ⟨t1, t2⟩]; exact (rfl : _ = _)
          subst t1 t2
          clear FA
          go_wp2
          go_ret
          exact ⟨by rw [R.out]; rfl, B2.out⟩
        · have R : Hid (findP cl sq xs 0 = findP cl sq (xs.drop (k + 1)) (k + 1)) := by rw [FA.out, if_neg (fun h => t2 h.2)]; exact (rfl : _ = _)
          have t3 : (x2 == sq) = false := by simpa using t2
          subst t1
          clear FA
          go_wp2
          exact ⟨⟨k + 1, by omega, by go_num, R, B2⟩, by simp [intOf]; omega⟩
      · have R : Hid (findP cl sq xs 0 = findP cl sq (xs.drop (k + 1)) (k + 1)) := by rw [FA.out, if_neg (fun h => t1 h.1)]; exact (rfl : _ = _)
        have t3 : (x1 == cl) = false := by simpa using t1
        clear FA
        go_wp2
        exact ⟨⟨k + 1, by omega, by go_num, R, B2⟩, by simp [intOf]; omega⟩
    · obtain rfl : k = n := by omega
      have R : Hid (findP cl sq xs 0 = -1) := by rw [hr.out, findP_end HL.out.symm]; exact (rfl : _ = _)
      clear hr
      go_wp2
      go_ret
      exact ⟨by rw [R.out]; rfl, hB.out⟩

theorem IsE.heap {w w' : World} {a : Option Addr} {n c : Nat} {xs : List El} (h : IsE w a n c xs) (e : w'.heap = w.heap) : IsE w' a n c xs := by
  obtain ⟨h1, h2, h3, h4⟩ := h
  refine ⟨h1, h2, h3, fun hn => ?_⟩
  obtain ⟨b, off, ea, hlt, hc⟩ := h4 hn
  refine ⟨b, off, ea, by rw [e]; exact hlt, fun j v hj => ?_⟩
  rw [World.cell?_of_block (w := w) (by rw [e])]
  exact hc j v hj

set_option maxRecDepth 100000 in
set_option maxHeartbeats 8000000 in
theorem ordered_any (a b : Option Addr) (n c m d : Nat) (xs ys : List El) (w : World) (hx : IsE w a n c xs) (hy : IsE w b m d ys) (hO : Ord xs ys) :
    Calls Tryd.prog 10 #[.slice a n c, .slice b m d] w fun e w' => e = .returned (.bool true) ∧ Below w.heap.size w w' := by
  have hn : n ≤ 9223372036854775807 := by have := hx.2.1; have := hx.2.2.1; omega
  have hm : m ≤ 9223372036854775807 := by have := hy.2.1; have := hy.2.2.1; omega
  have LX := hd hx.1
  have LY := hd hy.1
  have HX := hd hx
  have HY := hd hy
  have HO := hd hO
  have S0 : Hid (ORel xs ys 0 0) := by
    show List.Sublist _ _
    simpa using hO.2.2
  clear hx hy hO
  go_enter Tryd.func10, Tryd.ntmps10
  go_wp2
  go_loopw [5, 6] (fun last i wr => ∃ k q : Nat, k ≤ n ∧ q ≤ m ∧ i = .int .i64 k ∧ last = .int .i64 ((q : Int) - 1) ∧ Hid (ORel xs ys k q) ∧ Hid (Below w.heap.size w wr)) (fun _ i _ => n - (intOf i).toNat)
  case atStart => exact ⟨0, 0, Nat.zero_le _, Nat.zero_le _, rfl, rfl, S0, Below.refl _ _⟩
  case round =>
    obtain ⟨k, q, hk, hq, rfl, rfl, hR, hB⟩ := hrel
    clear S0
    by_cases hlt : k < n
    · have kx : k < xs.length := by have := LX.out; omega
      have X2 := HX.out.below hB.out
      obtain ⟨b1, o1, rfl, l1⟩ := X2.addr (by omega)
      obtain ⟨x0, x1, x2⟩ := X2.at k hlt kx
      have i1 : (k : Int) < (n : Int) := by omega
      have ST := hd (hR.out.step HO.out kx)
      generalize xs[k] = X at *
      obtain ⟨xc, xl, xq⟩ := X
      simp only [] at x0 x1 x2 ST
      have Y2 := hd (HY.out.below hB.out)
      have HB := hd hB.out
      clear hR hB X2 kx
      go_wp2_with fail
      go_region_held3 (fun W => W.cell? ⟨b1, o1 + k * 3 + 1, none⟩ = some (.int .i64 xl) ∧ W.cell? ⟨b1, o1 + k * 3 + 2, none⟩ = some (.int .i64 xq)) (first | go_keep | (exact ⟨by assumption, by assumption⟩)) (first | (go_at_call 24; refine (find_any b m d xl xq ys _ (Y2.out.heap ?_)).mono ?_; exact rfl; rintro e w5 ⟨rfl, b5⟩; have q0 := (b5.cell (p := ⟨b1, o1 + k * 3, none⟩) l1).trans x0; have q1 := (b5.cell (p := ⟨b1, o1 + k * 3 + 1, none⟩) l1).trans x1; have q2 := (b5.cell (p := ⟨b1, o1 + k * 3 + 2, none⟩) l1).trans x2; have Y5 := hd ((Y2.out.heap (w' := wr.drew) rfl).below b5); have B5 := hd (HB.out.trans (((below_drewN (Below.refl wr.heap.size wr) 1).trans b5).mono HB.out.size)); clear b5 x0 x1 x2 HB Y2))
      rcases ST.out with ⟨hf, hR2⟩ | ⟨kk, hf, hqk, hat, hR2⟩
      · rw [hf]
        have R2 : Hid (ORel xs ys (k + 1) q) := hR2
        clear ST hf hR2
        go_wp2
        exact ⟨⟨k + 1, q, by omega, hq, by go_num, rfl, R2, by first | exact below_drewN B5.out _ | exact B5.out⟩, by simp [intOf]; omega⟩
      · rw [hf]
        have hkm : kk < ys.length := (List.getElem?_eq_some_iff.1 hat).1
        have hel : ys[kk] = (xc, xl, xq) := (List.getElem?_eq_some_iff.1 hat).2
        have hkm2 : kk < m := by have := LY.out; omega
        obtain ⟨b2, o2, rfl, l2⟩ := Y5.out.addr (by omega)
        obtain ⟨y0, y1, y2⟩ := Y5.out.at kk hkm2 hkm
        rw [hel] at y0 y1 y2
        simp only [] at y0 y1 y2
        have R2 : Hid (ORel xs ys (k + 1) (kk + 1)) := hR2
        clear ST hf hR2 hat hel hkm
        have j2 : (kk : Int) ≥ 0 := by omega
        have j3 : decide ((kk : Int) ≤ (q : Int) - 1) = false := decide_eq_false (by omega)
        have j4 : ¬ (kk : Int) ≤ (q : Int) - 1 := by omega
        go_wp2
        exact ⟨⟨k + 1, kk + 1, by omega, by omega, by go_num, by simp, R2, by first | exact below_drewN B5.out _ | exact B5.out⟩, by simp [intOf]; omega⟩
    · go_wp2
      go_ret
      exact ⟨rfl, hB.out⟩


theorem mem_drop_cons {xs : List El} {k : Nat} (hk : k < xs.length) (x : El) : x ∈ xs.drop k ↔ x = xs[k] ∨ x ∈ xs.drop (k + 1) := by
  rw [List.drop_eq_getElem_cons hk, List.mem_cons]

set_option maxRecDepth 100000 in
set_option maxHeartbeats 4000000 in
theorem in_any (v : Value) (β : Option Nat) (xs : List El) (ch cl sq : Int) (w : World) (hv : SE w β v xs) :
    Calls Tryd.prog 9 #[v, .agg #[.int .u8 ch, .int .i64 cl, .int .i64 sq]] w fun e w' => e = .returned (.bool (decide ((ch, cl, sq) ∈ xs))) ∧ Below w.heap.size w w' := by
  obtain ⟨a, c, rfl, hE, -⟩ := hv.form
  obtain ⟨n, hn⟩ : ∃ n, n = xs.length := ⟨_, rfl⟩
  rw [← hn] at hE ⊢
  have hc := hE.2.1
  have hc' := hE.2.2.1
  have HL := hd hE.1
  have b1 : Below w.heap.size w (w.alloc (.cells #[.int .u8 ch, .int .i64 cl, .int .i64 sq] 41)) := (Below.refl _ _).alloc (Nat.le_refl _) _
  have x0 : (w.alloc (.cells #[.int .u8 ch, .int .i64 cl, .int .i64 sq] 41)).heap[w.heap.size]? = some (.cells #[.int .u8 ch, .int .i64 cl, .int .i64 sq] 41 (0, 0)) := heap_alloc_new _ _
  have HE := hd (hE.below b1)
  have HB := hd b1
  have HX := hd x0
  have HZ := hd hn
  clear hn hE hv
  go_enter Tryd.func9, Tryd.ntmps9
  go_wp2
  clear b1 x0
  obtain ⟨W1, hW1⟩ : ∃ W1, W1 = w.alloc (.cells #[.int .u8 ch, .int .i64 cl, .int .i64 sq] 41) := ⟨_, rfl⟩
  simp only [← hW1] at HE HB HX ⊢
  obtain ⟨p, hp⟩ : ∃ p, p = w.heap.size := ⟨_, rfl⟩
  simp only [← hp] at HX ⊢
  clear hW1 hp
  go_loopw [5] (fun i wr => ∃ k m : Nat, k ≤ n ∧ i = .int .i64 k ∧ Hid ((ch, cl, sq) ∈ xs ↔ (ch, cl, sq) ∈ xs.drop k) ∧ wr = W1.drewN m) (fun i _ => n - (intOf i).toNat)
  case atStart => exact ⟨0, 0, Nat.zero_le _, rfl, (by simp : _ ↔ _), rfl⟩
  case round =>
    obtain ⟨k, m, hk, rfl, hr, rfl⟩ := hrel
    by_cases hlt : k < n
    · have kx : k < xs.length := by have := HL.out; omega
      obtain ⟨b1, o1, rfl, -⟩ := HE.out.addr (by omega)
      obtain ⟨e0, e1, e2⟩ := HE.out.at k hlt kx
      have i1 : (k : Int) < (n : Int) := by omega
      have FA := hd (hr.out.trans (mem_drop_cons kx _))
      generalize xs[k] = X at *
      obtain ⟨xa, xb, xc⟩ := X
      simp only [] at e0 e1 e2 FA
      have f0 : W1.cell? ⟨p, 0, none⟩ = some (.int .u8 ch) := by rw [cell_row HX.out]; rfl
      have f1 : W1.cell? ⟨p, 1, none⟩ = some (.int .i64 cl) := by rw [cell_row HX.out]; rfl
      have f2 : W1.cell? ⟨p, 2, none⟩ = some (.int .i64 sq) := by rw [cell_row HX.out]; rfl
      have ZB : Hid (∀ m, Below w.heap.size w (W1.drewN m)) := fun m => below_drewN HB.out m
      clear hr
      by_cases t1 : xb = cl
      · by_cases t2 : xc = sq
        · by_cases t3 : xa = ch
          · subst t1 t2 t3
            have R : Hid (decide ((xa, xb, xc) ∈ xs) = true) := decide_eq_true (FA.out.2 (.inl rfl))
            clear FA
            go_wp2
            go_quiet (fail)
            go_wp2
            go_ret
            exact ⟨by rw [R.out]; rfl, below_drewN (ZB.out _) _⟩
          · subst t1 t2
            have R : Hid ((ch, xb, xc) ∈ xs ↔ (ch, xb, xc) ∈ xs.drop (k + 1)) := FA.out.trans ⟨fun h => h.resolve_left (fun h => t3 (by injection h with h; exact h.symm)), .inr⟩
            have t4 : (xa == ch) = false := by simpa using t3
            clear FA
            go_wp2
            go_quiet (fail)
            go_wp2
            exact ⟨⟨k + 1, _, by omega, by go_num, R, rfl⟩, by simp [intOf]; omega⟩
        · subst t1
          have R : Hid ((ch, xb, sq) ∈ xs ↔ (ch, xb, sq) ∈ xs.drop (k + 1)) := FA.out.trans ⟨fun h => h.resolve_left (fun h => t2 (by injection h with h1 h2; injection h2 with h2 h3; exact h3.symm)), .inr⟩
          have t4 : (xc == sq) = false := by simpa using t2
          clear FA
          go_wp2
          go_quiet (fail)
          go_wp2
          exact ⟨⟨k + 1, _, by omega, by go_num, R, rfl⟩, by simp [intOf]; omega⟩
      · have R : Hid ((ch, cl, sq) ∈ xs ↔ (ch, cl, sq) ∈ xs.drop (k + 1)) := FA.out.trans ⟨fun h => h.resolve_left (fun h => t1 (by injection h with h1 h2; injection h2 with h2 h3; exact h2.symm)), .inr⟩
        have t4 : (xb == cl) = false := by simpa using t1
        clear FA
        go_wp2
        go_quiet (fail)
        go_wp2
        exact ⟨⟨k + 1, _, by omega, by go_num, R, rfl⟩, by simp [intOf]; omega⟩
    · obtain rfl : k = n := by omega
      have R : Hid (decide ((ch, cl, sq) ∈ xs) = false) := decide_eq_false (fun h => by have := hr.out.1 h; rw [HZ.out] at this; simp at this)
      have ZB : Hid (∀ m, Below w.heap.size w (W1.drewN m)) := fun m => below_drewN HB.out m
      clear hr
      go_wp2
      go_ret
      exact ⟨by rw [R.out]; rfl, ZB.out _⟩

end Go.Proofs.YtmbnimlibnheeabDoor
